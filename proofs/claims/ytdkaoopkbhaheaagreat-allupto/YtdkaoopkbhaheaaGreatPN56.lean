import Derived.Test.YtdkaoopkbhaheaaGreatPP54
import Derived.Test.YtdkaoopkbhaheaaGreatPN25
import Derived.Test.YtdkaoopkbhaheaaGreatPN46
import Derived.Test.YtdkaoopkbhaheaaGreatQH5
import Derived.Deep.DeepCutAuto
import Derived.Test.YtdkaoopkbhaheaaGreatQN50
set_option maxHeartbeats 8000000
namespace Go.Proofs.YtdkaoopkbhaheaaGreat
open Go.RowKit Go.Lib
open Jor
open scoped Classical
set_option linter.unusedVariables false
set_option linter.unusedSimpArgs false
set_option maxRecDepth 100000 in
theorem mbeside_bad (x0 x2 : Value) (gT n cT : Nat) (k : Int) (w : World) (hk : k < 0 \/ (n : Int) <= k) :
  Calls Tryz.prog 46 #[.agg #[x0,.slice (some ⟨gT,0,none⟩) n cT,x2],.int .i64 k] w fun e w' => e = .returned (.tuple #[.agg #[.int .i64 0,.int .i64 0,.int .i64 0],.int .i64 8]) /\ Below w.heap.size w w' := by
 have fin : Below w.heap.size w ((w.alloc (.cells #[x0,.slice (some ⟨gT,0,none⟩) n cT,x2] 81)).alloc (.cells #[.int .i64 0,.int .i64 0,.int .i64 0] 53)) := ((Below.refl _ _).alloc (Nat.le_refl _) _).alloc (by simp) _
 rcases hk with hk | hk
 ·go_enter Tryz.func46,Tryz.ntmps46
  go_wp2
  exact bodyPost_ret (v := .tuple #[.agg #[.int .i64 0,.int .i64 0,.int .i64 0],.int .i64 8]) (by simp [results,Tryz.results46,go_sem]) rfl ⟨rfl,fin⟩
 ·have hk0 : ¬ k < 0 := by omega
  go_enter Tryz.func46,Tryz.ntmps46
  go_wp2
  exact bodyPost_ret (v := .tuple #[.agg #[.int .i64 0,.int .i64 0,.int .i64 0],.int .i64 8]) (by simp [results,Tryz.results46,go_sem]) rfl ⟨rfl,fin⟩
theorem fbeside_bad (B bM : Nat) (rs : List (List IP)) (T : List T3) (F : Nat -> Nat -> Option Int) (k : Int) (w : World) (hT : T.length <= 1048576) (h0 : 0 < T.length) (hk : k < 0 \/ (T.length : Int) <= k) (hM : MeshP B w rs bM T F) :
  Calls Tryz.prog 25 #[.pointer (some ⟨bM,0,none⟩),.int .i64 k] w fun e w' => e = .returned (.tuple #[.agg #[.int .i64 0,.int .i64 0,.int .i64 0],.int .i64 8]) /\ Below w.heap.size w w' := by
 obtain ⟨_,⟨g,c',y,bl,L,h2,h3,h4⟩,h5,h6⟩ := hM
 obtain ⟨gT,cT,rfl⟩ : ∃ gT cT,y = .slice (some ⟨gT,0,none⟩) T.length cT := by
  rcases h3.row.2 with ⟨_,h⟩ | ⟨b,c2,_,h,h2,_⟩
  ·omega
  ·exact ⟨b,c2,h⟩
 have hb0 : Below w.heap.size w (w.alloc (.cells #[.int .i64 0,.int .i64 0,.int .i64 0] 53)) := (Below.refl _ _).alloc (Nat.le_refl _) _
 clear h3 h4 h5 h6
 have h2' := (hb0.block _ (Array.getElem?_eq_some_iff.1 h2).1).trans h2
 have c0 : (w.alloc (.cells #[.int .i64 0,.int .i64 0,.int .i64 0] 53)).cell? ⟨bM,0,none⟩ = some (Value.slice (some ⟨g,0,none⟩) (verts rs).length c') := by simp only [World.cell?,h2']; simp
 have c1 : (w.alloc (.cells #[.int .i64 0,.int .i64 0,.int .i64 0] 53)).cell? ⟨bM,1,none⟩ = some (.slice (some ⟨gT,0,none⟩) T.length cT) := by simp only [World.cell?,h2']; simp
 have c2 : (w.alloc (.cells #[.int .i64 0,.int .i64 0,.int .i64 0] 53)).cell? ⟨bM,2,none⟩ = some (.map (some bl)) := by simp only [World.cell?,h2']; simp
 have HN : Hid ((w.alloc (.cells #[.int .i64 0,.int .i64 0,.int .i64 0] 53)).heap[w.heap.size]? = some (.cells #[.int .i64 0,.int .i64 0,.int .i64 0] 53)) := heap_alloc_new _ _
 have HB0 : Hid (Below w.heap.size w (w.alloc (.cells #[.int .i64 0,.int .i64 0,.int .i64 0] 53))) := hb0
 clear h2 h2' hb0
 go_enter Tryz.func25,Tryz.ntmps25
 go_wp2_with (go_at_call 46; refine (mbeside_bad _ _ gT T.length cT k _ hk).mono ?_; rintro e w1 ⟨rfl,h1⟩; have n1 := (h1.block w.heap.size (by simp)).trans HN.out; have N1 : Hid (w1.heap[w.heap.size]? = some (.cells #[.int .i64 0,.int .i64 0,.int .i64 0] 53)) := n1; have f0 : w1.cell? ⟨w.heap.size,0,none⟩ = some (.int .i64 0) := (by simp [World.cell?,n1]); have f1 : w1.cell? ⟨w.heap.size,1,none⟩ = some (.int .i64 0) := (by simp [World.cell?,n1]); have f2 : w1.cell? ⟨w.heap.size,2,none⟩ = some (.int .i64 0) := (by simp [World.cell?,n1]); have g0 : ∀ o,w1.frozen? ⟨w.heap.size,o,none⟩ = false := (fun o => by simp [World.frozen?,n1]); clear n1)
 have B2 := below_then HB0.out h1
 have S1 := stored_block (o := 0) (v := .int .i64 0) N1.out
 have S2 := stored_block (o := 1) (v := .int .i64 0) S1
 have S3 := stored_block (o := 2) (v := .int .i64 0) S2
 have BZ := ((B2.setCell (p := ⟨w.heap.size,0,none⟩) (by simp) (.int .i64 0)).setCell (p := ⟨w.heap.size,1,none⟩) (by simp) (.int .i64 0)).setCell (p := ⟨w.heap.size,2,none⟩) (by simp) (.int .i64 0)
 have HS3 : Hid ((((w1.setCell ⟨w.heap.size,0,none⟩ (.int .i64 0)).setCell ⟨w.heap.size,1,none⟩ (.int .i64 0)).setCell ⟨w.heap.size,2,none⟩ (.int .i64 0)).heap[w.heap.size]? = some (.cells #[.int .i64 0,.int .i64 0,.int .i64 0] 53)) := by
  rw [Hid,S3]; simp
 clear S1 S2 S3
 generalize (((w1.setCell ⟨w.heap.size,0,none⟩ (.int .i64 0)).setCell ⟨w.heap.size,1,none⟩ (.int .i64 0)).setCell ⟨w.heap.size,2,none⟩ (.int .i64 0)) = Wz at *
 have z0 : Wz.cell? ⟨w.heap.size,0,none⟩ = some (.int .i64 0) := by simp [World.cell?,HS3.out]
 have z1 : Wz.cell? ⟨w.heap.size,1,none⟩ = some (.int .i64 0) := by simp [World.cell?,HS3.out]
 have z2 : Wz.cell? ⟨w.heap.size,2,none⟩ = some (.int .i64 0) := by simp [World.cell?,HS3.out]
 exact bodyPost_ret (v := .tuple #[.agg #[.int .i64 0,.int .i64 0,.int .i64 0],.int .i64 8]) (by simp [results,Tryz.results25,go_sem,z0,z1,z2]) rfl ⟨rfl,BZ⟩
set_option maxRecDepth 100000 in
theorem xbeside_any {base : Nat} {W w : World} {x : Nat} {own : Int} {a : Option Addr} {cap : Nat} {rs : List (List IP)} {T : List T3} {F : Nat -> Nat -> Option Int} {bM g cg bt ct : Nat} {lv : Value} {LS : List Value} (G : Good rs) (X : XM base W w x own a cap rs T F bM g cg bt ct lv LS) (hWw : W.heap.size <= w.heap.size) (k : Int) :
  Calls Tryz.prog 9 #[.pointer (some ⟨x,0,none⟩),.int .i64 k] w fun e w' => e = .returned (.bool true) /\ Below w.heap.size w w' := by
 have hv0 := G.pos
 have h64 := G.few
 have h8 := G.eight
 obtain ⟨f1,f2,_,f4,_⟩ := mesh_facts G X.mesh
 have hT : T.length <= 1048576 := by omega
 obtain ⟨x0,_,_,_,x4,_⟩ := X.cells
 have HM : Hid (MeshP base w rs bM T F) := X.mesh' hv0
 have HT : Hid (TriAt w bt T) := X.tri
 have hq := run_same3 0 0 0 0 0 0
 have H64 : Hid (∀ t ∈ T,t.1 < 64 /\ t.2.1 < 64 /\ t.2.2 < 64) := fun t ht => by have := f4 t ht; omega
 by_cases hk : k < 0 \/ (T.length : Int) <= k
 ·clear f1 f4 X
  go_enter Tryz.func9,Tryz.ntmps9
  go_upto_region 2 with (first | (go_at_call 25; refine (fbeside_bad _ _ _ _ _ k _ hT f2 hk HM.out).mono ?_; rintro e w1 ⟨rfl,hb1⟩))
  have x4' := cell_later (below_then hb1 ((Below.refl _ _).alloc (Nat.le_refl _) (.cells #[.int .i64 0,.int .i64 0,.int .i64 0] 53))) x4
  have hbz := below_then hb1 ((Below.refl _ _).alloc (Nat.le_refl _) (.cells #[.int .i64 0,.int .i64 0,.int .i64 0] 53))
  rcases hk with hk | hk
  ·go_wp2_with (go_at_call 20; refine (num_any _ _).mono ?_; rintro e w9 ⟨rfl,hw9⟩; rw [hw9]; clear hw9 w9)
   go_ret
   exact ⟨by simp,hbz⟩
  ·have hk0 : ¬ k < 0 := by omega
   go_wp2_with (go_at_call 20; refine (num_any _ _).mono ?_; rintro e w9 ⟨rfl,hw9⟩; rw [hw9]; clear hw9 w9)
   go_ret
   exact ⟨by simp,hbz⟩
 ·obtain ⟨n,rfl⟩ : ∃ n : Nat,k = n := ⟨k.toNat,by omega⟩
  have hn : n < T.length := by omega
  have n0 : ¬ (n : Int) < 0 := by omega
  have n1 : ¬ (T.length : Int) <= (n : Int) := by omega
  have n2 : (0 : Int) <= (n : Int) := by omega
  have n3 : (n : Int) < (T.length : Int) := by omega
  have ON : Hid (Once T) := by
   obtain ⟨_,⟨_,_,_,_,L,_,_,I⟩,hs,hm⟩ := X.mesh
   exact once_of hs hm I
  have RG : Hid (∀ p q,(lfv T q p).1 = rgt (leftF T T.length) p q) := fun p q => by
   obtain ⟨_,⟨_,_,_,_,L,_,_,I⟩,hs,hm⟩ := X.mesh
   exact (lfv_ok T q p).rgt hs hm I
  have LF : Hid (∀ (p q : Nat) (z : World),Below w.heap.size w z -> Calls Tryz.prog 26 #[.pointer (some ⟨x,0,none⟩),.int .i64 (q : Int),.int .i64 (p : Int)] z fun e w' => e = .returned (.tuple #[.int .i64 (rgt (leftF T T.length) p q),.int .i64 (lfv T q p).2]) /\ Below z.heap.size z w') := fun p q z hz => by
   have := xleft_any x bt ct T q p z hT ON.out (cell_later hz x4) (TriAt.later hz HT.out)
   rw [RG.out p q] at this
   exact this
  obtain ⟨t0,t1,t2⟩ := HT.out n hn
  have BC : Hid (Calls Tryz.prog 25 #[.pointer (some ⟨bM,0,none⟩),.int .i64 (n : Int)] w fun e w' => e = .returned (.tuple #[.agg #[.int .i64 (rgt (leftF T T.length) (T.getD n (0,0,0)).1 (T.getD n (0,0,0)).2.1),.int .i64 (rgt (leftF T T.length) (T.getD n (0,0,0)).2.1 (T.getD n (0,0,0)).2.2),.int .i64 (rgt (leftF T T.length) (T.getD n (0,0,0)).2.2 (T.getD n (0,0,0)).1)],.int .i64 0]) /\ Below w.heap.size w w') := fbeside_any _ _ rs T F n _ hT hn H64.out HM.out
  clear f1 f4 X hq hk
  generalize (T.getD n (0,0,0)).1 = p0 at *
  generalize (T.getD n (0,0,0)).2.1 = p1 at *
  generalize (T.getD n (0,0,0)).2.2 = p2 at *
  have L0 : Hid _ := LF.out p0 p1
  have L1 : Hid _ := LF.out p1 p2
  have L2 : Hid _ := LF.out p2 p0
  clear LF RG
  generalize rgt (leftF T T.length) p0 p1 = r0 at *
  generalize rgt (leftF T T.length) p1 p2 = r1 at *
  generalize rgt (leftF T T.length) p2 p0 = r2 at *
  go_enter Tryz.func9,Tryz.ntmps9
  go_upto_region 2 with (first | (go_at_call 25; refine BC.out.mono ?_; rintro e w1 ⟨rfl,hb1⟩))
  have b2 : Below w1.heap.size w1 (w1.alloc (.cells #[.int .i64 r0,.int .i64 r1,.int .i64 r2] 53)) := (Below.refl _ _).alloc (Nat.le_refl _) _
  have hb2 := below_then hb1 b2
  have B2 : (w1.alloc (.cells #[.int .i64 r0,.int .i64 r1,.int .i64 r2] 53)).heap[w1.heap.size]? = some (.cells #[.int .i64 r0,.int .i64 r1,.int .i64 r2] 53) := heap_alloc_new _ _
  clear b2 hb1
  generalize (w1.alloc (.cells #[.int .i64 r0,.int .i64 r1,.int .i64 r2] 53)) = w2 at *
  have g0 : w2.cell? ⟨w1.heap.size,0,none⟩ = some (.int .i64 r0) := by simp [World.cell?,B2]
  have g1 : w2.cell? ⟨w1.heap.size,1,none⟩ = some (.int .i64 r1) := by simp [World.cell?,B2]
  have g2 : w2.cell? ⟨w1.heap.size,2,none⟩ = some (.int .i64 r2) := by simp [World.cell?,B2]
  have y4 := cell_later hb2 x4
  have z0 := cell_later hb2 t0
  have z1 := cell_later hb2 t1
  have z2 := cell_later hb2 t2
  go_wp2
  go_loopw [7,8,9] (fun y _ _ wq => ∃ m : Nat,m <= 3 /\ y = .int .i64 m /\ Below w2.heap.size w2 wq) (fun y _ _ _ => 3 - (intOf y).toNat)
  case atStart => exact ⟨0,by omega,rfl,Below.refl _ _⟩
  case round =>
   obtain ⟨m,hm,rfl,hbq⟩ := hrel
   have v4 := cell_later hbq y4
   have v0 := cell_later hbq z0
   have v1 := cell_later hbq z1
   have v2 := cell_later hbq z2
   have u0 := cell_later hbq g0
   have u1 := cell_later hbq g1
   have u2 := cell_later hbq g2
   rcases (show m = 0 \/ m = 1 \/ m = 2 \/ m = 3 by omega) with rfl | rfl | rfl | rfl
   ·go_upto_region 7 with fail
    refine wp_region_cls (R := Below wr.heap.size wr) (by kernel_rfl) (by kernel_rfl) (Below.refl _ _).drew ?_
    have inst : Nonempty (Cls (Below wr.heap.size wr)) := ⟨⟨wr,Below.refl _ _⟩⟩
    have cg0 := fun x => Cls.cell (W := wr) x v4
    have cg1 := fun x => Cls.cell (W := wr) x v0
    have cg2 := fun x => Cls.cell (W := wr) x v1
    have cg3 := fun x => Cls.cell (W := wr) x v2
    repeat (first | go_big_quiet_step ((first | (go_at_call 26; exact Cls.calls _ (L0.out _ (below_then (below_then hb2 hbq) (Cls.ok _)))))) | quiet_step ((first | (go_at_call 26; exact Cls.calls _ (L0.out _ (below_then (below_then hb2 hbq) (Cls.ok _)))))))
    refine wpQuiet_nil ?_
    intro w4 hw'
    obtain ⟨xq,hxq⟩ := hw'
    have hb4 := xq.ok
    rw [<- hxq] at hb4
    clear hxq xq inst cg0 cg1 cg2 cg3
    have e0 := cell_later hb4 u0
    go_wp2
    go_roundw
    case rel => exact ⟨1,by omega,by go_num,below_then hbq hb4⟩
    case measure => simp [intOf]
   ·go_upto_region 7 with fail
    refine wp_region_cls (R := Below wr.heap.size wr) (by kernel_rfl) (by kernel_rfl) (Below.refl _ _).drew ?_
    have inst : Nonempty (Cls (Below wr.heap.size wr)) := ⟨⟨wr,Below.refl _ _⟩⟩
    have cg0 := fun x => Cls.cell (W := wr) x v4
    have cg1 := fun x => Cls.cell (W := wr) x v0
    have cg2 := fun x => Cls.cell (W := wr) x v1
    have cg3 := fun x => Cls.cell (W := wr) x v2
    repeat (first | go_big_quiet_step ((first | (go_at_call 26; exact Cls.calls _ (L1.out _ (below_then (below_then hb2 hbq) (Cls.ok _)))))) | quiet_step ((first | (go_at_call 26; exact Cls.calls _ (L1.out _ (below_then (below_then hb2 hbq) (Cls.ok _)))))))
    refine wpQuiet_nil ?_
    intro w4 hw'
    obtain ⟨xq,hxq⟩ := hw'
    have hb4 := xq.ok
    rw [<- hxq] at hb4
    clear hxq xq inst cg0 cg1 cg2 cg3
    have e1 := cell_later hb4 u1
    go_wp2
    go_roundw
    case rel => exact ⟨2,by omega,by go_num,below_then hbq hb4⟩
    case measure => simp [intOf]
   ·go_upto_region 7 with fail
    refine wp_region_cls (R := Below wr.heap.size wr) (by kernel_rfl) (by kernel_rfl) (Below.refl _ _).drew ?_
    have inst : Nonempty (Cls (Below wr.heap.size wr)) := ⟨⟨wr,Below.refl _ _⟩⟩
    have cg0 := fun x => Cls.cell (W := wr) x v4
    have cg1 := fun x => Cls.cell (W := wr) x v0
    have cg2 := fun x => Cls.cell (W := wr) x v1
    have cg3 := fun x => Cls.cell (W := wr) x v2
    repeat (first | go_big_quiet_step ((first | (go_at_call 26; exact Cls.calls _ (L2.out _ (below_then (below_then hb2 hbq) (Cls.ok _)))))) | quiet_step ((first | (go_at_call 26; exact Cls.calls _ (L2.out _ (below_then (below_then hb2 hbq) (Cls.ok _)))))))
    refine wpQuiet_nil ?_
    intro w4 hw'
    obtain ⟨xq,hxq⟩ := hw'
    have hb4 := xq.ok
    rw [<- hxq] at hb4
    clear hxq xq inst cg0 cg1 cg2 cg3
    have e2 := cell_later hb4 u2
    go_wp2
    go_roundw
    case rel => exact ⟨3,by omega,by go_num,below_then hbq hb4⟩
    case measure => simp [intOf]
   ·go_wp2_with (go_at_call 20; refine (num_any _ _).mono ?_; rintro e w9 ⟨rfl,hw9⟩; rw [hw9]; clear hw9 w9)
    go_ret
    exact ⟨by simp,below_then hb2 hbq⟩
end Go.Proofs.YtdkaoopkbhaheaaGreat
namespace Go.Proofs.YtdkaoopkbhaheaaGreat
open Go.RowKit Go.Lib
open Jor
open scoped Classical
set_option linter.unusedVariables false
set_option linter.unusedSimpArgs false
def locQ (V : Nat -> IP) (T : List T3) (p : IP) : Nat -> Int
 | 0 => -1
 | n + 1 => if 0 <= locQ V T p n then locQ V T p n else if covT V T p n = true then (n : Int) else -1
theorem locQ_ok (V : Nat -> IP) (T : List T3) (p : IP) : ∀ n,(locQ V T p n = -1 /\ ∀ k,k < n -> covT V T p k = false) \/ ∃ k : Nat,k < n /\ locQ V T p n = k /\ covT V T p k = true /\ ∀ j,j < k -> covT V T p j = false := by
 intro n
 induction n with
 | zero => exact .inl ⟨rfl,fun k hk => by omega⟩
 | succ n ih =>
  rw [locQ]
  rcases ih with ⟨e,h⟩ | ⟨k,hk,e,h1,h2⟩
  ·rw [e,if_neg (by omega)]
   by_cases hc : covT V T p n = true
   ·rw [if_pos hc]
    exact .inr ⟨n,by omega,rfl,hc,h⟩
   ·rw [if_neg hc]
    refine .inl ⟨rfl,fun k hk => ?_⟩
    by_cases q : k = n
    ·subst q; simpa using hc
    ·exact h k (by omega)
  ·rw [e,if_pos (by omega)]
   exact .inr ⟨k,by omega,rfl,h1,h2⟩
theorem locQ_loc {V : Nat -> IP} {T : List T3} {p : IP} {r : Int} (hb : bndP p = true) (h : LocI V T p r) : r = locQ V T p T.length := by
 rcases h with ⟨rfl,h | h⟩ | ⟨k,hk,rfl,_,h1,h2⟩
 ·rw [hb] at h; cases h
 ·rcases locQ_ok V T p T.length with ⟨e,_⟩ | ⟨k,hk,_,h1,_⟩
  ·exact e.symm
  ·rw [h k hk] at h1; cases h1
 ·rcases locQ_ok V T p T.length with ⟨e,h⟩ | ⟨j,hj,e,g1,g2⟩
  ·rw [h k hk] at h1; cases h1
  ·rw [e]
   rcases Nat.lt_trichotomy k j with q | q | q
   ·rw [g2 k q] at h1; cases h1
   ·rw [q]
   ·rw [h2 j q] at g1; cases g1
theorem locQ_stay {V : Nat -> IP} {T : List T3} {p : IP} {k : Nat} (h : 0 <= locQ V T p k) : ∀ m,locQ V T p (k + m) = locQ V T p k := by
 intro m
 induction m with
 | zero => rfl
 | succ m ih => rw [<- Nat.add_assoc,locQ,ih,if_pos h]
theorem locQ_neg {V : Nat -> IP} {T : List T3} {p : IP} {k : Nat} (h : ¬ 0 <= locQ V T p k) : locQ V T p k = -1 := by
 rcases locQ_ok V T p k with ⟨e,_⟩ | ⟨j,_,e,_⟩
 ·exact e
 ·omega
theorem locQ_next {V : Nat -> IP} {T : List T3} {p : IP} {k : Nat} (h : ¬ 0 <= locQ V T p k) : locQ V T p (k + 1) = if covT V T p k = true then (k : Int) else -1 := by rw [locQ,if_neg h]
theorem covT_ref {V : Nat -> IP} {n : Nat} (near : ∀ i,i < n -> nearP (V i)) {T : List T3} {p : IP} (hp : nearP p) {k : Nat} (h0 : (T.getD k (0,0,0)).1 < n) (h1 : (T.getD k (0,0,0)).2.1 < n) (h2 : (T.getD k (0,0,0)).2.2 < n) :
  covT V T p k = decide (0 <= refTurn (V (T.getD k (0,0,0)).1).1 (V (T.getD k (0,0,0)).1).2 (V (T.getD k (0,0,0)).2.1).1 (V (T.getD k (0,0,0)).2.1).2 p.1 p.2 /\ 0 <= refTurn (V (T.getD k (0,0,0)).2.1).1 (V (T.getD k (0,0,0)).2.1).2 (V (T.getD k (0,0,0)).2.2).1 (V (T.getD k (0,0,0)).2.2).2 p.1 p.2 /\ 0 <= refTurn (V (T.getD k (0,0,0)).2.2).1 (V (T.getD k (0,0,0)).2.2).2 (V (T.getD k (0,0,0)).1).1 (V (T.getD k (0,0,0)).1).2 p.1 p.2) := by
 unfold covT coverB
 have e : ∀ i j,i < n -> j < n -> Go.Proofs.YtdkaoopkbhaheaaGreat.tw V i j p = refTurn (V i).1 (V i).2 (V j).1 (V j).2 p.1 p.2 := fun i j hi hj => turn_same _ _ _ _ _ _ (near i hi) (near j hj) hp
 rw [e _ _ h0 h1,e _ _ h1 h2,e _ _ h2 h0]
set_option maxRecDepth 100000 in
theorem xlocate_any {base : Nat} {W w : World} {x : Nat} {own : Int} {a : Option Addr} {cap : Nat} {rs : List (List IP)} {T : List T3} {F : Nat -> Nat -> Option Int} {bM g cg bt ct : Nat} {lv : Value} {LS : List Value} (G : Good rs) (X : XM base W w x own a cap rs T F bM g cg bt ct lv LS) (px py : Int) :
  Calls Tryz.prog 10 #[.pointer (some ⟨x,0,none⟩),.agg #[.int .i64 px,.int .i64 py]] w fun e w' => e = .returned (.bool true) /\ Below w.heap.size w w' := by
 have hv0 := G.pos
 have h64 := G.few
 have h8 := G.eight
 have hsz : (verts rs).length <= 1048576 := by omega
 obtain ⟨f1,f2,_,f4,_⟩ := mesh_facts G X.mesh
 have hT : T.length <= 1048576 := by omega
 obtain ⟨x0,_,_,x3,x4,_⟩ := X.cells
 have HT : Hid (TriAt w bt T) := X.tri
 have HV : Hid (PtsAt w g 0 (verts rs).length (pt (verts rs))) := X.pts' hv0
 have HIN : Hid (∀ k,k < T.length -> (T.getD k (0,0,0)).1 < (verts rs).length /\ (T.getD k (0,0,0)).2.1 < (verts rs).length /\ (T.getD k (0,0,0)).2.2 < (verts rs).length) := fun k hk => f4 _ (t3_at hk)
 obtain ⟨lc,hlc⟩ : ∃ lc : Int,lc = if nearB px py = true then locQ (pt (verts rs)) T (px,py) T.length else -1 := ⟨_,rfl⟩
 have FL : Hid (∀ z : World,Below w.heap.size w z -> Calls Tryz.prog 27 #[.pointer (some ⟨bM,0,none⟩),.agg #[.int .i64 px,.int .i64 py]] z fun e w' => e = .returned (.int .i64 lc) /\ Below z.heap.size z w') := fun z hz => (flocate_any base bM rs T F px py z h64 f2 hT f4 ((X.mesh' hv0).later hz)).mono fun e w' h => by
  obtain ⟨r,e,hl,hb⟩ := h
  refine ⟨?_,hb⟩
  rw [e,hlc]
  congr 2
  by_cases hn : nearB px py = true
  ·rw [if_pos hn]; exact locQ_loc ((near_bnd (px,py)).1 hn) hl
  ·rw [if_neg hn]
   rcases hl with ⟨h,_⟩ | ⟨k,_,_,hb,_⟩
   ·exact h
   ·exact absurd ((near_bnd (px,py)).2 hb) hn
 have COV : Hid (nearB px py = true -> ∀ k,k < T.length -> covT (pt (verts rs)) T (px,py) k = decide (0 <= refTurn (pt (verts rs) (T.getD k (0,0,0)).1).1 (pt (verts rs) (T.getD k (0,0,0)).1).2 (pt (verts rs) (T.getD k (0,0,0)).2.1).1 (pt (verts rs) (T.getD k (0,0,0)).2.1).2 px py /\ 0 <= refTurn (pt (verts rs) (T.getD k (0,0,0)).2.1).1 (pt (verts rs) (T.getD k (0,0,0)).2.1).2 (pt (verts rs) (T.getD k (0,0,0)).2.2).1 (pt (verts rs) (T.getD k (0,0,0)).2.2).2 px py /\ 0 <= refTurn (pt (verts rs) (T.getD k (0,0,0)).2.2).1 (pt (verts rs) (T.getD k (0,0,0)).2.2).2 (pt (verts rs) (T.getD k (0,0,0)).1).1 (pt (verts rs) (T.getD k (0,0,0)).1).2 px py)) := fun hn k hk => by
  obtain ⟨q0,q1,q2⟩ := HIN.out k hk
  exact covT_ref (fun i hi => G.near i hi) (p := (px,py)) hn q0 q1 q2
 have HLC : Hid (lc = if nearB px py = true then locQ (pt (verts rs)) T (px,py) T.length else -1) := hlc
 clear f1 f4 X hlc
 go_enter Tryz.func10,Tryz.ntmps10
 go_upto_region 1 with fail
 have b1 : Below w.heap.size w (w.alloc (.cells #[.int .i64 px,.int .i64 py] 34)) := (Below.refl _ _).alloc (Nat.le_refl _) _
 have B1 : (w.alloc (.cells #[.int .i64 px,.int .i64 py] 34)).heap[w.heap.size]? = some (.cells #[.int .i64 px,.int .i64 py] 34) := heap_alloc_new _ _
 have y0 := cell_later b1 x0
 generalize (w.alloc (.cells #[.int .i64 px,.int .i64 py] 34)) = w1 at *
 have c0 : w1.cell? ⟨w.heap.size,0,none⟩ = some (.int .i64 px) := by simp [World.cell?,B1]
 have c1 : w1.cell? ⟨w.heap.size,1,none⟩ = some (.int .i64 py) := by simp [World.cell?,B1]
 refine wp_region_cls (R := Below w1.heap.size w1) (by kernel_rfl) (by kernel_rfl) (Below.refl _ _).drew ?_
 have inst : Nonempty (Cls (Below w1.heap.size w1)) := ⟨⟨w1,Below.refl _ _⟩⟩
 have cg0 := fun x => Cls.cell (W := w1) x y0
 have cg1 := fun x => Cls.cell (W := w1) x c0
 have cg2 := fun x => Cls.cell (W := w1) x c1
 repeat (first | go_big_quiet_step ((first | (go_at_call 28; exact Cls.calls _ (point_any _ _ _)) | (go_at_call 27; exact Cls.calls _ (FL.out _ (below_then b1 (Cls.ok _)))))) | quiet_step ((first | (go_at_call 28; exact Cls.calls _ (point_any _ _ _)) | (go_at_call 27; exact Cls.calls _ (FL.out _ (below_then b1 (Cls.ok _)))))))
 refine wpQuiet_nil ?_
 intro w2 hw'
 obtain ⟨xq,hxq⟩ := hw'
 have hb12 := xq.ok
 rw [<- hxq] at hb12
 clear hxq xq inst cg0 cg1 cg2
 have hb2 := below_then b1 hb12
 have d0 := cell_later hb12 c0
 have d1 := cell_later hb12 c1
 clear c0 c1 B1 y0
 go_upto_region 4 with (first | (go_at_call 29; refine (near_any _ _ _).mono ?_; rintro e w3 ⟨rfl,hb23⟩))
 have hb3 := below_then hb2 hb23
 have d0 := cell_later hb23 d0
 have d1 := cell_later hb23 d1
 cases hn : nearB px py with
 | false =>
  have hl : lc = -1 := by rw [HLC.out,hn]; rfl
  subst hl
  have y4 := cell_later hb3 x4
  have tl : (0 : Int) < (T.length : Int) := by omega
  go_wp2
  go_loopw [6,8,9,10,11] (fun wt i _ _ _ wr => wt = .int .i64 (-1) /\ i = .int .i64 0 /\ wr = w3) (fun _ _ _ _ _ _ => 0)
  case atStart => exact ⟨rfl,rfl,rfl⟩
  case round =>
   obtain ⟨rfl,rfl,rfl⟩ := hrel
   go_wp2
   go_ret
   exact ⟨by simp,hb3⟩
 | true =>
  have hl : lc = locQ (pt (verts rs)) T (px,py) T.length := by rw [HLC.out,hn]; rfl
  have COV2 := COV.out hn
  have CV : Hid (∀ k,k < T.length -> covT (pt (verts rs)) T (px,py) k = decide (0 <= refTurn (pt (verts rs) (T.getD k (0,0,0)).1).1 (pt (verts rs) (T.getD k (0,0,0)).1).2 (pt (verts rs) (T.getD k (0,0,0)).2.1).1 (pt (verts rs) (T.getD k (0,0,0)).2.1).2 px py /\ 0 <= refTurn (pt (verts rs) (T.getD k (0,0,0)).2.1).1 (pt (verts rs) (T.getD k (0,0,0)).2.1).2 (pt (verts rs) (T.getD k (0,0,0)).2.2).1 (pt (verts rs) (T.getD k (0,0,0)).2.2).2 px py /\ 0 <= refTurn (pt (verts rs) (T.getD k (0,0,0)).2.2).1 (pt (verts rs) (T.getD k (0,0,0)).2.2).2 (pt (verts rs) (T.getD k (0,0,0)).1).1 (pt (verts rs) (T.getD k (0,0,0)).1).2 px py)) := COV2
  have HL : Hid (lc = locQ (pt (verts rs)) T (px,py) T.length) := hl
  clear hl COV2 COV HLC FL
  go_wp2
  go_loopw [6,8,9,10,11] (fun wt i _ _ _ wr => ∃ k : Nat,k <= T.length /\ wt = .int .i64 (locQ (pt (verts rs)) T (px,py) k) /\ i = .int .i64 k /\ Below w3.heap.size w3 wr) (fun _ i _ _ _ _ => T.length - (intOf i).toNat)
  case atStart => exact ⟨0,Nat.zero_le _,rfl,rfl,Below.refl _ _⟩
  case round =>
   obtain ⟨k,hk,rfl,rfl,hb⟩ := hrel
   have hbw := below_then hb3 hb
   have y4 := cell_later hbw x4
   have y3 := cell_later hbw x3
   have k0 : (0 : Int) <= (k : Int) := by omega
   by_cases hlt : k < T.length
   ·have kn : (k : Int) < (T.length : Int) := by omega
    by_cases hq : 0 <= locQ (pt (verts rs)) T (px,py) k
    ·have hst : lc = locQ (pt (verts rs)) T (px,py) k := by
      have := locQ_stay hq (T.length - k)
      rw [show k + (T.length - k) = T.length by omega] at this
      rw [HL.out,this]
     rw [<- hst]
     have nl : ¬ lc < 0 := by omega
     clear hst hq
     go_wp2
     go_ret
     exact ⟨by simp,hbw⟩
    ·have hm := locQ_neg hq
     have HNX : Hid (locQ (pt (verts rs)) T (px,py) (k + 1) = if covT (pt (verts rs)) T (px,py) k = true then (k : Int) else -1) := locQ_next hq
     rw [hm]
     obtain ⟨l0,l1,l2⟩ := HIN.out k hlt
     obtain ⟨t0,t1,t2⟩ := TriAt.later hbw HT.out k hlt
     have CVk := CV.out k hlt
     have HCV : Hid (covT (pt (verts rs)) T (px,py) k = decide (0 <= refTurn (pt (verts rs) (T.getD k (0,0,0)).1).1 (pt (verts rs) (T.getD k (0,0,0)).1).2 (pt (verts rs) (T.getD k (0,0,0)).2.1).1 (pt (verts rs) (T.getD k (0,0,0)).2.1).2 px py /\ 0 <= refTurn (pt (verts rs) (T.getD k (0,0,0)).2.1).1 (pt (verts rs) (T.getD k (0,0,0)).2.1).2 (pt (verts rs) (T.getD k (0,0,0)).2.2).1 (pt (verts rs) (T.getD k (0,0,0)).2.2).2 px py /\ 0 <= refTurn (pt (verts rs) (T.getD k (0,0,0)).2.2).1 (pt (verts rs) (T.getD k (0,0,0)).2.2).2 (pt (verts rs) (T.getD k (0,0,0)).1).1 (pt (verts rs) (T.getD k (0,0,0)).1).2 px py)) := CVk
     clear CVk hm hq
     generalize (T.getD k (0,0,0)).1 = p0 at *
     generalize (T.getD k (0,0,0)).2.1 = p1 at *
     generalize (T.getD k (0,0,0)).2.2 = p2 at *
     have CC : Hid (Calls Tryz.prog 30 #[.pointer (some ⟨x,0,none⟩),.agg #[.int .i64 (p0 : Int),.int .i64 (p1 : Int),.int .i64 (p2 : Int)]] wr fun e w' => e = .returned (.tuple #[.agg #[.int .i64 (pt (verts rs) p0).1,.int .i64 (pt (verts rs) p0).2],.agg #[.int .i64 (pt (verts rs) p1).1,.int .i64 (pt (verts rs) p1).2],.agg #[.int .i64 (pt (verts rs) p2).1,.int .i64 (pt (verts rs) p2).2]]) /\ Below wr.heap.size wr w') := corners_any x g _ cg (pt (verts rs)) p0 p1 p2 wr y3 (PtsAt.later hbw HV.out) l0 l1 l2 hsz
     generalize (pt (verts rs) p0).1 = ax at *
     generalize (pt (verts rs) p0).2 = ay at *
     generalize (pt (verts rs) p1).1 = bx at *
     generalize (pt (verts rs) p1).2 = bY at *
     generalize (pt (verts rs) p2).1 = cx at *
     generalize (pt (verts rs) p2).2 = cy at *
     go_upto_region 8 with (first | (go_at_call 30; refine CC.out.mono ?_; rintro e w7 ⟨rfl,hb7⟩))
     have b7 : Below w7.heap.size w7 (((w7.alloc (.cells #[.int .i64 ax,.int .i64 ay] 34)).alloc (.cells #[.int .i64 bx,.int .i64 bY] 34)).alloc (.cells #[.int .i64 cx,.int .i64 cy] 34)) := (((Below.refl _ _).alloc (Nat.le_refl _) _).alloc (by simp) _).alloc (by simp; omega) _
     obtain ⟨A0,A1,A2,A3⟩ := allocs3 w7 (.cells #[.int .i64 ax,.int .i64 ay] 34) (.cells #[.int .i64 bx,.int .i64 bY] 34) (.cells #[.int .i64 cx,.int .i64 cy] 34)
     have hb78 := below_then hb7 b7
     clear b7 hb7
     generalize (((w7.alloc (.cells #[.int .i64 ax,.int .i64 ay] 34)).alloc (.cells #[.int .i64 bx,.int .i64 bY] 34)).alloc (.cells #[.int .i64 cx,.int .i64 cy] 34)) = w8 at *
     have e0 : w8.cell? ⟨w7.heap.size,0,none⟩ = some (.int .i64 ax) := by simp [World.cell?,A0]
     have e1 : w8.cell? ⟨w7.heap.size,1,none⟩ = some (.int .i64 ay) := by simp [World.cell?,A0]
     have e2 : w8.cell? ⟨w7.heap.size + 1,0,none⟩ = some (.int .i64 bx) := by simp [World.cell?,A1]
     have e3 : w8.cell? ⟨w7.heap.size + 1,1,none⟩ = some (.int .i64 bY) := by simp [World.cell?,A1]
     have e4 : w8.cell? ⟨w7.heap.size + 1 + 1,0,none⟩ = some (.int .i64 cx) := by simp [World.cell?,A2]
     have e5 : w8.cell? ⟨w7.heap.size + 1 + 1,1,none⟩ = some (.int .i64 cy) := by simp [World.cell?,A2]
     have hbw8 := below_then hb hb78
     have m0 := cell_later hbw8 d0
     have m1 := cell_later hbw8 d1
     clear A0 A1 A2 A3
     generalize w7.heap.size = nb at *
     have R1 : Hid (∀ z : World,Calls Tryz.prog 31 #[.agg #[.int .i64 ax,.int .i64 ay],.agg #[.int .i64 bx,.int .i64 bY],.agg #[.int .i64 px,.int .i64 py]] z fun e w' => e = .returned (.int .i64 (refTurn ax ay bx bY px py)) /\ Below z.heap.size z w') := fun z => refTurn_any' _ _ _ _ _ _ z
     have R2 : Hid (∀ z : World,Calls Tryz.prog 31 #[.agg #[.int .i64 bx,.int .i64 bY],.agg #[.int .i64 cx,.int .i64 cy],.agg #[.int .i64 px,.int .i64 py]] z fun e w' => e = .returned (.int .i64 (refTurn bx bY cx cy px py)) /\ Below z.heap.size z w') := fun z => refTurn_any' _ _ _ _ _ _ z
     have R3 : Hid (∀ z : World,Calls Tryz.prog 31 #[.agg #[.int .i64 cx,.int .i64 cy],.agg #[.int .i64 ax,.int .i64 ay],.agg #[.int .i64 px,.int .i64 py]] z fun e w' => e = .returned (.int .i64 (refTurn cx cy ax ay px py)) /\ Below z.heap.size z w') := fun z => refTurn_any' _ _ _ _ _ _ z
     generalize refTurn ax ay bx bY px py = s1 at *
     generalize refTurn bx bY cx cy px py = s2 at *
     generalize refTurn cx cy ax ay px py = s3 at *
     by_cases h1 : 0 <= s1
     ·by_cases h2 : 0 <= s2
      ·by_cases h3 : 0 <= s3
       ·go_wp2_with (go_at_call 31; first | (refine (R1.out _).mono ?_; rintro e w9 ⟨rfl,hb9⟩; have f0 := cell_later hb9 e0; have f1 := cell_later hb9 e1; have f2 := cell_later hb9 e2; have f3 := cell_later hb9 e3; have f4 := cell_later hb9 e4; have f5 := cell_later hb9 e5; have g0 := cell_later hb9 m0; have g1 := cell_later hb9 m1; clear R1) | (refine (R2.out _).mono ?_; rintro e w10 ⟨rfl,hb10⟩; have i0 := cell_later hb10 f0; have i1 := cell_later hb10 f1; have i4 := cell_later hb10 f4; have i5 := cell_later hb10 f5; have j0 := cell_later hb10 g0; have j1 := cell_later hb10 g1; clear R2) | (refine (R3.out _).mono ?_; rintro e w11 ⟨rfl,hb11⟩))
        go_roundw
        case rel => exact ⟨k + 1,by omega,by rw [HNX.out,HCV.out]; simp [h1,h2,h3],by go_num,below_then hbw8 (below_then (below_then hb9 hb10) hb11)⟩
        case measure => simp [intOf]; omega
       ·go_wp2_with (go_at_call 31; first | (refine (R1.out _).mono ?_; rintro e w9 ⟨rfl,hb9⟩; have f0 := cell_later hb9 e0; have f1 := cell_later hb9 e1; have f2 := cell_later hb9 e2; have f3 := cell_later hb9 e3; have f4 := cell_later hb9 e4; have f5 := cell_later hb9 e5; have g0 := cell_later hb9 m0; have g1 := cell_later hb9 m1; clear R1) | (refine (R2.out _).mono ?_; rintro e w10 ⟨rfl,hb10⟩; have i0 := cell_later hb10 f0; have i1 := cell_later hb10 f1; have i4 := cell_later hb10 f4; have i5 := cell_later hb10 f5; have j0 := cell_later hb10 g0; have j1 := cell_later hb10 g1; clear R2) | (refine (R3.out _).mono ?_; rintro e w11 ⟨rfl,hb11⟩))
        go_roundw
        case rel => exact ⟨k + 1,by omega,by rw [HNX.out,HCV.out]; simp; intros; omega,by go_num,below_then hbw8 (below_then (below_then hb9 hb10) hb11)⟩
        case measure => simp [intOf]; omega
      ·go_wp2_with (go_at_call 31; first | (refine (R1.out _).mono ?_; rintro e w9 ⟨rfl,hb9⟩; have f0 := cell_later hb9 e0; have f1 := cell_later hb9 e1; have f2 := cell_later hb9 e2; have f3 := cell_later hb9 e3; have f4 := cell_later hb9 e4; have f5 := cell_later hb9 e5; have g0 := cell_later hb9 m0; have g1 := cell_later hb9 m1; clear R1) | (refine (R2.out _).mono ?_; rintro e w10 ⟨rfl,hb10⟩; have i0 := cell_later hb10 f0; have i1 := cell_later hb10 f1; have i4 := cell_later hb10 f4; have i5 := cell_later hb10 f5; have j0 := cell_later hb10 g0; have j1 := cell_later hb10 g1; clear R2))
       go_roundw
       case rel => exact ⟨k + 1,by omega,by rw [HNX.out,HCV.out]; simp; intros; omega,by go_num,below_then hbw8 (below_then hb9 hb10)⟩
       case measure => simp [intOf]; omega
     ·go_wp2_with (go_at_call 31; first | (refine (R1.out _).mono ?_; rintro e w9 ⟨rfl,hb9⟩; have f0 := cell_later hb9 e0; have f1 := cell_later hb9 e1; have f2 := cell_later hb9 e2; have f3 := cell_later hb9 e3; have f4 := cell_later hb9 e4; have f5 := cell_later hb9 e5; have g0 := cell_later hb9 m0; have g1 := cell_later hb9 m1; clear R1))
      go_roundw
      case rel => exact ⟨k + 1,by omega,by rw [HNX.out,HCV.out]; simp; intros; omega,by go_num,below_then hbw8 hb9⟩
      case measure => simp [intOf]; omega
   ·have hkt : k = T.length := by omega
    subst hkt
    rw [<- HL.out]
    go_wp2
    go_ret
    exact ⟨by simp,hbw⟩
end Go.Proofs.YtdkaoopkbhaheaaGreat
