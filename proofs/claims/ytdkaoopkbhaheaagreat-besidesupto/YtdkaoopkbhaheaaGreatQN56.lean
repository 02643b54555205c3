import Derived.Test.YtdkaoopkbhaheaaGreatPP54
import Derived.Test.YtdkaoopkbhaheaaGreatQN25
import Derived.Test.YtdkaoopkbhaheaaGreatPN46
import Derived.Test.YtdkaoopkbhaheaaGreatQH5
import Derived.Deep.DeepCutAuto
set_option maxHeartbeats 8000000
namespace Go.Proofs.YtdkaoopkbhaheaaGreat
open Go.RowKit Go.Lib
open Jor
open scoped Classical
set_option linter.unusedVariables false
set_option linter.unusedSimpArgs false
set_option maxRecDepth 100000 in
theorem mbeside_bad (x0 x2 : Value) (gT n cT : Nat) (k : Int) (w : World) (hk : k < 0 \/ (n : Int) <= k) :
  Calls Tryz.prog 46 #[.agg #[x0, .slice (some ⟨gT, 0, none⟩) n cT, x2], .int .i64 k] w fun e w' => e = .returned (.tuple #[.agg #[.int .i64 0, .int .i64 0, .int .i64 0], .int .i64 8]) /\ Below w.heap.size w w' := by
 have fin : Below w.heap.size w ((w.alloc (.cells #[x0, .slice (some ⟨gT, 0, none⟩) n cT, x2] 81)).alloc (.cells #[.int .i64 0, .int .i64 0, .int .i64 0] 53)) := ((Below.refl _ _).alloc (Nat.le_refl _) _).alloc (by simp) _
 rcases hk with hk | hk
 ·go_enter Tryz.func46, Tryz.ntmps46
  go_wp2
  exact bodyPost_ret (v := .tuple #[.agg #[.int .i64 0, .int .i64 0, .int .i64 0], .int .i64 8]) (by simp [results, Tryz.results46, go_sem]) rfl ⟨rfl, fin⟩
 ·have hk0 : ¬ k < 0 := by omega
  go_enter Tryz.func46, Tryz.ntmps46
  go_wp2
  exact bodyPost_ret (v := .tuple #[.agg #[.int .i64 0, .int .i64 0, .int .i64 0], .int .i64 8]) (by simp [results, Tryz.results46, go_sem]) rfl ⟨rfl, fin⟩
theorem fbeside_bad (B bM : Nat) (rs : List (List IP)) (T : List T3) (F : Nat -> Nat -> Option Int) (k : Int) (w : World) (hT : T.length <= 1048576) (h0 : 0 < T.length) (hk : k < 0 \/ (T.length : Int) <= k) (hM : MeshP B w rs bM T F) :
  Calls Tryz.prog 25 #[.pointer (some ⟨bM, 0, none⟩), .int .i64 k] w fun e w' => e = .returned (.tuple #[.agg #[.int .i64 0, .int .i64 0, .int .i64 0], .int .i64 8]) /\ Below w.heap.size w w' := by
 obtain ⟨_, ⟨g, c', y, bl, L, h2, h3, h4⟩, h5, h6⟩ := hM
 obtain ⟨gT, cT, rfl⟩ : ∃ gT cT, y = .slice (some ⟨gT, 0, none⟩) T.length cT := by
  rcases h3.row.2 with ⟨_, h⟩ | ⟨b, c2, _, h, h2, _⟩
  ·omega
  ·exact ⟨b, c2, h⟩
 have hb0 : Below w.heap.size w (w.alloc (.cells #[.int .i64 0, .int .i64 0, .int .i64 0] 53)) := (Below.refl _ _).alloc (Nat.le_refl _) _
 clear h3 h4 h5 h6
 have h2' := (hb0.block _ (Array.getElem?_eq_some_iff.1 h2).1).trans h2
 have c0 : (w.alloc (.cells #[.int .i64 0, .int .i64 0, .int .i64 0] 53)).cell? ⟨bM, 0, none⟩ = some (Value.slice (some ⟨g, 0, none⟩) (verts rs).length c') := by simp only [World.cell?, h2']; simp
 have c1 : (w.alloc (.cells #[.int .i64 0, .int .i64 0, .int .i64 0] 53)).cell? ⟨bM, 1, none⟩ = some (.slice (some ⟨gT, 0, none⟩) T.length cT) := by simp only [World.cell?, h2']; simp
 have c2 : (w.alloc (.cells #[.int .i64 0, .int .i64 0, .int .i64 0] 53)).cell? ⟨bM, 2, none⟩ = some (.map (some bl)) := by simp only [World.cell?, h2']; simp
 have HN : Hid ((w.alloc (.cells #[.int .i64 0, .int .i64 0, .int .i64 0] 53)).heap[w.heap.size]? = some (.cells #[.int .i64 0, .int .i64 0, .int .i64 0] 53)) := heap_alloc_new _ _
 have HB0 : Hid (Below w.heap.size w (w.alloc (.cells #[.int .i64 0, .int .i64 0, .int .i64 0] 53))) := hb0
 clear h2 h2' hb0
 go_enter Tryz.func25, Tryz.ntmps25
 go_wp2_with (go_at_call 46; refine (mbeside_bad _ _ gT T.length cT k _ hk).mono ?_; rintro e w1 ⟨rfl, h1⟩; have n1 := (h1.block w.heap.size (by simp)).trans HN.out; have N1 : Hid (w1.heap[w.heap.size]? = some (.cells #[.int .i64 0, .int .i64 0, .int .i64 0] 53)) := n1; have f0 : w1.cell? ⟨w.heap.size, 0, none⟩ = some (.int .i64 0) := (by simp [World.cell?, n1]); have f1 : w1.cell? ⟨w.heap.size, 1, none⟩ = some (.int .i64 0) := (by simp [World.cell?, n1]); have f2 : w1.cell? ⟨w.heap.size, 2, none⟩ = some (.int .i64 0) := (by simp [World.cell?, n1]); have g0 : ∀ o, w1.frozen? ⟨w.heap.size, o, none⟩ = false := (fun o => by simp [World.frozen?, n1]); clear n1)
 have B2 := below_then HB0.out h1
 have S1 := stored_block (o := 0) (v := .int .i64 0) N1.out
 have S2 := stored_block (o := 1) (v := .int .i64 0) S1
 have S3 := stored_block (o := 2) (v := .int .i64 0) S2
 have BZ := ((B2.setCell (p := ⟨w.heap.size, 0, none⟩) (by simp) (.int .i64 0)).setCell (p := ⟨w.heap.size, 1, none⟩) (by simp) (.int .i64 0)).setCell (p := ⟨w.heap.size, 2, none⟩) (by simp) (.int .i64 0)
 have HS3 : Hid ((((w1.setCell ⟨w.heap.size, 0, none⟩ (.int .i64 0)).setCell ⟨w.heap.size, 1, none⟩ (.int .i64 0)).setCell ⟨w.heap.size, 2, none⟩ (.int .i64 0)).heap[w.heap.size]? = some (.cells #[.int .i64 0, .int .i64 0, .int .i64 0] 53)) := by
  rw [Hid, S3]; simp
 clear S1 S2 S3
 generalize (((w1.setCell ⟨w.heap.size, 0, none⟩ (.int .i64 0)).setCell ⟨w.heap.size, 1, none⟩ (.int .i64 0)).setCell ⟨w.heap.size, 2, none⟩ (.int .i64 0)) = Wz at *
 have z0 : Wz.cell? ⟨w.heap.size, 0, none⟩ = some (.int .i64 0) := by simp [World.cell?, HS3.out]
 have z1 : Wz.cell? ⟨w.heap.size, 1, none⟩ = some (.int .i64 0) := by simp [World.cell?, HS3.out]
 have z2 : Wz.cell? ⟨w.heap.size, 2, none⟩ = some (.int .i64 0) := by simp [World.cell?, HS3.out]
 exact bodyPost_ret (v := .tuple #[.agg #[.int .i64 0, .int .i64 0, .int .i64 0], .int .i64 8]) (by simp [results, Tryz.results25, go_sem, z0, z1, z2]) rfl ⟨rfl, BZ⟩
set_option maxRecDepth 100000 in
theorem xbeside_any {base : Nat} {W w : World} {x : Nat} {own : Int} {a : Option Addr} {cap : Nat} {rs : List (List IP)} {T : List T3} {F : Nat -> Nat -> Option Int} {bM g cg bt ct : Nat} {lv : Value} {LS : List Value} (G : Good rs) (X : XM base W w x own a cap rs T F bM g cg bt ct lv LS) (hWw : W.heap.size <= w.heap.size) (k : Int) :
  Calls Tryz.prog 9 #[.pointer (some ⟨x, 0, none⟩), .int .i64 k] w fun e w' => e = .returned (.bool true) /\ Below w.heap.size w w' := by
 have hv0 := G.pos
 have h64 := G.few
 have h8 := G.eight
 obtain ⟨f1, f2, _, f4, _⟩ := mesh_facts G X.mesh
 have hT : T.length <= 1048576 := by omega
 obtain ⟨x0, _, _, _, x4, _⟩ := X.cells
 have HM : Hid (MeshP base w rs bM T F) := X.mesh' hv0
 have HT : Hid (TriAt w bt T) := X.tri
 have hq := run_same3 0 0 0 0 0 0
 have H64 : Hid (∀ t ∈ T, t.1 < 64 /\ t.2.1 < 64 /\ t.2.2 < 64) := fun t ht => by have := f4 t ht; omega
 by_cases hk : k < 0 \/ (T.length : Int) <= k
 ·clear f1 f4 X
  go_enter Tryz.func9, Tryz.ntmps9
  go_upto_region 2 with (first | (go_at_call 25; refine (fbeside_bad _ _ _ _ _ k _ hT f2 hk HM.out).mono ?_; rintro e w1 ⟨rfl, hb1⟩))
  have x4' := cell_later (below_then hb1 ((Below.refl _ _).alloc (Nat.le_refl _) (.cells #[.int .i64 0, .int .i64 0, .int .i64 0] 53))) x4
  have hbz := below_then hb1 ((Below.refl _ _).alloc (Nat.le_refl _) (.cells #[.int .i64 0, .int .i64 0, .int .i64 0] 53))
  rcases hk with hk | hk
  ·go_wp2_with (go_at_call 20; refine (num_any _ _).mono ?_; rintro e w9 ⟨rfl, hw9⟩; rw [hw9]; clear hw9 w9)
   go_ret
   exact ⟨by simp, hbz⟩
  ·have hk0 : ¬ k < 0 := by omega
   go_wp2_with (go_at_call 20; refine (num_any _ _).mono ?_; rintro e w9 ⟨rfl, hw9⟩; rw [hw9]; clear hw9 w9)
   go_ret
   exact ⟨by simp, hbz⟩
 ·obtain ⟨n, rfl⟩ : ∃ n : Nat, k = n := ⟨k.toNat, by omega⟩
  have hn : n < T.length := by omega
  have n0 : ¬ (n : Int) < 0 := by omega
  have n1 : ¬ (T.length : Int) <= (n : Int) := by omega
  have n2 : (0 : Int) <= (n : Int) := by omega
  have n3 : (n : Int) < (T.length : Int) := by omega
  have ON : Hid (Once T) := by
   obtain ⟨_, ⟨_, _, _, _, L, _, _, I⟩, hs, hm⟩ := X.mesh
   exact once_of hs hm I
  have RG : Hid (∀ p q, (lfv T q p).1 = rgt (leftF T T.length) p q) := fun p q => by
   obtain ⟨_, ⟨_, _, _, _, L, _, _, I⟩, hs, hm⟩ := X.mesh
   exact (lfv_ok T q p).rgt hs hm I
  have LF : Hid (∀ (p q : Nat) (z : World), Below w.heap.size w z -> Calls Tryz.prog 26 #[.pointer (some ⟨x, 0, none⟩), .int .i64 (q : Int), .int .i64 (p : Int)] z fun e w' => e = .returned (.tuple #[.int .i64 (rgt (leftF T T.length) p q), .int .i64 (lfv T q p).2]) /\ Below z.heap.size z w') := fun p q z hz => by
   have := xleft_any x bt ct T q p z hT ON.out (cell_later hz x4) (TriAt.later hz HT.out)
   rw [RG.out p q] at this
   exact this
  obtain ⟨t0, t1, t2⟩ := HT.out n hn
  have BC : Hid (Calls Tryz.prog 25 #[.pointer (some ⟨bM, 0, none⟩), .int .i64 (n : Int)] w fun e w' => e = .returned (.tuple #[.agg #[.int .i64 (rgt (leftF T T.length) (T.getD n (0, 0, 0)).1 (T.getD n (0, 0, 0)).2.1), .int .i64 (rgt (leftF T T.length) (T.getD n (0, 0, 0)).2.1 (T.getD n (0, 0, 0)).2.2), .int .i64 (rgt (leftF T T.length) (T.getD n (0, 0, 0)).2.2 (T.getD n (0, 0, 0)).1)], .int .i64 0]) /\ Below w.heap.size w w') := fbeside_any _ _ rs T F n _ hT hn H64.out HM.out
  clear f1 f4 X hq hk
  generalize (T.getD n (0, 0, 0)).1 = p0 at *
  generalize (T.getD n (0, 0, 0)).2.1 = p1 at *
  generalize (T.getD n (0, 0, 0)).2.2 = p2 at *
  have L0 : Hid _ := LF.out p0 p1
  have L1 : Hid _ := LF.out p1 p2
  have L2 : Hid _ := LF.out p2 p0
  clear LF RG
  generalize rgt (leftF T T.length) p0 p1 = r0 at *
  generalize rgt (leftF T T.length) p1 p2 = r1 at *
  generalize rgt (leftF T T.length) p2 p0 = r2 at *
  go_enter Tryz.func9, Tryz.ntmps9
  go_upto_region 2 with (first | (go_at_call 25; refine BC.out.mono ?_; rintro e w1 ⟨rfl, hb1⟩))
  have b2 : Below w1.heap.size w1 (w1.alloc (.cells #[.int .i64 r0, .int .i64 r1, .int .i64 r2] 53)) := (Below.refl _ _).alloc (Nat.le_refl _) _
  have hb2 := below_then hb1 b2
  have B2 : (w1.alloc (.cells #[.int .i64 r0, .int .i64 r1, .int .i64 r2] 53)).heap[w1.heap.size]? = some (.cells #[.int .i64 r0, .int .i64 r1, .int .i64 r2] 53) := heap_alloc_new _ _
  clear b2 hb1
  generalize (w1.alloc (.cells #[.int .i64 r0, .int .i64 r1, .int .i64 r2] 53)) = w2 at *
  have g0 : w2.cell? ⟨w1.heap.size, 0, none⟩ = some (.int .i64 r0) := by simp [World.cell?, B2]
  have g1 : w2.cell? ⟨w1.heap.size, 1, none⟩ = some (.int .i64 r1) := by simp [World.cell?, B2]
  have g2 : w2.cell? ⟨w1.heap.size, 2, none⟩ = some (.int .i64 r2) := by simp [World.cell?, B2]
  have y4 := cell_later hb2 x4
  have z0 := cell_later hb2 t0
  have z1 := cell_later hb2 t1
  have z2 := cell_later hb2 t2
  go_wp2
  go_loopw [7, 8, 9] (fun y _ _ wq => ∃ m : Nat, m <= 3 /\ y = .int .i64 m /\ Below w2.heap.size w2 wq) (fun y _ _ _ => 3 - (intOf y).toNat)
  case atStart => exact ⟨0, by omega, rfl, Below.refl _ _⟩
  case round =>
   obtain ⟨m, hm, rfl, hbq⟩ := hrel
   have v4 := cell_later hbq y4
   have v0 := cell_later hbq z0
   have v1 := cell_later hbq z1
   have v2 := cell_later hbq z2
   have u0 := cell_later hbq g0
   have u1 := cell_later hbq g1
   have u2 := cell_later hbq g2
   rcases (show m = 0 \/ m = 1 \/ m = 2 \/ m = 3 by omega) with rfl | rfl | rfl | rfl
   ·go_upto_region 7 with fail
    refine wp_region_cls (R := Below wr.heap.size wr) (by kernel_rfl) (by kernel_rfl) (Below.refl _ _).drew ?_
    have inst : Nonempty (Cls (Below wr.heap.size wr)) := ⟨⟨wr, Below.refl _ _⟩⟩
    have cg0 := fun x => Cls.cell (W := wr) x v4
    have cg1 := fun x => Cls.cell (W := wr) x v0
    have cg2 := fun x => Cls.cell (W := wr) x v1
    have cg3 := fun x => Cls.cell (W := wr) x v2
    repeat (first | go_big_quiet_step ((first | (go_at_call 26; exact Cls.calls _ (L0.out _ (below_then (below_then hb2 hbq) (Cls.ok _)))))) | quiet_step ((first | (go_at_call 26; exact Cls.calls _ (L0.out _ (below_then (below_then hb2 hbq) (Cls.ok _)))))))
    refine wpQuiet_nil ?_
    intro w4 hw'
    obtain ⟨xq, hxq⟩ := hw'
    have hb4 := xq.ok
    rw [<- hxq] at hb4
    clear hxq xq inst cg0 cg1 cg2 cg3
    have e0 := cell_later hb4 u0
    go_wp2
    go_roundw
    case rel => exact ⟨1, by omega, by go_num, below_then hbq hb4⟩
    case measure => simp [intOf]
   ·go_upto_region 7 with fail
    refine wp_region_cls (R := Below wr.heap.size wr) (by kernel_rfl) (by kernel_rfl) (Below.refl _ _).drew ?_
    have inst : Nonempty (Cls (Below wr.heap.size wr)) := ⟨⟨wr, Below.refl _ _⟩⟩
    have cg0 := fun x => Cls.cell (W := wr) x v4
    have cg1 := fun x => Cls.cell (W := wr) x v0
    have cg2 := fun x => Cls.cell (W := wr) x v1
    have cg3 := fun x => Cls.cell (W := wr) x v2
    repeat (first | go_big_quiet_step ((first | (go_at_call 26; exact Cls.calls _ (L1.out _ (below_then (below_then hb2 hbq) (Cls.ok _)))))) | quiet_step ((first | (go_at_call 26; exact Cls.calls _ (L1.out _ (below_then (below_then hb2 hbq) (Cls.ok _)))))))
    refine wpQuiet_nil ?_
    intro w4 hw'
    obtain ⟨xq, hxq⟩ := hw'
    have hb4 := xq.ok
    rw [<- hxq] at hb4
    clear hxq xq inst cg0 cg1 cg2 cg3
    have e1 := cell_later hb4 u1
    go_wp2
    go_roundw
    case rel => exact ⟨2, by omega, by go_num, below_then hbq hb4⟩
    case measure => simp [intOf]
   ·go_upto_region 7 with fail
    refine wp_region_cls (R := Below wr.heap.size wr) (by kernel_rfl) (by kernel_rfl) (Below.refl _ _).drew ?_
    have inst : Nonempty (Cls (Below wr.heap.size wr)) := ⟨⟨wr, Below.refl _ _⟩⟩
    have cg0 := fun x => Cls.cell (W := wr) x v4
    have cg1 := fun x => Cls.cell (W := wr) x v0
    have cg2 := fun x => Cls.cell (W := wr) x v1
    have cg3 := fun x => Cls.cell (W := wr) x v2
    repeat (first | go_big_quiet_step ((first | (go_at_call 26; exact Cls.calls _ (L2.out _ (below_then (below_then hb2 hbq) (Cls.ok _)))))) | quiet_step ((first | (go_at_call 26; exact Cls.calls _ (L2.out _ (below_then (below_then hb2 hbq) (Cls.ok _)))))))
    refine wpQuiet_nil ?_
    intro w4 hw'
    obtain ⟨xq, hxq⟩ := hw'
    have hb4 := xq.ok
    rw [<- hxq] at hb4
    clear hxq xq inst cg0 cg1 cg2 cg3
    have e2 := cell_later hb4 u2
    go_wp2
    go_roundw
    case rel => exact ⟨3, by omega, by go_num, below_then hbq hb4⟩
    case measure => simp [intOf]
   ·go_wp2_with (go_at_call 20; refine (num_any _ _).mono ?_; rintro e w9 ⟨rfl, hw9⟩; rw [hw9]; clear hw9 w9)
    go_ret
    exact ⟨by simp, below_then hb2 hbq⟩
end Go.Proofs.YtdkaoopkbhaheaaGreat
