import Derived.Test.YtdkaoopkbhaheaaGreatQN54
import Derived.Deep.DeepCutAuto
set_option maxHeartbeats 8000000
namespace Go.Proofs.YtdkaoopkbhaheaaGreat
open Go.RowKit Go.Lib
open Jor
open scoped Classical
set_option linter.unusedVariables false
set_option linter.unusedSimpArgs false
def pickL (c n : Int) : Int := (if c < 0 then -(c + 1) else c).tmod n
set_option maxRecDepth 100000 in
theorem xpick_any (c n : Int) (w : World) (hc : -9223372036854775808 <= c /\ c <= 9223372036854775807) (hn : 0 < n) (hn2 : n <= 9223372036854775807) :
  Calls Tryz.prog 12 #[.int .i64 c,.int .i64 n] w fun e w' => e = .returned (.int .i64 (pickL c n)) /\ w' = w := by
 have n0 : (n == 0) = false := by rw [beq_eq_false_iff_ne]; omega
 have n1 : ¬ n = 0 := by omega
 by_cases h : c < 0
 ·have hw1 : wrap64 (c + 1) = c + 1 := wrap64_in _ (by omega) (by omega)
  have hw2 : wrap64 (-(c + 1)) = -(c + 1) := wrap64_in _ (by omega) (by omega)
  have e : pickL c n = -((c + 1).tmod n) := by unfold pickL; rw [if_pos h,Int.neg_tmod]
  rw [e]
  go_enter Tryz.func12,Tryz.ntmps12
  go_wp2
  go_ret
  exact ⟨rfl,rfl⟩
 ·have e : pickL c n = c % n := by unfold pickL; rw [if_neg h,Int.tmod_eq_emod_of_nonneg (by omega)]
  rw [e]
  go_enter Tryz.func12,Tryz.ntmps12
  go_wp2
  go_ret
  exact ⟨rfl,rfl⟩
theorem pickL_in (c : Int) {n : Nat} (hn : 0 < n) : ∃ j : Nat,pickL c n = j /\ j < n := by
 have h : 0 <= pickL c n /\ pickL c n < n := by
  unfold pickL
  split
  ·rw [Int.tmod_eq_emod_of_nonneg (by omega)]
   exact ⟨Int.emod_nonneg _ (by omega),Int.emod_lt_of_pos _ (by omega)⟩
  ·rw [Int.tmod_eq_emod_of_nonneg (by omega)]
   exact ⟨Int.emod_nonneg _ (by omega),Int.emod_lt_of_pos _ (by omega)⟩
 exact ⟨(pickL c n).toNat,by omega,by omega⟩
section
variable {base : Nat} {W w w2 w3 : World} {x : Nat} {own : Int} {a : Option Addr} {cap : Nat} {rs : List (List IP)} {T : List T3} {F : Nat -> Nat -> Option Int} {bM g cg bt ct : Nat} {lv : Value} {LS : List Value}
def ToldP (base : Nat) (W w : World) (x : Nat) (own : Int) (a : Option Addr) (cap : Nat) (rs : List (List IP)) (T : List T3) (F : Nat -> Nat -> Option Int) (bM g cg bt ct : Nat) (lv : Value) (LS : List Value) (w' : World) : Prop :=
 ∃ lv' LS',XM base W w' x own a cap rs T F bM g cg bt ct lv' LS' /\ LS'.length = LS.length + 4 /\ (lv'.ownBlock = lv.ownBlock \/ ∃ g,lv'.ownBlock = some g /\ w.heap.size <= g) /\
  w'.os = w.os /\ w'.tape = w.tape /\ w'.output = w.output /\ w.heap.size <= w'.heap.size /\ ∀ q,q < w.heap.size -> q ≠ x -> some q ≠ lv.ownBlock -> w'.heap[q]? = w.heap[q]?
theorem XM.told (h : XM base W w x own a cap rs T F bM g cg bt ct lv LS) (ht : 0 < T.length) (hWw : W.heap.size <= w.heap.size) (hb : Below w.heap.size w w2) {b c : Nat} (hbb : w.heap.size <= b)
  (hk : KeepP w2 w3 x b LS.length T.length W.heap.size own (.pointer (some ⟨bM,0,none⟩)) (.slice a rs.length cap) (.slice (some ⟨g,0,none⟩) (verts rs).length cg) (.slice (some ⟨bt,0,none⟩) T.length ct) lv (.slice (some ⟨b,0,none⟩) T.length c) LS) : ToldP base W w x own a cap rs T F bM g cg bt ct lv LS w3 := by
 obtain ⟨lv',u1,u2,u3,h1,h2,h3,k0,⟨_,_,_,k1,_⟩,⟨_,_,_,k2,_⟩,⟨_,_,_,k3,_⟩,o1,o2,o3,o4,kept⟩ := hk
 have s2 := hb.size
 have kept' : ∀ q,q < w.heap.size -> q ≠ x -> some q ≠ lv.ownBlock -> w3.heap[q]? = w.heap[q]? := fun q hq n1 n2 => (kept q (by omega) n1 (by omega) n2).trans (hb.block q hq)
 have lt := tri_lt h.tri ht
 have lvW : ∀ q,lv.ownBlock = some q -> W.heap.size <= q := fun q hq => (h.row.lt q hq).1
 have hl4 := h.len4
 refine ⟨lv',LS ++ [.slice (some ⟨b,0,none⟩) T.length c,u1,u2,u3],⟨h1,h.xW,h.bW,h.mesh,h.pts,h.gb,fun q hq1 hq2 => (kept' q (by omega) (by have := h.xW; omega) (fun e => by have := lvW q e.symm; omega)).trans (h.snap q hq1 hq2),h.tri.kept (kept' bt lt h.tx h.tl),h.tx,fun e => ?_,by rw [List.length_append]; exact h2,by rw [List.length_append]; show (LS.length + 4) % 4 = 0; omega,fun i u hu => ?_⟩,by rw [List.length_append]; rfl,?_,o1.trans hb.os,o2.trans hb.tape,o3.trans hb.output,by omega,kept'⟩
 ·rcases h3 with h3 | ⟨g,h3,hg⟩
  ·rw [h3] at e; exact h.tl e
  ·rw [h3] at e; cases e; omega
 ·by_cases hi : i < LS.length
  ·rw [List.getElem?_append_left hi] at hu
   obtain ⟨r,hr⟩ := h.lists i u hu
   refine ⟨r,own_kept hr (fun q hq => ?_)⟩
   have hql := (hr.lt q hq).2
   obtain ⟨cur,hcur⟩ : ∃ cur,w.heap[q]? = some (.cells cur 53 (0,0)) := by
    rcases hr.2 with ⟨e,_⟩ | ⟨g,cap,cur,e,_,h2,_⟩
    ·rw [e] at hq; cases hq
    ·rw [e] at hq; cases hq; exact ⟨cur,h2⟩
   refine kept' q hql (fun e => ?_) (fun e => rows_ne h.row hr (by decide) (q := q) e.symm hq)
   subst e
   rw [h.blk] at hcur; cases hcur
  ·have hu' := hu
   rw [List.getElem?_append_right (by omega)] at hu
   have hi4 : i - LS.length < 4 := (List.getElem?_eq_some_iff.1 hu).1
   have e4 : i / 4 * 4 = LS.length := by omega
   rw [e4]
   rcases (show i - LS.length = 0 \/ i - LS.length = 1 \/ i - LS.length = 2 \/ i - LS.length = 3 by omega) with q | q | q | q <;> rw [q] at hu
   ·cases hu; exact ⟨_,k0⟩
   ·cases hu; exact ⟨_,k1⟩
   ·cases hu; exact ⟨_,k2⟩
   ·cases hu; exact ⟨_,k3⟩
 ·rcases h3 with h3 | ⟨g,h3,hg⟩
  ·exact .inl h3
  ·exact .inr ⟨g,h3,by omega⟩
end
set_option maxRecDepth 100000 in
theorem told_any {base : Nat} {W w : World} {x : Nat} {own : Int} {a : Option Addr} {cap : Nat} {rs : List (List IP)} {T : List T3} {F : Nat -> Nat -> Option Int} {bM g cg bt ct : Nat} {lv : Value} {LS : List Value} (G : Good rs) (X : XM base W w x own a cap rs T F bM g cg bt ct lv LS) (hWw : W.heap.size <= w.heap.size) (hLS : LS.length <= 1073741824) :
  Calls Tryz.prog 13 #[.pointer (some ⟨x,0,none⟩)] w fun e w' => e = .returned (.bool true) /\ ToldP base W w x own a cap rs T F bM g cg bt ct lv LS w' := by
 have hv0 := G.pos
 have h64 := G.few
 have h8 := G.eight
 obtain ⟨f1,f2,_,_,_⟩ := mesh_facts G X.mesh
 have hT : T.length <= 1048576 := by omega
 obtain ⟨x0,_,_,_,x4,_⟩ := X.cells
 have HX : Hid (XM base W w x own a cap rs T F bM g cg bt ct lv LS) := X
 have HT : Hid (TriAt w bt T) := X.tri
 have HM : Hid (MeshP base w rs bM T F) := X.mesh' hv0
 clear f1 X
 go_enter Tryz.func13,Tryz.ntmps13
 go_upto_region 2 with (first | (go_at_call 16; refine (ftri4_any _ _ rs T F _ f2 hT HM.out).mono ?_; rintro e w1 ⟨b,c2,rfl,hbb,hrow,hb1⟩; have HR : Hid (w1.ownsRow 0 53 3 (.slice (some ⟨b,0,none⟩) T.length c2) T.length (cells3 T)) := hrow; clear hrow))
 have y4 := cell_later hb1 x4
 go_wp2
 go_loopw [4] (fun y wr => ∃ i : Nat,i <= T.length /\ y = .int .i64 i /\ Below w1.heap.size w1 wr) (fun y _ => T.length - (intOf y).toNat)
 case atStart => exact ⟨0,Nat.zero_le _,rfl,Below.refl _ _⟩
 case round =>
  obtain ⟨i,hi,rfl,hb⟩ := hrel
  have i0 : (0 : Int) <= (i : Int) := by omega
  have v4 := cell_later hb y4
  by_cases hlt : i < T.length
  ·have il : (i : Int) < (T.length : Int) := by omega
   obtain ⟨a0,a1,a2⟩ := TriAt.later hb (tri_row HR.out) i hlt
   obtain ⟨b0,b1,b2⟩ := TriAt.later (below_then hb1 hb) HT.out i hlt
   generalize (T.getD i (0,0,0)).1 = p0 at *
   generalize (T.getD i (0,0,0)).2.1 = p1 at *
   generalize (T.getD i (0,0,0)).2.2 = p2 at *
   have hq := run_same3 p0 p1 p2 p0 p1 p2
   simp only [beq_self_eq_true,Bool.and_self] at hq
   go_upto_region 7 with fail
   refine wp_region_cls (R := Below wr.heap.size wr) (by kernel_rfl) (by kernel_rfl) (Below.refl _ _).drew ?_
   have inst : Nonempty (Cls (Below wr.heap.size wr)) := ⟨⟨wr,Below.refl _ _⟩⟩
   have cg0 := fun x => Cls.cell (W := wr) x v4
   have cg1 := fun x => Cls.cell (W := wr) x a0
   have cg2 := fun x => Cls.cell (W := wr) x a1
   have cg3 := fun x => Cls.cell (W := wr) x a2
   have cg4 := fun x => Cls.cell (W := wr) x b0
   have cg5 := fun x => Cls.cell (W := wr) x b1
   have cg6 := fun x => Cls.cell (W := wr) x b2
   repeat (first | go_big_quiet_step (fail) | quiet_step (fail))
   refine wpQuiet_nil ?_
   intro w4 hw'
   obtain ⟨xq,hxq⟩ := hw'
   have hb4 := xq.ok
   rw [<- hxq] at hb4
   clear hxq xq inst cg0 cg1 cg2 cg3 cg4 cg5 cg6
   go_wp2
   go_roundw
   case rel => exact ⟨i + 1,by omega,by go_num,below_then hb hb4⟩
   case measure => simp [intOf]; omega
  ·have il : ¬ (i : Int) < (T.length : Int) := by omega
   have hb2 := below_then hb1 hb
   have X2 := HX.out.later f2 hWw hb2
   have KC : Hid (Calls Tryz.prog 22 #[.pointer (some ⟨x,0,none⟩),.slice (some ⟨b,0,none⟩) T.length c2] wr fun e w' => e = .returned (.tuple #[]) /\ KeepP wr w' x b LS.length T.length W.heap.size own (.pointer (some ⟨bM,0,none⟩)) (.slice a rs.length cap) (.slice (some ⟨g,0,none⟩) (verts rs).length cg) (.slice (some ⟨bt,0,none⟩) T.length ct) lv (.slice (some ⟨b,0,none⟩) T.length c2) LS) := keep_any x b _ c2 LS.length W.heap.size own _ _ _ _ lv LS (cells3 T) wr f2 hT hLS X2.blk X2.row (own_later HR.out hb) (Nat.le_trans hWw hb2.size)
   clear X2
   go_wp2_with (go_at_call 22; refine KC.out.mono ?_; rintro e w3 ⟨rfl,hk⟩; have TP := HX.out.told f2 hWw hb2 hbb hk; clear hk)
   go_ret
   exact ⟨by simp,TP⟩
set_option maxRecDepth 100000 in
theorem whole_any {base : Nat} {W w : World} {x : Nat} {own : Int} {a : Option Addr} {cap : Nat} {rs : List (List IP)} {T : List T3} {F : Nat -> Nat -> Option Int} {bM g cg bt ct : Nat} {lv : Value} {LS : List Value} (X : XM base W w x own a cap rs T F bM g cg bt ct lv LS) (hLS : LS.length <= 1073741824) :
  Calls Tryz.prog 14 #[.pointer (some ⟨x,0,none⟩)] w fun e w' => e = .returned (.bool true) /\ Below w.heap.size w w' := by
 obtain ⟨_,x1,_,_,_,x5⟩ := X.cells
 have HLI : Hid (∀ i u,LS[i]? = some u -> ∃ r,KR w (-1 - ((i / 4 * 4 : Nat) : Int),own,0) u r) := X.lists
 have hrow := X.row
 obtain ⟨la,lc,rfl⟩ : ∃ a c,lv = .slice a LS.length c := by
  rcases hrow.2 with ⟨h,h2⟩ | ⟨g,c,cur,h,_⟩
  ·exact ⟨none,0,by rw [h,h2]⟩
  ·exact ⟨_,_,h⟩
 have HCE : Hid (∀ i,i < LS.length -> ∃ gl,la = some ⟨gl,0,none⟩ /\ ∃ u,LS[i]? = some u /\ w.cell? ⟨gl,i,none⟩ = some u) := fun i hi => by
  obtain ⟨g,c,e,_,_⟩ := hrow.form (by omega)
  cases e
  obtain ⟨u,hu⟩ : ∃ u,LS[i]? = some u := ⟨_,List.getElem?_eq_getElem hi⟩
  exact ⟨_,rfl,u,hu,by rw [hrow.cellAt i (by omega)]; exact hu⟩
 clear X hrow
 go_enter Tryz.func14,Tryz.ntmps14
 go_wp2
 go_loopw [3,4] (fun y _ wr => ∃ i : Nat,i <= LS.length /\ y = .int .i64 i /\ Below w.heap.size w wr) (fun y _ _ => LS.length - (intOf y).toNat)
 case atStart => exact ⟨0,Nat.zero_le _,rfl,Below.refl _ _⟩
 case round =>
  obtain ⟨i,hi,rfl,hb⟩ := hrel
  have i0 : (0 : Int) <= (i : Int) := by omega
  by_cases hlt : i < LS.length
  ·have il : (i : Int) < (LS.length : Int) := by omega
   obtain ⟨gl,rfl,u,hu,hc⟩ := HCE.out i hlt
   obtain ⟨r,hr⟩ := HLI.out i u hu
   obtain ⟨ua,uc,rfl⟩ : ∃ a c,u = .slice a r c := by
    rcases hr.2 with ⟨h,h2⟩ | ⟨g,c,cur,h,_⟩
    ·exact ⟨none,0,by rw [h,h2]⟩
    ·exact ⟨_,_,h⟩
   obtain ⟨j,hj⟩ : ∃ j,j = i / 4 := ⟨_,rfl⟩
   obtain ⟨m4,hm4⟩ : ∃ m,m = j * 4 := ⟨_,rfl⟩
   have e1 : (i : Int).tdiv 4 = (j : Int) := by rw [Int.tdiv_eq_ediv_of_nonneg (by omega)]; omega
   have e2 : (j : Int) * 4 = (m4 : Int) := by omega
   have jb : j <= 1073741824 := by omega
   have mb : m4 <= 1073741824 := by omega
   rw [<- hj,<- hm4] at hr
   have HK : Hid (∀ k,k < r -> ∃ gu,ua = some ⟨gu,0,none⟩ /\ w.cell? ⟨gu,k * 3,none⟩ = some (.int .i64 (-1 - (m4 : Int))) /\ w.cell? ⟨gu,k * 3 + 1,none⟩ = some (.int .i64 own) /\ w.cell? ⟨gu,k * 3 + 2,none⟩ = some (.int .i64 0)) := fun k hk => by
    obtain ⟨g,c,e,_,_⟩ := World.ownsRow.form hr (by omega)
    cases e
    obtain ⟨q0,q1,q2⟩ := kk_get (-1 - (m4 : Int),own,0) hk
    exact ⟨_,rfl,(World.ownsRow.cellAt hr (k * 3) (by omega)).trans q0,(World.ownsRow.cellAt hr (k * 3 + 1) (by omega)).trans q1,(World.ownsRow.cellAt hr (k * 3 + 2) (by omega)).trans q2⟩
   have hrm : r <= 9223372036854775807 := by
    rcases hr.2 with ⟨_,h⟩ | ⟨g,c,cur,h,_,_,h2,h3,_⟩
    ·omega
    ·unfold maxLen at h3; omega
   have hq := run_same3 (-1 - (m4 : Int)) own 0 (-1 - (m4 : Int)) own 0
   simp only [beq_self_eq_true,Bool.and_self] at hq
   have v5 := cell_later hb x5
   have vc := cell_later hb hc
   clear hr hj hm4
   go_wp2
   go_loopw [4] (fun y wq => ∃ k : Nat,k <= r /\ y = .int .i64 k /\ Below wr.heap.size wr wq) (fun y _ => r - (intOf y).toNat)
   case atStart => exact ⟨0,Nat.zero_le _,rfl,Below.refl _ _⟩
   case round =>
    obtain ⟨k,hk,rfl,hbq⟩ := hrel
    have k0 : (0 : Int) <= (k : Int) := by omega
    have u5 := cell_later hbq v5
    have uc' := cell_later hbq vc
    have u1 := cell_later (below_then hb hbq) x1
    by_cases hlk : k < r
    ·have kl : (k : Int) < (r : Int) := by omega
     obtain ⟨gu,rfl,q0,q1,q2⟩ := HK.out k hlk
     have z0 := cell_later (below_then hb hbq) q0
     have z1 := cell_later (below_then hb hbq) q1
     have z2 := cell_later (below_then hb hbq) q2
     go_upto_region 7 with fail
     refine wp_region_cls (R := Below wr.heap.size wr) (by kernel_rfl) (by kernel_rfl) (Below.refl _ _).drew ?_
     have inst : Nonempty (Cls (Below wr.heap.size wr)) := ⟨⟨wr,Below.refl _ _⟩⟩
     have cg0 := fun x => Cls.cell (W := wr) x u5
     have cg1 := fun x => Cls.cell (W := wr) x uc'
     have cg2 := fun x => Cls.cell (W := wr) x u1
     have cg3 := fun x => Cls.cell (W := wr) x z0
     have cg4 := fun x => Cls.cell (W := wr) x z1
     have cg5 := fun x => Cls.cell (W := wr) x z2
     repeat (first | go_big_quiet_step (fail) | quiet_step (fail))
     refine wpQuiet_nil ?_
     intro w4 hw'
     obtain ⟨xq,hxq⟩ := hw'
     have hb4 := xq.ok
     rw [<- hxq] at hb4
     clear hxq xq inst cg0 cg1 cg2 cg3 cg4 cg5
     go_wp2
     go_roundw
     case rel => exact ⟨k + 1,by omega,by go_num,below_then hbq hb4⟩
     case measure => simp [intOf]; omega
    ·have kl : ¬ (k : Int) < (r : Int) := by omega
     go_wp2
     go_roundw
     case rel => exact ⟨i + 1,by omega,by go_num,below_then hb hbq⟩
     case measure => simp [intOf]; omega
  ·have il : ¬ (i : Int) < (LS.length : Int) := by omega
   have v5 := cell_later hb x5
   go_wp2
   go_ret
   exact ⟨by simp,hb⟩
end Go.Proofs.YtdkaoopkbhaheaaGreat
namespace Go.Proofs.YtdkaoopkbhaheaaGreat
open Go.RowKit Go.Lib
open Jor
open scoped Classical
set_option linter.unusedVariables false
structure Rec where
 base : Nat
 W : World
 x : Nat
 own : Int
 a : Option Addr
 cap : Nat
 rs : List (List IP)
 T : List T3
 F : Nat -> Nat -> Option Int
 bM : Nat
 g : Nat
 cg : Nat
 bt : Nat
 ct : Nat
 lv : Value
 LS : List Value
def Rec.at (r : Rec) (w : World) : Prop := XM r.base r.W w r.x r.own r.a r.cap r.rs r.T r.F r.bM r.g r.cg r.bt r.ct r.lv r.LS
structure Rec.ok (r : Rec) (b0 lim : Nat) (w : World) : Prop where
 good : Good r.rs
 xm : r.at w
 Ww : r.W.heap.size <= w.heap.size
 b0 : b0 <= r.base
 lim : r.LS.length <= lim
 four : 4 <= r.LS.length
theorem Rec.ok.ht {r : Rec} {b0 lim : Nat} {w : World} (h : r.ok b0 lim w) : 0 < r.T.length := (mesh_facts h.good h.xm.mesh).2.1
theorem Rec.ok.x0 {r : Rec} {b0 lim : Nat} {w : World} (h : r.ok b0 lim w) : b0 <= r.x := by have := h.b0; have := h.xm.bW; have := h.xm.xW; omega
theorem Rec.ok.later {r : Rec} {b0 lim : Nat} {w w' : World} (h : r.ok b0 lim w) (hb : Below w.heap.size w w') : r.ok b0 lim w' := ⟨h.good,h.xm.later h.ht h.Ww hb,Nat.le_trans h.Ww hb.size,h.b0,h.lim,h.four⟩
theorem Rec.ok.more {r : Rec} {b0 lim lim' : Nat} {w : World} (h : r.ok b0 lim w) (hl : lim <= lim') : r.ok b0 lim' w := ⟨h.good,h.xm,h.Ww,h.b0,Nat.le_trans h.lim hl,h.four⟩
structure Apart (r s : Rec) : Prop where
 x : s.x ≠ r.x
 lv : ∀ q,s.lv.ownBlock = some q -> r.lv.ownBlock ≠ some q
 xs : ¬ (r.base <= s.x /\ s.x < r.W.heap.size)
 ls : ∀ q,s.lv.ownBlock = some q -> ¬ (r.base <= q /\ q < r.W.heap.size)
theorem tri_ne {w : World} {bt q : Nat} {T : List T3} (h : TriAt w bt T) (ht : 0 < T.length) {v : Value} (hv : w.cell? ⟨q,0,none⟩ = some v) (hn : ∀ i,v ≠ .int .i64 i) : bt ≠ q := fun e => by
 subst e
 have h0 := (h 0 ht).1
 rw [Nat.zero_mul] at h0
 rw [h0] at hv
 cases hv
 exact hn _ rfl
theorem row_first {w : World} {B e : Nat} {v u : Value} {n : Nat} {xs : List Value} (h : w.ownsRow B e 1 v n (u :: xs)) {q : Nat} (hq : v.ownBlock = some q) : w.cell? ⟨q,0,none⟩ = some u := by
 have hl : 0 < n := by have := h.1; simp at this; omega
 obtain ⟨g,c,rfl,_,_⟩ := h.form hl
 cases hq
 rw [h.cellAt 0 (by omega)]; rfl
structure Flock (RL : List Rec) (b0 lim : Nat) (w : World) : Prop where
 ok : ∀ (i : Nat) (r : Rec),RL[i]? = some r -> r.ok b0 lim w
 apart : ∀ (i j : Nat) (r s : Rec),RL[i]? = some r -> RL[j]? = some s -> i ≠ j -> Apart r s
theorem Flock.nil (b0 lim : Nat) (w : World) : Flock [] b0 lim w := ⟨fun i r h => by simp at h,fun i j r s h => by simp at h⟩
theorem Flock.later {RL : List Rec} {b0 lim : Nat} {w w' : World} (h : Flock RL b0 lim w) (hb : Below w.heap.size w w') : Flock RL b0 lim w' := ⟨fun i r hr => (h.ok i r hr).later hb,h.apart⟩
theorem Flock.more {RL : List Rec} {b0 lim lim' : Nat} {w : World} (h : Flock RL b0 lim w) (hl : lim <= lim') : Flock RL b0 lim' w := ⟨fun i r hr => (h.ok i r hr).more hl,h.apart⟩
theorem Flock.snoc {RL : List Rec} {b0 lim : Nat} {w w' : World} (h : Flock RL b0 lim w) (hb : Below w.heap.size w w') {r : Rec} (hr : r.ok b0 lim w') (hbase : w.heap.size <= r.base) : Flock (RL ++ [r]) b0 lim w' := by
 have get : ∀ i s,(RL ++ [r])[i]? = some s -> RL[i]? = some s /\ i < RL.length \/ s = r /\ i = RL.length := by
  intro i s hs
  rcases Nat.lt_trichotomy i RL.length with q | q | q
  ·rw [List.getElem?_append_left q] at hs; exact .inl ⟨hs,q⟩
  ·subst q
   rw [List.getElem?_append_right (Nat.le_refl _),Nat.sub_self] at hs
   cases hs; exact .inr ⟨rfl,rfl⟩
  ·rw [List.getElem?_append_right (by omega),List.getElem?_eq_none (by simp; omega)] at hs; cases hs
 have rx : w.heap.size <= r.x := by have := hr.xm.bW; have := hr.xm.xW; omega
 have rl : ∀ q,r.lv.ownBlock = some q -> w.heap.size <= q := fun q hq => by have := (hr.xm.row.lt q hq).1; have := hr.xm.bW; omega
 refine ⟨fun i s hs => ?_,fun i j s t hs ht n => ?_⟩
 ·rcases get i s hs with ⟨q,_⟩ | ⟨rfl,_⟩
  ·exact (h.ok i s q).later hb
  ·exact hr
 ·rcases get i s hs with ⟨q,hi⟩ | ⟨rfl,hi⟩
  ·rcases get j t ht with ⟨q',hj⟩ | ⟨rfl,hj⟩
   ·exact h.apart i j s t q q' n
   ·have so := h.ok i s q
    have sx := so.xm.xlt
    have sW := so.Ww
    refine ⟨by omega,fun p hp e => ?_,by omega,fun p hp => by have := rl p hp; omega⟩
    have := rl p hp
    have := (so.xm.row.lt p e).2
    omega
  ·rcases get j t ht with ⟨q',hj⟩ | ⟨rfl,hj⟩
   ·have so := h.ok j t q'
    have sx := so.xm.xlt
    have sl : ∀ q,t.lv.ownBlock = some q -> q < w.heap.size := fun q hq => (so.xm.row.lt q hq).2
    refine ⟨by omega,fun p hp e => ?_,by omega,fun p hp => by have := sl p hp; omega⟩
    have := sl p hp
    have := rl p e
    omega
   ·omega
theorem Flock.told {RL : List Rec} {b0 lim : Nat} {w w' : World} (h : Flock RL b0 lim w) {j : Nat} {s : Rec} (hj : RL[j]? = some s) (ht : ToldP s.base s.W w s.x s.own s.a s.cap s.rs s.T s.F s.bM s.g s.cg s.bt s.ct s.lv s.LS w') :
  ∃ RL' : List Rec,RL'.length = RL.length /\ RL'.map Rec.x = RL.map Rec.x /\ (∀ r ∈ RL',∃ t ∈ RL,r.base = t.base /\ r.W = t.W) /\ Flock RL' b0 (lim + 4) w' /\ w'.os = w.os /\ w'.tape = w.tape /\ w'.output = w.output /\ w.heap.size <= w'.heap.size /\ ∀ q,q < w.heap.size -> q ≠ s.x -> some q ≠ s.lv.ownBlock -> w'.heap[q]? = w.heap[q]? := by
 obtain ⟨lv',LS',hX,hL,hlv,o1,o2,o3,o4,kept⟩ := ht
 have so := h.ok j s hj
 have hjl : j < RL.length := (List.getElem?_eq_some_iff.1 hj).1
 refine ⟨RL.set j { s with lv := lv',LS := LS' },by simp,?_,fun r hr => ?_,⟨fun i r hr => ?_,fun i k r t hr ht n => ?_⟩,o1,o2,o3,o4,kept⟩
 ·rw [List.map_set]
  refine List.ext_getElem? fun i => ?_
  rw [List.getElem?_set]
  split
  ·rename_i e; subst e
   rw [if_pos (by simpa using hjl),List.getElem?_map,hj]; rfl
  ·rfl
 ·rcases List.mem_or_eq_of_mem_set hr with h | h
  ·exact ⟨r,h,rfl,rfl⟩
  ·exact ⟨s,List.mem_of_getElem? hj,by rw [h],by rw [h]⟩
 ·rw [List.getElem?_set] at hr
  split at hr
  ·rename_i e; subst e
   cases hr
   exact ⟨so.good,hX,Nat.le_trans so.Ww o4,so.b0,by show LS'.length <= _; rw [hL]; have := so.lim; omega,by show 4 <= LS'.length; rw [hL]; omega⟩
  ·rename_i e
   have ro := h.ok i r hr
   have ap := h.apart i j r s hr hj (fun q => e q.symm)
   refine ⟨ro.good,ro.xm.keep ro.ht (fun q hq hc => kept q hq ?_ ?_) o4 ro.Ww,Nat.le_trans ro.Ww o4,ro.b0,Nat.le_trans ro.lim (by omega),ro.four⟩
   ·intro e1
    subst e1
    rcases hc with hc | hc | hc | hc | ⟨cur,hc⟩
    ·exact ap.xs hc
    ·exact ap.x hc
    ·exact tri_ne ro.xm.tri ro.ht so.xm.cells.1 (fun i => by simp) hc.symm
    ·rcases ro.xm.row.2 with ⟨e,_⟩ | ⟨g,c,cur,e,_,h2,_⟩
     ·rw [e] at hc; cases hc
     ·rw [e] at hc; cases hc; rw [so.xm.blk] at h2; cases h2
    ·rw [so.xm.blk] at hc; cases hc
   ·intro e1
    have e1 := e1.symm
    rcases hc with hc | hc | hc | hc | ⟨cur,hc⟩
    ·exact ap.ls q e1 hc
    ·subst hc
     rcases so.xm.row.2 with ⟨e,_⟩ | ⟨g,c,cur,e,_,h2,_⟩
     ·rw [e] at e1; cases e1
     ·rw [e] at e1; cases e1; rw [ro.xm.blk] at h2; cases h2
    ·subst hc
     rcases so.xm.row.2 with ⟨e,_⟩ | ⟨g,c,cur,e,_,h2,_⟩
     ·rw [e] at e1; cases e1
     ·have hne : s.LS ≠ [] := fun hn => by
       have := so.four
       rw [hn] at this
       simp at this
      obtain ⟨u,us,hus⟩ := List.exists_cons_of_ne_nil hne
      have hrow := so.xm.row
      rw [hus] at hrow
      have hf := row_first hrow e1
      obtain ⟨r0,hr0⟩ := so.xm.lists 0 u (by rw [hus]; rfl)
      refine tri_ne ro.xm.tri ro.ht hf (fun i hi => ?_) rfl
      subst hi
      rcases hr0.2 with ⟨e,_⟩ | ⟨_,_,_,e,_⟩ <;> cases e
    ·exact ap.lv q e1 hc
    ·rcases so.xm.row.2 with ⟨e,_⟩ | ⟨g,c,cur',e,_,h2,_⟩
     ·rw [e] at e1; cases e1
     ·rw [e] at e1; cases e1; rw [hc] at h2; cases h2
 ·rw [List.getElem?_set] at hr ht
  have lvs : ∀ q,lv'.ownBlock = some q -> s.lv.ownBlock = some q \/ w.heap.size <= q := fun q hq => by
   rcases hlv with e | ⟨g,e,hg⟩
   ·exact .inl (by rw [<- e]; exact hq)
   ·rw [e] at hq; cases hq; exact .inr hg
  split at hr
  ·rename_i e; subst e
   cases hr
   rw [if_neg n] at ht
   have ap := h.apart j k s t hj ht n
   refine ⟨ap.x,fun q hq e => ?_,ap.xs,ap.ls⟩
   rcases lvs q e with e | e
   ·exact ap.lv q hq e
   ·have := ((h.ok k t ht).xm.row.lt q hq).2
    omega
  ·rename_i e
   split at ht
   ·rename_i e2; subst e2
    cases ht
    have ap := h.apart i j r s hr hj n
    have ro := h.ok i r hr
    refine ⟨ap.x,fun q hq e => ?_,ap.xs,fun q hq => ?_⟩
    ·rcases lvs q hq with e' | e'
     ·exact ap.lv q e' e
     ·have := (ro.xm.row.lt q e).2
      omega
    ·rcases lvs q hq with e' | e'
     ·exact ap.ls q e'
     ·have := ro.Ww
      omega
   ·exact h.apart i k r t hr ht n
structure St (w0 : World) (lim : Nat) (RL : List Rec) (lval : Value) (w : World) : Prop where
 below : Below w0.heap.size w0 w
 flock : Flock RL w0.heap.size lim w
 row : w.ownsRow w0.heap.size 24 1 lval RL.length (RL.map fun r => .pointer (some ⟨r.x,0,none⟩))
 lo : ∀ q,lval.ownBlock = some q -> ∀ r ∈ RL,¬ (r.base <= q /\ q < r.W.heap.size)
 bare : RL = [] -> lval.ownBlock = none
theorem St.start {w0 w : World} (h : Below w0.heap.size w0 w) (lim : Nat) : St w0 lim [] (.slice none 0 0) w := ⟨h,Flock.nil _ _ _,World.ownsRow_nil _ _ _ _,fun q hq => (by cases hq),fun _ => rfl⟩
theorem St.later {w0 w w' : World} {lim : Nat} {RL : List Rec} {lval : Value} (h : St w0 lim RL lval w) (hb : Below w.heap.size w w') : St w0 lim RL lval w' := ⟨below_then h.below hb,h.flock.later hb,own_later h.row hb,h.lo,h.bare⟩
theorem St.more {w0 w : World} {lim lim' : Nat} {RL : List Rec} {lval : Value} (h : St w0 lim RL lval w) (hl : lim <= lim') : St w0 lim' RL lval w := ⟨h.below,h.flock.more hl,h.row,h.lo,h.bare⟩
theorem St.told {w0 w w' : World} {lim : Nat} {RL : List Rec} {lval : Value} (h : St w0 lim RL lval w) {j : Nat} {s : Rec} (hj : RL[j]? = some s) (ht : ToldP s.base s.W w s.x s.own s.a s.cap s.rs s.T s.F s.bM s.g s.cg s.bt s.ct s.lv s.LS w') :
  ∃ RL',RL'.length = RL.length /\ St w0 (lim + 4) RL' lval w' := by
 obtain ⟨RL',e1,e2,e3,hF,o1,o2,o3,o4,kept⟩ := h.flock.told hj ht
 have so := h.flock.ok j s hj
 have hx := so.x0
 have hl : ∀ q,s.lv.ownBlock = some q -> w0.heap.size <= q := fun q hq => by have := (so.xm.row.lt q hq).1; have := so.xm.bW; have := so.b0; omega
 have e4 : (RL'.map fun r => Value.pointer (some ⟨r.x,0,none⟩)) = RL.map fun r => .pointer (some ⟨r.x,0,none⟩) := by
  have := congrArg (List.map fun x => Value.pointer (some ⟨x,0,none⟩)) e2
  rw [List.map_map,List.map_map] at this
  exact this
 have sz := h.below.size
 refine ⟨RL',e1,⟨⟨o1.trans h.below.os,o2.trans h.below.tape,o3.trans h.below.output,by omega,fun q hq => (kept q (by omega) (by omega) (fun e => by have := hl q e.symm; omega)).trans (h.below.block q hq)⟩,hF,?_,fun q hq r hr => ?_,fun e => h.bare (List.length_eq_zero_iff.1 (by rw [<- e1,e]; rfl))⟩⟩
 ·rw [e4,e1]
  refine own_kept h.row (fun q hq => kept q (h.row.lt q hq).2 (fun e => ?_) (fun e => rows_ne h.row so.xm.row (by decide) (q := q) hq e.symm))
  subst e
  rcases h.row.2 with ⟨e,_⟩ | ⟨g,c,cur,e,_,h2,_⟩
  ·rw [e] at hq; cases hq
  ·rw [e] at hq; cases hq; rw [so.xm.blk] at h2; cases h2
 ·obtain ⟨t,ht,hb,hW⟩ := e3 r hr
  rw [hb,hW]
  exact h.lo q hq t ht
theorem St.made {w0 w w1 w2 : World} {lim : Nat} {RL : List Rec} {lval : Value} (h : St w0 lim RL lval w) (hb : Below w.heap.size w w1) {r : Rec} (hr : r.ok w0.heap.size lim w1) (hbase : w.heap.size = r.base) {o : Obj} {g cap : Nat} (hgr : (w1.alloc o).grownBy w2 lval.ownBlock)
  (hown : w2.ownsRow w0.heap.size 24 1 (.slice (some ⟨g,0,none⟩) (RL.length + 1) cap) (RL.length + 1) ((RL.map fun r => .pointer (some ⟨r.x,0,none⟩)) ++ [.pointer (some ⟨r.x,0,none⟩)])) (hat : lval.ownBlock = some g \/ g = (w1.alloc o).heap.size) :
  St w0 lim (RL ++ [r]) (.slice (some ⟨g,0,none⟩) (RL.length + 1) cap) w2 := by
 have h1 := h.later hb
 have hbo : Below w1.heap.size w1 (w1.alloc o) := (Below.refl _ _).alloc (Nat.le_refl _) _
 have hF := (h.flock.snoc hb hr (Nat.le_of_eq hbase)).later hbo
 have rowA := own_later h1.row hbo
 have hlb : ∀ q,lval.ownBlock = some q -> w0.heap.size <= q /\ q < w.heap.size := fun q hq => h.row.lt q hq
 have sz := h1.below.size
 have hsg := hgr.size
 simp only [World.size_alloc] at hsg
 have lo : ∀ q,lval.ownBlock = some q -> ∀ s ∈ RL ++ [r],¬ (s.base <= q /\ q < s.W.heap.size) := fun q hq s hs => by
  rw [List.mem_append,List.mem_singleton] at hs
  rcases hs with hs | rfl
  ·exact h.lo q hq s hs
  ·have := hlb q hq; omega
 have keptA : ∀ q,q < (w1.alloc o).heap.size -> lval.ownBlock ≠ some q -> w2.heap[q]? = (w1.alloc o).heap[q]? := fun q hq hn => hgr.block q hq (fun e => hn e.symm)
 refine ⟨⟨hgr.os.trans (below_then h1.below hbo).os,hgr.tape.trans (below_then h1.below hbo).tape,hgr.output.trans (below_then h1.below hbo).output,by omega,fun q hq => (keptA q (by simp; omega) (fun e => by have := hlb q e; omega)).trans ((below_then h1.below hbo).block q hq)⟩,⟨fun i s hs => ?_,hF.apart⟩,by simpa using hown,fun q hq s hs => ?_,fun e => (by simp at e)⟩
 ·have so := hF.ok i s hs
  refine ⟨so.good,so.xm.keep so.ht (fun q hq hc => keptA q hq (fun e => ?_)) hgr.size so.Ww,Nat.le_trans so.Ww hgr.size,so.b0,so.lim,so.four⟩
  have hne : RL ≠ [] := fun hn => by rw [h.bare hn] at e; cases e
  rcases hc with hc | hc | hc | hc | ⟨cur,hc⟩
  ·exact lo q e s (List.mem_of_getElem? hs) hc
  ·subst hc
   rcases rowA.2 with ⟨e',_⟩ | ⟨_,_,cur,e',_,h2,_⟩
   ·rw [e'] at e; cases e
   ·rw [e'] at e; cases e; rw [so.xm.blk] at h2; cases h2
  ·obtain ⟨t,ts,hts⟩ := List.exists_cons_of_ne_nil hne
   have rA := rowA
   rw [hts] at rA
   exact tri_ne so.xm.tri so.ht (row_first rA e) (fun i => by simp) hc.symm
  ·exact rows_ne rowA so.xm.row (by decide) (q := q) e hc
  ·rcases rowA.2 with ⟨e',_⟩ | ⟨_,_,cur',e',_,h2,_⟩
   ·rw [e'] at e; cases e
   ·rw [e'] at e; cases e; rw [hc] at h2; cases h2
 ·obtain rfl : g = q := by simpa [Value.ownBlock] using hq
  rcases hat with e | e
  ·exact lo g e s hs
  ·have so := (h.flock.snoc hb hr (Nat.le_of_eq hbase))
   obtain ⟨i,hi⟩ := List.getElem?_of_mem hs
   have := (so.ok i s hi).Ww
   simp only [World.size_alloc] at e
   omega
end Go.Proofs.YtdkaoopkbhaheaaGreat
