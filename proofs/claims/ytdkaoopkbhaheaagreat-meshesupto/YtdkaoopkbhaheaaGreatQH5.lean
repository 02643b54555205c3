import Derived.Test.YtdkaoopkbhaheaaGreatQH4
import Derived.Test.YtdkaoopkbhaheaaGreatPF11
set_option maxHeartbeats 8000000
namespace Go.Proofs.YtdkaoopkbhaheaaGreat
open Go.RowKit Go.Lib
open Jor
open scoped Classical
set_option linter.unusedVariables false
set_option linter.unusedSimpArgs false
def sq : List IP := [(0, 0), (4, 0), (4, 4), (0, 4)]
theorem sq_twice : ∀ i, i < 4 -> ∀ j, j < i -> pt sq i ≠ pt sq j := by decide +kernel
theorem sq_touch : ∀ i, i < 4 -> ∀ j, j < i -> touchE [sq] i j = false := by decide +kernel
theorem sq_near : ∀ i, i < 4 -> nearB (pt sq i).1 (pt sq i).2 = true := by decide +kernel
theorem sq_area : psum [sq] 1 = 32 := by decide +kernel
theorem sq_verts : verts [sq] = sq := by simp [verts]
theorem sq_chk : chkP [sq] = 0 := by
 refine chkP0 ?_ ?_ ?_ ?_ ?_ ?_ ?_
 ·unfold Many; simp
 ·refine not_short fun k hk => ?_
  obtain rfl : k = 0 := by simp at hk; omega
  decide
 ·refine not_far (by decide) fun i hi => ?_
  have : i < 4 := hi
  exact sq_near i this
 ·rintro ⟨i, j, hj, hi, h⟩
  exact sq_twice i hi j hj h
 ·rintro ⟨i, j, hj, hi, h⟩
  rw [sq_touch i hi j hj] at h; cases h
 ·rintro ⟨k, h1, h2, _⟩
  simp at h2; omega
 ·rintro ⟨k, j, h1, h2, _⟩
  simp at h2; omega
theorem sq_areaP : areaP [sq] = 32 := (if_pos sq_chk).trans sq_area
set_option maxRecDepth 100000 in
theorem sqr_any (w : World) : Calls Tryz.prog 32 #[] w fun e w' => e = .returned (.slice (some ⟨w.heap.size + 1, 0, none⟩) 1 1) /\ RingsL w' (some ⟨w.heap.size + 1, 0, none⟩) (fun _ => some ⟨w.heap.size, 0, none⟩) (fun _ => 4) [sq] /\ Below w.heap.size w w' := by
 go_enter Tryz.func32, Tryz.ntmps32
 go_wp2
 go_ret
 refine ⟨rfl, .inr ⟨_, _, rfl, fun k hk => ?_⟩, ((Below.refl _ _).alloc (Nat.le_refl _) _).alloc (by simp) _⟩
 obtain rfl : k = 0 := by simp at hk; omega
 refine ⟨by simp [go_sem]; rfl, .inr ⟨_, _, rfl, fun i hi => ?_⟩⟩
 have : i < 4 := hi
 rcases (show i = 0 \/ i = 1 \/ i = 2 \/ i = 3 by omega) with rfl | rfl | rfl | rfl
 all_goals (constructor <;> (simp [go_sem]; rfl))
theorem num_any (e : Int) (w : World) : Calls Tryz.prog 20 #[.int .i64 e] w fun r w' => r = .returned (.int .i64 e) /\ w' = w := by
 go_enter Tryz.func20, Tryz.ntmps20
 go_wp2
 go_ret
 exact ⟨rfl, rfl⟩
theorem lent_rings {W : World} {rs : List (List IP)} {X : Nat} {v : Value} {R : Nat -> Nat} (h : LentAt W rs X rs.length v R) : RingsL W (some ⟨X + 1, 0, none⟩) (fun k => some ⟨R k, 0, none⟩) (fun k => (rg rs k).length + 8) rs := by
 refine .inr ⟨X + 1, 0, rfl, fun k hk => ⟨?_, .inr ⟨R k, 0, rfl, fun i hi => ?_⟩⟩⟩
 ·rw [Nat.zero_add, h.all.cellAt k (by omega), allL_get R rs rs.length k hk]; rfl
 ·have hr := h.ring k hk
  have hi' : i < (rg rs k).length := hi
  have g1 := cells2_get (full (rg rs k)) i (by rw [full_length]; omega)
  rw [full_low hi'] at g1
  rw [Nat.zero_add]
  exact ⟨(hr.cellAt (i * 2) (by omega)).trans g1.1, (hr.cellAt (i * 2 + 1) (by omega)).trans g1.2⟩
set_option maxRecDepth 100000 in
theorem checks_walk (a : Option Addr) (cap : Nat) (A : Nat -> Option Addr) (C : Nat -> Nat) (rs : List (List IP)) (w : World) (hn : rs.length <= 1048576) (hp : RingsL w a A C rs) (hsz : (verts rs).length <= 1048576) :
  Calls Tryz.prog 11 #[.slice a rs.length cap] w fun e w' => e = .returned (.bool true) /\ Below w.heap.size w w' := by
 have same := check_same rs
 go_enter Tryz.func11, Tryz.ntmps11
 go_wp2_with fail
 refine (sqr_any _).mono ?_
 rintro e w1 ⟨rfl, hq, hb1⟩
 go_wp2_with fail
 refine (lend_any (some ⟨w.heap.size + 1, 0, none⟩) 1 _ _ [sq] _ (by decide) hq (by decide)).mono ?_
 rintro e w2 ⟨rfl, ⟨v2, R2, hL2⟩, hb2⟩
 go_wp2_with fail
 refine (farea_any _ _ _ _ _ [sq] _ (by decide) (by decide) (by decide) (by decide) (lent_rings hL2)).mono ?_
 rintro e w3 ⟨rfl, hb3⟩
 rw [sq_areaP, sq_chk]
 have B3 := below_then (below_then hb1 hb2) hb3
 clear hb1 hb2 hb3 hq hL2
 go_wp2_with fail
 have hp3 := Rings.later B3 hp
 refine (lend_any _ _ _ _ rs _ hn hp3 hsz).mono ?_
 rintro e w4 ⟨rfl, ⟨v4, R4, hL4⟩, hb4⟩
 have hr4 := lent_rings hL4
 go_wp2_with fail
 refine (fcheck_any _ _ _ _ _ rs _ (by omega) (by omega) hn hsz hr4).mono ?_
 rintro e w5 ⟨rfl, hb5⟩
 go_wp2_with fail
 refine (farea_any _ _ _ _ _ rs _ (by omega) (by omega) hn hsz (Rings.later hb5 hr4)).mono ?_
 rintro e w6 ⟨rfl, hb6⟩
 have hb56 := below_then hb5 hb6
 have B36 := below_then hb4 hb56
 have hF6 := hL4.from.later hb56
 go_wp2_with fail
 refine (still_any _ _ _ _ rs w3 _ _ _ hn hp3 hsz hF6 B36).mono ?_
 rintro e w7 ⟨rfl, hb7, _⟩
 have B7 := below_then B3 hb7
 clear hb4 hb5 hb6 hb56 B36 hF6 hL4 hr4 hp3 hb7 B3
 have hp7 := Rings.later B7 hp
 go_wp2_with fail
 refine (refCheck_any _ _ _ _ rs _ hn hp7 hsz).mono ?_
 rintro e w8 ⟨rfl, hb8⟩
 rw [<- same]
 have B8 := below_then B7 hb8
 have hp8 := Rings.later B8 hp
 by_cases hz : chkP rs = 0
 ·obtain ⟨g1, g2, g3⟩ := chkP_zero hz
  obtain ⟨f1, f2, f3⟩ := fine_of g1 g2
  have hA : areaP rs = asum (fun k => (rg rs k).length) (fun k => pt (rg rs k)) rs.length := (if_pos hz).trans (area_same rs f2 g3 rs.length (Nat.le_refl _)).1
  rw [hz, hA]
  have RA : Hid (Calls Tryz.prog 35 #[.slice a rs.length cap] w8 fun e w' => e = .returned (.int .i64 (asum (fun k => (rg rs k).length) (fun k => pt (rg rs k)) rs.length)) /\ Below w8.heap.size w8 w') := refArea_any a rs.length cap A (fun k => (rg rs k).length) C (fun k => pt (rg rs k)) w8 (by unfold maxLen; omega) (fun k _ => by have := rg_le rs k; unfold maxLen; omega) hp8
  generalize asum (fun k => (rg rs k).length) (fun k => pt (rg rs k)) rs.length = ar at *
  go_wp2_with (first | (go_at_call 20; refine (num_any _ _).mono ?_; rintro e w9 ⟨rfl, hw9⟩; rw [hw9]; clear hw9 w9) | (go_at_call 35; refine Calls.mono RA.out ?_; rintro e w9 ⟨rfl, hb9⟩))
  go_ret
  exact ⟨by simp, below_then B8 hb9⟩
 ·have hA : areaP rs = 0 := if_neg hz
  rw [hA]
  have hz' : (chkP rs == 0) = false := by rw [beq_eq_false_iff_ne]; exact hz
  generalize chkP rs = ch at *
  go_wp2_with (go_at_call 20; refine (num_any _ _).mono ?_; rintro e w9 ⟨rfl, hw9⟩; rw [hw9]; clear hw9 w9)
  go_ret
  exact ⟨by simp, B8⟩
end Go.Proofs.YtdkaoopkbhaheaaGreat
