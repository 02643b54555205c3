/- Contracts of the document's Four and bad. -/
import Derived.Test.YtdkaoopkbhaheaaB2
namespace Go.Proofs.Ytdkaoopkbhaheaa
open Go.RowKit
set_option linter.unusedVariables false

set_option maxHeartbeats 400000 in
theorem four_any (x y : Int) (w : World) :
    Calls Try.prog 56 #[.agg #[.int .i64 x, .int .i64 y]] w fun e w' => e = .returned (.agg #[.int .i64 (wrap64 (4 * x)), .int .i64 (wrap64 (4 * y))]) ∧ Below w.heap.size w w' := by
  go_enter Try.func56, Try.ntmps56
  go_wp2
  exact bodyPost_ret (v := .agg #[.int .i64 (wrap64 (4 * x)), .int .i64 (wrap64 (4 * y))]) (by simp [results, Try.results56, go_sem]) rfl ⟨rfl, ((Below.refl _ _).alloc (Nat.le_refl _) _).alloc (by simp) _⟩

/-- Do two edges share what they may not? -/
def badB (eA eB ePx ePy eQx eQy fA fB fPx fPy fQx fQy : Int) : Bool :=
  if eA = fB then onB eQx eQy fPx fPy fQx fQy || onB fPx fPy ePx ePy eQx eQy
  else if eB = fA then onB ePx ePy fPx fPy fQx fQy || onB fQx fQy ePx ePy eQx eQy
  else refMeetB ePx ePy eQx eQy fPx fPy fQx fQy

set_option maxHeartbeats 1000000 in
theorem bad_backa_true (eA eB eR ePx ePy eQx eQy fA fB fR fPx fPy fQx fQy : Int) (w : World) (ha : eA = fB) (hq : (eB == fA) = false) (h1 : onB eQx eQy fPx fPy fQx fQy = true) :
    Calls Try.prog 54 #[.agg #[.int .i64 eA, .int .i64 eB, .int .i64 eR, .int .i64 ePx, .int .i64 ePy, .int .i64 eQx, .int .i64 eQy], .agg #[.int .i64 fA, .int .i64 fB, .int .i64 fR, .int .i64 fPx, .int .i64 fPy, .int .i64 fQx, .int .i64 fQy]] w fun r w' => r = .returned (.bool (true)) ∧ Below w.heap.size w w' := by
  subst ha
  go_enter Try.func54, Try.ntmps54
  go_wp2_with fail
  refine (on_any _ _ _ _ _ _ _).mono ?_
  rintro e w1 ⟨rfl, hb1⟩
  obtain ⟨hc1, hf1⟩ := old_reads hb1
  go_wp2_with fail
  refine (on_any _ _ _ _ _ _ _).mono ?_
  rintro e w2 ⟨rfl, hb2⟩
  clear hc1 hf1
  go_wp2_with fail
  go_ret
  exact ⟨rfl, below_then (below_then (((((Below.refl _ _).alloc (Nat.le_refl _) _).alloc (by simp) _).alloc (by simp; omega) _).alloc (by simp; omega) _) hb1) hb2⟩

set_option maxHeartbeats 1000000 in
theorem bad_backa_false (eA eB eR ePx ePy eQx eQy fA fB fR fPx fPy fQx fQy : Int) (w : World) (ha : eA = fB) (hq : (eB == fA) = false) (h1 : onB eQx eQy fPx fPy fQx fQy = false) :
    Calls Try.prog 54 #[.agg #[.int .i64 eA, .int .i64 eB, .int .i64 eR, .int .i64 ePx, .int .i64 ePy, .int .i64 eQx, .int .i64 eQy], .agg #[.int .i64 fA, .int .i64 fB, .int .i64 fR, .int .i64 fPx, .int .i64 fPy, .int .i64 fQx, .int .i64 fQy]] w fun r w' => r = .returned (.bool (onB fPx fPy ePx ePy eQx eQy)) ∧ Below w.heap.size w w' := by
  subst ha
  go_enter Try.func54, Try.ntmps54
  go_wp2_with fail
  refine (on_any _ _ _ _ _ _ _).mono ?_
  rintro e w1 ⟨rfl, hb1⟩
  obtain ⟨hc1, hf1⟩ := old_reads hb1
  go_wp2_with fail
  refine (on_any _ _ _ _ _ _ _).mono ?_
  rintro e w2 ⟨rfl, hb2⟩
  clear hc1 hf1
  go_wp2_with fail
  go_ret
  exact ⟨rfl, below_then (below_then (((((Below.refl _ _).alloc (Nat.le_refl _) _).alloc (by simp) _).alloc (by simp; omega) _).alloc (by simp; omega) _) hb1) hb2⟩

set_option maxHeartbeats 1000000 in
theorem bad_backb_true (eA eB eR ePx ePy eQx eQy fA fB fR fPx fPy fQx fQy : Int) (w : World) (ha : eA = fB) (hq : eB = fA) (h1 : onB eQx eQy fPx fPy fQx fQy = true) :
    Calls Try.prog 54 #[.agg #[.int .i64 eA, .int .i64 eB, .int .i64 eR, .int .i64 ePx, .int .i64 ePy, .int .i64 eQx, .int .i64 eQy], .agg #[.int .i64 fA, .int .i64 fB, .int .i64 fR, .int .i64 fPx, .int .i64 fPy, .int .i64 fQx, .int .i64 fQy]] w fun r w' => r = .returned (.bool (true)) ∧ Below w.heap.size w w' := by
  subst ha hq
  go_enter Try.func54, Try.ntmps54
  go_wp2_with fail
  refine (on_any _ _ _ _ _ _ _).mono ?_
  rintro e w1 ⟨rfl, hb1⟩
  obtain ⟨hc1, hf1⟩ := old_reads hb1
  go_wp2_with fail
  refine (on_any _ _ _ _ _ _ _).mono ?_
  rintro e w2 ⟨rfl, hb2⟩
  clear hc1 hf1
  go_wp2_with fail
  go_ret
  exact ⟨rfl, below_then (below_then (((((Below.refl _ _).alloc (Nat.le_refl _) _).alloc (by simp) _).alloc (by simp; omega) _).alloc (by simp; omega) _) hb1) hb2⟩

set_option maxHeartbeats 1000000 in
theorem bad_backb_false (eA eB eR ePx ePy eQx eQy fA fB fR fPx fPy fQx fQy : Int) (w : World) (ha : eA = fB) (hq : eB = fA) (h1 : onB eQx eQy fPx fPy fQx fQy = false) :
    Calls Try.prog 54 #[.agg #[.int .i64 eA, .int .i64 eB, .int .i64 eR, .int .i64 ePx, .int .i64 ePy, .int .i64 eQx, .int .i64 eQy], .agg #[.int .i64 fA, .int .i64 fB, .int .i64 fR, .int .i64 fPx, .int .i64 fPy, .int .i64 fQx, .int .i64 fQy]] w fun r w' => r = .returned (.bool (onB fPx fPy ePx ePy eQx eQy)) ∧ Below w.heap.size w w' := by
  subst ha hq
  go_enter Try.func54, Try.ntmps54
  go_wp2_with fail
  refine (on_any _ _ _ _ _ _ _).mono ?_
  rintro e w1 ⟨rfl, hb1⟩
  obtain ⟨hc1, hf1⟩ := old_reads hb1
  go_wp2_with fail
  refine (on_any _ _ _ _ _ _ _).mono ?_
  rintro e w2 ⟨rfl, hb2⟩
  clear hc1 hf1
  go_wp2_with fail
  go_ret
  exact ⟨rfl, below_then (below_then (((((Below.refl _ _).alloc (Nat.le_refl _) _).alloc (by simp) _).alloc (by simp; omega) _).alloc (by simp; omega) _) hb1) hb2⟩

set_option maxHeartbeats 1000000 in
theorem bad_next_true (eA eB eR ePx ePy eQx eQy fA fB fR fPx fPy fQx fQy : Int) (w : World) (hb : eB = fA) (ha : (eA == fB) = false) (h1 : onB ePx ePy fPx fPy fQx fQy = true) :
    Calls Try.prog 54 #[.agg #[.int .i64 eA, .int .i64 eB, .int .i64 eR, .int .i64 ePx, .int .i64 ePy, .int .i64 eQx, .int .i64 eQy], .agg #[.int .i64 fA, .int .i64 fB, .int .i64 fR, .int .i64 fPx, .int .i64 fPy, .int .i64 fQx, .int .i64 fQy]] w fun r w' => r = .returned (.bool (true)) ∧ Below w.heap.size w w' := by
  subst hb
  go_enter Try.func54, Try.ntmps54
  go_wp2_with fail
  refine (on_any _ _ _ _ _ _ _).mono ?_
  rintro e w1 ⟨rfl, hb1⟩
  obtain ⟨hc1, hf1⟩ := old_reads hb1
  go_wp2_with fail
  refine (on_any _ _ _ _ _ _ _).mono ?_
  rintro e w2 ⟨rfl, hb2⟩
  clear hc1 hf1
  go_wp2_with fail
  go_ret
  exact ⟨rfl, below_then (below_then (((((Below.refl _ _).alloc (Nat.le_refl _) _).alloc (by simp) _).alloc (by simp; omega) _).alloc (by simp; omega) _) hb1) hb2⟩

set_option maxHeartbeats 1000000 in
theorem bad_next_false (eA eB eR ePx ePy eQx eQy fA fB fR fPx fPy fQx fQy : Int) (w : World) (hb : eB = fA) (ha : (eA == fB) = false) (h1 : onB ePx ePy fPx fPy fQx fQy = false) :
    Calls Try.prog 54 #[.agg #[.int .i64 eA, .int .i64 eB, .int .i64 eR, .int .i64 ePx, .int .i64 ePy, .int .i64 eQx, .int .i64 eQy], .agg #[.int .i64 fA, .int .i64 fB, .int .i64 fR, .int .i64 fPx, .int .i64 fPy, .int .i64 fQx, .int .i64 fQy]] w fun r w' => r = .returned (.bool (onB fQx fQy ePx ePy eQx eQy)) ∧ Below w.heap.size w w' := by
  subst hb
  go_enter Try.func54, Try.ntmps54
  go_wp2_with fail
  refine (on_any _ _ _ _ _ _ _).mono ?_
  rintro e w1 ⟨rfl, hb1⟩
  obtain ⟨hc1, hf1⟩ := old_reads hb1
  go_wp2_with fail
  refine (on_any _ _ _ _ _ _ _).mono ?_
  rintro e w2 ⟨rfl, hb2⟩
  clear hc1 hf1
  go_wp2_with fail
  go_ret
  exact ⟨rfl, below_then (below_then (((((Below.refl _ _).alloc (Nat.le_refl _) _).alloc (by simp) _).alloc (by simp; omega) _).alloc (by simp; omega) _) hb1) hb2⟩

set_option maxHeartbeats 1000000 in
theorem bad_far (eA eB eR ePx ePy eQx eQy fA fB fR fPx fPy fQx fQy : Int) (w : World) (hb : (eB == fA) = false) (ha : (eA == fB) = false) :
    Calls Try.prog 54 #[.agg #[.int .i64 eA, .int .i64 eB, .int .i64 eR, .int .i64 ePx, .int .i64 ePy, .int .i64 eQx, .int .i64 eQy], .agg #[.int .i64 fA, .int .i64 fB, .int .i64 fR, .int .i64 fPx, .int .i64 fPy, .int .i64 fQx, .int .i64 fQy]] w fun r w' => r = .returned (.bool (refMeetB ePx ePy eQx eQy fPx fPy fQx fQy)) ∧ Below w.heap.size w w' := by
  go_enter Try.func54, Try.ntmps54
  go_wp2_with fail
  refine (refMeet_any _ _ _ _ _ _ _ _ _).mono ?_
  rintro e w1 ⟨rfl, hb1⟩
  go_wp2_with fail
  go_ret
  exact ⟨rfl, below_then (((Below.refl _ _).alloc (Nat.le_refl _) _).alloc (by simp) _) hb1⟩

theorem bad_any (eA eB eR ePx ePy eQx eQy fA fB fR fPx fPy fQx fQy : Int) (w : World) :
    Calls Try.prog 54 #[.agg #[.int .i64 eA, .int .i64 eB, .int .i64 eR, .int .i64 ePx, .int .i64 ePy, .int .i64 eQx, .int .i64 eQy], .agg #[.int .i64 fA, .int .i64 fB, .int .i64 fR, .int .i64 fPx, .int .i64 fPy, .int .i64 fQx, .int .i64 fQy]] w fun r w' => r = .returned (.bool (badB eA eB ePx ePy eQx eQy fA fB fPx fPy fQx fQy)) ∧ Below w.heap.size w w' := by
  unfold badB
  by_cases ha : eA = fB
  · rw [if_pos ha]
    cases h1 : onB eQx eQy fPx fPy fQx fQy
    · by_cases hq : eB = fA
      · exact bad_backb_false eA eB eR ePx ePy eQx eQy fA fB fR fPx fPy fQx fQy w ha hq h1
      · exact bad_backa_false eA eB eR ePx ePy eQx eQy fA fB fR fPx fPy fQx fQy w ha (beq_eq_false_iff_ne.2 hq) h1
    · by_cases hq : eB = fA
      · exact bad_backb_true eA eB eR ePx ePy eQx eQy fA fB fR fPx fPy fQx fQy w ha hq h1
      · exact bad_backa_true eA eB eR ePx ePy eQx eQy fA fB fR fPx fPy fQx fQy w ha (beq_eq_false_iff_ne.2 hq) h1
  · rw [if_neg ha]
    by_cases hb : eB = fA
    · rw [if_pos hb]
      cases h1 : onB ePx ePy fPx fPy fQx fQy
      · exact bad_next_false eA eB eR ePx ePy eQx eQy fA fB fR fPx fPy fQx fQy w hb (beq_eq_false_iff_ne.2 ha) h1
      · exact bad_next_true eA eB eR ePx ePy eQx eQy fA fB fR fPx fPy fQx fQy w hb (beq_eq_false_iff_ne.2 ha) h1
    · rw [if_neg hb]
      exact bad_far eA eB eR ePx ePy eQx eQy fA fB fR fPx fPy fQx fQy w (beq_eq_false_iff_ne.2 hb) (beq_eq_false_iff_ne.2 ha)
end Go.Proofs.Ytdkaoopkbhaheaa
