/- Contracts of the functions on segments: the program's Meet and the document's. -/
import Derived.Test.YtdkaoopkbhaheaaA3
namespace Go.Proofs.Ytdkaoopkbhaheaa
open Go.RowKit

def overlapB (a b c d : Int) : Bool := decide ((a ≤ c ∨ a ≤ d ∨ b ≤ c ∨ b ≤ d) ∧ (c ≤ a ∨ c ≤ b ∨ d ≤ a ∨ d ≤ b))
def inB (n a b : Int) : Bool := decide ((a ≤ n ∧ n ≤ b) ∨ (b ≤ n ∧ n ≤ a))
def mulW (a b : Int) : Int := wrap64 (a * b)
def oneSideB (ax ay bx bY cx cy dx dy : Int) : Bool := decide (0 < mulW (turnW ax ay bx bY cx cy) (turnW ax ay bx bY dx dy))
def meetB (ax ay bx bY cx cy dx dy : Int) : Bool := overlapB ax bx cx dx && overlapB ay bY cy dy && !oneSideB ax ay bx bY cx cy dx dy && !oneSideB cx cy dx dy ax ay bx bY
def refTurn (ax ay bx bY cx cy : Int) : Int := sgn (twiceW ax ay bx bY cx cy)
def onB (px py ax ay bx bY : Int) : Bool := (refTurn ax ay bx bY px py == 0) && inB px ax bx && inB py ay bY
def apartB (ax ay bx bY cx cy dx dy : Int) : Bool := mulW (refTurn ax ay bx bY cx cy) (refTurn ax ay bx bY dx dy) == -1
def refMeetB (ax ay bx bY cx cy dx dy : Int) : Bool :=
  onB ax ay cx cy dx dy || onB bx bY cx cy dx dy || onB cx cy ax ay bx bY || onB dx dy ax ay bx bY || (apartB ax ay bx bY cx cy dx dy && apartB cx cy dx dy ax ay bx bY)

theorem ret_bool {a b : Bool} (h : a = b) : Ending.returned (.bool a) = .returned (.bool b) := by rw [h]

set_option maxHeartbeats 1000000 in
theorem overlap_any (a b c d : Int) (w : World) :
    Calls Try.prog 68 #[.int .i64 a, .int .i64 b, .int .i64 c, .int .i64 d] w fun e w' => e = .returned (.bool (overlapB a b c d)) ∧ w' = w := by
  go_enter Try.func68, Try.ntmps68
  go_wp2
  all_goals go_ret
  all_goals
    refine ⟨ret_bool ?_, rfl⟩
    unfold overlapB
    first
      | (rw [Bool.eq_iff_iff, decide_eq_true_iff]; simp only [decide_eq_true_eq]; omega)
      | (symm; rw [decide_eq_true_iff]; omega)
      | (symm; rw [decide_eq_false_iff_not]; omega)

set_option maxHeartbeats 1000000 in
theorem in_any (n a b : Int) (w : World) :
    Calls Try.prog 70 #[.int .i64 n, .int .i64 a, .int .i64 b] w fun e w' => e = .returned (.bool (inB n a b)) ∧ w' = w := by
  by_cases h1 : a ≤ n
  · by_cases h2 : n ≤ b
    · have e : inB n a b = true := by simp [inB, *]
      rw [e]; clear e
      go_enter Try.func70, Try.ntmps70
      go_wp2
      go_ret
      exact ⟨rfl, rfl⟩
    · by_cases h3 : n ≤ a
      · have e : inB n a b = true := by simp only [inB, decide_eq_true_eq]; omega
        rw [e]; clear e
        have h4 : b ≤ n := by omega
        go_enter Try.func70, Try.ntmps70
        go_wp2
        go_ret
        exact ⟨rfl, rfl⟩
      · have e : inB n a b = false := by simp only [inB, decide_eq_false_iff_not]; omega
        rw [e]; clear e
        have h4 : b ≤ n := by omega
        go_enter Try.func70, Try.ntmps70
        go_wp2
        go_ret
        exact ⟨rfl, rfl⟩
  · by_cases h3 : b ≤ n
    · have e : inB n a b = true := by simp only [inB, decide_eq_true_eq]; omega
      rw [e]; clear e
      have h4 : n ≤ a := by omega
      go_enter Try.func70, Try.ntmps70
      go_wp2
      go_ret
      exact ⟨rfl, rfl⟩
    · have e : inB n a b = false := by simp only [inB, decide_eq_false_iff_not]; omega
      rw [e]; clear e
      go_enter Try.func70, Try.ntmps70
      go_wp2
      go_ret
      exact ⟨rfl, rfl⟩

set_option maxHeartbeats 2000000 in
theorem oneSide_any (ax ay bx bY cx cy dx dy : Int) (w : World) :
    Calls Try.prog 69 #[.agg #[.int .i64 ax, .int .i64 ay], .agg #[.int .i64 bx, .int .i64 bY], .agg #[.int .i64 cx, .int .i64 cy], .agg #[.int .i64 dx, .int .i64 dy]] w fun e w' => e = .returned (.bool (oneSideB ax ay bx bY cx cy dx dy)) ∧ Below w.heap.size w w' := by
  go_enter Try.func69, Try.ntmps69
  go_wp2
  go_region_held3 (fun w' => (Below w.heap.size w w' ∧ w.heap.size ≤ w.heap.size) ∧ w'.cell? ⟨w.heap.size, 0, none⟩ = some (.int .i64 ax) ∧ w'.cell? ⟨w.heap.size, 1, none⟩ = some (.int .i64 ay) ∧ w'.cell? ⟨w.heap.size + 1, 0, none⟩ = some (.int .i64 bx) ∧ w'.cell? ⟨w.heap.size + 1, 1, none⟩ = some (.int .i64 bY) ∧ w'.cell? ⟨w.heap.size + 1 + 1, 0, none⟩ = some (.int .i64 cx) ∧ w'.cell? ⟨w.heap.size + 1 + 1, 1, none⟩ = some (.int .i64 cy) ∧ w'.cell? ⟨w.heap.size + 1 + 1 + 1, 0, none⟩ = some (.int .i64 dx) ∧ w'.cell? ⟨w.heap.size + 1 + 1 + 1, 1, none⟩ = some (.int .i64 dy))
    (first | (go_split_ands; refine ⟨⟨?_, Nat.le_refl _⟩, ?_, ?_, ?_, ?_, ?_, ?_, ?_, ?_⟩; (exact (((((Below.refl _ _).alloc (Nat.le_refl _) _).alloc (by simp) _).alloc (by simp; omega) _).alloc (by simp; omega) _).drew); all_goals (simp [go_sem])) | (go_split_ands; exact ⟨keep_below (by assumption) ⟨by assumption, by assumption⟩, cell_later (by assumption) (by assumption), cell_later (by assumption) (by assumption), cell_later (by assumption) (by assumption), cell_later (by assumption) (by assumption), cell_later (by assumption) (by assumption), cell_later (by assumption) (by assumption), cell_later (by assumption) (by assumption), cell_later (by assumption) (by assumption)⟩) | (go_split_ands; refine ⟨⟨?_, ?_⟩, ?_, ?_, ?_, ?_, ?_, ?_, ?_, ?_⟩ <;> assumption))
    (first | (go_at_call 40; refine (planeTurn_any _ _ _ _ _ _ _).mono ?_; rintro e w1 ⟨rfl, hb1⟩))
  go_split_ands
  go_wp2
  go_ret
  refine ⟨ret_bool ?_, by assumption⟩
  unfold oneSideB mulW
  rw [← wrap_i64]


set_option maxHeartbeats 2000000 in
theorem planeMeet_any (ax ay bx bY cx cy dx dy : Int) (w : World) :
    Calls Try.prog 47 #[.agg #[.int .i64 ax, .int .i64 ay], .agg #[.int .i64 bx, .int .i64 bY], .agg #[.int .i64 cx, .int .i64 cy], .agg #[.int .i64 dx, .int .i64 dy]] w fun e w' => e = .returned (.bool (meetB ax ay bx bY cx cy dx dy)) ∧ Below w.heap.size w w' := by
  cases h1 : overlapB ax bx cx dx
  · have e : meetB ax ay bx bY cx cy dx dy = false := by simp [meetB, h1]
    rw [e]; clear e
    go_enter Try.func47, Try.ntmps47
    go_wp2_with (first | (go_at_call 68; refine (overlap_any _ _ _ _ _).mono ?_; rintro e w1 ⟨rfl, hw1⟩; rw [hw1]; clear hw1 w1))
    go_ret
    exact ⟨rfl, (((((Below.refl _ _).alloc (Nat.le_refl _) _).alloc (by simp) _).alloc (by simp; omega) _).alloc (by simp; omega) _)⟩
  · cases h2 : overlapB ay bY cy dy
    · have e : meetB ax ay bx bY cx cy dx dy = false := by simp [meetB, h2]
      rw [e]; clear e
      go_enter Try.func47, Try.ntmps47
      go_wp2_with (first | (go_at_call 68; refine (overlap_any _ _ _ _ _).mono ?_; rintro e w1 ⟨rfl, hw1⟩; rw [hw1]; clear hw1 w1))
      go_ret
      exact ⟨rfl, (((((Below.refl _ _).alloc (Nat.le_refl _) _).alloc (by simp) _).alloc (by simp; omega) _).alloc (by simp; omega) _)⟩
    · cases h3 : oneSideB ax ay bx bY cx cy dx dy
      · cases h4 : oneSideB cx cy dx dy ax ay bx bY
        all_goals
          have e : meetB ax ay bx bY cx cy dx dy = !oneSideB cx cy dx dy ax ay bx bY := by simp [meetB, h1, h2, h3]
          rw [e, h4]; clear e
          go_enter Try.func47, Try.ntmps47
          go_wp2_with (first | (go_at_call 68; refine (overlap_any _ _ _ _ _).mono ?_; rintro e w1 ⟨rfl, hw1⟩; rw [hw1]; clear hw1 w1))
          refine (oneSide_any _ _ _ _ _ _ _ _ _).mono ?_
          rintro e w0 ⟨rfl, hb0⟩
          obtain ⟨hc0, hf0⟩ := old_reads hb0
          go_wp2_with fail
          refine (oneSide_any _ _ _ _ _ _ _ _ _).mono ?_
          rintro e w1 ⟨rfl, hb1⟩
          clear hc0 hf0
          go_wp2_with fail
          go_ret
          exact ⟨rfl, ((((((Below.refl _ _).alloc (Nat.le_refl _) _).alloc (by simp) _).alloc (by simp; omega) _).alloc (by simp; omega) _).trans (hb0.mono (by simp; omega))).trans (hb1.mono (by have := hb0.size; simp at this; omega))⟩
      · have e : meetB ax ay bx bY cx cy dx dy = false := by simp [meetB, h3]
        rw [e]; clear e
        go_enter Try.func47, Try.ntmps47
        go_wp2_with (first | (go_at_call 68; refine (overlap_any _ _ _ _ _).mono ?_; rintro e w1 ⟨rfl, hw1⟩; rw [hw1]; clear hw1 w1) | (go_at_call 69; refine (oneSide_any _ _ _ _ _ _ _ _ _).mono ?_; rintro e w1 ⟨rfl, hb1⟩; obtain ⟨hc1, hf1⟩ := old_reads hb1))
        go_ret
        exact ⟨rfl, (((((Below.refl _ _).alloc (Nat.le_refl _) _).alloc (by simp) _).alloc (by simp; omega) _).alloc (by simp; omega) _).trans (hb1.mono (by simp; omega))⟩
end Go.Proofs.Ytdkaoopkbhaheaa
