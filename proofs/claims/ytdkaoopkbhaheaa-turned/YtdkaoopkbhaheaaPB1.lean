import Derived.Test.YtdkaoopkbhaheaaPA1
import Derived.Deep.QuietTactic
import Derived.BigQuiet
namespace Go.Proofs.Ytdkaoopkbhaheaa
open Go.RowKit
def overlapB (a b c d : Int) : Bool := decide ((a ≤ c ∨ a ≤ d ∨ b ≤ c ∨ b ≤ d) ∧ (c ≤ a ∨ c ≤ b ∨ d ≤ a ∨ d ≤ b))
def inB (n a b : Int) : Bool := decide ((a ≤ n ∧ n ≤ b) ∨ (b ≤ n ∧ n ≤ a))
def mulW (a b : Int) : Int := wrap64 (a * b)
def oneSideB (ax ay bx bY cx cy dx dy : Int) : Bool := decide (0 < mulW (turnW ax ay bx bY cx cy) (turnW ax ay bx bY dx dy))
def meetB (ax ay bx bY cx cy dx dy : Int) : Bool := overlapB ax bx cx dx && overlapB ay bY cy dy && !oneSideB ax ay bx bY cx cy dx dy && !oneSideB cx cy dx dy ax ay bx bY
def refTurn (ax ay bx bY cx cy : Int) : Int := sgn (twiceW ax ay bx bY cx cy)
def onB (px py ax ay bx bY : Int) : Bool := (refTurn ax ay bx bY px py == 0) && inB px ax bx && inB py ay bY
def apartB (ax ay bx bY cx cy dx dy : Int) : Bool := mulW (refTurn ax ay bx bY cx cy) (refTurn ax ay bx bY dx dy) == -1
def refMeetB (ax ay bx bY cx cy dx dy : Int) : Bool :=
  onB ax ay cx cy dx dy || onB bx bY cx cy dx dy || onB cx cy ax ay bx bY || onB dx dy ax ay bx bY || (apartB ax ay bx bY cx cy dx dy && apartB cx cy dx dy ax ay bx bY)
theorem ret_bool {a b : Bool} (h : a = b) : Ending.returned (.bool a) = .returned (.bool b) := by rw [h]
set_option maxHeartbeats 1000000 in
theorem overlap_any (a b c d : Int) (w : World) :
    Calls Try.prog 68 #[.int .i64 a, .int .i64 b, .int .i64 c, .int .i64 d] w fun e w' => e = .returned (.bool (overlapB a b c d)) ∧ w' = w := by
  go_enter Try.func68, Try.ntmps68
  go_wp2
  all_goals go_ret
  all_goals
    refine ⟨ret_bool ?_, rfl⟩
    unfold overlapB
    first
      | (rw [Bool.eq_iff_iff, decide_eq_true_iff]; simp only [decide_eq_true_eq]; omega)
      | (symm; rw [decide_eq_true_iff]; omega)
      | (symm; rw [decide_eq_false_iff_not]; omega)
set_option maxHeartbeats 1000000 in
theorem in_any (n a b : Int) (w : World) :
    Calls Try.prog 70 #[.int .i64 n, .int .i64 a, .int .i64 b] w fun e w' => e = .returned (.bool (inB n a b)) ∧ w' = w := by
  by_cases h1 : a ≤ n
  · by_cases h2 : n ≤ b
    · have e : inB n a b = true := by simp [inB, *]
      rw [e]; clear e
      go_enter Try.func70, Try.ntmps70
      go_wp2
      go_ret
      exact ⟨rfl, rfl⟩
    · by_cases h3 : n ≤ a
      · have e : inB n a b = true := by simp only [inB, decide_eq_true_eq]; omega
        rw [e]; clear e
        have h4 : b ≤ n := by omega
        go_enter Try.func70, Try.ntmps70
        go_wp2
        go_ret
        exact ⟨rfl, rfl⟩
      · have e : inB n a b = false := by simp only [inB, decide_eq_false_iff_not]; omega
        rw [e]; clear e
        have h4 : b ≤ n := by omega
        go_enter Try.func70, Try.ntmps70
        go_wp2
        go_ret
        exact ⟨rfl, rfl⟩
  · by_cases h3 : b ≤ n
    · have e : inB n a b = true := by simp only [inB, decide_eq_true_eq]; omega
      rw [e]; clear e
      have h4 : n ≤ a := by omega
      go_enter Try.func70, Try.ntmps70
      go_wp2
      go_ret
      exact ⟨rfl, rfl⟩
    · have e : inB n a b = false := by simp only [inB, decide_eq_false_iff_not]; omega
      rw [e]; clear e
      go_enter Try.func70, Try.ntmps70
      go_wp2
      go_ret
      exact ⟨rfl, rfl⟩
set_option maxHeartbeats 2000000 in
theorem oneSide_any (ax ay bx bY cx cy dx dy : Int) (w : World) :
    Calls Try.prog 69 #[.agg #[.int .i64 ax, .int .i64 ay], .agg #[.int .i64 bx, .int .i64 bY], .agg #[.int .i64 cx, .int .i64 cy], .agg #[.int .i64 dx, .int .i64 dy]] w fun e w' => e = .returned (.bool (oneSideB ax ay bx bY cx cy dx dy)) ∧ Below w.heap.size w w' := by
  go_enter Try.func69, Try.ntmps69
  go_wp2
  go_region_held3 (fun w' => (Below w.heap.size w w' ∧ w.heap.size ≤ w.heap.size) ∧ w'.cell? ⟨w.heap.size, 0, none⟩ = some (.int .i64 ax) ∧ w'.cell? ⟨w.heap.size, 1, none⟩ = some (.int .i64 ay) ∧ w'.cell? ⟨w.heap.size + 1, 0, none⟩ = some (.int .i64 bx) ∧ w'.cell? ⟨w.heap.size + 1, 1, none⟩ = some (.int .i64 bY) ∧ w'.cell? ⟨w.heap.size + 1 + 1, 0, none⟩ = some (.int .i64 cx) ∧ w'.cell? ⟨w.heap.size + 1 + 1, 1, none⟩ = some (.int .i64 cy) ∧ w'.cell? ⟨w.heap.size + 1 + 1 + 1, 0, none⟩ = some (.int .i64 dx) ∧ w'.cell? ⟨w.heap.size + 1 + 1 + 1, 1, none⟩ = some (.int .i64 dy))
    (first | (go_split_ands; refine ⟨⟨?_, Nat.le_refl _⟩, ?_, ?_, ?_, ?_, ?_, ?_, ?_, ?_⟩; (exact (((((Below.refl _ _).alloc (Nat.le_refl _) _).alloc (by simp) _).alloc (by simp; omega) _).alloc (by simp; omega) _).drew); all_goals (simp [go_sem])) | (go_split_ands; exact ⟨keep_below (by assumption) ⟨by assumption, by assumption⟩, cell_later (by assumption) (by assumption), cell_later (by assumption) (by assumption), cell_later (by assumption) (by assumption), cell_later (by assumption) (by assumption), cell_later (by assumption) (by assumption), cell_later (by assumption) (by assumption), cell_later (by assumption) (by assumption), cell_later (by assumption) (by assumption)⟩) | (go_split_ands; refine ⟨⟨?_, ?_⟩, ?_, ?_, ?_, ?_, ?_, ?_, ?_, ?_⟩ <;> assumption))
    (first | (go_at_call 40; refine (planeTurn_any _ _ _ _ _ _ _).mono ?_; rintro e w1 ⟨rfl, hb1⟩))
  go_split_ands
  go_wp2
  go_ret
  refine ⟨ret_bool ?_, by assumption⟩
  unfold oneSideB mulW
  rw [← wrap_i64]
set_option maxHeartbeats 2000000 in
theorem planeMeet_any (ax ay bx bY cx cy dx dy : Int) (w : World) :
    Calls Try.prog 47 #[.agg #[.int .i64 ax, .int .i64 ay], .agg #[.int .i64 bx, .int .i64 bY], .agg #[.int .i64 cx, .int .i64 cy], .agg #[.int .i64 dx, .int .i64 dy]] w fun e w' => e = .returned (.bool (meetB ax ay bx bY cx cy dx dy)) ∧ Below w.heap.size w w' := by
  cases h1 : overlapB ax bx cx dx
  · have e : meetB ax ay bx bY cx cy dx dy = false := by simp [meetB, h1]
    rw [e]; clear e
    go_enter Try.func47, Try.ntmps47
    go_wp2_with (first | (go_at_call 68; refine (overlap_any _ _ _ _ _).mono ?_; rintro e w1 ⟨rfl, hw1⟩; rw [hw1]; clear hw1 w1))
    go_ret
    exact ⟨rfl, (((((Below.refl _ _).alloc (Nat.le_refl _) _).alloc (by simp) _).alloc (by simp; omega) _).alloc (by simp; omega) _)⟩
  · cases h2 : overlapB ay bY cy dy
    · have e : meetB ax ay bx bY cx cy dx dy = false := by simp [meetB, h2]
      rw [e]; clear e
      go_enter Try.func47, Try.ntmps47
      go_wp2_with (first | (go_at_call 68; refine (overlap_any _ _ _ _ _).mono ?_; rintro e w1 ⟨rfl, hw1⟩; rw [hw1]; clear hw1 w1))
      go_ret
      exact ⟨rfl, (((((Below.refl _ _).alloc (Nat.le_refl _) _).alloc (by simp) _).alloc (by simp; omega) _).alloc (by simp; omega) _)⟩
    · cases h3 : oneSideB ax ay bx bY cx cy dx dy
      · cases h4 : oneSideB cx cy dx dy ax ay bx bY
        all_goals
          have e : meetB ax ay bx bY cx cy dx dy = !oneSideB cx cy dx dy ax ay bx bY := by simp [meetB, h1, h2, h3]
          rw [e, h4]; clear e
          go_enter Try.func47, Try.ntmps47
          go_wp2_with (first | (go_at_call 68; refine (overlap_any _ _ _ _ _).mono ?_; rintro e w1 ⟨rfl, hw1⟩; rw [hw1]; clear hw1 w1))
          refine (oneSide_any _ _ _ _ _ _ _ _ _).mono ?_
          rintro e w0 ⟨rfl, hb0⟩
          obtain ⟨hc0, hf0⟩ := old_reads hb0
          go_wp2_with fail
          refine (oneSide_any _ _ _ _ _ _ _ _ _).mono ?_
          rintro e w1 ⟨rfl, hb1⟩
          clear hc0 hf0
          go_wp2_with fail
          go_ret
          exact ⟨rfl, ((((((Below.refl _ _).alloc (Nat.le_refl _) _).alloc (by simp) _).alloc (by simp; omega) _).alloc (by simp; omega) _).trans (hb0.mono (by simp; omega))).trans (hb1.mono (by have := hb0.size; simp at this; omega))⟩
      · have e : meetB ax ay bx bY cx cy dx dy = false := by simp [meetB, h3]
        rw [e]; clear e
        go_enter Try.func47, Try.ntmps47
        go_wp2_with (first | (go_at_call 68; refine (overlap_any _ _ _ _ _).mono ?_; rintro e w1 ⟨rfl, hw1⟩; rw [hw1]; clear hw1 w1) | (go_at_call 69; refine (oneSide_any _ _ _ _ _ _ _ _ _).mono ?_; rintro e w1 ⟨rfl, hb1⟩; obtain ⟨hc1, hf1⟩ := old_reads hb1))
        go_ret
        exact ⟨rfl, (((((Below.refl _ _).alloc (Nat.le_refl _) _).alloc (by simp) _).alloc (by simp; omega) _).alloc (by simp; omega) _).trans (hb1.mono (by simp; omega))⟩
end Go.Proofs.Ytdkaoopkbhaheaa
namespace Go.Proofs.Ytdkaoopkbhaheaa
open Go.RowKit
theorem refTurn_any' (ax ay bx bY cx cy : Int) (w : World) :
    Calls Try.prog 15 #[.agg #[.int .i64 ax, .int .i64 ay], .agg #[.int .i64 bx, .int .i64 bY], .agg #[.int .i64 cx, .int .i64 cy]] w fun e w' => e = .returned (.int .i64 (refTurn ax ay bx bY cx cy)) ∧ Below w.heap.size w w' := refTurn_any ax ay bx bY cx cy w
set_option maxHeartbeats 1000000 in
theorem on_any (px py ax ay bx bY : Int) (w : World) :
    Calls Try.prog 48 #[.agg #[.int .i64 px, .int .i64 py], .agg #[.int .i64 ax, .int .i64 ay], .agg #[.int .i64 bx, .int .i64 bY]] w fun e w' => e = .returned (.bool (onB px py ax ay bx bY)) ∧ Below w.heap.size w w' := by
  cases h1 : (refTurn ax ay bx bY px py == 0)
  · have e : onB px py ax ay bx bY = false := by simp only [onB, h1, Bool.false_and]
    rw [e]; clear e
    go_enter Try.func48, Try.ntmps48
    go_wp2_with (first | (go_at_call 15; refine (refTurn_any' _ _ _ _ _ _ _).mono ?_; rintro e w1 ⟨rfl, hb1⟩; obtain ⟨hc1, hf1⟩ := old_reads hb1))
    go_ret
    exact ⟨rfl, ((((Below.refl _ _).alloc (Nat.le_refl _) _).alloc (by simp) _).alloc (by simp; omega) _).trans (hb1.mono (by simp; omega))⟩
  · cases h2 : inB px ax bx
    · have e : onB px py ax ay bx bY = false := by simp only [onB, h1, h2, Bool.false_and, Bool.and_false]
      rw [e]; clear e
      go_enter Try.func48, Try.ntmps48
      go_wp2_with (first | (go_at_call 15; refine (refTurn_any' _ _ _ _ _ _ _).mono ?_; rintro e w1 ⟨rfl, hb1⟩; obtain ⟨hc1, hf1⟩ := old_reads hb1) | (go_at_call 70; refine (in_any _ _ _ _).mono ?_; rintro e w2 ⟨rfl, hw2⟩; rw [hw2]; clear hw2 w2))
      go_ret
      exact ⟨rfl, ((((Below.refl _ _).alloc (Nat.le_refl _) _).alloc (by simp) _).alloc (by simp; omega) _).trans (hb1.mono (by simp; omega))⟩
    · cases h3 : inB py ay bY
      all_goals
        have e : onB px py ax ay bx bY = inB py ay bY := by simp only [onB, h1, h2, Bool.true_and]
        rw [e, h3]; clear e
        go_enter Try.func48, Try.ntmps48
        go_wp2_with (first | (go_at_call 15; refine (refTurn_any' _ _ _ _ _ _ _).mono ?_; rintro e w1 ⟨rfl, hb1⟩; obtain ⟨hc1, hf1⟩ := old_reads hb1) | (go_at_call 70; refine (in_any _ _ _ _).mono ?_; rintro e w2 ⟨rfl, hw2⟩; rw [hw2]; clear hw2 w2))
        go_ret
        exact ⟨rfl, ((((Below.refl _ _).alloc (Nat.le_refl _) _).alloc (by simp) _).alloc (by simp; omega) _).trans (hb1.mono (by simp; omega))⟩
def Four (w' : World) (B : Nat) (ax ay bx bY cx cy dx dy : Int) : Prop :=
  w'.cell? ⟨B, 0, none⟩ = some (.int .i64 ax) ∧ w'.cell? ⟨B, 1, none⟩ = some (.int .i64 ay) ∧ w'.cell? ⟨B + 1, 0, none⟩ = some (.int .i64 bx) ∧ w'.cell? ⟨B + 1, 1, none⟩ = some (.int .i64 bY) ∧
  w'.cell? ⟨B + 1 + 1, 0, none⟩ = some (.int .i64 cx) ∧ w'.cell? ⟨B + 1 + 1, 1, none⟩ = some (.int .i64 cy) ∧ w'.cell? ⟨B + 1 + 1 + 1, 0, none⟩ = some (.int .i64 dx) ∧ w'.cell? ⟨B + 1 + 1 + 1, 1, none⟩ = some (.int .i64 dy)
theorem Four.later {w1 w2 : World} {B : Nat} {ax ay bx bY cx cy dx dy : Int} (hb : Below w1.heap.size w1 w2) (h : Four w1 B ax ay bx bY cx cy dx dy) : Four w2 B ax ay bx bY cx cy dx dy := by
  obtain ⟨h1, h2, h3, h4, h5, h6, h7, h8⟩ := h
  exact ⟨cell_later hb h1, cell_later hb h2, cell_later hb h3, cell_later hb h4, cell_later hb h5, cell_later hb h6, cell_later hb h7, cell_later hb h8⟩
theorem Four.boxed (w : World) (t : TypeId) (ax ay bx bY cx cy dx dy : Int) :
    Four ((((w.alloc (.cells #[.int .i64 ax, .int .i64 ay] t)).alloc (.cells #[.int .i64 bx, .int .i64 bY] t)).alloc (.cells #[.int .i64 cx, .int .i64 cy] t)).alloc (.cells #[.int .i64 dx, .int .i64 dy] t)) w.heap.size ax ay bx bY cx cy dx dy := by
  refine ⟨?_, ?_, ?_, ?_, ?_, ?_, ?_, ?_⟩ <;> simp [go_sem]
theorem four_start (w : World) (t : TypeId) (ax ay bx bY cx cy dx dy : Int) :
    Below w.heap.size w ((((w.alloc (.cells #[.int .i64 ax, .int .i64 ay] t)).alloc (.cells #[.int .i64 bx, .int .i64 bY] t)).alloc (.cells #[.int .i64 cx, .int .i64 cy] t)).alloc (.cells #[.int .i64 dx, .int .i64 dy] t)) := (((((Below.refl _ _).alloc (Nat.le_refl _) _).alloc (by simp) _).alloc (by simp; omega) _).alloc (by simp; omega) _)
structure Cls (R : World → Prop) where
  val : World
  ok : R val
theorem wp_region_cls {P : Program} {id : Nat} {Q : Exit → Act → World → Prop} {a : Act} {w : World} {l : List Oper} {R : World → Prop} (hm : P.follows .mixedOrders = true) (hB : Region.lexB .any l.toArray = true) (h0 : R w.drew)
    (h : wpQuiet P l.toArray (fun w' => ∃ x : Cls R, w' = x.val) (fun a' => ∀ w', (∃ x : Cls R, w' = x.val) → Q .normal a' w') l a) : (Code.region id l.toArray true).wp P Q a w :=
  wp_region_quiet (C := fun w' => ∃ x : Cls R, w' = x.val) hm hB ⟨⟨w.drew, h0⟩, rfl⟩ (by simpa using h)
theorem Cls.cell {W : World} (x : Cls (Below W.heap.size W)) {p : Addr} {v : Value} (h : W.cell? p = some v) : x.val.cell? p = some v := cell_later x.ok h
theorem Cls.calls {P : Program} {f : FuncId} {args : Array Value} {v : Value} {W : World} (x : Cls (Below W.heap.size W)) (h : Calls P f args x.val fun e w' => e = .returned v ∧ Below x.val.heap.size x.val w') :
    Calls P f args x.val fun e w'' => e = .returned v ∧ ∃ y : Cls (Below W.heap.size W), w'' = y.val :=
  h.mono fun _ w' ⟨he, hb⟩ => ⟨he, ⟨w', x.ok.trans (hb.mono x.ok.size)⟩, rfl⟩
theorem below_then {w w1 w2 : World} (h : Below w.heap.size w w1) (h2 : Below w1.heap.size w1 w2) : Below w.heap.size w w2 := h.trans (h2.mono h.size)
set_option maxHeartbeats 400000 in
theorem refMeet_on1 (ax ay bx bY cx cy dx dy : Int) (w : World) (h1 : onB ax ay cx cy dx dy = true) :
    Calls Try.prog 18 #[.agg #[.int .i64 ax, .int .i64 ay], .agg #[.int .i64 bx, .int .i64 bY], .agg #[.int .i64 cx, .int .i64 cy], .agg #[.int .i64 dx, .int .i64 dy]] w fun e w' => e = .returned (.bool true) ∧ Below w.heap.size w w' := by
  have q0 := Four.boxed w 23 ax ay bx bY cx cy dx dy
  have b0 := four_start w 23 ax ay bx bY cx cy dx dy
  go_enter Try.func18, Try.ntmps18
  go_wp2_with fail
  refine (on_any _ _ _ _ _ _ _).mono ?_
  rintro e w1 ⟨rfl, hb1⟩
  have b1 := below_then b0 hb1
  have q1 := Four.later hb1 q0
  clear hb1 q0 b0
  have Q1 : Hid _ := q1
  obtain ⟨_, _, _, _, _, _, _, _⟩ := q1
  go_wp2_with fail
  have q1 := Q1.out
  clear Q1
  refine (on_any _ _ _ _ _ _ _).mono ?_
  rintro e w2 ⟨rfl, hb2⟩
  have b2 := below_then b1 hb2
  have q2 := Four.later hb2 q1
  clear hb2 q1 b1
  have Q2 : Hid _ := q2
  obtain ⟨_, _, _, _, _, _, _, _⟩ := q2
  go_wp2_with fail
  have q2 := Q2.out
  clear Q2
  refine (on_any _ _ _ _ _ _ _).mono ?_
  rintro e w3 ⟨rfl, hb3⟩
  have b3 := below_then b2 hb3
  have q3 := Four.later hb3 q2
  clear hb3 q2 b2
  have Q3 : Hid _ := q3
  obtain ⟨_, _, _, _, _, _, _, _⟩ := q3
  go_wp2_with fail
  have q3 := Q3.out
  clear Q3
  refine (on_any _ _ _ _ _ _ _).mono ?_
  rintro e w4 ⟨rfl, hb4⟩
  have b4 := below_then b3 hb4
  have q4 := Four.later hb4 q3
  clear hb4 q3 b3
  have Q4 : Hid _ := q4
  obtain ⟨_, _, _, _, _, _, _, _⟩ := q4
  go_wp2_with fail
  have q4 := Q4.out
  clear Q4
  go_ret
  exact ⟨rfl, b4⟩
set_option maxHeartbeats 400000 in
theorem refMeet_on2 (ax ay bx bY cx cy dx dy : Int) (w : World) (h1 : onB ax ay cx cy dx dy = false) (h2 : onB bx bY cx cy dx dy = true) :
    Calls Try.prog 18 #[.agg #[.int .i64 ax, .int .i64 ay], .agg #[.int .i64 bx, .int .i64 bY], .agg #[.int .i64 cx, .int .i64 cy], .agg #[.int .i64 dx, .int .i64 dy]] w fun e w' => e = .returned (.bool true) ∧ Below w.heap.size w w' := by
  have q0 := Four.boxed w 23 ax ay bx bY cx cy dx dy
  have b0 := four_start w 23 ax ay bx bY cx cy dx dy
  go_enter Try.func18, Try.ntmps18
  go_wp2_with fail
  refine (on_any _ _ _ _ _ _ _).mono ?_
  rintro e w1 ⟨rfl, hb1⟩
  have b1 := below_then b0 hb1
  have q1 := Four.later hb1 q0
  clear hb1 q0 b0
  have Q1 : Hid _ := q1
  obtain ⟨_, _, _, _, _, _, _, _⟩ := q1
  go_wp2_with fail
  have q1 := Q1.out
  clear Q1
  refine (on_any _ _ _ _ _ _ _).mono ?_
  rintro e w2 ⟨rfl, hb2⟩
  have b2 := below_then b1 hb2
  have q2 := Four.later hb2 q1
  clear hb2 q1 b1
  have Q2 : Hid _ := q2
  obtain ⟨_, _, _, _, _, _, _, _⟩ := q2
  go_wp2_with fail
  have q2 := Q2.out
  clear Q2
  refine (on_any _ _ _ _ _ _ _).mono ?_
  rintro e w3 ⟨rfl, hb3⟩
  have b3 := below_then b2 hb3
  have q3 := Four.later hb3 q2
  clear hb3 q2 b2
  have Q3 : Hid _ := q3
  obtain ⟨_, _, _, _, _, _, _, _⟩ := q3
  go_wp2_with fail
  have q3 := Q3.out
  clear Q3
  refine (on_any _ _ _ _ _ _ _).mono ?_
  rintro e w4 ⟨rfl, hb4⟩
  have b4 := below_then b3 hb4
  have q4 := Four.later hb4 q3
  clear hb4 q3 b3
  have Q4 : Hid _ := q4
  obtain ⟨_, _, _, _, _, _, _, _⟩ := q4
  go_wp2_with fail
  have q4 := Q4.out
  clear Q4
  go_ret
  exact ⟨rfl, b4⟩
set_option maxHeartbeats 400000 in
theorem refMeet_on3 (ax ay bx bY cx cy dx dy : Int) (w : World) (h1 : onB ax ay cx cy dx dy = false) (h2 : onB bx bY cx cy dx dy = false) (h3 : onB cx cy ax ay bx bY = true) :
    Calls Try.prog 18 #[.agg #[.int .i64 ax, .int .i64 ay], .agg #[.int .i64 bx, .int .i64 bY], .agg #[.int .i64 cx, .int .i64 cy], .agg #[.int .i64 dx, .int .i64 dy]] w fun e w' => e = .returned (.bool true) ∧ Below w.heap.size w w' := by
  have q0 := Four.boxed w 23 ax ay bx bY cx cy dx dy
  have b0 := four_start w 23 ax ay bx bY cx cy dx dy
  go_enter Try.func18, Try.ntmps18
  go_wp2_with fail
  refine (on_any _ _ _ _ _ _ _).mono ?_
  rintro e w1 ⟨rfl, hb1⟩
  have b1 := below_then b0 hb1
  have q1 := Four.later hb1 q0
  clear hb1 q0 b0
  have Q1 : Hid _ := q1
  obtain ⟨_, _, _, _, _, _, _, _⟩ := q1
  go_wp2_with fail
  have q1 := Q1.out
  clear Q1
  refine (on_any _ _ _ _ _ _ _).mono ?_
  rintro e w2 ⟨rfl, hb2⟩
  have b2 := below_then b1 hb2
  have q2 := Four.later hb2 q1
  clear hb2 q1 b1
  have Q2 : Hid _ := q2
  obtain ⟨_, _, _, _, _, _, _, _⟩ := q2
  go_wp2_with fail
  have q2 := Q2.out
  clear Q2
  refine (on_any _ _ _ _ _ _ _).mono ?_
  rintro e w3 ⟨rfl, hb3⟩
  have b3 := below_then b2 hb3
  have q3 := Four.later hb3 q2
  clear hb3 q2 b2
  have Q3 : Hid _ := q3
  obtain ⟨_, _, _, _, _, _, _, _⟩ := q3
  go_wp2_with fail
  have q3 := Q3.out
  clear Q3
  refine (on_any _ _ _ _ _ _ _).mono ?_
  rintro e w4 ⟨rfl, hb4⟩
  have b4 := below_then b3 hb4
  have q4 := Four.later hb4 q3
  clear hb4 q3 b3
  have Q4 : Hid _ := q4
  obtain ⟨_, _, _, _, _, _, _, _⟩ := q4
  go_wp2_with fail
  have q4 := Q4.out
  clear Q4
  go_ret
  exact ⟨rfl, b4⟩
set_option maxHeartbeats 400000 in
theorem refMeet_on4 (ax ay bx bY cx cy dx dy : Int) (w : World) (h1 : onB ax ay cx cy dx dy = false) (h2 : onB bx bY cx cy dx dy = false) (h3 : onB cx cy ax ay bx bY = false) (h4 : onB dx dy ax ay bx bY = true) :
    Calls Try.prog 18 #[.agg #[.int .i64 ax, .int .i64 ay], .agg #[.int .i64 bx, .int .i64 bY], .agg #[.int .i64 cx, .int .i64 cy], .agg #[.int .i64 dx, .int .i64 dy]] w fun e w' => e = .returned (.bool true) ∧ Below w.heap.size w w' := by
  have q0 := Four.boxed w 23 ax ay bx bY cx cy dx dy
  have b0 := four_start w 23 ax ay bx bY cx cy dx dy
  go_enter Try.func18, Try.ntmps18
  go_wp2_with fail
  refine (on_any _ _ _ _ _ _ _).mono ?_
  rintro e w1 ⟨rfl, hb1⟩
  have b1 := below_then b0 hb1
  have q1 := Four.later hb1 q0
  clear hb1 q0 b0
  have Q1 : Hid _ := q1
  obtain ⟨_, _, _, _, _, _, _, _⟩ := q1
  go_wp2_with fail
  have q1 := Q1.out
  clear Q1
  refine (on_any _ _ _ _ _ _ _).mono ?_
  rintro e w2 ⟨rfl, hb2⟩
  have b2 := below_then b1 hb2
  have q2 := Four.later hb2 q1
  clear hb2 q1 b1
  have Q2 : Hid _ := q2
  obtain ⟨_, _, _, _, _, _, _, _⟩ := q2
  go_wp2_with fail
  have q2 := Q2.out
  clear Q2
  refine (on_any _ _ _ _ _ _ _).mono ?_
  rintro e w3 ⟨rfl, hb3⟩
  have b3 := below_then b2 hb3
  have q3 := Four.later hb3 q2
  clear hb3 q2 b2
  have Q3 : Hid _ := q3
  obtain ⟨_, _, _, _, _, _, _, _⟩ := q3
  go_wp2_with fail
  have q3 := Q3.out
  clear Q3
  refine (on_any _ _ _ _ _ _ _).mono ?_
  rintro e w4 ⟨rfl, hb4⟩
  have b4 := below_then b3 hb4
  have q4 := Four.later hb4 q3
  clear hb4 q3 b3
  have Q4 : Hid _ := q4
  obtain ⟨_, _, _, _, _, _, _, _⟩ := q4
  go_wp2_with fail
  have q4 := Q4.out
  clear Q4
  go_ret
  exact ⟨rfl, b4⟩
set_option maxHeartbeats 400000 in
theorem refMeet_no (ax ay bx bY cx cy dx dy : Int) (w : World) (h1 : onB ax ay cx cy dx dy = false) (h2 : onB bx bY cx cy dx dy = false) (h3 : onB cx cy ax ay bx bY = false) (h4 : onB dx dy ax ay bx bY = false) (h5 : apartB ax ay bx bY cx cy dx dy = false) :
    Calls Try.prog 18 #[.agg #[.int .i64 ax, .int .i64 ay], .agg #[.int .i64 bx, .int .i64 bY], .agg #[.int .i64 cx, .int .i64 cy], .agg #[.int .i64 dx, .int .i64 dy]] w fun e w' => e = .returned (.bool false) ∧ Below w.heap.size w w' := by
  have q0 := Four.boxed w 23 ax ay bx bY cx cy dx dy
  have b0 := four_start w 23 ax ay bx bY cx cy dx dy
  go_enter Try.func18, Try.ntmps18
  go_wp2_with fail
  refine (on_any _ _ _ _ _ _ _).mono ?_
  rintro e w1 ⟨rfl, hb1⟩
  have b1 := below_then b0 hb1
  have q1 := Four.later hb1 q0
  clear hb1 q0 b0
  have Q1 : Hid _ := q1
  obtain ⟨_, _, _, _, _, _, _, _⟩ := q1
  go_wp2_with fail
  have q1 := Q1.out
  clear Q1
  refine (on_any _ _ _ _ _ _ _).mono ?_
  rintro e w2 ⟨rfl, hb2⟩
  have b2 := below_then b1 hb2
  have q2 := Four.later hb2 q1
  clear hb2 q1 b1
  have Q2 : Hid _ := q2
  obtain ⟨_, _, _, _, _, _, _, _⟩ := q2
  go_wp2_with fail
  have q2 := Q2.out
  clear Q2
  refine (on_any _ _ _ _ _ _ _).mono ?_
  rintro e w3 ⟨rfl, hb3⟩
  have b3 := below_then b2 hb3
  have q3 := Four.later hb3 q2
  clear hb3 q2 b2
  have Q3 : Hid _ := q3
  obtain ⟨_, _, _, _, _, _, _, _⟩ := q3
  go_wp2_with fail
  have q3 := Q3.out
  clear Q3
  refine (on_any _ _ _ _ _ _ _).mono ?_
  rintro e w4 ⟨rfl, hb4⟩
  have b4 := below_then b3 hb4
  have q4 := Four.later hb4 q3
  clear hb4 q3 b3
  have Q4 : Hid _ := q4
  obtain ⟨_, _, _, _, _, _, _, _⟩ := q4
  go_wp2_with fail
  have q4 := Q4.out
  clear Q4
  refine wp_region_cls (R := Below w4.heap.size w4) (by kernel_rfl) (by kernel_rfl) (Below.refl _ _).drew ?_
  have inst : Nonempty (Cls (Below w4.heap.size w4)) := ⟨⟨w4, Below.refl _ _⟩⟩
  have g1 := fun x => Cls.cell (W := w4) x q4.1
  have g2 := fun x => Cls.cell (W := w4) x q4.2.1
  have g3 := fun x => Cls.cell (W := w4) x q4.2.2.1
  have g4 := fun x => Cls.cell (W := w4) x q4.2.2.2.1
  have g5 := fun x => Cls.cell (W := w4) x q4.2.2.2.2.1
  have g6 := fun x => Cls.cell (W := w4) x q4.2.2.2.2.2.1
  have g7 := fun x => Cls.cell (W := w4) x q4.2.2.2.2.2.2.1
  have g8 := fun x => Cls.cell (W := w4) x q4.2.2.2.2.2.2.2
  clear q4
  have h5' : (IntKind.i64.wrap (refTurn ax ay bx bY cx cy * refTurn ax ay bx bY dx dy) == -1) = false := by rw [wrap_i64]; exact h5
  have h5w : (wrap64 (refTurn ax ay bx bY cx cy * refTurn ax ay bx bY dx dy) == -1) = false := h5
  repeat (first | go_big_quiet_step ((go_at_call 15; exact Cls.calls _ (refTurn_any' _ _ _ _ _ _ _))) | quiet_step ((go_at_call 15; exact Cls.calls _ (refTurn_any' _ _ _ _ _ _ _))))
  refine wpQuiet_nil ?_
  intro _ hw'
  obtain ⟨x, hw''⟩ := hw'
  subst hw''
  go_wp2
  go_ret
  exact ⟨rfl, below_then b4 x.ok⟩
set_option maxHeartbeats 400000 in
theorem refMeet_yes (ax ay bx bY cx cy dx dy : Int) (w : World) (h1 : onB ax ay cx cy dx dy = false) (h2 : onB bx bY cx cy dx dy = false) (h3 : onB cx cy ax ay bx bY = false) (h4 : onB dx dy ax ay bx bY = false) (h5 : apartB ax ay bx bY cx cy dx dy = true) :
    Calls Try.prog 18 #[.agg #[.int .i64 ax, .int .i64 ay], .agg #[.int .i64 bx, .int .i64 bY], .agg #[.int .i64 cx, .int .i64 cy], .agg #[.int .i64 dx, .int .i64 dy]] w fun e w' => e = .returned (.bool (apartB cx cy dx dy ax ay bx bY)) ∧ Below w.heap.size w w' := by
  have q0 := Four.boxed w 23 ax ay bx bY cx cy dx dy
  have b0 := four_start w 23 ax ay bx bY cx cy dx dy
  go_enter Try.func18, Try.ntmps18
  go_wp2_with fail
  refine (on_any _ _ _ _ _ _ _).mono ?_
  rintro e w1 ⟨rfl, hb1⟩
  have b1 := below_then b0 hb1
  have q1 := Four.later hb1 q0
  clear hb1 q0 b0
  have Q1 : Hid _ := q1
  obtain ⟨_, _, _, _, _, _, _, _⟩ := q1
  go_wp2_with fail
  have q1 := Q1.out
  clear Q1
  refine (on_any _ _ _ _ _ _ _).mono ?_
  rintro e w2 ⟨rfl, hb2⟩
  have b2 := below_then b1 hb2
  have q2 := Four.later hb2 q1
  clear hb2 q1 b1
  have Q2 : Hid _ := q2
  obtain ⟨_, _, _, _, _, _, _, _⟩ := q2
  go_wp2_with fail
  have q2 := Q2.out
  clear Q2
  refine (on_any _ _ _ _ _ _ _).mono ?_
  rintro e w3 ⟨rfl, hb3⟩
  have b3 := below_then b2 hb3
  have q3 := Four.later hb3 q2
  clear hb3 q2 b2
  have Q3 : Hid _ := q3
  obtain ⟨_, _, _, _, _, _, _, _⟩ := q3
  go_wp2_with fail
  have q3 := Q3.out
  clear Q3
  refine (on_any _ _ _ _ _ _ _).mono ?_
  rintro e w4 ⟨rfl, hb4⟩
  have b4 := below_then b3 hb4
  have q4 := Four.later hb4 q3
  clear hb4 q3 b3
  have Q4 : Hid _ := q4
  obtain ⟨_, _, _, _, _, _, _, _⟩ := q4
  go_wp2_with fail
  have q4 := Q4.out
  clear Q4
  refine wp_region_cls (R := Below w4.heap.size w4) (by kernel_rfl) (by kernel_rfl) (Below.refl _ _).drew ?_
  have inst : Nonempty (Cls (Below w4.heap.size w4)) := ⟨⟨w4, Below.refl _ _⟩⟩
  have g1 := fun x => Cls.cell (W := w4) x q4.1
  have g2 := fun x => Cls.cell (W := w4) x q4.2.1
  have g3 := fun x => Cls.cell (W := w4) x q4.2.2.1
  have g4 := fun x => Cls.cell (W := w4) x q4.2.2.2.1
  have g5 := fun x => Cls.cell (W := w4) x q4.2.2.2.2.1
  have g6 := fun x => Cls.cell (W := w4) x q4.2.2.2.2.2.1
  have g7 := fun x => Cls.cell (W := w4) x q4.2.2.2.2.2.2.1
  have g8 := fun x => Cls.cell (W := w4) x q4.2.2.2.2.2.2.2
  clear q4
  have h5' : (IntKind.i64.wrap (refTurn ax ay bx bY cx cy * refTurn ax ay bx bY dx dy) == -1) = true := by rw [wrap_i64]; exact h5
  have h5w : (wrap64 (refTurn ax ay bx bY cx cy * refTurn ax ay bx bY dx dy) == -1) = true := h5
  repeat (first | go_big_quiet_step ((go_at_call 15; exact Cls.calls _ (refTurn_any' _ _ _ _ _ _ _))) | quiet_step ((go_at_call 15; exact Cls.calls _ (refTurn_any' _ _ _ _ _ _ _))))
  refine wpQuiet_nil ?_
  intro _ hw'
  obtain ⟨x, hw''⟩ := hw'
  subst hw''
  go_wp2
  go_ret
  refine ⟨ret_bool ?_, below_then b4 x.ok⟩
  unfold apartB mulW
  rw [← wrap_i64]
theorem refMeet_any (ax ay bx bY cx cy dx dy : Int) (w : World) :
    Calls Try.prog 18 #[.agg #[.int .i64 ax, .int .i64 ay], .agg #[.int .i64 bx, .int .i64 bY], .agg #[.int .i64 cx, .int .i64 cy], .agg #[.int .i64 dx, .int .i64 dy]] w fun e w' => e = .returned (.bool (refMeetB ax ay bx bY cx cy dx dy)) ∧ Below w.heap.size w w' := by
  unfold refMeetB
  cases h1 : onB ax ay cx cy dx dy
  · cases h2 : onB bx bY cx cy dx dy
    · cases h3 : onB cx cy ax ay bx bY
      · cases h4 : onB dx dy ax ay bx bY
        · cases h5 : apartB ax ay bx bY cx cy dx dy
          · simpa only [Bool.or_self, Bool.false_or, Bool.false_and] using refMeet_no ax ay bx bY cx cy dx dy w h1 h2 h3 h4 h5
          · simpa only [Bool.or_self, Bool.false_or, Bool.true_and] using refMeet_yes ax ay bx bY cx cy dx dy w h1 h2 h3 h4 h5
        · simpa only [Bool.or_self, Bool.false_or, Bool.true_or] using refMeet_on4 ax ay bx bY cx cy dx dy w h1 h2 h3 h4
      · simpa only [Bool.or_self, Bool.false_or, Bool.true_or] using refMeet_on3 ax ay bx bY cx cy dx dy w h1 h2 h3
    · simpa only [Bool.or_self, Bool.false_or, Bool.true_or] using refMeet_on2 ax ay bx bY cx cy dx dy w h1 h2
  · simpa only [Bool.or_self, Bool.false_or, Bool.true_or] using refMeet_on1 ax ay bx bY cx cy dx dy w h1
end Go.Proofs.Ytdkaoopkbhaheaa
