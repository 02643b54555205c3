/- The walk of the law Turns: whatever the points, it answers true. -/
import Derived.Test.YtdkaoopkbhaheaaA7
namespace Go.Proofs.Ytdkaoopkbhaheaa
open Go.RowKit

theorem turn_doc : turnW 0 0 1 0 0 1 = 1 := by decide +kernel
theorem circle_doc : circleW 0 0 1 0 0 1 2 2 = -1 := by decide +kernel
theorem refCircle_any' (ax ay bx bY cx cy dx dy : Int) (w : World) :
    Calls Try.prog 16 #[.agg #[.int .i64 ax, .int .i64 ay], .agg #[.int .i64 bx, .int .i64 bY], .agg #[.int .i64 cx, .int .i64 cy], .agg #[.int .i64 dx, .int .i64 dy]] w fun e w' => e = .returned (.int .i64 (refCircle ax ay bx bY cx cy dx dy)) ∧ Below w.heap.size w w' := refCircle_any ax ay bx bY cx cy dx dy w

set_option maxHeartbeats 4000000 in
theorem turns_far1 (ax ay bx bY cx cy dx dy : Int) (w : World) (h1 : nearB ax ay = false) :
    Calls Try.prog 3 #[.agg #[.int .i64 ax, .int .i64 ay], .agg #[.int .i64 bx, .int .i64 bY], .agg #[.int .i64 cx, .int .i64 cy], .agg #[.int .i64 dx, .int .i64 dy]] w fun e w' => e = .returned (.bool true) ∧ Below w.heap.size w w' := by
  have q0 := Four.boxed w 23 ax ay bx bY cx cy dx dy
  have b0 := four_start w 23 ax ay bx bY cx cy dx dy
  have hd1 := turn_doc
  have hd2 := circle_doc
  go_enter Try.func3, Try.ntmps3
  go_wp2_with fail
  refine (turn_any _ _ _ _ _ _ _).mono ?_
  rintro e w1 ⟨rfl, hb1⟩
  have b1 := below_then b0 hb1
  have q1 := Four.later hb1 q0
  clear hb1 q0 b0
  have Q1 : Hid _ := q1
  obtain ⟨_, _, _, _, _, _, _, _⟩ := q1
  go_wp2_with fail
  have q1 := Q1.out
  clear Q1
  refine (circle_any _ _ _ _ _ _ _ _ _).mono ?_
  rintro e w2 ⟨rfl, hb2⟩
  have b2 := below_then b1 hb2
  have q2 := Four.later hb2 q1
  clear hb2 q1 b1
  have Q2 : Hid _ := q2
  obtain ⟨_, _, _, _, _, _, _, _⟩ := q2
  go_wp2_with fail
  have q2 := Q2.out
  clear Q2
  refine wp_region_cls (R := Below w2.heap.size w2) (by kernel_rfl) (by kernel_rfl) (Below.refl _ _).drew ?_
  have inst : Nonempty (Cls (Below w2.heap.size w2)) := ⟨⟨w2, Below.refl _ _⟩⟩
  have g1 := fun x => Cls.cell (W := w2) x q2.1
  have g2 := fun x => Cls.cell (W := w2) x q2.2.1
  have g3 := fun x => Cls.cell (W := w2) x q2.2.2.1
  have g4 := fun x => Cls.cell (W := w2) x q2.2.2.2.1
  have g5 := fun x => Cls.cell (W := w2) x q2.2.2.2.2.1
  have g6 := fun x => Cls.cell (W := w2) x q2.2.2.2.2.2.1
  have g7 := fun x => Cls.cell (W := w2) x q2.2.2.2.2.2.2.1
  have g8 := fun x => Cls.cell (W := w2) x q2.2.2.2.2.2.2.2
  repeat (first | go_big_quiet_step ((first | (go_at_call 13; exact Cls.calls _ (point_any _ _ _)) | (go_at_call 11; exact Cls.calls _ (turn_any _ _ _ _ _ _ _)))) | quiet_step ((first | (go_at_call 13; exact Cls.calls _ (point_any _ _ _)) | (go_at_call 11; exact Cls.calls _ (turn_any _ _ _ _ _ _ _)))))
  refine wpQuiet_nil ?_
  intro w3 hw'
  obtain ⟨x, hx⟩ := hw'
  have hb3 := x.ok
  rw [← hx] at hb3
  clear hx x g1 g2 g3 g4 g5 g6 g7 g8 inst
  have b3 := below_then b2 hb3
  have q3 := Four.later hb3 q2
  clear hb3 q2 b2
  have Q3 : Hid _ := q3
  obtain ⟨_, _, _, _, _, _, _, _⟩ := q3
  go_wp2_with fail
  have q3 := Q3.out
  clear Q3
  refine wp_region_cls (R := Below w3.heap.size w3) (by kernel_rfl) (by kernel_rfl) (Below.refl _ _).drew ?_
  have inst : Nonempty (Cls (Below w3.heap.size w3)) := ⟨⟨w3, Below.refl _ _⟩⟩
  have g1 := fun x => Cls.cell (W := w3) x q3.1
  have g2 := fun x => Cls.cell (W := w3) x q3.2.1
  have g3 := fun x => Cls.cell (W := w3) x q3.2.2.1
  have g4 := fun x => Cls.cell (W := w3) x q3.2.2.2.1
  have g5 := fun x => Cls.cell (W := w3) x q3.2.2.2.2.1
  have g6 := fun x => Cls.cell (W := w3) x q3.2.2.2.2.2.1
  have g7 := fun x => Cls.cell (W := w3) x q3.2.2.2.2.2.2.1
  have g8 := fun x => Cls.cell (W := w3) x q3.2.2.2.2.2.2.2
  repeat (first | go_big_quiet_step ((first | (go_at_call 13; exact Cls.calls _ (point_any _ _ _)) | (go_at_call 12; exact Cls.calls _ (circle_any _ _ _ _ _ _ _ _ _)))) | quiet_step ((first | (go_at_call 13; exact Cls.calls _ (point_any _ _ _)) | (go_at_call 12; exact Cls.calls _ (circle_any _ _ _ _ _ _ _ _ _)))))
  refine wpQuiet_nil ?_
  intro w4 hw'
  obtain ⟨x, hx⟩ := hw'
  have hb4 := x.ok
  rw [← hx] at hb4
  clear hx x g1 g2 g3 g4 g5 g6 g7 g8 inst
  have b4 := below_then b3 hb4
  have q4 := Four.later hb4 q3
  clear hb4 q3 b3
  have Q4 : Hid _ := q4
  obtain ⟨_, _, _, _, _, _, _, _⟩ := q4
  go_wp2_with fail
  have q4 := Q4.out
  clear Q4
  refine (near_any _ _ _).mono ?_
  rintro e w5 ⟨rfl, hb5⟩
  have b5 := below_then b4 hb5
  have q5 := Four.later hb5 q4
  clear hb5 q4 b4
  have Q5 : Hid _ := q5
  obtain ⟨_, _, _, _, _, _, _, _⟩ := q5
  go_wp2_with fail
  have q5 := Q5.out
  clear Q5
  refine (near_any _ _ _).mono ?_
  rintro e w6 ⟨rfl, hb6⟩
  have b6 := below_then b5 hb6
  have q6 := Four.later hb6 q5
  clear hb6 q5 b5
  have Q6 : Hid _ := q6
  obtain ⟨_, _, _, _, _, _, _, _⟩ := q6
  go_wp2_with fail
  have q6 := Q6.out
  clear Q6
  refine (near_any _ _ _).mono ?_
  rintro e w7 ⟨rfl, hb7⟩
  have b7 := below_then b6 hb7
  have q7 := Four.later hb7 q6
  clear hb7 q6 b6
  have Q7 : Hid _ := q7
  obtain ⟨_, _, _, _, _, _, _, _⟩ := q7
  go_wp2_with fail
  have q7 := Q7.out
  clear Q7
  refine (near_any _ _ _).mono ?_
  rintro e w8 ⟨rfl, hb8⟩
  have b8 := below_then b7 hb8
  have q8 := Four.later hb8 q7
  clear hb8 q7 b7
  have Q8 : Hid _ := q8
  obtain ⟨_, _, _, _, _, _, _, _⟩ := q8
  go_wp2_with fail
  have q8 := Q8.out
  clear Q8
  go_ret
  exact ⟨rfl, b8⟩

set_option maxHeartbeats 4000000 in
theorem turns_far2 (ax ay bx bY cx cy dx dy : Int) (w : World) (h1 : nearB ax ay = true) (h2 : nearB bx bY = false) :
    Calls Try.prog 3 #[.agg #[.int .i64 ax, .int .i64 ay], .agg #[.int .i64 bx, .int .i64 bY], .agg #[.int .i64 cx, .int .i64 cy], .agg #[.int .i64 dx, .int .i64 dy]] w fun e w' => e = .returned (.bool true) ∧ Below w.heap.size w w' := by
  have q0 := Four.boxed w 23 ax ay bx bY cx cy dx dy
  have b0 := four_start w 23 ax ay bx bY cx cy dx dy
  have hd1 := turn_doc
  have hd2 := circle_doc
  go_enter Try.func3, Try.ntmps3
  go_wp2_with fail
  refine (turn_any _ _ _ _ _ _ _).mono ?_
  rintro e w1 ⟨rfl, hb1⟩
  have b1 := below_then b0 hb1
  have q1 := Four.later hb1 q0
  clear hb1 q0 b0
  have Q1 : Hid _ := q1
  obtain ⟨_, _, _, _, _, _, _, _⟩ := q1
  go_wp2_with fail
  have q1 := Q1.out
  clear Q1
  refine (circle_any _ _ _ _ _ _ _ _ _).mono ?_
  rintro e w2 ⟨rfl, hb2⟩
  have b2 := below_then b1 hb2
  have q2 := Four.later hb2 q1
  clear hb2 q1 b1
  have Q2 : Hid _ := q2
  obtain ⟨_, _, _, _, _, _, _, _⟩ := q2
  go_wp2_with fail
  have q2 := Q2.out
  clear Q2
  refine wp_region_cls (R := Below w2.heap.size w2) (by kernel_rfl) (by kernel_rfl) (Below.refl _ _).drew ?_
  have inst : Nonempty (Cls (Below w2.heap.size w2)) := ⟨⟨w2, Below.refl _ _⟩⟩
  have g1 := fun x => Cls.cell (W := w2) x q2.1
  have g2 := fun x => Cls.cell (W := w2) x q2.2.1
  have g3 := fun x => Cls.cell (W := w2) x q2.2.2.1
  have g4 := fun x => Cls.cell (W := w2) x q2.2.2.2.1
  have g5 := fun x => Cls.cell (W := w2) x q2.2.2.2.2.1
  have g6 := fun x => Cls.cell (W := w2) x q2.2.2.2.2.2.1
  have g7 := fun x => Cls.cell (W := w2) x q2.2.2.2.2.2.2.1
  have g8 := fun x => Cls.cell (W := w2) x q2.2.2.2.2.2.2.2
  repeat (first | go_big_quiet_step ((first | (go_at_call 13; exact Cls.calls _ (point_any _ _ _)) | (go_at_call 11; exact Cls.calls _ (turn_any _ _ _ _ _ _ _)))) | quiet_step ((first | (go_at_call 13; exact Cls.calls _ (point_any _ _ _)) | (go_at_call 11; exact Cls.calls _ (turn_any _ _ _ _ _ _ _)))))
  refine wpQuiet_nil ?_
  intro w3 hw'
  obtain ⟨x, hx⟩ := hw'
  have hb3 := x.ok
  rw [← hx] at hb3
  clear hx x g1 g2 g3 g4 g5 g6 g7 g8 inst
  have b3 := below_then b2 hb3
  have q3 := Four.later hb3 q2
  clear hb3 q2 b2
  have Q3 : Hid _ := q3
  obtain ⟨_, _, _, _, _, _, _, _⟩ := q3
  go_wp2_with fail
  have q3 := Q3.out
  clear Q3
  refine wp_region_cls (R := Below w3.heap.size w3) (by kernel_rfl) (by kernel_rfl) (Below.refl _ _).drew ?_
  have inst : Nonempty (Cls (Below w3.heap.size w3)) := ⟨⟨w3, Below.refl _ _⟩⟩
  have g1 := fun x => Cls.cell (W := w3) x q3.1
  have g2 := fun x => Cls.cell (W := w3) x q3.2.1
  have g3 := fun x => Cls.cell (W := w3) x q3.2.2.1
  have g4 := fun x => Cls.cell (W := w3) x q3.2.2.2.1
  have g5 := fun x => Cls.cell (W := w3) x q3.2.2.2.2.1
  have g6 := fun x => Cls.cell (W := w3) x q3.2.2.2.2.2.1
  have g7 := fun x => Cls.cell (W := w3) x q3.2.2.2.2.2.2.1
  have g8 := fun x => Cls.cell (W := w3) x q3.2.2.2.2.2.2.2
  repeat (first | go_big_quiet_step ((first | (go_at_call 13; exact Cls.calls _ (point_any _ _ _)) | (go_at_call 12; exact Cls.calls _ (circle_any _ _ _ _ _ _ _ _ _)))) | quiet_step ((first | (go_at_call 13; exact Cls.calls _ (point_any _ _ _)) | (go_at_call 12; exact Cls.calls _ (circle_any _ _ _ _ _ _ _ _ _)))))
  refine wpQuiet_nil ?_
  intro w4 hw'
  obtain ⟨x, hx⟩ := hw'
  have hb4 := x.ok
  rw [← hx] at hb4
  clear hx x g1 g2 g3 g4 g5 g6 g7 g8 inst
  have b4 := below_then b3 hb4
  have q4 := Four.later hb4 q3
  clear hb4 q3 b3
  have Q4 : Hid _ := q4
  obtain ⟨_, _, _, _, _, _, _, _⟩ := q4
  go_wp2_with fail
  have q4 := Q4.out
  clear Q4
  refine (near_any _ _ _).mono ?_
  rintro e w5 ⟨rfl, hb5⟩
  have b5 := below_then b4 hb5
  have q5 := Four.later hb5 q4
  clear hb5 q4 b4
  have Q5 : Hid _ := q5
  obtain ⟨_, _, _, _, _, _, _, _⟩ := q5
  go_wp2_with fail
  have q5 := Q5.out
  clear Q5
  refine (near_any _ _ _).mono ?_
  rintro e w6 ⟨rfl, hb6⟩
  have b6 := below_then b5 hb6
  have q6 := Four.later hb6 q5
  clear hb6 q5 b5
  have Q6 : Hid _ := q6
  obtain ⟨_, _, _, _, _, _, _, _⟩ := q6
  go_wp2_with fail
  have q6 := Q6.out
  clear Q6
  refine (near_any _ _ _).mono ?_
  rintro e w7 ⟨rfl, hb7⟩
  have b7 := below_then b6 hb7
  have q7 := Four.later hb7 q6
  clear hb7 q6 b6
  have Q7 : Hid _ := q7
  obtain ⟨_, _, _, _, _, _, _, _⟩ := q7
  go_wp2_with fail
  have q7 := Q7.out
  clear Q7
  refine (near_any _ _ _).mono ?_
  rintro e w8 ⟨rfl, hb8⟩
  have b8 := below_then b7 hb8
  have q8 := Four.later hb8 q7
  clear hb8 q7 b7
  have Q8 : Hid _ := q8
  obtain ⟨_, _, _, _, _, _, _, _⟩ := q8
  go_wp2_with fail
  have q8 := Q8.out
  clear Q8
  go_ret
  exact ⟨rfl, b8⟩

set_option maxHeartbeats 4000000 in
theorem turns_far3 (ax ay bx bY cx cy dx dy : Int) (w : World) (h1 : nearB ax ay = true) (h2 : nearB bx bY = true) (h3 : nearB cx cy = false) :
    Calls Try.prog 3 #[.agg #[.int .i64 ax, .int .i64 ay], .agg #[.int .i64 bx, .int .i64 bY], .agg #[.int .i64 cx, .int .i64 cy], .agg #[.int .i64 dx, .int .i64 dy]] w fun e w' => e = .returned (.bool true) ∧ Below w.heap.size w w' := by
  have q0 := Four.boxed w 23 ax ay bx bY cx cy dx dy
  have b0 := four_start w 23 ax ay bx bY cx cy dx dy
  have hd1 := turn_doc
  have hd2 := circle_doc
  go_enter Try.func3, Try.ntmps3
  go_wp2_with fail
  refine (turn_any _ _ _ _ _ _ _).mono ?_
  rintro e w1 ⟨rfl, hb1⟩
  have b1 := below_then b0 hb1
  have q1 := Four.later hb1 q0
  clear hb1 q0 b0
  have Q1 : Hid _ := q1
  obtain ⟨_, _, _, _, _, _, _, _⟩ := q1
  go_wp2_with fail
  have q1 := Q1.out
  clear Q1
  refine (circle_any _ _ _ _ _ _ _ _ _).mono ?_
  rintro e w2 ⟨rfl, hb2⟩
  have b2 := below_then b1 hb2
  have q2 := Four.later hb2 q1
  clear hb2 q1 b1
  have Q2 : Hid _ := q2
  obtain ⟨_, _, _, _, _, _, _, _⟩ := q2
  go_wp2_with fail
  have q2 := Q2.out
  clear Q2
  refine wp_region_cls (R := Below w2.heap.size w2) (by kernel_rfl) (by kernel_rfl) (Below.refl _ _).drew ?_
  have inst : Nonempty (Cls (Below w2.heap.size w2)) := ⟨⟨w2, Below.refl _ _⟩⟩
  have g1 := fun x => Cls.cell (W := w2) x q2.1
  have g2 := fun x => Cls.cell (W := w2) x q2.2.1
  have g3 := fun x => Cls.cell (W := w2) x q2.2.2.1
  have g4 := fun x => Cls.cell (W := w2) x q2.2.2.2.1
  have g5 := fun x => Cls.cell (W := w2) x q2.2.2.2.2.1
  have g6 := fun x => Cls.cell (W := w2) x q2.2.2.2.2.2.1
  have g7 := fun x => Cls.cell (W := w2) x q2.2.2.2.2.2.2.1
  have g8 := fun x => Cls.cell (W := w2) x q2.2.2.2.2.2.2.2
  repeat (first | go_big_quiet_step ((first | (go_at_call 13; exact Cls.calls _ (point_any _ _ _)) | (go_at_call 11; exact Cls.calls _ (turn_any _ _ _ _ _ _ _)))) | quiet_step ((first | (go_at_call 13; exact Cls.calls _ (point_any _ _ _)) | (go_at_call 11; exact Cls.calls _ (turn_any _ _ _ _ _ _ _)))))
  refine wpQuiet_nil ?_
  intro w3 hw'
  obtain ⟨x, hx⟩ := hw'
  have hb3 := x.ok
  rw [← hx] at hb3
  clear hx x g1 g2 g3 g4 g5 g6 g7 g8 inst
  have b3 := below_then b2 hb3
  have q3 := Four.later hb3 q2
  clear hb3 q2 b2
  have Q3 : Hid _ := q3
  obtain ⟨_, _, _, _, _, _, _, _⟩ := q3
  go_wp2_with fail
  have q3 := Q3.out
  clear Q3
  refine wp_region_cls (R := Below w3.heap.size w3) (by kernel_rfl) (by kernel_rfl) (Below.refl _ _).drew ?_
  have inst : Nonempty (Cls (Below w3.heap.size w3)) := ⟨⟨w3, Below.refl _ _⟩⟩
  have g1 := fun x => Cls.cell (W := w3) x q3.1
  have g2 := fun x => Cls.cell (W := w3) x q3.2.1
  have g3 := fun x => Cls.cell (W := w3) x q3.2.2.1
  have g4 := fun x => Cls.cell (W := w3) x q3.2.2.2.1
  have g5 := fun x => Cls.cell (W := w3) x q3.2.2.2.2.1
  have g6 := fun x => Cls.cell (W := w3) x q3.2.2.2.2.2.1
  have g7 := fun x => Cls.cell (W := w3) x q3.2.2.2.2.2.2.1
  have g8 := fun x => Cls.cell (W := w3) x q3.2.2.2.2.2.2.2
  repeat (first | go_big_quiet_step ((first | (go_at_call 13; exact Cls.calls _ (point_any _ _ _)) | (go_at_call 12; exact Cls.calls _ (circle_any _ _ _ _ _ _ _ _ _)))) | quiet_step ((first | (go_at_call 13; exact Cls.calls _ (point_any _ _ _)) | (go_at_call 12; exact Cls.calls _ (circle_any _ _ _ _ _ _ _ _ _)))))
  refine wpQuiet_nil ?_
  intro w4 hw'
  obtain ⟨x, hx⟩ := hw'
  have hb4 := x.ok
  rw [← hx] at hb4
  clear hx x g1 g2 g3 g4 g5 g6 g7 g8 inst
  have b4 := below_then b3 hb4
  have q4 := Four.later hb4 q3
  clear hb4 q3 b3
  have Q4 : Hid _ := q4
  obtain ⟨_, _, _, _, _, _, _, _⟩ := q4
  go_wp2_with fail
  have q4 := Q4.out
  clear Q4
  refine (near_any _ _ _).mono ?_
  rintro e w5 ⟨rfl, hb5⟩
  have b5 := below_then b4 hb5
  have q5 := Four.later hb5 q4
  clear hb5 q4 b4
  have Q5 : Hid _ := q5
  obtain ⟨_, _, _, _, _, _, _, _⟩ := q5
  go_wp2_with fail
  have q5 := Q5.out
  clear Q5
  refine (near_any _ _ _).mono ?_
  rintro e w6 ⟨rfl, hb6⟩
  have b6 := below_then b5 hb6
  have q6 := Four.later hb6 q5
  clear hb6 q5 b5
  have Q6 : Hid _ := q6
  obtain ⟨_, _, _, _, _, _, _, _⟩ := q6
  go_wp2_with fail
  have q6 := Q6.out
  clear Q6
  refine (near_any _ _ _).mono ?_
  rintro e w7 ⟨rfl, hb7⟩
  have b7 := below_then b6 hb7
  have q7 := Four.later hb7 q6
  clear hb7 q6 b6
  have Q7 : Hid _ := q7
  obtain ⟨_, _, _, _, _, _, _, _⟩ := q7
  go_wp2_with fail
  have q7 := Q7.out
  clear Q7
  refine (near_any _ _ _).mono ?_
  rintro e w8 ⟨rfl, hb8⟩
  have b8 := below_then b7 hb8
  have q8 := Four.later hb8 q7
  clear hb8 q7 b7
  have Q8 : Hid _ := q8
  obtain ⟨_, _, _, _, _, _, _, _⟩ := q8
  go_wp2_with fail
  have q8 := Q8.out
  clear Q8
  go_ret
  exact ⟨rfl, b8⟩

set_option maxHeartbeats 4000000 in
theorem turns_far4 (ax ay bx bY cx cy dx dy : Int) (w : World) (h1 : nearB ax ay = true) (h2 : nearB bx bY = true) (h3 : nearB cx cy = true) (h4 : nearB dx dy = false) :
    Calls Try.prog 3 #[.agg #[.int .i64 ax, .int .i64 ay], .agg #[.int .i64 bx, .int .i64 bY], .agg #[.int .i64 cx, .int .i64 cy], .agg #[.int .i64 dx, .int .i64 dy]] w fun e w' => e = .returned (.bool true) ∧ Below w.heap.size w w' := by
  have q0 := Four.boxed w 23 ax ay bx bY cx cy dx dy
  have b0 := four_start w 23 ax ay bx bY cx cy dx dy
  have hd1 := turn_doc
  have hd2 := circle_doc
  have ht : turnW ax ay bx bY cx cy = refTurn ax ay bx bY cx cy := turn_same ax ay bx bY cx cy h1 h2 h3
  go_enter Try.func3, Try.ntmps3
  go_wp2_with fail
  refine (turn_any _ _ _ _ _ _ _).mono ?_
  rintro e w1 ⟨rfl, hb1⟩
  have b1 := below_then b0 hb1
  have q1 := Four.later hb1 q0
  clear hb1 q0 b0
  have Q1 : Hid _ := q1
  obtain ⟨_, _, _, _, _, _, _, _⟩ := q1
  go_wp2_with fail
  have q1 := Q1.out
  clear Q1
  refine (circle_any _ _ _ _ _ _ _ _ _).mono ?_
  rintro e w2 ⟨rfl, hb2⟩
  have b2 := below_then b1 hb2
  have q2 := Four.later hb2 q1
  clear hb2 q1 b1
  have Q2 : Hid _ := q2
  obtain ⟨_, _, _, _, _, _, _, _⟩ := q2
  go_wp2_with fail
  have q2 := Q2.out
  clear Q2
  refine wp_region_cls (R := Below w2.heap.size w2) (by kernel_rfl) (by kernel_rfl) (Below.refl _ _).drew ?_
  have inst : Nonempty (Cls (Below w2.heap.size w2)) := ⟨⟨w2, Below.refl _ _⟩⟩
  have g1 := fun x => Cls.cell (W := w2) x q2.1
  have g2 := fun x => Cls.cell (W := w2) x q2.2.1
  have g3 := fun x => Cls.cell (W := w2) x q2.2.2.1
  have g4 := fun x => Cls.cell (W := w2) x q2.2.2.2.1
  have g5 := fun x => Cls.cell (W := w2) x q2.2.2.2.2.1
  have g6 := fun x => Cls.cell (W := w2) x q2.2.2.2.2.2.1
  have g7 := fun x => Cls.cell (W := w2) x q2.2.2.2.2.2.2.1
  have g8 := fun x => Cls.cell (W := w2) x q2.2.2.2.2.2.2.2
  repeat (first | go_big_quiet_step ((first | (go_at_call 13; exact Cls.calls _ (point_any _ _ _)) | (go_at_call 11; exact Cls.calls _ (turn_any _ _ _ _ _ _ _)))) | quiet_step ((first | (go_at_call 13; exact Cls.calls _ (point_any _ _ _)) | (go_at_call 11; exact Cls.calls _ (turn_any _ _ _ _ _ _ _)))))
  refine wpQuiet_nil ?_
  intro w3 hw'
  obtain ⟨x, hx⟩ := hw'
  have hb3 := x.ok
  rw [← hx] at hb3
  clear hx x g1 g2 g3 g4 g5 g6 g7 g8 inst
  have b3 := below_then b2 hb3
  have q3 := Four.later hb3 q2
  clear hb3 q2 b2
  have Q3 : Hid _ := q3
  obtain ⟨_, _, _, _, _, _, _, _⟩ := q3
  go_wp2_with fail
  have q3 := Q3.out
  clear Q3
  refine wp_region_cls (R := Below w3.heap.size w3) (by kernel_rfl) (by kernel_rfl) (Below.refl _ _).drew ?_
  have inst : Nonempty (Cls (Below w3.heap.size w3)) := ⟨⟨w3, Below.refl _ _⟩⟩
  have g1 := fun x => Cls.cell (W := w3) x q3.1
  have g2 := fun x => Cls.cell (W := w3) x q3.2.1
  have g3 := fun x => Cls.cell (W := w3) x q3.2.2.1
  have g4 := fun x => Cls.cell (W := w3) x q3.2.2.2.1
  have g5 := fun x => Cls.cell (W := w3) x q3.2.2.2.2.1
  have g6 := fun x => Cls.cell (W := w3) x q3.2.2.2.2.2.1
  have g7 := fun x => Cls.cell (W := w3) x q3.2.2.2.2.2.2.1
  have g8 := fun x => Cls.cell (W := w3) x q3.2.2.2.2.2.2.2
  repeat (first | go_big_quiet_step ((first | (go_at_call 13; exact Cls.calls _ (point_any _ _ _)) | (go_at_call 12; exact Cls.calls _ (circle_any _ _ _ _ _ _ _ _ _)))) | quiet_step ((first | (go_at_call 13; exact Cls.calls _ (point_any _ _ _)) | (go_at_call 12; exact Cls.calls _ (circle_any _ _ _ _ _ _ _ _ _)))))
  refine wpQuiet_nil ?_
  intro w4 hw'
  obtain ⟨x, hx⟩ := hw'
  have hb4 := x.ok
  rw [← hx] at hb4
  clear hx x g1 g2 g3 g4 g5 g6 g7 g8 inst
  have b4 := below_then b3 hb4
  have q4 := Four.later hb4 q3
  clear hb4 q3 b3
  have Q4 : Hid _ := q4
  obtain ⟨_, _, _, _, _, _, _, _⟩ := q4
  go_wp2_with fail
  have q4 := Q4.out
  clear Q4
  refine (near_any _ _ _).mono ?_
  rintro e w5 ⟨rfl, hb5⟩
  have b5 := below_then b4 hb5
  have q5 := Four.later hb5 q4
  clear hb5 q4 b4
  have Q5 : Hid _ := q5
  obtain ⟨_, _, _, _, _, _, _, _⟩ := q5
  go_wp2_with fail
  have q5 := Q5.out
  clear Q5
  refine (near_any _ _ _).mono ?_
  rintro e w6 ⟨rfl, hb6⟩
  have b6 := below_then b5 hb6
  have q6 := Four.later hb6 q5
  clear hb6 q5 b5
  have Q6 : Hid _ := q6
  obtain ⟨_, _, _, _, _, _, _, _⟩ := q6
  go_wp2_with fail
  have q6 := Q6.out
  clear Q6
  refine (near_any _ _ _).mono ?_
  rintro e w7 ⟨rfl, hb7⟩
  have b7 := below_then b6 hb7
  have q7 := Four.later hb7 q6
  clear hb7 q6 b6
  have Q7 : Hid _ := q7
  obtain ⟨_, _, _, _, _, _, _, _⟩ := q7
  go_wp2_with fail
  have q7 := Q7.out
  clear Q7
  refine (near_any _ _ _).mono ?_
  rintro e w8 ⟨rfl, hb8⟩
  have b8 := below_then b7 hb8
  have q8 := Four.later hb8 q7
  clear hb8 q7 b7
  have Q8 : Hid _ := q8
  obtain ⟨_, _, _, _, _, _, _, _⟩ := q8
  go_wp2_with fail
  have q8 := Q8.out
  clear Q8
  refine (refTurn_any' _ _ _ _ _ _ _).mono ?_
  rintro e w9 ⟨rfl, hb9⟩
  have b9 := below_then b8 hb9
  have q9 := Four.later hb9 q8
  clear hb9 q8 b8
  have Q9 : Hid _ := q9
  obtain ⟨_, _, _, _, _, _, _, _⟩ := q9
  go_wp2_with fail
  have q9 := Q9.out
  clear Q9
  go_ret
  exact ⟨rfl, b9⟩

set_option maxHeartbeats 4000000 in
theorem turns_near (ax ay bx bY cx cy dx dy : Int) (w : World) (h1 : nearB ax ay = true) (h2 : nearB bx bY = true) (h3 : nearB cx cy = true) (h4 : nearB dx dy = true) :
    Calls Try.prog 3 #[.agg #[.int .i64 ax, .int .i64 ay], .agg #[.int .i64 bx, .int .i64 bY], .agg #[.int .i64 cx, .int .i64 cy], .agg #[.int .i64 dx, .int .i64 dy]] w fun e w' => e = .returned (.bool true) ∧ Below w.heap.size w w' := by
  have q0 := Four.boxed w 23 ax ay bx bY cx cy dx dy
  have b0 := four_start w 23 ax ay bx bY cx cy dx dy
  have hd1 := turn_doc
  have hd2 := circle_doc
  have ht : turnW ax ay bx bY cx cy = refTurn ax ay bx bY cx cy := turn_same ax ay bx bY cx cy h1 h2 h3
  have hk : circleW ax ay bx bY cx cy dx dy = refCircle ax ay bx bY cx cy dx dy := circle_same ax ay bx bY cx cy dx dy h1 h2 h3 h4
  go_enter Try.func3, Try.ntmps3
  go_wp2_with fail
  refine (turn_any _ _ _ _ _ _ _).mono ?_
  rintro e w1 ⟨rfl, hb1⟩
  have b1 := below_then b0 hb1
  have q1 := Four.later hb1 q0
  clear hb1 q0 b0
  have Q1 : Hid _ := q1
  obtain ⟨_, _, _, _, _, _, _, _⟩ := q1
  go_wp2_with fail
  have q1 := Q1.out
  clear Q1
  refine (circle_any _ _ _ _ _ _ _ _ _).mono ?_
  rintro e w2 ⟨rfl, hb2⟩
  have b2 := below_then b1 hb2
  have q2 := Four.later hb2 q1
  clear hb2 q1 b1
  have Q2 : Hid _ := q2
  obtain ⟨_, _, _, _, _, _, _, _⟩ := q2
  go_wp2_with fail
  have q2 := Q2.out
  clear Q2
  refine wp_region_cls (R := Below w2.heap.size w2) (by kernel_rfl) (by kernel_rfl) (Below.refl _ _).drew ?_
  have inst : Nonempty (Cls (Below w2.heap.size w2)) := ⟨⟨w2, Below.refl _ _⟩⟩
  have g1 := fun x => Cls.cell (W := w2) x q2.1
  have g2 := fun x => Cls.cell (W := w2) x q2.2.1
  have g3 := fun x => Cls.cell (W := w2) x q2.2.2.1
  have g4 := fun x => Cls.cell (W := w2) x q2.2.2.2.1
  have g5 := fun x => Cls.cell (W := w2) x q2.2.2.2.2.1
  have g6 := fun x => Cls.cell (W := w2) x q2.2.2.2.2.2.1
  have g7 := fun x => Cls.cell (W := w2) x q2.2.2.2.2.2.2.1
  have g8 := fun x => Cls.cell (W := w2) x q2.2.2.2.2.2.2.2
  repeat (first | go_big_quiet_step ((first | (go_at_call 13; exact Cls.calls _ (point_any _ _ _)) | (go_at_call 11; exact Cls.calls _ (turn_any _ _ _ _ _ _ _)))) | quiet_step ((first | (go_at_call 13; exact Cls.calls _ (point_any _ _ _)) | (go_at_call 11; exact Cls.calls _ (turn_any _ _ _ _ _ _ _)))))
  refine wpQuiet_nil ?_
  intro w3 hw'
  obtain ⟨x, hx⟩ := hw'
  have hb3 := x.ok
  rw [← hx] at hb3
  clear hx x g1 g2 g3 g4 g5 g6 g7 g8 inst
  have b3 := below_then b2 hb3
  have q3 := Four.later hb3 q2
  clear hb3 q2 b2
  have Q3 : Hid _ := q3
  obtain ⟨_, _, _, _, _, _, _, _⟩ := q3
  go_wp2_with fail
  have q3 := Q3.out
  clear Q3
  refine wp_region_cls (R := Below w3.heap.size w3) (by kernel_rfl) (by kernel_rfl) (Below.refl _ _).drew ?_
  have inst : Nonempty (Cls (Below w3.heap.size w3)) := ⟨⟨w3, Below.refl _ _⟩⟩
  have g1 := fun x => Cls.cell (W := w3) x q3.1
  have g2 := fun x => Cls.cell (W := w3) x q3.2.1
  have g3 := fun x => Cls.cell (W := w3) x q3.2.2.1
  have g4 := fun x => Cls.cell (W := w3) x q3.2.2.2.1
  have g5 := fun x => Cls.cell (W := w3) x q3.2.2.2.2.1
  have g6 := fun x => Cls.cell (W := w3) x q3.2.2.2.2.2.1
  have g7 := fun x => Cls.cell (W := w3) x q3.2.2.2.2.2.2.1
  have g8 := fun x => Cls.cell (W := w3) x q3.2.2.2.2.2.2.2
  repeat (first | go_big_quiet_step ((first | (go_at_call 13; exact Cls.calls _ (point_any _ _ _)) | (go_at_call 12; exact Cls.calls _ (circle_any _ _ _ _ _ _ _ _ _)))) | quiet_step ((first | (go_at_call 13; exact Cls.calls _ (point_any _ _ _)) | (go_at_call 12; exact Cls.calls _ (circle_any _ _ _ _ _ _ _ _ _)))))
  refine wpQuiet_nil ?_
  intro w4 hw'
  obtain ⟨x, hx⟩ := hw'
  have hb4 := x.ok
  rw [← hx] at hb4
  clear hx x g1 g2 g3 g4 g5 g6 g7 g8 inst
  have b4 := below_then b3 hb4
  have q4 := Four.later hb4 q3
  clear hb4 q3 b3
  have Q4 : Hid _ := q4
  obtain ⟨_, _, _, _, _, _, _, _⟩ := q4
  go_wp2_with fail
  have q4 := Q4.out
  clear Q4
  refine (near_any _ _ _).mono ?_
  rintro e w5 ⟨rfl, hb5⟩
  have b5 := below_then b4 hb5
  have q5 := Four.later hb5 q4
  clear hb5 q4 b4
  have Q5 : Hid _ := q5
  obtain ⟨_, _, _, _, _, _, _, _⟩ := q5
  go_wp2_with fail
  have q5 := Q5.out
  clear Q5
  refine (near_any _ _ _).mono ?_
  rintro e w6 ⟨rfl, hb6⟩
  have b6 := below_then b5 hb6
  have q6 := Four.later hb6 q5
  clear hb6 q5 b5
  have Q6 : Hid _ := q6
  obtain ⟨_, _, _, _, _, _, _, _⟩ := q6
  go_wp2_with fail
  have q6 := Q6.out
  clear Q6
  refine (near_any _ _ _).mono ?_
  rintro e w7 ⟨rfl, hb7⟩
  have b7 := below_then b6 hb7
  have q7 := Four.later hb7 q6
  clear hb7 q6 b6
  have Q7 : Hid _ := q7
  obtain ⟨_, _, _, _, _, _, _, _⟩ := q7
  go_wp2_with fail
  have q7 := Q7.out
  clear Q7
  refine (near_any _ _ _).mono ?_
  rintro e w8 ⟨rfl, hb8⟩
  have b8 := below_then b7 hb8
  have q8 := Four.later hb8 q7
  clear hb8 q7 b7
  have Q8 : Hid _ := q8
  obtain ⟨_, _, _, _, _, _, _, _⟩ := q8
  go_wp2_with fail
  have q8 := Q8.out
  clear Q8
  refine (refTurn_any' _ _ _ _ _ _ _).mono ?_
  rintro e w9 ⟨rfl, hb9⟩
  have b9 := below_then b8 hb9
  have q9 := Four.later hb9 q8
  clear hb9 q8 b8
  have Q9 : Hid _ := q9
  obtain ⟨_, _, _, _, _, _, _, _⟩ := q9
  go_wp2_with fail
  have q9 := Q9.out
  clear Q9
  refine (refCircle_any' _ _ _ _ _ _ _ _ _).mono ?_
  rintro e w10 ⟨rfl, hb10⟩
  have b10 := below_then b9 hb10
  have q10 := Four.later hb10 q9
  clear hb10 q9 b9
  have Q10 : Hid _ := q10
  obtain ⟨_, _, _, _, _, _, _, _⟩ := q10
  go_wp2_with fail
  have q10 := Q10.out
  clear Q10
  go_ret
  exact ⟨rfl, b10⟩

theorem turns_walk (ax ay bx bY cx cy dx dy : Int) (w : World) :
    Calls Try.prog 3 #[.agg #[.int .i64 ax, .int .i64 ay], .agg #[.int .i64 bx, .int .i64 bY], .agg #[.int .i64 cx, .int .i64 cy], .agg #[.int .i64 dx, .int .i64 dy]] w fun e w' => e = .returned (.bool true) ∧ Below w.heap.size w w' := by
  cases h1 : nearB ax ay
  · exact turns_far1 ax ay bx bY cx cy dx dy w h1
  · cases h2 : nearB bx bY
    · exact turns_far2 ax ay bx bY cx cy dx dy w h1 h2
    · cases h3 : nearB cx cy
      · exact turns_far3 ax ay bx bY cx cy dx dy w h1 h2 h3
      · cases h4 : nearB dx dy
        · exact turns_far4 ax ay bx bY cx cy dx dy w h1 h2 h3 h4
        · exact turns_near ax ay bx bY cx cy dx dy w h1 h2 h3 h4
end Go.Proofs.Ytdkaoopkbhaheaa
