/- The program: crossed. -/
import Derived.Test.YtdkaoopkbhaheaaF2
namespace Go.Proofs.Ytdkaoopkbhaheaa
open Go.RowKit Go.Lib
open Jor
set_option linter.unusedVariables false
set_option linter.unusedSimpArgs false

set_option maxHeartbeats 2000000 in
theorem crossed_any (px py ax ay bx bY : Int) (w : World) :
    Calls Try.prog 113 #[.agg #[.int .i64 px, .int .i64 py], .agg #[.int .i64 ax, .int .i64 ay], .agg #[.int .i64 bx, .int .i64 bY]] w fun e w' => e = .returned (.bool (crossedB (px, py) (ax, ay) (bx, bY))) ∧ Below w.heap.size w w' := by
  have hs : Below w.heap.size w (((w.alloc (.cells #[.int .i64 px, .int .i64 py] 25)).alloc (.cells #[.int .i64 ax, .int .i64 ay] 25)).alloc (.cells #[.int .i64 bx, .int .i64 bY] 25)) := ((((Below.refl _ _).alloc (Nat.le_refl _) _).alloc (by simp) _).alloc (by simp; omega) _)
  have CB : Hid (crossedB (px, py) (ax, ay) (bx, bY) = if ay ≤ py ∧ py < bY then decide (0 < turnW ax ay bx bY px py) else if bY ≤ py ∧ py < ay then decide (0 < turnW bx bY ax ay px py) else false) := rfl
  by_cases h1 : ay ≤ py
  · by_cases h2 : py < bY
    · have HR : Hid (crossedB (px, py) (ax, ay) (bx, bY) = decide (0 < turnW ax ay bx bY px py)) := CB.out.trans (if_pos ⟨h1, h2⟩)
      go_enter Try.func113, Try.ntmps113
      go_wp2_with fail
      refine (planeTurn_any _ _ _ _ _ _ _).mono ?_
      rintro e w1 ⟨rfl, hb1⟩
      go_wp2
      go_ret
      exact ⟨retb HR.out, below_then hs hb1⟩
    · have HR : Hid (crossedB (px, py) (ax, ay) (bx, bY) = false) := CB.out.trans (by rw [if_neg (by omega), if_neg (by omega)])
      have h3 : bY ≤ py := by omega
      go_enter Try.func113, Try.ntmps113
      go_wp2
      go_ret
      exact ⟨retb HR.out, hs⟩
  · by_cases h2 : bY ≤ py
    · have h3 : py < ay := by omega
      have HR : Hid (crossedB (px, py) (ax, ay) (bx, bY) = decide (0 < turnW bx bY ax ay px py)) := CB.out.trans (by rw [if_neg (by omega), if_pos ⟨h2, h3⟩])
      go_enter Try.func113, Try.ntmps113
      go_wp2_with fail
      refine (planeTurn_any _ _ _ _ _ _ _).mono ?_
      rintro e w1 ⟨rfl, hb1⟩
      go_wp2
      go_ret
      exact ⟨retb HR.out, below_then hs hb1⟩
    · have HR : Hid (crossedB (px, py) (ax, ay) (bx, bY) = false) := CB.out.trans (by rw [if_neg (by omega), if_neg (by omega)])
      go_enter Try.func113, Try.ntmps113
      go_wp2
      go_ret
      exact ⟨retb HR.out, hs⟩
end Go.Proofs.Ytdkaoopkbhaheaa
