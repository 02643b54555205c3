/- Of points within the bounds nothing is wrapped: the program's Meet and the document's answer alike. -/
import Derived.Test.YtdkaoopkbhaheaaB2
import Derived.Test.YtdkaoopkbhaheaaG0
namespace Go.Proofs.Ytdkaoopkbhaheaa
open Go.RowKit

theorem near_bd {x y : Int} (h : nearB x y = true) : -1048576 ≤ x ∧ x ≤ 1048576 ∧ -1048576 ≤ y ∧ y ≤ 1048576 := by
  unfold nearB at h; exact of_decide_eq_true h

/-- A product of numbers that are not large is not large. -/
theorem mul_bd (a b A B : Int) (_hA : 0 ≤ A) (ha : -A ≤ a ∧ a ≤ A) (hb : -B ≤ b ∧ b ≤ B) : -(A * B) ≤ a * b ∧ a * b ≤ A * B := by
  have hB : 0 ≤ B := by omega
  have h1 : 0 ≤ (A - a) * (B + b) := Int.mul_nonneg (by omega) (by omega)
  have h2 : 0 ≤ (A + a) * (B - b) := Int.mul_nonneg (by omega) (by omega)
  have h3 : 0 ≤ (A - a) * (B - b) := Int.mul_nonneg (by omega) (by omega)
  have h4 : 0 ≤ (A + a) * (B + b) := Int.mul_nonneg (by omega) (by omega)
  have e1 : (A - a) * (B + b) = A * B + A * b - a * B - a * b := by grind
  have e2 : (A + a) * (B - b) = A * B - A * b + a * B - a * b := by grind
  have e3 : (A - a) * (B - b) = A * B - A * b - a * B + a * b := by grind
  have e4 : (A + a) * (B + b) = A * B + A * b + a * B + a * b := by grind
  omega

theorem crossW_eq (a b c d : Int) (ha : -2097152 ≤ a ∧ a ≤ 2097152) (hb : -2097152 ≤ b ∧ b ≤ 2097152) (hc : -2097152 ≤ c ∧ c ≤ 2097152) (hd : -2097152 ≤ d ∧ d ≤ 2097152) : crossW a b c d = a * d - b * c := by
  have k1 := mul_bd a d 2097152 2097152 (by omega) ha hd
  have k2 := mul_bd b c 2097152 2097152 (by omega) hb hc
  unfold crossW
  rw [wrap64_in (a * d) (by omega) (by omega), wrap64_in (b * c) (by omega) (by omega), wrap64_in _ (by omega) (by omega)]

theorem turnW_eq (ax ay bx bY cx cy : Int) (ha : nearB ax ay = true) (hb : nearB bx bY = true) (hc : nearB cx cy = true) : turnW ax ay bx bY cx cy = sgn (Geo.D ax ay bx bY cx cy) := by
  have ha := near_bd ha
  have hb := near_bd hb
  have hc := near_bd hc
  unfold turnW Geo.D
  rw [wrap64_in (bx - ax) (by omega) (by omega), wrap64_in (bY - ay) (by omega) (by omega), wrap64_in (cx - ax) (by omega) (by omega), wrap64_in (cy - ay) (by omega) (by omega), crossW_eq _ _ _ _ (by omega) (by omega) (by omega) (by omega)]

theorem refTurn_eq (ax ay bx bY cx cy : Int) (ha : nearB ax ay = true) (hb : nearB bx bY = true) (hc : nearB cx cy = true) : refTurn ax ay bx bY cx cy = sgn (Geo.D ax ay bx bY cx cy) := by
  have ha := near_bd ha
  have hb := near_bd hb
  have hc := near_bd hc
  unfold refTurn twiceW Geo.D
  rw [wrap64_in (bY - cy) (by omega) (by omega), wrap64_in (cy - ay) (by omega) (by omega), wrap64_in (ay - bY) (by omega) (by omega)]
  have k1 := mul_bd ax (bY - cy) 1048576 2097152 (by omega) (by omega) (by omega)
  have k2 := mul_bd bx (cy - ay) 1048576 2097152 (by omega) (by omega) (by omega)
  have k3 := mul_bd cx (ay - bY) 1048576 2097152 (by omega) (by omega) (by omega)
  rw [wrap64_in (ax * (bY - cy)) (by omega) (by omega), wrap64_in (bx * (cy - ay)) (by omega) (by omega), wrap64_in (cx * (ay - bY)) (by omega) (by omega),
    wrap64_in (ax * (bY - cy) + bx * (cy - ay)) (by omega) (by omega), wrap64_in _ (by omega) (by omega)]
  congr 1
  grind

theorem sgn_cases (n : Int) : (n < 0 ∧ sgn n = -1) ∨ (n = 0 ∧ sgn n = 0) ∨ (0 < n ∧ sgn n = 1) := by
  unfold sgn
  by_cases h1 : n < 0
  · left; rw [if_pos h1]; exact ⟨h1, rfl⟩
  · by_cases h2 : 0 < n
    · right; right; rw [if_neg h1, if_pos h2]; exact ⟨h2, rfl⟩
    · right; left; rw [if_neg h1, if_neg h2]; exact ⟨by omega, rfl⟩

theorem sgn_same (a b : Int) : 0 < mulW (sgn a) (sgn b) ↔ Geo.Same a b := by
  unfold mulW Geo.Same
  rcases sgn_cases a with ⟨h1, e1⟩ | ⟨h1, e1⟩ | ⟨h1, e1⟩ <;> rcases sgn_cases b with ⟨h2, e2⟩ | ⟨h2, e2⟩ | ⟨h2, e2⟩ <;> rw [e1, e2, wrap64_in _ (by omega) (by omega)] <;> omega
theorem sgn_opp (a b : Int) : mulW (sgn a) (sgn b) = -1 ↔ Geo.Opp a b := by
  unfold mulW Geo.Opp
  rcases sgn_cases a with ⟨h1, e1⟩ | ⟨h1, e1⟩ | ⟨h1, e1⟩ <;> rcases sgn_cases b with ⟨h2, e2⟩ | ⟨h2, e2⟩ | ⟨h2, e2⟩ <;> rw [e1, e2, wrap64_in _ (by omega) (by omega)] <;> omega
theorem sgn_eq_zero (a : Int) : (sgn a == 0) = decide (a = 0) := by
  rw [Bool.eq_iff_iff, beq_iff_eq, decide_eq_true_iff]
  rcases sgn_cases a with ⟨h1, e1⟩ | ⟨h1, e1⟩ | ⟨h1, e1⟩ <;> rw [e1] <;> omega

theorem onB_iff (px py ax ay bx bY : Int) (hp : nearB px py = true) (ha : nearB ax ay = true) (hb : nearB bx bY = true) : onB px py ax ay bx bY = true ↔ Geo.On px py ax ay bx bY := by
  unfold onB Geo.On inB
  rw [refTurn_eq _ _ _ _ _ _ ha hb hp, sgn_eq_zero]
  simp only [Bool.and_eq_true, decide_eq_true_eq, and_assoc]
  rfl

theorem meet_same (ax ay bx bY cx cy dx dy : Int) (ha : nearB ax ay = true) (hb : nearB bx bY = true) (hc : nearB cx cy = true) (hd : nearB dx dy = true) : meetB ax ay bx bY cx cy dx dy = refMeetB ax ay bx bY cx cy dx dy := by
  rw [Bool.eq_iff_iff]
  have k := Geo.meet_iff ax ay bx bY cx cy dx dy
  unfold meetB refMeetB oneSideB apartB
  rw [turnW_eq _ _ _ _ _ _ ha hb hc, turnW_eq _ _ _ _ _ _ ha hb hd, turnW_eq _ _ _ _ _ _ hc hd ha, turnW_eq _ _ _ _ _ _ hc hd hb,
    refTurn_eq _ _ _ _ _ _ ha hb hc, refTurn_eq _ _ _ _ _ _ ha hb hd, refTurn_eq _ _ _ _ _ _ hc hd ha, refTurn_eq _ _ _ _ _ _ hc hd hb]
  simp only [Bool.or_eq_true, Bool.and_eq_true, Bool.not_eq_true', decide_eq_false_iff_not, beq_iff_eq, sgn_same, sgn_opp, onB_iff _ _ _ _ _ _ ha hc hd, onB_iff _ _ _ _ _ _ hb hc hd, onB_iff _ _ _ _ _ _ hc ha hb, onB_iff _ _ _ _ _ _ hd ha hb, or_assoc, and_assoc]
  rw [← k]
  unfold overlapB Geo.Over
  simp only [decide_eq_true_eq]

theorem turn_same (ax ay bx bY cx cy : Int) (ha : nearB ax ay = true) (hb : nearB bx bY = true) (hc : nearB cx cy = true) : turnW ax ay bx bY cx cy = refTurn ax ay bx bY cx cy := by
  rw [turnW_eq _ _ _ _ _ _ ha hb hc, refTurn_eq _ _ _ _ _ _ ha hb hc]
end Go.Proofs.Ytdkaoopkbhaheaa
