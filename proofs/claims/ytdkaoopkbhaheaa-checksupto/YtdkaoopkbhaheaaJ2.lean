/- Plain geometry over the rational numbers: the number of windings of a ring around a point that is on none of its edges is -1, 0 or 1. No Go in sight. -/
import Derived.Test.YtdkaoopkbhaheaaJ1
namespace Go.Proofs.Ytdkaoopkbhaheaa
namespace Jor

/-- What lies to the left of the ring, all along it. -/
def leftOf (v : Nat → Pt) (n : Nat) : Int := wind v n (v 1) + ahead (v 0) (v 1) (v 2)
theorem left_all {v : Nat → Pt} {n : Nat} (R : Ring v n) (i : Nat) : wind v n (v (i + 1)) + ahead (v i) (v (i + 1)) (v (i + 2)) = leftOf v n := by
  induction i with
  | zero => rfl
  | succ i ih => rw [← ih]; exact (left_same R i).symm
theorem ahead_01 (A B C : Pt) : ahead A B C = 0 ∨ ahead A B C = 1 := by
  unfold ahead; split
  · exact .inr rfl
  · exact .inl rfl

/-- A highest point. -/
theorem top_below (v : Nat → Pt) (n : Nat) : ∃ m, ∀ j, j < n + 1 → (v j).2 ≤ (v m).2 := by
  induction n with
  | zero => exact ⟨0, fun j hj => by have : j = 0 := by omega
                                     subst this; exact Rat.le_refl⟩
  | succ n ih =>
    obtain ⟨m, hm⟩ := ih
    rcases Rat.le_total (a := (v m).2) (b := (v (n + 1)).2) with h | h
    · refine ⟨n + 1, fun j hj => ?_⟩
      by_cases e : j = n + 1
      · subst e; exact Rat.le_refl
      · have := hm j (by omega); grind
    · refine ⟨m, fun j hj => ?_⟩
      by_cases e : j = n + 1
      · subst e; exact h
      · exact hm j (by omega)
theorem per_mul {v : Nat → Pt} {n : Nat} (R : Ring v n) (k q : Nat) : v (k + n * q) = v k := by
  induction q with
  | zero => rfl
  | succ q ih => rw [show k + n * (q + 1) = (k + n * q) + n by rw [Nat.mul_succ]; omega, R.per, ih]
theorem per_mod {v : Nat → Pt} {n : Nat} (R : Ring v n) (k : Nat) : v k = v (k % n) := by
  have h := per_mul R (k % n) (k / n)
  rw [Nat.mod_add_div] at h
  exact h
theorem top {v : Nat → Pt} {n : Nat} (R : Ring v n) : ∃ m, ∀ j, (v j).2 ≤ (v (m + 1)).2 := by
  obtain ⟨m, hm⟩ := top_below v n
  have h3 := R.three
  refine ⟨m + n - 1, fun j => ?_⟩
  rw [show m + n - 1 + 1 = m + n by omega, R.per, per_mod R j]
  exact hm _ (by have := Nat.mod_lt j (show 0 < n by omega); omega)
theorem wind_top {v : Nat → Pt} {n : Nat} (q : Pt) (h : ∀ j, (v j).2 ≤ q.2) : wind v n q = 0 := by
  unfold wind
  rw [sm_congr (g := fun _ => 0) (fun k _ => by
    have h1 := h k
    have h2 := h (k + 1)
    unfold cr
    rw [if_neg (by grind), if_neg (by grind)])]
  clear h
  induction n with
  | zero => rfl
  | succ n ih => rw [sm, ih]; rfl
theorem left_01 {v : Nat → Pt} {n : Nat} (R : Ring v n) : leftOf v n = 0 ∨ leftOf v n = 1 := by
  obtain ⟨m, hm⟩ := top R
  rw [← left_all R m, wind_top _ hm]
  rcases ahead_01 (v m) (v (m + 1)) (v (m + 2)) with h | h <;> rw [h] <;> simp

/-- Does an edge reach over a height? Where it does. -/
def span (a b : Pt) (h : Rat) : Prop := (a.2 ≤ h ∧ h < b.2) ∨ (b.2 ≤ h ∧ h < a.2)
def xat (a b : Pt) (h : Rat) : Rat := a.1 + (b.1 - a.1) * ((h - a.2) / (b.2 - a.2))
def dir (a b : Pt) : Int := if a.2 < b.2 then 1 else -1

theorem D_xat (a b z : Pt) (h : a.2 ≠ b.2) : D a b z = (b.2 - a.2) * (xat a b z.2 - z.1) := by
  have e : (z.2 - a.2) / (b.2 - a.2) * (b.2 - a.2) = z.2 - a.2 := Rat.div_mul_cancel (by grind)
  unfold D xat
  generalize (z.2 - a.2) / (b.2 - a.2) = s at *
  grind
theorem cr_no {a b q : Pt} (h : ¬ span a b q.2) : cr q a b = 0 := by
  unfold span at h
  unfold cr
  rw [if_neg (by grind), if_neg (by grind)]
theorem cr_at {a b q : Pt} (h : span a b q.2) : cr q a b = if q.1 < xat a b q.2 then dir a b else 0 := by
  have hd := D_xat a b q (by unfold span at h; grind)
  unfold cr dir
  rcases h with ⟨h1, h2⟩ | ⟨h1, h2⟩
  · by_cases h3 : q.1 < xat a b q.2
    · have k := pos_mul (show 0 < b.2 - a.2 by grind) (show 0 < xat a b q.2 - q.1 by grind)
      rw [if_pos (by grind), if_pos h3, if_pos (by grind)]
    · have k := nn_mul (show 0 ≤ b.2 - a.2 by grind) (show 0 ≤ q.1 - xat a b q.2 by grind)
      rw [if_neg (by grind), if_neg (by grind), if_neg h3]
  · by_cases h3 : q.1 < xat a b q.2
    · have k := pos_mul (show 0 < a.2 - b.2 by grind) (show 0 < xat a b q.2 - q.1 by grind)
      rw [if_neg (by grind), if_pos (by grind), if_pos h3, if_neg (by grind)]
    · have k := nn_mul (show 0 ≤ a.2 - b.2 by grind) (show 0 ≤ q.1 - xat a b q.2 by grind)
      rw [if_neg (by grind), if_neg (by grind), if_neg h3]

/-- Of the numbers that are asked for one is the least. -/
theorem least (f : Nat → Rat) (p : Nat → Prop) (n : Nat) : (∀ j, j < n → ¬ p j) ∨ ∃ i, i < n ∧ p i ∧ ∀ j, j < n → p j → f i ≤ f j := by
  induction n with
  | zero => left; intro j hj; omega
  | succ n ih =>
    by_cases hp : p n
    · right
      rcases ih with h | ⟨i, hi, pi, h⟩
      · refine ⟨n, by omega, hp, fun j hj pj => ?_⟩
        by_cases e : j = n
        · subst e; exact Rat.le_refl
        · exact absurd pj (h j (by omega))
      · rcases Rat.le_total (a := f i) (b := f n) with h2 | h2
        · refine ⟨i, by omega, pi, fun j hj pj => ?_⟩
          by_cases e : j = n
          · subst e; exact h2
          · exact h j (by omega) pj
        · refine ⟨n, by omega, hp, fun j hj pj => ?_⟩
          by_cases e : j = n
          · subst e; exact Rat.le_refl
          · have := h j (by omega) pj; grind
    · rcases ih with h | ⟨i, hi, pi, h⟩
      · left; intro j hj pj
        by_cases e : j = n
        · subst e; exact hp pj
        · exact h j (by omega) pj
      · right
        refine ⟨i, by omega, pi, fun j hj pj => ?_⟩
        by_cases e : j = n
        · subst e; exact absurd pj hp
        · exact h j (by omega) pj

/-- A point at which an edge is, at a height over which it reaches: on its line, and in its box. -/
theorem at_on {a b : Pt} {h : Rat} (hs : span a b h) : D a b (xat a b h, h) = 0 ∧ ((a.1 ≤ xat a b h ∧ xat a b h ≤ b.1) ∨ (b.1 ≤ xat a b h ∧ xat a b h ≤ a.1)) ∧ ((a.2 ≤ h ∧ h ≤ b.2) ∨ (b.2 ≤ h ∧ h ≤ a.2)) := by
  have hne : a.2 ≠ b.2 := by unfold span at hs; grind
  refine ⟨?_, ?_, by unfold span at hs; grind⟩
  · rw [D_xat a b _ hne]; simp only []; grind
  · have e : (h - a.2) / (b.2 - a.2) * (b.2 - a.2) = h - a.2 := Rat.div_mul_cancel (by grind)
    have hs01 : 0 ≤ (h - a.2) / (b.2 - a.2) ∧ (h - a.2) / (b.2 - a.2) ≤ 1 := by
      generalize (h - a.2) / (b.2 - a.2) = s at *
      rcases hs with ⟨h1, h2⟩ | ⟨h1, h2⟩
      · exact ⟨nn_of_mul (a := b.2 - a.2) (by grind) (by grind), by
          have : 0 ≤ 1 - s := nn_of_mul (a := b.2 - a.2) (by grind) (by grind)
          grind⟩
      · exact ⟨nn_of_mul (a := a.2 - b.2) (by grind) (by grind), by
          have : 0 ≤ 1 - s := nn_of_mul (a := a.2 - b.2) (by grind) (by grind)
          grind⟩
    unfold xat
    generalize (h - a.2) / (b.2 - a.2) = s at *
    rcases Rat.le_total (a := a.1) (b := b.1) with hx | hx
    · have k1 := nn_mul (show 0 ≤ b.1 - a.1 by grind) hs01.1
      have k2 := nn_mul (show 0 ≤ b.1 - a.1 by grind) (show 0 ≤ 1 - s by grind)
      left; constructor <;> grind
    · have k1 := nn_mul (show 0 ≤ a.1 - b.1 by grind) hs01.1
      have k2 := nn_mul (show 0 ≤ a.1 - b.1 by grind) (show 0 ≤ 1 - s by grind)
      right; constructor <;> grind
end Jor
end Go.Proofs.Ytdkaoopkbhaheaa
