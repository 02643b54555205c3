/- Plain geometry over the rational numbers: how often a ray from a point crosses an edge, and what becomes of that where the point moves and meets no edge. No Go in sight. -/
import Derived.WalkKit
namespace Go.Proofs.Ytdkaoopkbhaheaa
namespace Jor

abbrev Pt := Rat × Rat
/-- Twice the area of a, b, c. -/
def D (a b c : Pt) : Rat := (b.1 - a.1) * (c.2 - a.2) - (b.2 - a.2) * (c.1 - a.1)
def Same (a b : Rat) : Prop := (0 < a ∧ 0 < b) ∨ (a < 0 ∧ b < 0)
def Over (a b c d : Rat) : Prop := (a ≤ c ∨ a ≤ d ∨ b ≤ c ∨ b ≤ d) ∧ (c ≤ a ∨ c ≤ b ∨ d ≤ a ∨ d ≤ b)
/-- The segments from q to r and from a to b share a point. -/
def Mt (q r a b : Pt) : Prop := Over q.1 r.1 a.1 b.1 ∧ Over q.2 r.2 a.2 b.2 ∧ ¬ Same (D q r a) (D q r b) ∧ ¬ Same (D a b q) (D a b r)

/-- How the ray from q to the right, a hair above, crosses the edge from a to b: 1 upwards, -1 downwards. -/
def cr (q a b : Pt) : Int := if a.2 ≤ q.2 ∧ q.2 < b.2 ∧ 0 < D a b q then 1 else if b.2 ≤ q.2 ∧ q.2 < a.2 ∧ D a b q < 0 then -1 else 0
/-- Is v in the strip that the ray sweeps while its point goes up from q to r? -/
def str (q r v : Pt) : Int := if q.2 < v.2 ∧ v.2 ≤ r.2 ∧ D q r v < 0 then 1 else 0

theorem pos_mul {a b : Rat} (h1 : 0 < a) (h2 : 0 < b) : 0 < a * b := Rat.mul_pos h1 h2
theorem nn_mul {a b : Rat} (h1 : 0 ≤ a) (h2 : 0 ≤ b) : 0 ≤ a * b := Rat.mul_nonneg h1 h2
theorem pos_of_mul {a b : Rat} (h1 : 0 < a) (h : 0 < a * b) : 0 < b := by
  rcases Rat.le_total (a := b) (b := 0) with h2 | h2
  · have := nn_mul (Rat.le_of_lt h1) (show (0 : Rat) ≤ -b by grind)
    grind
  · by_cases e : b = 0
    · subst e; grind
    · grind
theorem nn_of_mul {a b : Rat} (h1 : 0 < a) (h : 0 ≤ a * b) : 0 ≤ b := by
  rcases Rat.le_total (a := 0) (b := b) with h2 | h2
  · exact h2
  · by_cases e : b = 0
    · grind
    · have := pos_mul h1 (show (0 : Rat) < -b by grind)
      grind

theorem D_flip (a b c : Pt) : D b a c = - D a b c := by unfold D; grind
theorem D_id (a b z : Pt) : D a b z = (b.1 - z.1) * (z.2 - a.2) - (b.2 - z.2) * (z.1 - a.1) := by unfold D; grind
theorem E1 (a b q r : Pt) : (b.2 - a.2) * D q r a = (q.2 - a.2) * D a b r - (r.2 - a.2) * D a b q := by unfold D; grind
theorem E2 (a b q r : Pt) : (b.2 - a.2) * D q r b = (b.2 - r.2) * D a b q - (b.2 - q.2) * D a b r := by unfold D; grind
theorem Ediff (a b q r : Pt) : D a b q - D a b r = D q r b - D q r a := by unfold D; grind

/-- A point between the heights of a and b, to the right of both, or to the left. -/
theorem right_of {a b z : Pt} (h1 : a.2 ≤ z.2) (h2 : z.2 ≤ b.2) (h : a.2 < b.2) (x1 : a.1 < z.1) (x2 : b.1 < z.1) : D a b z < 0 := by
  rw [D_id]
  have k1 := nn_mul (show 0 ≤ z.1 - b.1 by grind) (show 0 ≤ z.2 - a.2 by grind)
  have k2 := nn_mul (show 0 ≤ b.2 - z.2 by grind) (show 0 ≤ z.1 - a.1 by grind)
  by_cases e : z.2 = a.2
  · have k3 := pos_mul (show 0 < b.2 - z.2 by grind) (show 0 < z.1 - a.1 by grind)
    grind
  · have k3 := pos_mul (show 0 < z.1 - b.1 by grind) (show 0 < z.2 - a.2 by grind)
    grind
theorem left_of {a b z : Pt} (h1 : a.2 ≤ z.2) (h2 : z.2 ≤ b.2) (h : a.2 < b.2) (x1 : z.1 < a.1) (x2 : z.1 < b.1) : 0 < D a b z := by
  rw [D_id]
  have k1 := nn_mul (show 0 ≤ b.1 - z.1 by grind) (show 0 ≤ z.2 - a.2 by grind)
  have k2 := nn_mul (show 0 ≤ b.2 - z.2 by grind) (show 0 ≤ a.1 - z.1 by grind)
  by_cases e : z.2 = a.2
  · have k3 := pos_mul (show 0 < b.2 - z.2 by grind) (show 0 < a.1 - z.1 by grind)
    grind
  · have k3 := pos_mul (show 0 < b.1 - z.1 by grind) (show 0 < z.2 - a.2 by grind)
    grind

/-- The sides of the boxes overlap, unless one segment is wholly to the left of the other. -/
theorem over_or (a b c d : Rat) : Over a b c d ∨ (c < a ∧ d < a ∧ c < b ∧ d < b) ∨ (a < c ∧ a < d ∧ b < c ∧ b < d) := by
  unfold Over; grind
theorem Mt_swap (q r a b : Pt) : Mt q r a b ↔ Mt a b q r := by unfold Mt Over; grind
theorem Over_flip (a b c d : Rat) : Over a b c d ↔ Over a b d c := by unfold Over; grind
theorem Same_comm (a b : Rat) : Same a b ↔ Same b a := by unfold Same; grind
theorem Same_neg (a b : Rat) : Same (-a) (-b) ↔ Same a b := by
  unfold Same
  constructor
  · rintro (⟨h1, h2⟩ | ⟨h1, h2⟩)
    · right; exact ⟨by grind, by grind⟩
    · left; exact ⟨by grind, by grind⟩
  · rintro (⟨h1, h2⟩ | ⟨h1, h2⟩)
    · right; exact ⟨by grind, by grind⟩
    · left; exact ⟨by grind, by grind⟩
theorem Mt_flip (q r a b : Pt) : Mt q r a b ↔ Mt q r b a := by
  unfold Mt
  rw [Over_flip q.1 r.1 a.1 b.1, Over_flip q.2 r.2 a.2 b.2, Same_comm (D q r a), D_flip a b q, D_flip a b r, Same_neg]
theorem Mt_flip' (q r a b : Pt) : Mt q r a b ↔ Mt r q a b := by rw [Mt_swap, Mt_flip, Mt_swap]

theorem same_of_neg {a b : Rat} (h : ¬ Same a b) (ha : 0 < a) : b ≤ 0 := by unfold Same at h; grind

/-- The ways in which an edge that goes up lies against the strip. -/
theorem way3 {q r a b : Pt} (hn : ¬ Mt q r a b) (h1 : a.2 ≤ q.2) (h2 : q.2 < b.2) (h3 : b.2 ≤ r.2) : 0 < D a b q ↔ D q r b < 0 := by
  have oy : Over q.2 r.2 a.2 b.2 := by unfold Over; grind
  have e1 := E1 q r a b
  have e2 := E2 a b q r
  constructor
  · intro ha
    by_cases hd : D q r b < 0
    · exact hd
    · exfalso
      have hd : 0 ≤ D q r b := by grind
      have k1 := nn_mul (show 0 ≤ q.2 - a.2 by grind) hd
      have k2 := pos_mul (show 0 < r.2 - q.2 by grind) ha
      have hg : 0 < - D q r a := pos_of_mul (a := b.2 - q.2) (by grind) (by grind)
      have k3 := nn_mul (show 0 ≤ r.2 - b.2 by grind) (Rat.le_of_lt ha)
      have k4 := nn_mul (show 0 ≤ b.2 - a.2 by grind) hd
      have hr : 0 ≤ - D a b r := nn_of_mul (a := b.2 - q.2) (by grind) (by grind)
      refine hn ⟨?_, oy, by unfold Same; grind, by unfold Same; grind⟩
      rcases over_or q.1 r.1 a.1 b.1 with h | h | h
      · exact h
      · have := right_of h1 (Rat.le_of_lt h2) (by grind) h.1 h.2.1
        grind
      · have := right_of (a := q) (b := r) (z := b) (Rat.le_of_lt h2) h3 (by grind) h.2.1 h.2.2.2
        grind
  · intro hd
    by_cases ha : 0 < D a b q
    · exact ha
    · exfalso
      have ha : D a b q ≤ 0 := by grind
      have k1 := nn_mul (show 0 ≤ q.2 - a.2 by grind) (show 0 ≤ - D q r b by grind)
      have k2 := nn_mul (show 0 ≤ r.2 - q.2 by grind) (show 0 ≤ - D a b q by grind)
      have hg : 0 ≤ D q r a := nn_of_mul (a := b.2 - q.2) (by grind) (by grind)
      have k3 := nn_mul (show 0 ≤ r.2 - b.2 by grind) (show 0 ≤ - D a b q by grind)
      have k4 := pos_mul (show 0 < b.2 - a.2 by grind) (show 0 < - D q r b by grind)
      have hr : 0 < D a b r := pos_of_mul (a := b.2 - q.2) (by grind) (by grind)
      refine hn ⟨?_, oy, by unfold Same; grind, by unfold Same; grind⟩
      rcases over_or q.1 r.1 a.1 b.1 with h | h | h
      · exact h
      · have := left_of (a := q) (b := r) (z := b) (Rat.le_of_lt h2) h3 (by grind) h.2.1 h.2.2.2
        grind
      · have := left_of h1 (Rat.le_of_lt h2) (by grind) h.1 h.2.1
        grind
theorem way4 {q r a b : Pt} (hn : ¬ Mt q r a b) (h1 : a.2 ≤ q.2) (h2 : q.2 ≤ b.2) (h3 : a.2 ≤ r.2) (h4 : r.2 ≤ b.2) (h5 : a.2 < b.2) : 0 < D a b q ↔ 0 < D a b r := by
  have oy : Over q.2 r.2 a.2 b.2 := by unfold Over; grind
  have e1 := E1 a b q r
  have e2 := E2 a b q r
  constructor
  · intro ha
    by_cases hd : 0 < D a b r
    · exact hd
    · exfalso
      have hd : D a b r ≤ 0 := by grind
      have k1 := nn_mul (show 0 ≤ q.2 - a.2 by grind) (show 0 ≤ - D a b r by grind)
      have k2 := nn_mul (show 0 ≤ r.2 - a.2 by grind) (Rat.le_of_lt ha)
      have k3 := nn_mul (show 0 ≤ b.2 - r.2 by grind) (Rat.le_of_lt ha)
      have k4 := nn_mul (show 0 ≤ b.2 - q.2 by grind) (show 0 ≤ - D a b r by grind)
      have hg : 0 ≤ - D q r a := nn_of_mul (a := b.2 - a.2) (by grind) (by grind)
      have hr : 0 ≤ D q r b := nn_of_mul (a := b.2 - a.2) (by grind) (by grind)
      refine hn ⟨?_, oy, by unfold Same; grind, by unfold Same; grind⟩
      rcases over_or q.1 r.1 a.1 b.1 with h | h | h
      · exact h
      · have := right_of h1 h2 h5 h.1 h.2.1
        grind
      · have := left_of h3 h4 h5 h.2.2.1 h.2.2.2
        grind
  · intro hd
    by_cases ha : 0 < D a b q
    · exact ha
    · exfalso
      have ha : D a b q ≤ 0 := by grind
      have k1 := nn_mul (show 0 ≤ q.2 - a.2 by grind) (Rat.le_of_lt hd)
      have k2 := nn_mul (show 0 ≤ r.2 - a.2 by grind) (show 0 ≤ - D a b q by grind)
      have k3 := nn_mul (show 0 ≤ b.2 - r.2 by grind) (show 0 ≤ - D a b q by grind)
      have k4 := nn_mul (show 0 ≤ b.2 - q.2 by grind) (Rat.le_of_lt hd)
      have hg : 0 ≤ D q r a := nn_of_mul (a := b.2 - a.2) (by grind) (by grind)
      have hr : 0 ≤ - D q r b := nn_of_mul (a := b.2 - a.2) (by grind) (by grind)
      refine hn ⟨?_, oy, by unfold Same; grind, by unfold Same; grind⟩
      rcases over_or q.1 r.1 a.1 b.1 with h | h | h
      · exact h
      · have := right_of h3 h4 h5 h.2.2.1 h.2.2.2
        grind
      · have := left_of h1 h2 h5 h.1 h.2.1
        grind
theorem way4n {q r a b : Pt} (hn : ¬ Mt q r a b) (h1 : a.2 ≤ q.2) (h2 : q.2 ≤ b.2) (h3 : a.2 ≤ r.2) (h4 : r.2 ≤ b.2) (h5 : a.2 < b.2) : D a b q < 0 ↔ D a b r < 0 := by
  have oy : Over q.2 r.2 a.2 b.2 := by unfold Over; grind
  have e1 := E1 a b q r
  have e2 := E2 a b q r
  constructor
  · intro ha
    by_cases hd : D a b r < 0
    · exact hd
    · exfalso
      have hd : 0 ≤ D a b r := by grind
      have k1 := nn_mul (show 0 ≤ q.2 - a.2 by grind) hd
      have k2 := nn_mul (show 0 ≤ r.2 - a.2 by grind) (show 0 ≤ - D a b q by grind)
      have k3 := nn_mul (show 0 ≤ b.2 - r.2 by grind) (show 0 ≤ - D a b q by grind)
      have k4 := nn_mul (show 0 ≤ b.2 - q.2 by grind) hd
      have hg : 0 ≤ D q r a := nn_of_mul (a := b.2 - a.2) (by grind) (by grind)
      have hr : 0 ≤ - D q r b := nn_of_mul (a := b.2 - a.2) (by grind) (by grind)
      refine hn ⟨?_, oy, by unfold Same; grind, by unfold Same; grind⟩
      rcases over_or q.1 r.1 a.1 b.1 with h | h | h
      · exact h
      · have := right_of h3 h4 h5 h.2.2.1 h.2.2.2
        grind
      · have := left_of h1 h2 h5 h.1 h.2.1
        grind
  · intro hd
    by_cases ha : D a b q < 0
    · exact ha
    · exfalso
      have ha : 0 ≤ D a b q := by grind
      have k1 := nn_mul (show 0 ≤ q.2 - a.2 by grind) (show 0 ≤ - D a b r by grind)
      have k2 := nn_mul (show 0 ≤ r.2 - a.2 by grind) ha
      have k3 := nn_mul (show 0 ≤ b.2 - r.2 by grind) ha
      have k4 := nn_mul (show 0 ≤ b.2 - q.2 by grind) (show 0 ≤ - D a b r by grind)
      have hg : 0 ≤ - D q r a := nn_of_mul (a := b.2 - a.2) (by grind) (by grind)
      have hr : 0 ≤ D q r b := nn_of_mul (a := b.2 - a.2) (by grind) (by grind)
      refine hn ⟨?_, oy, by unfold Same; grind, by unfold Same; grind⟩
      rcases over_or q.1 r.1 a.1 b.1 with h | h | h
      · exact h
      · have := right_of h1 h2 h5 h.1 h.2.1
        grind
      · have := left_of h3 h4 h5 h.2.2.1 h.2.2.2
        grind
theorem way5 {q r a b : Pt} (hn : ¬ Mt q r a b) (h1 : q.2 < a.2) (h2 : a.2 ≤ r.2) (h3 : r.2 < b.2) : 0 < D a b r ↔ D q r a < 0 := by
  have oy : Over q.2 r.2 a.2 b.2 := by unfold Over; grind
  have e1 := E2 q r a b
  have e2 := E1 a b q r
  constructor
  · intro ha
    by_cases hd : D q r a < 0
    · exact hd
    · exfalso
      have hd : 0 ≤ D q r a := by grind
      have k1 := pos_mul (show 0 < r.2 - q.2 by grind) ha
      have k2 := nn_mul (show 0 ≤ b.2 - r.2 by grind) hd
      have n1 : 0 < (r.2 - a.2) * (- D q r b) := by grind
      have n2 : r.2 - a.2 ≠ 0 := fun e => by rw [e] at n1; grind
      have hg : 0 < - D q r b := pos_of_mul (a := r.2 - a.2) (by grind) n1
      have k3 := pos_mul (show 0 < a.2 - q.2 by grind) ha
      have k4 := nn_mul (show 0 ≤ b.2 - a.2 by grind) hd
      have hr : 0 < - D a b q := pos_of_mul (a := r.2 - a.2) (by grind) (by grind)
      refine hn ⟨?_, oy, by unfold Same; grind, by unfold Same; grind⟩
      rcases over_or q.1 r.1 a.1 b.1 with h | h | h
      · exact h
      · have := right_of (a := a) (b := b) (z := r) h2 (Rat.le_of_lt h3) (by grind) h.2.2.1 h.2.2.2
        grind
      · have := right_of (a := q) (b := r) (z := a) (Rat.le_of_lt h1) h2 (by grind) h.1 h.2.2.1
        grind
  · intro hd
    by_cases ha : 0 < D a b r
    · exact ha
    · exfalso
      have ha : D a b r ≤ 0 := by grind
      have k1 := nn_mul (show 0 ≤ r.2 - q.2 by grind) (show 0 ≤ - D a b r by grind)
      have k2 := pos_mul (show 0 < b.2 - r.2 by grind) (show 0 < - D q r a by grind)
      have n1 : 0 < (r.2 - a.2) * D q r b := by grind
      have n2 : r.2 - a.2 ≠ 0 := fun e => by rw [e] at n1; grind
      have hg : 0 < D q r b := pos_of_mul (a := r.2 - a.2) (by grind) n1
      have k3 := nn_mul (show 0 ≤ a.2 - q.2 by grind) (show 0 ≤ - D a b r by grind)
      have k4 := pos_mul (show 0 < b.2 - a.2 by grind) (show 0 < - D q r a by grind)
      have hr : 0 < D a b q := pos_of_mul (a := r.2 - a.2) (by grind) (by grind)
      refine hn ⟨?_, oy, by unfold Same; grind, by unfold Same; grind⟩
      rcases over_or q.1 r.1 a.1 b.1 with h | h | h
      · exact h
      · have := left_of (a := q) (b := r) (z := a) (Rat.le_of_lt h1) h2 (by grind) h.1 h.2.2.1
        grind
      · have := left_of (a := a) (b := b) (z := r) h2 (Rat.le_of_lt h3) (by grind) h.2.2.1 h.2.2.2
        grind

theorem way6 {q r a b : Pt} (hn : ¬ Mt q r a b) (h1 : q.2 < a.2) (h2 : a.2 ≤ r.2) (h3 : q.2 < b.2) (h4 : b.2 ≤ r.2) : D q r a < 0 ↔ D q r b < 0 :=
  way4n (fun h => hn ((Mt_swap _ _ _ _).1 h)) (Rat.le_of_lt h1) h2 (Rat.le_of_lt h3) h4 (by grind)

theorem cr_flip (q a b : Pt) : cr q b a = - cr q a b := by
  unfold cr
  rw [D_flip a b q]
  by_cases h1 : a.2 ≤ q.2 ∧ q.2 < b.2 ∧ 0 < D a b q
  · rw [if_pos h1, if_neg (by grind), if_pos (by grind)]
  · rw [if_neg h1]
    by_cases h2 : b.2 ≤ q.2 ∧ q.2 < a.2 ∧ D a b q < 0
    · rw [if_pos h2, if_pos (by grind)]; rfl
    · rw [if_neg h2, if_neg (by grind), if_neg (by grind)]; rfl

/-- An edge that goes up, or along. -/
theorem sweep_up {q r a b : Pt} (hn : ¬ Mt q r a b) (hq : q.2 ≤ r.2) (hab : a.2 ≤ b.2) : cr q a b - cr r a b = str q r b - str q r a := by
  have c0 : ∀ z : Pt, cr z a b = if a.2 ≤ z.2 ∧ z.2 < b.2 ∧ 0 < D a b z then 1 else 0 := by
    intro z
    unfold cr
    by_cases h : a.2 ≤ z.2 ∧ z.2 < b.2 ∧ 0 < D a b z
    · rw [if_pos h, if_pos h]
    · rw [if_neg h, if_neg h, if_neg (by grind)]
  rw [c0, c0]
  unfold str
  by_cases u1 : b.2 ≤ q.2
  · rw [if_neg (by grind), if_neg (by grind), if_neg (by grind), if_neg (by grind)]
  · by_cases u2 : r.2 < a.2
    · rw [if_neg (by grind), if_neg (by grind), if_neg (by grind), if_neg (by grind)]
    · by_cases u3 : a.2 ≤ q.2
      · by_cases u4 : b.2 ≤ r.2
        · have k := way3 hn u3 (by grind) u4
          rw [if_neg (c := a.2 ≤ r.2 ∧ _) (by grind), if_neg (c := q.2 < a.2 ∧ _) (by grind)]
          by_cases v : 0 < D a b q
          · rw [if_pos (by grind), if_pos (by grind)]
          · rw [if_neg (by grind), if_neg (by grind)]
        · have k := way4 hn u3 (by grind) (by grind) (by grind) (by grind)
          rw [if_neg (c := q.2 < b.2 ∧ _) (by grind), if_neg (c := q.2 < a.2 ∧ _) (by grind)]
          by_cases v : 0 < D a b q
          · rw [if_pos (by grind), if_pos (by grind)]; rfl
          · rw [if_neg (by grind), if_neg (by grind)]
      · by_cases u4 : b.2 ≤ r.2
        · have k := way6 hn (by grind) (by grind) (by grind) u4
          rw [if_neg (c := a.2 ≤ q.2 ∧ _) (by grind), if_neg (c := a.2 ≤ r.2 ∧ _) (by grind)]
          by_cases v : D q r a < 0
          · rw [if_pos (by grind), if_pos (by grind)]; rfl
          · rw [if_neg (by grind), if_neg (by grind)]
        · have k := way5 hn (by grind) (by grind) (by grind)
          rw [if_neg (c := a.2 ≤ q.2 ∧ _) (by grind), if_neg (c := q.2 < b.2 ∧ _) (by grind)]
          by_cases v : D q r a < 0
          · rw [if_pos (by grind), if_pos (by grind)]
          · rw [if_neg (by grind), if_neg (by grind)]

/-- The strip between two points, whichever is higher. -/
def sw (q r v : Pt) : Int := if q.2 ≤ r.2 then str q r v else - str r q v

/-- WHERE A POINT MOVES FROM q TO r AND MEETS NO POINT OF THE EDGE: how the crossing turns is told by the edge's two ends. -/
theorem sweep {q r a b : Pt} (hn : ¬ Mt q r a b) : cr q a b - cr r a b = sw q r b - sw q r a := by
  have up : ∀ {q r : Pt}, ¬ Mt q r a b → q.2 ≤ r.2 → cr q a b - cr r a b = str q r b - str q r a := by
    intro q r hn hq
    rcases Rat.le_total (a := a.2) (b := b.2) with h | h
    · exact sweep_up hn hq h
    · have k := sweep_up (fun h => hn ((Mt_flip _ _ _ _).2 h)) hq h
      rw [cr_flip q a b, cr_flip r a b] at k
      omega
  unfold sw
  by_cases h : q.2 ≤ r.2
  · rw [if_pos h, if_pos h]; exact up hn h
  · rw [if_neg h, if_neg h]
    have k := up (fun h => hn ((Mt_flip' _ _ _ _).1 h)) (show r.2 ≤ q.2 by grind)
    omega
end Jor
end Go.Proofs.Ytdkaoopkbhaheaa
