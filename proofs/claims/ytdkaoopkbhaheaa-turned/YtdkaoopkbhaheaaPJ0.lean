import Derived.WalkKit
namespace Go.Proofs.Ytdkaoopkbhaheaa
namespace Jor
abbrev Pt := Rat × Rat
def D (a b c : Pt) : Rat := (b.1 - a.1) * (c.2 - a.2) - (b.2 - a.2) * (c.1 - a.1)
def Same (a b : Rat) : Prop := (0 < a ∧ 0 < b) ∨ (a < 0 ∧ b < 0)
def Over (a b c d : Rat) : Prop := (a ≤ c ∨ a ≤ d ∨ b ≤ c ∨ b ≤ d) ∧ (c ≤ a ∨ c ≤ b ∨ d ≤ a ∨ d ≤ b)
def Mt (q r a b : Pt) : Prop := Over q.1 r.1 a.1 b.1 ∧ Over q.2 r.2 a.2 b.2 ∧ ¬ Same (D q r a) (D q r b) ∧ ¬ Same (D a b q) (D a b r)
def cr (q a b : Pt) : Int := if a.2 ≤ q.2 ∧ q.2 < b.2 ∧ 0 < D a b q then 1 else if b.2 ≤ q.2 ∧ q.2 < a.2 ∧ D a b q < 0 then -1 else 0
def str (q r v : Pt) : Int := if q.2 < v.2 ∧ v.2 ≤ r.2 ∧ D q r v < 0 then 1 else 0
theorem pos_mul {a b : Rat} (h1 : 0 < a) (h2 : 0 < b) : 0 < a * b := Rat.mul_pos h1 h2
theorem nn_mul {a b : Rat} (h1 : 0 ≤ a) (h2 : 0 ≤ b) : 0 ≤ a * b := Rat.mul_nonneg h1 h2
theorem pos_of_mul {a b : Rat} (h1 : 0 < a) (h : 0 < a * b) : 0 < b := by
  rcases Rat.le_total (a := b) (b := 0) with h2 | h2
  · have := nn_mul (Rat.le_of_lt h1) (show (0 : Rat) ≤ -b by grind)
    grind
  · by_cases e : b = 0
    · subst e; grind
    · grind
theorem nn_of_mul {a b : Rat} (h1 : 0 < a) (h : 0 ≤ a * b) : 0 ≤ b := by
  rcases Rat.le_total (a := 0) (b := b) with h2 | h2
  · exact h2
  · by_cases e : b = 0
    · grind
    · have := pos_mul h1 (show (0 : Rat) < -b by grind)
      grind
theorem D_flip (a b c : Pt) : D b a c = - D a b c := by unfold D; grind
theorem D_id (a b z : Pt) : D a b z = (b.1 - z.1) * (z.2 - a.2) - (b.2 - z.2) * (z.1 - a.1) := by unfold D; grind
theorem E1 (a b q r : Pt) : (b.2 - a.2) * D q r a = (q.2 - a.2) * D a b r - (r.2 - a.2) * D a b q := by unfold D; grind
theorem E2 (a b q r : Pt) : (b.2 - a.2) * D q r b = (b.2 - r.2) * D a b q - (b.2 - q.2) * D a b r := by unfold D; grind
theorem Ediff (a b q r : Pt) : D a b q - D a b r = D q r b - D q r a := by unfold D; grind
theorem right_of {a b z : Pt} (h1 : a.2 ≤ z.2) (h2 : z.2 ≤ b.2) (h : a.2 < b.2) (x1 : a.1 < z.1) (x2 : b.1 < z.1) : D a b z < 0 := by
  rw [D_id]
  have k1 := nn_mul (show 0 ≤ z.1 - b.1 by grind) (show 0 ≤ z.2 - a.2 by grind)
  have k2 := nn_mul (show 0 ≤ b.2 - z.2 by grind) (show 0 ≤ z.1 - a.1 by grind)
  by_cases e : z.2 = a.2
  · have k3 := pos_mul (show 0 < b.2 - z.2 by grind) (show 0 < z.1 - a.1 by grind)
    grind
  · have k3 := pos_mul (show 0 < z.1 - b.1 by grind) (show 0 < z.2 - a.2 by grind)
    grind
theorem left_of {a b z : Pt} (h1 : a.2 ≤ z.2) (h2 : z.2 ≤ b.2) (h : a.2 < b.2) (x1 : z.1 < a.1) (x2 : z.1 < b.1) : 0 < D a b z := by
  rw [D_id]
  have k1 := nn_mul (show 0 ≤ b.1 - z.1 by grind) (show 0 ≤ z.2 - a.2 by grind)
  have k2 := nn_mul (show 0 ≤ b.2 - z.2 by grind) (show 0 ≤ a.1 - z.1 by grind)
  by_cases e : z.2 = a.2
  · have k3 := pos_mul (show 0 < b.2 - z.2 by grind) (show 0 < a.1 - z.1 by grind)
    grind
  · have k3 := pos_mul (show 0 < b.1 - z.1 by grind) (show 0 < z.2 - a.2 by grind)
    grind
theorem over_or (a b c d : Rat) : Over a b c d ∨ (c < a ∧ d < a ∧ c < b ∧ d < b) ∨ (a < c ∧ a < d ∧ b < c ∧ b < d) := by
  unfold Over; grind
theorem Mt_swap (q r a b : Pt) : Mt q r a b ↔ Mt a b q r := by unfold Mt Over; grind
theorem Over_flip (a b c d : Rat) : Over a b c d ↔ Over a b d c := by unfold Over; grind
theorem Same_comm (a b : Rat) : Same a b ↔ Same b a := by unfold Same; grind
theorem Same_neg (a b : Rat) : Same (-a) (-b) ↔ Same a b := by
  unfold Same
  constructor
  · rintro (⟨h1, h2⟩ | ⟨h1, h2⟩)
    · right; exact ⟨by grind, by grind⟩
    · left; exact ⟨by grind, by grind⟩
  · rintro (⟨h1, h2⟩ | ⟨h1, h2⟩)
    · right; exact ⟨by grind, by grind⟩
    · left; exact ⟨by grind, by grind⟩
theorem Mt_flip (q r a b : Pt) : Mt q r a b ↔ Mt q r b a := by
  unfold Mt
  rw [Over_flip q.1 r.1 a.1 b.1, Over_flip q.2 r.2 a.2 b.2, Same_comm (D q r a), D_flip a b q, D_flip a b r, Same_neg]
theorem Mt_flip' (q r a b : Pt) : Mt q r a b ↔ Mt r q a b := by rw [Mt_swap, Mt_flip, Mt_swap]
theorem same_of_neg {a b : Rat} (h : ¬ Same a b) (ha : 0 < a) : b ≤ 0 := by unfold Same at h; grind
theorem way3 {q r a b : Pt} (hn : ¬ Mt q r a b) (h1 : a.2 ≤ q.2) (h2 : q.2 < b.2) (h3 : b.2 ≤ r.2) : 0 < D a b q ↔ D q r b < 0 := by
  have oy : Over q.2 r.2 a.2 b.2 := by unfold Over; grind
  have e1 := E1 q r a b
  have e2 := E2 a b q r
  constructor
  · intro ha
    by_cases hd : D q r b < 0
    · exact hd
    · exfalso
      have hd : 0 ≤ D q r b := by grind
      have k1 := nn_mul (show 0 ≤ q.2 - a.2 by grind) hd
      have k2 := pos_mul (show 0 < r.2 - q.2 by grind) ha
      have hg : 0 < - D q r a := pos_of_mul (a := b.2 - q.2) (by grind) (by grind)
      have k3 := nn_mul (show 0 ≤ r.2 - b.2 by grind) (Rat.le_of_lt ha)
      have k4 := nn_mul (show 0 ≤ b.2 - a.2 by grind) hd
      have hr : 0 ≤ - D a b r := nn_of_mul (a := b.2 - q.2) (by grind) (by grind)
      refine hn ⟨?_, oy, by unfold Same; grind, by unfold Same; grind⟩
      rcases over_or q.1 r.1 a.1 b.1 with h | h | h
      · exact h
      · have := right_of h1 (Rat.le_of_lt h2) (by grind) h.1 h.2.1
        grind
      · have := right_of (a := q) (b := r) (z := b) (Rat.le_of_lt h2) h3 (by grind) h.2.1 h.2.2.2
        grind
  · intro hd
    by_cases ha : 0 < D a b q
    · exact ha
    · exfalso
      have ha : D a b q ≤ 0 := by grind
      have k1 := nn_mul (show 0 ≤ q.2 - a.2 by grind) (show 0 ≤ - D q r b by grind)
      have k2 := nn_mul (show 0 ≤ r.2 - q.2 by grind) (show 0 ≤ - D a b q by grind)
      have hg : 0 ≤ D q r a := nn_of_mul (a := b.2 - q.2) (by grind) (by grind)
      have k3 := nn_mul (show 0 ≤ r.2 - b.2 by grind) (show 0 ≤ - D a b q by grind)
      have k4 := pos_mul (show 0 < b.2 - a.2 by grind) (show 0 < - D q r b by grind)
      have hr : 0 < D a b r := pos_of_mul (a := b.2 - q.2) (by grind) (by grind)
      refine hn ⟨?_, oy, by unfold Same; grind, by unfold Same; grind⟩
      rcases over_or q.1 r.1 a.1 b.1 with h | h | h
      · exact h
      · have := left_of (a := q) (b := r) (z := b) (Rat.le_of_lt h2) h3 (by grind) h.2.1 h.2.2.2
        grind
      · have := left_of h1 (Rat.le_of_lt h2) (by grind) h.1 h.2.1
        grind
theorem way4 {q r a b : Pt} (hn : ¬ Mt q r a b) (h1 : a.2 ≤ q.2) (h2 : q.2 ≤ b.2) (h3 : a.2 ≤ r.2) (h4 : r.2 ≤ b.2) (h5 : a.2 < b.2) : 0 < D a b q ↔ 0 < D a b r := by
  have oy : Over q.2 r.2 a.2 b.2 := by unfold Over; grind
  have e1 := E1 a b q r
  have e2 := E2 a b q r
  constructor
  · intro ha
    by_cases hd : 0 < D a b r
    · exact hd
    · exfalso
      have hd : D a b r ≤ 0 := by grind
      have k1 := nn_mul (show 0 ≤ q.2 - a.2 by grind) (show 0 ≤ - D a b r by grind)
      have k2 := nn_mul (show 0 ≤ r.2 - a.2 by grind) (Rat.le_of_lt ha)
      have k3 := nn_mul (show 0 ≤ b.2 - r.2 by grind) (Rat.le_of_lt ha)
      have k4 := nn_mul (show 0 ≤ b.2 - q.2 by grind) (show 0 ≤ - D a b r by grind)
      have hg : 0 ≤ - D q r a := nn_of_mul (a := b.2 - a.2) (by grind) (by grind)
      have hr : 0 ≤ D q r b := nn_of_mul (a := b.2 - a.2) (by grind) (by grind)
      refine hn ⟨?_, oy, by unfold Same; grind, by unfold Same; grind⟩
      rcases over_or q.1 r.1 a.1 b.1 with h | h | h
      · exact h
      · have := right_of h1 h2 h5 h.1 h.2.1
        grind
      · have := left_of h3 h4 h5 h.2.2.1 h.2.2.2
        grind
  · intro hd
    by_cases ha : 0 < D a b q
    · exact ha
    · exfalso
      have ha : D a b q ≤ 0 := by grind
      have k1 := nn_mul (show 0 ≤ q.2 - a.2 by grind) (Rat.le_of_lt hd)
      have k2 := nn_mul (show 0 ≤ r.2 - a.2 by grind) (show 0 ≤ - D a b q by grind)
      have k3 := nn_mul (show 0 ≤ b.2 - r.2 by grind) (show 0 ≤ - D a b q by grind)
      have k4 := nn_mul (show 0 ≤ b.2 - q.2 by grind) (Rat.le_of_lt hd)
      have hg : 0 ≤ D q r a := nn_of_mul (a := b.2 - a.2) (by grind) (by grind)
      have hr : 0 ≤ - D q r b := nn_of_mul (a := b.2 - a.2) (by grind) (by grind)
      refine hn ⟨?_, oy, by unfold Same; grind, by unfold Same; grind⟩
      rcases over_or q.1 r.1 a.1 b.1 with h | h | h
      · exact h
      · have := right_of h3 h4 h5 h.2.2.1 h.2.2.2
        grind
      · have := left_of h1 h2 h5 h.1 h.2.1
        grind
theorem way4n {q r a b : Pt} (hn : ¬ Mt q r a b) (h1 : a.2 ≤ q.2) (h2 : q.2 ≤ b.2) (h3 : a.2 ≤ r.2) (h4 : r.2 ≤ b.2) (h5 : a.2 < b.2) : D a b q < 0 ↔ D a b r < 0 := by
  have oy : Over q.2 r.2 a.2 b.2 := by unfold Over; grind
  have e1 := E1 a b q r
  have e2 := E2 a b q r
  constructor
  · intro ha
    by_cases hd : D a b r < 0
    · exact hd
    · exfalso
      have hd : 0 ≤ D a b r := by grind
      have k1 := nn_mul (show 0 ≤ q.2 - a.2 by grind) hd
      have k2 := nn_mul (show 0 ≤ r.2 - a.2 by grind) (show 0 ≤ - D a b q by grind)
      have k3 := nn_mul (show 0 ≤ b.2 - r.2 by grind) (show 0 ≤ - D a b q by grind)
      have k4 := nn_mul (show 0 ≤ b.2 - q.2 by grind) hd
      have hg : 0 ≤ D q r a := nn_of_mul (a := b.2 - a.2) (by grind) (by grind)
      have hr : 0 ≤ - D q r b := nn_of_mul (a := b.2 - a.2) (by grind) (by grind)
      refine hn ⟨?_, oy, by unfold Same; grind, by unfold Same; grind⟩
      rcases over_or q.1 r.1 a.1 b.1 with h | h | h
      · exact h
      · have := right_of h3 h4 h5 h.2.2.1 h.2.2.2
        grind
      · have := left_of h1 h2 h5 h.1 h.2.1
        grind
  · intro hd
    by_cases ha : D a b q < 0
    · exact ha
    · exfalso
      have ha : 0 ≤ D a b q := by grind
      have k1 := nn_mul (show 0 ≤ q.2 - a.2 by grind) (show 0 ≤ - D a b r by grind)
      have k2 := nn_mul (show 0 ≤ r.2 - a.2 by grind) ha
      have k3 := nn_mul (show 0 ≤ b.2 - r.2 by grind) ha
      have k4 := nn_mul (show 0 ≤ b.2 - q.2 by grind) (show 0 ≤ - D a b r by grind)
      have hg : 0 ≤ - D q r a := nn_of_mul (a := b.2 - a.2) (by grind) (by grind)
      have hr : 0 ≤ D q r b := nn_of_mul (a := b.2 - a.2) (by grind) (by grind)
      refine hn ⟨?_, oy, by unfold Same; grind, by unfold Same; grind⟩
      rcases over_or q.1 r.1 a.1 b.1 with h | h | h
      · exact h
      · have := right_of h1 h2 h5 h.1 h.2.1
        grind
      · have := left_of h3 h4 h5 h.2.2.1 h.2.2.2
        grind
theorem way5 {q r a b : Pt} (hn : ¬ Mt q r a b) (h1 : q.2 < a.2) (h2 : a.2 ≤ r.2) (h3 : r.2 < b.2) : 0 < D a b r ↔ D q r a < 0 := by
  have oy : Over q.2 r.2 a.2 b.2 := by unfold Over; grind
  have e1 := E2 q r a b
  have e2 := E1 a b q r
  constructor
  · intro ha
    by_cases hd : D q r a < 0
    · exact hd
    · exfalso
      have hd : 0 ≤ D q r a := by grind
      have k1 := pos_mul (show 0 < r.2 - q.2 by grind) ha
      have k2 := nn_mul (show 0 ≤ b.2 - r.2 by grind) hd
      have n1 : 0 < (r.2 - a.2) * (- D q r b) := by grind
      have n2 : r.2 - a.2 ≠ 0 := fun e => by rw [e] at n1; grind
      have hg : 0 < - D q r b := pos_of_mul (a := r.2 - a.2) (by grind) n1
      have k3 := pos_mul (show 0 < a.2 - q.2 by grind) ha
      have k4 := nn_mul (show 0 ≤ b.2 - a.2 by grind) hd
      have hr : 0 < - D a b q := pos_of_mul (a := r.2 - a.2) (by grind) (by grind)
      refine hn ⟨?_, oy, by unfold Same; grind, by unfold Same; grind⟩
      rcases over_or q.1 r.1 a.1 b.1 with h | h | h
      · exact h
      · have := right_of (a := a) (b := b) (z := r) h2 (Rat.le_of_lt h3) (by grind) h.2.2.1 h.2.2.2
        grind
      · have := right_of (a := q) (b := r) (z := a) (Rat.le_of_lt h1) h2 (by grind) h.1 h.2.2.1
        grind
  · intro hd
    by_cases ha : 0 < D a b r
    · exact ha
    · exfalso
      have ha : D a b r ≤ 0 := by grind
      have k1 := nn_mul (show 0 ≤ r.2 - q.2 by grind) (show 0 ≤ - D a b r by grind)
      have k2 := pos_mul (show 0 < b.2 - r.2 by grind) (show 0 < - D q r a by grind)
      have n1 : 0 < (r.2 - a.2) * D q r b := by grind
      have n2 : r.2 - a.2 ≠ 0 := fun e => by rw [e] at n1; grind
      have hg : 0 < D q r b := pos_of_mul (a := r.2 - a.2) (by grind) n1
      have k3 := nn_mul (show 0 ≤ a.2 - q.2 by grind) (show 0 ≤ - D a b r by grind)
      have k4 := pos_mul (show 0 < b.2 - a.2 by grind) (show 0 < - D q r a by grind)
      have hr : 0 < D a b q := pos_of_mul (a := r.2 - a.2) (by grind) (by grind)
      refine hn ⟨?_, oy, by unfold Same; grind, by unfold Same; grind⟩
      rcases over_or q.1 r.1 a.1 b.1 with h | h | h
      · exact h
      · have := left_of (a := q) (b := r) (z := a) (Rat.le_of_lt h1) h2 (by grind) h.1 h.2.2.1
        grind
      · have := left_of (a := a) (b := b) (z := r) h2 (Rat.le_of_lt h3) (by grind) h.2.2.1 h.2.2.2
        grind
theorem way6 {q r a b : Pt} (hn : ¬ Mt q r a b) (h1 : q.2 < a.2) (h2 : a.2 ≤ r.2) (h3 : q.2 < b.2) (h4 : b.2 ≤ r.2) : D q r a < 0 ↔ D q r b < 0 :=
  way4n (fun h => hn ((Mt_swap _ _ _ _).1 h)) (Rat.le_of_lt h1) h2 (Rat.le_of_lt h3) h4 (by grind)
theorem cr_flip (q a b : Pt) : cr q b a = - cr q a b := by
  unfold cr
  rw [D_flip a b q]
  by_cases h1 : a.2 ≤ q.2 ∧ q.2 < b.2 ∧ 0 < D a b q
  · rw [if_pos h1, if_neg (by grind), if_pos (by grind)]
  · rw [if_neg h1]
    by_cases h2 : b.2 ≤ q.2 ∧ q.2 < a.2 ∧ D a b q < 0
    · rw [if_pos h2, if_pos (by grind)]; rfl
    · rw [if_neg h2, if_neg (by grind), if_neg (by grind)]; rfl
theorem sweep_up {q r a b : Pt} (hn : ¬ Mt q r a b) (hq : q.2 ≤ r.2) (hab : a.2 ≤ b.2) : cr q a b - cr r a b = str q r b - str q r a := by
  have c0 : ∀ z : Pt, cr z a b = if a.2 ≤ z.2 ∧ z.2 < b.2 ∧ 0 < D a b z then 1 else 0 := by
    intro z
    unfold cr
    by_cases h : a.2 ≤ z.2 ∧ z.2 < b.2 ∧ 0 < D a b z
    · rw [if_pos h, if_pos h]
    · rw [if_neg h, if_neg h, if_neg (by grind)]
  rw [c0, c0]
  unfold str
  by_cases u1 : b.2 ≤ q.2
  · rw [if_neg (by grind), if_neg (by grind), if_neg (by grind), if_neg (by grind)]
  · by_cases u2 : r.2 < a.2
    · rw [if_neg (by grind), if_neg (by grind), if_neg (by grind), if_neg (by grind)]
    · by_cases u3 : a.2 ≤ q.2
      · by_cases u4 : b.2 ≤ r.2
        · have k := way3 hn u3 (by grind) u4
          rw [if_neg (c := a.2 ≤ r.2 ∧ _) (by grind), if_neg (c := q.2 < a.2 ∧ _) (by grind)]
          by_cases v : 0 < D a b q
          · rw [if_pos (by grind), if_pos (by grind)]
          · rw [if_neg (by grind), if_neg (by grind)]
        · have k := way4 hn u3 (by grind) (by grind) (by grind) (by grind)
          rw [if_neg (c := q.2 < b.2 ∧ _) (by grind), if_neg (c := q.2 < a.2 ∧ _) (by grind)]
          by_cases v : 0 < D a b q
          · rw [if_pos (by grind), if_pos (by grind)]; rfl
          · rw [if_neg (by grind), if_neg (by grind)]
      · by_cases u4 : b.2 ≤ r.2
        · have k := way6 hn (by grind) (by grind) (by grind) u4
          rw [if_neg (c := a.2 ≤ q.2 ∧ _) (by grind), if_neg (c := a.2 ≤ r.2 ∧ _) (by grind)]
          by_cases v : D q r a < 0
          · rw [if_pos (by grind), if_pos (by grind)]; rfl
          · rw [if_neg (by grind), if_neg (by grind)]
        · have k := way5 hn (by grind) (by grind) (by grind)
          rw [if_neg (c := a.2 ≤ q.2 ∧ _) (by grind), if_neg (c := q.2 < b.2 ∧ _) (by grind)]
          by_cases v : D q r a < 0
          · rw [if_pos (by grind), if_pos (by grind)]
          · rw [if_neg (by grind), if_neg (by grind)]
def sw (q r v : Pt) : Int := if q.2 ≤ r.2 then str q r v else - str r q v
theorem sweep {q r a b : Pt} (hn : ¬ Mt q r a b) : cr q a b - cr r a b = sw q r b - sw q r a := by
  have up : ∀ {q r : Pt}, ¬ Mt q r a b → q.2 ≤ r.2 → cr q a b - cr r a b = str q r b - str q r a := by
    intro q r hn hq
    rcases Rat.le_total (a := a.2) (b := b.2) with h | h
    · exact sweep_up hn hq h
    · have k := sweep_up (fun h => hn ((Mt_flip _ _ _ _).2 h)) hq h
      rw [cr_flip q a b, cr_flip r a b] at k
      omega
  unfold sw
  by_cases h : q.2 ≤ r.2
  · rw [if_pos h, if_pos h]; exact up hn h
  · rw [if_neg h, if_neg h]
    have k := up (fun h => hn ((Mt_flip' _ _ _ _).1 h)) (show r.2 ≤ q.2 by grind)
    omega
end Jor
end Go.Proofs.Ytdkaoopkbhaheaa
namespace Go.Proofs.Ytdkaoopkbhaheaa
namespace Jor
def sm (f : Nat → Int) : Nat → Int
  | 0 => 0
  | k + 1 => sm f k + f k
theorem sm_congr {f g : Nat → Int} {n : Nat} (h : ∀ k, k < n → f k = g k) : sm f n = sm g n := by
  induction n with
  | zero => rfl
  | succ n ih => rw [sm, sm, ih (fun k hk => h k (by omega)), h n (by omega)]
theorem sm_sub (f g : Nat → Int) (n : Nat) : sm (fun k => f k - g k) n = sm f n - sm g n := by
  induction n with
  | zero => rfl
  | succ n ih => rw [sm, sm, sm, ih]; omega
theorem sm_first (f : Nat → Int) (n : Nat) : sm f (n + 1) = f 0 + sm (fun k => f (k + 1)) n := by
  induction n with
  | zero => simp [sm]
  | succ n ih => rw [sm, ih, sm]; omega
theorem sm_tele (g : Nat → Int) (n : Nat) : sm (fun k => g (k + 1) - g k) n = g n - g 0 := by
  induction n with
  | zero => simp [sm]
  | succ n ih => rw [sm, ih]; omega
theorem sm_shift (g : Nat → Int) (n : Nat) (hp : ∀ k, g (k + n) = g k) (i : Nat) : sm (fun k => g (i + k)) n = sm g n := by
  induction i with
  | zero => simp
  | succ i ih =>
    rw [← ih]
    cases n with
    | zero => rfl
    | succ n =>
      rw [sm, sm_first (fun k => g (i + k)) n]
      have e : g (i + 1 + n) = g (i + 0) := by
        rw [← hp (i + 0)]; congr 1; omega
      rw [e, sm_congr (g := fun k => g (i + (k + 1))) (fun k _ => by congr 1; omega)]
      omega
abbrev lt (u v : Pt) : Prop :=
  (0 < u.2 ∧ (v.2 ≤ 0 ∨ 0 < u.1 * v.2 - u.2 * v.1)) ∨ (u.2 = 0 ∧ u.1 < 0 ∧ (v.2 < 0 ∨ (v.2 = 0 ∧ 0 < v.1))) ∨ (u.2 < 0 ∧ ((v.2 < 0 ∧ 0 < u.1 * v.2 - u.2 * v.1) ∨ (v.2 = 0 ∧ 0 < v.1)))
def sub (a b : Pt) : Pt := (a.1 - b.1, a.2 - b.2)
def Fold (B A C : Pt) : Prop := D B A C = 0 ∧ 0 < (A.1 - B.1) * (C.1 - B.1) + (A.2 - B.2) * (C.2 - B.2)
def ahead (A B C : Pt) : Int := if lt (sub C B) (sub A B) then 1 else 0
def kap (B C : Pt) : Int := if B.2 < C.2 ∨ (B.2 = C.2 ∧ C.1 < B.1) then 1 else 0
theorem cross_eq (A B C : Pt) : (sub C B).1 * (sub A B).2 - (sub C B).2 * (sub A B).1 = D B C A := by unfold sub D; grind
theorem D_rot (a b c : Pt) : D a b c = D b c a := by unfold D; grind
theorem sq_nn (x : Rat) : 0 ≤ x * x := by
  rcases Rat.le_total (a := 0) (b := x) with h | h
  · exact nn_mul h h
  · have := nn_mul (show 0 ≤ -x by grind) (show 0 ≤ -x by grind)
    grind
theorem sq_pos {x : Rat} (h : x ≠ 0) : 0 < x * x := by
  rcases Rat.le_total (a := 0) (b := x) with h1 | h1
  · exact pos_mul (by grind) (by grind)
  · have := pos_mul (show 0 < -x by grind) (show 0 < -x by grind)
    grind
theorem fold_of {A B C : Pt} (h : D B A C = 0) (hp : 0 < (A.2 - B.2) * (C.2 - B.2)) : Fold B A C := by
  refine ⟨h, pos_of_mul (a := (A.2 - B.2) * (C.2 - B.2)) hp ?_⟩
  have k1 := sq_nn ((A.2 - B.2) * (C.1 - B.1))
  have k2 := sq_pos (x := (A.2 - B.2) * (C.2 - B.2)) (by grind)
  have e : (A.1 - B.1) * (C.2 - B.2) = (A.2 - B.2) * (C.1 - B.1) := by unfold D at h; grind
  have e2 : (A.2 - B.2) * (C.2 - B.2) * ((A.1 - B.1) * (C.1 - B.1) + (A.2 - B.2) * (C.2 - B.2)) = ((A.2 - B.2) * (C.1 - B.1)) * ((A.1 - B.1) * (C.2 - B.2)) + ((A.2 - B.2) * (C.2 - B.2)) * ((A.2 - B.2) * (C.2 - B.2)) := by grind
  rw [e2, e]
  grind
theorem fold_along {A B C : Pt} (h1 : A.2 = B.2) (h2 : C.2 = B.2) (hp : 0 < (B.1 - A.1) * (B.1 - C.1)) : Fold B A C := by
  have e1 : A.2 - B.2 = 0 := by grind
  have e2 : C.2 - B.2 = 0 := by grind
  refine ⟨?_, ?_⟩
  · unfold D; rw [e1, e2]; grind
  · rw [e1, e2]; grind
theorem begins (A B C : Pt) (hB : B ≠ C) (hA : A ≠ B) (hf : ¬ Fold B A C) : sw B C A - cr C A B + ahead A B C = kap B C := by
  have hx := cross_eq A B C
  have e1 : D A B C = D B C A := D_rot A B C
  have e2 : D C B A = - D B C A := D_flip B C A
  have e3 : D B A C = - D B C A := by unfold D; grind
  have s1 : (sub C B).2 = C.2 - B.2 := rfl
  have s2 : (sub C B).1 = C.1 - B.1 := rfl
  have s3 : (sub A B).2 = A.2 - B.2 := rfl
  have s4 : (sub A B).1 = A.1 - B.1 := rfl
  unfold ahead lt
  rw [hx]
  unfold sw str cr kap
  rw [e1, e2, s1, s2, s3, s4]
  rcases Rat.le_total (a := B.2) (b := C.2) with hle | hle
  · by_cases hlt : B.2 < C.2
    · -- it goes up
      rw [if_pos hle, if_pos (c := B.2 < C.2 ∨ _) (by grind), if_neg (c := A.2 ≤ C.2 ∧ _) (by grind)]
      by_cases h1 : A.2 ≤ B.2
      · rw [if_neg (by grind), if_neg (by grind), if_pos (by grind)]; rfl
      · have hd : D B C A ≠ 0 := fun e => hf (fold_of (by grind) (pos_mul (by grind) (by grind)))
        by_cases h2 : D B C A < 0
        · rw [if_neg (c := (0 < C.2 - B.2 ∧ _) ∨ _) (by grind)]
          by_cases h3 : A.2 ≤ C.2
          · rw [if_pos (by grind), if_neg (by grind)]; rfl
          · rw [if_neg (by grind), if_pos (by grind)]; rfl
        · rw [if_neg (by grind), if_neg (by grind), if_pos (by grind)]; rfl
    · -- along
      have hy : B.2 = C.2 := by grind
      have hd : D B C A = (C.1 - B.1) * (A.2 - B.2) := by unfold D; grind
      have hne : B.1 ≠ C.1 := fun e => hB (Prod.ext e hy)
      rw [if_pos hle, if_neg (c := B.2 < A.2 ∧ _) (by grind), if_neg (c := A.2 ≤ C.2 ∧ _) (by grind)]
      by_cases hl : C.1 < B.1
      · rw [if_pos (c := B.2 < C.2 ∨ _) (by grind)]
        by_cases h1 : B.2 < A.2
        · have k := pos_mul (show 0 < B.1 - C.1 by grind) (show 0 < A.2 - B.2 by grind)
          rw [if_pos (by grind), if_neg (by grind)]; rfl
        · rw [if_neg (by grind)]
          by_cases h2 : A.2 < B.2
          · rw [if_pos (by grind)]; rfl
          · have hA1 : A.1 ≠ B.1 := fun e => hA (Prod.ext e (by grind))
            have hA2 : B.1 < A.1 := by
              by_cases h3 : B.1 < A.1
              · exact h3
              · exfalso
                have k := pos_mul (show 0 < B.1 - A.1 by grind) (show 0 < B.1 - C.1 by grind)
                exact hf (fold_along (by grind) (by grind) k)
            rw [if_pos (by grind)]; rfl
      · rw [if_neg (c := B.2 < C.2 ∨ _) (by grind), if_neg (c := (0 < C.2 - B.2 ∧ _) ∨ _) (by grind)]
        by_cases h1 : B.2 < A.2
        · have k := pos_mul (show 0 < C.1 - B.1 by grind) (show 0 < A.2 - B.2 by grind)
          rw [if_neg (by grind)]; rfl
        · rw [if_neg (by grind)]; rfl
  · by_cases hlt : C.2 < B.2
    · -- it goes down
      rw [if_neg (c := B.2 ≤ C.2) (by grind), if_neg (c := B.2 < C.2 ∨ _) (by grind), if_neg (c := B.2 ≤ C.2 ∧ _) (by grind)]
      by_cases h1 : B.2 < A.2
      · rw [if_neg (by grind), if_neg (by grind), if_neg (by grind)]; rfl
      · by_cases h2 : A.2 = B.2
        · have hd : D B C A = (B.2 - C.2) * (A.1 - B.1) := by unfold D; grind
          have hA1 : A.1 ≠ B.1 := fun e => hA (Prod.ext e h2)
          by_cases h3 : B.1 < A.1
          · have k := pos_mul (show 0 < B.2 - C.2 by grind) (show 0 < A.1 - B.1 by grind)
            rw [if_pos (by grind), if_neg (by grind), if_pos (by grind)]; rfl
          · have k := pos_mul (show 0 < B.2 - C.2 by grind) (show 0 < B.1 - A.1 by grind)
            rw [if_neg (by grind), if_neg (by grind), if_neg (by grind)]; rfl
        · have hd : D B C A ≠ 0 := fun e => hf (fold_of (by grind) (by have := pos_mul (show 0 < B.2 - A.2 by grind) (show 0 < B.2 - C.2 by grind); grind))
          by_cases h3 : 0 < D B C A
          · rw [if_pos (c := (0 < C.2 - B.2 ∧ _) ∨ _) (by grind)]
            by_cases h4 : C.2 < A.2
            · rw [if_pos (by grind), if_neg (by grind)]; rfl
            · rw [if_neg (by grind), if_pos (by grind)]; rfl
          · rw [if_neg (by grind), if_neg (by grind), if_neg (by grind)]; rfl
    · -- along: as above
      have hy : B.2 = C.2 := by grind
      have hd : D B C A = (C.1 - B.1) * (A.2 - B.2) := by unfold D; grind
      have hne : B.1 ≠ C.1 := fun e => hB (Prod.ext e hy)
      rw [if_pos (c := B.2 ≤ C.2) (by grind), if_neg (c := B.2 < A.2 ∧ _) (by grind), if_neg (c := A.2 ≤ C.2 ∧ _) (by grind)]
      by_cases hl : C.1 < B.1
      · rw [if_pos (c := B.2 < C.2 ∨ _) (by grind)]
        by_cases h1 : B.2 < A.2
        · have k := pos_mul (show 0 < B.1 - C.1 by grind) (show 0 < A.2 - B.2 by grind)
          rw [if_pos (by grind), if_neg (by grind)]; rfl
        · rw [if_neg (by grind)]
          by_cases h2 : A.2 < B.2
          · rw [if_pos (by grind)]; rfl
          · have hA1 : A.1 ≠ B.1 := fun e => hA (Prod.ext e (by grind))
            have hA2 : B.1 < A.1 := by
              by_cases h3 : B.1 < A.1
              · exact h3
              · exfalso
                have k := pos_mul (show 0 < B.1 - A.1 by grind) (show 0 < B.1 - C.1 by grind)
                exact hf (fold_along (by grind) (by grind) k)
            rw [if_pos (by grind)]; rfl
      · rw [if_neg (c := B.2 < C.2 ∨ _) (by grind), if_neg (c := (0 < C.2 - B.2 ∧ _) ∨ _) (by grind)]
        by_cases h1 : B.2 < A.2
        · have k := pos_mul (show 0 < C.1 - B.1 by grind) (show 0 < A.2 - B.2 by grind)
          rw [if_neg (by grind)]; rfl
        · rw [if_neg (by grind)]; rfl
theorem ends (B C E : Pt) (hB : B ≠ C) (hE : E ≠ C) (hf : ¬ Fold C B E) : sw B C E - cr B C E + ahead B C E = kap B C := by
  have hx := cross_eq B C E
  have e1 : D C E B = D B C E := (D_rot B C E).symm
  have e2 : D C B E = - D B C E := D_flip B C E
  have s1 : (sub E C).2 = E.2 - C.2 := rfl
  have s2 : (sub E C).1 = E.1 - C.1 := rfl
  have s3 : (sub B C).2 = B.2 - C.2 := rfl
  have s4 : (sub B C).1 = B.1 - C.1 := rfl
  unfold ahead lt
  rw [hx]
  unfold sw str cr kap
  rw [e1, e2, s1, s2, s3, s4]
  by_cases hup : B.2 < C.2
  · rw [if_pos (c := B.2 ≤ C.2) (by grind), if_pos (c := B.2 < C.2 ∨ _) (by grind), if_neg (c := C.2 ≤ B.2 ∧ _) (by grind)]
    by_cases h1 : C.2 < E.2
    · rw [if_neg (by grind), if_neg (by grind), if_pos (by grind)]; rfl
    · by_cases h2 : E.2 = C.2
      · have hd : D B C E = (C.2 - B.2) * (C.1 - E.1) := by unfold D; grind
        have hE1 : E.1 ≠ C.1 := fun e => hE (Prod.ext e h2)
        by_cases h3 : E.1 < C.1
        · have k := pos_mul (show 0 < C.2 - B.2 by grind) (show 0 < C.1 - E.1 by grind)
          rw [if_neg (by grind), if_neg (by grind), if_pos (by grind)]; rfl
        · have k := pos_mul (show 0 < C.2 - B.2 by grind) (show 0 < E.1 - C.1 by grind)
          rw [if_pos (by grind), if_neg (by grind), if_neg (by grind)]; rfl
      · have hd : D B C E ≠ 0 := fun e => hf (fold_of (by grind) (by have := pos_mul (show 0 < C.2 - B.2 by grind) (show 0 < C.2 - E.2 by grind); grind))
        by_cases h3 : D B C E < 0
        · rw [if_neg (c := (0 < E.2 - C.2 ∧ _) ∨ _) (by grind)]
          by_cases h4 : B.2 < E.2
          · rw [if_pos (by grind), if_neg (by grind)]; rfl
          · rw [if_neg (by grind), if_pos (by grind)]; rfl
        · rw [if_neg (by grind), if_neg (by grind), if_pos (by grind)]; rfl
  · by_cases hdn : C.2 < B.2
    · rw [if_neg (c := B.2 ≤ C.2) (by grind), if_neg (c := B.2 < C.2 ∨ _) (by grind), if_neg (c := E.2 ≤ B.2 ∧ _) (by grind)]
      by_cases h1 : E.2 ≤ C.2
      · rw [if_neg (by grind), if_neg (by grind), if_neg (by grind)]; rfl
      · by_cases h2 : 0 < D B C E
        · rw [if_pos (c := (0 < E.2 - C.2 ∧ _) ∨ _) (by grind)]
          by_cases h3 : E.2 ≤ B.2
          · rw [if_pos (by grind), if_neg (by grind)]; rfl
          · rw [if_neg (by grind), if_pos (by grind)]; rfl
        · rw [if_neg (by grind), if_neg (by grind), if_neg (by grind)]; rfl
    · have hy : B.2 = C.2 := by grind
      have hd : D B C E = (C.1 - B.1) * (E.2 - B.2) := by unfold D; grind
      have hne : B.1 ≠ C.1 := fun e => hB (Prod.ext e hy)
      rw [if_pos (c := B.2 ≤ C.2) (by grind), if_neg (c := B.2 < E.2 ∧ _) (by grind), if_neg (c := E.2 ≤ B.2 ∧ _) (by grind)]
      by_cases hl : C.1 < B.1
      · rw [if_pos (c := B.2 < C.2 ∨ _) (by grind)]
        by_cases h1 : B.2 < E.2
        · have k := pos_mul (show 0 < B.1 - C.1 by grind) (show 0 < E.2 - B.2 by grind)
          rw [if_neg (by grind), if_pos (by grind)]; rfl
        · rw [if_neg (by grind)]
          by_cases h2 : E.2 < B.2
          · rw [if_pos (by grind)]; rfl
          · have hE1 : E.1 ≠ C.1 := fun e => hE (Prod.ext e (by grind))
            have hE2 : E.1 < C.1 := by
              by_cases h3 : E.1 < C.1
              · exact h3
              · exfalso
                have k := pos_mul (show 0 < B.1 - C.1 by grind) (show 0 < E.1 - C.1 by grind)
                exact hf (fold_along (by grind) (by grind) (by grind))
            rw [if_pos (by grind)]; rfl
      · rw [if_neg (c := B.2 < C.2 ∨ _) (by grind)]
        by_cases h1 : B.2 < E.2
        · have k := pos_mul (show 0 < C.1 - B.1 by grind) (show 0 < E.2 - B.2 by grind)
          rw [if_pos (by grind), if_pos (by grind)]; rfl
        · rw [if_neg (by grind)]
          by_cases h2 : E.2 < B.2
          · rw [if_neg (by grind)]; rfl
          · have hE1 : E.1 ≠ C.1 := fun e => hE (Prod.ext e (by grind))
            have hE2 : C.1 < E.1 := by
              by_cases h3 : C.1 < E.1
              · exact h3
              · exfalso
                have k := pos_mul (show 0 < C.1 - B.1 by grind) (show 0 < C.1 - E.1 by grind)
                exact hf (fold_along (by grind) (by grind) (by grind))
            rw [if_neg (by grind)]; rfl
structure Ring (v : Nat → Pt) (n : Nat) : Prop where
  three : 3 ≤ n
  per : ∀ k, v (k + n) = v k
  ne : ∀ k, v k ≠ v (k + 1)
  nf : ∀ k, ¬ Fold (v (k + 1)) (v k) (v (k + 2))
  nm : ∀ i t, 2 ≤ t → t + 2 ≤ n → ¬ Mt (v i) (v (i + 1)) (v (i + t)) (v (i + t + 1))
def wind (v : Nat → Pt) (n : Nat) (q : Pt) : Int := sm (fun j => cr q (v j) (v (j + 1))) n
theorem wind_from {v : Nat → Pt} {n : Nat} (R : Ring v n) (q : Pt) (i : Nat) : wind v n q = sm (fun t => cr q (v (i + t)) (v (i + t + 1))) n := by
  unfold wind
  exact (sm_shift (fun j => cr q (v j) (v (j + 1))) n (fun k => by
    have e : v (k + n + 1) = v (k + 1) := by rw [show k + n + 1 = k + 1 + n by omega]; exact R.per _
    simp only [R.per, e]) i).symm
theorem cr_begin (a b : Pt) : cr a a b = 0 := by
  have h : D a b a = 0 := by unfold D; grind
  unfold cr; rw [h, if_neg (by grind), if_neg (by grind)]
theorem cr_end (a b : Pt) : cr b a b = 0 := by
  have h : D a b b = 0 := by unfold D; grind
  unfold cr; rw [h, if_neg (by grind), if_neg (by grind)]
theorem left_same {v : Nat → Pt} {n : Nat} (R : Ring v n) (i : Nat) :
    wind v n (v (i + 1)) + ahead (v i) (v (i + 1)) (v (i + 2)) = wind v n (v (i + 2)) + ahead (v (i + 1)) (v (i + 2)) (v (i + 3)) := by
  -- B = v (i + 1), C = v (i + 2), A = v i, E = v (i + 3)
  have hb := begins (v i) (v (i + 1)) (v (i + 2)) (R.ne _) (R.ne _) (R.nf i)
  have he := ends (v (i + 1)) (v (i + 2)) (v (i + 3)) (R.ne _) (fun e => R.ne (i + 2) e.symm) (R.nf (i + 1))
  rw [wind_from R (v (i + 1)) (i + 1), wind_from R (v (i + 2)) (i + 1)]
  obtain ⟨m, rfl⟩ : ∃ m, n = m + 3 := ⟨n - 3, by have := R.three; omega⟩
  -- the first two, those between, the last
  have part : ∀ f : Nat → Int, sm f (m + 3) = f 0 + f 1 + sm (fun k => f (k + 2)) m + f (m + 2) := by
    intro f
    rw [show m + 3 = (m + 2) + 1 from rfl, sm, sm_first f (m + 1), sm_first (fun k => f (k + 1)) m]
    show f 0 + (f 1 + sm (fun k => f (k + 2)) m) + f (m + 2) = _
    omega
  rw [part, part]
  have far : sm (fun k => cr (v (i + 1)) (v (i + 1 + (k + 2))) (v (i + 1 + (k + 2) + 1))) m - sm (fun k => cr (v (i + 2)) (v (i + 1 + (k + 2))) (v (i + 1 + (k + 2) + 1))) m = sw (v (i + 1)) (v (i + 2)) (v (i + 3 + m)) - sw (v (i + 1)) (v (i + 2)) (v (i + 3 + 0)) := by
    rw [← sm_sub, ← sm_tele (fun k => sw (v (i + 1)) (v (i + 2)) (v (i + 3 + k))) m]
    refine sm_congr (fun k hk => ?_)
    have hn := R.nm (i + 1) (k + 2) (by omega) (by omega)
    have e1 : i + 1 + (k + 2) = i + 3 + k := by omega
    have e2 : i + 1 + (k + 2) + 1 = i + 3 + (k + 1) := by omega
    rw [e1] at hn ⊢
    rw [show i + 3 + k + 1 = i + 3 + (k + 1) by omega] at hn ⊢
    exact sweep hn
  have l1 : v (i + 3 + m) = v i := by rw [show i + 3 + m = i + (m + 3) by omega]; exact R.per i
  have l2 : v (i + 1 + (m + 2)) = v i := by rw [show i + 1 + (m + 2) = i + (m + 3) by omega]; exact R.per i
  have l3 : v (i + 1 + (m + 2) + 1) = v (i + 1) := by rw [show i + 1 + (m + 2) + 1 = i + 1 + (m + 3) by omega]; exact R.per (i + 1)
  rw [l1] at far
  rw [l2, l3]
  have z1 := cr_begin (v (i + 1)) (v (i + 2))
  have z2 := cr_end (v (i + 1)) (v (i + 2))
  have z3 := cr_begin (v (i + 2)) (v (i + 3))
  have z4 := cr_end (v i) (v (i + 1))
  simp only [Nat.add_zero, Nat.add_assoc, Nat.reduceAdd] at *
  omega
end Jor
end Go.Proofs.Ytdkaoopkbhaheaa
namespace Go.Proofs.Ytdkaoopkbhaheaa
namespace Jor
def leftOf (v : Nat → Pt) (n : Nat) : Int := wind v n (v 1) + ahead (v 0) (v 1) (v 2)
theorem left_all {v : Nat → Pt} {n : Nat} (R : Ring v n) (i : Nat) : wind v n (v (i + 1)) + ahead (v i) (v (i + 1)) (v (i + 2)) = leftOf v n := by
  induction i with
  | zero => rfl
  | succ i ih => rw [← ih]; exact (left_same R i).symm
theorem ahead_01 (A B C : Pt) : ahead A B C = 0 ∨ ahead A B C = 1 := by
  unfold ahead; split
  · exact .inr rfl
  · exact .inl rfl
theorem top_below (v : Nat → Pt) (n : Nat) : ∃ m, ∀ j, j < n + 1 → (v j).2 ≤ (v m).2 := by
  induction n with
  | zero => exact ⟨0, fun j hj => by have : j = 0 := by omega
                                     subst this; exact Rat.le_refl⟩
  | succ n ih =>
    obtain ⟨m, hm⟩ := ih
    rcases Rat.le_total (a := (v m).2) (b := (v (n + 1)).2) with h | h
    · refine ⟨n + 1, fun j hj => ?_⟩
      by_cases e : j = n + 1
      · subst e; exact Rat.le_refl
      · have := hm j (by omega); grind
    · refine ⟨m, fun j hj => ?_⟩
      by_cases e : j = n + 1
      · subst e; exact h
      · exact hm j (by omega)
theorem per_mul {v : Nat → Pt} {n : Nat} (R : Ring v n) (k q : Nat) : v (k + n * q) = v k := by
  induction q with
  | zero => rfl
  | succ q ih => rw [show k + n * (q + 1) = (k + n * q) + n by rw [Nat.mul_succ]; omega, R.per, ih]
theorem per_mod {v : Nat → Pt} {n : Nat} (R : Ring v n) (k : Nat) : v k = v (k % n) := by
  have h := per_mul R (k % n) (k / n)
  rw [Nat.mod_add_div] at h
  exact h
theorem top {v : Nat → Pt} {n : Nat} (R : Ring v n) : ∃ m, ∀ j, (v j).2 ≤ (v (m + 1)).2 := by
  obtain ⟨m, hm⟩ := top_below v n
  have h3 := R.three
  refine ⟨m + n - 1, fun j => ?_⟩
  rw [show m + n - 1 + 1 = m + n by omega, R.per, per_mod R j]
  exact hm _ (by have := Nat.mod_lt j (show 0 < n by omega); omega)
theorem wind_top {v : Nat → Pt} {n : Nat} (q : Pt) (h : ∀ j, (v j).2 ≤ q.2) : wind v n q = 0 := by
  unfold wind
  rw [sm_congr (g := fun _ => 0) (fun k _ => by
    have h1 := h k
    have h2 := h (k + 1)
    unfold cr
    rw [if_neg (by grind), if_neg (by grind)])]
  clear h
  induction n with
  | zero => rfl
  | succ n ih => rw [sm, ih]; rfl
theorem left_01 {v : Nat → Pt} {n : Nat} (R : Ring v n) : leftOf v n = 0 ∨ leftOf v n = 1 := by
  obtain ⟨m, hm⟩ := top R
  rw [← left_all R m, wind_top _ hm]
  rcases ahead_01 (v m) (v (m + 1)) (v (m + 2)) with h | h <;> rw [h] <;> simp
def span (a b : Pt) (h : Rat) : Prop := (a.2 ≤ h ∧ h < b.2) ∨ (b.2 ≤ h ∧ h < a.2)
def xat (a b : Pt) (h : Rat) : Rat := a.1 + (b.1 - a.1) * ((h - a.2) / (b.2 - a.2))
def dir (a b : Pt) : Int := if a.2 < b.2 then 1 else -1
theorem D_xat (a b z : Pt) (h : a.2 ≠ b.2) : D a b z = (b.2 - a.2) * (xat a b z.2 - z.1) := by
  have e : (z.2 - a.2) / (b.2 - a.2) * (b.2 - a.2) = z.2 - a.2 := Rat.div_mul_cancel (by grind)
  unfold D xat
  generalize (z.2 - a.2) / (b.2 - a.2) = s at *
  grind
theorem cr_no {a b q : Pt} (h : ¬ span a b q.2) : cr q a b = 0 := by
  unfold span at h
  unfold cr
  rw [if_neg (by grind), if_neg (by grind)]
theorem cr_at {a b q : Pt} (h : span a b q.2) : cr q a b = if q.1 < xat a b q.2 then dir a b else 0 := by
  have hd := D_xat a b q (by unfold span at h; grind)
  unfold cr dir
  rcases h with ⟨h1, h2⟩ | ⟨h1, h2⟩
  · by_cases h3 : q.1 < xat a b q.2
    · have k := pos_mul (show 0 < b.2 - a.2 by grind) (show 0 < xat a b q.2 - q.1 by grind)
      rw [if_pos (by grind), if_pos h3, if_pos (by grind)]
    · have k := nn_mul (show 0 ≤ b.2 - a.2 by grind) (show 0 ≤ q.1 - xat a b q.2 by grind)
      rw [if_neg (by grind), if_neg (by grind), if_neg h3]
  · by_cases h3 : q.1 < xat a b q.2
    · have k := pos_mul (show 0 < a.2 - b.2 by grind) (show 0 < xat a b q.2 - q.1 by grind)
      rw [if_neg (by grind), if_pos (by grind), if_pos h3, if_neg (by grind)]
    · have k := nn_mul (show 0 ≤ a.2 - b.2 by grind) (show 0 ≤ q.1 - xat a b q.2 by grind)
      rw [if_neg (by grind), if_neg (by grind), if_neg h3]
theorem least (f : Nat → Rat) (p : Nat → Prop) (n : Nat) : (∀ j, j < n → ¬ p j) ∨ ∃ i, i < n ∧ p i ∧ ∀ j, j < n → p j → f i ≤ f j := by
  induction n with
  | zero => left; intro j hj; omega
  | succ n ih =>
    by_cases hp : p n
    · right
      rcases ih with h | ⟨i, hi, pi, h⟩
      · refine ⟨n, by omega, hp, fun j hj pj => ?_⟩
        by_cases e : j = n
        · subst e; exact Rat.le_refl
        · exact absurd pj (h j (by omega))
      · rcases Rat.le_total (a := f i) (b := f n) with h2 | h2
        · refine ⟨i, by omega, pi, fun j hj pj => ?_⟩
          by_cases e : j = n
          · subst e; exact h2
          · exact h j (by omega) pj
        · refine ⟨n, by omega, hp, fun j hj pj => ?_⟩
          by_cases e : j = n
          · subst e; exact Rat.le_refl
          · have := h j (by omega) pj; grind
    · rcases ih with h | ⟨i, hi, pi, h⟩
      · left; intro j hj pj
        by_cases e : j = n
        · subst e; exact hp pj
        · exact h j (by omega) pj
      · right
        refine ⟨i, by omega, pi, fun j hj pj => ?_⟩
        by_cases e : j = n
        · subst e; exact absurd pj hp
        · exact h j (by omega) pj
theorem at_on {a b : Pt} {h : Rat} (hs : span a b h) : D a b (xat a b h, h) = 0 ∧ ((a.1 ≤ xat a b h ∧ xat a b h ≤ b.1) ∨ (b.1 ≤ xat a b h ∧ xat a b h ≤ a.1)) ∧ ((a.2 ≤ h ∧ h ≤ b.2) ∨ (b.2 ≤ h ∧ h ≤ a.2)) := by
  have hne : a.2 ≠ b.2 := by unfold span at hs; grind
  refine ⟨?_, ?_, by unfold span at hs; grind⟩
  · rw [D_xat a b _ hne]; simp only []; grind
  · have e : (h - a.2) / (b.2 - a.2) * (b.2 - a.2) = h - a.2 := Rat.div_mul_cancel (by grind)
    have hs01 : 0 ≤ (h - a.2) / (b.2 - a.2) ∧ (h - a.2) / (b.2 - a.2) ≤ 1 := by
      generalize (h - a.2) / (b.2 - a.2) = s at *
      rcases hs with ⟨h1, h2⟩ | ⟨h1, h2⟩
      · exact ⟨nn_of_mul (a := b.2 - a.2) (by grind) (by grind), by
          have : 0 ≤ 1 - s := nn_of_mul (a := b.2 - a.2) (by grind) (by grind)
          grind⟩
      · exact ⟨nn_of_mul (a := a.2 - b.2) (by grind) (by grind), by
          have : 0 ≤ 1 - s := nn_of_mul (a := a.2 - b.2) (by grind) (by grind)
          grind⟩
    unfold xat
    generalize (h - a.2) / (b.2 - a.2) = s at *
    rcases Rat.le_total (a := a.1) (b := b.1) with hx | hx
    · have k1 := nn_mul (show 0 ≤ b.1 - a.1 by grind) hs01.1
      have k2 := nn_mul (show 0 ≤ b.1 - a.1 by grind) (show 0 ≤ 1 - s by grind)
      left; constructor <;> grind
    · have k1 := nn_mul (show 0 ≤ a.1 - b.1 by grind) hs01.1
      have k2 := nn_mul (show 0 ≤ a.1 - b.1 by grind) (show 0 ≤ 1 - s by grind)
      right; constructor <;> grind
end Jor
end Go.Proofs.Ytdkaoopkbhaheaa
namespace Go.Proofs.Ytdkaoopkbhaheaa
namespace Jor
structure Lies1 (z c d : Pt) : Prop where
  sp : span c d z.2
  x : xat c d z.2 = z.1
theorem Lies1.ne {z c d : Pt} (h : Lies1 z c d) : c.2 ≠ d.2 := by have := h.sp; unfold span at this; grind
theorem Lies1.on {z c d : Pt} (h : Lies1 z c d) : D c d z = 0 ∧ ((c.1 ≤ z.1 ∧ z.1 ≤ d.1) ∨ (d.1 ≤ z.1 ∧ z.1 ≤ c.1)) ∧ ((c.2 ≤ z.2 ∧ z.2 ≤ d.2) ∨ (d.2 ≤ z.2 ∧ z.2 ≤ c.2)) := by
  have k := at_on h.sp
  rw [h.x] at k
  exact k
theorem D_mix (a b c d z : Pt) (h : D c d z = 0) : (d.2 - c.2) * D a b z = (d.2 - z.2) * D a b c + (z.2 - c.2) * D a b d := by unfold D at *; grind
theorem not_same {z a b c d : Pt} (h : Lies1 z c d) (e : D a b z = 0) : ¬ Same (D a b c) (D a b d) := by
  have k := D_mix a b c d z h.on.1
  rw [e] at k
  have hs := h.sp
  intro hS
  rcases hs with ⟨h1, h2⟩ | ⟨h1, h2⟩ <;> rcases hS with ⟨s1, s2⟩ | ⟨s1, s2⟩
  · have k1 := pos_mul (show 0 < d.2 - z.2 by grind) s1
    have k2 := nn_mul (show 0 ≤ z.2 - c.2 by grind) (Rat.le_of_lt s2)
    grind
  · have k1 := pos_mul (show 0 < d.2 - z.2 by grind) (show 0 < - D a b c by grind)
    have k2 := nn_mul (show 0 ≤ z.2 - c.2 by grind) (show 0 ≤ - D a b d by grind)
    grind
  · have k1 := nn_mul (show 0 ≤ z.2 - d.2 by grind) (Rat.le_of_lt s1)
    have k2 := pos_mul (show 0 < c.2 - z.2 by grind) s2
    grind
  · have k1 := nn_mul (show 0 ≤ z.2 - d.2 by grind) (show 0 ≤ - D a b c by grind)
    have k2 := pos_mul (show 0 < c.2 - z.2 by grind) (show 0 < - D a b d by grind)
    grind
theorem over_of (a b c d z : Rat) (h1 : (a ≤ z ∧ z ≤ b) ∨ (b ≤ z ∧ z ≤ a)) (h2 : (c ≤ z ∧ z ≤ d) ∨ (d ≤ z ∧ z ≤ c)) : Over a b c d := by unfold Over; grind
theorem meets_span {z a b c d : Pt} (h1 : Lies1 z a b) (h2 : Lies1 z c d) : Mt a b c d :=
  ⟨over_of _ _ _ _ _ h1.on.2.1 h2.on.2.1, over_of _ _ _ _ _ h1.on.2.2 h2.on.2.2, not_same h2 h1.on.1, not_same h1 h2.on.1⟩
theorem meets_end {z b c d : Pt} (h2 : Lies1 z c d) : Mt z b c d := by
  refine ⟨over_of _ _ _ _ z.1 (by grind) h2.on.2.1, over_of _ _ _ _ z.2 (by grind) h2.on.2.2, not_same h2 (by unfold D; grind), ?_⟩
  rw [h2.on.1]; unfold Same; grind
theorem Lies1.not_low {z c d : Pt} (h : Lies1 z c d) (hz : z ≠ c) : 0 < (z.2 - c.2) * (d.2 - c.2) := by
  have hne := h.ne
  have hy : z.2 ≠ c.2 := by
    intro e
    apply hz
    refine Prod.ext ?_ e
    rw [← h.x, e]
    unfold xat
    have : (c.2 - c.2) / (d.2 - c.2) = 0 := by rw [show c.2 - c.2 = 0 by grind, Rat.div_def]; grind
    rw [this]; grind
  have hs := h.sp
  rcases hs with ⟨h1, h2⟩ | ⟨h1, h2⟩
  · exact pos_mul (by grind) (by grind)
  · have := pos_mul (show 0 < c.2 - z.2 by grind) (show 0 < c.2 - d.2 by grind)
    grind
theorem Lies1.not_high {z c d : Pt} (h : Lies1 z c d) (hz : z ≠ d) : 0 < (z.2 - d.2) * (c.2 - d.2) := by
  have hne := h.ne
  have hy : z.2 ≠ d.2 := by
    intro e
    apply hz
    refine Prod.ext ?_ e
    have hd := h.on.1
    have k : D c d z = (d.2 - c.2) * (d.1 - z.1) := by unfold D; rw [e]; grind
    rw [k] at hd
    have := Rat.mul_eq_zero.1 hd
    grind
  have hs := h.sp
  rcases hs with ⟨h1, h2⟩ | ⟨h1, h2⟩
  · have := pos_mul (show 0 < d.2 - z.2 by grind) (show 0 < d.2 - c.2 by grind)
    grind
  · exact pos_mul (by grind) (by grind)
theorem fold_two {z c d e : Pt} (h1 : D c d z = 0) (k1 : 0 < (z.2 - c.2) * (d.2 - c.2)) (h2 : D c e z = 0) (k2 : 0 < (z.2 - c.2) * (e.2 - c.2)) : Fold c d e := by
  refine fold_of ?_ ?_
  · have hz : z.2 - c.2 ≠ 0 := fun e => by rw [e] at k1; grind
    have k : (z.2 - c.2) * D c d e = (e.2 - c.2) * D c d z - (d.2 - c.2) * D c e z := by unfold D; grind
    rw [h1, h2] at k
    have := Rat.mul_eq_zero.1 (show (z.2 - c.2) * D c d e = 0 by grind)
    grind
  · have k := pos_mul k1 k2
    have s := sq_pos (x := z.2 - c.2) (fun e => by rw [e] at k1; grind)
    exact pos_of_mul (a := (z.2 - c.2) * (z.2 - c.2)) s (by grind)
theorem sign_scale {s t x y : Rat} (hp : 0 < s * t) (k : t * x = s * y) : (0 < y ↔ 0 < x) ∧ (y < 0 ↔ x < 0) := by
  have ht : t ≠ 0 := fun e => by rw [e] at hp; grind
  have st := sq_pos ht
  have e : t * t * x = s * t * y := by
    have : t * t * x = t * (t * x) := by grind
    rw [this, k]; grind
  refine ⟨⟨fun h => ?_, fun h => ?_⟩, ⟨fun h => ?_, fun h => ?_⟩⟩
  · exact pos_of_mul st (by rw [e]; exact pos_mul hp h)
  · exact pos_of_mul hp (by rw [← e]; exact pos_mul st h)
  · have := pos_mul hp (show 0 < -y by grind)
    have := pos_of_mul (b := -x) st (by grind)
    grind
  · have := pos_mul st (show 0 < -x by grind)
    have := pos_of_mul (b := -y) hp (by grind)
    grind
theorem part_meets {B C X c d : Pt} (h : Lies1 X B C) (hX : X ≠ B) (hm : Mt B X c d) : Mt B C c d := by
  obtain ⟨o1, o2, s1, s2⟩ := hm
  obtain ⟨hd, bx, byy⟩ := h.on
  have hp := h.not_low hX
  have hc : ∀ z, (C.2 - B.2) * D B X z = (X.2 - B.2) * D B C z := by intro z; unfold D at *; grind
  have sg : ∀ z, 0 < D B C z ↔ 0 < D B X z := fun z => (sign_scale hp (hc z)).1
  have sn : ∀ z, D B C z < 0 ↔ D B X z < 0 := fun z => (sign_scale hp (hc z)).2
  refine ⟨by unfold Over at *; grind, by unfold Over at *; grind, ?_, ?_⟩
  · unfold Same at *
    rw [sg, sg, sn, sn]; exact s1
  · have k := D_mix c d B C X hd
    have hs := h.sp
    intro hS
    apply s2
    rcases hs with ⟨u1, u2⟩ | ⟨u1, u2⟩ <;> rcases hS with ⟨t1, t2⟩ | ⟨t1, t2⟩
    · have k1 := pos_mul (show 0 < C.2 - X.2 by grind) t1
      have k2 := nn_mul (show 0 ≤ X.2 - B.2 by grind) (Rat.le_of_lt t2)
      exact .inl ⟨t1, pos_of_mul (a := C.2 - B.2) (by grind) (by grind)⟩
    · have k1 := pos_mul (show 0 < C.2 - X.2 by grind) (show 0 < - D c d B by grind)
      have k2 := nn_mul (show 0 ≤ X.2 - B.2 by grind) (show 0 ≤ - D c d C by grind)
      have := pos_of_mul (a := C.2 - B.2) (b := - D c d X) (by grind) (by grind)
      exact .inr ⟨t1, by grind⟩
    · have k1 := nn_mul (show 0 ≤ X.2 - C.2 by grind) (Rat.le_of_lt t1)
      have k2 := pos_mul (show 0 < B.2 - X.2 by grind) t2
      exact .inl ⟨t1, pos_of_mul (a := B.2 - C.2) (by grind) (by grind)⟩
    · have k1 := nn_mul (show 0 ≤ X.2 - C.2 by grind) (show 0 ≤ - D c d B by grind)
      have k2 := pos_mul (show 0 < B.2 - X.2 by grind) (show 0 < - D c d C by grind)
      have := pos_of_mul (a := B.2 - C.2) (b := - D c d X) (by grind) (by grind)
      exact .inr ⟨t1, by grind⟩
theorem part_next {B C X E : Pt} (h : Lies1 X B C) (hX : X ≠ B) (hC : X ≠ C) (hf : ¬ Fold C B E) : ¬ Mt B X C E := by
  rintro ⟨_, o2, _, s2⟩
  obtain ⟨hd, bx, byy⟩ := h.on
  have hl := h.not_low hX
  have hh := h.not_high hC
  have k := D_mix C E B C X hd
  have z : D C E C = 0 := by unfold D; grind
  rw [z] at k
  have hs := h.sp
  by_cases e : D C E B = 0
  · -- on one line
    have hE : (B.2 - C.2) * (E.2 - C.2) ≤ 0 := by
      by_cases q : 0 < (B.2 - C.2) * (E.2 - C.2)
      · exact absurd (fold_of (by unfold D at *; grind) q) hf
      · grind
    rcases hs with ⟨u1, u2⟩ | ⟨u1, u2⟩
    · have hEC : C.2 ≤ E.2 := by
        by_cases q : C.2 ≤ E.2
        · exact q
        · have := pos_mul (show 0 < C.2 - B.2 by grind) (show 0 < C.2 - E.2 by grind)
          grind
      have hx : X.2 ≠ C.2 := fun e => by rw [e] at hh; grind
      unfold Over at o2; grind
    · have hEC : E.2 ≤ C.2 := by
        by_cases q : E.2 ≤ C.2
        · exact q
        · have := pos_mul (show 0 < B.2 - C.2 by grind) (show 0 < E.2 - C.2 by grind)
          grind
      have hx : X.2 ≠ C.2 := fun e => by rw [e] at hh; grind
      unfold Over at o2; grind
  · apply s2
    have hx : X.2 ≠ C.2 := fun e => by rw [e] at hh; grind
    rcases hs with ⟨u1, u2⟩ | ⟨u1, u2⟩
    · by_cases q : 0 < D C E B
      · have k1 := pos_mul (show 0 < C.2 - X.2 by grind) q
        exact .inl ⟨q, pos_of_mul (a := C.2 - B.2) (by grind) (by grind)⟩
      · have k1 := pos_mul (show 0 < C.2 - X.2 by grind) (show 0 < - D C E B by grind)
        have := pos_of_mul (a := C.2 - B.2) (b := - D C E X) (by grind) (by grind)
        exact .inr ⟨by grind, by grind⟩
    · by_cases q : 0 < D C E B
      · have k1 := pos_mul (show 0 < X.2 - C.2 by grind) q
        exact .inl ⟨q, pos_of_mul (a := B.2 - C.2) (by grind) (by grind)⟩
      · have k1 := pos_mul (show 0 < X.2 - C.2 by grind) (show 0 < - D C E B by grind)
        have := pos_of_mul (a := B.2 - C.2) (b := - D C E X) (by grind) (by grind)
        exact .inr ⟨by grind, by grind⟩
end Jor
end Go.Proofs.Ytdkaoopkbhaheaa
namespace Go.Proofs.Ytdkaoopkbhaheaa
namespace Jor
theorem sm_part (f : Nat → Int) (m : Nat) : sm f (m + 3) = f 0 + f 1 + sm (fun k => f (k + 2)) m + f (m + 2) := by
  rw [show m + 3 = (m + 2) + 1 from rfl, sm, sm_first f (m + 1), sm_first (fun k => f (k + 1)) m]
  show f 0 + (f 1 + sm (fun k => f (k + 2)) m) + f (m + 2) = _
  omega
theorem sm_zero (f : Nat → Int) (m : Nat) (h : ∀ k, k < m → f k = 0) : sm f m = 0 := by
  induction m with
  | zero => rfl
  | succ m ih => rw [sm, ih (fun k hk => h k (by omega)), h m (by omega)]; rfl
theorem cr_on {a b q : Pt} (h : D a b q = 0) : cr q a b = 0 := by
  unfold cr; rw [h, if_neg (by grind), if_neg (by grind)]
theorem passes {a b p : Pt} {x : Rat} (hx : p.1 < x) (off : span a b p.2 → D a b p ≠ 0) (hmin : span a b p.2 → p.1 < xat a b p.2 → x ≤ xat a b p.2) :
    (Lies1 (x, p.2) a b ∧ cr p a b - cr (x, p.2) a b = dir a b) ∨ (¬ Lies1 (x, p.2) a b ∧ cr p a b - cr (x, p.2) a b = 0) := by
  by_cases hs : span a b p.2
  · have hne : a.2 ≠ b.2 := by unfold span at hs; grind
    have hd := D_xat a b p hne
    have ho := off hs
    have hp : xat a b p.2 ≠ p.1 := fun e => ho (by rw [hd, e]; grind)
    have hsx : span a b ((x, p.2) : Pt).2 := hs
    rw [cr_at hs, cr_at hsx]
    show (Lies1 (x, p.2) a b ∧ (if p.1 < xat a b p.2 then dir a b else 0) - (if x < xat a b p.2 then dir a b else 0) = dir a b) ∨ (¬ Lies1 (x, p.2) a b ∧ (if p.1 < xat a b p.2 then dir a b else 0) - (if x < xat a b p.2 then dir a b else 0) = 0)
    by_cases h1 : p.1 < xat a b p.2
    · have h2 := hmin hs h1
      by_cases h3 : xat a b p.2 = x
      · left
        refine ⟨⟨hs, h3⟩, ?_⟩
        rw [if_pos h1, if_neg (by grind)]; omega
      · right
        refine ⟨fun h => h3 h.x, ?_⟩
        rw [if_pos h1, if_pos (by grind)]; omega
    · right
      refine ⟨fun h => ?_, ?_⟩
      · have := h.x
        simp only [] at this
        grind
      · rw [if_neg h1, if_neg (by grind)]; rfl
  · right
    refine ⟨fun h => hs h.sp, ?_⟩
    rw [cr_no hs, cr_no (q := (x, p.2)) hs]; rfl
theorem edge_mod {v : Nat → Pt} {n : Nat} (R : Ring v n) (j : Nat) : v j = v (j % n) ∧ v (j + 1) = v (j % n + 1) := by
  refine ⟨per_mod R j, ?_⟩
  have h := per_mul R (j % n + 1) (j / n)
  rw [← h]
  congr 1
  have := Nat.mod_add_div j n
  omega
theorem at_vertex {v : Nat → Pt} {n : Nat} (R : Ring v n) (m : Nat) : wind v n (v (m + 1)) = leftOf v n ∨ wind v n (v (m + 1)) = leftOf v n - 1 := by
  have h := left_all R m
  rcases ahead_01 (v m) (v (m + 1)) (v (m + 2)) with e | e <;> rw [e] at h <;> omega
theorem lies_out {X y : Pt} : Lies1 X X y ↔ X.2 < y.2 := by
  constructor
  · intro h
    have := h.sp
    unfold span at this
    grind
  · intro h
    refine ⟨.inl ⟨Rat.le_refl, h⟩, ?_⟩
    unfold xat
    have : (X.2 - X.2) / (y.2 - X.2) = 0 := by rw [show X.2 - X.2 = 0 by grind, Rat.div_def]; grind
    rw [this]; grind
theorem lies_in {X a : Pt} : Lies1 X a X ↔ X.2 < a.2 := by
  constructor
  · intro h
    have := h.sp
    unfold span at this
    grind
  · intro h
    refine ⟨.inr ⟨Rat.le_refl, h⟩, ?_⟩
    unfold xat
    have : (X.2 - a.2) / (X.2 - a.2) = 1 := by
      have k : (X.2 - a.2) / (X.2 - a.2) * (X.2 - a.2) = X.2 - a.2 := Rat.div_mul_cancel (by grind)
      have hne : X.2 - a.2 ≠ 0 := by grind
      generalize (X.2 - a.2) / (X.2 - a.2) = s at *
      have : (s - 1) * (X.2 - a.2) = 0 := by grind
      have := Rat.mul_eq_zero.1 this
      grind
    rw [this]; grind
theorem at_inner {v : Nat → Pt} {n : Nat} (R : Ring v n) (m : Nat) (X : Pt) (hL : Lies1 X (v (m + 1)) (v (m + 2))) (hB : X ≠ v (m + 1)) (hC : X ≠ v (m + 2)) : wind v n X = leftOf v n - kap (v (m + 1)) X := by
  have hl := left_all R m
  obtain ⟨hd, bx, byy⟩ := hL.on
  have hp := hL.not_low hB
  have hBX : v (m + 1) ≠ X := fun e => hB e.symm
  have nf := R.nf m
  have scale : ∀ z : Pt, ((v (m + 2)).2 - (v (m + 1)).2) * D (v (m + 1)) X z = (X.2 - (v (m + 1)).2) * D (v (m + 1)) (v (m + 2)) z := by intro z; unfold D at *; grind
  have nfX : ¬ Fold (v (m + 1)) (v m) X := by
    rintro ⟨f1, f2⟩
    apply nf
    have k1 := scale (v m)
    have e1 : D (v (m + 1)) (v m) X = - D (v (m + 1)) X (v m) := by unfold D; grind
    have e2 : D (v (m + 1)) (v m) (v (m + 2)) = - D (v (m + 1)) (v (m + 2)) (v m) := by unfold D; grind
    have hx0 : X.2 - (v (m + 1)).2 ≠ 0 := fun e => by rw [e] at hp; grind
    refine ⟨?_, ?_⟩
    · have z : D (v (m + 1)) X (v m) = 0 := by grind
      rw [z] at k1
      have := Rat.mul_eq_zero.1 (show (X.2 - (v (m + 1)).2) * D (v (m + 1)) (v (m + 2)) (v m) = 0 by grind)
      grind
    · have k : ((v (m + 2)).2 - (v (m + 1)).2) * (((v m).1 - (v (m + 1)).1) * (X.1 - (v (m + 1)).1) + ((v m).2 - (v (m + 1)).2) * (X.2 - (v (m + 1)).2)) = (X.2 - (v (m + 1)).2) * (((v m).1 - (v (m + 1)).1) * ((v (m + 2)).1 - (v (m + 1)).1) + ((v m).2 - (v (m + 1)).2) * ((v (m + 2)).2 - (v (m + 1)).2)) := by unfold D at hd; grind
      exact ((sign_scale hp k).1).2 f2
  have hb := begins (v m) (v (m + 1)) X hBX (R.ne m) nfX
  -- the direction is the edge's
  have hah : ahead (v m) (v (m + 1)) X = ahead (v m) (v (m + 1)) (v (m + 2)) := by
    have s1 := sign_scale hp (scale (v m))
    have c1 := cross_eq (v m) (v (m + 1)) X
    have c2 := cross_eq (v m) (v (m + 1)) (v (m + 2))
    have u1 : (sub X (v (m + 1))).2 = X.2 - (v (m + 1)).2 := rfl
    have u2 : (sub (v (m + 2)) (v (m + 1))).2 = (v (m + 2)).2 - (v (m + 1)).2 := rfl
    have hx0 : X.2 - (v (m + 1)).2 ≠ 0 := fun e => by rw [e] at hp; grind
    have hc0 : (v (m + 2)).2 - (v (m + 1)).2 ≠ 0 := fun e => by rw [e] at hp; grind
    have sy : 0 < X.2 - (v (m + 1)).2 ↔ 0 < (v (m + 2)).2 - (v (m + 1)).2 := by
      constructor
      · intro h; exact pos_of_mul h hp
      · intro h; exact pos_of_mul h (by grind)
    have key : lt (sub X (v (m + 1))) (sub (v m) (v (m + 1))) ↔ lt (sub (v (m + 2)) (v (m + 1))) (sub (v m) (v (m + 1))) := by
      unfold lt
      rw [c1, c2, u1, u2, ← s1.1]
      grind
    unfold ahead
    by_cases h : lt (sub X (v (m + 1))) (sub (v m) (v (m + 1)))
    · rw [if_pos h, if_pos (key.1 h)]
    · rw [if_neg h, if_neg (fun h' => h (key.2 h'))]
  have hs0 : sw (v (m + 1)) X (v (m + 2)) = 0 := by
    have z1 : D (v (m + 1)) X (v (m + 2)) = 0 := by unfold D at *; grind
    have z2 : D X (v (m + 1)) (v (m + 2)) = 0 := by unfold D at *; grind
    unfold sw str
    rw [z1, z2, if_neg (c := (v (m + 1)).2 < (v (m + 2)).2 ∧ _) (by grind), if_neg (c := X.2 < (v (m + 2)).2 ∧ _) (by grind)]
    split <;> rfl
  -- the sums
  have hw : wind v n (v (m + 1)) - wind v n X = sw (v (m + 1)) X (v m) - sw (v (m + 1)) X (v (m + 2)) - cr X (v m) (v (m + 1)) := by
    rw [wind_from R (v (m + 1)) (m + 1), wind_from R X (m + 1)]
    obtain ⟨k, rfl⟩ : ∃ k, n = k + 3 := ⟨n - 3, by have := R.three; omega⟩
    rw [sm_part, sm_part]
    have far : sm (fun t => cr (v (m + 1)) (v (m + 1 + (t + 2))) (v (m + 1 + (t + 2) + 1))) k - sm (fun t => cr X (v (m + 1 + (t + 2))) (v (m + 1 + (t + 2) + 1))) k = sw (v (m + 1)) X (v (m + 3 + k)) - sw (v (m + 1)) X (v (m + 3 + 0)) := by
      rw [← sm_sub, ← sm_tele (fun t => sw (v (m + 1)) X (v (m + 3 + t))) k]
      refine sm_congr (fun t ht => ?_)
      have hn : ¬ Mt (v (m + 1)) X (v (m + 1 + (t + 2))) (v (m + 1 + (t + 2) + 1)) := fun h => R.nm (m + 1) (t + 2) (by omega) (by omega) (part_meets hL hB h)
      rw [show m + 1 + (t + 2) = m + 3 + t by omega, show m + 3 + t + 1 = m + 3 + (t + 1) by omega] at hn ⊢
      exact sweep hn
    have nx := sweep (part_next hL hB hC (R.nf (m + 1)))
    have l1 : v (m + 3 + k) = v m := by rw [show m + 3 + k = m + (k + 3) by omega]; exact R.per m
    have l2 : v (m + 1 + (k + 2)) = v m := by rw [show m + 1 + (k + 2) = m + (k + 3) by omega]; exact R.per m
    have l3 : v (m + 1 + (k + 2) + 1) = v (m + 1) := by rw [show m + 1 + (k + 2) + 1 = m + 1 + (k + 3) by omega]; exact R.per (m + 1)
    rw [l1] at far
    rw [l2, l3]
    have z1 := cr_begin (v (m + 1)) (v (m + 2))
    have z2 := cr_on hd
    have z4 := cr_end (v m) (v (m + 1))
    simp only [Nat.add_zero, Nat.add_assoc, Nat.reduceAdd] at *
    omega
  rw [hah] at hb
  omega
theorem wind_small {v : Nat → Pt} {n : Nat} (R : Ring v n) (p : Pt) (off : ∀ j, span (v j) (v (j + 1)) p.2 → D (v j) (v (j + 1)) p ≠ 0) :
    wind v n p = 0 ∨ wind v n p = leftOf v n ∨ wind v n p = leftOf v n - 1 := by
  rcases least (fun j => xat (v j) (v (j + 1)) p.2) (fun j => span (v j) (v (j + 1)) p.2 ∧ p.1 < xat (v j) (v (j + 1)) p.2) n with h | ⟨i, hi, ⟨hs, hx⟩, hmin⟩
  · left
    unfold wind
    refine sm_zero _ _ (fun k hk => ?_)
    by_cases hs : span (v k) (v (k + 1)) p.2
    · rw [cr_at hs, if_neg (fun hx => h k hk ⟨hs, hx⟩)]
    · exact cr_no hs
  · right
    have hmin' : ∀ j, span (v j) (v (j + 1)) p.2 → p.1 < xat (v j) (v (j + 1)) p.2 → xat (v i) (v (i + 1)) p.2 ≤ xat (v j) (v (j + 1)) p.2 := by
      intro j h1 h2
      obtain ⟨e1, e2⟩ := edge_mod R j
      rw [e1, e2] at h1 h2 ⊢
      exact hmin (j % n) (Nat.mod_lt _ (by omega)) ⟨h1, h2⟩
    have hXi : Lies1 (xat (v i) (v (i + 1)) p.2, p.2) (v i) (v (i + 1)) := ⟨hs, rfl⟩
    generalize hX : ((xat (v i) (v (i + 1)) p.2, p.2) : Pt) = X at *
    have hX2 : X.2 = p.2 := by rw [← hX]
    have T : ∀ j, (Lies1 X (v j) (v (j + 1)) ∧ cr p (v j) (v (j + 1)) - cr X (v j) (v (j + 1)) = dir (v j) (v (j + 1))) ∨ (¬ Lies1 X (v j) (v (j + 1)) ∧ cr p (v j) (v (j + 1)) - cr X (v j) (v (j + 1)) = 0) := by
      intro j
      have := passes (a := v j) (b := v (j + 1)) hx (off j) (hmin' j)
      rw [hX] at this
      exact this
    obtain ⟨k, rfl⟩ : ∃ k, n = k + 3 := ⟨n - 3, by have := R.three; omega⟩
    by_cases hv : ∃ m, v (m + 1) = X
    · obtain ⟨m, hm⟩ := hv
      have hsum : wind v (k + 3) p - wind v (k + 3) X = (cr p (v (m + 1)) (v (m + 2)) - cr X (v (m + 1)) (v (m + 2))) + (cr p (v m) (v (m + 1)) - cr X (v m) (v (m + 1))) := by
        rw [wind_from R p (m + 1), wind_from R X (m + 1), ← sm_sub, sm_part]
        have f1 : cr p (v (m + 1 + 1)) (v (m + 1 + 1 + 1)) - cr X (v (m + 1 + 1)) (v (m + 1 + 1 + 1)) = 0 := by
          rcases T (m + 1 + 1) with ⟨hl, _⟩ | ⟨_, h⟩
          · exfalso
            have hne : X ≠ v (m + 2) := fun e => R.ne (m + 1) (hm.trans e)
            have hf := fold_of (A := X) (B := v (m + 2)) (C := v (m + 3)) (by have := hl.on.1; unfold D at *; grind) (hl.not_low hne)
            rw [← hm] at hf
            exact R.nf (m + 1) hf
          · exact h
        have f2 : sm (fun t => cr p (v (m + 1 + (t + 2))) (v (m + 1 + (t + 2) + 1)) - cr X (v (m + 1 + (t + 2))) (v (m + 1 + (t + 2) + 1))) k = 0 := by
          refine sm_zero _ _ (fun t ht => ?_)
          rcases T (m + 1 + (t + 2)) with ⟨hl, _⟩ | ⟨_, h⟩
          · exfalso
            have := meets_end (b := v (m + 2)) hl
            rw [← hm] at this
            exact R.nm (m + 1) (t + 2) (by omega) (by omega) this
          · exact h
        have l2 : v (m + 1 + (k + 2)) = v m := by rw [show m + 1 + (k + 2) = m + (k + 3) by omega]; exact R.per m
        have l3 : v (m + 1 + (k + 2) + 1) = v (m + 1) := by rw [show m + 1 + (k + 2) + 1 = m + 1 + (k + 3) by omega]; exact R.per (m + 1)
        rw [f1, f2, l2, l3]
        simp only [Nat.add_zero, Nat.add_assoc, Nat.reduceAdd]
        omega
      have hl := left_all R m
      have t1 := T (m + 1)
      have t2 := T m
      have hav := at_vertex R m
      simp only [Nat.add_assoc, Nat.reduceAdd] at t1
      rw [hm] at hl t1 t2 hsum hav
      rw [lies_out] at t1
      rw [lies_in] at t2
      have d1 : X.2 < (v (m + 2)).2 → dir X (v (m + 2)) = 1 := fun h => by unfold dir; rw [if_pos h]
      have d2 : X.2 < (v m).2 → dir (v m) X = -1 := fun h => by unfold dir; rw [if_neg (by grind)]
      have s1 : (sub (v (m + 2)) X).2 = (v (m + 2)).2 - X.2 := rfl
      have s2 : (sub (v m) X).2 = (v m).2 - X.2 := rfl
      by_cases h1 : X.2 < (v (m + 2)).2
      · have w1 := (t1.resolve_right (fun h => h.1 h1)).2
        rw [d1 h1] at w1
        by_cases h2 : X.2 < (v m).2
        · have w2 := (t2.resolve_right (fun h => h.1 h2)).2
          rw [d2 h2] at w2
          omega
        · have w2 := (t2.resolve_left (fun h => h2 h.1)).2
          have ha : ahead (v m) X (v (m + 2)) = 1 := by
            unfold ahead lt
            rw [s1, s2, if_pos (by grind)]
          omega
      · have w1 := (t1.resolve_left (fun h => h1 h.1)).2
        by_cases h2 : X.2 < (v m).2
        · have w2 := (t2.resolve_right (fun h => h.1 h2)).2
          rw [d2 h2] at w2
          have ha : ahead (v m) X (v (m + 2)) = 0 := by
            unfold ahead lt
            rw [s1, s2, if_neg (by grind)]
          omega
        · have w2 := (t2.resolve_left (fun h => h2 h.1)).2
          omega
    · -- the edge's inner part
      have nv : ∀ j, X ≠ v j := fun j e => hv ⟨j + (k + 2), by rw [show j + (k + 2) + 1 = j + (k + 3) by omega, R.per]; exact e.symm⟩
      have e1 : v (i + (k + 2) + 1) = v i := by rw [show i + (k + 2) + 1 = i + (k + 3) by omega]; exact R.per i
      have e2 : v (i + (k + 2) + 2) = v (i + 1) := by rw [show i + (k + 2) + 2 = i + 1 + (k + 3) by omega]; exact R.per (i + 1)
      obtain ⟨m, hm⟩ : ∃ m, m = i + (k + 2) := ⟨_, rfl⟩
      rw [← hm] at e1 e2
      rw [← e1, ← e2] at hXi
      have hin := at_inner R m X hXi (nv _) (nv _)
      have hsum : wind v (k + 3) p - wind v (k + 3) X = dir (v (m + 1)) (v (m + 2)) := by
        rw [wind_from R p (m + 1), wind_from R X (m + 1), ← sm_sub, sm_part]
        have f0 : cr p (v (m + 1 + 0)) (v (m + 1 + 0 + 1)) - cr X (v (m + 1 + 0)) (v (m + 1 + 0 + 1)) = dir (v (m + 1)) (v (m + 2)) := by
          rcases T (m + 1) with ⟨_, h⟩ | ⟨hl, _⟩
          · exact h
          · exact absurd hXi hl
        have f1 : cr p (v (m + 1 + 1)) (v (m + 1 + 1 + 1)) - cr X (v (m + 1 + 1)) (v (m + 1 + 1 + 1)) = 0 := by
          rcases T (m + 1 + 1) with ⟨hl, _⟩ | ⟨_, h⟩
          · exfalso
            have z := hXi.on.1
            exact R.nf (m + 1) (fold_two (z := X) (by unfold D at *; grind) (hXi.not_high (nv _)) hl.on.1 (hl.not_low (nv _)))
          · exact h
        have f2 : sm (fun t => cr p (v (m + 1 + (t + 2))) (v (m + 1 + (t + 2) + 1)) - cr X (v (m + 1 + (t + 2))) (v (m + 1 + (t + 2) + 1))) k = 0 := by
          refine sm_zero _ _ (fun t ht => ?_)
          rcases T (m + 1 + (t + 2)) with ⟨hl, _⟩ | ⟨_, h⟩
          · exact absurd (meets_span hXi hl) (R.nm (m + 1) (t + 2) (by omega) (by omega))
          · exact h
        have l2 : v (m + 1 + (k + 2)) = v m := by rw [show m + 1 + (k + 2) = m + (k + 3) by omega]; exact R.per m
        have l3 : v (m + 1 + (k + 2) + 1) = v (m + 1) := by rw [show m + 1 + (k + 2) + 1 = m + 1 + (k + 3) by omega]; exact R.per (m + 1)
        have f3 : cr p (v m) (v (m + 1)) - cr X (v m) (v (m + 1)) = 0 := by
          rcases T m with ⟨hl, _⟩ | ⟨_, h⟩
          · exfalso
            have z := hl.on.1
            exact R.nf m (fold_two (z := X) (by unfold D at *; grind) (hl.not_high (nv _)) hXi.on.1 (hXi.not_low (nv _)))
          · exact h
        rw [f0, f1, f2, l2, l3, f3]
        omega
      have hs' := hXi.sp
      have hy := hXi.not_low (nv _)
      rcases hs' with ⟨u1, u2⟩ | ⟨u1, u2⟩
      · have hk : kap (v (m + 1)) X = 1 := by
          unfold kap
          have : X.2 ≠ (v (m + 1)).2 := fun e => by rw [e] at hy; grind
          rw [if_pos (by grind)]
        have hd : dir (v (m + 1)) (v (m + 2)) = 1 := by unfold dir; rw [if_pos (by grind)]
        omega
      · have hk : kap (v (m + 1)) X = 0 := by unfold kap; rw [if_neg (by grind)]
        have hd : dir (v (m + 1)) (v (m + 2)) = -1 := by unfold dir; rw [if_neg (by grind)]
        omega
theorem wind_one {v : Nat → Pt} {n : Nat} (R : Ring v n) (p : Pt) (off : ∀ j, span (v j) (v (j + 1)) p.2 → D (v j) (v (j + 1)) p ≠ 0) :
    -1 ≤ wind v n p ∧ wind v n p ≤ 1 := by
  have h1 := wind_small R p off
  have h2 := left_01 R
  omega
#print axioms wind_one
end Jor
end Go.Proofs.Ytdkaoopkbhaheaa
