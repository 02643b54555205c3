/- Plain geometry over the rational numbers: the last part: from a point to the nearest edge on its right. No Go in sight. -/
import Derived.Test.YtdkaoopkbhaheaaJ2
namespace Go.Proofs.Ytdkaoopkbhaheaa
namespace Jor

/-- z is where the edge from c to d reaches over its height. -/
structure Lies1 (z c d : Pt) : Prop where
  sp : span c d z.2
  x : xat c d z.2 = z.1
theorem Lies1.ne {z c d : Pt} (h : Lies1 z c d) : c.2 ≠ d.2 := by have := h.sp; unfold span at this; grind
theorem Lies1.on {z c d : Pt} (h : Lies1 z c d) : D c d z = 0 ∧ ((c.1 ≤ z.1 ∧ z.1 ≤ d.1) ∨ (d.1 ≤ z.1 ∧ z.1 ≤ c.1)) ∧ ((c.2 ≤ z.2 ∧ z.2 ≤ d.2) ∨ (d.2 ≤ z.2 ∧ z.2 ≤ c.2)) := by
  have k := at_on h.sp
  rw [h.x] at k
  exact k
theorem D_mix (a b c d z : Pt) (h : D c d z = 0) : (d.2 - c.2) * D a b z = (d.2 - z.2) * D a b c + (z.2 - c.2) * D a b d := by unfold D at *; grind

/-- A point on a line through a and b: the ends of a segment on which it is are not both on one side. -/
theorem not_same {z a b c d : Pt} (h : Lies1 z c d) (e : D a b z = 0) : ¬ Same (D a b c) (D a b d) := by
  have k := D_mix a b c d z h.on.1
  rw [e] at k
  have hs := h.sp
  intro hS
  rcases hs with ⟨h1, h2⟩ | ⟨h1, h2⟩ <;> rcases hS with ⟨s1, s2⟩ | ⟨s1, s2⟩
  · have k1 := pos_mul (show 0 < d.2 - z.2 by grind) s1
    have k2 := nn_mul (show 0 ≤ z.2 - c.2 by grind) (Rat.le_of_lt s2)
    grind
  · have k1 := pos_mul (show 0 < d.2 - z.2 by grind) (show 0 < - D a b c by grind)
    have k2 := nn_mul (show 0 ≤ z.2 - c.2 by grind) (show 0 ≤ - D a b d by grind)
    grind
  · have k1 := nn_mul (show 0 ≤ z.2 - d.2 by grind) (Rat.le_of_lt s1)
    have k2 := pos_mul (show 0 < c.2 - z.2 by grind) s2
    grind
  · have k1 := nn_mul (show 0 ≤ z.2 - d.2 by grind) (show 0 ≤ - D a b c by grind)
    have k2 := pos_mul (show 0 < c.2 - z.2 by grind) (show 0 < - D a b d by grind)
    grind
theorem over_of (a b c d z : Rat) (h1 : (a ≤ z ∧ z ≤ b) ∨ (b ≤ z ∧ z ≤ a)) (h2 : (c ≤ z ∧ z ≤ d) ∨ (d ≤ z ∧ z ≤ c)) : Over a b c d := by unfold Over; grind
theorem meets_span {z a b c d : Pt} (h1 : Lies1 z a b) (h2 : Lies1 z c d) : Mt a b c d :=
  ⟨over_of _ _ _ _ _ h1.on.2.1 h2.on.2.1, over_of _ _ _ _ _ h1.on.2.2 h2.on.2.2, not_same h2 h1.on.1, not_same h1 h2.on.1⟩
theorem meets_end {z b c d : Pt} (h2 : Lies1 z c d) : Mt z b c d := by
  refine ⟨over_of _ _ _ _ z.1 (by grind) h2.on.2.1, over_of _ _ _ _ z.2 (by grind) h2.on.2.2, not_same h2 (by unfold D; grind), ?_⟩
  rw [h2.on.1]; unfold Same; grind

theorem Lies1.not_low {z c d : Pt} (h : Lies1 z c d) (hz : z ≠ c) : 0 < (z.2 - c.2) * (d.2 - c.2) := by
  have hne := h.ne
  have hy : z.2 ≠ c.2 := by
    intro e
    apply hz
    refine Prod.ext ?_ e
    rw [← h.x, e]
    unfold xat
    have : (c.2 - c.2) / (d.2 - c.2) = 0 := by rw [show c.2 - c.2 = 0 by grind, Rat.div_def]; grind
    rw [this]; grind
  have hs := h.sp
  rcases hs with ⟨h1, h2⟩ | ⟨h1, h2⟩
  · exact pos_mul (by grind) (by grind)
  · have := pos_mul (show 0 < c.2 - z.2 by grind) (show 0 < c.2 - d.2 by grind)
    grind
theorem Lies1.not_high {z c d : Pt} (h : Lies1 z c d) (hz : z ≠ d) : 0 < (z.2 - d.2) * (c.2 - d.2) := by
  have hne := h.ne
  have hy : z.2 ≠ d.2 := by
    intro e
    apply hz
    refine Prod.ext ?_ e
    have hd := h.on.1
    have k : D c d z = (d.2 - c.2) * (d.1 - z.1) := by unfold D; rw [e]; grind
    rw [k] at hd
    have := Rat.mul_eq_zero.1 hd
    grind
  have hs := h.sp
  rcases hs with ⟨h1, h2⟩ | ⟨h1, h2⟩
  · have := pos_mul (show 0 < d.2 - z.2 by grind) (show 0 < d.2 - c.2 by grind)
    grind
  · exact pos_mul (by grind) (by grind)

/-- Two edges out of one point that share another one fold back. -/
theorem fold_two {z c d e : Pt} (h1 : D c d z = 0) (k1 : 0 < (z.2 - c.2) * (d.2 - c.2)) (h2 : D c e z = 0) (k2 : 0 < (z.2 - c.2) * (e.2 - c.2)) : Fold c d e := by
  refine fold_of ?_ ?_
  · have hz : z.2 - c.2 ≠ 0 := fun e => by rw [e] at k1; grind
    have k : (z.2 - c.2) * D c d e = (e.2 - c.2) * D c d z - (d.2 - c.2) * D c e z := by unfold D; grind
    rw [h1, h2] at k
    have := Rat.mul_eq_zero.1 (show (z.2 - c.2) * D c d e = 0 by grind)
    grind
  · have k := pos_mul k1 k2
    have s := sq_pos (x := z.2 - c.2) (fun e => by rw [e] at k1; grind)
    exact pos_of_mul (a := (z.2 - c.2) * (z.2 - c.2)) s (by grind)

theorem sign_scale {s t x y : Rat} (hp : 0 < s * t) (k : t * x = s * y) : (0 < y ↔ 0 < x) ∧ (y < 0 ↔ x < 0) := by
  have ht : t ≠ 0 := fun e => by rw [e] at hp; grind
  have st := sq_pos ht
  have e : t * t * x = s * t * y := by
    have : t * t * x = t * (t * x) := by grind
    rw [this, k]; grind
  refine ⟨⟨fun h => ?_, fun h => ?_⟩, ⟨fun h => ?_, fun h => ?_⟩⟩
  · exact pos_of_mul st (by rw [e]; exact pos_mul hp h)
  · exact pos_of_mul hp (by rw [← e]; exact pos_mul st h)
  · have := pos_mul hp (show 0 < -y by grind)
    have := pos_of_mul (b := -x) st (by grind)
    grind
  · have := pos_mul st (show 0 < -x by grind)
    have := pos_of_mul (b := -y) hp (by grind)
    grind
/-- A part of an edge meets less than the edge. -/
theorem part_meets {B C X c d : Pt} (h : Lies1 X B C) (hX : X ≠ B) (hm : Mt B X c d) : Mt B C c d := by
  obtain ⟨o1, o2, s1, s2⟩ := hm
  obtain ⟨hd, bx, byy⟩ := h.on
  have hp := h.not_low hX
  have hc : ∀ z, (C.2 - B.2) * D B X z = (X.2 - B.2) * D B C z := by intro z; unfold D at *; grind
  have sg : ∀ z, 0 < D B C z ↔ 0 < D B X z := fun z => (sign_scale hp (hc z)).1
  have sn : ∀ z, D B C z < 0 ↔ D B X z < 0 := fun z => (sign_scale hp (hc z)).2
  refine ⟨by unfold Over at *; grind, by unfold Over at *; grind, ?_, ?_⟩
  · unfold Same at *
    rw [sg, sg, sn, sn]; exact s1
  · have k := D_mix c d B C X hd
    have hs := h.sp
    intro hS
    apply s2
    rcases hs with ⟨u1, u2⟩ | ⟨u1, u2⟩ <;> rcases hS with ⟨t1, t2⟩ | ⟨t1, t2⟩
    · have k1 := pos_mul (show 0 < C.2 - X.2 by grind) t1
      have k2 := nn_mul (show 0 ≤ X.2 - B.2 by grind) (Rat.le_of_lt t2)
      exact .inl ⟨t1, pos_of_mul (a := C.2 - B.2) (by grind) (by grind)⟩
    · have k1 := pos_mul (show 0 < C.2 - X.2 by grind) (show 0 < - D c d B by grind)
      have k2 := nn_mul (show 0 ≤ X.2 - B.2 by grind) (show 0 ≤ - D c d C by grind)
      have := pos_of_mul (a := C.2 - B.2) (b := - D c d X) (by grind) (by grind)
      exact .inr ⟨t1, by grind⟩
    · have k1 := nn_mul (show 0 ≤ X.2 - C.2 by grind) (Rat.le_of_lt t1)
      have k2 := pos_mul (show 0 < B.2 - X.2 by grind) t2
      exact .inl ⟨t1, pos_of_mul (a := B.2 - C.2) (by grind) (by grind)⟩
    · have k1 := nn_mul (show 0 ≤ X.2 - C.2 by grind) (show 0 ≤ - D c d B by grind)
      have k2 := pos_mul (show 0 < B.2 - X.2 by grind) (show 0 < - D c d C by grind)
      have := pos_of_mul (a := B.2 - C.2) (b := - D c d X) (by grind) (by grind)
      exact .inr ⟨t1, by grind⟩

/-- A part of an edge that does not come to its end does not meet the edge that follows. -/
theorem part_next {B C X E : Pt} (h : Lies1 X B C) (hX : X ≠ B) (hC : X ≠ C) (hf : ¬ Fold C B E) : ¬ Mt B X C E := by
  rintro ⟨_, o2, _, s2⟩
  obtain ⟨hd, bx, byy⟩ := h.on
  have hl := h.not_low hX
  have hh := h.not_high hC
  have k := D_mix C E B C X hd
  have z : D C E C = 0 := by unfold D; grind
  rw [z] at k
  have hs := h.sp
  by_cases e : D C E B = 0
  · -- on one line
    have hE : (B.2 - C.2) * (E.2 - C.2) ≤ 0 := by
      by_cases q : 0 < (B.2 - C.2) * (E.2 - C.2)
      · exact absurd (fold_of (by unfold D at *; grind) q) hf
      · grind
    rcases hs with ⟨u1, u2⟩ | ⟨u1, u2⟩
    · have hEC : C.2 ≤ E.2 := by
        by_cases q : C.2 ≤ E.2
        · exact q
        · have := pos_mul (show 0 < C.2 - B.2 by grind) (show 0 < C.2 - E.2 by grind)
          grind
      have hx : X.2 ≠ C.2 := fun e => by rw [e] at hh; grind
      unfold Over at o2; grind
    · have hEC : E.2 ≤ C.2 := by
        by_cases q : E.2 ≤ C.2
        · exact q
        · have := pos_mul (show 0 < B.2 - C.2 by grind) (show 0 < E.2 - C.2 by grind)
          grind
      have hx : X.2 ≠ C.2 := fun e => by rw [e] at hh; grind
      unfold Over at o2; grind
  · apply s2
    have hx : X.2 ≠ C.2 := fun e => by rw [e] at hh; grind
    rcases hs with ⟨u1, u2⟩ | ⟨u1, u2⟩
    · by_cases q : 0 < D C E B
      · have k1 := pos_mul (show 0 < C.2 - X.2 by grind) q
        exact .inl ⟨q, pos_of_mul (a := C.2 - B.2) (by grind) (by grind)⟩
      · have k1 := pos_mul (show 0 < C.2 - X.2 by grind) (show 0 < - D C E B by grind)
        have := pos_of_mul (a := C.2 - B.2) (b := - D C E X) (by grind) (by grind)
        exact .inr ⟨by grind, by grind⟩
    · by_cases q : 0 < D C E B
      · have k1 := pos_mul (show 0 < X.2 - C.2 by grind) q
        exact .inl ⟨q, pos_of_mul (a := B.2 - C.2) (by grind) (by grind)⟩
      · have k1 := pos_mul (show 0 < X.2 - C.2 by grind) (show 0 < - D C E B by grind)
        have := pos_of_mul (a := B.2 - C.2) (b := - D C E X) (by grind) (by grind)
        exact .inr ⟨by grind, by grind⟩
end Jor
end Go.Proofs.Ytdkaoopkbhaheaa
