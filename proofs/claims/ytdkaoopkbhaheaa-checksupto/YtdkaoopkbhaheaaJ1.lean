/- Plain geometry over the rational numbers: a ring whose edges share no point but where they follow one another winds around no point more than once. No Go in sight. -/
import Derived.Test.YtdkaoopkbhaheaaJ0
namespace Go.Proofs.Ytdkaoopkbhaheaa
namespace Jor

/-- Sums. -/
def sm (f : Nat → Int) : Nat → Int
  | 0 => 0
  | k + 1 => sm f k + f k
theorem sm_congr {f g : Nat → Int} {n : Nat} (h : ∀ k, k < n → f k = g k) : sm f n = sm g n := by
  induction n with
  | zero => rfl
  | succ n ih => rw [sm, sm, ih (fun k hk => h k (by omega)), h n (by omega)]
theorem sm_sub (f g : Nat → Int) (n : Nat) : sm (fun k => f k - g k) n = sm f n - sm g n := by
  induction n with
  | zero => rfl
  | succ n ih => rw [sm, sm, sm, ih]; omega
theorem sm_first (f : Nat → Int) (n : Nat) : sm f (n + 1) = f 0 + sm (fun k => f (k + 1)) n := by
  induction n with
  | zero => simp [sm]
  | succ n ih => rw [sm, ih, sm]; omega
/-- What is summed step by step is the end less the beginning. -/
theorem sm_tele (g : Nat → Int) (n : Nat) : sm (fun k => g (k + 1) - g k) n = g n - g 0 := by
  induction n with
  | zero => simp [sm]
  | succ n ih => rw [sm, ih]; omega
theorem sm_shift (g : Nat → Int) (n : Nat) (hp : ∀ k, g (k + n) = g k) (i : Nat) : sm (fun k => g (i + k)) n = sm g n := by
  induction i with
  | zero => simp
  | succ i ih =>
    rw [← ih]
    cases n with
    | zero => rfl
    | succ n =>
      rw [sm, sm_first (fun k => g (i + k)) n]
      have e : g (i + 1 + n) = g (i + 0) := by
        rw [← hp (i + 0)]; congr 1; omega
      rw [e, sm_congr (g := fun k => g (i + (k + 1))) (fun k _ => by congr 1; omega)]
      omega

/-- The direction of u comes ahead of that of v: angles from above 0 to the whole turn. -/
abbrev lt (u v : Pt) : Prop :=
  (0 < u.2 ∧ (v.2 ≤ 0 ∨ 0 < u.1 * v.2 - u.2 * v.1)) ∨ (u.2 = 0 ∧ u.1 < 0 ∧ (v.2 < 0 ∨ (v.2 = 0 ∧ 0 < v.1))) ∨ (u.2 < 0 ∧ ((v.2 < 0 ∧ 0 < u.1 * v.2 - u.2 * v.1) ∨ (v.2 = 0 ∧ 0 < v.1)))
def sub (a b : Pt) : Pt := (a.1 - b.1, a.2 - b.2)
/-- A and C lie on one side of B, on one line. -/
def Fold (B A C : Pt) : Prop := D B A C = 0 ∧ 0 < (A.1 - B.1) * (C.1 - B.1) + (A.2 - B.2) * (C.2 - B.2)
/-- 1 where the way out comes ahead of the way in. -/
def ahead (A B C : Pt) : Int := if lt (sub C B) (sub A B) then 1 else 0
def kap (B C : Pt) : Int := if B.2 < C.2 ∨ (B.2 = C.2 ∧ C.1 < B.1) then 1 else 0

theorem cross_eq (A B C : Pt) : (sub C B).1 * (sub A B).2 - (sub C B).2 * (sub A B).1 = D B C A := by unfold sub D; grind
theorem D_rot (a b c : Pt) : D a b c = D b c a := by unfold D; grind

theorem sq_nn (x : Rat) : 0 ≤ x * x := by
  rcases Rat.le_total (a := 0) (b := x) with h | h
  · exact nn_mul h h
  · have := nn_mul (show 0 ≤ -x by grind) (show 0 ≤ -x by grind)
    grind
theorem sq_pos {x : Rat} (h : x ≠ 0) : 0 < x * x := by
  rcases Rat.le_total (a := 0) (b := x) with h1 | h1
  · exact pos_mul (by grind) (by grind)
  · have := pos_mul (show 0 < -x by grind) (show 0 < -x by grind)
    grind
/-- On one line, both above or both below: on one side. -/
theorem fold_of {A B C : Pt} (h : D B A C = 0) (hp : 0 < (A.2 - B.2) * (C.2 - B.2)) : Fold B A C := by
  refine ⟨h, pos_of_mul (a := (A.2 - B.2) * (C.2 - B.2)) hp ?_⟩
  have k1 := sq_nn ((A.2 - B.2) * (C.1 - B.1))
  have k2 := sq_pos (x := (A.2 - B.2) * (C.2 - B.2)) (by grind)
  have e : (A.1 - B.1) * (C.2 - B.2) = (A.2 - B.2) * (C.1 - B.1) := by unfold D at h; grind
  have e2 : (A.2 - B.2) * (C.2 - B.2) * ((A.1 - B.1) * (C.1 - B.1) + (A.2 - B.2) * (C.2 - B.2)) = ((A.2 - B.2) * (C.1 - B.1)) * ((A.1 - B.1) * (C.2 - B.2)) + ((A.2 - B.2) * (C.2 - B.2)) * ((A.2 - B.2) * (C.2 - B.2)) := by grind
  rw [e2, e]
  grind

theorem fold_along {A B C : Pt} (h1 : A.2 = B.2) (h2 : C.2 = B.2) (hp : 0 < (B.1 - A.1) * (B.1 - C.1)) : Fold B A C := by
  have e1 : A.2 - B.2 = 0 := by grind
  have e2 : C.2 - B.2 = 0 := by grind
  refine ⟨?_, ?_⟩
  · unfold D; rw [e1, e2]; grind
  · rw [e1, e2]; grind

/-- At an edge's beginning. -/
theorem begins (A B C : Pt) (hB : B ≠ C) (hA : A ≠ B) (hf : ¬ Fold B A C) : sw B C A - cr C A B + ahead A B C = kap B C := by
  have hx := cross_eq A B C
  have e1 : D A B C = D B C A := D_rot A B C
  have e2 : D C B A = - D B C A := D_flip B C A
  have e3 : D B A C = - D B C A := by unfold D; grind
  have s1 : (sub C B).2 = C.2 - B.2 := rfl
  have s2 : (sub C B).1 = C.1 - B.1 := rfl
  have s3 : (sub A B).2 = A.2 - B.2 := rfl
  have s4 : (sub A B).1 = A.1 - B.1 := rfl
  unfold ahead lt
  rw [hx]
  unfold sw str cr kap
  rw [e1, e2, s1, s2, s3, s4]
  rcases Rat.le_total (a := B.2) (b := C.2) with hle | hle
  · by_cases hlt : B.2 < C.2
    · -- it goes up
      rw [if_pos hle, if_pos (c := B.2 < C.2 ∨ _) (by grind), if_neg (c := A.2 ≤ C.2 ∧ _) (by grind)]
      by_cases h1 : A.2 ≤ B.2
      · rw [if_neg (by grind), if_neg (by grind), if_pos (by grind)]; rfl
      · have hd : D B C A ≠ 0 := fun e => hf (fold_of (by grind) (pos_mul (by grind) (by grind)))
        by_cases h2 : D B C A < 0
        · rw [if_neg (c := (0 < C.2 - B.2 ∧ _) ∨ _) (by grind)]
          by_cases h3 : A.2 ≤ C.2
          · rw [if_pos (by grind), if_neg (by grind)]; rfl
          · rw [if_neg (by grind), if_pos (by grind)]; rfl
        · rw [if_neg (by grind), if_neg (by grind), if_pos (by grind)]; rfl
    · -- along
      have hy : B.2 = C.2 := by grind
      have hd : D B C A = (C.1 - B.1) * (A.2 - B.2) := by unfold D; grind
      have hne : B.1 ≠ C.1 := fun e => hB (Prod.ext e hy)
      rw [if_pos hle, if_neg (c := B.2 < A.2 ∧ _) (by grind), if_neg (c := A.2 ≤ C.2 ∧ _) (by grind)]
      by_cases hl : C.1 < B.1
      · rw [if_pos (c := B.2 < C.2 ∨ _) (by grind)]
        by_cases h1 : B.2 < A.2
        · have k := pos_mul (show 0 < B.1 - C.1 by grind) (show 0 < A.2 - B.2 by grind)
          rw [if_pos (by grind), if_neg (by grind)]; rfl
        · rw [if_neg (by grind)]
          by_cases h2 : A.2 < B.2
          · rw [if_pos (by grind)]; rfl
          · have hA1 : A.1 ≠ B.1 := fun e => hA (Prod.ext e (by grind))
            have hA2 : B.1 < A.1 := by
              by_cases h3 : B.1 < A.1
              · exact h3
              · exfalso
                have k := pos_mul (show 0 < B.1 - A.1 by grind) (show 0 < B.1 - C.1 by grind)
                exact hf (fold_along (by grind) (by grind) k)
            rw [if_pos (by grind)]; rfl
      · rw [if_neg (c := B.2 < C.2 ∨ _) (by grind), if_neg (c := (0 < C.2 - B.2 ∧ _) ∨ _) (by grind)]
        by_cases h1 : B.2 < A.2
        · have k := pos_mul (show 0 < C.1 - B.1 by grind) (show 0 < A.2 - B.2 by grind)
          rw [if_neg (by grind)]; rfl
        · rw [if_neg (by grind)]; rfl
  · by_cases hlt : C.2 < B.2
    · -- it goes down
      rw [if_neg (c := B.2 ≤ C.2) (by grind), if_neg (c := B.2 < C.2 ∨ _) (by grind), if_neg (c := B.2 ≤ C.2 ∧ _) (by grind)]
      by_cases h1 : B.2 < A.2
      · rw [if_neg (by grind), if_neg (by grind), if_neg (by grind)]; rfl
      · by_cases h2 : A.2 = B.2
        · have hd : D B C A = (B.2 - C.2) * (A.1 - B.1) := by unfold D; grind
          have hA1 : A.1 ≠ B.1 := fun e => hA (Prod.ext e h2)
          by_cases h3 : B.1 < A.1
          · have k := pos_mul (show 0 < B.2 - C.2 by grind) (show 0 < A.1 - B.1 by grind)
            rw [if_pos (by grind), if_neg (by grind), if_pos (by grind)]; rfl
          · have k := pos_mul (show 0 < B.2 - C.2 by grind) (show 0 < B.1 - A.1 by grind)
            rw [if_neg (by grind), if_neg (by grind), if_neg (by grind)]; rfl
        · have hd : D B C A ≠ 0 := fun e => hf (fold_of (by grind) (by have := pos_mul (show 0 < B.2 - A.2 by grind) (show 0 < B.2 - C.2 by grind); grind))
          by_cases h3 : 0 < D B C A
          · rw [if_pos (c := (0 < C.2 - B.2 ∧ _) ∨ _) (by grind)]
            by_cases h4 : C.2 < A.2
            · rw [if_pos (by grind), if_neg (by grind)]; rfl
            · rw [if_neg (by grind), if_pos (by grind)]; rfl
          · rw [if_neg (by grind), if_neg (by grind), if_neg (by grind)]; rfl
    · -- along: as above
      have hy : B.2 = C.2 := by grind
      have hd : D B C A = (C.1 - B.1) * (A.2 - B.2) := by unfold D; grind
      have hne : B.1 ≠ C.1 := fun e => hB (Prod.ext e hy)
      rw [if_pos (c := B.2 ≤ C.2) (by grind), if_neg (c := B.2 < A.2 ∧ _) (by grind), if_neg (c := A.2 ≤ C.2 ∧ _) (by grind)]
      by_cases hl : C.1 < B.1
      · rw [if_pos (c := B.2 < C.2 ∨ _) (by grind)]
        by_cases h1 : B.2 < A.2
        · have k := pos_mul (show 0 < B.1 - C.1 by grind) (show 0 < A.2 - B.2 by grind)
          rw [if_pos (by grind), if_neg (by grind)]; rfl
        · rw [if_neg (by grind)]
          by_cases h2 : A.2 < B.2
          · rw [if_pos (by grind)]; rfl
          · have hA1 : A.1 ≠ B.1 := fun e => hA (Prod.ext e (by grind))
            have hA2 : B.1 < A.1 := by
              by_cases h3 : B.1 < A.1
              · exact h3
              · exfalso
                have k := pos_mul (show 0 < B.1 - A.1 by grind) (show 0 < B.1 - C.1 by grind)
                exact hf (fold_along (by grind) (by grind) k)
            rw [if_pos (by grind)]; rfl
      · rw [if_neg (c := B.2 < C.2 ∨ _) (by grind), if_neg (c := (0 < C.2 - B.2 ∧ _) ∨ _) (by grind)]
        by_cases h1 : B.2 < A.2
        · have k := pos_mul (show 0 < C.1 - B.1 by grind) (show 0 < A.2 - B.2 by grind)
          rw [if_neg (by grind)]; rfl
        · rw [if_neg (by grind)]; rfl

/-- At an edge's end. -/
theorem ends (B C E : Pt) (hB : B ≠ C) (hE : E ≠ C) (hf : ¬ Fold C B E) : sw B C E - cr B C E + ahead B C E = kap B C := by
  have hx := cross_eq B C E
  have e1 : D C E B = D B C E := (D_rot B C E).symm
  have e2 : D C B E = - D B C E := D_flip B C E
  have s1 : (sub E C).2 = E.2 - C.2 := rfl
  have s2 : (sub E C).1 = E.1 - C.1 := rfl
  have s3 : (sub B C).2 = B.2 - C.2 := rfl
  have s4 : (sub B C).1 = B.1 - C.1 := rfl
  unfold ahead lt
  rw [hx]
  unfold sw str cr kap
  rw [e1, e2, s1, s2, s3, s4]
  by_cases hup : B.2 < C.2
  · rw [if_pos (c := B.2 ≤ C.2) (by grind), if_pos (c := B.2 < C.2 ∨ _) (by grind), if_neg (c := C.2 ≤ B.2 ∧ _) (by grind)]
    by_cases h1 : C.2 < E.2
    · rw [if_neg (by grind), if_neg (by grind), if_pos (by grind)]; rfl
    · by_cases h2 : E.2 = C.2
      · have hd : D B C E = (C.2 - B.2) * (C.1 - E.1) := by unfold D; grind
        have hE1 : E.1 ≠ C.1 := fun e => hE (Prod.ext e h2)
        by_cases h3 : E.1 < C.1
        · have k := pos_mul (show 0 < C.2 - B.2 by grind) (show 0 < C.1 - E.1 by grind)
          rw [if_neg (by grind), if_neg (by grind), if_pos (by grind)]; rfl
        · have k := pos_mul (show 0 < C.2 - B.2 by grind) (show 0 < E.1 - C.1 by grind)
          rw [if_pos (by grind), if_neg (by grind), if_neg (by grind)]; rfl
      · have hd : D B C E ≠ 0 := fun e => hf (fold_of (by grind) (by have := pos_mul (show 0 < C.2 - B.2 by grind) (show 0 < C.2 - E.2 by grind); grind))
        by_cases h3 : D B C E < 0
        · rw [if_neg (c := (0 < E.2 - C.2 ∧ _) ∨ _) (by grind)]
          by_cases h4 : B.2 < E.2
          · rw [if_pos (by grind), if_neg (by grind)]; rfl
          · rw [if_neg (by grind), if_pos (by grind)]; rfl
        · rw [if_neg (by grind), if_neg (by grind), if_pos (by grind)]; rfl
  · by_cases hdn : C.2 < B.2
    · rw [if_neg (c := B.2 ≤ C.2) (by grind), if_neg (c := B.2 < C.2 ∨ _) (by grind), if_neg (c := E.2 ≤ B.2 ∧ _) (by grind)]
      by_cases h1 : E.2 ≤ C.2
      · rw [if_neg (by grind), if_neg (by grind), if_neg (by grind)]; rfl
      · by_cases h2 : 0 < D B C E
        · rw [if_pos (c := (0 < E.2 - C.2 ∧ _) ∨ _) (by grind)]
          by_cases h3 : E.2 ≤ B.2
          · rw [if_pos (by grind), if_neg (by grind)]; rfl
          · rw [if_neg (by grind), if_pos (by grind)]; rfl
        · rw [if_neg (by grind), if_neg (by grind), if_neg (by grind)]; rfl
    · have hy : B.2 = C.2 := by grind
      have hd : D B C E = (C.1 - B.1) * (E.2 - B.2) := by unfold D; grind
      have hne : B.1 ≠ C.1 := fun e => hB (Prod.ext e hy)
      rw [if_pos (c := B.2 ≤ C.2) (by grind), if_neg (c := B.2 < E.2 ∧ _) (by grind), if_neg (c := E.2 ≤ B.2 ∧ _) (by grind)]
      by_cases hl : C.1 < B.1
      · rw [if_pos (c := B.2 < C.2 ∨ _) (by grind)]
        by_cases h1 : B.2 < E.2
        · have k := pos_mul (show 0 < B.1 - C.1 by grind) (show 0 < E.2 - B.2 by grind)
          rw [if_neg (by grind), if_pos (by grind)]; rfl
        · rw [if_neg (by grind)]
          by_cases h2 : E.2 < B.2
          · rw [if_pos (by grind)]; rfl
          · have hE1 : E.1 ≠ C.1 := fun e => hE (Prod.ext e (by grind))
            have hE2 : E.1 < C.1 := by
              by_cases h3 : E.1 < C.1
              · exact h3
              · exfalso
                have k := pos_mul (show 0 < B.1 - C.1 by grind) (show 0 < E.1 - C.1 by grind)
                exact hf (fold_along (by grind) (by grind) (by grind))
            rw [if_pos (by grind)]; rfl
      · rw [if_neg (c := B.2 < C.2 ∨ _) (by grind)]
        by_cases h1 : B.2 < E.2
        · have k := pos_mul (show 0 < C.1 - B.1 by grind) (show 0 < E.2 - B.2 by grind)
          rw [if_pos (by grind), if_pos (by grind)]; rfl
        · rw [if_neg (by grind)]
          by_cases h2 : E.2 < B.2
          · rw [if_neg (by grind)]; rfl
          · have hE1 : E.1 ≠ C.1 := fun e => hE (Prod.ext e (by grind))
            have hE2 : C.1 < E.1 := by
              by_cases h3 : C.1 < E.1
              · exact h3
              · exfalso
                have k := pos_mul (show 0 < C.1 - B.1 by grind) (show 0 < C.1 - E.1 by grind)
                exact hf (fold_along (by grind) (by grind) (by grind))
            rw [if_neg (by grind)]; rfl

/-- A ring: its points one behind another, again and again; edges that follow one another do not fold back, others share no point. -/
structure Ring (v : Nat → Pt) (n : Nat) : Prop where
  three : 3 ≤ n
  per : ∀ k, v (k + n) = v k
  ne : ∀ k, v k ≠ v (k + 1)
  nf : ∀ k, ¬ Fold (v (k + 1)) (v k) (v (k + 2))
  nm : ∀ i t, 2 ≤ t → t + 2 ≤ n → ¬ Mt (v i) (v (i + 1)) (v (i + t)) (v (i + t + 1))

/-- How often the ring winds around q. -/
def wind (v : Nat → Pt) (n : Nat) (q : Pt) : Int := sm (fun j => cr q (v j) (v (j + 1))) n

theorem wind_from {v : Nat → Pt} {n : Nat} (R : Ring v n) (q : Pt) (i : Nat) : wind v n q = sm (fun t => cr q (v (i + t)) (v (i + t + 1))) n := by
  unfold wind
  exact (sm_shift (fun j => cr q (v j) (v (j + 1))) n (fun k => by
    have e : v (k + n + 1) = v (k + 1) := by rw [show k + n + 1 = k + 1 + n by omega]; exact R.per _
    simp only [R.per, e]) i).symm

theorem cr_begin (a b : Pt) : cr a a b = 0 := by
  have h : D a b a = 0 := by unfold D; grind
  unfold cr; rw [h, if_neg (by grind), if_neg (by grind)]
theorem cr_end (a b : Pt) : cr b a b = 0 := by
  have h : D a b b = 0 := by unfold D; grind
  unfold cr; rw [h, if_neg (by grind), if_neg (by grind)]

/-- From one vertex to the next: what is to the left stays what it was. -/
theorem left_same {v : Nat → Pt} {n : Nat} (R : Ring v n) (i : Nat) :
    wind v n (v (i + 1)) + ahead (v i) (v (i + 1)) (v (i + 2)) = wind v n (v (i + 2)) + ahead (v (i + 1)) (v (i + 2)) (v (i + 3)) := by
  -- B = v (i + 1), C = v (i + 2), A = v i, E = v (i + 3)
  have hb := begins (v i) (v (i + 1)) (v (i + 2)) (R.ne _) (R.ne _) (R.nf i)
  have he := ends (v (i + 1)) (v (i + 2)) (v (i + 3)) (R.ne _) (fun e => R.ne (i + 2) e.symm) (R.nf (i + 1))
  rw [wind_from R (v (i + 1)) (i + 1), wind_from R (v (i + 2)) (i + 1)]
  obtain ⟨m, rfl⟩ : ∃ m, n = m + 3 := ⟨n - 3, by have := R.three; omega⟩
  -- the first two, those between, the last
  have part : ∀ f : Nat → Int, sm f (m + 3) = f 0 + f 1 + sm (fun k => f (k + 2)) m + f (m + 2) := by
    intro f
    rw [show m + 3 = (m + 2) + 1 from rfl, sm, sm_first f (m + 1), sm_first (fun k => f (k + 1)) m]
    show f 0 + (f 1 + sm (fun k => f (k + 2)) m) + f (m + 2) = _
    omega
  rw [part, part]
  have far : sm (fun k => cr (v (i + 1)) (v (i + 1 + (k + 2))) (v (i + 1 + (k + 2) + 1))) m - sm (fun k => cr (v (i + 2)) (v (i + 1 + (k + 2))) (v (i + 1 + (k + 2) + 1))) m = sw (v (i + 1)) (v (i + 2)) (v (i + 3 + m)) - sw (v (i + 1)) (v (i + 2)) (v (i + 3 + 0)) := by
    rw [← sm_sub, ← sm_tele (fun k => sw (v (i + 1)) (v (i + 2)) (v (i + 3 + k))) m]
    refine sm_congr (fun k hk => ?_)
    have hn := R.nm (i + 1) (k + 2) (by omega) (by omega)
    have e1 : i + 1 + (k + 2) = i + 3 + k := by omega
    have e2 : i + 1 + (k + 2) + 1 = i + 3 + (k + 1) := by omega
    rw [e1] at hn ⊢
    rw [show i + 3 + k + 1 = i + 3 + (k + 1) by omega] at hn ⊢
    exact sweep hn
  have l1 : v (i + 3 + m) = v i := by rw [show i + 3 + m = i + (m + 3) by omega]; exact R.per i
  have l2 : v (i + 1 + (m + 2)) = v i := by rw [show i + 1 + (m + 2) = i + (m + 3) by omega]; exact R.per i
  have l3 : v (i + 1 + (m + 2) + 1) = v (i + 1) := by rw [show i + 1 + (m + 2) + 1 = i + 1 + (m + 3) by omega]; exact R.per (i + 1)
  rw [l1] at far
  rw [l2, l3]
  have z1 := cr_begin (v (i + 1)) (v (i + 2))
  have z2 := cr_end (v (i + 1)) (v (i + 2))
  have z3 := cr_begin (v (i + 2)) (v (i + 3))
  have z4 := cr_end (v i) (v (i + 1))
  simp only [Nat.add_zero, Nat.add_assoc, Nat.reduceAdd] at *
  omega
end Jor
end Go.Proofs.Ytdkaoopkbhaheaa
