import Derived.Test.YtdkaoopkbhaheaaGreatQN8
import Derived.Test.YtdkaoopkbhaheaaGreatPM21
namespace Go.Proofs.YtdkaoopkbhaheaaGreat
open Go.RowKit Go.Lib
open Jor
set_option linter.unusedVariables false
set_option linter.unusedSimpArgs false
theorem sqW_eq (a b : Int) (ha : -2097152 ≤ a ∧ a ≤ 2097152) (hb : -2097152 ≤ b ∧ b ≤ 2097152) : squareW a b = a * a + b * b ∧ 0 ≤ squareW a b ∧ squareW a b ≤ 8796093022208 := by
  have k1 := mul_bd a a 2097152 2097152 (by omega) ha ha
  have k2 := mul_bd b b 2097152 2097152 (by omega) hb hb
  have n1 := sq_nonneg_int a
  have n2 := sq_nonneg_int b
  unfold squareW
  rw [wrap64_in (a * a) (by omega) (by omega), wrap64_in (b * b) (by omega) (by omega), wrap64_in _ (by omega) (by omega)]
  omega
def incI (a b v w : IP) : Int := ((a.1 - w.1) * (a.1 - w.1) + (a.2 - w.2) * (a.2 - w.2)) * DI b v w + ((b.1 - w.1) * (b.1 - w.1) + (b.2 - w.2) * (b.2 - w.2)) * DI v a w + ((v.1 - w.1) * (v.1 - w.1) + (v.2 - w.2) * (v.2 - w.2)) * DI a b w
theorem inc_toR (a b v w : IP) : inc (toR a) (toR b) (toR v) (toR w) = ((incI a b v w : Int) : Rat) := by
  unfold inc q2 incI
  rw [D_toR, D_toR, D_toR]
  simp only [toR, Rat.intCast_add, Rat.intCast_mul, Rat.intCast_sub]
theorem circleW_eq (a b c d : IP) (ha : nearP a) (hb : nearP b) (hc : nearP c) (hd : nearP d) : circleW a.1 a.2 b.1 b.2 c.1 c.2 d.1 d.2 = sgn (incI a b c d) := by
  have ha := near_bd ha
  have hb := near_bd hb
  have hc := near_bd hc
  have hd := near_bd hd
  unfold circleW part1
  rw [wrap64_in (a.1 - d.1) (by omega) (by omega), wrap64_in (a.2 - d.2) (by omega) (by omega), wrap64_in (b.1 - d.1) (by omega) (by omega), wrap64_in (b.2 - d.2) (by omega) (by omega), wrap64_in (c.1 - d.1) (by omega) (by omega), wrap64_in (c.2 - d.2) (by omega) (by omega)]
  have s1 := sqW_eq (a.1 - d.1) (a.2 - d.2) (by omega) (by omega)
  have s2 := sqW_eq (b.1 - d.1) (b.2 - d.2) (by omega) (by omega)
  have s3 := sqW_eq (c.1 - d.1) (c.2 - d.2) (by omega) (by omega)
  have t1 := crossW_eq (b.1 - d.1) (b.2 - d.2) (c.1 - d.1) (c.2 - d.2) (by omega) (by omega) (by omega) (by omega)
  have t2 := crossW_eq (c.1 - d.1) (c.2 - d.2) (a.1 - d.1) (a.2 - d.2) (by omega) (by omega) (by omega) (by omega)
  have t3 := crossW_eq (a.1 - d.1) (a.2 - d.2) (b.1 - d.1) (b.2 - d.2) (by omega) (by omega) (by omega) (by omega)
  have bd : ∀ x y z u : Int, (-2097152 ≤ x ∧ x ≤ 2097152) → (-2097152 ≤ y ∧ y ≤ 2097152) → (-2097152 ≤ z ∧ z ≤ 2097152) → (-2097152 ≤ u ∧ u ≤ 2097152) → -8796093022208 ≤ x * u - y * z ∧ x * u - y * z ≤ 8796093022208 := fun x y z u hx hy hz hu => by
    have k1 := mul_bd x u 2097152 2097152 (by omega) hx hu
    have k2 := mul_bd y z 2097152 2097152 (by omega) hy hz
    omega
  have u1 := bd (b.1 - d.1) (b.2 - d.2) (c.1 - d.1) (c.2 - d.2) (by omega) (by omega) (by omega) (by omega)
  have u2 := bd (c.1 - d.1) (c.2 - d.2) (a.1 - d.1) (a.2 - d.2) (by omega) (by omega) (by omega) (by omega)
  have u3 := bd (a.1 - d.1) (a.2 - d.2) (b.1 - d.1) (b.2 - d.2) (by omega) (by omega) (by omega) (by omega)
  rw [← t1] at u1
  rw [← t2] at u2
  rw [← t3] at u3
  have m1 := mul_bd (crossW (b.1 - d.1) (b.2 - d.2) (c.1 - d.1) (c.2 - d.2)) (squareW (a.1 - d.1) (a.2 - d.2)) 8796093022208 8796093022208 (by omega) u1 (by omega)
  have m2 := mul_bd (crossW (c.1 - d.1) (c.2 - d.2) (a.1 - d.1) (a.2 - d.2)) (squareW (b.1 - d.1) (b.2 - d.2)) 8796093022208 8796093022208 (by omega) u2 (by omega)
  have m3 := mul_bd (crossW (a.1 - d.1) (a.2 - d.2) (b.1 - d.1) (b.2 - d.2)) (squareW (c.1 - d.1) (c.2 - d.2)) 8796093022208 8796093022208 (by omega) u3 (by omega)
  rw [wrap128_in _ (by omega) (by omega), s1.1, s2.1, s3.1, t1, t2, t3]
  congr 1
  unfold incI DI Geo.D
  grind
theorem sgn_pos_iff (x : Int) : 0 < sgn x ↔ 0 < x := by have := sgn_cases x; omega
theorem sgn_nn_iff (x : Int) : 0 ≤ sgn x ↔ 0 ≤ x := by have := sgn_cases x; omega
theorem meetB_iff (a b c d : IP) (ha : nearP a) (hb : nearP b) (hc : nearP c) (hd : nearP d) : meetB a.1 a.2 b.1 b.2 c.1 c.2 d.1 d.2 = true ↔ MtI a b c d := by
  unfold meetB overlapB oneSideB MtI DI Geo.Over
  rw [turnW_eq _ _ _ _ _ _ ha hb hc, turnW_eq _ _ _ _ _ _ ha hb hd, turnW_eq _ _ _ _ _ _ hc hd ha, turnW_eq _ _ _ _ _ _ hc hd hb]
  simp only [Bool.and_eq_true, Bool.not_eq_true', decide_eq_true_eq, decide_eq_false_iff_not, sgn_same, and_assoc]
section
variable {V : Nat → IP} {n : Nat} (near : ∀ i, i < n → nearP (V i))
include near
theorem leftB_iff {i j v : Nat} (hi : i < n) (hj : j < n) (hv : v < n) : leftB V i j v = true ↔ 0 < D (toR (V i)) (toR (V j)) (toR (V v)) := by
  unfold leftB
  rw [turnW_eq _ _ _ _ _ _ (near i hi) (near j hj) (near v hv), decide_eq_true_iff, sgn_pos_iff, D_toR, pos_toR]
  rfl
theorem nearerB_iff {i j v o : Nat} (hi : i < n) (hj : j < n) (hv : v < n) (ho : o < n) : nearerB V i j v o = true ↔ 0 < inc (toR (V i)) (toR (V j)) (toR (V o)) (toR (V v)) := by
  unfold nearerB
  rw [circleW_eq _ _ _ _ (near i hi) (near j hj) (near o ho) (near v hv), decide_eq_true_iff, sgn_pos_iff, inc_toR, pos_toR]
theorem tw_nn {i j : Nat} {p : IP} (hi : i < n) (hj : j < n) (hp : nearP p) : 0 ≤ tw V i j p ↔ 0 ≤ D (toR (V i)) (toR (V j)) (toR p) := by
  unfold tw
  rw [turnW_eq _ _ _ _ _ _ (near i hi) (near j hj) hp, sgn_nn_iff, D_toR]
  exact (le_toR 0 _).symm
theorem coverB_iff {i j k : Nat} {p : IP} (hi : i < n) (hj : j < n) (hk : k < n) (hp : nearP p) : coverB V i j k p = true ↔ Tri (toR p) (toR (V i)) (toR (V j)) (toR (V k)) := by
  unfold coverB Tri
  rw [decide_eq_true_iff, tw_nn near hi hj hp, tw_nn near hj hk hp, tw_nn near hk hi hp]
theorem crossB_iff {i j k l : Nat} (hi : i < n) (hj : j < n) (hk : k < n) (hl : l < n) : crossB V i j k l = true ↔ (i ≠ k ∧ i ≠ l ∧ j ≠ k ∧ j ≠ l) ∧ Mt (toR (V i)) (toR (V j)) (toR (V k)) (toR (V l)) := by
  unfold crossB
  rw [Mt_toR, ← meetB_iff _ _ _ _ (near i hi) (near j hj) (near k hk) (near l hl)]
  by_cases h : i = k ∨ i = l ∨ j = k ∨ j = l
  · rw [if_pos h]
    constructor
    · intro h; cases h
    · intro g; exfalso; omega
  · rw [if_neg h]
    constructor
    · intro g; exact ⟨by omega, g⟩
    · exact fun g => g.2
theorem clear_iff {K : Nat → Nat → Prop} {E : Nat → Nat × Nat} {m : Nat} (hE : ∀ u, u < m → (E u).1 < n ∧ (E u).2 < n) (ek : ∀ u, u < m → K (E u).1 (E u).2 ∨ K (E u).2 (E u).1) (ke : ∀ a b, K a b → ∃ u, u < m ∧ (E u = (a, b) ∨ E u = (b, a)))
    {i j v : Nat} (hi : i < n) (hj : j < n) (hv : v < n) : (leftB V i j v = true ∧ clearB V n E m i j v = true) ↔ Clear (fun i => toR (V i)) n K i j v := by
  have hold : anyB n (fun w => holdB V i j v w) = false ↔ ∀ w, w < n → w ≠ i → w ≠ j → w ≠ v → ¬ Tri (toR (V w)) (toR (V i)) (toR (V j)) (toR (V v)) := by
    constructor
    · intro h w hw h1 h2 h3 t
      have : anyB n (fun w => holdB V i j v w) = true := anyB_true.2 ⟨w, hw, by
        unfold holdB in3
        rw [(coverB_iff near hi hj hv (near w hw)).2 t]
        simp; omega⟩
      rw [h] at this; cases this
    · intro h
      refine anyB_false fun w hw => ?_
      cases q : holdB V i j v w
      · rfl
      · exfalso
        unfold holdB in3 at q
        simp only [Bool.and_eq_true, Bool.not_eq_true', decide_eq_false_iff_not] at q
        exact h w hw (fun e => q.1 (.inl e)) (fun e => q.1 (.inr (.inl e))) (fun e => q.1 (.inr (.inr e))) ((coverB_iff near hi hj hv (near w hw)).1 q.2)
  have crs : ∀ x y c d, x < n → y < n → c < n → d < n → (crossB V x y c d = false ↔ (c ≠ x → d ≠ x → c ≠ y → d ≠ y → ¬ Mt (toR (V x)) (toR (V y)) (toR (V c)) (toR (V d)))) := by
    intro x y c d hx hy hc hd
    have := crossB_iff near hx hy hc hd
    constructor
    · intro h h1 h2 h3 h4 t
      have := this.2 ⟨⟨Ne.symm h1, Ne.symm h2, Ne.symm h3, Ne.symm h4⟩, t⟩
      rw [h] at this; cases this
    · intro h
      cases q : crossB V x y c d
      · rfl
      · obtain ⟨⟨a1, a2, a3, a4⟩, a5⟩ := this.1 q
        exact absurd a5 (h (Ne.symm a1) (Ne.symm a2) (Ne.symm a3) (Ne.symm a4))
  have cross : anyB m (fun u => crossedT V i j v (E u).1 (E u).2) = false ↔ ∀ u, u < m → crossB V i j (E u).1 (E u).2 = false ∧ crossB V j v (E u).1 (E u).2 = false ∧ crossB V v i (E u).1 (E u).2 = false := by
    constructor
    · intro h u hu
      have hc : crossedT V i j v (E u).1 (E u).2 = false := by
        cases q : crossedT V i j v (E u).1 (E u).2
        · rfl
        · have : anyB m (fun u => crossedT V i j v (E u).1 (E u).2) = true := anyB_true.2 ⟨u, hu, q⟩
          rw [h] at this; cases this
      unfold crossedT at hc
      simp only [decide_eq_false_iff_not, not_or, Bool.not_eq_true] at hc
      exact hc
    · intro h
      refine anyB_false fun u hu => ?_
      unfold crossedT
      simp only [decide_eq_false_iff_not, not_or, Bool.not_eq_true]
      exact h u hu
  have cl : clearB V n E m i j v = true ↔ anyB n (fun w => holdB V i j v w) = false ∧ anyB m (fun u => crossedT V i j v (E u).1 (E u).2) = false := by
    unfold clearB
    simp only [Bool.and_eq_true, Bool.not_eq_true']
  rw [cl, hold, cross, leftB_iff near hi hj hv]
  constructor
  · rintro ⟨h1, h2, h3⟩
    have side : ∀ x y, x < n → y < n → (∀ u, u < m → crossB V x y (E u).1 (E u).2 = false) → ∀ c d, K c d → c ≠ x → d ≠ x → c ≠ y → d ≠ y → ¬ Mt (toR (V x)) (toR (V y)) (toR (V c)) (toR (V d)) := by
      intro x y hx hy h c d k q1 q2 q3 q4
      obtain ⟨u, hu, e | e⟩ := ke c d k
      · have g := h u hu
        have hn := hE u hu
        rw [e] at g hn
        exact (crs x y c d hx hy hn.1 hn.2).1 g q1 q2 q3 q4
      · have g := h u hu
        have hn := hE u hu
        rw [e] at g hn
        exact fun t => (crs x y d c hx hy hn.1 hn.2).1 g q2 q1 q4 q3 ((Mt_flip _ _ _ _).1 t)
    exact ⟨hv, h1, h2, side i j hi hj (fun u hu => (h3 u hu).1), side j v hj hv (fun u hu => (h3 u hu).2.1), side v i hv hi (fun u hu => (h3 u hu).2.2)⟩
  · intro C
    refine ⟨C.left, C.free, fun u hu => ?_⟩
    have hn := hE u hu
    refine ⟨(crs _ _ _ _ hi hj hn.1 hn.2).2 fun q1 q2 q3 q4 => ?_, (crs _ _ _ _ hj hv hn.1 hn.2).2 fun q1 q2 q3 q4 => ?_, (crs _ _ _ _ hv hi hn.1 hn.2).2 fun q1 q2 q3 q4 => ?_⟩
    · rcases ek u hu with k | k
      · exact C.s1 _ _ k q1 q2 q3 q4
      · exact fun t => C.s1 _ _ k q2 q1 q4 q3 ((Mt_flip _ _ _ _).1 t)
    · rcases ek u hu with k | k
      · exact C.s2 _ _ k q1 q2 q3 q4
      · exact fun t => C.s2 _ _ k q2 q1 q4 q3 ((Mt_flip _ _ _ _).1 t)
    · rcases ek u hu with k | k
      · exact C.s3 _ _ k q1 q2 q3 q4
      · exact fun t => C.s3 _ _ k q2 q1 q4 q3 ((Mt_flip _ _ _ _).1 t)
theorem bst_ok {K : Nat → Nat → Prop} {E : Nat → Nat × Nat} {m : Nat} (hE : ∀ u, u < m → (E u).1 < n ∧ (E u).2 < n) (ek : ∀ u, u < m → K (E u).1 (E u).2 ∨ K (E u).2 (E u).1) (ke : ∀ a b, K a b → ∃ u, u < m ∧ (E u = (a, b) ∨ E u = (b, a)))
    {i j : Nat} (hi : i < n) (hj : j < n) : ∀ q, q ≤ n → match bst V n E m i j q with
      | none => ∀ z, z < q → ¬ Clear (fun i => toR (V i)) n K i j z
      | some u => u < q ∧ Clear (fun i => toR (V i)) n K i j u ∧ ∀ z, z < q → Clear (fun i => toR (V i)) n K i j z → inc (toR (V i)) (toR (V j)) (toR (V u)) (toR (V z)) ≤ 0 := by
  intro q
  induction q with
  | zero => intro _ z h; omega
  | succ q ih =>
    intro hq
    have ih := ih (by omega)
    have ci := clear_iff near hE ek ke hi hj (show q < n by omega)
    have self : inc (toR (V i)) (toR (V j)) (toR (V q)) (toR (V q)) ≤ 0 := by
      have : inc (toR (V i)) (toR (V j)) (toR (V q)) (toR (V q)) = 0 := by unfold inc q2 D; grind
      rw [this]; exact Rat.le_refl
    unfold bst
    cases hb : bst V n E m i j q with
    | none =>
      rw [hb] at ih
      simp only at ih ⊢
      by_cases c : leftB V i j q = true ∧ clearB V n E m i j q = true
      · rw [if_pos (by simp [c.1, c.2])]
        refine ⟨by omega, ci.1 c, fun z hz Cz => ?_⟩
        rcases Nat.lt_or_ge z q with h | h
        · exact absurd Cz (ih z h)
        · have : z = q := by omega
          subst this; exact self
      · rw [if_neg (by simpa [Bool.and_eq_true] using c)]
        intro z hz Cz
        rcases Nat.lt_or_ge z q with h | h
        · exact ih z h Cz
        · have : z = q := by omega
          subst this; exact c (ci.2 Cz)
    | some u =>
      rw [hb] at ih
      simp only at ih ⊢
      obtain ⟨hu, Cu, best⟩ := ih
      by_cases c : leftB V i j q = true ∧ clearB V n E m i j q = true
      · cases hn : nearerB V i j q u
        · rw [if_neg (by simp)]
          refine ⟨by omega, Cu, fun z hz Cz => ?_⟩
          rcases Nat.lt_or_ge z q with h | h
          · exact best z h Cz
          · have : z = q := by omega
            subst this
            refine Rat.not_lt.1 fun g => ?_
            have := (nearerB_iff near hi hj (by omega) (by omega)).2 g
            rw [hn] at this; cases this
        · rw [if_pos (by simp [c.1, c.2])]
          have g := (nearerB_iff near hi hj (show q < n by omega) (show u < n by omega)).1 hn
          refine ⟨by omega, ci.1 c, fun z hz Cz => ?_⟩
          rcases Nat.lt_or_ge z q with h | h
          · exact inc_trans Cu.left (ci.1 c).left Cz.left (best z h Cz) g
          · have : z = q := by omega
            subst this; exact self
      · rw [if_neg (by
          intro h
          simp only [Bool.and_eq_true] at h
          exact c ⟨h.1, h.2.2⟩)]
        refine ⟨by omega, Cu, fun z hz Cz => ?_⟩
        rcases Nat.lt_or_ge z q with h | h
        · exact best z h Cz
        · have : z = q := by omega
          subst this
          exact absurd (ci.2 Cz) c
end
end Go.Proofs.YtdkaoopkbhaheaaGreat
