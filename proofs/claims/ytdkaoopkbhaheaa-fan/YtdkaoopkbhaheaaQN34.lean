/- Points on a bend: a polygon without dents, and its one mesh. -/
import Derived.Test.YtdkaoopkbhaheaaPN22
namespace Go.Proofs.Ytdkaoopkbhaheaa
open Go.RowKit Go.Lib
open Jor
open scoped Classical
set_option linter.unusedVariables false
set_option linter.unusedSimpArgs false

/-- The point of the bend at x. -/
def bend (x : Nat) : IP := ((x : Int), (x : Int) * x)
theorem bend_DI (a b c : Nat) : DI (bend a) (bend b) (bend c) = ((b : Int) - a) * ((c : Int) - a) * ((c : Int) - b) := by
  unfold DI Geo.D bend
  grind
theorem bend_inc (a b c d : Nat) : incI (bend a) (bend b) (bend c) (bend d) = -(((b : Int) - a) * ((c : Int) - a) * ((c : Int) - b) * (((d : Int) - a) * ((d : Int) - b) * ((d : Int) - c)) * ((a : Int) + b + c + d)) := by
  unfold incI
  rw [bend_DI, bend_DI, bend_DI]
  unfold bend
  grind
theorem mul3_pos {a b c : Int} (ha : 0 < a) (hb : 0 < b) (hc : 0 < c) : 0 < a * b * c := Int.mul_pos (Int.mul_pos ha hb) hc
theorem bend_pos {a b c : Nat} (h1 : a < b) (h2 : b < c) : 0 < DI (bend a) (bend b) (bend c) := by
  rw [bend_DI]
  exact mul3_pos (by omega) (by omega) (by omega)
theorem bend_ne {a b c : Nat} (h1 : a ≠ b) (h2 : b ≠ c) (h3 : a ≠ c) : DI (bend a) (bend b) (bend c) ≠ 0 := by
  rw [bend_DI]
  exact Int.mul_ne_zero (Int.mul_ne_zero (by omega) (by omega)) (by omega)
/-- Which way three points of the bend turn. -/
theorem bend_turn {a b c : Nat} (h : 0 < DI (bend a) (bend b) (bend c)) : (a < b ∧ b < c) ∨ (b < c ∧ c < a) ∨ (c < a ∧ a < b) := by
  rcases Nat.lt_trichotomy a b with h1 | h1 | h1
  · rcases Nat.lt_trichotomy b c with h2 | h2 | h2
    · exact .inl ⟨h1, h2⟩
    · subst h2; rw [bend_DI] at h; simp at h
    · rcases Nat.lt_trichotomy a c with h3 | h3 | h3
      · have := bend_pos h3 h2
        have e : DI (bend a) (bend b) (bend c) = -DI (bend a) (bend c) (bend b) := by rw [bend_DI, bend_DI]; grind
        omega
      · subst h3; rw [bend_DI] at h; simp at h
      · exact .inr (.inr ⟨h3, h1⟩)
  · subst h1; rw [bend_DI] at h; simp at h
  · rcases Nat.lt_trichotomy b c with h2 | h2 | h2
    · rcases Nat.lt_trichotomy a c with h3 | h3 | h3
      · have := bend_pos h1 h3
        have e : DI (bend a) (bend b) (bend c) = -DI (bend b) (bend a) (bend c) := by rw [bend_DI, bend_DI]; grind
        omega
      · subst h3; rw [bend_DI] at h; simp at h
      · exact .inr (.inl ⟨h2, h3⟩)
    · subst h2; rw [bend_DI] at h; simp at h
    · have := bend_pos h2 h1
      have e : DI (bend a) (bend b) (bend c) = -DI (bend c) (bend b) (bend a) := by rw [bend_DI, bend_DI]; grind
      omega
theorem bend_near {x : Nat} (h : x < 60) : nearP (bend x) := by
  have h1 := mul_bd (x : Int) (x : Int) 60 60 (by omega) (by omega) (by omega)
  have h2 : (0 : Int) ≤ (x : Int) * x := Int.mul_nonneg (by omega) (by omega)
  unfold nearP nearB bend
  simp only [Bool.and_eq_true, decide_eq_true_eq]
  omega

section
variable {xs : List Nat} (up : xs.Pairwise (· < ·)) (lt : ∀ x ∈ xs, x < 60)
theorem pt_bend {xs : List Nat} {i : Nat} (h : i < xs.length) : pt (xs.map bend) i = bend (xs.getD i 0) := by
  unfold pt
  rw [getD_elem _ _ _ (by simpa using h), getD_elem _ _ _ h, List.getElem_map]
include up in
theorem up_at {i j : Nat} (h : i < j) (hj : j < xs.length) : xs.getD i 0 < xs.getD j 0 := by
  rw [getD_elem _ _ _ (by omega), getD_elem _ _ _ hj]
  exact List.pairwise_iff_getElem.1 up i j (by omega) hj h
include up in
theorem up_ne {i j : Nat} (h : i ≠ j) (hi : i < xs.length) (hj : j < xs.length) : xs.getD i 0 ≠ xs.getD j 0 := by
  rcases Nat.lt_or_gt_of_ne h with h | h
  · have := up_at up h hj; omega
  · have := up_at up h hi; omega
include up in
theorem up_lt {i j : Nat} (hi : i < xs.length) (hj : j < xs.length) (h : xs.getD i 0 < xs.getD j 0) : i < j := by
  rcases Nat.lt_trichotomy i j with q | q | q
  · exact q
  · subst q; omega
  · have := up_at up q hi; omega
include up in
theorem up_ge : ∀ i, i < xs.length → i ≤ xs.getD i 0 := by
  intro i
  induction i with
  | zero => intro _; omega
  | succ i ih =>
    intro h
    have := ih (by omega)
    have := up_at up (show i < i + 1 by omega) h
    omega
include up lt in
theorem up_len : xs.length ≤ 60 := by
  rcases Nat.eq_zero_or_pos xs.length with h | h
  · omega
  · have h1 := up_ge up (xs.length - 1) (by omega)
    have h2 := lt (xs.getD (xs.length - 1) 0) (by rw [getD_elem _ _ _ (by omega)]; exact List.getElem_mem _)
    omega
include up lt in
theorem bend_chk (h3 : 3 ≤ xs.length) : chkP [xs.map bend] = 0 := by
  have hl : ([xs.map bend] : List (List IP)).flatten = xs.map bend := by simp
  have hle := up_len up lt
  have hr : rg [xs.map bend] 0 = xs.map bend := rfl
  have ho : off [xs.map bend] 0 = 0 := rfl
  have hln : (xs.map bend).length = xs.length := by simp
  have g1 : ¬ Many [xs.map bend] := by unfold Many; simp
  have g2 : ¬ Short [xs.map bend] := by
    rintro ⟨r, hr, h⟩
    rw [List.mem_singleton] at hr
    subst hr
    rw [hln] at h; omega
  have g3 : ¬ Far [xs.map bend] := by
    rintro (h | ⟨v, hv, h⟩)
    · rw [hl, hln] at h; omega
    · rw [hl, List.mem_map] at hv
      obtain ⟨x, hx, rfl⟩ := hv
      exact h (bend_near (lt x hx))
  have g4 : ¬ Twice [xs.map bend] := by
    rintro ⟨i, j, h1, h2, h⟩
    rw [hl] at h h2
    rw [hln] at h2
    rw [pt_bend h2, pt_bend (by omega)] at h
    have := congrArg Prod.fst h
    have := up_at up h1 h2
    unfold bend at *
    simp only at *
    omega
  have nr : ∀ i, i < xs.length → nearP (bend (xs.getD i 0)) := fun i hi => bend_near (lt _ (by rw [getD_elem _ _ _ hi]; exact List.getElem_mem _))
  have nofold : ∀ i j k, i < xs.length → j < xs.length → k < xs.length → i ≠ j → j ≠ k → i ≠ k → foldB (bend (xs.getD i 0)) (bend (xs.getD j 0)) (bend (xs.getD k 0)) = false := by
    intro i j k hi hj hk h1 h2 h4
    unfold foldB
    rw [Bool.or_eq_false_iff]
    constructor
    · rw [Bool.eq_false_iff]
      intro h
      obtain ⟨_, _, _, q⟩ := (meetB_iff _ _ _ _ (nr i hi) (nr i hi) (nr j hj) (nr k hk)).1 h
      have := bend_ne (up_ne up h2 hj hk) (up_ne up (fun e => h4 e.symm) hk hi) (up_ne up (fun e => h1 e.symm) hj hi)
      exact q (by unfold Geo.Same; omega)
    · rw [Bool.eq_false_iff]
      intro h
      obtain ⟨_, _, _, q⟩ := (meetB_iff _ _ _ _ (nr k hk) (nr k hk) (nr i hi) (nr j hj)).1 h
      have := bend_ne (up_ne up h1 hi hj) (up_ne up h2 hj hk) (up_ne up h4 hi hk)
      exact q (by unfold Geo.Same; omega)
  have g5 : ¬ TouchP [xs.map bend] := by
    rintro ⟨i, j, h1, h2, h⟩
    rw [hl, hln] at h2
    have e1 := ed_at [xs.map bend] 0 i (by rw [hr, hln]; exact h2)
    have e2 := ed_at [xs.map bend] 0 j (by rw [hr, hln]; omega)
    rw [hr, ho, hln, Nat.zero_add, Nat.zero_add] at e1 e2
    have m1 : (i + 1) % xs.length < xs.length := Nat.mod_lt _ (by omega)
    have m2 : (j + 1) % xs.length = j + 1 := Nat.mod_eq_of_lt (by omega)
    have m3 : (i + 1 < xs.length ∧ (i + 1) % xs.length = i + 1) ∨ (i + 1 = xs.length ∧ (i + 1) % xs.length = 0) := by
      by_cases q : i + 1 < xs.length
      · exact .inl ⟨q, Nat.mod_eq_of_lt q⟩
      · have : i + 1 = xs.length := by omega
        exact .inr ⟨this, by rw [this]; exact Nat.mod_self _⟩
    unfold touchE at h
    rw [e1, e2] at h
    simp only [m2, hl] at h
    rw [pt_bend h2, pt_bend m1, pt_bend (show j < xs.length by omega), pt_bend (show j + 1 < xs.length by omega)] at h
    unfold touchB at h
    simp only at h
    by_cases c1 : (i + 1) % xs.length = j
    · rw [if_pos c1, nofold _ _ _ h2 m1 (by omega) (by omega) (by omega) (by omega)] at h
      cases h
    · by_cases c2 : j + 1 = i
      · rw [if_neg c1, if_pos c2, nofold _ _ _ (by omega) (by omega) m1 (by omega) (by omega) (by omega)] at h
        cases h
      · rw [if_neg c1, if_neg c2] at h
        obtain ⟨q1, q2, q3, q4⟩ := (meetB_iff _ _ _ _ (nr _ h2) (nr _ m1) (nr _ (by omega)) (nr _ (by omega))).1 h
        rcases m3 with ⟨m3, m4⟩ | ⟨m3, m4⟩
        · rw [m4] at q1
          have u1 := up_at up (show j < j + 1 by omega) (show j + 1 < xs.length by omega)
          have u2 := up_at up (show j + 1 < i by omega) h2
          have u3 := up_at up (show i < i + 1 by omega) m3
          unfold Geo.Over bend at q1
          simp only at q1
          omega
        · rw [m4] at q3 c1
          have u0 := up_at up (show 0 < j by omega) (show j < xs.length by omega)
          have u1 := up_at up (show 0 < j + 1 by omega) (show j + 1 < xs.length by omega)
          have u2 := up_at up (show j < i by omega) h2
          have u3 := up_at up (show j + 1 < i by omega) h2
          have p1 := bend_pos u0 u2
          have p2 := bend_pos u1 u3
          have r1 : DI (bend (xs.getD i 0)) (bend (xs.getD 0 0)) (bend (xs.getD j 0)) = DI (bend (xs.getD 0 0)) (bend (xs.getD j 0)) (bend (xs.getD i 0)) := by rw [bend_DI, bend_DI]; grind
          have r2 : DI (bend (xs.getD i 0)) (bend (xs.getD 0 0)) (bend (xs.getD (j + 1) 0)) = DI (bend (xs.getD 0 0)) (bend (xs.getD (j + 1) 0)) (bend (xs.getD i 0)) := by rw [bend_DI, bend_DI]; grind
          exact q3 (by unfold Geo.Same; omega)
  have g6 : ¬ OutP [xs.map bend] := by
    rintro ⟨k, h1, h2, _⟩
    simp at h2; omega
  have g7 : ¬ NestP [xs.map bend] := by
    rintro ⟨k, j, h1, h2, _⟩
    simp at h2; omega
  unfold chkP first7
  rw [if_neg g1, if_neg g2, if_neg g3, if_neg g4, if_neg g5, if_neg g6, if_neg g7]
end

section
variable {xs : List Nat} (up : xs.Pairwise (· < ·)) (lt : ∀ x ∈ xs, x < 60) {L : List (Nat × Nat)} {F : Nat → Nat → Option Int} {T : List T3}
  (I : FInv (pt (xs.map bend)) xs.length (bnx [xs.map bend]) (bpv [xs.map bend]) L F L.length)
theorem bnx_bend {i : Nat} (hi : i < xs.length) : bnx [xs.map bend] i = (i + 1) % xs.length ∨ bnx [xs.map bend] i = (i + (xs.length - 1)) % xs.length := by
  have e : loc [xs.map bend] i = (0, i) := by
    have := loc_at [xs.map bend] 0 i (by simp) (by simpa [rg] using hi)
    rwa [show off [xs.map bend] 0 + i = i from Nat.zero_add i] at this
  unfold bnx
  rw [e]
  show 0 + nkk (trB [xs.map bend] 0) (xs.map bend).length i = _ ∨ 0 + nkk (trB [xs.map bend] 0) (xs.map bend).length i = _
  rw [List.length_map, Nat.zero_add]
  cases trB [xs.map bend] 0
  · exact .inl rfl
  · exact .inr rfl
include up I
theorem th_bend {a b v : Nat} (h : thF F a b = some v) : (a < xs.length ∧ b < xs.length ∧ v < xs.length) ∧ ((a < b ∧ b < v) ∨ (b < v ∧ v < a) ∨ (v < a ∧ a < b)) := by
  obtain ⟨k1, k2, k3, _, _, l, _⟩ := I.front.tri _ _ _ h
  have ha := I.front.fa _ _ k1; have hb := I.front.fb _ _ k1; have hv := I.front.fb _ _ k2
  refine ⟨⟨ha, hb, hv⟩, ?_⟩
  simp only [D_toR] at l
  rw [pt_bend ha, pt_bend hb, pt_bend hv] at l
  rcases bend_turn ((pos_toR _).1 l) with ⟨h1, h2⟩ | ⟨h1, h2⟩ | ⟨h1, h2⟩
  · exact .inl ⟨up_lt up ha hb h1, up_lt up hb hv h2⟩
  · exact .inr (.inl ⟨up_lt up hb hv h1, up_lt up hv ha h2⟩)
  · exact .inr (.inr ⟨up_lt up hv ha h1, up_lt up ha hb h2⟩)
theorem two_bend {a b v w : Nat} (h : thF F a b = some v) (h' : thF F b a = some w) : incI (bend (xs.getD a 0)) (bend (xs.getD b 0)) (bend (xs.getD v 0)) (bend (xs.getD w 0)) ≤ 0 := by
  obtain ⟨⟨ha, hb, hv⟩, _⟩ := th_bend up I h
  obtain ⟨⟨_, _, hw⟩, _⟩ := th_bend up I h'
  have := I.del.two _ _ _ _ h h'
  simp only [inc_toR] at this
  rw [pt_bend ha, pt_bend hb, pt_bend hv, pt_bend hw] at this
  exact (le_toR _ 0).1 this
/-- The long side of a triangle has its neighbour further on, unless it begins at 0. -/
theorem bend_first : ∀ m a b c, xs.length - c ≤ m → thF F a b = some c → a < b → b < c → a = 0 := by
  intro m
  induction m with
  | zero =>
    intro a b c hm h _ _
    obtain ⟨⟨_, _, hc⟩, _⟩ := th_bend up I h
    omega
  | succ m ih =>
    intro a b c hm h h1 h2
    by_cases h0 : a = 0
    · exact h0
    obtain ⟨⟨ha, hb, hc⟩, _⟩ := th_bend up I h
    obtain ⟨k1, k2, k3, t2, t3, _⟩ := I.front.tri _ _ _ h
    have hnx : bnx [xs.map bend] c ≠ a := by
      have m3 : (c + 1 < xs.length ∧ (c + 1) % xs.length = c + 1) ∨ (c + 1 = xs.length ∧ (c + 1) % xs.length = 0) := by
        by_cases q : c + 1 < xs.length
        · exact .inl ⟨q, Nat.mod_eq_of_lt q⟩
        · have : c + 1 = xs.length := by omega
          exact .inr ⟨this, by rw [this]; exact Nat.mod_self _⟩
      have m4 : (c + (xs.length - 1)) % xs.length = c - 1 := by
        rw [show c + (xs.length - 1) = (c - 1) + xs.length by omega, Nat.add_mod_right, Nat.mod_eq_of_lt (by omega)]
      rcases bnx_bend hc with e | e <;> omega
    have k4 := I.front.pair _ _ k3 hnx
    obtain ⟨d, hd⟩ := I.full _ _ k4
    obtain ⟨⟨_, _, hdl⟩, ho⟩ := th_bend up I hd
    have hi := two_bend up I t3 hd
    by_cases hda : d < a
    · have u1 := up_at up hda ha
      have u2 := up_at up h1 hb
      have u3 := up_at up h2 hc
      rw [bend_inc] at hi
      generalize xs.getD a 0 = A at *
      generalize xs.getD b 0 = B at *
      generalize xs.getD c 0 = C at *
      generalize xs.getD d 0 = E at *
      have q1 := mul3_pos (show (0 : Int) < (C : Int) - A by omega) (show (0 : Int) < (C : Int) - B by omega) (show (0 : Int) < (B : Int) - A by omega)
      have q2 := mul3_pos (show (0 : Int) < (C : Int) - E by omega) (show (0 : Int) < (A : Int) - E by omega) (show (0 : Int) < (B : Int) - E by omega)
      have q3 := mul3_pos q1 q2 (show (0 : Int) < (C : Int) + A + B + E by omega)
      grind
    · exact ih a c d (by omega) hd (by omega) (by omega)
theorem bend_last {a b c : Nat} (h : thF F a b = some c) (h1 : a < b) (h2 : b < c) : c = b + 1 := by
  by_cases h0 : c = b + 1
  · exact h0
  obtain ⟨⟨ha, hb, hc⟩, _⟩ := th_bend up I h
  obtain ⟨k1, k2, k3, t2, t3, _⟩ := I.front.tri _ _ _ h
  have hnx : bnx [xs.map bend] b ≠ c := by
    have m3 : (b + 1) % xs.length = b + 1 := Nat.mod_eq_of_lt (by omega)
    have m4 : (b + (xs.length - 1)) % xs.length = b - 1 := by
      rw [show b + (xs.length - 1) = (b - 1) + xs.length by omega, Nat.add_mod_right, Nat.mod_eq_of_lt (by omega)]
    rcases bnx_bend hb with e | e <;> omega
  have k4 := I.front.pair _ _ k2 hnx
  obtain ⟨d, hd⟩ := I.full _ _ k4
  obtain ⟨⟨_, _, hdl⟩, ho⟩ := th_bend up I hd
  have hi := two_bend up I t2 hd
  have hbd : b < d ∧ d < c := by omega
  have u1 := up_at up hbd.1 hdl
  have u2 := up_at up hbd.2 hc
  have u3 := up_at up h1 hb
  rw [bend_inc] at hi
  generalize xs.getD a 0 = A at *
  generalize xs.getD b 0 = B at *
  generalize xs.getD c 0 = C at *
  generalize xs.getD d 0 = E at *
  have q1 := mul3_pos (show (0 : Int) < (C : Int) - B by omega) (show (0 : Int) < (B : Int) - A by omega) (show (0 : Int) < (C : Int) - A by omega)
  have q2 := mul3_pos (show (0 : Int) < (E : Int) - B by omega) (show (0 : Int) < (C : Int) - E by omega) (show (0 : Int) < (E : Int) - A by omega)
  have q3 := mul3_pos q1 q2 (show (0 : Int) < (B : Int) + C + A + E by omega)
  grind
/-- No point is within a triangle's circle. -/
theorem bend_out (hm : ∀ i j u, (i, j, u) ∈ T ↔ F i j = some (u : Int) ∧ i < j ∧ i < u) {t : T3} (ht : t ∈ T) {k : Nat} (hk : k < xs.length) :
    incI (bend (xs.getD t.1 0)) (bend (xs.getD t.2.1 0)) (bend (xs.getD t.2.2 0)) (bend (xs.getD k 0)) ≤ 0 := by
  obtain ⟨a, b, c⟩ := t
  obtain ⟨h1, h2, h3⟩ := (hm a b c).1 ht
  have h := thF_some h1
  obtain ⟨⟨ha, hb, hc⟩, ho⟩ := th_bend up I h
  have hbc : b < c := by omega
  have e1 := bend_first up I _ a b c (Nat.le_refl _) h h2 hbc
  have e2 := bend_last up I h h2 hbc
  subst e1 e2
  show incI (bend (xs.getD 0 0)) (bend (xs.getD b 0)) (bend (xs.getD (b + 1) 0)) (bend (xs.getD k 0)) ≤ 0
  have u1 := up_at up h2 hb
  have u2 := up_at up hbc hc
  have u3 : xs.getD 0 0 ≤ xs.getD k 0 := by
    rcases Nat.eq_zero_or_pos k with q | q
    · subst q; omega
    · have := up_at up q hk; omega
  have u4 : xs.getD k 0 ≤ xs.getD b 0 ∨ xs.getD (b + 1) 0 ≤ xs.getD k 0 := by
    by_cases q : k ≤ b
    · left
      rcases Nat.lt_or_eq_of_le q with q | q
      · have := up_at up q hb; omega
      · subst q; omega
    · right
      rcases Nat.lt_or_eq_of_le (show b + 1 ≤ k by omega) with q | q
      · have := up_at up q hk; omega
      · subst q; omega
  rw [bend_inc]
  generalize xs.getD 0 0 = A at *
  generalize xs.getD b 0 = B at *
  generalize xs.getD (b + 1) 0 = C at *
  generalize xs.getD k 0 = E at *
  have q1 := mul3_pos (show (0 : Int) < (B : Int) - A by omega) (show (0 : Int) < (C : Int) - A by omega) (show (0 : Int) < (C : Int) - B by omega)
  have q2 : 0 ≤ ((E : Int) - A) * ((E : Int) - B) * ((E : Int) - C) := by
    rcases u4 with u4 | u4
    · have := Int.mul_nonneg (Int.mul_nonneg (show (0 : Int) ≤ (E : Int) - A by omega) (show (0 : Int) ≤ (B : Int) - E by omega)) (show (0 : Int) ≤ (C : Int) - E by omega)
      grind
    · exact Int.mul_nonneg (Int.mul_nonneg (by omega) (by omega)) (by omega)
  have q3 := Int.mul_nonneg (Int.mul_nonneg (Int.le_of_lt q1) q2) (show (0 : Int) ≤ (A : Int) + B + C + E by omega)
  omega
end
end Go.Proofs.Ytdkaoopkbhaheaa
