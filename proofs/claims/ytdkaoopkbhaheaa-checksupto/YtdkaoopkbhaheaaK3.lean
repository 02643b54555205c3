/- The program's tests and the document's are alike: rings, what is within, areas. No program is walked here. -/
import Derived.Test.YtdkaoopkbhaheaaK2
namespace Go.Proofs.Ytdkaoopkbhaheaa
open Go.RowKit
open Jor
open scoped Classical

/-- Edges that follow one another. -/
theorem next_edges {rs : List (List IP)} (S : Sound rs) (hT : ¬ TouchR rs) {k a : Nat} (hk : k < rs.length) (ha : a < (rg rs k).length) :
    ¬ OnI (pt (rg rs k) a) (pt (rg rs k) ((a + 1) % (rg rs k).length)) (pt (rg rs k) ((a + 2) % (rg rs k).length)) ∧ ¬ OnI (pt (rg rs k) ((a + 2) % (rg rs k).length)) (pt (rg rs k) a) (pt (rg rs k) ((a + 1) % (rg rs k).length)) := by
  have nk := S.three k hk
  have hb : (a + 1) % (rg rs k).length < (rg rs k).length := Nat.mod_lt _ (by omega)
  have hc : (a + 2) % (rg rs k).length < (rg rs k).length := Nat.mod_lt _ (by omega)
  have hbc : ((a + 1) % (rg rs k).length + 1) % (rg rs k).length = (a + 2) % (rg rs k).length := by rw [Nat.mod_add_mod]
  have e1 := ed_at rs k a ha
  have e2 := ed_at rs k _ hb
  rw [hbc] at e2
  have p1 := pt_at rs k a ha
  have p2 := pt_at rs k _ hb
  have p3 := pt_at rs k _ hc
  have q1 := S.near _ p1.2
  have q2 := S.near _ p2.2
  have q3 := S.near _ p3.2
  rw [p1.1] at q1
  rw [p2.1] at q2
  rw [p3.1] at q3
  have hne : (a + 1) % (rg rs k).length ≠ a := by rw [mod_next ha]; split <;> omega
  have hne2 : (a + 2) % (rg rs k).length ≠ a := by rw [← hbc, mod_next hb, mod_next ha]; split <;> split <;> omega
  have key : onB (pt (rg rs k) a).1 (pt (rg rs k) a).2 (pt (rg rs k) ((a + 1) % (rg rs k).length)).1 (pt (rg rs k) ((a + 1) % (rg rs k).length)).2 (pt (rg rs k) ((a + 2) % (rg rs k).length)).1 (pt (rg rs k) ((a + 2) % (rg rs k).length)).2 = false ∧
      onB (pt (rg rs k) ((a + 2) % (rg rs k).length)).1 (pt (rg rs k) ((a + 2) % (rg rs k).length)).2 (pt (rg rs k) a).1 (pt (rg rs k) a).2 (pt (rg rs k) ((a + 1) % (rg rs k).length)).1 (pt (rg rs k) ((a + 1) % (rg rs k).length)).2 = false := by
    rcases Nat.lt_or_gt_of_ne hne with h | h
    · have hb0 : badE rs (off rs k + a) (off rs k + (a + 1) % (rg rs k).length) = false := by
        cases hx : badE rs (off rs k + a) (off rs k + (a + 1) % (rg rs k).length)
        · rfl
        · exact absurd ⟨_, _, by omega, p1.2, hx⟩ hT
      unfold badE badP badB at hb0
      rw [e1, e2] at hb0
      simp only at hb0
      rw [if_neg (by omega), if_pos trivial, p1.1, p2.1, p3.1] at hb0
      simpa using hb0
    · have hb0 : badE rs (off rs k + (a + 1) % (rg rs k).length) (off rs k + a) = false := by
        cases hx : badE rs (off rs k + (a + 1) % (rg rs k).length) (off rs k + a)
        · rfl
        · exact absurd ⟨_, _, by omega, p2.2, hx⟩ hT
      unfold badE badP badB at hb0
      rw [e1, e2] at hb0
      simp only at hb0
      rw [if_pos trivial, p1.1, p2.1, p3.1] at hb0
      simp only [Bool.or_eq_false_iff] at hb0
      exact ⟨hb0.2, hb0.1⟩
  refine ⟨fun h => ?_, fun h => ?_⟩
  · have := (onB_iff _ _ _ _ _ _ q1 q2 q3).2 h
    rw [key.1] at this; cases this
  · have := (onB_iff _ _ _ _ _ _ q3 q1 q2).2 h
    rw [key.2] at this; cases this

/-- A ring of a polygon that passed is a ring. -/
theorem ring_of {rs : List (List IP)} (S : Sound rs) (hT : ¬ TouchR rs) {k : Nat} (hk : k < rs.length) : RingI (pt (rg rs k)) (rg rs k).length where
  three := S.three k hk
  ne := fun i => by
    have nk := S.three k hk
    have ha : i % (rg rs k).length < (rg rs k).length := Nat.mod_lt _ (by omega)
    have hb : (i + 1) % (rg rs k).length < (rg rs k).length := Nat.mod_lt _ (by omega)
    have p1 := pt_at rs k _ ha
    have p2 := pt_at rs k _ hb
    rw [← p1.1, ← p2.1]
    refine S.apart _ _ p1.2 p2.2 ?_
    have e : (i + 1) % (rg rs k).length = (i % (rg rs k).length + 1) % (rg rs k).length := by rw [Nat.mod_add_mod]
    rw [e, mod_next ha]
    split <;> omega
  on1 := fun i => by
    have nk := S.three k hk
    have ha : i % (rg rs k).length < (rg rs k).length := Nat.mod_lt _ (by omega)
    have := (next_edges S hT hk ha).1
    rwa [Nat.mod_add_mod, Nat.mod_add_mod] at this
  on2 := fun i => by
    have nk := S.three k hk
    have ha : i % (rg rs k).length < (rg rs k).length := Nat.mod_lt _ (by omega)
    have := (next_edges S hT hk ha).2
    rwa [Nat.mod_add_mod, Nat.mod_add_mod] at this
  nm := fun i t h1 h2 => by
    have nk := S.three k hk
    have ha : i % (rg rs k).length < (rg rs k).length := Nat.mod_lt _ (by omega)
    have hb : (i + t) % (rg rs k).length < (rg rs k).length := Nat.mod_lt _ (by omega)
    have eb : (i + t) % (rg rs k).length = (i % (rg rs k).length + t) % (rg rs k).length := by rw [Nat.mod_add_mod]
    have := far_edges S hT hk hk ha hb (fun e => ?_) (fun e => ?_) (fun e => ?_)
    · rw [Nat.mod_add_mod, Nat.mod_add_mod] at this; exact this
    · have e' : i % (rg rs k).length = (i % (rg rs k).length + t) % (rg rs k).length := by rw [← eb]; omega
      generalize i % (rg rs k).length = a at *
      generalize (rg rs k).length = n at *
      rcases Nat.lt_or_ge (a + t) n with h | h
      · rw [Nat.mod_eq_of_lt h] at e'; omega
      · rw [Nat.mod_eq_sub_mod h, Nat.mod_eq_of_lt (by omega)] at e'; omega
    · have e' := e.2
      rw [eb] at e'
      rw [mod_next ha] at e'
      generalize i % (rg rs k).length = a at *
      generalize (rg rs k).length = n at *
      rcases Nat.lt_or_ge (a + t) n with h | h
      · rw [Nat.mod_eq_of_lt h] at e'; split at e' <;> omega
      · rw [Nat.mod_eq_sub_mod h, Nat.mod_eq_of_lt (by omega)] at e'; split at e' <;> omega
    · have e' := e.2
      rw [Nat.mod_add_mod, show i + t + 1 = i + (t + 1) by omega, ← Nat.mod_add_mod] at e'
      generalize i % (rg rs k).length = a at *
      generalize (rg rs k).length = n at *
      rcases Nat.lt_or_ge (a + (t + 1)) n with h | h
      · rw [Nat.mod_eq_of_lt h] at e'; omega
      · rw [Nat.mod_eq_sub_mod h, Nat.mod_eq_of_lt (by omega)] at e'; omega

/-- A vertex of one ring is on no edge of another. -/
theorem off_other {rs : List (List IP)} (S : Sound rs) (hT : ¬ TouchR rs) {k l a b : Nat} (hk : k < rs.length) (hl : l < rs.length) (hkl : k ≠ l) (ha : a < (rg rs k).length) (hb : b < (rg rs l).length) :
    ¬ OnI (pt (rg rs k) a) (pt (rg rs l) b) (pt (rg rs l) ((b + 1) % (rg rs l).length)) := by
  intro h
  refine far_edges S hT hk hl ha hb (fun e => ?_) (fun e => hkl e.1) (fun e => hkl e.1) ?_
  · rcases Nat.lt_or_gt_of_ne hkl with u | u
    · have := off_mono rs k l u hk; omega
    · have := off_mono rs l k u hl; omega
  · unfold MtI
    exact (Geo.meet_iff _ _ _ _ _ _ _ _).2 (.inl h)

theorem crossed_eq (p a b : IP) (hp : nearP p) (ha : nearP a) (hb : nearP b) : crossedB p a b = (crI p a b != 0) := by
  unfold crossedB crI
  rw [turnW_eq _ _ _ _ _ _ ha hb hp, turnW_eq _ _ _ _ _ _ hb ha hp]
  have e : Geo.D b.1 b.2 a.1 a.2 p.1 p.2 = - DI a b p := by unfold DI Geo.D; grind
  rw [e]
  change (if a.2 ≤ p.2 ∧ p.2 < b.2 then decide (0 < sgn (DI a b p)) else if b.2 ≤ p.2 ∧ p.2 < a.2 then decide (0 < sgn (-DI a b p)) else false) = _
  have s1 := sgn_cases (DI a b p)
  have s2 := sgn_cases (-DI a b p)
  by_cases h1 : a.2 ≤ p.2 ∧ p.2 < b.2
  · rw [if_pos h1]
    by_cases h2 : 0 < DI a b p
    · rw [if_pos ⟨h1.1, h1.2, h2⟩]; simp; omega
    · rw [if_neg (by omega), if_neg (by omega)]; simp; omega
  · rw [if_neg h1]
    by_cases h2 : b.2 ≤ p.2 ∧ p.2 < a.2
    · rw [if_pos h2]
      by_cases h3 : DI a b p < 0
      · rw [if_neg (by omega), if_pos ⟨h2.1, h2.2, h3⟩]; simp; omega
      · rw [if_neg (by omega), if_neg (by omega)]; simp; omega
    · rw [if_neg h2, if_neg (by omega), if_neg (by omega)]; rfl

theorem crs_eq (p : IP) (r : List IP) (hp : nearP p) (hr : ∀ i, i < r.length → nearP (pt r i)) : ∀ k, k ≤ r.length → crs p r k = crossings (pt r) r.length p k := by
  intro k
  induction k with
  | zero => intro _; rfl
  | succ k ih =>
    intro hk
    rw [crs, crossings, ih (by omega), crossed_eq p _ _ hp (hr k (by omega)) (hr _ (Nat.mod_lt _ (by omega))), Nat.mod_eq_of_lt (show k < r.length by omega)]
    by_cases h : crI p (pt r k) (pt r ((k + 1) % r.length)) = 0
    · simp [h]
    · simp [h]

/-- WITHIN: the program's word and the document's. -/
theorem within_same {rs : List (List IP)} (S : Sound rs) (hT : ¬ TouchR rs) {k l : Nat} (hk : k < rs.length) (hl : l < rs.length) (hkl : k ≠ l) : withinP (pt (rg rs k) 0) (rg rs l) = withinR (pt (rg rs k) 0) (rg rs l) := by
  have n1 := S.three k hk
  have n2 := S.three l hl
  have near : ∀ m, m < rs.length → ∀ i, i < (rg rs m).length → nearP (pt (rg rs m) i) := fun m hm i hi => by
    have := pt_at rs m i hi
    rw [← this.1]; exact S.near _ this.2
  have hp := near k hk 0 (by omega)
  have hr := near l hl
  have hoff : ∀ j, j < (rg rs l).length → ¬ OnI (pt (rg rs k) 0) (pt (rg rs l) j) (pt (rg rs l) ((j + 1) % (rg rs l).length)) := fun j hj => off_other S hT hk hl hkl (by omega) hj
  unfold withinP withinR
  have h1 : (List.range (rg rs l).length).all (offE (pt (rg rs k) 0) (rg rs l)) = true := by
    rw [List.all_eq_true]
    intro j hj
    have hj := List.mem_range.1 hj
    unfold offE
    rw [meet_on _ _ _ hp (hr j hj) (hr _ (Nat.mod_lt _ (by omega)))]
    cases h : onB (pt (rg rs k) 0).1 (pt (rg rs k) 0).2 (pt (rg rs l) j).1 (pt (rg rs l) j).2 (pt (rg rs l) ((j + 1) % (rg rs l).length)).1 (pt (rg rs l) ((j + 1) % (rg rs l).length)).2
    · rfl
    · exact absurd ((onB_iff _ _ _ _ _ _ hp (hr j hj) (hr _ (Nat.mod_lt _ (by omega)))).1 h) (hoff j hj)
  rw [h1, Bool.true_and, crs_eq _ _ hp hr _ (Nat.le_refl _), turns_wind _ _ _ hp hr]
  refine odd_iff (ring_of S hT hl) _ (fun j => ?_)
  have := hoff (j % (rg rs l).length) (Nat.mod_lt _ (by omega))
  rwa [Nat.mod_add_mod] at this

/-- CHECK: the program's tests and the document's come to one answer. -/
theorem check_same (rs : List (List IP)) : chkP rs = chkR rs := by
  unfold chkP chkR first7
  by_cases h1 : Many rs
  · simp [h1]
  by_cases h2 : Short rs
  · simp [h1, h2]
  by_cases h3 : Far rs
  · simp [h1, h2, h3]
  by_cases h4 : Twice rs
  · simp [h1, h2, h3, h4]
  have S := sound h2 h3 h4
  have e5 : TouchP rs ↔ TouchR rs := by
    constructor
    · rintro ⟨i, j, hj, hi, h⟩
      exact ⟨i, j, hj, hi, by rw [← touch_same S i j hj hi]; exact h⟩
    · rintro ⟨i, j, hj, hi, h⟩
      exact ⟨i, j, hj, hi, by rw [touch_same S i j hj hi]; exact h⟩
  by_cases h5 : TouchR rs
  · have := e5.2 h5
    simp [h1, h2, h3, h4, h5, this]
  have h5' : ¬ TouchP rs := fun h => h5 (e5.1 h)
  have e6 : OutP rs ↔ OutR rs := by
    constructor
    · rintro ⟨k, hk1, hk, h⟩
      exact ⟨k, hk1, hk, by rw [← within_same S h5 hk (by omega) (by omega)]; exact h⟩
    · rintro ⟨k, hk1, hk, h⟩
      exact ⟨k, hk1, hk, by rw [within_same S h5 hk (by omega) (by omega)]; exact h⟩
  have e7 : NestP rs ↔ NestR rs := by
    constructor
    · rintro ⟨k, j, hk1, hk, hj1, hj, hne, h⟩
      exact ⟨k, j, hk1, hk, hj1, hj, hne, by rw [← within_same S h5 hk hj (by omega)]; exact h⟩
    · rintro ⟨k, j, hk1, hk, hj1, hj, hne, h⟩
      exact ⟨k, j, hk1, hk, hj1, hj, hne, by rw [within_same S h5 hk hj (by omega)]; exact h⟩
  rw [propext e6, propext e7, if_neg h1, if_neg h2, if_neg h3, if_neg h4, if_neg h5', if_neg h1, if_neg h2, if_neg h3, if_neg h4, if_neg h5]

/-- Areas, as the program sums them. -/
def lsum (r : List IP) : Nat → Int
  | 0 => 0
  | i + 1 => wrap64 (lsum r i + wrap64 (wrap64 ((pt r i).1 * (pt r ((i + 1) % r.length)).2) - wrap64 ((pt r i).2 * (pt r ((i + 1) % r.length)).1)))
def pabs (a : Int) : Int := max a (wrap64 (-a))
def psum (rs : List (List IP)) : Nat → Int
  | 0 => 0
  | k + 1 => if k = 0 then pabs (lsum (rg rs 0) (rg rs 0).length) else wrap64 (psum rs k - pabs (lsum (rg rs k) (rg rs k).length))

theorem lsum_same (r : List IP) (h64 : r.length ≤ 64) (hr : ∀ i, i < r.length → nearP (pt r i)) : ∀ k, k ≤ r.length → lsum r k = rsum r.length (pt r) k ∧ -(4398046511104 * (k : Int)) ≤ lsum r k ∧ lsum r k ≤ 4398046511104 * (k : Int) := by
  intro k
  induction k with
  | zero => intro _; exact ⟨rfl, by simp [lsum], by simp [lsum]⟩
  | succ k ih =>
    intro hk
    obtain ⟨e, b1, b2⟩ := ih (by omega)
    have n1 := near_bd (hr k (by omega))
    have n2 := near_bd (hr ((k + 1) % r.length) (Nat.mod_lt _ (by omega)))
    have m1 := mul_bd (pt r k).1 (pt r ((k + 1) % r.length)).2 1048576 1048576 (by omega) (by omega) (by omega)
    have m2 := mul_bd (pt r k).2 (pt r ((k + 1) % r.length)).1 1048576 1048576 (by omega) (by omega) (by omega)
    have l : lsum r (k + 1) = lsum r k + ((pt r k).1 * (pt r ((k + 1) % r.length)).2 - (pt r k).2 * (pt r ((k + 1) % r.length)).1) := by
      rw [lsum, wrap64_in ((pt r k).1 * _) (by omega) (by omega), wrap64_in ((pt r k).2 * _) (by omega) (by omega), wrap64_in (_ - _) (by omega) (by omega), wrap64_in _ (by omega) (by omega)]
    have l' : rsum r.length (pt r) (k + 1) = lsum r k + ((pt r k).1 * (pt r ((k + 1) % r.length)).2 - (pt r k).2 * (pt r ((k + 1) % r.length)).1) := by
      rw [rsum, ← e, wrap64_in ((pt r k).1 * _) (by omega) (by omega), wrap64_in ((pt r k).2 * _) (by omega) (by omega), wrap64_in (lsum r k + _) (by omega) (by omega), wrap64_in _ (by omega) (by omega)]
      omega
    rw [l, l']
    exact ⟨rfl, by omega, by omega⟩

theorem pabs_same (a : Int) (h : -9223372036854775807 ≤ a ∧ a ≤ 9223372036854775807) : pabs a = rabs a ∧ 0 ≤ pabs a ∧ (pabs a = a ∨ pabs a = -a) := by
  unfold pabs rabs
  rw [wrap64_in (-a) (by omega) (by omega)]
  split <;> omega

/-- AREA: the program's and the document's. -/
theorem area_same (rs : List (List IP)) (h1 : rs.length ≤ 8) (h3 : ¬ Far rs) : ∀ k, k ≤ rs.length → psum rs k = asum (fun k => (rg rs k).length) (fun k => pt (rg rs k)) k ∧ -(281474976710656 * (k : Int)) ≤ psum rs k ∧ psum rs k ≤ 281474976710656 * (k : Int) := by
  have h64 : rs.flatten.length ≤ 64 := by
    rcases Nat.lt_or_ge 64 rs.flatten.length with h | h
    · exact absurd (.inl h) h3
    · exact h
  have near : ∀ m, m < rs.length → ∀ i, i < (rg rs m).length → nearP (pt (rg rs m) i) := fun m hm i hi => by
    have := pt_at rs m i hi
    rw [← this.1]; exact Classical.byContradiction fun h => h3 (.inr ⟨_, pt_mem this.2, h⟩)
  have len : ∀ m, m < rs.length → (rg rs m).length ≤ 64 := fun m hm => by
    rcases Nat.eq_zero_or_pos (rg rs m).length with h | h
    · omega
    · have := (pt_at rs m ((rg rs m).length - 1) (by omega)).2; omega
  intro k
  induction k with
  | zero => intro _; exact ⟨rfl, by simp [psum], by simp [psum]⟩
  | succ k ih =>
    intro hk
    obtain ⟨e, b1, b2⟩ := ih (by omega)
    have l64 := len k (by omega)
    obtain ⟨l1, l2, l3⟩ := lsum_same (rg rs k) l64 (near k (by omega)) _ (Nat.le_refl _)
    obtain ⟨q1, q2, q3⟩ := pabs_same (lsum (rg rs k) (rg rs k).length) (by omega)
    rw [psum, asum]
    simp only [← l1, ← q1, ← e]
    by_cases hk0 : k = 0
    · subst hk0
      rw [if_pos rfl, if_neg (by omega)]
      have : psum rs 0 = 0 := rfl
      rw [this, Int.zero_add, wrap64_in _ (by omega) (by omega)]
      exact ⟨rfl, by omega, by omega⟩
    · rw [if_neg hk0, if_pos (by omega), wrap64_in (-_) (by omega) (by omega), wrap64_in _ (by omega) (by omega), wrap64_in _ (by omega) (by omega)]
      exact ⟨by omega, by omega, by omega⟩
#print axioms check_same
#print axioms area_same
end Go.Proofs.Ytdkaoopkbhaheaa
