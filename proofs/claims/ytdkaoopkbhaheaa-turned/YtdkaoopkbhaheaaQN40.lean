import Derived.Test.YtdkaoopkbhaheaaPN35
namespace Go.Proofs.Ytdkaoopkbhaheaa
open Go.RowKit Go.Lib
open Jor
open scoped Classical
set_option linter.unusedVariables false
set_option linter.unusedSimpArgs false
def atT (A : Nat) (f : Bool) (m i : Nat) : Nat := if f then m - 1 - (i + A) % m else (i + A) % m
def inT (A : Nat) (f : Bool) (m j : Nat) : Nat := ((if f then m - 1 - j else j) + (m - A)) % m
theorem mod2 {x m : Nat} (h : x < 2 * m) : (x < m ∧ x % m = x) ∨ (m ≤ x ∧ x % m = x - m) := by
  by_cases q : x < m
  · exact .inl ⟨q, Nat.mod_eq_of_lt q⟩
  · exact .inr ⟨by omega, by rw [Nat.mod_eq_sub_mod (by omega), Nat.mod_eq_of_lt (by omega)]⟩
section
variable {A m i : Nat} {f : Bool}
theorem atT_lt (hi : i < m) : atT A f m i < m := by
  have := Nat.mod_lt (i + A) (show 0 < m by omega)
  unfold atT
  split <;> omega
theorem inT_lt (hi : i < m) : inT A f m i < m := Nat.mod_lt _ (by omega)
theorem inT_at (hA : A < m) (hi : i < m) : inT A f m (atT A f m i) = i := by
  have e := mod2 (x := i + A) (m := m) (by omega)
  have l := Nat.mod_lt (i + A) (show 0 < m by omega)
  unfold inT atT
  generalize (i + A) % m = y at *
  cases f with
  | false =>
    simp only [Bool.false_eq_true, if_false]
    have e2 := mod2 (x := y + (m - A)) (m := m) (by omega)
    generalize (y + (m - A)) % m = z at *
    omega
  | true =>
    simp only [if_true]
    have e2 := mod2 (x := m - 1 - (m - 1 - y) + (m - A)) (m := m) (by omega)
    generalize (m - 1 - (m - 1 - y) + (m - A)) % m = z at *
    omega
theorem at_inT (hA : A < m) (hi : i < m) : atT A f m (inT A f m i) = i := by
  unfold atT inT
  cases f with
  | false =>
    simp only [Bool.false_eq_true, if_false]
    have e := mod2 (x := i + (m - A)) (m := m) (by omega)
    have l := Nat.mod_lt (i + (m - A)) (show 0 < m by omega)
    generalize (i + (m - A)) % m = y at *
    have e2 := mod2 (x := y + A) (m := m) (by omega)
    generalize (y + A) % m = z at *
    omega
  | true =>
    simp only [if_true]
    have e := mod2 (x := m - 1 - i + (m - A)) (m := m) (by omega)
    have l := Nat.mod_lt (m - 1 - i + (m - A)) (show 0 < m by omega)
    generalize (m - 1 - i + (m - A)) % m = y at *
    have e2 := mod2 (x := y + A) (m := m) (by omega)
    generalize (y + A) % m = z at *
    omega
theorem atT_next (hA : A < m) (hi : i < m) : atT A f m (nxm m i) = nkk f m (atT A f m i) := by
  have e1 := mod2 (x := i + A) (m := m) (by omega)
  have l1 := Nat.mod_lt (i + A) (show 0 < m by omega)
  have e2 : (i + 1 < m ∧ nxm m i = i + 1) ∨ (m ≤ i + 1 ∧ nxm m i = i + 1 - m) := mod2 (x := i + 1) (m := m) (by omega)
  have l2 : nxm m i < m := Nat.mod_lt _ (by omega)
  unfold atT
  generalize nxm m i = j at *
  have e3 := mod2 (x := j + A) (m := m) (by omega)
  generalize (i + A) % m = y at *
  generalize (j + A) % m = z at *
  cases f with
  | false =>
    simp only [Bool.false_eq_true, if_false]
    show z = (y + 1) % m
    have e4 := mod2 (x := y + 1) (m := m) (by omega)
    generalize (y + 1) % m = u at *
    omega
  | true =>
    simp only [if_true]
    show m - 1 - z = ((m - 1 - y) + (m - 1)) % m
    have e4 := mod2 (x := (m - 1 - y) + (m - 1)) (m := m) (by omega)
    generalize ((m - 1 - y) + (m - 1)) % m = u at *
    omega
end
def ringT (A : Nat) (f : Bool) (r : List IP) : List IP := (List.range r.length).map fun i => pt r (atT A f r.length i)
theorem ringT_length (A : Nat) (f : Bool) (r : List IP) : (ringT A f r).length = r.length := by unfold ringT; simp
theorem ringT_pt {A : Nat} {f : Bool} {r : List IP} {i : Nat} (h : i < r.length) : pt (ringT A f r) i = pt r (atT A f r.length i) := by
  unfold ringT
  rw [pt, getD_elem _ _ _ (by simpa using h)]
  simp
def ringsT (n : Nat) (pi : Nat → Nat) (A : Nat → Nat) (f : Nat → Bool) (rs : List (List IP)) : List (List IP) := (List.range n).map fun k => ringT (A (pi k)) (f (pi k)) (rg rs (pi k))
theorem ringsT_rg {n : Nat} {pi : Nat → Nat} {A : Nat → Nat} {f : Nat → Bool} {rs : List (List IP)} {k : Nat} (h : k < n) : rg (ringsT n pi A f rs) k = ringT (A (pi k)) (f (pi k)) (rg rs (pi k)) := by
  unfold ringsT rg
  rw [getD_elem _ _ _ (by simpa using h)]
  simp
theorem trd_of {rs : List (List IP)} {pi pi' : Nat → Nat} {A : Nat → Nat} {f : Nat → Bool} (lt : ∀ k, k < rs.length → pi k < rs.length) (lt' : ∀ k, k < rs.length → pi' k < rs.length) (inv : ∀ k, k < rs.length → pi' (pi k) = k) (inv' : ∀ k, k < rs.length → pi (pi' k) = k) (z : pi 0 = 0) (z' : pi' 0 = 0)
    (hA : ∀ k, k < rs.length → 0 < (rg rs k).length → A k < (rg rs k).length) :
    Trd rs (ringsT rs.length pi A f rs) pi pi' (fun k => f (pi k)) (fun k => atT (A (pi k)) (f (pi k)) (rg rs (pi k)).length) (fun k => inT (A (pi k)) (f (pi k)) (rg rs (pi k)).length) := by
  have len : (ringsT rs.length pi A f rs).length = rs.length := by unfold ringsT; simp
  have rl : ∀ k, k < rs.length → (rg (ringsT rs.length pi A f rs) k).length = (rg rs (pi k)).length := fun k hk => by rw [ringsT_rg hk, ringT_length]
  refine ⟨len, fun k hk => ?_, fun k hk => ?_, fun k hk => ?_, fun k hk => ?_, z, z', fun k hk => ?_, fun k i hk hi => ?_, fun k i hk hi => ?_, fun k i hk hi => ?_, fun k i hk hi => ?_, fun k i hk hi => ?_, fun k i hk hi => ?_⟩ <;> rw [len] at hk
  · rw [len]; exact lt k hk
  · rw [len]; exact lt' k hk
  · exact inv k hk
  · exact inv' k hk
  · exact rl k hk
  · rw [rl k hk] at *; exact atT_lt hi
  · rw [rl k hk] at *; exact inT_lt hi
  · rw [rl k hk] at hi; exact inT_at (hA _ (lt k hk) (by omega)) hi
  · rw [rl k hk] at hi; exact at_inT (hA _ (lt k hk) (by omega)) hi
  · rw [rl k hk] at hi; rw [ringsT_rg hk, ringT_pt hi]
  · rw [rl k hk] at *; exact atT_next (hA _ (lt k hk) (by omega)) hi
def rotI (h n k : Nat) : Nat := if k < h then k else if k + 1 < n then k + 1 else h
def rotJ (h n k : Nat) : Nat := if k < h then k else if k = h then n - 1 else k - 1
theorem rotI_cases (h n k : Nat) : (k < h ∧ rotI h n k = k) ∨ (h ≤ k ∧ k + 1 < n ∧ rotI h n k = k + 1) ∨ (h ≤ k ∧ n ≤ k + 1 ∧ rotI h n k = h) := by
  unfold rotI
  split
  · omega
  · split <;> omega
theorem rotJ_cases (h n k : Nat) : (k < h ∧ rotJ h n k = k) ∨ (k = h ∧ rotJ h n k = n - 1) ∨ (h < k ∧ rotJ h n k = k - 1) := by
  unfold rotJ
  split
  · omega
  · split <;> omega
theorem trd_rot {rs : List (List IP)} {A : Nat → Nat} {f : Nat → Bool} {h : Nat} (h1 : 1 ≤ h) (h2 : h < rs.length) (hA : ∀ k, k < rs.length → 0 < (rg rs k).length → A k < (rg rs k).length) :
    ∃ pi' fl ta ta', Trd rs (ringsT rs.length (rotI h rs.length) A f rs) (rotI h rs.length) pi' fl ta ta' := by
  refine ⟨_, _, _, _, trd_of (pi' := rotJ h rs.length) (fun k hk => ?_) (fun k hk => ?_) (fun k hk => ?_) (fun k hk => ?_) ?_ ?_ hA⟩
  · have := rotI_cases h rs.length k; omega
  · have := rotJ_cases h rs.length k; omega
  · have := rotI_cases h rs.length k; have := rotJ_cases h rs.length (rotI h rs.length k); omega
  · have := rotJ_cases h rs.length k; have := rotI_cases h rs.length (rotJ h rs.length k); omega
  · have := rotI_cases h rs.length 0; omega
  · have := rotJ_cases h rs.length 0; omega
theorem trd_id {rs : List (List IP)} {A : Nat → Nat} {f : Nat → Bool} (hA : ∀ k, k < rs.length → 0 < (rg rs k).length → A k < (rg rs k).length) :
    ∃ pi' fl ta ta', Trd rs (ringsT rs.length (fun k => k) A f rs) (fun k => k) pi' fl ta ta' :=
  ⟨_, _, _, _, trd_of (pi' := fun k => k) (fun k hk => hk) (fun k hk => hk) (fun k hk => rfl) (fun k hk => rfl) rfl rfl hA⟩
end Go.Proofs.Ytdkaoopkbhaheaa
