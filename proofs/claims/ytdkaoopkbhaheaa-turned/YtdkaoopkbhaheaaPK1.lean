import Derived.Test.YtdkaoopkbhaheaaPB4
import Derived.Test.YtdkaoopkbhaheaaPG0
namespace Go.Proofs.Ytdkaoopkbhaheaa
open Go.RowKit
open Jor
theorem refTurn_four (a b p : IP) (ha : nearB a.1 a.2 = true) (hb : nearB b.1 b.2 = true) (hp : nearB p.1 p.2 = true) :
    refTurn (4 * a.1) (4 * a.2) (4 * b.1) (4 * b.2) (4 * p.1) (4 * p.2) = sgn (16 * DI a b p) := by
  have ha := near_bd ha
  have hb := near_bd hb
  have hp := near_bd hp
  unfold refTurn twiceW DI Geo.D
  rw [wrap64_in (4 * b.2 - 4 * p.2) (by omega) (by omega), wrap64_in (4 * p.2 - 4 * a.2) (by omega) (by omega), wrap64_in (4 * a.2 - 4 * b.2) (by omega) (by omega)]
  have k1 := mul_bd (4 * a.1) (4 * b.2 - 4 * p.2) 4194304 8388608 (by omega) (by omega) (by omega)
  have k2 := mul_bd (4 * b.1) (4 * p.2 - 4 * a.2) 4194304 8388608 (by omega) (by omega) (by omega)
  have k3 := mul_bd (4 * p.1) (4 * a.2 - 4 * b.2) 4194304 8388608 (by omega) (by omega) (by omega)
  rw [wrap64_in (4 * a.1 * (4 * b.2 - 4 * p.2)) (by omega) (by omega), wrap64_in (4 * b.1 * (4 * p.2 - 4 * a.2)) (by omega) (by omega), wrap64_in (4 * p.1 * (4 * a.2 - 4 * b.2)) (by omega) (by omega),
    wrap64_in (4 * a.1 * (4 * b.2 - 4 * p.2) + 4 * b.1 * (4 * p.2 - 4 * a.2)) (by omega) (by omega), wrap64_in _ (by omega) (by omega)]
  congr 1
  grind
theorem turnInc_four (a b p : IP) (ha : nearB a.1 a.2 = true) (hb : nearB b.1 b.2 = true) (hp : nearB p.1 p.2 = true) :
    turnInc (wrap64 (4 * p.1)) (wrap64 (4 * p.2)) (wrap64 (4 * a.1)) (wrap64 (4 * a.2)) (wrap64 (4 * b.1)) (wrap64 (4 * b.2)) = crI p a b := by
  have ha' := near_bd ha
  have hb' := near_bd hb
  have hp' := near_bd hp
  rw [wrap64_in (4 * p.1) (by omega) (by omega), wrap64_in (4 * p.2) (by omega) (by omega), wrap64_in (4 * a.1) (by omega) (by omega), wrap64_in (4 * a.2) (by omega) (by omega), wrap64_in (4 * b.1) (by omega) (by omega), wrap64_in (4 * b.2) (by omega) (by omega)]
  unfold turnInc crI
  rw [refTurn_four a b p ha hb hp]
  have hs := sgn_cases (16 * DI a b p)
  by_cases h1 : a.2 ≤ p.2 ∧ p.2 < b.2 ∧ 0 < DI a b p
  · rw [if_pos (by omega), if_pos h1]
  · rw [if_neg (by omega), if_neg h1]
    by_cases h2 : b.2 ≤ p.2 ∧ p.2 < a.2 ∧ DI a b p < 0
    · rw [if_pos (by omega), if_pos h2]
    · rw [if_neg (by omega), if_neg h2]
theorem turns_wind (ps : Nat → IP) (n : Nat) (p : IP) (hp : nearB p.1 p.2 = true) (hn : ∀ i, i < n → nearB (ps i).1 (ps i).2 = true) :
    turns (wrap64 (4 * p.1)) (wrap64 (4 * p.2)) n ps n = windI ps n p := by
  have part : ∀ k, k ≤ n → turns (wrap64 (4 * p.1)) (wrap64 (4 * p.2)) n ps k = sm (fun j => crI p (ps (j % n)) (ps ((j + 1) % n))) k := by
    intro k
    induction k with
    | zero => intro _; rfl
    | succ k ih =>
      intro hk
      rw [turns, sm, ih (by omega), turnInc_four (ps k) (ps ((k + 1) % n)) p (hn k (by omega)) (hn _ (Nat.mod_lt _ (by omega))) hp, Nat.mod_eq_of_lt (show k < n by omega)]
  exact part n (Nat.le_refl n)
def crossings (ps : Nat → IP) (n : Nat) (p : IP) : Nat → Nat
  | 0 => 0
  | k + 1 => crossings ps n p k + if crI p (ps (k % n)) (ps ((k + 1) % n)) = 0 then 0 else 1
theorem crI_cases (q a b : IP) : crI q a b = 0 ∨ crI q a b = 1 ∨ crI q a b = -1 := by
  unfold crI; split
  · simp
  · split <;> simp
theorem crossings_parity (ps : Nat → IP) (n : Nat) (p : IP) (k : Nat) : ((crossings ps n p k : Int) - sm (fun j => crI p (ps (j % n)) (ps ((j + 1) % n))) k) % 2 = 0 := by
  induction k with
  | zero => rfl
  | succ k ih =>
    rw [crossings, sm]
    rcases crI_cases p (ps (k % n)) (ps ((k + 1) % n)) with h | h | h <;> rw [h] <;> simp <;> omega
theorem odd_iff {ps : Nat → IP} {n : Nat} (R : RingI ps n) (p : IP) (off : ∀ j, ¬ OnI p (ps (j % n)) (ps ((j + 1) % n))) :
    (crossings ps n p n % 2 == 1) = (windI ps n p != 0) := by
  have h1 := windI_one R p off
  have h2 := crossings_parity ps n p n
  change ((crossings ps n p n : Int) - windI ps n p) % 2 = 0 at h2
  rw [Bool.eq_iff_iff, beq_iff_eq, bne_iff_ne]
  omega
#print axioms odd_iff
end Go.Proofs.Ytdkaoopkbhaheaa
namespace Go.Proofs.Ytdkaoopkbhaheaa
open Go.RowKit
open Jor
open scoped Classical
theorem getD_elem {α : Type} (l : List α) (i : Nat) (d : α) (h : i < l.length) : l.getD i d = l[i] := by rw [List.getD_eq_getElem?_getD, List.getElem?_eq_getElem h]; rfl
theorem getD_app {α : Type} (l m : List α) (i : Nat) (d : α) (h : i < l.length) : (l ++ m).getD i d = l.getD i d := by rw [List.getD_eq_getElem?_getD, List.getD_eq_getElem?_getD, List.getElem?_append_left h]
theorem getD_app_r {α : Type} (l m : List α) (i : Nat) (d : α) (h : l.length ≤ i) : (l ++ m).getD i d = m.getD (i - l.length) d := by rw [List.getD_eq_getElem?_getD, List.getD_eq_getElem?_getD, List.getElem?_append_right h]
def pt (l : List IP) (i : Nat) : IP := l.getD i (0, 0)
def rg (rs : List (List IP)) (k : Nat) : List IP := rs.getD k []
def off : List (List IP) → Nat → Nat
  | [], _ => 0
  | _ :: _, 0 => 0
  | r :: rs, k + 1 => r.length + off rs k
def eds : Nat → List (List IP) → List (Nat × Nat)
  | _, [] => []
  | f, r :: rs => (List.range r.length).map (fun i => (f + i, f + (i + 1) % r.length)) ++ eds (f + r.length) rs
def ed (rs : List (List IP)) (i : Nat) : Nat × Nat := (eds 0 rs).getD i (0, 0)
theorem eds_length (rs : List (List IP)) : ∀ f, (eds f rs).length = rs.flatten.length := by
  induction rs with
  | nil => intro f; rfl
  | cons r rs ih => intro f; simp [eds, ih]
theorem eds_at (rs : List (List IP)) : ∀ f k i, i < (rg rs k).length → (eds f rs).getD (off rs k + i) (0, 0) = (f + off rs k + i, f + off rs k + (i + 1) % (rg rs k).length) := by
  induction rs with
  | nil => intro f k i h; simp [rg] at h
  | cons r rs ih =>
    intro f k i h
    match k with
    | 0 =>
      simp only [rg, List.getD_cons_zero] at h
      simp only [off, eds, rg, List.getD_cons_zero, Nat.zero_add, Nat.add_zero]
      rw [getD_app _ _ _ _ (by simpa using h)]
      rw [getD_elem _ _ _ (by simpa using h)]
      simp
    | k + 1 =>
      have h' : i < (rg rs k).length := by simpa [rg] using h
      have e : rg (r :: rs) (k + 1) = rg rs k := by simp [rg]
      rw [e]
      simp only [off, eds]
      rw [getD_app_r _ _ _ _ (by simp; omega)]
      simp only [List.length_map, List.length_range]
      rw [show r.length + off rs k + i - r.length = off rs k + i by omega, ih _ _ _ h']
      simp only [Prod.mk.injEq]
      omega
theorem pt_at (rs : List (List IP)) : ∀ k i, i < (rg rs k).length → pt rs.flatten (off rs k + i) = pt (rg rs k) i ∧ off rs k + i < rs.flatten.length := by
  induction rs with
  | nil => intro k i h; simp [rg] at h
  | cons r rs ih =>
    intro k i h
    match k with
    | 0 =>
      simp only [rg, List.getD_cons_zero] at h ⊢
      simp only [off, pt, Nat.zero_add, List.flatten_cons]
      refine ⟨getD_app _ _ _ _ h, by simp; omega⟩
    | k + 1 =>
      have h' : i < (rg rs k).length := by simpa [rg] using h
      have e : rg (r :: rs) (k + 1) = rg rs k := by simp [rg]
      have := ih k i h'
      rw [e]
      simp only [off, pt, List.flatten_cons]
      rw [getD_app_r _ _ _ _ (by omega), show r.length + off rs k + i - r.length = off rs k + i by omega]
      refine ⟨this.1, by have := this.2; rw [List.length_append]; omega⟩
theorem ed_at (rs : List (List IP)) (k i : Nat) (h : i < (rg rs k).length) : ed rs (off rs k + i) = (off rs k + i, off rs k + (i + 1) % (rg rs k).length) := by
  have := eds_at rs 0 k i h
  unfold ed; rw [this]; simp
theorem num_of (rs : List (List IP)) : ∀ m, m < rs.flatten.length → ∃ k i, k < rs.length ∧ i < (rg rs k).length ∧ m = off rs k + i := by
  induction rs with
  | nil => intro m h; simp at h
  | cons r rs ih =>
    intro m h
    by_cases hm : m < r.length
    · exact ⟨0, m, by simp, by simpa [rg] using hm, by simp [off]⟩
    · obtain ⟨k, i, h1, h2, h3⟩ := ih (m - r.length) (by simp at h; simp; omega)
      exact ⟨k + 1, i, by simp; omega, by simpa [rg] using h2, by simp [off]; omega⟩
theorem off_mono (rs : List (List IP)) : ∀ j k, j < k → j < rs.length → off rs j + (rg rs j).length ≤ off rs k := by
  induction rs with
  | nil => intro j k _ h; simp at h
  | cons r rs ih =>
    intro j k h1 h2
    match j, k with
    | _, 0 => omega
    | 0, k + 1 => simp [off, rg]
    | j + 1, k + 1 =>
      have := ih j k (by omega) (by simpa using h2)
      have e : rg (r :: rs) (j + 1) = rg rs j := by simp [rg]
      rw [e]; simp only [off]; omega
def foldB (a b c : IP) : Bool := meetB a.1 a.2 a.1 a.2 b.1 b.2 c.1 c.2 || meetB c.1 c.2 c.1 c.2 a.1 a.2 b.1 b.2
def touchB (e f : Nat × Nat) (a b c d : IP) : Bool :=
  if e.2 = f.1 then foldB a b d else if f.2 = e.1 then foldB c d b else meetB a.1 a.2 b.1 b.2 c.1 c.2 d.1 d.2
def touchE (rs : List (List IP)) (i j : Nat) : Bool := touchB (ed rs i) (ed rs j) (pt rs.flatten (ed rs i).1) (pt rs.flatten (ed rs i).2) (pt rs.flatten (ed rs j).1) (pt rs.flatten (ed rs j).2)
def badP (e f : Nat × Nat) (a b c d : IP) : Bool := badB e.1 e.2 a.1 a.2 b.1 b.2 f.1 f.2 c.1 c.2 d.1 d.2
def badE (rs : List (List IP)) (i j : Nat) : Bool := badP (ed rs i) (ed rs j) (pt rs.flatten (ed rs i).1) (pt rs.flatten (ed rs i).2) (pt rs.flatten (ed rs j).1) (pt rs.flatten (ed rs j).2)
def nearP (p : IP) : Prop := nearB p.1 p.2 = true
theorem meet_on (a b c : IP) (ha : nearP a) (hb : nearP b) (hc : nearP c) : meetB a.1 a.2 a.1 a.2 b.1 b.2 c.1 c.2 = onB a.1 a.2 b.1 b.2 c.1 c.2 := by
  rw [meet_same _ _ _ _ _ _ _ _ ha ha hb hc]
  have h1 := onB_iff a.1 a.2 b.1 b.2 c.1 c.2 ha hb hc
  have h2 := onB_iff b.1 b.2 a.1 a.2 a.1 a.2 hb ha ha
  have h3 := onB_iff c.1 c.2 a.1 a.2 a.1 a.2 hc ha ha
  have h4 := refTurn_eq a.1 a.2 a.1 a.2 b.1 b.2 ha ha hb
  have h5 : Geo.D a.1 a.2 a.1 a.2 b.1 b.2 = 0 := by unfold Geo.D; grind
  rw [h5] at h4
  have h6 : apartB a.1 a.2 a.1 a.2 b.1 b.2 c.1 c.2 = false := by
    unfold apartB; rw [h4, sgn_zero rfl]; unfold mulW; rw [Int.zero_mul, wrap64_in 0 (by omega) (by omega)]; rfl
  have k2 : onB b.1 b.2 a.1 a.2 a.1 a.2 = true → onB a.1 a.2 b.1 b.2 c.1 c.2 = true := by
    intro h
    have := h2.1 h
    unfold Geo.On Geo.Btw at this
    have e1 : b.1 = a.1 := by omega
    have e2 : b.2 = a.2 := by omega
    apply h1.2
    refine ⟨?_, ?_, ?_⟩
    · unfold Geo.D; rw [e1, e2]; grind
    · unfold Geo.Btw; omega
    · unfold Geo.Btw; omega
  have k3 : onB c.1 c.2 a.1 a.2 a.1 a.2 = true → onB a.1 a.2 b.1 b.2 c.1 c.2 = true := by
    intro h
    have := h3.1 h
    unfold Geo.On Geo.Btw at this
    have e1 : c.1 = a.1 := by omega
    have e2 : c.2 = a.2 := by omega
    apply h1.2
    refine ⟨?_, ?_, ?_⟩
    · unfold Geo.D; rw [e1, e2]; grind
    · unfold Geo.Btw; omega
    · unfold Geo.Btw; omega
  unfold refMeetB
  rw [h6]
  cases hA : onB a.1 a.2 b.1 b.2 c.1 c.2
  · cases hB : onB b.1 b.2 a.1 a.2 a.1 a.2
    · cases hC : onB c.1 c.2 a.1 a.2 a.1 a.2
      · simp
      · rw [k3 hC] at hA; simp at hA
    · rw [k2 hB] at hA; simp at hA
  · simp
theorem touch_bad (e f : Nat × Nat) (a b c d : IP) (ha : nearP a) (hb : nearP b) (hc : nearP c) (hd : nearP d) (hef : e.2 = f.1 → b = c) (hfe : f.2 = e.1 → d = a) (hn : ¬ (e.2 = f.1 ∧ f.2 = e.1)) :
    touchB e f a b c d = badP e f a b c d := by
  unfold touchB badP badB foldB
  by_cases h1 : e.2 = f.1
  · have h2 : ¬ f.2 = e.1 := fun h => hn ⟨h1, h⟩
    have hbc := hef h1
    rw [if_pos h1, if_neg (by omega), if_pos (by omega), meet_on a b d ha hb hd, meet_on d a b hd ha hb, hbc]
  · rw [if_neg h1]
    by_cases h2 : f.2 = e.1
    · have hda := hfe h2
      rw [if_pos h2, if_pos (by omega), meet_on c d b hc hd hb, meet_on b c d hb hc hd, hda, Bool.or_comm]
    · rw [if_neg h2, if_neg (by omega), if_neg (by omega), meet_same _ _ _ _ _ _ _ _ ha hb hc hd]
def Short (rs : List (List IP)) : Prop := ∃ r ∈ rs, r.length < 3
def Far (rs : List (List IP)) : Prop := 64 < rs.flatten.length ∨ ∃ v ∈ rs.flatten, ¬ nearP v
def Twice (rs : List (List IP)) : Prop := ∃ i j, j < i ∧ i < rs.flatten.length ∧ pt rs.flatten i = pt rs.flatten j
def TouchR (rs : List (List IP)) : Prop := ∃ i j, j < i ∧ i < rs.flatten.length ∧ badE rs i j = true
def TouchP (rs : List (List IP)) : Prop := ∃ i j, j < i ∧ i < rs.flatten.length ∧ touchE rs i j = true
def withinR (p : IP) (r : List IP) : Bool := turns (wrap64 (4 * p.1)) (wrap64 (4 * p.2)) r.length (pt r) r.length != 0
def crossedB (p a b : IP) : Bool :=
  if a.2 ≤ p.2 ∧ p.2 < b.2 then decide (0 < turnW a.1 a.2 b.1 b.2 p.1 p.2)
  else if b.2 ≤ p.2 ∧ p.2 < a.2 then decide (0 < turnW b.1 b.2 a.1 a.2 p.1 p.2) else false
def crs (p : IP) (r : List IP) : Nat → Nat
  | 0 => 0
  | k + 1 => crs p r k + if crossedB p (pt r k) (pt r ((k + 1) % r.length)) then 1 else 0
def offE (p : IP) (r : List IP) (k : Nat) : Bool := !meetB p.1 p.2 p.1 p.2 (pt r k).1 (pt r k).2 (pt r ((k + 1) % r.length)).1 (pt r ((k + 1) % r.length)).2
def withinP (p : IP) (r : List IP) : Bool := (List.range r.length).all (offE p r) && (crs p r r.length % 2 == 1)
def OutR (rs : List (List IP)) : Prop := ∃ k, 1 ≤ k ∧ k < rs.length ∧ withinR (pt (rg rs k) 0) (rg rs 0) = false
def OutP (rs : List (List IP)) : Prop := ∃ k, 1 ≤ k ∧ k < rs.length ∧ withinP (pt (rg rs k) 0) (rg rs 0) = false
def NestR (rs : List (List IP)) : Prop := ∃ k j, 1 ≤ k ∧ k < rs.length ∧ 1 ≤ j ∧ j < rs.length ∧ j ≠ k ∧ withinR (pt (rg rs k) 0) (rg rs j) = true
def NestP (rs : List (List IP)) : Prop := ∃ k j, 1 ≤ k ∧ k < rs.length ∧ 1 ≤ j ∧ j < rs.length ∧ j ≠ k ∧ withinP (pt (rg rs k) 0) (rg rs j) = true
def first7 [∀ p : Prop, Decidable p] (t1 t2 t3 t4 t5 t6 t7 : Prop) : Int := if t1 then 1 else if t2 then 2 else if t3 then 3 else if t4 then 4 else if t5 then 5 else if t6 then 6 else if t7 then 7 else 0
def Many (rs : List (List IP)) : Prop := rs.length < 1 ∨ 8 < rs.length
def chkR [∀ p : Prop, Decidable p] (rs : List (List IP)) : Int := first7 (Many rs) (Short rs) (Far rs) (Twice rs) (TouchR rs) (OutR rs) (NestR rs)
def chkP [∀ p : Prop, Decidable p] (rs : List (List IP)) : Int := first7 (Many rs) (Short rs) (Far rs) (Twice rs) (TouchP rs) (OutP rs) (NestP rs)
structure Sound (rs : List (List IP)) : Prop where
  three : ∀ k, k < rs.length → 3 ≤ (rg rs k).length
  near : ∀ i, i < rs.flatten.length → nearP (pt rs.flatten i)
  apart : ∀ i j, i < rs.flatten.length → j < rs.flatten.length → i ≠ j → pt rs.flatten i ≠ pt rs.flatten j
theorem rg_mem {rs : List (List IP)} {k : Nat} (h : k < rs.length) : rg rs k ∈ rs := by
  unfold rg; rw [getD_elem _ _ _ h]; exact List.getElem_mem h
theorem pt_mem {l : List IP} {i : Nat} (h : i < l.length) : pt l i ∈ l := by
  unfold pt; rw [getD_elem _ _ _ h]; exact List.getElem_mem h
theorem sound {rs : List (List IP)} (h1 : ¬ Short rs) (h2 : ¬ Far rs) (h3 : ¬ Twice rs) : Sound rs where
  three := fun k hk => by
    by_cases h : 3 ≤ (rg rs k).length
    · exact h
    · exact absurd ⟨_, rg_mem hk, by omega⟩ h1
  near := fun i hi => Classical.byContradiction fun h => h2 (.inr ⟨_, pt_mem hi, h⟩)
  apart := fun i j hi hj hne e => by
    rcases Nat.lt_or_gt_of_ne hne with h | h
    · exact h3 ⟨j, i, h, hj, e.symm⟩
    · exact h3 ⟨i, j, h, hi, e⟩
theorem mod_next {i n : Nat} (h : i < n) : (i + 1) % n = if i + 1 < n then i + 1 else 0 := by
  split
  · exact Nat.mod_eq_of_lt ‹_›
  · rw [show i + 1 = n by omega, Nat.mod_self]
theorem touch_same {rs : List (List IP)} (S : Sound rs) (i j : Nat) (hj : j < i) (hi : i < rs.flatten.length) : touchE rs i j = badE rs i j := by
  obtain ⟨k, a, hk, ha, rfl⟩ := num_of rs i hi
  obtain ⟨l, b, hl, hb, rfl⟩ := num_of rs j (by omega)
  have e1 := ed_at rs k a ha
  have e2 := ed_at rs l b hb
  have nk := S.three k hk
  have nl := S.three l hl
  have ma : (a + 1) % (rg rs k).length < (rg rs k).length := Nat.mod_lt _ (by omega)
  have mb : (b + 1) % (rg rs l).length < (rg rs l).length := Nat.mod_lt _ (by omega)
  have p1 := (pt_at rs k a ha).2
  have p2 := (pt_at rs k _ ma).2
  have p3 := (pt_at rs l b hb).2
  have p4 := (pt_at rs l _ mb).2
  unfold touchE badE
  rw [e1, e2]
  refine touch_bad _ _ _ _ _ _ (S.near _ p1) (S.near _ p2) (S.near _ p3) (S.near _ p4) (fun h => by rw [h]) (fun h => by rw [h]) ?_
  rintro ⟨h1, h2⟩
  simp only at h1 h2
  rcases Nat.lt_trichotomy k l with h | h | h
  · have := off_mono rs k l h hk; omega
  · subst h
    rw [mod_next ha] at h1
    rw [mod_next hb] at h2
    split at h1 <;> split at h2 <;> omega
  · have := off_mono rs l k h hl; omega
theorem far_edges {rs : List (List IP)} (S : Sound rs) (hT : ¬ TouchR rs) {k l a b : Nat} (hk : k < rs.length) (hl : l < rs.length) (ha : a < (rg rs k).length) (hb : b < (rg rs l).length)
    (hne : off rs k + a ≠ off rs l + b) (h1 : ¬ (k = l ∧ (a + 1) % (rg rs k).length = b)) (h2 : ¬ (k = l ∧ (b + 1) % (rg rs k).length = a)) :
    ¬ MtI (pt (rg rs k) a) (pt (rg rs k) ((a + 1) % (rg rs k).length)) (pt (rg rs l) b) (pt (rg rs l) ((b + 1) % (rg rs l).length)) := by
  have nk := S.three k hk
  have nl := S.three l hl
  have ma : (a + 1) % (rg rs k).length < (rg rs k).length := Nat.mod_lt _ (by omega)
  have mb : (b + 1) % (rg rs l).length < (rg rs l).length := Nat.mod_lt _ (by omega)
  have p1 := pt_at rs k a ha
  have p2 := pt_at rs k _ ma
  have p3 := pt_at rs l b hb
  have p4 := pt_at rs l _ mb
  have q1 := S.near _ p1.2
  have q2 := S.near _ p2.2
  have q3 := S.near _ p3.2
  have q4 := S.near _ p4.2
  rw [p1.1] at q1
  rw [p2.1] at q2
  rw [p3.1] at q3
  rw [p4.1] at q4
  have g1 : ¬ off rs k + (a + 1) % (rg rs k).length = off rs l + b := by
    intro h
    rcases Nat.lt_trichotomy k l with u | u | u
    · have := off_mono rs k l u hk; omega
    · subst u; exact h1 ⟨rfl, by omega⟩
    · have := off_mono rs l k u hl; omega
  have g2 : ¬ off rs l + (b + 1) % (rg rs l).length = off rs k + a := by
    intro h
    rcases Nat.lt_trichotomy k l with u | u | u
    · have := off_mono rs k l u hk; omega
    · subst u; exact h2 ⟨rfl, by omega⟩
    · have := off_mono rs l k u hl; omega
  have key : refMeetB (pt (rg rs k) a).1 (pt (rg rs k) a).2 (pt (rg rs k) ((a + 1) % (rg rs k).length)).1 (pt (rg rs k) ((a + 1) % (rg rs k).length)).2 (pt (rg rs l) b).1 (pt (rg rs l) b).2 (pt (rg rs l) ((b + 1) % (rg rs l).length)).1 (pt (rg rs l) ((b + 1) % (rg rs l).length)).2 = false ∨
    refMeetB (pt (rg rs l) b).1 (pt (rg rs l) b).2 (pt (rg rs l) ((b + 1) % (rg rs l).length)).1 (pt (rg rs l) ((b + 1) % (rg rs l).length)).2 (pt (rg rs k) a).1 (pt (rg rs k) a).2 (pt (rg rs k) ((a + 1) % (rg rs k).length)).1 (pt (rg rs k) ((a + 1) % (rg rs k).length)).2 = false := by
    rcases Nat.lt_or_gt_of_ne hne with h | h
    · right
      have hb0 : badE rs (off rs l + b) (off rs k + a) = false := by
        cases hx : badE rs (off rs l + b) (off rs k + a)
        · rfl
        · exact absurd ⟨_, _, h, p3.2, hx⟩ hT
      unfold badE badP badB at hb0
      rw [ed_at rs k a ha, ed_at rs l b hb] at hb0
      simp only at hb0
      rw [if_neg (by omega), if_neg (by omega), p1.1, p2.1, p3.1, p4.1] at hb0
      exact hb0
    · left
      have hb0 : badE rs (off rs k + a) (off rs l + b) = false := by
        cases hx : badE rs (off rs k + a) (off rs l + b)
        · rfl
        · exact absurd ⟨_, _, h, p1.2, hx⟩ hT
      unfold badE badP badB at hb0
      rw [ed_at rs k a ha, ed_at rs l b hb] at hb0
      simp only at hb0
      rw [if_neg (by omega), if_neg (by omega), p1.1, p2.1, p3.1, p4.1] at hb0
      exact hb0
  have mt : ∀ a b c d : IP, nearP a → nearP b → nearP c → nearP d → refMeetB a.1 a.2 b.1 b.2 c.1 c.2 d.1 d.2 = false → ¬ MtI a b c d := by
    intro a b c d ha hb hc hd h hm
    rw [← meet_same _ _ _ _ _ _ _ _ ha hb hc hd] at h
    unfold MtI DI at hm
    obtain ⟨m1, m2, m3, m4⟩ := hm
    have : meetB a.1 a.2 b.1 b.2 c.1 c.2 d.1 d.2 = true := by
      unfold meetB overlapB oneSideB
      rw [turnW_eq _ _ _ _ _ _ ha hb hc, turnW_eq _ _ _ _ _ _ ha hb hd, turnW_eq _ _ _ _ _ _ hc hd ha, turnW_eq _ _ _ _ _ _ hc hd hb]
      simp only [Bool.and_eq_true, Bool.not_eq_true', decide_eq_true_eq, decide_eq_false_iff_not, sgn_same]
      exact ⟨⟨⟨m1, m2⟩, m3⟩, m4⟩
    rw [this] at h; cases h
  rcases key with h | h
  · exact mt _ _ _ _ q1 q2 q3 q4 h
  · have := mt _ _ _ _ q3 q4 q1 q2 h
    intro hm
    apply this
    unfold MtI at hm ⊢
    obtain ⟨m1, m2, m3, m4⟩ := hm
    refine ⟨?_, ?_, m4, m3⟩ <;> (unfold Geo.Over at *; omega)
#print axioms far_edges
end Go.Proofs.Ytdkaoopkbhaheaa
namespace Go.Proofs.Ytdkaoopkbhaheaa
open Go.RowKit
open Jor
open scoped Classical
theorem next_edges {rs : List (List IP)} (S : Sound rs) (hT : ¬ TouchR rs) {k a : Nat} (hk : k < rs.length) (ha : a < (rg rs k).length) :
    ¬ OnI (pt (rg rs k) a) (pt (rg rs k) ((a + 1) % (rg rs k).length)) (pt (rg rs k) ((a + 2) % (rg rs k).length)) ∧ ¬ OnI (pt (rg rs k) ((a + 2) % (rg rs k).length)) (pt (rg rs k) a) (pt (rg rs k) ((a + 1) % (rg rs k).length)) := by
  have nk := S.three k hk
  have hb : (a + 1) % (rg rs k).length < (rg rs k).length := Nat.mod_lt _ (by omega)
  have hc : (a + 2) % (rg rs k).length < (rg rs k).length := Nat.mod_lt _ (by omega)
  have hbc : ((a + 1) % (rg rs k).length + 1) % (rg rs k).length = (a + 2) % (rg rs k).length := by rw [Nat.mod_add_mod]
  have e1 := ed_at rs k a ha
  have e2 := ed_at rs k _ hb
  rw [hbc] at e2
  have p1 := pt_at rs k a ha
  have p2 := pt_at rs k _ hb
  have p3 := pt_at rs k _ hc
  have q1 := S.near _ p1.2
  have q2 := S.near _ p2.2
  have q3 := S.near _ p3.2
  rw [p1.1] at q1
  rw [p2.1] at q2
  rw [p3.1] at q3
  have hne : (a + 1) % (rg rs k).length ≠ a := by rw [mod_next ha]; split <;> omega
  have hne2 : (a + 2) % (rg rs k).length ≠ a := by rw [← hbc, mod_next hb, mod_next ha]; split <;> split <;> omega
  have key : onB (pt (rg rs k) a).1 (pt (rg rs k) a).2 (pt (rg rs k) ((a + 1) % (rg rs k).length)).1 (pt (rg rs k) ((a + 1) % (rg rs k).length)).2 (pt (rg rs k) ((a + 2) % (rg rs k).length)).1 (pt (rg rs k) ((a + 2) % (rg rs k).length)).2 = false ∧
      onB (pt (rg rs k) ((a + 2) % (rg rs k).length)).1 (pt (rg rs k) ((a + 2) % (rg rs k).length)).2 (pt (rg rs k) a).1 (pt (rg rs k) a).2 (pt (rg rs k) ((a + 1) % (rg rs k).length)).1 (pt (rg rs k) ((a + 1) % (rg rs k).length)).2 = false := by
    rcases Nat.lt_or_gt_of_ne hne with h | h
    · have hb0 : badE rs (off rs k + a) (off rs k + (a + 1) % (rg rs k).length) = false := by
        cases hx : badE rs (off rs k + a) (off rs k + (a + 1) % (rg rs k).length)
        · rfl
        · exact absurd ⟨_, _, by omega, p1.2, hx⟩ hT
      unfold badE badP badB at hb0
      rw [e1, e2] at hb0
      simp only at hb0
      rw [if_neg (by omega), if_pos trivial, p1.1, p2.1, p3.1] at hb0
      simpa using hb0
    · have hb0 : badE rs (off rs k + (a + 1) % (rg rs k).length) (off rs k + a) = false := by
        cases hx : badE rs (off rs k + (a + 1) % (rg rs k).length) (off rs k + a)
        · rfl
        · exact absurd ⟨_, _, by omega, p2.2, hx⟩ hT
      unfold badE badP badB at hb0
      rw [e1, e2] at hb0
      simp only at hb0
      rw [if_pos trivial, p1.1, p2.1, p3.1] at hb0
      simp only [Bool.or_eq_false_iff] at hb0
      exact ⟨hb0.2, hb0.1⟩
  refine ⟨fun h => ?_, fun h => ?_⟩
  · have := (onB_iff _ _ _ _ _ _ q1 q2 q3).2 h
    rw [key.1] at this; cases this
  · have := (onB_iff _ _ _ _ _ _ q3 q1 q2).2 h
    rw [key.2] at this; cases this
theorem ring_of {rs : List (List IP)} (S : Sound rs) (hT : ¬ TouchR rs) {k : Nat} (hk : k < rs.length) : RingI (pt (rg rs k)) (rg rs k).length where
  three := S.three k hk
  ne := fun i => by
    have nk := S.three k hk
    have ha : i % (rg rs k).length < (rg rs k).length := Nat.mod_lt _ (by omega)
    have hb : (i + 1) % (rg rs k).length < (rg rs k).length := Nat.mod_lt _ (by omega)
    have p1 := pt_at rs k _ ha
    have p2 := pt_at rs k _ hb
    rw [← p1.1, ← p2.1]
    refine S.apart _ _ p1.2 p2.2 ?_
    have e : (i + 1) % (rg rs k).length = (i % (rg rs k).length + 1) % (rg rs k).length := by rw [Nat.mod_add_mod]
    rw [e, mod_next ha]
    split <;> omega
  on1 := fun i => by
    have nk := S.three k hk
    have ha : i % (rg rs k).length < (rg rs k).length := Nat.mod_lt _ (by omega)
    have := (next_edges S hT hk ha).1
    rwa [Nat.mod_add_mod, Nat.mod_add_mod] at this
  on2 := fun i => by
    have nk := S.three k hk
    have ha : i % (rg rs k).length < (rg rs k).length := Nat.mod_lt _ (by omega)
    have := (next_edges S hT hk ha).2
    rwa [Nat.mod_add_mod, Nat.mod_add_mod] at this
  nm := fun i t h1 h2 => by
    have nk := S.three k hk
    have ha : i % (rg rs k).length < (rg rs k).length := Nat.mod_lt _ (by omega)
    have hb : (i + t) % (rg rs k).length < (rg rs k).length := Nat.mod_lt _ (by omega)
    have eb : (i + t) % (rg rs k).length = (i % (rg rs k).length + t) % (rg rs k).length := by rw [Nat.mod_add_mod]
    have := far_edges S hT hk hk ha hb (fun e => ?_) (fun e => ?_) (fun e => ?_)
    · rw [Nat.mod_add_mod, Nat.mod_add_mod] at this; exact this
    · have e' : i % (rg rs k).length = (i % (rg rs k).length + t) % (rg rs k).length := by rw [← eb]; omega
      generalize i % (rg rs k).length = a at *
      generalize (rg rs k).length = n at *
      rcases Nat.lt_or_ge (a + t) n with h | h
      · rw [Nat.mod_eq_of_lt h] at e'; omega
      · rw [Nat.mod_eq_sub_mod h, Nat.mod_eq_of_lt (by omega)] at e'; omega
    · have e' := e.2
      rw [eb] at e'
      rw [mod_next ha] at e'
      generalize i % (rg rs k).length = a at *
      generalize (rg rs k).length = n at *
      rcases Nat.lt_or_ge (a + t) n with h | h
      · rw [Nat.mod_eq_of_lt h] at e'; split at e' <;> omega
      · rw [Nat.mod_eq_sub_mod h, Nat.mod_eq_of_lt (by omega)] at e'; split at e' <;> omega
    · have e' := e.2
      rw [Nat.mod_add_mod, show i + t + 1 = i + (t + 1) by omega, ← Nat.mod_add_mod] at e'
      generalize i % (rg rs k).length = a at *
      generalize (rg rs k).length = n at *
      rcases Nat.lt_or_ge (a + (t + 1)) n with h | h
      · rw [Nat.mod_eq_of_lt h] at e'; omega
      · rw [Nat.mod_eq_sub_mod h, Nat.mod_eq_of_lt (by omega)] at e'; omega
theorem off_other {rs : List (List IP)} (S : Sound rs) (hT : ¬ TouchR rs) {k l a b : Nat} (hk : k < rs.length) (hl : l < rs.length) (hkl : k ≠ l) (ha : a < (rg rs k).length) (hb : b < (rg rs l).length) :
    ¬ OnI (pt (rg rs k) a) (pt (rg rs l) b) (pt (rg rs l) ((b + 1) % (rg rs l).length)) := by
  intro h
  refine far_edges S hT hk hl ha hb (fun e => ?_) (fun e => hkl e.1) (fun e => hkl e.1) ?_
  · rcases Nat.lt_or_gt_of_ne hkl with u | u
    · have := off_mono rs k l u hk; omega
    · have := off_mono rs l k u hl; omega
  · unfold MtI
    exact (Geo.meet_iff _ _ _ _ _ _ _ _).2 (.inl h)
theorem crossed_eq (p a b : IP) (hp : nearP p) (ha : nearP a) (hb : nearP b) : crossedB p a b = (crI p a b != 0) := by
  unfold crossedB crI
  rw [turnW_eq _ _ _ _ _ _ ha hb hp, turnW_eq _ _ _ _ _ _ hb ha hp]
  have e : Geo.D b.1 b.2 a.1 a.2 p.1 p.2 = - DI a b p := by unfold DI Geo.D; grind
  rw [e]
  change (if a.2 ≤ p.2 ∧ p.2 < b.2 then decide (0 < sgn (DI a b p)) else if b.2 ≤ p.2 ∧ p.2 < a.2 then decide (0 < sgn (-DI a b p)) else false) = _
  have s1 := sgn_cases (DI a b p)
  have s2 := sgn_cases (-DI a b p)
  by_cases h1 : a.2 ≤ p.2 ∧ p.2 < b.2
  · rw [if_pos h1]
    by_cases h2 : 0 < DI a b p
    · rw [if_pos ⟨h1.1, h1.2, h2⟩]; simp; omega
    · rw [if_neg (by omega), if_neg (by omega)]; simp; omega
  · rw [if_neg h1]
    by_cases h2 : b.2 ≤ p.2 ∧ p.2 < a.2
    · rw [if_pos h2]
      by_cases h3 : DI a b p < 0
      · rw [if_neg (by omega), if_pos ⟨h2.1, h2.2, h3⟩]; simp; omega
      · rw [if_neg (by omega), if_neg (by omega)]; simp; omega
    · rw [if_neg h2, if_neg (by omega), if_neg (by omega)]; rfl
theorem crs_eq (p : IP) (r : List IP) (hp : nearP p) (hr : ∀ i, i < r.length → nearP (pt r i)) : ∀ k, k ≤ r.length → crs p r k = crossings (pt r) r.length p k := by
  intro k
  induction k with
  | zero => intro _; rfl
  | succ k ih =>
    intro hk
    rw [crs, crossings, ih (by omega), crossed_eq p _ _ hp (hr k (by omega)) (hr _ (Nat.mod_lt _ (by omega))), Nat.mod_eq_of_lt (show k < r.length by omega)]
    by_cases h : crI p (pt r k) (pt r ((k + 1) % r.length)) = 0
    · simp [h]
    · simp [h]
theorem within_same {rs : List (List IP)} (S : Sound rs) (hT : ¬ TouchR rs) {k l : Nat} (hk : k < rs.length) (hl : l < rs.length) (hkl : k ≠ l) : withinP (pt (rg rs k) 0) (rg rs l) = withinR (pt (rg rs k) 0) (rg rs l) := by
  have n1 := S.three k hk
  have n2 := S.three l hl
  have near : ∀ m, m < rs.length → ∀ i, i < (rg rs m).length → nearP (pt (rg rs m) i) := fun m hm i hi => by
    have := pt_at rs m i hi
    rw [← this.1]; exact S.near _ this.2
  have hp := near k hk 0 (by omega)
  have hr := near l hl
  have hoff : ∀ j, j < (rg rs l).length → ¬ OnI (pt (rg rs k) 0) (pt (rg rs l) j) (pt (rg rs l) ((j + 1) % (rg rs l).length)) := fun j hj => off_other S hT hk hl hkl (by omega) hj
  unfold withinP withinR
  have h1 : (List.range (rg rs l).length).all (offE (pt (rg rs k) 0) (rg rs l)) = true := by
    rw [List.all_eq_true]
    intro j hj
    have hj := List.mem_range.1 hj
    unfold offE
    rw [meet_on _ _ _ hp (hr j hj) (hr _ (Nat.mod_lt _ (by omega)))]
    cases h : onB (pt (rg rs k) 0).1 (pt (rg rs k) 0).2 (pt (rg rs l) j).1 (pt (rg rs l) j).2 (pt (rg rs l) ((j + 1) % (rg rs l).length)).1 (pt (rg rs l) ((j + 1) % (rg rs l).length)).2
    · rfl
    · exact absurd ((onB_iff _ _ _ _ _ _ hp (hr j hj) (hr _ (Nat.mod_lt _ (by omega)))).1 h) (hoff j hj)
  rw [h1, Bool.true_and, crs_eq _ _ hp hr _ (Nat.le_refl _), turns_wind _ _ _ hp hr]
  refine odd_iff (ring_of S hT hl) _ (fun j => ?_)
  have := hoff (j % (rg rs l).length) (Nat.mod_lt _ (by omega))
  rwa [Nat.mod_add_mod] at this
theorem check_same (rs : List (List IP)) : chkP rs = chkR rs := by
  unfold chkP chkR first7
  by_cases h1 : Many rs
  · simp [h1]
  by_cases h2 : Short rs
  · simp [h1, h2]
  by_cases h3 : Far rs
  · simp [h1, h2, h3]
  by_cases h4 : Twice rs
  · simp [h1, h2, h3, h4]
  have S := sound h2 h3 h4
  have e5 : TouchP rs ↔ TouchR rs := by
    constructor
    · rintro ⟨i, j, hj, hi, h⟩
      exact ⟨i, j, hj, hi, by rw [← touch_same S i j hj hi]; exact h⟩
    · rintro ⟨i, j, hj, hi, h⟩
      exact ⟨i, j, hj, hi, by rw [touch_same S i j hj hi]; exact h⟩
  by_cases h5 : TouchR rs
  · have := e5.2 h5
    simp [h1, h2, h3, h4, h5, this]
  have h5' : ¬ TouchP rs := fun h => h5 (e5.1 h)
  have e6 : OutP rs ↔ OutR rs := by
    constructor
    · rintro ⟨k, hk1, hk, h⟩
      exact ⟨k, hk1, hk, by rw [← within_same S h5 hk (by omega) (by omega)]; exact h⟩
    · rintro ⟨k, hk1, hk, h⟩
      exact ⟨k, hk1, hk, by rw [within_same S h5 hk (by omega) (by omega)]; exact h⟩
  have e7 : NestP rs ↔ NestR rs := by
    constructor
    · rintro ⟨k, j, hk1, hk, hj1, hj, hne, h⟩
      exact ⟨k, j, hk1, hk, hj1, hj, hne, by rw [← within_same S h5 hk hj (by omega)]; exact h⟩
    · rintro ⟨k, j, hk1, hk, hj1, hj, hne, h⟩
      exact ⟨k, j, hk1, hk, hj1, hj, hne, by rw [within_same S h5 hk hj (by omega)]; exact h⟩
  rw [propext e6, propext e7, if_neg h1, if_neg h2, if_neg h3, if_neg h4, if_neg h5', if_neg h1, if_neg h2, if_neg h3, if_neg h4, if_neg h5]
def lsum (r : List IP) : Nat → Int
  | 0 => 0
  | i + 1 => wrap64 (lsum r i + wrap64 (wrap64 ((pt r i).1 * (pt r ((i + 1) % r.length)).2) - wrap64 ((pt r i).2 * (pt r ((i + 1) % r.length)).1)))
def pabs (a : Int) : Int := max a (wrap64 (-a))
def psum (rs : List (List IP)) : Nat → Int
  | 0 => 0
  | k + 1 => if k = 0 then pabs (lsum (rg rs 0) (rg rs 0).length) else wrap64 (psum rs k - pabs (lsum (rg rs k) (rg rs k).length))
theorem lsum_same (r : List IP) (h64 : r.length ≤ 64) (hr : ∀ i, i < r.length → nearP (pt r i)) : ∀ k, k ≤ r.length → lsum r k = rsum r.length (pt r) k ∧ -(4398046511104 * (k : Int)) ≤ lsum r k ∧ lsum r k ≤ 4398046511104 * (k : Int) := by
  intro k
  induction k with
  | zero => intro _; exact ⟨rfl, by simp [lsum], by simp [lsum]⟩
  | succ k ih =>
    intro hk
    obtain ⟨e, b1, b2⟩ := ih (by omega)
    have n1 := near_bd (hr k (by omega))
    have n2 := near_bd (hr ((k + 1) % r.length) (Nat.mod_lt _ (by omega)))
    have m1 := mul_bd (pt r k).1 (pt r ((k + 1) % r.length)).2 1048576 1048576 (by omega) (by omega) (by omega)
    have m2 := mul_bd (pt r k).2 (pt r ((k + 1) % r.length)).1 1048576 1048576 (by omega) (by omega) (by omega)
    have l : lsum r (k + 1) = lsum r k + ((pt r k).1 * (pt r ((k + 1) % r.length)).2 - (pt r k).2 * (pt r ((k + 1) % r.length)).1) := by
      rw [lsum, wrap64_in ((pt r k).1 * _) (by omega) (by omega), wrap64_in ((pt r k).2 * _) (by omega) (by omega), wrap64_in (_ - _) (by omega) (by omega), wrap64_in _ (by omega) (by omega)]
    have l' : rsum r.length (pt r) (k + 1) = lsum r k + ((pt r k).1 * (pt r ((k + 1) % r.length)).2 - (pt r k).2 * (pt r ((k + 1) % r.length)).1) := by
      rw [rsum, ← e, wrap64_in ((pt r k).1 * _) (by omega) (by omega), wrap64_in ((pt r k).2 * _) (by omega) (by omega), wrap64_in (lsum r k + _) (by omega) (by omega), wrap64_in _ (by omega) (by omega)]
      omega
    rw [l, l']
    exact ⟨rfl, by omega, by omega⟩
theorem pabs_same (a : Int) (h : -9223372036854775807 ≤ a ∧ a ≤ 9223372036854775807) : pabs a = rabs a ∧ 0 ≤ pabs a ∧ (pabs a = a ∨ pabs a = -a) := by
  unfold pabs rabs
  rw [wrap64_in (-a) (by omega) (by omega)]
  split <;> omega
theorem area_same (rs : List (List IP)) (h1 : rs.length ≤ 8) (h3 : ¬ Far rs) : ∀ k, k ≤ rs.length → psum rs k = asum (fun k => (rg rs k).length) (fun k => pt (rg rs k)) k ∧ -(281474976710656 * (k : Int)) ≤ psum rs k ∧ psum rs k ≤ 281474976710656 * (k : Int) := by
  have h64 : rs.flatten.length ≤ 64 := by
    rcases Nat.lt_or_ge 64 rs.flatten.length with h | h
    · exact absurd (.inl h) h3
    · exact h
  have near : ∀ m, m < rs.length → ∀ i, i < (rg rs m).length → nearP (pt (rg rs m) i) := fun m hm i hi => by
    have := pt_at rs m i hi
    rw [← this.1]; exact Classical.byContradiction fun h => h3 (.inr ⟨_, pt_mem this.2, h⟩)
  have len : ∀ m, m < rs.length → (rg rs m).length ≤ 64 := fun m hm => by
    rcases Nat.eq_zero_or_pos (rg rs m).length with h | h
    · omega
    · have := (pt_at rs m ((rg rs m).length - 1) (by omega)).2; omega
  intro k
  induction k with
  | zero => intro _; exact ⟨rfl, by simp [psum], by simp [psum]⟩
  | succ k ih =>
    intro hk
    obtain ⟨e, b1, b2⟩ := ih (by omega)
    have l64 := len k (by omega)
    obtain ⟨l1, l2, l3⟩ := lsum_same (rg rs k) l64 (near k (by omega)) _ (Nat.le_refl _)
    obtain ⟨q1, q2, q3⟩ := pabs_same (lsum (rg rs k) (rg rs k).length) (by omega)
    rw [psum, asum]
    simp only [← l1, ← q1, ← e]
    by_cases hk0 : k = 0
    · subst hk0
      rw [if_pos rfl, if_neg (by omega)]
      have : psum rs 0 = 0 := rfl
      rw [this, Int.zero_add, wrap64_in _ (by omega) (by omega)]
      exact ⟨rfl, by omega, by omega⟩
    · rw [if_neg hk0, if_pos (by omega), wrap64_in (-_) (by omega) (by omega), wrap64_in _ (by omega) (by omega), wrap64_in _ (by omega) (by omega)]
      exact ⟨by omega, by omega, by omega⟩
#print axioms check_same
#print axioms area_same
end Go.Proofs.Ytdkaoopkbhaheaa
