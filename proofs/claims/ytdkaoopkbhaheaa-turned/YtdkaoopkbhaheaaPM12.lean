import Derived.Test.YtdkaoopkbhaheaaPM0
import Derived.Test.YtdkaoopkbhaheaaPG0
namespace Go.Proofs.Ytdkaoopkbhaheaa
namespace Jor
set_option linter.unusedVariables false
set_option linter.unusedSimpArgs false
theorem sm_add (f g : Nat → Int) (n : Nat) : sm (fun k => f k + g k) n = sm f n + sm g n := by
  induction n with
  | zero => rfl
  | succ n ih => simp only [sm]; rw [ih]; omega
theorem sm_more (f : Nat → Int) (m : Nat) : ∀ n, sm f (m + n) = sm f m + sm (fun k => f (m + k)) n := by
  intro n
  induction n with
  | zero => simp [sm]
  | succ n ih => rw [← Nat.add_assoc]; simp only [sm]; rw [ih]; omega
theorem sm_code (f : Nat → Int) (n m : Nat) : sm f (m * n) = sm (fun a => sm (fun b => f (a * n + b)) n) m := by
  induction m with
  | zero => simp [sm]
  | succ m ih => rw [Nat.succ_mul, sm_more, ih]; rfl
theorem code {n c d : Nat} (hc : c < n) (hd : d < n) : c * n + d < n * n ∧ (c * n + d) / n = c ∧ (c * n + d) % n = d := by
  have hn : 0 < n := by omega
  refine ⟨?_, ?_, ?_⟩
  · have : (c + 1) * n ≤ n * n := Nat.mul_le_mul_right n hc
    rw [Nat.add_mul, Nat.one_mul] at this; omega
  · rw [Nat.mul_comm, Nat.mul_add_div hn, Nat.div_eq_of_lt hd]; rfl
  · rw [Nat.mul_comm, Nat.mul_add_mod]; exact Nat.mod_eq_of_lt hd
theorem decode {n i : Nat} : i / n * n + i % n = i := by rw [Nat.mul_comm]; exact Nat.div_add_mod i n
section
variable {P : Nat → Pt} {n : Nat} {nx pv : Nat → Nat} {K : Nat → Nat → Prop} {th : Nat → Nat → Option Nat}
def rho (n : Nat) (th : Nat → Nat → Option Nat) (i : Nat) : Nat := match th (i / n) (i % n) with | some v => i % n * n + v | none => i
def rhp (n : Nat) (th : Nat → Nat → Option Nat) (i : Nat) : Nat := match th (i / n) (i % n) with | some v => v * n + i / n | none => i
def gv (n : Nat) (th : Nat → Nat → Option Nat) (g : Nat → Nat → Int) (i : Nat) : Int := match th (i / n) (i % n) with | some _ => g (i / n) (i % n) | none => 0
def ls (n : Nat) (th : Nat → Nat → Option Nat) (i : Nat) : Int := match th (i / n) (i % n) with | some v => if i / n < i % n ∧ i / n < v then 1 else 0 | none => 0
theorem rho_some {i v : Nat} (h : th (i / n) (i % n) = some v) : rho n th i = i % n * n + v := by unfold rho; rw [h]
theorem rhp_some {i v : Nat} (h : th (i / n) (i % n) = some v) : rhp n th i = v * n + i / n := by unfold rhp; rw [h]
theorem rho_none {i : Nat} (h : th (i / n) (i % n) = none) : rho n th i = i := by unfold rho; rw [h]
theorem rhp_none {i : Nat} (h : th (i / n) (i % n) = none) : rhp n th i = i := by unfold rhp; rw [h]
theorem next_side (F : Front P n nx pv K th) {i v : Nat} (h : th (i / n) (i % n) = some v) : rho n th i < n * n ∧ rho n th i / n = i % n ∧ rho n th i % n = v ∧ th (i % n) v = some (i / n) := by
  obtain ⟨k1, k2, k3, t1, t2, _⟩ := F.tri _ _ _ h
  rw [rho_some h]
  obtain ⟨c1, c2, c3⟩ := code (n := n) (F.fa _ _ k2) (F.fb _ _ k2)
  exact ⟨c1, c2, c3, t1⟩
theorem last_side (F : Front P n nx pv K th) {i v : Nat} (h : th (i / n) (i % n) = some v) : rhp n th i < n * n ∧ rhp n th i / n = v ∧ rhp n th i % n = i / n ∧ th v (i / n) = some (i % n) := by
  obtain ⟨k1, k2, k3, t1, t2, _⟩ := F.tri _ _ _ h
  rw [rhp_some h]
  obtain ⟨c1, c2, c3⟩ := code (n := n) (F.fa _ _ k3) (F.fb _ _ k3)
  exact ⟨c1, c2, c3, t2⟩
theorem rho_lt (F : Front P n nx pv K th) (i : Nat) (hi : i < n * n) : rho n th i < n * n := by
  cases h : th (i / n) (i % n) with
  | none => rw [rho_none h]; exact hi
  | some v => exact (next_side F h).1
theorem rhp_lt (F : Front P n nx pv K th) (i : Nat) (hi : i < n * n) : rhp n th i < n * n := by
  cases h : th (i / n) (i % n) with
  | none => rw [rhp_none h]; exact hi
  | some v => exact (last_side F h).1
theorem rhp_rho (F : Front P n nx pv K th) (i : Nat) : rhp n th (rho n th i) = i := by
  cases h : th (i / n) (i % n) with
  | none => rw [rho_none h, rhp_none h]
  | some v =>
    obtain ⟨_, e1, e2, t⟩ := next_side F h
    rw [rhp_some (v := i / n) (by rw [e1, e2]; exact t), e1]
    exact decode
theorem rho_rhp (F : Front P n nx pv K th) (i : Nat) : rho n th (rhp n th i) = i := by
  cases h : th (i / n) (i % n) with
  | none => rw [rhp_none h, rho_none h]
  | some v =>
    obtain ⟨_, e1, e2, t⟩ := last_side F h
    rw [rho_some (v := i % n) (by rw [e1, e2]; exact t), e2]
    exact decode
theorem ls_one (F : Front P n nx pv K th) {i v : Nat} (h : th (i / n) (i % n) = some v) : ls n th i + ls n th (rho n th i) + ls n th (rhp n th i) = 1 := by
  obtain ⟨_, e1, e2, t1⟩ := next_side F h
  obtain ⟨_, e3, e4, t2⟩ := last_side F h
  obtain ⟨k1, k2, k3, _⟩ := F.tri _ _ _ h
  have n1 := F.ne _ _ k1; have n2 := F.ne _ _ k2; have n3 := F.ne _ _ k3
  unfold ls
  rw [e1, e2, e3, e4, h, t1, t2]
  simp only
  generalize i / n = a at *
  generalize i % n = b at *
  by_cases q1 : a < b <;> by_cases q2 : a < v <;> by_cases q3 : b < v
  all_goals (repeat (first | rw [if_pos (by omega)] | rw [if_neg (by omega)]))
  all_goals (first | rfl | (exfalso; omega))
theorem sum_tri (F : Front P n nx pv K th) (g : Nat → Nat → Int) :
    sm (fun i => ls n th i * (gv n th g i + gv n th g (rho n th i) + gv n th g (rhp n th i))) (n * n) = sm (gv n th g) (n * n) := by
  have s1 : sm (fun i => ls n th i * gv n th g (rho n th i)) (n * n) = sm (fun i => ls n th (rhp n th i) * gv n th g i) (n * n) := by
    rw [← sm_perm (fun i => ls n th (rhp n th i) * gv n th g i) (n * n) (rho n th) (rhp n th) (rho_lt F) (rhp_lt F) (fun i _ => rhp_rho F i) (fun i _ => rho_rhp F i)]
    exact sm_congr fun i _ => by rw [rhp_rho F]
  have s2 : sm (fun i => ls n th i * gv n th g (rhp n th i)) (n * n) = sm (fun i => ls n th (rho n th i) * gv n th g i) (n * n) := by
    rw [← sm_perm (fun i => ls n th (rho n th i) * gv n th g i) (n * n) (rhp n th) (rho n th) (rhp_lt F) (rho_lt F) (fun i _ => rho_rhp F i) (fun i _ => rhp_rho F i)]
    exact sm_congr fun i _ => by rw [rho_rhp F]
  have e : sm (fun i => ls n th i * (gv n th g i + gv n th g (rho n th i) + gv n th g (rhp n th i))) (n * n) =
      sm (fun i => ls n th i * gv n th g i + ls n th i * gv n th g (rho n th i) + ls n th i * gv n th g (rhp n th i)) (n * n) := sm_congr fun i _ => by rw [Int.mul_add, Int.mul_add]
  rw [e, sm_add, sm_add, s1, s2, ← sm_add, ← sm_add]
  refine sm_congr fun i _ => ?_
  cases h : th (i / n) (i % n) with
  | none => unfold gv; rw [h]; simp
  | some v =>
    have o := ls_one F h
    rw [← Int.add_mul, ← Int.add_mul, show ls n th i + ls n th (rhp n th i) + ls n th (rho n th i) = 1 by omega, Int.one_mul]
def Full (K : Nat → Nat → Prop) (th : Nat → Nat → Option Nat) : Prop := ∀ a b, K a b → ∃ v, th a b = some v
theorem sum_border (G : Bd P n nx pv) (F : Front P n nx pv K th) (full : Full K th) (g : Nat → Nat → Int) (anti : ∀ a b, g b a = - g a b) :
    sm (gv n th g) (n * n) = sm (fun i => g i (nx i)) n := by
  -- the border's part, and the rest, which cancels
  have part : sm (gv n th g) (n * n) = sm (fun i => if nx (i / n) = i % n then gv n th g i else 0) (n * n) + sm (fun i => if nx (i / n) = i % n then 0 else gv n th g i) (n * n) := by
    rw [← sm_add]
    refine sm_congr fun i _ => ?_
    by_cases q : nx (i / n) = i % n
    · rw [if_pos q, if_pos q]; omega
    · rw [if_neg q, if_neg q]; omega
  have some_of : ∀ a b v, th a b = some v → K a b := fun a b v h => (F.tri a b v h).1
  have rest : sm (fun i => if nx (i / n) = i % n then 0 else gv n th g i) (n * n) = 0 := by
    have lt2 : ∀ i, i < n * n → i / n < n ∧ i % n < n := fun i hi => by
      have hn : 0 < n := by
        rcases Nat.eq_zero_or_pos n with z | z
        · rw [z] at hi; omega
        · exact z
      exact ⟨Nat.div_lt_of_lt_mul hi, Nat.mod_lt _ hn⟩
    have sw : sm (fun i => if nx (i / n) = i % n then 0 else gv n th g i) (n * n) = sm (fun i => if nx (i % n) = i / n then 0 else gv n th g (i % n * n + i / n)) (n * n) := by
      have pm := sm_perm (fun i => if nx (i / n) = i % n then 0 else gv n th g i) (n * n) (fun i => i % n * n + i / n) (fun i => i % n * n + i / n)
        (fun i hi => (code (lt2 i hi).2 (lt2 i hi).1).1) (fun i hi => (code (lt2 i hi).2 (lt2 i hi).1).1)
        (fun i hi => by obtain ⟨_, c2, c3⟩ := code (lt2 i hi).2 (lt2 i hi).1; simp only [c2, c3]; exact decode) (fun i hi => by obtain ⟨_, c2, c3⟩ := code (lt2 i hi).2 (lt2 i hi).1; simp only [c2, c3]; exact decode)
      rw [← pm]
      refine sm_congr fun i hi => ?_
      obtain ⟨_, c2, c3⟩ := code (lt2 i hi).2 (lt2 i hi).1
      simp only [c2, c3]
    have neg : sm (fun i => (if nx (i / n) = i % n then 0 else gv n th g i) + (if nx (i % n) = i / n then 0 else gv n th g (i % n * n + i / n))) (n * n) = 0 := by
      refine sm_zero _ _ fun i hi => ?_
      obtain ⟨_, c2, c3⟩ := code (lt2 i hi).2 (lt2 i hi).1
      have val : gv n th g (i % n * n + i / n) = match th (i % n) (i / n) with | some _ => g (i % n) (i / n) | none => 0 := by unfold gv; rw [c2, c3]
      rw [val]
      unfold gv
      generalize i / n = a at *
      generalize i % n = b at *
      have back : ∀ x y v, th x y = some v → nx x ≠ y → nx y ≠ x ∧ ∃ w, th y x = some w := fun x y v h hn => by
        have kk := some_of _ _ _ h
        refine ⟨fun e => F.nb y (F.fb _ _ kk) (by rw [e]; exact kk), full _ _ (F.pair _ _ kk hn)⟩
      cases h1 : th a b with
      | some v =>
        by_cases q : nx a = b
        · rw [if_pos q]
          have : nx b ≠ a := fun e => G.nn (F.fa _ _ (some_of _ _ _ h1)) (by rw [q, e])
          rw [if_neg this]
          cases h2 : th b a with
          | none => rfl
          | some w => exact absurd (some_of _ _ _ h2) (by rw [← q]; exact F.nb a (F.fa _ _ (some_of _ _ _ h1)))
        · obtain ⟨q2, w, h2⟩ := back _ _ _ h1 q
          rw [if_neg q, if_neg q2, h2]
          simp only
          rw [anti a b]; omega
      | none =>
        cases h2 : th b a with
        | none => simp
        | some w =>
          by_cases q2 : nx b = a
          · simp [q2]
          · obtain ⟨_, w', h3⟩ := back _ _ _ h2 q2
            rw [h1] at h3; cases h3
    rw [sm_add, ← sw] at neg
    omega
  rw [part, rest, Int.add_zero, sm_code]
  refine sm_congr fun a ha => ?_
  have hn := G.nl a ha
  rw [sm_out _ (nx a) n hn, sm_zero]
  · obtain ⟨_, c2, c3⟩ := code ha hn
    obtain ⟨v, hv⟩ := full _ _ (F.bd a ha)
    rw [c2, c3, if_pos rfl]
    unfold gv
    rw [c2, c3, hv]
    simp
  · intro b hb
    by_cases e : b = nx a
    · rw [if_pos e]
    · obtain ⟨_, c2, c3⟩ := code ha hb
      rw [if_neg e, c2, c3, if_neg (Ne.symm e)]
end
end Jor
end Go.Proofs.Ytdkaoopkbhaheaa
namespace Go.Proofs.Ytdkaoopkbhaheaa
namespace Jor
set_option linter.unusedVariables false
set_option linter.unusedSimpArgs false
theorem sm_le {f g : Nat → Int} {n : Nat} (h : ∀ k, k < n → f k ≤ g k) : sm f n ≤ sm g n := by
  induction n with
  | zero => exact Int.le_refl _
  | succ n ih => have h1 := ih fun k hk => h k (by omega); have h2 := h n (by omega); simp only [sm]; omega
theorem sm_lt {f g : Nat → Int} {n j : Nat} (h : ∀ k, k < n → f k ≤ g k) (hj : j < n) (hl : f j < g j) : sm f n < sm g n := by
  induction n with
  | zero => omega
  | succ n ih =>
    simp only [sm]
    by_cases e : j = n
    · subst e
      have := sm_le (n := j) fun k hk => h k (by omega)
      omega
    · have h1 := ih (fun k hk => h k (by omega)) (by omega)
      have h2 := h n (by omega)
      omega
section
variable {P : Nat → Pt} {n : Nat} {nx pv : Nat → Nat}
def cuts (n : Nat) (th : Nat → Nat → Option Nat) : Int := sm (fun i => match th (i / n) (i % n) with | some _ => 1 | none => 0) (n * n)
theorem cuts_le (n : Nat) (th : Nat → Nat → Option Nat) : cuts n th ≤ n * n := by
  have h : cuts n th ≤ sm (fun _ => 1) (n * n) := sm_le fun k _ => by
    cases th (k / n) (k % n) <;> simp
  have one : ∀ m : Nat, sm (fun _ => 1) m = m := by
    intro m
    induction m with
    | zero => rfl
    | succ m ih => simp only [sm]; rw [ih]; rfl
  rw [one] at h
  omega
theorem cuts_more {K : Nat → Nat → Prop} {th : Nat → Nat → Option Nat} (F : Front P n nx pv K th) {a b v : Nat} (k : K a b) (u : th a b = none) : cuts n th < cuts n (th2 th a b v) := by
  obtain ⟨c1, c2, c3⟩ := code (n := n) (F.fa _ _ k) (F.fb _ _ k)
  refine sm_lt (j := a * n + b) (fun i _ => ?_) c1 ?_
  · cases h : th (i / n) (i % n) with
    | none => simp only; split <;> omega
    | some w =>
      have : ∃ z, th2 th a b v (i / n) (i % n) = some z := by
        unfold th2
        split
        · exact ⟨_, rfl⟩
        · split
          · exact ⟨_, rfl⟩
          · split
            · exact ⟨_, rfl⟩
            · exact ⟨_, h⟩
      obtain ⟨z, hz⟩ := this
      rw [hz]
      exact Int.le_refl _
  · rw [c2, c3, u]
    unfold th2
    rw [if_pos ⟨rfl, rfl⟩]
    exact Int.zero_lt_one
theorem fill (G : Bd P n nx pv) : ∀ (m : Nat) (K : Nat → Nat → Prop) (th : Nat → Nat → Option Nat), Front P n nx pv K th → n * n - cuts n th ≤ m → ∃ K' th', Front P n nx pv K' th' ∧ Full K' th' := by
  intro m
  induction m with
  | zero =>
    intro K th F hm
    refine ⟨K, th, F, fun a b k => ?_⟩
    cases h : th a b with
    | some v => exact ⟨v, rfl⟩
    | none =>
      exfalso
      have h1 := cuts_more (v := 0) F k h
      have h2 := cuts_le n (th2 th a b 0)
      omega
  | succ m ih =>
    intro K th F hm
    by_cases full : Full K th
    · exact ⟨K, th, F, full⟩
    · have : ∃ a b, K a b ∧ th a b = none := by
        refine Classical.byContradiction fun hno => full fun a b k => ?_
        cases h : th a b with
        | some v => exact ⟨v, rfl⟩
        | none => exact absurd ⟨a, b, k, h⟩ hno
      obtain ⟨a, b, k, u⟩ := this
      obtain ⟨v, C⟩ := apex G F k
      have h1 := cuts_more (v := v) F k u
      exact ih _ _ (lay_front G F k C u) (by omega)
theorem start (G : Bd P n nx pv) (off : ∀ i v, i < n → v < n → v ≠ i → v ≠ nx i → ¬ On (P v) (P i) (P (nx i))) (left : ∀ i, i < n → inn P n nx pv i (P (nx i)) = 1) :
    Front P n nx pv (fun a b => a < n ∧ nx a = b) (fun _ _ => none) where
  fa := fun a b h => h.1
  fb := fun a b h => by rw [← h.2]; exact G.nl a h.1
  ne := fun a b h e => G.n1 a h.1 (by rw [h.2, e])
  bd := fun i hi => ⟨hi, rfl⟩
  nb := fun i hi h => G.nn hi h.2
  pair := fun a b h hn => absurd h.2 hn
  cross := fun a b c d h g h1 h2 h3 h4 => by
    obtain ⟨ha, rfl⟩ := h
    obtain ⟨hc, rfl⟩ := g
    exact G.nm a c ha hc h1 h3 (Ne.symm h2)
  off := fun a b v h hv h1 h2 => by
    obtain ⟨ha, rfl⟩ := h
    exact off a v ha hv h1 h2
  ins := fun a b h => by
    obtain ⟨ha, rfl⟩ := h
    exact left a ha
  tri := fun a b v h => by cases h
end
end Jor
#print axioms Jor.fill
end Go.Proofs.Ytdkaoopkbhaheaa
namespace Go.Proofs.Ytdkaoopkbhaheaa
namespace Jor
set_option linter.unusedVariables false
set_option linter.unusedSimpArgs false
def crx (a b : IP) : Int := a.1 * b.2 - a.2 * b.1
theorem crx_anti (a b : IP) : crx b a = - crx a b := by unfold crx; grind
theorem crx_tri (a b c : IP) : crx a b + crx b c + crx c a = DI a b c := by unfold crx DI Geo.D; grind
section
variable {p : Nat → IP} {n : Nat} {nx pv : Nat → Nat} {K : Nat → Nat → Prop} {th : Nat → Nat → Option Nat}
theorem ls_01 (i : Nat) : ls n th i = 0 ∨ ls n th i = 1 := by
  unfold ls
  split
  · split
    · exact .inr rfl
    · exact .inl rfl
  · exact .inl rfl
theorem gv_some {g : Nat → Nat → Int} {i v : Nat} (h : th (i / n) (i % n) = some v) : gv n th g i = g (i / n) (i % n) := by unfold gv; rw [h]
theorem tri_sum (F : Front (fun i => toR (p i)) n nx pv K th) {i v : Nat} (h : th (i / n) (i % n) = some v) :
    gv n th (fun a b => crx (p a) (p b)) i + gv n th (fun a b => crx (p a) (p b)) (rho n th i) + gv n th (fun a b => crx (p a) (p b)) (rhp n th i) = DI (p (i / n)) (p (i % n)) (p v) ∧ 0 < DI (p (i / n)) (p (i % n)) (p v) := by
  obtain ⟨_, e1, e2, t1⟩ := next_side F h
  obtain ⟨_, e3, e4, t2⟩ := last_side F h
  obtain ⟨_, _, _, _, _, l, _⟩ := F.tri _ _ _ h
  refine ⟨?_, ?_⟩
  · rw [gv_some h, gv_some (v := i / n) (by rw [e1, e2]; exact t1), gv_some (v := i % n) (by rw [e3, e4]; exact t2), e1, e2, e3, e4]
    exact crx_tri _ _ _
  · rw [D_toR] at l
    exact (pos_toR _).1 l
theorem area_border (G : Bd (fun i => toR (p i)) n nx pv) (F : Front (fun i => toR (p i)) n nx pv K th) (full : Full K th) :
    sm (fun i => match th (i / n) (i % n) with | some v => if i / n < i % n ∧ i / n < v then DI (p (i / n)) (p (i % n)) (p v) else 0 | none => 0) (n * n) = sm (fun i => crx (p i) (p (nx i))) n := by
  rw [← sum_border G F full (fun a b => crx (p a) (p b)) (fun a b => crx_anti _ _), ← sum_tri F]
  refine sm_congr fun i _ => ?_
  cases h : th (i / n) (i % n) with
  | none => unfold ls; rw [h]; simp
  | some v =>
    rw [(tri_sum F h).1]
    unfold ls
    rw [h]
    simp only
    split
    · rw [Int.one_mul]
    · rw [Int.zero_mul]
theorem area_pos (G : Bd (fun i => toR (p i)) n nx pv) (hn : 0 < n) (off : ∀ i v, i < n → v < n → v ≠ i → v ≠ nx i → ¬ On (toR (p v)) (toR (p i)) (toR (p (nx i)))) (left : ∀ i, i < n → inn (fun i => toR (p i)) n nx pv i (toR (p (nx i))) = 1) :
    0 < sm (fun i => crx (p i) (p (nx i))) n := by
  obtain ⟨K, th, F, full⟩ := fill G ((n : Int) * n - cuts n fun _ _ => none).toNat _ _ (start G off left) (by
    have h := cuts_le n (fun _ _ => none)
    generalize cuts n (fun _ _ => none) = c at *
    generalize (n : Int) * n = m at *
    omega)
  rw [← area_border G F full]
  have nonneg : ∀ i, i < n * n → 0 ≤ (match th (i / n) (i % n) with | some v => if i / n < i % n ∧ i / n < v then DI (p (i / n)) (p (i % n)) (p v) else 0 | none => 0) := by
    intro i _
    cases h : th (i / n) (i % n) with
    | none => exact Int.le_refl _
    | some v =>
      have := (tri_sum F h).2
      simp only
      split <;> omega
  have pick : ∀ i, i < n * n → ls n th i = 1 → 0 < (match th (i / n) (i % n) with | some v => if i / n < i % n ∧ i / n < v then DI (p (i / n)) (p (i % n)) (p v) else 0 | none => 0) := by
    intro i _ hl
    unfold ls at hl
    cases h : th (i / n) (i % n) with
    | none => rw [h] at hl; cases hl
    | some v =>
      rw [h] at hl
      simp only at hl ⊢
      have := (tri_sum F h).2
      split at hl
      · next q => rw [if_pos q]; exact this
      · cases hl
  have zero : sm (fun _ => 0) (n * n) = 0 := sm_zero _ _ fun _ _ => rfl
  obtain ⟨v, hv⟩ := full _ _ (F.bd 0 hn)
  obtain ⟨c1, c2, c3⟩ := code (n := n) hn (G.nl 0 hn)
  have h : th ((0 * n + nx 0) / n) ((0 * n + nx 0) % n) = some v := by rw [c2, c3]; exact hv
  have one := ls_one F h
  refine Int.lt_of_le_of_lt (Int.le_of_eq zero.symm) ?_
  rcases ls_01 (n := n) (th := th) (0 * n + nx 0) with a | a
  · rcases ls_01 (n := n) (th := th) (rho n th (0 * n + nx 0)) with b | b
    · rcases ls_01 (n := n) (th := th) (rhp n th (0 * n + nx 0)) with c | c
      · omega
      · exact sm_lt nonneg (last_side F h).1 (pick _ (last_side F h).1 c)
    · exact sm_lt nonneg (next_side F h).1 (pick _ (next_side F h).1 b)
  · exact sm_lt nonneg c1 (pick _ c1 a)
end
end Jor
#print axioms Jor.area_pos
end Go.Proofs.Ytdkaoopkbhaheaa
namespace Go.Proofs.Ytdkaoopkbhaheaa
namespace Jor
set_option linter.unusedVariables false
set_option linter.unusedSimpArgs false
section
variable {P : Nat → Pt} {n : Nat} {nx pv : Nat → Nat}
theorem Bd.rev (G : Bd P n nx pv) : Bd P n pv nx where
  inj := G.inj
  nl := G.pl
  pl := G.nl
  np := G.pn
  pn := G.np
  n1 := fun i hi => G.p1 hi
  n2 := fun i hi => Ne.symm (G.n2 i hi)
  nf := fun i hi h => G.nf i hi (fold_swap h)
  nm := fun i j hi hj hij h1 h2 m => by
    refine G.nm (pv i) (pv j) (G.pl i hi) (G.pl j hj) (fun e => hij (by rw [← G.np i hi, e, G.np j hj])) (by rw [G.np i hi]; exact Ne.symm h2) (by rw [G.np j hj]; exact Ne.symm h1) ?_
    rw [G.np i hi, G.np j hj]
    exact (Mt_flip _ _ _ _).1 ((Mt_flip' _ _ _ _).1 m)
theorem sm_neg (f : Nat → Int) (n : Nat) : sm (fun k => - f k) n = - sm f n := by
  induction n with
  | zero => rfl
  | succ n ih => simp only [sm]; rw [ih]; omega
theorem wd_rev (G : Bd P n nx pv) (q : Pt) : wd P n pv q = - wd P n nx q := by
  unfold wd
  rw [← sm_perm (fun j => cr q (P j) (P (pv j))) n nx pv G.nl G.pl G.pn G.np, ← sm_neg]
  exact sm_congr fun k hk => by rw [G.pn k hk, cr_flip]
theorem inn_rev (G : Bd P n nx pv) (i : Nat) (hi : i < n) : inn P n pv nx i (P (pv i)) = 1 - inn P n nx pv i (P (nx i)) := by
  have h := ahead_flip (G.ne (G.pl i hi) hi (G.p1 hi)) (G.ne (G.nl i hi) hi (G.n1 i hi)) (G.nf i hi)
  rw [inn_nx, inn_nx, wd_rev G]
  omega
end
section
variable {p : Nat → IP} {n : Nat} {nx pv : Nat → Nat}
theorem area_rev (G : Bd (fun i => toR (p i)) n nx pv) : sm (fun i => crx (p i) (p (pv i))) n = - sm (fun i => crx (p i) (p (nx i))) n := by
  rw [← sm_perm (fun j => crx (p j) (p (pv j))) n nx pv G.nl G.pl G.pn G.np, ← sm_neg]
  exact sm_congr fun k hk => by rw [G.pn k hk, crx_anti]
theorem area_sign (G : Bd (fun i => toR (p i)) n nx pv) (hn : 0 < n) (off : ∀ i v, i < n → v < n → v ≠ i → v ≠ nx i → ¬ On (toR (p v)) (toR (p i)) (toR (p (nx i)))) (L : Int) (h01 : L = 0 ∨ L = 1) (left : ∀ i, i < n → inn (fun i => toR (p i)) n nx pv i (toR (p (nx i))) = L) :
    (L = 1 ∧ 0 < sm (fun i => crx (p i) (p (nx i))) n) ∨ (L = 0 ∧ sm (fun i => crx (p i) (p (nx i))) n < 0) := by
  rcases h01 with h | h
  · right
    refine ⟨h, ?_⟩
    have := area_pos G.rev hn (fun i v hi hv h1 h2 o => ?_) (fun i hi => by have := inn_rev G i hi; rw [left i hi, h] at this; exact this)
    · rw [area_rev G] at this; omega
    · have e := G.np i hi
      have := off (pv i) v (G.pl i hi) hv h2 (by rw [e]; exact h1)
      rw [e] at this
      exact this o.swap
  · left
    exact ⟨h, area_pos G hn off (fun i hi => by rw [left i hi, h])⟩
end
end Jor
#print axioms Jor.area_sign
end Go.Proofs.Ytdkaoopkbhaheaa
namespace Go.Proofs.Ytdkaoopkbhaheaa
namespace Jor
set_option linter.unusedVariables false
set_option linter.unusedSimpArgs false
def nxm (n i : Nat) : Nat := (i + 1) % n
def pvm (n i : Nat) : Nat := (i + (n - 1)) % n
theorem nxm_cases {n i : Nat} (hi : i < n) : (nxm n i = i + 1 ∧ i + 1 < n) ∨ (nxm n i = 0 ∧ i + 1 = n) := by
  unfold nxm
  by_cases h : i + 1 < n
  · exact .inl ⟨Nat.mod_eq_of_lt h, h⟩
  · have : i + 1 = n := by omega
    exact .inr ⟨by rw [this, Nat.mod_self], this⟩
theorem pvm_cases {n i : Nat} (hi : i < n) : (pvm n i = i - 1 ∧ 0 < i) ∨ (pvm n i = n - 1 ∧ i = 0) := by
  unfold pvm
  by_cases h : i = 0
  · subst h
    exact .inr ⟨by rw [Nat.zero_add]; exact Nat.mod_eq_of_lt (by omega), rfl⟩
  · refine .inl ⟨?_, by omega⟩
    rw [show i + (n - 1) = (i - 1) + n by omega, Nat.add_mod_right]
    exact Nat.mod_eq_of_lt (by omega)
theorem ring_bd {ps : Nat → IP} {n : Nat} (R : RingI ps n) (inj : ∀ i j, i < n → j < n → ps i = ps j → i = j) : Bd (fun i => toR (ps i)) n (nxm n) (pvm n) := by
  have h3 := R.three
  have np : ∀ i, i < n → nxm n (pvm n i) = i := fun i hi => by
    rcases pvm_cases hi with ⟨e, h⟩ | ⟨e, h⟩
    · rw [e]; rcases nxm_cases (n := n) (i := i - 1) (by omega) with ⟨f, g⟩ | ⟨f, g⟩ <;> omega
    · rw [e]; rcases nxm_cases (n := n) (i := n - 1) (by omega) with ⟨f, g⟩ | ⟨f, g⟩ <;> omega
  have pn : ∀ i, i < n → pvm n (nxm n i) = i := fun i hi => by
    rcases nxm_cases hi with ⟨e, h⟩ | ⟨e, h⟩
    · rw [e]; rcases pvm_cases (n := n) (i := i + 1) h with ⟨f, g⟩ | ⟨f, g⟩ <;> omega
    · rw [e]; rcases pvm_cases (n := n) (i := 0) (by omega) with ⟨f, g⟩ | ⟨f, g⟩ <;> omega
  refine ⟨fun i j hi hj e => inj i j hi hj (toR_inj e), fun i _ => Nat.mod_lt _ (by omega), fun i _ => Nat.mod_lt _ (by omega), np, pn, ?_, ?_, ?_, ?_⟩
  · intro i hi
    rcases nxm_cases hi with ⟨e, h⟩ | ⟨e, h⟩ <;> omega
  · intro i hi
    rcases nxm_cases hi with ⟨e, h⟩ | ⟨e, h⟩ <;> rcases pvm_cases hi with ⟨f, g⟩ | ⟨f, g⟩ <;> omega
  · intro i hi
    have h := R.ring.nf (i + (n - 1))
    have e1 : (i + (n - 1) + 1) % n = i := by rw [show i + (n - 1) + 1 = i + n by omega, Nat.add_mod_right]; exact Nat.mod_eq_of_lt hi
    have e2 : (i + (n - 1) + 2) % n = nxm n i := by rw [show i + (n - 1) + 2 = (i + 1) + n by omega, Nat.add_mod_right]; rfl
    simp only [e1, e2] at h
    exact h
  · have nm : ∀ i t, i < n → 2 ≤ t → t + 2 ≤ n → ¬ Mt (toR (ps i)) (toR (ps (nxm n i))) (toR (ps ((i + t) % n))) (toR (ps (nxm n ((i + t) % n)))) := by
      intro i t hi h1 h2
      have h := R.ring.nm i t h1 h2
      have e1 : i % n = i := Nat.mod_eq_of_lt hi
      have e2 : (i + t + 1) % n = nxm n ((i + t) % n) := by unfold nxm; rw [Nat.mod_add_mod]
      simp only [e1, e2] at h
      exact h
    intro i j hi hj hij h1 h2
    by_cases lt : i < j
    · have h := nm i (j - i) hi (by rcases nxm_cases hi with ⟨e, _⟩ | ⟨e, _⟩ <;> omega) (by rcases nxm_cases hj with ⟨e, _⟩ | ⟨e, _⟩ <;> omega)
      have e : (i + (j - i)) % n = j := by rw [show i + (j - i) = j by omega]; exact Nat.mod_eq_of_lt hj
      rw [e] at h
      exact h
    · have h := nm i (j + n - i) hi (by rcases nxm_cases hi with ⟨e, _⟩ | ⟨e, _⟩ <;> omega) (by rcases nxm_cases hj with ⟨e, _⟩ | ⟨e, _⟩ <;> omega)
      have e : (i + (j + n - i)) % n = j := by rw [show i + (j + n - i) = j + n by omega, Nat.add_mod_right]; exact Nat.mod_eq_of_lt hj
      rw [e] at h
      exact h
theorem wd_ring {ps : Nat → IP} {n : Nat} (q : Pt) : wd (fun i => toR (ps i)) n (nxm n) q = wind (fun k => toR (ps (k % n))) n q := by
  unfold wd wind
  refine sm_congr fun k hk => ?_
  simp only [Nat.mod_eq_of_lt hk]
  rfl
theorem left_ring {ps : Nat → IP} {n : Nat} (R : RingI ps n) : ∃ L : Int, (L = 0 ∨ L = 1) ∧ ∀ i, i < n → inn (fun i => toR (ps i)) n (nxm n) (pvm n) i (toR (ps (nxm n i))) = L := by
  refine ⟨leftOf (fun k => toR (ps (k % n))) n, left_01 R.ring, fun i hi => ?_⟩
  have h3 := R.three
  have h := left_all R.ring (i + (n - 1))
  have e1 : (i + (n - 1) + 1) % n = i := by rw [show i + (n - 1) + 1 = i + n by omega, Nat.add_mod_right]; exact Nat.mod_eq_of_lt hi
  have e2 : (i + (n - 1) + 2) % n = nxm n i := by rw [show i + (n - 1) + 2 = (i + 1) + n by omega, Nat.add_mod_right]; rfl
  simp only [e1, e2] at h
  have g := inn_nx (P := fun i => toR (ps i)) (n := n) (nx := nxm n) (pv := pvm n) i
  rw [wd_ring] at g
  exact g.trans h
end Jor
end Go.Proofs.Ytdkaoopkbhaheaa
namespace Go.Proofs.Ytdkaoopkbhaheaa
namespace Jor
set_option linter.unusedVariables false
set_option linter.unusedSimpArgs false
theorem btw_mul {a x b : Int} (h : 0 ≤ (x - a) * (b - x)) : Geo.Btw a x b := by
  unfold Geo.Btw
  rcases Int.lt_trichotomy (x - a) 0 with h1 | h1 | h1
  · have : b - x ≤ 0 := by
      by_cases q : b - x ≤ 0
      · exact q
      · have := Int.mul_neg_of_neg_of_pos h1 (show 0 < b - x by omega); omega
    omega
  · omega
  · have : 0 ≤ b - x := by
      by_cases q : 0 ≤ b - x
      · exact q
      · have := Int.mul_neg_of_pos_of_neg h1 (show b - x < 0 by omega); omega
    omega
theorem on_int {p a b : IP} (h : On (toR p) (toR a) (toR b)) : OnI p a b := by
  obtain ⟨h0, h1⟩ := h
  rw [D_toR] at h0
  have d : DI a b p = 0 := by exact_mod_cast h0
  have s : 0 ≤ (p.1 - a.1) * (b.1 - p.1) + (p.2 - a.2) * (b.2 - p.2) := by
    simp only [toR] at h1
    exact_mod_cast h1
  have e : (p.1 - a.1) * (b.2 - p.2) = (b.1 - p.1) * (p.2 - a.2) := by unfold DI Geo.D at d; grind
  have q : ((p.1 - a.1) * (b.1 - p.1)) * ((p.2 - a.2) * (b.2 - p.2)) = ((p.1 - a.1) * (b.2 - p.2)) * ((p.1 - a.1) * (b.2 - p.2)) := by
    have : ((p.1 - a.1) * (b.1 - p.1)) * ((p.2 - a.2) * (b.2 - p.2)) = ((p.1 - a.1) * (b.2 - p.2)) * ((b.1 - p.1) * (p.2 - a.2)) := by grind
    rw [this, ← e]
  have nn := sq_nonneg_int ((p.1 - a.1) * (b.2 - p.2))
  rw [← q] at nn
  have k : 0 ≤ (p.1 - a.1) * (b.1 - p.1) ∧ 0 ≤ (p.2 - a.2) * (b.2 - p.2) := by
    clear q e d h1 h0
    generalize (p.1 - a.1) * (b.1 - p.1) = x at *
    generalize (p.2 - a.2) * (b.2 - p.2) = y at *
    refine ⟨?_, ?_⟩
    · by_cases g : 0 ≤ x
      · exact g
      · have := Int.mul_neg_of_neg_of_pos (show x < 0 by omega) (show 0 < y by omega); omega
    · by_cases g : 0 ≤ y
      · exact g
      · have := Int.mul_neg_of_pos_of_neg (show 0 < x by omega) (show y < 0 by omega); omega
  exact ⟨d, btw_mul k.1, btw_mul k.2⟩
theorem ring_area {ps : Nat → IP} {n : Nat} (R : RingI ps n) (inj : ∀ i j, i < n → j < n → ps i = ps j → i = j) (off : ∀ i v, i < n → v < n → v ≠ i → v ≠ nxm n i → ¬ OnI (ps v) (ps i) (ps (nxm n i))) :
    ((∀ i, i < n → inn (fun i => toR (ps i)) n (nxm n) (pvm n) i (toR (ps (nxm n i))) = 1) ∧ 0 < sm (fun i => crx (ps i) (ps (nxm n i))) n) ∨
    ((∀ i, i < n → inn (fun i => toR (ps i)) n (nxm n) (pvm n) i (toR (ps (nxm n i))) = 0) ∧ sm (fun i => crx (ps i) (ps (nxm n i))) n < 0) := by
  obtain ⟨L, h01, hl⟩ := left_ring R
  have h3 := R.three
  rcases area_sign (ring_bd R inj) (by omega) (fun i v hi hv h1 h2 o => off i v hi hv h1 h2 (on_int o)) L h01 hl with ⟨e, h⟩ | ⟨e, h⟩
  · exact .inl ⟨fun i hi => by rw [hl i hi, e], h⟩
  · exact .inr ⟨fun i hi => by rw [hl i hi, e], h⟩
end Jor
#print axioms Jor.ring_area
end Go.Proofs.Ytdkaoopkbhaheaa
namespace Go.Proofs.Ytdkaoopkbhaheaa
namespace Jor
set_option linter.unusedVariables false
set_option linter.unusedSimpArgs false
def q2 (a w : Pt) : Rat := (a.1 - w.1) * (a.1 - w.1) + (a.2 - w.2) * (a.2 - w.2)
def inc (a b v w : Pt) : Rat := q2 a w * D b v w + q2 b w * D v a w + q2 v w * D a b w
theorem inc_rot (a b v w : Pt) : inc a b v w = inc b v a w := by unfold inc; grind
theorem q2_nn (a w : Pt) : 0 ≤ q2 a w := Rat.add_nonneg (sq_nn _) (sq_nn _)
theorem vec1 (a b v w : Pt) : D b v w * (a.1 - w.1) + D v a w * (b.1 - w.1) + D a b w * (v.1 - w.1) = 0 := by unfold D; grind
theorem vec2 (a b v w : Pt) : D b v w * (a.2 - w.2) + D v a w * (b.2 - w.2) + D a b w * (v.2 - w.2) = 0 := by unfold D; grind
theorem inc_out {a b v w : Pt} (h : 0 < D a b v) (h1 : D v a w ≤ 0) (h2 : D a b w ≤ 0) : inc a b v w ≤ 0 := by
  have v1 := vec1 a b v w
  have v2 := vec2 a b v w
  have ba := bary a b v w
  have nb := q2_nn b w
  have nv := q2_nn v w
  have nd := q2_nn b v
  unfold inc
  have qa : q2 a w = (a.1 - w.1) * (a.1 - w.1) + (a.2 - w.2) * (a.2 - w.2) := rfl
  have qb : q2 b w = (b.1 - w.1) * (b.1 - w.1) + (b.2 - w.2) * (b.2 - w.2) := rfl
  have qv : q2 v w = (v.1 - w.1) * (v.1 - w.1) + (v.2 - w.2) * (v.2 - w.2) := rfl
  have qd : q2 b v = ((b.1 - w.1) - (v.1 - w.1)) * ((b.1 - w.1) - (v.1 - w.1)) + ((b.2 - w.2) - (v.2 - w.2)) * ((b.2 - w.2) - (v.2 - w.2)) := by unfold q2; grind
  have al : 0 < D b v w := by grind
  generalize D b v w = α at *
  generalize D v a w = β at *
  generalize D a b w = γ at *
  generalize D a b v = Δ at *
  generalize q2 a w = A at *
  generalize q2 b w = B at *
  generalize q2 v w = V at *
  generalize q2 b v = W at *
  generalize a.1 - w.1 = a1 at *
  generalize a.2 - w.2 = a2 at *
  generalize b.1 - w.1 = b1 at *
  generalize b.2 - w.2 = b2 at *
  generalize v.1 - w.1 = c1 at *
  generalize v.2 - w.2 = c2 at *
  have id : α * - (A * α + B * β + V * γ) = Δ * ((-β) * B + (-γ) * V) + ((-β) * (-γ)) * W := by
    have e1 : α * a1 = - (β * b1 + γ * c1) := by grind
    have e2 : α * a2 = - (β * b2 + γ * c2) := by grind
    have e3 : α * (A * α) = (α * a1) * (α * a1) + (α * a2) * (α * a2) := by rw [qa]; grind
    have e4 : α * - (A * α + B * β + V * γ) = - (α * (A * α)) - α * (B * β + V * γ) := by grind
    rw [e4, e3, e1, e2, qb, qv, qd, ← ba]
    grind
  have m1 := nn_mul (show 0 ≤ -β by grind) nb
  have m2 := nn_mul (show 0 ≤ -γ by grind) nv
  have m3 := nn_mul (nn_mul (show 0 ≤ -β by grind) (show 0 ≤ -γ by grind)) nd
  have m4 := nn_mul (show 0 ≤ Δ by grind) (Rat.add_nonneg m1 m2)
  have m5 : 0 ≤ α * - (A * α + B * β + V * γ) := by rw [id]; exact Rat.add_nonneg m4 m3
  have m6 := nn_of_mul al m5
  clear id m1 m2 m3 m4 m5 v1 v2 qa qb qv qd
  grind
theorem inc_convex {a b v w : Pt} (h : 0 < D a b v) (hw : 0 < D a v w) (hi : 0 < inc a b v w) : 0 < D a b w ∧ 0 < D b v w := by
  have f := D_flip a v w
  refine ⟨?_, ?_⟩
  · by_cases q : 0 < D a b w
    · exact q
    · have := inc_out h (show D v a w ≤ 0 by grind) (show D a b w ≤ 0 by grind)
      exfalso; grind
  · by_cases q : 0 < D b v w
    · exact q
    · have r := D_rot2 a b v
      have := inc_out (a := v) (b := a) (v := b) (w := w) (by grind) (show D b v w ≤ 0 by grind) (show D v a w ≤ 0 by grind)
      have e1 := inc_rot a b v w
      have e2 := inc_rot b v a w
      exfalso; grind
end Jor
#print axioms Jor.inc_convex
end Go.Proofs.Ytdkaoopkbhaheaa
namespace Go.Proofs.Ytdkaoopkbhaheaa
namespace Jor
set_option linter.unusedVariables false
set_option linter.unusedSimpArgs false
section
variable {P : Nat → Pt} {n : Nat} {nx pv : Nat → Nat} {K : Nat → Nat → Prop} {th : Nat → Nat → Option Nat}
theorem other_half (G : Bd P n nx pv) (F : Front P n nx pv K th) {a b v w : Nat} (k : K a b) (C : Clear P n K a b v) (E : Clear P n K a v w) (nk : ¬ KK K a v) (h1 : 0 < D (P a) (P b) (P w)) (h2 : 0 < D (P b) (P v) (P w)) : Clear P n K a b w := by
  have ha := F.fa _ _ k; have hb := F.fb _ _ k; have hv := C.lt; have hw := E.lt
  have va := C.va; have vb := C.vb; have ab := C.ab; have wa := E.va; have wv := E.vb
  have wb : w ≠ b := fun e => by rw [e, D_end] at h1; grind
  have lv := C.left; have lw := E.left
  have r1 := D_rot (P a) (P b) (P w); have r2 := D_rot2 (P a) (P b) (P w)
  have r3 := D_rot (P b) (P v) (P w); have r4 := D_rot2 (P b) (P v) (P w)
  have r5 := D_rot (P a) (P b) (P v); have r6 := D_rot (P a) (P v) (P w)
  have sbw := D_swap (P b) (P v) (P w)
  -- no vertex in either half of the whole
  have free : ∀ z, z < n → z ≠ a → z ≠ b → z ≠ w → ¬ Tri (P z) (P a) (P b) (P w) := by
    intro z hz z1 z2 z3 t
    by_cases zv : z = v
    · rw [zv] at t; have := t.2.1; grind
    · by_cases q : 0 < D (P a) (P v) (P z)
      · refine E.free z hz z1 zv z3 ⟨by grind, ?_, t.2.2⟩
        have bs := bary_s (P a) (P b) (P w) (P v) (P w) (P z)
        rw [D_end, Rat.mul_zero, Rat.add_zero] at bs
        have m1 := nn_mul t.2.1 (show 0 ≤ D (P v) (P w) (P a) by grind)
        have m2 := nn_mul t.2.2 (show 0 ≤ D (P v) (P w) (P b) by grind)
        refine nn_of_mul h1 ?_
        rw [bs]
        exact Rat.add_nonneg m1 m2
      · have f := D_flip (P a) (P v) (P z)
        refine C.free z hz z1 z2 zv ⟨t.1, ?_, by grind⟩
        have bs := bary_s (P a) (P b) (P w) (P b) (P v) (P z)
        rw [D_beg, Rat.mul_zero, Rat.add_zero] at bs
        have m1 := nn_mul t.2.1 (show 0 ≤ D (P b) (P v) (P a) by grind)
        have m2 := nn_mul t.1 (show 0 ≤ D (P b) (P v) (P w) by grind)
        refine nn_of_mul h1 ?_
        rw [bs]
        exact Rat.add_nonneg m1 m2
  have free2 : ∀ z, z < n → z ≠ v → z ≠ w → z ≠ b → z ≠ a → ¬ Tri (P z) (P v) (P w) (P b) := by
    intro z hz z1 z2 z3 z4 t
    by_cases q : 0 < D (P a) (P v) (P z)
    · refine E.free z hz z4 z1 z2 ⟨by grind, t.1, ?_⟩
      have bs := bary_s (P v) (P w) (P b) (P w) (P a) (P z)
      rw [D_beg, Rat.mul_zero, Rat.add_zero] at bs
      have m1 := nn_mul t.2.1 (show 0 ≤ D (P w) (P a) (P v) by have := D_rot2 (P a) (P v) (P w); grind)
      have m2 := nn_mul t.1 (show 0 ≤ D (P w) (P a) (P b) by grind)
      refine nn_of_mul (show 0 < D (P v) (P w) (P b) by grind) ?_
      rw [bs]
      exact Rat.add_nonneg m1 m2
    · have f := D_flip (P a) (P v) (P z)
      refine C.free z hz z4 z3 z1 ⟨?_, t.2.2, by grind⟩
      have bs := bary_s (P v) (P w) (P b) (P a) (P b) (P z)
      rw [D_end, Rat.mul_zero, Rat.add_zero] at bs
      have m1 := nn_mul t.2.1 (show 0 ≤ D (P a) (P b) (P v) by grind)
      have m2 := nn_mul t.2.2 (show 0 ≤ D (P a) (P b) (P w) by grind)
      refine nn_of_mul (show 0 < D (P v) (P w) (P b) by grind) ?_
      rw [bs]
      exact Rat.add_nonneg m1 m2
  -- sides against what is known either way
  have two : ∀ {x y : Nat}, (∀ c d, K c d → c ≠ x → d ≠ x → c ≠ y → d ≠ y → ¬ Mt (P x) (P y) (P c) (P d)) → ∀ c d, KK K c d → c ≠ x → d ≠ x → c ≠ y → d ≠ y → ¬ Mt (P x) (P y) (P c) (P d) := by
    intro x y s c d h c1 d1 c2 d2
    rcases h with h | h
    · exact s c d h c1 d1 c2 d2
    · exact fun m => s d c h d1 c1 d2 c2 ((Mt_flip _ _ _ _).1 m)
  have cbv := two C.s2
  have evw := two E.s2
  have ewa := two E.s3
  have way : ∀ e f, KK K e f → e ≠ b → f ≠ b → e ≠ w → f ≠ w → D (P b) (P w) (P e) < 0 → 0 < D (P b) (P w) (P f) → 0 < D (P e) (P f) (P b) → D (P e) (P f) (P w) < 0 → False := by
    intro e f h e1 f1 e2 f2 q1 q2 q3 q4
    have ea : e ≠ a := fun x => by rw [x] at q1; grind
    by_cases fa : f = a
    · -- an edge from a: across b w, it ends at v
      rw [fa] at h q2 q3 q4
      have g1 := D_flip (P b) (P w) (P e); have g2 := D_flip (P b) (P w) (P a)
      have g3 := D_flip (P e) (P a) (P b); have g4 := D_flip (P e) (P a) (P w)
      by_cases ev : e = v
      · rw [ev] at h; exact nk h.symm
      · rcases pasch1 (a := P v) (b := P w) (u := P b) (e := P a) (f := P e) (by grind) (by grind) (by grind) (by grind) (by grind) (fun t => by have := t.2.1; grind) (free2 e (h.l F) ev e2 e1 ea) (evw a e h.symm (Ne.symm va) ev (Ne.symm wa) e2) with g | g
        · exact cbv a e h.symm ab e1 (Ne.symm va) ev g
        · exact KK.off F h.symm hv va (Ne.symm ev) g
    · rcases pasch1 h1 q1 q2 q3 q4 (fun t => by have := t.2.1; grind) (free f (h.r F) fa f1 f2) (KK.cross F (.inl k) h (Ne.symm ea) (Ne.symm fa) (Ne.symm e1) (Ne.symm f1)) with g | g
      · exact ewa e f h e2 f2 ea fa g
      · exact KK.off F h ha (Ne.symm ea) (Ne.symm fa) g
  refine ⟨hw, h1, free, C.s1, ?_, E.s3⟩
  intro c d hk c1 d1 c2 d2 m
  have h : KK K c d := .inl hk
  have on : ∀ z, z < n → z ≠ b → z ≠ w → ¬ On (P z) (P b) (P w) := fun z hz x1 x2 o => by
    by_cases e : z = a
    · rw [e] at o; have := o.1; grind
    · exact free z hz e x1 x2 (Tri.rot (Tri.rot (on_tri o (by grind))))
  rcases Mt_strict (G.ne hb hw (Ne.symm wb)) (G.ne (h.l F) (h.r F) (Ne.symm (KK.ne F h))) m with ⟨o1, o2⟩ | g | g | g | g
  · have cs := cross_sum (P b) (P w) (P c) (P d)
    have f3 := D_flip (P c) (P d) (P b); have f4 := D_flip (P c) (P d) (P w)
    unfold Opp at o1 o2
    rcases o1 with ⟨q1, q2⟩ | ⟨q1, q2⟩
    · exact way d c h.symm d1 c1 d2 c2 q2 q1 (by grind) (by grind)
    · exact way c d h c1 d1 c2 d2 q1 q2 (by grind) (by grind)
  · exact KK.off F h hb (Ne.symm c1) (Ne.symm d1) g
  · exact KK.off F h hw (Ne.symm c2) (Ne.symm d2) g
  · exact on c (h.l F) c1 c2 g
  · exact on d (h.r F) d1 d2 g
theorem del_a (G : Bd P n nx pv) (F : Front P n nx pv K th) {a b v w : Nat} (k : K a b) (C : Clear P n K a b v) (best : ∀ z, Clear P n K a b z → inc (P a) (P b) (P v) (P z) ≤ 0) (nk : ¬ KK K a v) (E : Clear P n K a v w) : inc (P a) (P b) (P v) (P w) ≤ 0 := by
  by_cases hi : 0 < inc (P a) (P b) (P v) (P w)
  · obtain ⟨h1, h2⟩ := inc_convex C.left E.left hi
    exact best w (other_half G F k C E nk h1 h2)
  · grind
end
end Jor
#print axioms Jor.del_a
end Go.Proofs.Ytdkaoopkbhaheaa
namespace Go.Proofs.Ytdkaoopkbhaheaa
namespace Jor
set_option linter.unusedVariables false
set_option linter.unusedSimpArgs false
section
variable {P : Nat → Pt} {n : Nat} {nx pv : Nat → Nat} {K : Nat → Nat → Prop} {th : Nat → Nat → Option Nat}
theorem other_half_b (G : Bd P n nx pv) (F : Front P n nx pv K th) {a b v w : Nat} (k : K a b) (C : Clear P n K a b v) (E : Clear P n K v b w) (nk : ¬ KK K b v) (h1 : 0 < D (P a) (P b) (P w)) (h2 : 0 < D (P v) (P a) (P w)) : Clear P n K a b w := by
  have ha := F.fa _ _ k; have hb := F.fb _ _ k; have hv := C.lt; have hw := E.lt
  have va := C.va; have vb := C.vb; have ab := C.ab; have wv := E.va; have wb := E.vb
  have wa : w ≠ a := fun e => by rw [e, D_beg] at h1; grind
  have lv := C.left; have lw := E.left
  have r1 := D_rot (P a) (P b) (P w); have r2 := D_rot2 (P a) (P b) (P w)
  have r3 := D_rot (P v) (P a) (P w); have r4 := D_rot2 (P v) (P a) (P w)
  have r5 := D_rot2 (P a) (P b) (P v); have r6 := D_rot (P v) (P b) (P w); have r7 := D_rot2 (P v) (P b) (P w)
  have swa := D_flip (P a) (P w) (P v)
  have sab := D_swap (P a) (P b) (P w)
  have free : ∀ z, z < n → z ≠ a → z ≠ b → z ≠ w → ¬ Tri (P z) (P a) (P b) (P w) := by
    intro z hz z1 z2 z3 t
    by_cases zv : z = v
    · rw [zv] at t; have := t.2.2; grind
    · by_cases q : 0 < D (P v) (P b) (P z)
      · refine E.free z hz zv z2 z3 ⟨by grind, t.2.1, ?_⟩
        have bs := bary_s (P a) (P b) (P w) (P w) (P v) (P z)
        rw [D_beg, Rat.mul_zero, Rat.add_zero] at bs
        have m1 := nn_mul t.2.1 (show 0 ≤ D (P w) (P v) (P a) by grind)
        have m2 := nn_mul t.2.2 (show 0 ≤ D (P w) (P v) (P b) by grind)
        refine nn_of_mul h1 ?_
        rw [bs]
        exact Rat.add_nonneg m1 m2
      · have f := D_flip (P v) (P b) (P z)
        refine C.free z hz z1 z2 zv ⟨t.1, by grind, ?_⟩
        have bs := bary_s (P a) (P b) (P w) (P v) (P a) (P z)
        rw [D_end, Rat.mul_zero, Rat.zero_add] at bs
        have m1 := nn_mul t.2.2 (show 0 ≤ D (P v) (P a) (P b) by grind)
        have m2 := nn_mul t.1 (show 0 ≤ D (P v) (P a) (P w) by grind)
        refine nn_of_mul h1 ?_
        rw [bs]
        exact Rat.add_nonneg m1 m2
  have free2 : ∀ z, z < n → z ≠ v → z ≠ a → z ≠ w → z ≠ b → ¬ Tri (P z) (P v) (P a) (P w) := by
    intro z hz z1 z2 z3 z4 t
    by_cases q : 0 < D (P v) (P b) (P z)
    · refine E.free z hz z1 z4 z3 ⟨by grind, ?_, t.2.2⟩
      have bs := bary_s (P v) (P a) (P w) (P b) (P w) (P z)
      rw [D_end, Rat.mul_zero, Rat.add_zero] at bs
      have m1 := nn_mul t.2.1 (show 0 ≤ D (P b) (P w) (P v) by grind)
      have m2 := nn_mul t.2.2 (show 0 ≤ D (P b) (P w) (P a) by grind)
      refine nn_of_mul h2 ?_
      rw [bs]
      exact Rat.add_nonneg m1 m2
    · have f := D_flip (P v) (P b) (P z)
      refine C.free z hz z2 z4 z1 ⟨?_, by grind, t.1⟩
      have bs := bary_s (P v) (P a) (P w) (P a) (P b) (P z)
      rw [D_beg, Rat.mul_zero, Rat.add_zero] at bs
      have m1 := nn_mul t.2.1 (show 0 ≤ D (P a) (P b) (P v) by grind)
      have m2 := nn_mul t.1 (show 0 ≤ D (P a) (P b) (P w) by grind)
      refine nn_of_mul h2 ?_
      rw [bs]
      exact Rat.add_nonneg m1 m2
  have two : ∀ {x y : Nat}, (∀ c d, K c d → c ≠ x → d ≠ x → c ≠ y → d ≠ y → ¬ Mt (P x) (P y) (P c) (P d)) → ∀ c d, KK K c d → c ≠ x → d ≠ x → c ≠ y → d ≠ y → ¬ Mt (P x) (P y) (P c) (P d) := by
    intro x y s c d h c1 d1 c2 d2
    rcases h with h | h
    · exact s c d h c1 d1 c2 d2
    · exact fun m => s d c h d1 c1 d2 c2 ((Mt_flip _ _ _ _).1 m)
  have cva := two C.s3
  have ebw := two E.s2
  have ewv := two E.s3
  have way : ∀ e f, KK K e f → e ≠ w → f ≠ w → e ≠ a → f ≠ a → D (P w) (P a) (P e) < 0 → 0 < D (P w) (P a) (P f) → 0 < D (P e) (P f) (P w) → D (P e) (P f) (P a) < 0 → False := by
    intro e f h e1 f1 e2 f2 q1 q2 q3 q4
    have eb : e ≠ b := fun x => by rw [x] at q1; grind
    by_cases fb : f = b
    · rw [fb] at h q2 q3 q4
      have g1 := D_flip (P w) (P a) (P e)
      have g3 := D_flip (P e) (P b) (P w); have g4 := D_flip (P e) (P b) (P a)
      by_cases ev : e = v
      · rw [ev] at h; exact nk h.symm
      · rcases pasch1 (a := P v) (b := P a) (u := P w) (e := P b) (f := P e) h2 (by grind) (by grind) (by grind) (by grind) (fun t => by have := t.2.1; grind) (free2 e (h.l F) ev e2 e1 eb) (cva b e h.symm (Ne.symm vb) ev (Ne.symm ab) e2) with g | g
        · exact ewv b e h.symm (Ne.symm wb) e1 (Ne.symm vb) ev g
        · exact KK.off F h.symm hv vb (Ne.symm ev) g
    · rcases pasch1 (a := P b) (b := P w) (u := P a) (e := P e) (f := P f) (by grind) q1 q2 q3 q4 (fun t => by have := t.2.1; grind) (fun t => free f (h.r F) f2 fb f1 (Tri.rot (Tri.rot t))) (ebw e f h eb fb e1 f1) with g | g
      · exact KK.cross F (.inl k) h (Ne.symm e2) (Ne.symm f2) (Ne.symm eb) (Ne.symm fb) g
      · exact KK.off F h hb (Ne.symm eb) (Ne.symm fb) g
  refine ⟨hw, h1, free, C.s1, E.s2, ?_⟩
  intro c d hk c1 d1 c2 d2 m
  have h : KK K c d := .inl hk
  have on : ∀ z, z < n → z ≠ w → z ≠ a → ¬ On (P z) (P w) (P a) := fun z hz x1 x2 o => by
    by_cases e : z = b
    · rw [e] at o; have := o.1; grind
    · exact free z hz x2 e x1 (Tri.rot (on_tri o (by grind)))
  rcases Mt_strict (G.ne hw ha wa) (G.ne (h.l F) (h.r F) (Ne.symm (KK.ne F h))) m with ⟨o1, o2⟩ | g | g | g | g
  · have cs := cross_sum (P w) (P a) (P c) (P d)
    have f3 := D_flip (P c) (P d) (P w); have f4 := D_flip (P c) (P d) (P a)
    unfold Opp at o1 o2
    rcases o1 with ⟨q1, q2⟩ | ⟨q1, q2⟩
    · exact way d c h.symm d1 c1 d2 c2 q2 q1 (by grind) (by grind)
    · exact way c d h c1 d1 c2 d2 q1 q2 (by grind) (by grind)
  · exact KK.off F h hw (Ne.symm c1) (Ne.symm d1) g
  · exact KK.off F h ha (Ne.symm c2) (Ne.symm d2) g
  · exact on c (h.l F) c1 c2 g
  · exact on d (h.r F) d1 d2 g
theorem del_b (G : Bd P n nx pv) (F : Front P n nx pv K th) {a b v w : Nat} (k : K a b) (C : Clear P n K a b v) (best : ∀ z, Clear P n K a b z → inc (P a) (P b) (P v) (P z) ≤ 0) (nk : ¬ KK K b v) (E : Clear P n K v b w) : inc (P a) (P b) (P v) (P w) ≤ 0 := by
  by_cases hi : 0 < inc (P a) (P b) (P v) (P w)
  · have e1 := inc_rot (P a) (P b) (P v) (P w)
    have e2 := inc_rot (P b) (P v) (P a) (P w)
    obtain ⟨h2, h1⟩ := inc_convex (a := P v) (b := P a) (v := P b) (w := P w) (by have := D_rot2 (P a) (P b) (P v); have := C.left; grind) E.left (by grind)
    exact best w (other_half_b G F k C E nk h1 h2)
  · grind
end
end Jor
#print axioms Jor.del_b
end Go.Proofs.Ytdkaoopkbhaheaa
