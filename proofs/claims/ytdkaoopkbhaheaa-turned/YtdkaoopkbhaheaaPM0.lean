import Derived.Test.YtdkaoopkbhaheaaPJ0
namespace Go.Proofs.Ytdkaoopkbhaheaa
namespace Jor
set_option linter.unusedVariables false
set_option linter.unusedSimpArgs false
theorem sm_out (f : Nat → Int) (a : Nat) : ∀ n, a < n → sm f n = f a + sm (fun j => if j = a then 0 else f j) n := by
  intro n
  induction n with
  | zero => intro h; omega
  | succ n ih =>
    intro h
    show sm f n + f n = f a + (sm (fun j => if j = a then 0 else f j) n + (if n = a then 0 else f n))
    by_cases e : n = a
    · subst e
      rw [if_pos rfl]
      have : sm (fun j => if j = n then 0 else f j) n = sm f n := sm_congr fun k hk => by rw [if_neg (by omega)]
      omega
    · rw [if_neg e, ih (by omega)]; omega
theorem sm_two (f : Nat → Int) (n a b : Nat) (ha : a < n) (hb : b < n) (hab : a ≠ b) (h : ∀ j, j < n → j ≠ a → j ≠ b → f j = 0) : sm f n = f a + f b := by
  rw [sm_out f a n ha, sm_out _ b n hb, if_neg (Ne.symm hab), sm_zero]
  · omega
  · intro j hj
    by_cases e : j = b
    · rw [if_pos e]
    · rw [if_neg e]
      by_cases e2 : j = a
      · rw [if_pos e2]
      · rw [if_neg e2]; exact h j hj e2 e
theorem sm_four (f : Nat → Int) (n a b c d : Nat) (ha : a < n) (hb : b < n) (hc : c < n) (hd : d < n) (hab : a ≠ b) (hac : a ≠ c) (had : a ≠ d) (hbc : b ≠ c) (hbd : b ≠ d) (hcd : c ≠ d)
    (h : ∀ j, j < n → j ≠ a → j ≠ b → j ≠ c → j ≠ d → f j = 0) : sm f n = f a + f b + f c + f d := by
  rw [sm_out f a n ha, sm_out _ b n hb, if_neg (Ne.symm hab), sm_two _ n c d hc hd hcd]
  · rw [if_neg (Ne.symm hbc), if_neg (Ne.symm hac), if_neg (Ne.symm hbd), if_neg (Ne.symm had)]; omega
  · intro j hj e1 e2
    by_cases e : j = b
    · rw [if_pos e]
    · rw [if_neg e]
      by_cases e3 : j = a
      · rw [if_pos e3]
      · rw [if_neg e3]; exact h j hj e3 e e1 e2
theorem sm_list (f : Nat → Int) (n : Nat) : sm f n = ((List.range n).map f).sum := by
  induction n with
  | zero => rfl
  | succ n ih => rw [List.range_succ, List.map_append, List.sum_append, ← ih]; simp [sm]
theorem sum_perm {l m : List Int} (h : l.Perm m) : l.sum = m.sum := by
  induction h with
  | nil => rfl
  | cons x _ ih => simp [ih]
  | swap x y l => simp; omega
  | trans _ _ h1 h2 => exact h1.trans h2
theorem sm_perm (f : Nat → Int) (n : Nat) (s t : Nat → Nat) (hs : ∀ i, i < n → s i < n) (ht : ∀ i, i < n → t i < n) (hts : ∀ i, i < n → t (s i) = i) (hst : ∀ i, i < n → s (t i) = i) : sm (fun j => f (s j)) n = sm f n := by
  rw [sm_list, sm_list, show (fun j => f (s j)) = f ∘ s from rfl, ← List.map_map]
  refine sum_perm (List.Perm.map f ?_)
  refine (List.perm_ext_iff_of_nodup ?_ List.nodup_range).2 fun a => ?_
  · rw [List.nodup_iff_pairwise_ne, List.pairwise_map]
    refine List.Pairwise.imp_of_mem (R := fun a b => a ≠ b) ?_ List.nodup_range
    intro a b ha hb hab e
    have h1 := hts a (by simpa using ha)
    have h2 := hts b (by simpa using hb)
    rw [e, h2] at h1
    exact hab h1.symm
  · simp only [List.mem_map, List.mem_range]
    constructor
    · rintro ⟨i, hi, rfl⟩; exact hs i hi
    · intro h; exact ⟨t a, ht a h, hst a h⟩
structure Bd (P : Nat → Pt) (n : Nat) (nx pv : Nat → Nat) : Prop where
  inj : ∀ i j, i < n → j < n → P i = P j → i = j
  nl : ∀ i, i < n → nx i < n
  pl : ∀ i, i < n → pv i < n
  np : ∀ i, i < n → nx (pv i) = i
  pn : ∀ i, i < n → pv (nx i) = i
  n1 : ∀ i, i < n → nx i ≠ i
  n2 : ∀ i, i < n → nx i ≠ pv i
  nf : ∀ i, i < n → ¬ Fold (P i) (P (pv i)) (P (nx i))
  nm : ∀ i j, i < n → j < n → i ≠ j → nx i ≠ j → nx j ≠ i → ¬ Mt (P i) (P (nx i)) (P j) (P (nx j))
def wd (P : Nat → Pt) (n : Nat) (nx : Nat → Nat) (q : Pt) : Int := sm (fun j => cr q (P j) (P (nx j))) n
def df (q r a b : Pt) : Int := cr q a b - cr r a b - (sw q r b - sw q r a)
theorem df_none {q r a b : Pt} (h : ¬ Mt q r a b) : df q r a b = 0 := by unfold df; rw [sweep h]; omega
theorem df_flip (q r a b : Pt) : df q r b a = - df q r a b := by unfold df; rw [cr_flip, cr_flip r a b]; omega
theorem sw_begin (a b : Pt) : sw a b a = 0 := by
  have h : D a b a = 0 := by unfold D; grind
  have h2 : D b a a = 0 := by unfold D; grind
  unfold sw str
  rw [h, h2]
  simp
theorem sw_end (a b : Pt) : sw a b b = 0 := by
  have h : D a b b = 0 := by unfold D; grind
  have h2 : D b a b = 0 := by unfold D; grind
  unfold sw str
  rw [h, h2]
  simp
theorem df_in (A B Z : Pt) (hZ : B ≠ Z) (hA : A ≠ B) (hf : ¬ Fold B A Z) : df B Z A B = kap B Z - ahead A B Z := by
  have h := begins A B Z hZ hA hf
  unfold df
  rw [cr_end, sw_begin]
  omega
theorem df_out (B Z C : Pt) (hZ : B ≠ Z) (hC : C ≠ Z) (hf : ¬ Fold Z B C) : df B Z Z C = ahead B Z C - kap B Z := by
  have h := ends B Z C hZ hC hf
  unfold df
  rw [cr_begin, sw_end]
  omega
theorem wd_diff {P : Nat → Pt} {n : Nat} {nx pv : Nat → Nat} (G : Bd P n nx pv) (q r : Pt) : wd P n nx q - wd P n nx r = sm (fun j => df q r (P j) (P (nx j))) n := by
  have e : sm (fun j => df q r (P j) (P (nx j))) n = sm (fun j => (cr q (P j) (P (nx j)) - cr r (P j) (P (nx j))) - (sw q r (P (nx j)) - sw q r (P j))) n := rfl
  rw [e, sm_sub, sm_sub, sm_sub]
  have t := sm_perm (fun j => sw q r (P j)) n nx pv G.nl G.pl G.pn G.np
  unfold wd
  omega
theorem fold_swap {B A C : Pt} (h : Fold B A C) : Fold B C A := by unfold Fold D at *; grind
def inn (P : Nat → Pt) (n : Nat) (nx pv : Nat → Nat) (i : Nat) (z : Pt) : Int := wd P n nx (P i) + ahead (P (pv i)) (P i) z - ahead (P (nx i)) (P i) z
theorem inn_open {P : Nat → Pt} {n : Nat} {nx pv : Nat → Nat} (G : Bd P n nx pv) (i : Nat) (hi : i < n) (q : Pt) (hq : P i ≠ q)
    (fa : ¬ Fold (P i) (P (pv i)) q) (fc : ¬ Fold (P i) (P (nx i)) q) (hm : ∀ j, j < n → j ≠ i → nx j ≠ i → ¬ Mt (P i) q (P j) (P (nx j))) :
    inn P n nx pv i q = wd P n nx q := by
  have hd := wd_diff G (P i) q
  have hpi : pv i ≠ i := fun e => G.n1 i hi (by have := G.np i hi; rw [e] at this; exact this)
  rw [sm_two _ n i (pv i) hi (G.pl i hi) (Ne.symm hpi)] at hd
  · have e1 : df (P i) q (P i) (P (nx i)) = - df (P i) q (P (nx i)) (P i) := df_flip ..
    rw [e1, G.np i hi, df_in _ _ _ hq (fun e => G.n1 i hi (G.inj _ _ (G.nl i hi) hi e)) fc, df_in _ _ _ hq (fun e => hpi (G.inj _ _ (G.pl i hi) hi e)) fa] at hd
    unfold inn
    omega
  · intro j hj h1 h2
    refine df_none (hm j hj h1 fun e => h2 ?_)
    rw [← e, G.pn j hj]
theorem inn_chord {P : Nat → Pt} {n : Nat} {nx pv : Nat → Nat} (G : Bd P n nx pv) (i k : Nat) (hi : i < n) (hk : k < n) (hik : i ≠ k) (h1 : nx i ≠ k) (h2 : nx k ≠ i)
    (fa : ¬ Fold (P i) (P (pv i)) (P k)) (fc : ¬ Fold (P i) (P (nx i)) (P k)) (ga : ¬ Fold (P k) (P i) (P (pv k))) (gc : ¬ Fold (P k) (P i) (P (nx k)))
    (hm : ∀ j, j < n → j ≠ i → nx j ≠ i → j ≠ k → nx j ≠ k → ¬ Mt (P i) (P k) (P j) (P (nx j))) :
    inn P n nx pv i (P k) = wd P n nx (P k) + ahead (P i) (P k) (P (nx k)) - ahead (P i) (P k) (P (pv k)) := by
  have hd := wd_diff G (P i) (P k)
  have hne : P i ≠ P k := fun e => hik (G.inj _ _ hi hk e)
  have hpi : pv i ≠ i := fun e => G.n1 i hi (by have := G.np i hi; rw [e] at this; exact this)
  have hpk : pv k ≠ k := fun e => G.n1 k hk (by have := G.np k hk; rw [e] at this; exact this)
  have q1 : pv i ≠ k := fun e => h2 (by rw [← e, G.np i hi])
  have q2 : pv k ≠ i := fun e => h1 (by rw [← e, G.np k hk])
  have q3 : pv i ≠ pv k := fun e => hik (by rw [← G.np i hi, e, G.np k hk])
  rw [sm_four _ n i (pv i) k (pv k) hi (G.pl i hi) hk (G.pl k hk) (Ne.symm hpi) hik (Ne.symm q2) q1 q3 (Ne.symm hpk)] at hd
  · have e1 : df (P i) (P k) (P i) (P (nx i)) = - df (P i) (P k) (P (nx i)) (P i) := df_flip ..
    have e2 : df (P i) (P k) (P (pv k)) (P k) = - df (P i) (P k) (P k) (P (pv k)) := df_flip ..
    rw [G.np i hi, G.np k hk, e1, e2, df_in _ _ _ hne (fun e => G.n1 i hi (G.inj _ _ (G.nl i hi) hi e)) fc, df_in _ _ _ hne (fun e => hpi (G.inj _ _ (G.pl i hi) hi e)) fa,
      df_out _ _ _ hne (fun e => G.n1 k hk (G.inj _ _ (G.nl k hk) hk e)) gc, df_out _ _ _ hne (fun e => hpk (G.inj _ _ (G.pl k hk) hk e)) ga] at hd
    unfold inn
    omega
  · intro j hj j1 j2 j3 j4
    refine df_none (hm j hj j1 (fun e => j2 ?_) j3 fun e => j4 ?_)
    · rw [← e, G.pn j hj]
    · rw [← e, G.pn j hj]
end Jor
end Go.Proofs.Ytdkaoopkbhaheaa
namespace Go.Proofs.Ytdkaoopkbhaheaa
namespace Jor
set_option linter.unusedVariables false
set_option linter.unusedSimpArgs false
def X (u v : Pt) : Rat := u.1 * v.2 - u.2 * v.1
def Up (u : Pt) : Prop := 0 < u.2 ∨ (u.2 = 0 ∧ u.1 < 0)
def ng (u : Pt) : Pt := (- u.1, - u.2)
def Nz (u : Pt) : Prop := u.1 ≠ 0 ∨ u.2 ≠ 0
theorem X_id2 (a b c : Pt) : b.2 * X a c = a.2 * X b c + c.2 * X a b := by unfold X; grind
theorem X_swap (a b : Pt) : X b a = - X a b := by unfold X; grind
theorem X_ngr (a b : Pt) : X a (ng b) = - X a b := by unfold X ng; grind
theorem X_ngl (a b : Pt) : X (ng a) b = - X a b := by unfold X ng; grind
theorem X_ng2 (a b : Pt) : X (ng a) (ng b) = X a b := by unfold X ng; grind
theorem up_ng {u : Pt} (h : Nz u) : Up (ng u) ↔ ¬ Up u := by unfold Up ng Nz at *; grind
theorem neg_mul {a b : Rat} (ha : a < 0) (hb : 0 < b) : a * b < 0 := by have := pos_mul (show 0 < -a by grind) hb; grind
theorem X_trans {a b c : Pt} (ha : Up a) (hb : Up b) (hc : Up c) (h1 : 0 ≤ X a b) (h2 : 0 < X b c) : 0 < X a c := by
  have e := X_id2 a b c
  have hc2 : 0 ≤ c.2 := by unfold Up at hc; grind
  rcases hb with hb | ⟨hb, hb1⟩
  · have ha2 : 0 < a.2 := by
      rcases ha with ha | ⟨ha, ha1⟩
      · exact ha
      · have := neg_mul ha1 hb
        unfold X at h1; rw [ha] at h1; grind
    have k1 := pos_mul ha2 h2
    have k2 := nn_mul hc2 h1
    exact pos_of_mul hb (by grind)
  · exfalso
    unfold X at h2
    rw [hb] at h2
    have := nn_mul (show 0 ≤ -b.1 by grind) hc2
    grind
theorem X_trans' {a b c : Pt} (ha : Up a) (hb : Up b) (hc : Up c) (h1 : 0 < X a b) (h2 : 0 ≤ X b c) : 0 < X a c := by
  have e := X_id2 a b c
  have hc2 : 0 ≤ c.2 := by unfold Up at hc; grind
  rcases hb with hb | ⟨hb, hb1⟩
  · have ha2 : 0 < a.2 := by
      rcases ha with ha | ⟨ha, ha1⟩
      · exact ha
      · have := neg_mul ha1 hb
        unfold X at h1; rw [ha] at h1; grind
    rcases hc with hc | ⟨hc, hc1⟩
    · have k1 := nn_mul (show 0 ≤ a.2 by grind) h2
      have k2 := pos_mul hc h1
      exact pos_of_mul hb (by grind)
    · have := neg_mul hc1 ha2
      unfold X; rw [hc]; grind
  · have ha2 : 0 < a.2 := by
      rcases ha with ha | ⟨ha, ha1⟩
      · exact ha
      · unfold X at h1; rw [ha, hb] at h1; grind
    have hc0 : c.2 = 0 := by
      unfold X at h2
      rw [hb] at h2
      rcases hc with hc | ⟨hc, _⟩
      · have := neg_mul hb1 hc; grind
      · exact hc
    have hc1 : c.1 < 0 := by unfold Up at hc; grind
    have := neg_mul hc1 ha2
    unfold X; rw [hc0]; grind
theorem lt_iff {u v : Pt} (hu : Nz u) (hv : Nz v) : lt u v ↔ (Up u ∧ ¬ Up v) ∨ ((Up u ↔ Up v) ∧ 0 < X u v) := by
  obtain ⟨u1, u2⟩ := u
  obtain ⟨v1, v2⟩ := v
  simp only [lt, Up, Nz, X] at *
  have pr : ∀ a b : Rat, 0 < a → 0 < b → 0 < a * b := fun a b => pos_mul
  rcases (show u2 < 0 ∨ u2 = 0 ∨ 0 < u2 by grind) with h1 | h1 | h1
  · rcases (show v2 < 0 ∨ v2 = 0 ∨ 0 < v2 by grind) with h2 | h2 | h2
    · grind
    · subst h2
      rcases (show v1 < 0 ∨ 0 < v1 by grind) with h3 | h3
      · grind
      · have := pr (-u2) v1 (by grind) h3; grind
    · grind
  · subst h1
    rcases (show u1 < 0 ∨ 0 < u1 by grind) with h4 | h4
    · rcases (show v2 < 0 ∨ v2 = 0 ∨ 0 < v2 by grind) with h2 | h2 | h2
      · grind
      · subst h2; grind
      · have := pr (-u1) v2 (by grind) h2; grind
    · rcases (show v2 < 0 ∨ v2 = 0 ∨ 0 < v2 by grind) with h2 | h2 | h2
      · have := pr u1 (-v2) h4 (by grind); grind
      · subst h2; grind
      · grind
  · rcases (show v2 < 0 ∨ v2 = 0 ∨ 0 < v2 by grind) with h2 | h2 | h2
    · grind
    · subst h2
      rcases (show v1 < 0 ∨ 0 < v1 by grind) with h3 | h3
      · have := pr u2 (-v1) h1 (by grind); grind
      · grind
    · grind
theorem lt_ud {u v : Pt} (hu : Nz u) (hv : Nz v) (h1 : Up u) (h2 : ¬ Up v) : (if lt u v then (1 : Int) else 0) = 1 := if_pos ((lt_iff hu hv).2 (.inl ⟨h1, h2⟩))
theorem lt_du {u v : Pt} (hu : Nz u) (hv : Nz v) (h1 : ¬ Up u) (h2 : Up v) : (if lt u v then (1 : Int) else 0) = 0 := if_neg fun h => by
  rcases (lt_iff hu hv).1 h with ⟨a, _⟩ | ⟨a, _⟩
  · exact h1 a
  · exact h1 (a.2 h2)
theorem lt_same {u v : Pt} (hu : Nz u) (hv : Nz v) (h : Up u ↔ Up v) : (if lt u v then (1 : Int) else 0) = if 0 < X u v then 1 else 0 := by
  by_cases k : 0 < X u v
  · rw [if_pos k, if_pos ((lt_iff hu hv).2 (.inr ⟨h, k⟩))]
  · rw [if_neg k, if_neg]
    intro g
    rcases (lt_iff hu hv).1 g with ⟨a, b⟩ | ⟨_, b⟩
    · exact b (h.1 a)
    · exact k b
abbrev Pass (u z A : Pt) : Prop := 0 < X u A ∧ 0 ≤ X A z
theorem turn_lt {u z A : Pt} (hu : Nz u) (hz : Nz z) (hA : Nz A) (h : 0 < X u z) :
    (if lt z A then (1 : Int) else 0) - (if lt u A then 1 else 0) = 1 - (if lt u z then 1 else 0) - (if Pass u z A then 1 else 0) := by
  have s1 := X_swap u A; have s2 := X_swap A z; have s3 := X_swap u z
  have un := up_ng hu; have zn := up_ng hz; have An := up_ng hA
  unfold Pass
  have tt : ∀ {p q : Prop}, p → q → (p ↔ q) := fun a b => ⟨fun _ => b, fun _ => a⟩
  have ff : ∀ {p q : Prop}, ¬ p → ¬ q → (p ↔ q) := fun a b => ⟨fun h => absurd h a, fun h => absurd h b⟩
  by_cases pu : Up u <;> by_cases pz : Up z <;> by_cases pA : Up A
  all_goals first | rw [lt_same hz hA (tt pz pA)] | rw [lt_same hz hA (ff pz pA)] | rw [lt_ud hz hA pz pA] | rw [lt_du hz hA pz pA]
  all_goals first | rw [lt_same hu hA (tt pu pA)] | rw [lt_same hu hA (ff pu pA)] | rw [lt_ud hu hA pu pA] | rw [lt_du hu hA pu pA]
  all_goals first | rw [lt_same hu hz (tt pu pz)] | rw [lt_same hu hz (ff pu pz)] | rw [lt_ud hu hz pu pz] | rw [lt_du hu hz pu pz]
  -- all up
  · by_cases a1 : 0 < X z A
    · have a2 := X_trans pu pz pA (by grind) a1
      grind
    · grind
  -- u, z up
  · have : ¬ (0 < X u A ∧ 0 ≤ X A z) := by
      rintro ⟨g1, g2⟩
      have k := X_trans' (a := ng A) (b := u) (c := z) (An.2 pA) pu pz (by rw [X_ngl]; grind) (by grind)
      rw [X_ngl] at k
      grind
    grind
  · have : 0 < X u A → 0 ≤ X A z := fun g => by
      have k := X_trans' (a := ng z) (b := u) (c := A) (zn.2 pz) pu pA (by rw [X_ngl]; grind) (by grind)
      rw [X_ngl] at k
      grind
    grind
  · have : X z A ≤ 0 → 0 < X u A := fun g => by
      have k := X_trans (a := ng A) (b := ng z) (c := u) (An.2 pA) (zn.2 pz) pu (by rw [X_ng2]; grind) (by rw [X_ngl]; grind)
      rw [X_ngl] at k
      grind
    grind
  · have : X z A ≤ 0 → 0 < X u A := fun g => by
      have k := X_trans (a := A) (b := z) (c := ng u) pA pz (un.2 pu) (by grind) (by rw [X_ngr]; grind)
      rw [X_ngr] at k
      grind
    grind
  · have : 0 < X u A → 0 ≤ X A z := fun g => by
      have k := X_trans' (a := z) (b := ng u) (c := ng A) pz (un.2 pu) (An.2 pA) (by rw [X_ngr]; grind) (by rw [X_ng2]; grind)
      rw [X_ngr] at k
      grind
    grind
  · have : ¬ (0 < X u A ∧ 0 ≤ X A z) := by
      rintro ⟨g1, g2⟩
      have k := X_trans' (a := A) (b := ng u) (c := ng z) pA (un.2 pu) (zn.2 pz) (by rw [X_ngr]; grind) (by rw [X_ng2]; grind)
      rw [X_ngr] at k
      grind
    grind
  · by_cases a1 : 0 < X z A
    · have a2 := X_trans (a := ng u) (b := ng z) (c := ng A) (un.2 pu) (zn.2 pz) (An.2 pA) (by rw [X_ng2]; grind) (by rw [X_ng2]; exact a1)
      rw [X_ng2] at a2
      grind
    · grind
theorem X_sub (B u z : Pt) : X (sub u B) (sub z B) = D B u z := by unfold X sub D; grind
theorem nz_sub {u B : Pt} (h : u ≠ B) : Nz (sub u B) := by
  unfold Nz sub
  by_cases e : u.1 = B.1
  · right
    intro e2
    exact h (Prod.ext e (by grind))
  · left; grind
theorem turn_ahead {B u z A : Pt} (hu : u ≠ B) (hz : z ≠ B) (hA : A ≠ B) (h : 0 < D B u z) :
    ahead A B z - ahead A B u = 1 - (if lt (sub u B) (sub z B) then 1 else 0) - (if 0 < D B u A ∧ 0 ≤ D B A z then 1 else 0) := by
  have k := turn_lt (nz_sub hu) (nz_sub hz) (nz_sub hA) (by rw [X_sub]; exact h)
  unfold Pass at k
  rw [X_sub, X_sub] at k
  exact k
theorem lt_irr {u : Pt} : ¬ lt u u := by unfold lt; grind
theorem ahead_self (A B : Pt) : ahead A B A = 0 := if_neg lt_irr
theorem nofold_of {B A C : Pt} (h : ¬ Fold B A C) : D B A C ≠ 0 ∨ (A.1 - B.1) * (C.1 - B.1) + (A.2 - B.2) * (C.2 - B.2) ≤ 0 := by unfold Fold at h; grind
theorem ahead_flip {B A C : Pt} (hA : A ≠ B) (hC : C ≠ B) (h : ¬ Fold B A C) : ahead A B C + ahead C B A = 1 := by
  have nA := nz_sub hA; have nC := nz_sub hC
  have hx := X_sub B A C
  have hs := X_swap (sub A B) (sub C B)
  unfold ahead
  have tt : ∀ {p q : Prop}, p → q → (p ↔ q) := fun a b => ⟨fun _ => b, fun _ => a⟩
  have ff : ∀ {p q : Prop}, ¬ p → ¬ q → (p ↔ q) := fun a b => ⟨fun h => absurd h a, fun h => absurd h b⟩
  by_cases pA : Up (sub A B) <;> by_cases pC : Up (sub C B)
  all_goals first | rw [lt_same nC nA (tt pC pA)] | rw [lt_same nC nA (ff pC pA)] | rw [lt_ud nC nA pC pA] | rw [lt_du nC nA pC pA]
  all_goals first | rw [lt_same nA nC (tt pA pC)] | rw [lt_same nA nC (ff pA pC)] | rw [lt_ud nA nC pA pC] | rw [lt_du nA nC pA pC]
  · by_cases e : X (sub A B) (sub C B) = 0
    · exfalso
      refine h ⟨by grind, ?_⟩
      unfold Up sub at pA pC
      unfold X sub at e
      simp only at pA pC e
      rcases pA with p | ⟨p, p'⟩ <;> rcases pC with q | ⟨q, q'⟩
      · have k := pos_mul p q
        by_cases z : A.1 - B.1 = 0
        · rw [z]; grind
        · have k2 := pos_mul k (pos_mul p q)
          have k3 := sq_pos z
          have k4 := pos_mul k3 (pos_mul q q)
          have : 0 < ((A.2 - B.2) * (C.2 - B.2)) * ((A.1 - B.1) * (C.1 - B.1)) := by
            have e2 : (A.1 - B.1) * (C.2 - B.2) = (A.2 - B.2) * (C.1 - B.1) := by grind
            have : ((A.2 - B.2) * (C.2 - B.2)) * ((A.1 - B.1) * (C.1 - B.1)) = (A.1 - B.1) * (A.1 - B.1) * ((C.2 - B.2) * (C.2 - B.2)) := by
              have : ((A.2 - B.2) * (C.2 - B.2)) * ((A.1 - B.1) * (C.1 - B.1)) = ((A.1 - B.1) * (C.2 - B.2)) * ((A.2 - B.2) * (C.1 - B.1)) := by grind
              rw [this, ← e2]; grind
            rw [this]; exact k4
          have := pos_of_mul k this
          grind
      · rw [q] at e; have := neg_mul q' p; grind
      · rw [p] at e; have := neg_mul p' q; grind
      · rw [p, q]; have := pos_mul (show 0 < -(A.1 - B.1) by grind) (show 0 < -(C.1 - B.1) by grind); grind
    · by_cases g : 0 < X (sub A B) (sub C B)
      · grind
      · grind
  · rfl
  · rfl
  · by_cases e : X (sub A B) (sub C B) = 0
    · exfalso
      refine h ⟨by grind, ?_⟩
      unfold Nz sub at nA nC
      unfold Up sub at pA pC
      unfold X sub at e
      simp only at pA pC e nA nC
      have pA' : A.2 - B.2 < 0 ∨ (A.2 - B.2 = 0 ∧ 0 < A.1 - B.1) := by grind
      have pC' : C.2 - B.2 < 0 ∨ (C.2 - B.2 = 0 ∧ 0 < C.1 - B.1) := by grind
      rcases pA' with p | ⟨p, p'⟩ <;> rcases pC' with q | ⟨q, q'⟩
      · have k := pos_mul (show 0 < -(A.2 - B.2) by grind) (show 0 < -(C.2 - B.2) by grind)
        by_cases z : A.1 - B.1 = 0
        · rw [z]; grind
        · have k3 := sq_pos z
          have k4 := pos_mul k3 (sq_pos (show C.2 - B.2 ≠ 0 by grind))
          have : 0 < ((A.2 - B.2) * (C.2 - B.2)) * ((A.1 - B.1) * (C.1 - B.1)) := by
            have e2 : (A.1 - B.1) * (C.2 - B.2) = (A.2 - B.2) * (C.1 - B.1) := by grind
            have : ((A.2 - B.2) * (C.2 - B.2)) * ((A.1 - B.1) * (C.1 - B.1)) = (A.1 - B.1) * (A.1 - B.1) * ((C.2 - B.2) * (C.2 - B.2)) := by
              have : ((A.2 - B.2) * (C.2 - B.2)) * ((A.1 - B.1) * (C.1 - B.1)) = ((A.1 - B.1) * (C.2 - B.2)) * ((A.2 - B.2) * (C.1 - B.1)) := by grind
              rw [this, ← e2]; grind
            rw [this]; exact k4
          have := pos_of_mul (show 0 < (A.2 - B.2) * (C.2 - B.2) by grind) this
          grind
      · rw [q] at e; have := pos_mul (show 0 < -(A.2 - B.2) by grind) q'; grind
      · rw [p] at e; have := pos_mul p' (show 0 < -(C.2 - B.2) by grind); grind
      · rw [p, q]; have := pos_mul p' q'; grind
    · by_cases g : 0 < X (sub A B) (sub C B)
      · grind
      · grind
end Jor
end Go.Proofs.Ytdkaoopkbhaheaa
namespace Go.Proofs.Ytdkaoopkbhaheaa
namespace Jor
set_option linter.unusedVariables false
set_option linter.unusedSimpArgs false
section
variable {P : Nat → Pt} {n : Nat} {nx pv : Nat → Nat}
theorem Bd.p1 (G : Bd P n nx pv) {i : Nat} (hi : i < n) : pv i ≠ i := fun e => G.n1 i hi (by have := G.np i hi; rw [e] at this; exact this)
theorem Bd.ne (G : Bd P n nx pv) {i j : Nat} (hi : i < n) (hj : j < n) (h : i ≠ j) : P i ≠ P j := fun e => h (G.inj _ _ hi hj e)
theorem Bd.nn (G : Bd P n nx pv) {i : Nat} (hi : i < n) : nx (nx i) ≠ i := fun e => G.n2 (nx i) (G.nl i hi) (by rw [e, G.pn i hi])
theorem inn_nx (i : Nat) : inn P n nx pv i (P (nx i)) = wd P n nx (P i) + ahead (P (pv i)) (P i) (P (nx i)) := by
  unfold inn; rw [ahead_self]; omega
theorem inn_pv (G : Bd P n nx pv) (i : Nat) (hi : i < n) : inn P n nx pv i (P (pv i)) = inn P n nx pv i (P (nx i)) - 1 := by
  have h := ahead_flip (G.ne (G.pl i hi) hi (G.p1 hi)) (G.ne (G.nl i hi) hi (G.n1 i hi)) (G.nf i hi)
  rw [inn_nx]
  unfold inn
  rw [ahead_self]
  omega
theorem left_next (G : Bd P n nx pv) (i : Nat) (hi : i < n) : inn P n nx pv i (P (nx i)) = inn P n nx pv (nx i) (P (nx (nx i))) := by
  have hc := G.nl i hi
  have hp := G.pl i hi
  have hd := wd_diff G (P i) (P (nx i))
  have hne : P i ≠ P (nx i) := G.ne hi hc (Ne.symm (G.n1 i hi))
  have q1 : pv i ≠ nx i := Ne.symm (G.n2 i hi)
  have fb : ¬ Fold (P (nx i)) (P i) (P (nx (nx i))) := by
    have := G.nf (nx i) hc
    rw [G.pn i hi] at this
    exact this
  have z : df (P i) (P (nx i)) (P i) (P (nx i)) = 0 := by unfold df; rw [cr_begin, cr_end, sw_begin, sw_end]; rfl
  have rest : ∀ j, j < n → j ≠ pv i → j ≠ nx i → df (P i) (P (nx i)) (P j) (P (nx j)) = 0 := by
    intro j hj j1 j2
    by_cases e : j = i
    · rw [e]; exact z
    · refine df_none (G.nm i j hi hj (Ne.symm e) (Ne.symm j2) fun e2 => j1 ?_)
      rw [← e2, G.pn j hj]
  rw [sm_two _ n (pv i) (nx i) hp hc q1 rest, G.np i hi, df_in _ _ _ hne (G.ne hp hi (G.p1 hi)) (G.nf i hi), df_out _ _ _ hne (G.ne (G.nl _ hc) hc (G.n1 _ hc)) fb] at hd
  rw [inn_nx, inn_nx, G.pn i hi]
  omega
theorem inn_sym (G : Bd P n nx pv) (i k : Nat) (hi : i < n) (hk : k < n) (hik : i ≠ k) (h1 : nx i ≠ k) (h2 : nx k ≠ i)
    (fa : ¬ Fold (P i) (P (pv i)) (P k)) (fc : ¬ Fold (P i) (P (nx i)) (P k)) (ga : ¬ Fold (P k) (P i) (P (pv k))) (gc : ¬ Fold (P k) (P i) (P (nx k)))
    (hm : ∀ j, j < n → j ≠ i → nx j ≠ i → j ≠ k → nx j ≠ k → ¬ Mt (P i) (P k) (P j) (P (nx j))) :
    inn P n nx pv i (P k) = inn P n nx pv k (P i) := by
  have h := inn_chord G i k hi hk hik h1 h2 fa fc ga gc hm
  have e1 := ahead_flip (G.ne hi hk hik) (G.ne (G.nl k hk) hk (G.n1 k hk)) gc
  have e2 := ahead_flip (G.ne hi hk hik) (G.ne (G.pl k hk) hk (G.p1 hk)) ga
  rw [h]
  unfold inn
  omega
abbrev In (B u z A : Pt) : Prop := 0 < D B u A ∧ 0 ≤ D B A z
theorem inn_turn (G : Bd P n nx pv) (i : Nat) (hi : i < n) (u z : Pt) (hu : u ≠ P i) (hz : z ≠ P i) (h : 0 < D (P i) u z) :
    inn P n nx pv i z = inn P n nx pv i u + (if In (P i) u z (P (nx i)) then 1 else 0) - (if In (P i) u z (P (pv i)) then 1 else 0) := by
  have h1 := turn_ahead (A := P (pv i)) hu hz (G.ne (G.pl i hi) hi (G.p1 hi)) h
  have h2 := turn_ahead (A := P (nx i)) hu hz (G.ne (G.nl i hi) hi (G.n1 i hi)) h
  unfold inn
  unfold In
  omega
end
def On (p a b : Pt) : Prop := D a b p = 0 ∧ 0 ≤ (p.1 - a.1) * (b.1 - p.1) + (p.2 - a.2) * (b.2 - p.2)
theorem opp_same {a b : Rat} (h : a < 0 ∧ 0 < b ∨ 0 < a ∧ b < 0) : ¬ Same a b := by unfold Same; grind
theorem over_mean {p q r s a b c d : Rat} (hp : 0 < p) (hq : 0 < q) (hr : 0 < r) (hs : 0 < s) (e : p + q = r + s) (h : p * c + q * d = r * a + s * b) : Over a b c d := by
  obtain rfl : p = r + s - q := by grind
  rcases over_or a b c d with g | ⟨g1, g2, g3, g4⟩ | ⟨g1, g2, g3, g4⟩
  · exact g
  · exfalso
    rcases (show a ≤ b ∨ b ≤ a by grind) with k | k
    · have k1 := pos_mul hp (show 0 < a - c by grind)
      have k2 := pos_mul hq (show 0 < a - d by grind)
      have k3 := nn_mul (show 0 ≤ s by grind) (show 0 ≤ b - a by grind)
      grind
    · have k1 := pos_mul hp (show 0 < b - c by grind)
      have k2 := pos_mul hq (show 0 < b - d by grind)
      have k3 := nn_mul (show 0 ≤ r by grind) (show 0 ≤ a - b by grind)
      grind
  · exfalso
    rcases (show a ≤ b ∨ b ≤ a by grind) with k | k
    · have k1 := pos_mul hp (show 0 < c - b by grind)
      have k2 := pos_mul hq (show 0 < d - b by grind)
      have k3 := nn_mul (show 0 ≤ r by grind) (show 0 ≤ b - a by grind)
      grind
    · have k1 := pos_mul hp (show 0 < c - a by grind)
      have k2 := pos_mul hq (show 0 < d - a by grind)
      have k3 := nn_mul (show 0 ≤ s by grind) (show 0 ≤ a - b by grind)
      grind
theorem cross_mean1 (a b c d : Pt) : (- D a b d) * c.1 + D a b c * d.1 = D c d b * a.1 + (- D c d a) * b.1 := by unfold D; grind
theorem cross_mean2 (a b c d : Pt) : (- D a b d) * c.2 + D a b c * d.2 = D c d b * a.2 + (- D c d a) * b.2 := by unfold D; grind
theorem cross_sum (a b c d : Pt) : - D a b d + D a b c = D c d b + - D c d a := by unfold D; grind
theorem Mt_cross {a b c d : Pt} (h1 : 0 < D a b c) (h2 : D a b d < 0) (h3 : D c d a < 0) (h4 : 0 < D c d b) : Mt a b c d :=
  ⟨over_mean (by grind) h1 h4 (by grind) (cross_sum a b c d) (cross_mean1 a b c d), over_mean (by grind) h1 h4 (by grind) (cross_sum a b c d) (cross_mean2 a b c d), opp_same (.inr ⟨h1, h2⟩), opp_same (.inl ⟨h3, h4⟩)⟩
def Tri (p a b c : Pt) : Prop := 0 ≤ D a b p ∧ 0 ≤ D b c p ∧ 0 ≤ D c a p
theorem D_rot2 (a b c : Pt) : D a b c = D c a b := by unfold D; grind
theorem D_swap (a b c : Pt) : D a c b = - D a b c := by unfold D; grind
theorem two_left {a b v w : Pt} (h1 : 0 < D b v a) (h2 : 0 < D b v w) (n1 : ¬ Tri w a b v) (n2 : ¬ Tri a b v w) : Mt a b v w ∨ Mt v a w b := by
  have r1 := D_rot b v a; have r2 := D_rot2 b v a; have r3 := D_rot b v w; have r4 := D_rot2 b v w
  have s1 := D_swap b a w; have s2 := D_rot b a w; have s3 := D_rot2 b a w; have s4 := D_rot2 b w a; have s5 := D_rot b w a
  rcases (show 0 < D b a w ∨ D b a w < 0 ∨ D b a w = 0 by grind) with h | h | h
  · left
    have k : D v w a < 0 := by
      have : ¬ 0 ≤ D v w a := fun k => n2 ⟨by grind, k, by grind⟩
      grind
    exact Mt_cross (by grind) (by grind) k (by grind)
  · right
    have k : D v a w < 0 := by
      have : ¬ 0 ≤ D v a w := fun k => n1 ⟨by grind, by grind, k⟩
      grind
    have s6 := D_swap b v w
    exact (Mt_flip v a b w).1 (Mt_cross (by grind) k (by grind) (by grind))
  · exfalso
    have k1 : ¬ 0 ≤ D v a w := fun k => n1 ⟨by grind, by grind, k⟩
    have k2 : ¬ 0 ≤ D v w a := fun k => n2 ⟨by grind, k, by grind⟩
    have := D_swap v a w
    grind
end Jor
end Go.Proofs.Ytdkaoopkbhaheaa
namespace Go.Proofs.Ytdkaoopkbhaheaa
namespace Jor
set_option linter.unusedVariables false
set_option linter.unusedSimpArgs false
theorem fold_two_on {A B C : Pt} (h : Fold B A C) : On A B C ∨ On C B A := by
  obtain ⟨h0, h1⟩ := h
  have key : ((A.1 - B.1) * (C.1 - B.1) + (A.2 - B.2) * (C.2 - B.2)) * ((A.1 - B.1) * (C.1 - B.1) + (A.2 - B.2) * (C.2 - B.2)) =
      ((A.1 - B.1) * (A.1 - B.1) + (A.2 - B.2) * (A.2 - B.2)) * ((C.1 - B.1) * (C.1 - B.1) + (C.2 - B.2) * (C.2 - B.2)) := by
    have e : (A.1 - B.1) * (C.2 - B.2) = (A.2 - B.2) * (C.1 - B.1) := by unfold D at h0; grind
    have : ((A.1 - B.1) * (A.1 - B.1) + (A.2 - B.2) * (A.2 - B.2)) * ((C.1 - B.1) * (C.1 - B.1) + (C.2 - B.2) * (C.2 - B.2)) =
      ((A.1 - B.1) * (C.1 - B.1) + (A.2 - B.2) * (C.2 - B.2)) * ((A.1 - B.1) * (C.1 - B.1) + (A.2 - B.2) * (C.2 - B.2)) + ((A.1 - B.1) * (C.2 - B.2) - (A.2 - B.2) * (C.1 - B.1)) * ((A.1 - B.1) * (C.2 - B.2) - (A.2 - B.2) * (C.1 - B.1)) := by grind
    rw [this, e]; grind
  have e1 : (A.1 - B.1) * (C.1 - A.1) + (A.2 - B.2) * (C.2 - A.2) = ((A.1 - B.1) * (C.1 - B.1) + (A.2 - B.2) * (C.2 - B.2)) - ((A.1 - B.1) * (A.1 - B.1) + (A.2 - B.2) * (A.2 - B.2)) := by grind
  have e2 : (C.1 - B.1) * (A.1 - C.1) + (C.2 - B.2) * (A.2 - C.2) = ((A.1 - B.1) * (C.1 - B.1) + (A.2 - B.2) * (C.2 - B.2)) - ((C.1 - B.1) * (C.1 - B.1) + (C.2 - B.2) * (C.2 - B.2)) := by grind
  have d1 : D B C A = 0 := by unfold D at *; grind
  unfold On
  rw [e1, e2, d1, h0]
  generalize (A.1 - B.1) * (C.1 - B.1) + (A.2 - B.2) * (C.2 - B.2) = t at *
  generalize (A.1 - B.1) * (A.1 - B.1) + (A.2 - B.2) * (A.2 - B.2) = p at *
  generalize (C.1 - B.1) * (C.1 - B.1) + (C.2 - B.2) * (C.2 - B.2) = q at *
  by_cases k1 : 0 ≤ t - p
  · exact .inl ⟨rfl, k1⟩
  · by_cases k2 : 0 ≤ t - q
    · exact .inr ⟨rfl, k2⟩
    · exfalso
      have m1 := pos_mul h1 (show 0 < p - t by grind)
      have m2 := pos_mul (show 0 < p by grind) (show 0 < q - t by grind)
      grind
theorem on_tri {p a b v : Pt} (h : On p a b) (hv : 0 < D a b v) : Tri p a b v := by
  obtain ⟨h0, h1⟩ := h
  have nz : a ≠ b := fun e => by subst e; unfold D at hv; grind
  have hl : 0 < (b.1 - a.1) * (b.1 - a.1) + (b.2 - a.2) * (b.2 - a.2) := by
    by_cases e1 : b.1 - a.1 = 0
    · have e2 : b.2 - a.2 ≠ 0 := fun e2 => nz (Prod.ext (by grind) (by grind))
      have := sq_pos e2; have := sq_nn (b.1 - a.1); grind
    · have := sq_pos e1; have := sq_nn (b.2 - a.2); grind
  have j1 : 0 ≤ (b.1 - p.1) * (b.1 - a.1) + (b.2 - p.2) * (b.2 - a.2) := by
    have e : (b.1 - p.1) * (b.1 - a.1) + (b.2 - p.2) * (b.2 - a.2) = ((b.1 - p.1) * (b.1 - p.1) + (b.2 - p.2) * (b.2 - p.2)) + ((p.1 - a.1) * (b.1 - p.1) + (p.2 - a.2) * (b.2 - p.2)) := by grind
    have k1 := sq_nn (b.1 - p.1); have k2 := sq_nn (b.2 - p.2)
    rw [e]; clear e hl hv h0; grind
  have j2 : 0 ≤ (p.1 - a.1) * (b.1 - a.1) + (p.2 - a.2) * (b.2 - a.2) := by
    have e : (p.1 - a.1) * (b.1 - a.1) + (p.2 - a.2) * (b.2 - a.2) = ((p.1 - a.1) * (p.1 - a.1) + (p.2 - a.2) * (p.2 - a.2)) + ((p.1 - a.1) * (b.1 - p.1) + (p.2 - a.2) * (b.2 - p.2)) := by grind
    have k1 := sq_nn (p.1 - a.1); have k2 := sq_nn (p.2 - a.2)
    rw [e]; clear e hl hv h0 j1; grind
  have i1 : ((b.1 - a.1) * (b.1 - a.1) + (b.2 - a.2) * (b.2 - a.2)) * D b v p = ((b.1 - p.1) * (b.1 - a.1) + (b.2 - p.2) * (b.2 - a.2)) * D a b v + D a b p * ((b.1 - v.1) * (b.1 - a.1) + (b.2 - v.2) * (b.2 - a.2)) * (-1) := by unfold D; grind
  have i2 : ((b.1 - a.1) * (b.1 - a.1) + (b.2 - a.2) * (b.2 - a.2)) * D v a p = ((p.1 - a.1) * (b.1 - a.1) + (p.2 - a.2) * (b.2 - a.2)) * D a b v + D a b p * ((v.1 - a.1) * (b.1 - a.1) + (v.2 - a.2) * (b.2 - a.2)) * (-1) := by unfold D; grind
  rw [h0] at i1 i2
  refine ⟨by grind, nn_of_mul hl ?_, nn_of_mul hl ?_⟩
  · rw [i1, Rat.zero_mul, Rat.zero_mul, Rat.add_zero]
    exact nn_mul j1 (by clear i1 i2 j1 j2 hl h1; grind)
  · rw [i2, Rat.zero_mul, Rat.zero_mul, Rat.add_zero]
    exact nn_mul j2 (by clear i1 i2 j1 j2 hl h1; grind)
theorem Tri.rot {p a b c : Pt} (h : Tri p a b c) : Tri p b c a := ⟨h.2.1, h.2.2, h.1⟩
theorem On.swap {p a b : Pt} (h : On p a b) : On p b a := by unfold On D at *; grind
theorem in_corner {B U Z A : Pt} (h : 0 < D B U Z) (h1 : 0 < D B U A) (h2 : 0 ≤ D B A Z) : Tri A B U Z ∨ Mt U Z B A ∨ On Z B A := by
  have r1 := D_rot B U Z; have r2 := D_rot2 B U Z; have s1 := D_swap B U A; have r3 := D_rot B A Z; have r4 := D_rot2 B A Z
  rcases (show 0 < D B A Z ∨ D B A Z = 0 by grind) with k | k
  · by_cases g : 0 ≤ D U Z A
    · exact .inl ⟨by grind, g, by grind⟩
    · have e1 := D_rot U Z B
      exact .inr (.inl ((Mt_swap _ _ _ _).1 ((Mt_flip _ _ _ _).1 (Mt_cross (a := B) (b := A) (c := Z) (d := U) k (by grind) (by have := D_flip U Z B; grind) (by have := D_flip U Z A; grind)))))
  · have hf : Fold B A Z := by
      refine ⟨k, ?_⟩
      -- A and Z lie on one line with B, on the same side of the first arm
      have i1 : D B U Z * ((A.1 - B.1) * (A.1 - B.1) + (A.2 - B.2) * (A.2 - B.2)) = D B U A * ((A.1 - B.1) * (Z.1 - B.1) + (A.2 - B.2) * (Z.2 - B.2)) + D B A Z * ((U.1 - B.1) * (A.1 - B.1) + (U.2 - B.2) * (A.2 - B.2)) := by unfold D; grind
      have nz : 0 < (A.1 - B.1) * (A.1 - B.1) + (A.2 - B.2) * (A.2 - B.2) := by
        by_cases e1 : A.1 - B.1 = 0
        · have e2 : A.2 - B.2 ≠ 0 := fun e2 => by unfold D at h1; rw [e1, e2] at h1; grind
          have := sq_pos e2; have := sq_nn (A.1 - B.1); grind
        · have := sq_pos e1; have := sq_nn (A.2 - B.2); grind
      rw [k] at i1
      have := pos_mul h nz
      exact pos_of_mul h1 (by grind)
    rcases fold_two_on hf with g | g
    · exact .inl (Tri.rot (on_tri g.swap (by grind)))
    · exact .inr (.inr g)
end Jor
end Go.Proofs.Ytdkaoopkbhaheaa
namespace Go.Proofs.Ytdkaoopkbhaheaa
namespace Jor
set_option linter.unusedVariables false
set_option linter.unusedSimpArgs false
section
variable {P : Nat → Pt} {n : Nat} {nx pv : Nat → Nat}
structure Front (P : Nat → Pt) (n : Nat) (nx pv : Nat → Nat) (K : Nat → Nat → Prop) (th : Nat → Nat → Option Nat) : Prop where
  fa : ∀ a b, K a b → a < n
  fb : ∀ a b, K a b → b < n
  ne : ∀ a b, K a b → a ≠ b
  bd : ∀ i, i < n → K i (nx i)
  nb : ∀ i, i < n → ¬ K (nx i) i
  pair : ∀ a b, K a b → nx a ≠ b → K b a
  cross : ∀ a b c d, K a b → K c d → a ≠ c → a ≠ d → b ≠ c → b ≠ d → ¬ Mt (P a) (P b) (P c) (P d)
  off : ∀ a b v, K a b → v < n → v ≠ a → v ≠ b → ¬ On (P v) (P a) (P b)
  ins : ∀ a b, K a b → inn P n nx pv a (P b) = 1
  tri : ∀ a b v, th a b = some v → K a b ∧ K b v ∧ K v a ∧ th b v = some a ∧ th v a = some b ∧ 0 < D (P a) (P b) (P v) ∧ ∀ w, w < n → w ≠ a → w ≠ b → w ≠ v → ¬ Tri (P w) (P a) (P b) (P v)
structure Clear (P : Nat → Pt) (n : Nat) (K : Nat → Nat → Prop) (a b v : Nat) : Prop where
  lt : v < n
  left : 0 < D (P a) (P b) (P v)
  free : ∀ w, w < n → w ≠ a → w ≠ b → w ≠ v → ¬ Tri (P w) (P a) (P b) (P v)
  s1 : ∀ c d, K c d → c ≠ a → d ≠ a → c ≠ b → d ≠ b → ¬ Mt (P a) (P b) (P c) (P d)
  s2 : ∀ c d, K c d → c ≠ b → d ≠ b → c ≠ v → d ≠ v → ¬ Mt (P b) (P v) (P c) (P d)
  s3 : ∀ c d, K c d → c ≠ v → d ≠ v → c ≠ a → d ≠ a → ¬ Mt (P v) (P a) (P c) (P d)
variable {K : Nat → Nat → Prop} {th : Nat → Nat → Option Nat}
theorem Clear.va {a b v : Nat} (C : Clear P n K a b v) : v ≠ a := fun e => by have := C.left; rw [e] at this; unfold D at this; grind
theorem Clear.vb {a b v : Nat} (C : Clear P n K a b v) : v ≠ b := fun e => by have := C.left; rw [e] at this; unfold D at this; grind
theorem Clear.ab {a b v : Nat} (C : Clear P n K a b v) : a ≠ b := fun e => by have := C.left; rw [e] at this; unfold D at this; grind
theorem Clear.on2 {a b v : Nat} (C : Clear P n K a b v) (w : Nat) (hw : w < n) (h1 : w ≠ b) (h2 : w ≠ v) : ¬ On (P w) (P b) (P v) := by
  intro h
  have l : 0 < D (P b) (P v) (P a) := by have := D_rot (P a) (P b) (P v); have := C.left; grind
  by_cases e : w = a
  · rw [e] at h; have := h.1; grind
  · exact C.free w hw e h1 h2 (Tri.rot (Tri.rot (on_tri h l)))
theorem Clear.on3 {a b v : Nat} (C : Clear P n K a b v) (w : Nat) (hw : w < n) (h1 : w ≠ v) (h2 : w ≠ a) : ¬ On (P w) (P v) (P a) := by
  intro h
  have l : 0 < D (P v) (P a) (P b) := by have := D_rot2 (P a) (P b) (P v); have := C.left; grind
  by_cases e : w = b
  · rw [e] at h; have := h.1; grind
  · exact C.free w hw h2 e h1 (Tri.rot (on_tri h l))
def KK (K : Nat → Nat → Prop) (a b : Nat) : Prop := K a b ∨ K b a
theorem Front.kn (F : Front P n nx pv K th) {i : Nat} (hi : i < n) : KK K i (nx i) := .inl (F.bd i hi)
theorem Front.kp (G : Bd P n nx pv) (F : Front P n nx pv K th) {i : Nat} (hi : i < n) : KK K i (pv i) := .inr (by have := F.bd (pv i) (G.pl i hi); rw [G.np i hi] at this; exact this)
theorem KK.off (F : Front P n nx pv K th) {a b v : Nat} (h : KK K a b) (hv : v < n) (h1 : v ≠ a) (h2 : v ≠ b) : ¬ On (P v) (P a) (P b) := by
  rcases h with h | h
  · exact F.off a b v h hv h1 h2
  · exact fun g => F.off b a v h hv h2 h1 g.swap
theorem Clear.in_b (F : Front P n nx pv K th) {a b v m : Nat} (hb : b < n) (C : Clear P n K a b v) (ha : a < n) (hm : m < n) (hk : KK K b m) (hma : m ≠ a) : ¬ In (P b) (P v) (P a) (P m) := by
  rintro ⟨h1, h2⟩
  have l : 0 < D (P b) (P v) (P a) := by have := D_rot (P a) (P b) (P v); have := C.left; grind
  have mv : m ≠ v := fun e => by rw [e] at h1; unfold D at h1; grind
  have mb : m ≠ b := fun e => by rw [e] at h1; unfold D at h1; grind
  rcases in_corner l h1 h2 with g | g | g
  · exact C.free m hm hma mb mv (Tri.rot (Tri.rot g))
  · rcases hk with k | k
    · exact C.s3 b m k (Ne.symm C.vb) mv (Ne.symm C.ab) hma g
    · exact C.s3 m b k mv (Ne.symm C.vb) hma (Ne.symm C.ab) ((Mt_flip _ _ _ _).1 g)
  · exact KK.off F hk ha C.ab (Ne.symm hma) g
theorem Clear.in_a (F : Front P n nx pv K th) {a b v m : Nat} (hb : b < n) (C : Clear P n K a b v) (ha : a < n) (hm : m < n) (hk : KK K a m) (hmv : m ≠ v) : ¬ In (P a) (P b) (P v) (P m) := by
  rintro ⟨h1, h2⟩
  have mb : m ≠ b := fun e => by rw [e] at h1; unfold D at h1; grind
  have ma : m ≠ a := fun e => by rw [e] at h1; unfold D at h1; grind
  rcases in_corner C.left h1 h2 with g | g | g
  · exact C.free m hm ma mb hmv g
  · rcases hk with k | k
    · exact C.s2 a m k C.ab mb (Ne.symm C.va) hmv g
    · exact C.s2 m a k mb C.ab hmv (Ne.symm C.va) ((Mt_flip _ _ _ _).1 g)
  · exact KK.off F hk C.lt C.va (Ne.symm hmv) g
theorem corner_b (G : Bd P n nx pv) (F : Front P n nx pv K th) {a b v : Nat} (k : K a b) (C : Clear P n K a b v) : inn P n nx pv b (P v) = 1 ∧ nx v ≠ b := by
  have ha := F.fa _ _ k; have hb := F.fb _ _ k
  have l : 0 < D (P b) (P v) (P a) := by have := D_rot (P a) (P b) (P v); have := C.left; grind
  have t := inn_turn G b hb (P v) (P a) (G.ne C.lt hb C.vb) (G.ne ha hb C.ab) l
  have one := F.ins b (nx b) (F.bd b hb)
  have zero := inn_pv G b hb
  have hn : nx b ≠ a := fun e => F.nb b hb (by rw [e]; exact k)
  rw [if_neg (C.in_b F hb ha (G.nl b hb) (F.kn hb) hn)] at t
  have val : inn P n nx pv b (P v) = 1 := by
    by_cases e : nx a = b
    · have ep : pv b = a := by rw [← e, G.pn a ha]
      rw [ep] at t zero
      rw [if_pos ⟨l, by unfold D; grind⟩] at t
      omega
    · have ep : pv b ≠ a := fun h => e (by rw [← h, G.np b hb])
      rw [if_neg (C.in_b F hb ha (G.pl b hb) (Front.kp G F hb) ep)] at t
      have := F.ins b a (F.pair a b k e)
      omega
  refine ⟨val, fun e => ?_⟩
  have ep : pv b = v := by rw [← e, G.pn v C.lt]
  rw [ep] at zero
  omega
theorem corner_a (G : Bd P n nx pv) (F : Front P n nx pv K th) {a b v : Nat} (k : K a b) (C : Clear P n K a b v) : nx a ≠ v ∧ (nx v ≠ a → inn P n nx pv a (P v) = 1) := by
  have ha := F.fa _ _ k; have hb := F.fb _ _ k
  have t := inn_turn G a ha (P b) (P v) (G.ne hb ha (Ne.symm C.ab)) (G.ne C.lt ha C.va) C.left
  have one := F.ins a (nx a) (F.bd a ha)
  have inb := F.ins a b k
  have hn : nx a ≠ v := by
    intro e
    have ep : pv a ≠ v := fun h => G.n2 a ha (by rw [h, e])
    rw [e, if_pos ⟨C.left, by unfold D; grind⟩, if_neg (C.in_a F hb ha (G.pl a ha) (Front.kp G F ha) ep)] at t
    rw [e] at one
    omega
  refine ⟨hn, fun e => ?_⟩
  have ep : pv a ≠ v := fun h => e (by rw [← h, G.np a ha])
  rw [if_neg (C.in_a F hb ha (G.nl a ha) (F.kn ha) hn), if_neg (C.in_a F hb ha (G.pl a ha) (Front.kp G F ha) ep)] at t
  omega
theorem no_fold (F : Front P n nx pv K th) {x y m : Nat} (hy : y < n) (hm : m < n) (hk : KK K x m) (hmy : m ≠ y) (hmx : m ≠ x) (hyx : y ≠ x) (on : ∀ w, w < n → w ≠ x → w ≠ y → ¬ On (P w) (P x) (P y)) : ¬ Fold (P x) (P m) (P y) := by
  intro h
  rcases fold_two_on h with g | g
  · exact on m hm hmx hmy g
  · exact KK.off F hk hy hyx (Ne.symm hmy) g
theorem KK.ne (F : Front P n nx pv K th) {a b : Nat} (h : KK K a b) : b ≠ a := by
  rcases h with h | h
  · exact Ne.symm (F.ne _ _ h)
  · exact F.ne _ _ h
theorem chord_sym (G : Bd P n nx pv) (F : Front P n nx pv K th) {x y : Nat} (hx : x < n) (hy : y < n) (hxy : x ≠ y) (h1 : nx x ≠ y) (h2 : nx y ≠ x) (on : ∀ w, w < n → w ≠ x → w ≠ y → ¬ On (P w) (P x) (P y))
    (mt : ∀ c d, K c d → c ≠ x → d ≠ x → c ≠ y → d ≠ y → ¬ Mt (P x) (P y) (P c) (P d)) : inn P n nx pv x (P y) = inn P n nx pv y (P x) := by
  have p1 : pv x ≠ y := fun e => h2 (by rw [← e, G.np x hx])
  have p2 : pv y ≠ x := fun e => h1 (by rw [← e, G.np y hy])
  have on' : ∀ w, w < n → w ≠ y → w ≠ x → ¬ On (P w) (P y) (P x) := fun w hw a b h => on w hw b a h.swap
  refine inn_sym G x y hx hy hxy h1 h2 ?_ ?_ ?_ ?_ ?_
  · exact no_fold F hy (G.pl x hx) (Front.kp G F hx) p1 (G.p1 hx) (Ne.symm hxy) on
  · exact no_fold F hy (G.nl x hx) (F.kn hx) h1 (G.n1 x hx) (Ne.symm hxy) on
  · exact fun h => no_fold F hx (G.pl y hy) (Front.kp G F hy) p2 (G.p1 hy) hxy on' (fold_swap h)
  · exact fun h => no_fold F hx (G.nl y hy) (F.kn hy) h2 (G.n1 y hy) hxy on' (fold_swap h)
  · intro j hj a b c d
    exact mt j (nx j) (F.bd j hj) a b c d
end
end Jor
end Go.Proofs.Ytdkaoopkbhaheaa
namespace Go.Proofs.Ytdkaoopkbhaheaa
namespace Jor
set_option linter.unusedVariables false
set_option linter.unusedSimpArgs false
section
variable {P : Nat → Pt} {n : Nat} {nx pv : Nat → Nat} {K : Nat → Nat → Prop} {th : Nat → Nat → Option Nat}
theorem uncut_b (F : Front P n nx pv K th) {a b v : Nat} (k : K a b) (C : Clear P n K a b v) (u : th a b = none) : th b v = none := by
  cases e : th b v with
  | none => rfl
  | some w =>
    exfalso
    obtain ⟨k1, k2, k3, t1, t2, l, fr⟩ := F.tri _ _ _ e
    have wb := F.ne _ _ k3; have wv := Ne.symm (F.ne _ _ k2)
    by_cases wa : w = a
    · rw [wa, u] at t2; cases t2
    · have hw := F.fb _ _ k2
      have la : 0 < D (P b) (P v) (P a) := by have := D_rot (P a) (P b) (P v); have := C.left; grind
      rcases two_left la l (C.free w hw wa wb wv) (fr a (F.fa _ _ k) C.ab (Ne.symm C.va) (Ne.symm wa)) with g | g
      · exact C.s1 v w k2 C.va wa C.vb wb g
      · exact C.s3 w b k3 wv (Ne.symm C.vb) wa (Ne.symm C.ab) g
theorem uncut_a (F : Front P n nx pv K th) {a b v : Nat} (k : K a b) (C : Clear P n K a b v) (u : th a b = none) : th v a = none := by
  cases e : th v a with
  | none => rfl
  | some w =>
    exfalso
    obtain ⟨k1, k2, k3, t1, t2, l, fr⟩ := F.tri _ _ _ e
    have wv := F.ne _ _ k3; have wa := Ne.symm (F.ne _ _ k2)
    by_cases wb : w = b
    · rw [wb, u] at t1; cases t1
    · have hw := F.fb _ _ k2
      have lb : 0 < D (P v) (P a) (P b) := by have := D_rot2 (P a) (P b) (P v); have := C.left; grind
      rcases two_left lb l (fun h => C.free w hw wa wb wv (Tri.rot (Tri.rot h))) (fr b (F.fb _ _ k) (Ne.symm C.vb) (Ne.symm C.ab) (Ne.symm wb)) with g | g
      · exact C.s2 a w k2 C.ab wb (Ne.symm C.va) wv ((Mt_flip' _ _ _ _).1 ((Mt_flip' _ _ _ _).1 g))
      · exact C.s1 w v k3 wa C.va wb C.vb g
def K2 (K : Nat → Nat → Prop) (a b v : Nat) (x y : Nat) : Prop := K x y ∨ (x = b ∧ y = v) ∨ (x = v ∧ y = b ∧ ¬ K b v) ∨ (x = v ∧ y = a) ∨ (x = a ∧ y = v ∧ ¬ K v a)
def th2 (th : Nat → Nat → Option Nat) (a b v : Nat) (x y : Nat) : Option Nat := if x = a ∧ y = b then some v else if x = b ∧ y = v then some a else if x = v ∧ y = a then some b else th x y
theorem lay_front (G : Bd P n nx pv) (F : Front P n nx pv K th) {a b v : Nat} (k : K a b) (C : Clear P n K a b v) (u : th a b = none) : Front P n nx pv (K2 K a b v) (th2 th a b v) := by
  have ha := F.fa _ _ k; have hb := F.fb _ _ k; have hv := C.lt
  have va := C.va; have vb := C.vb; have ab := C.ab
  obtain ⟨ib, nvb⟩ := corner_b G F k C
  obtain ⟨nav, ia⟩ := corner_a G F k C
  have ub := uncut_b F k C u
  have ua := uncut_a F k C u
  have on2' : ∀ w, w < n → w ≠ v → w ≠ b → ¬ On (P w) (P v) (P b) := fun w hw h1 h2 h => C.on2 w hw h2 h1 h.swap
  have on3' : ∀ w, w < n → w ≠ a → w ≠ v → ¬ On (P w) (P a) (P v) := fun w hw h1 h2 h => C.on3 w hw h2 h1 h.swap
  have t_ab : th2 th a b v a b = some v := if_pos ⟨rfl, rfl⟩
  have t_bv : th2 th a b v b v = some a := by unfold th2; rw [if_neg (by omega), if_pos ⟨rfl, rfl⟩]
  have t_va : th2 th a b v v a = some b := by unfold th2; rw [if_neg (by omega), if_neg (by omega), if_pos ⟨rfl, rfl⟩]
  have t_old : ∀ x y w, th x y = some w → th2 th a b v x y = some w := by
    intro x y w h
    unfold th2
    rw [if_neg, if_neg, if_neg]
    · exact h
    · rintro ⟨rfl, rfl⟩; rw [ua] at h; cases h
    · rintro ⟨rfl, rfl⟩; rw [ub] at h; cases h
    · rintro ⟨rfl, rfl⟩; rw [u] at h; cases h
  refine ⟨?_, ?_, ?_, ?_, ?_, ?_, ?_, ?_, ?_, ?_⟩
  · rintro x y (h | ⟨rfl, rfl⟩ | ⟨rfl, rfl, _⟩ | ⟨rfl, rfl⟩ | ⟨rfl, rfl, _⟩)
    · exact F.fa _ _ h
    all_goals assumption
  · rintro x y (h | ⟨rfl, rfl⟩ | ⟨rfl, rfl, _⟩ | ⟨rfl, rfl⟩ | ⟨rfl, rfl, _⟩)
    · exact F.fb _ _ h
    all_goals assumption
  · rintro x y (h | ⟨rfl, rfl⟩ | ⟨rfl, rfl, _⟩ | ⟨rfl, rfl⟩ | ⟨rfl, rfl, _⟩)
    · exact F.ne _ _ h
    all_goals omega
  · exact fun i hi => .inl (F.bd i hi)
  · rintro i hi (h | ⟨h1, h2⟩ | ⟨h1, h2, h3⟩ | ⟨h1, h2⟩ | ⟨h1, h2, h3⟩)
    · exact F.nb i hi h
    · exact nvb (by rw [← h2]; exact h1)
    · exact h3 (by have := F.bd i hi; rw [h1, h2] at this; exact this)
    · exact nav (by rw [← h2]; exact h1)
    · exact h3 (by have := F.bd i hi; rw [h1, h2] at this; exact this)
  · rintro x y (h | ⟨rfl, rfl⟩ | ⟨rfl, rfl, _⟩ | ⟨rfl, rfl⟩ | ⟨rfl, rfl, _⟩) hn
    · exact .inl (F.pair _ _ h hn)
    · by_cases e : K x y
      · exact .inl (F.pair _ _ e hn)
      · exact .inr (.inr (.inl ⟨rfl, rfl, e⟩))
    · exact .inr (.inl ⟨rfl, rfl⟩)
    · by_cases e : K x y
      · exact .inl (F.pair _ _ e hn)
      · exact .inr (.inr (.inr (.inr ⟨rfl, rfl, e⟩)))
    · exact .inr (.inr (.inr (.inl ⟨rfl, rfl⟩)))
  · -- edges do not cross
    have old : ∀ x y c d, K x y → K2 K a b v c d → x ≠ c → x ≠ d → y ≠ c → y ≠ d → ¬ Mt (P c) (P d) (P x) (P y) := by
      rintro x y c d h (g | ⟨rfl, rfl⟩ | ⟨rfl, rfl, _⟩ | ⟨rfl, rfl⟩ | ⟨rfl, rfl, _⟩) h1 h2 h3 h4
      · exact fun m => F.cross x y c d h g h1 h2 h3 h4 ((Mt_swap _ _ _ _).1 m)
      · exact C.s2 x y h h1 h3 h2 h4
      · exact fun m => C.s2 x y h h2 h4 h1 h3 ((Mt_flip' _ _ _ _).1 m)
      · exact C.s3 x y h h1 h3 h2 h4
      · exact fun m => C.s3 x y h h2 h4 h1 h3 ((Mt_flip' _ _ _ _).1 m)
    intro x y c d h g h1 h2 h3 h4
    rcases h with h | h
    · exact fun m => old x y c d h g h1 h2 h3 h4 ((Mt_swap _ _ _ _).1 m)
    · rcases g with g | g
      · exact old c d x y g (.inr h) (Ne.symm h1) (Ne.symm h3) (Ne.symm h2) (Ne.symm h4)
      · exfalso; omega
  · rintro x y w (h | ⟨rfl, rfl⟩ | ⟨rfl, rfl, _⟩ | ⟨rfl, rfl⟩ | ⟨rfl, rfl, _⟩) hw h1 h2
    · exact F.off _ _ _ h hw h1 h2
    · exact C.on2 w hw h1 h2
    · exact on2' w hw h1 h2
    · exact C.on3 w hw h1 h2
    · exact on3' w hw h1 h2
  · rintro x y (h | ⟨rfl, rfl⟩ | ⟨rfl, rfl, hk⟩ | ⟨rfl, rfl⟩ | ⟨rfl, rfl, hk⟩)
    · exact F.ins _ _ h
    · exact ib
    · have : nx y ≠ x := fun e => hk (by have := F.bd y hb; rw [e] at this; exact this)
      rw [← ib]
      exact (chord_sym G F hb hv (Ne.symm vb) this nvb (fun w hw a b => C.on2 w hw a b) (fun c d h a b e f => C.s2 c d h a b e f)).symm
    · by_cases hk : K x y
      · exact F.ins _ _ hk
      · have : nx x ≠ y := fun e => hk (by have := F.bd x hv; rw [e] at this; exact this)
        rw [← ia this]
        exact chord_sym G F hv ha va this nav (fun w hw a b => C.on3 w hw a b) (fun c d h a b e f => C.s3 c d h a b e f)
    · have : nx y ≠ x := fun e => hk (by have := F.bd y hv; rw [e] at this; exact this)
      exact ia this
  · intro x y w h
    unfold th2 at h
    by_cases e1 : x = a ∧ y = b
    · rw [if_pos e1] at h
      obtain ⟨rfl, rfl⟩ := e1
      cases h
      exact ⟨.inl k, .inr (.inl ⟨rfl, rfl⟩), .inr (.inr (.inr (.inl ⟨rfl, rfl⟩))), t_bv, t_va, C.left, C.free⟩
    · rw [if_neg e1] at h
      by_cases e2 : x = b ∧ y = v
      · rw [if_pos e2] at h
        obtain ⟨rfl, rfl⟩ := e2
        cases h
        exact ⟨.inr (.inl ⟨rfl, rfl⟩), .inr (.inr (.inr (.inl ⟨rfl, rfl⟩))), .inl k, t_va, t_ab, by have := D_rot (P a) (P x) (P y); have := C.left; grind, fun w hw h1 h2 h3 h => C.free w hw h3 h1 h2 (Tri.rot (Tri.rot h))⟩
      · rw [if_neg e2] at h
        by_cases e3 : x = v ∧ y = a
        · rw [if_pos e3] at h
          obtain ⟨rfl, rfl⟩ := e3
          cases h
          exact ⟨.inr (.inr (.inr (.inl ⟨rfl, rfl⟩))), .inl k, .inr (.inl ⟨rfl, rfl⟩), t_ab, t_bv, by have := D_rot2 (P y) (P b) (P x); have := C.left; grind, fun w hw h1 h2 h3 h => C.free w hw h2 h3 h1 (Tri.rot h)⟩
        · rw [if_neg e3] at h
          obtain ⟨k1, k2, k3, t1, t2, l, fr⟩ := F.tri _ _ _ h
          exact ⟨.inl k1, .inl k2, .inl k3, t_old _ _ _ t1, t_old _ _ _ t2, l, fr⟩
end
end Jor
end Go.Proofs.Ytdkaoopkbhaheaa
namespace Go.Proofs.Ytdkaoopkbhaheaa
namespace Jor
set_option linter.unusedVariables false
set_option linter.unusedSimpArgs false
def Opp (a b : Rat) : Prop := (0 < a ∧ b < 0) ∨ (a < 0 ∧ 0 < b)
def Bw (a x b : Rat) : Prop := (a ≤ x ∧ x ≤ b) ∨ (b ≤ x ∧ x ≤ a)
theorem bw_mul {a x b : Rat} (h : Bw a x b) : 0 ≤ (x - a) * (b - x) := by
  rcases h with ⟨h1, h2⟩ | ⟨h1, h2⟩
  · exact nn_mul (by grind) (by grind)
  · have := nn_mul (show 0 ≤ a - x by grind) (show 0 ≤ x - b by grind); grind
theorem over_bw {a b c d : Rat} (h : Over a b c d) : Bw c a d ∨ Bw c b d ∨ Bw a c b ∨ Bw a d b := by unfold Over Bw at *; grind
theorem on_of_x {a b c : Pt} (h : D a b c = 0) (hx : a.1 ≠ b.1) (hb : Bw a.1 c.1 b.1) : On c a b := by
  refine ⟨h, ?_⟩
  have k := bw_mul hb
  have s := sq_pos (show b.1 - a.1 ≠ 0 by grind)
  have e : (b.1 - a.1) * (c.2 - a.2) = (b.2 - a.2) * (c.1 - a.1) := by unfold D at h; grind
  have e2 : (b.1 - a.1) * (b.2 - c.2) = (b.2 - a.2) * (b.1 - c.1) := by unfold D at h; grind
  have i : (b.1 - a.1) * (b.1 - a.1) * ((c.1 - a.1) * (b.1 - c.1) + (c.2 - a.2) * (b.2 - c.2)) = ((b.1 - a.1) * (b.1 - a.1) + (b.2 - a.2) * (b.2 - a.2)) * ((c.1 - a.1) * (b.1 - c.1)) := by
    have : (b.1 - a.1) * (b.1 - a.1) * ((c.1 - a.1) * (b.1 - c.1) + (c.2 - a.2) * (b.2 - c.2)) = (b.1 - a.1) * (b.1 - a.1) * ((c.1 - a.1) * (b.1 - c.1)) + ((b.1 - a.1) * (c.2 - a.2)) * ((b.1 - a.1) * (b.2 - c.2)) := by grind
    rw [this, e, e2]; grind
  refine nn_of_mul s ?_
  rw [i]
  exact nn_mul (by have := sq_nn (b.2 - a.2); clear i e e2 k h hb; grind) k
def tw (a : Pt) : Pt := (a.2, a.1)
theorem D_tw (a b c : Pt) : D (tw a) (tw b) (tw c) = - D a b c := by unfold D tw; grind
theorem on_of_y {a b c : Pt} (h : D a b c = 0) (hy : a.2 ≠ b.2) (hb : Bw a.2 c.2 b.2) : On c a b := by
  have := on_of_x (a := tw a) (b := tw b) (c := tw c) (by rw [D_tw, h]; rfl) hy hb
  refine ⟨h, ?_⟩
  have := this.2
  unfold tw at this
  simp only at this
  rw [Rat.add_comm] at this
  exact this
theorem on_end {a b c d : Pt} (hp : D a b c = 0) (hr : D a b d ≠ 0) (hs : ¬ Same (D c d a) (D c d b)) : On c a b := by
  refine ⟨hp, ?_⟩
  have e1 := cross_mean1 a b c d; have e2 := cross_mean2 a b c d; have e3 := cross_sum a b c d
  rw [hp] at e1 e2 e3
  generalize D a b d = r at *
  generalize D c d a = s at *
  generalize D c d b = t at *
  have st : 0 ≤ - (s * t) := by
    unfold Same at hs
    rcases (show (0 ≤ s ∧ t ≤ 0) ∨ (s ≤ 0 ∧ 0 ≤ t) by grind) with ⟨k1, k2⟩ | ⟨k1, k2⟩
    · have := nn_mul k1 (show 0 ≤ -t by grind); grind
    · have := nn_mul (show 0 ≤ -s by grind) k2; grind
  have f1 : r * (c.1 - a.1) = s * (b.1 - a.1) := by grind
  have f2 : r * (b.1 - c.1) = - t * (b.1 - a.1) := by grind
  have f3 : r * (c.2 - a.2) = s * (b.2 - a.2) := by grind
  have f4 : r * (b.2 - c.2) = - t * (b.2 - a.2) := by grind
  refine nn_of_mul (sq_pos hr) ?_
  have i : r * r * ((c.1 - a.1) * (b.1 - c.1) + (c.2 - a.2) * (b.2 - c.2)) = (r * (c.1 - a.1)) * (r * (b.1 - c.1)) + (r * (c.2 - a.2)) * (r * (b.2 - c.2)) := by grind
  rw [i, f1, f2, f3, f4]
  have j : s * (b.1 - a.1) * (-t * (b.1 - a.1)) + s * (b.2 - a.2) * (-t * (b.2 - a.2)) = - (s * t) * ((b.1 - a.1) * (b.1 - a.1) + (b.2 - a.2) * (b.2 - a.2)) := by grind
  rw [j]
  exact nn_mul st (by have k1 := sq_nn (b.1 - a.1); have k2 := sq_nn (b.2 - a.2); clear i j f1 f2 f3 f4 e1 e2 e3; grind)
theorem same_opp {p r : Rat} (h : ¬ Same p r) (hp : p ≠ 0) (hr : r ≠ 0) : Opp p r := by unfold Same Opp at *; grind
theorem line_meet {a b c d : Pt} (hab : a ≠ b) (hcd : c ≠ d) (ox : Over a.1 b.1 c.1 d.1) (oy : Over a.2 b.2 c.2 d.2) (hp : D a b c = 0) (hr : D a b d = 0) (hs : D c d a = 0) (ht : D c d b = 0) :
    On a c d ∨ On b c d ∨ On c a b ∨ On d a b := by
  by_cases hx : a.1 = b.1
  · have hy : a.2 ≠ b.2 := fun e => hab (Prod.ext hx e)
    have hc : c.1 = a.1 := by
      have e : (b.2 - a.2) * (c.1 - a.1) = 0 := by unfold D at hp; rw [← hx] at hp; grind
      rcases Rat.mul_eq_zero.1 e with g | g <;> grind
    have hd : d.1 = a.1 := by
      have e : (b.2 - a.2) * (d.1 - a.1) = 0 := by unfold D at hr; rw [← hx] at hr; grind
      rcases Rat.mul_eq_zero.1 e with g | g <;> grind
    have hy2 : c.2 ≠ d.2 := fun e => hcd (Prod.ext (by rw [hc, hd]) e)
    rcases over_bw oy with g | g | g | g
    · exact .inl (on_of_y hs hy2 g)
    · exact .inr (.inl (on_of_y ht hy2 g))
    · exact .inr (.inr (.inl (on_of_y hp hy g)))
    · exact .inr (.inr (.inr (on_of_y hr hy g)))
  · have hx2 : c.1 ≠ d.1 := by
      intro e
      refine hcd (Prod.ext e ?_)
      have : (b.1 - a.1) * (c.2 - d.2) = 0 := by
        have : (b.1 - a.1) * (c.2 - d.2) = D a b c - D a b d := by unfold D; rw [e]; grind
        rw [this, hp, hr]; grind
      rcases Rat.mul_eq_zero.1 this with g | g <;> grind
    rcases over_bw ox with g | g | g | g
    · exact .inl (on_of_x hs hx2 g)
    · exact .inr (.inl (on_of_x ht hx2 g))
    · exact .inr (.inr (.inl (on_of_x hp hx g)))
    · exact .inr (.inr (.inr (on_of_x hr hx g)))
theorem Mt_strict {a b c d : Pt} (hab : a ≠ b) (hcd : c ≠ d) (h : Mt a b c d) : (Opp (D a b c) (D a b d) ∧ Opp (D c d a) (D c d b)) ∨ On a c d ∨ On b c d ∨ On c a b ∨ On d a b := by
  obtain ⟨ox, oy, n1, n2⟩ := h
  have e3 := cross_sum a b c d
  by_cases hp : D a b c = 0
  · by_cases hr : D a b d = 0
    · have : D c d a = 0 ∧ D c d b = 0 := by unfold Same at n2; grind
      exact .inr (line_meet hab hcd ox oy hp hr this.1 this.2)
    · exact .inr (.inr (.inr (.inl (on_end hp hr n2))))
  · by_cases hr : D a b d = 0
    · refine .inr (.inr (.inr (.inr (on_end (d := c) hr hp ?_))))
      rw [D_flip c d a, D_flip c d b, Same_neg]
      exact n2
    · by_cases hs : D c d a = 0
      · by_cases ht : D c d b = 0
        · exfalso; unfold Same at n1; grind
        · exact .inr (.inl (on_end hs ht n1))
      · by_cases ht : D c d b = 0
        · refine .inr (.inr (.inl (on_end (d := a) ht hs ?_)))
          rw [D_flip a b c, D_flip a b d, Same_neg]
          exact n1
        · exact .inl ⟨same_opp n1 hp hr, same_opp n2 hs ht⟩
theorem on_side {p c d a b : Pt} (h : On p c d) (h1 : D a b c ≤ 0) (h2 : D a b d ≤ 0) : D a b p ≤ 0 := by
  obtain ⟨e, k⟩ := h
  by_cases hcd : c = d
  · subst hcd
    have k1 := sq_nn (p.1 - c.1); have k2 := sq_nn (p.2 - c.2)
    have z : (p.1 - c.1) * (p.1 - c.1) + (p.2 - c.2) * (p.2 - c.2) = 0 := by grind
    have z1 : p.1 - c.1 = 0 := by
      by_cases q : p.1 - c.1 = 0
      · exact q
      · have := sq_pos q; grind
    have z2 : p.2 - c.2 = 0 := by
      by_cases q : p.2 - c.2 = 0
      · exact q
      · have := sq_pos q; grind
    have : p = c := Prod.ext (by grind) (by grind)
    rw [this]; exact h1
  · have hl : 0 < (d.1 - c.1) * (d.1 - c.1) + (d.2 - c.2) * (d.2 - c.2) := by
      by_cases e1 : d.1 - c.1 = 0
      · have e2 : d.2 - c.2 ≠ 0 := fun e2 => hcd (Prod.ext (by grind) (by grind))
        have := sq_pos e2; have := sq_nn (d.1 - c.1); grind
      · have := sq_pos e1; have := sq_nn (d.2 - c.2); grind
    have w1 : 0 ≤ (p.1 - c.1) * (d.1 - c.1) + (p.2 - c.2) * (d.2 - c.2) := by
      have e : (p.1 - c.1) * (d.1 - c.1) + (p.2 - c.2) * (d.2 - c.2) = ((p.1 - c.1) * (p.1 - c.1) + (p.2 - c.2) * (p.2 - c.2)) + ((p.1 - c.1) * (d.1 - p.1) + (p.2 - c.2) * (d.2 - p.2)) := by grind
      have k1 := sq_nn (p.1 - c.1); have k2 := sq_nn (p.2 - c.2)
      rw [e]; clear e hl h1 h2; grind
    have w2 : 0 ≤ (d.1 - p.1) * (d.1 - c.1) + (d.2 - p.2) * (d.2 - c.2) := by
      have e : (d.1 - p.1) * (d.1 - c.1) + (d.2 - p.2) * (d.2 - c.2) = ((d.1 - p.1) * (d.1 - p.1) + (d.2 - p.2) * (d.2 - p.2)) + ((p.1 - c.1) * (d.1 - p.1) + (p.2 - c.2) * (d.2 - p.2)) := by grind
      have k1 := sq_nn (d.1 - p.1); have k2 := sq_nn (d.2 - p.2)
      rw [e]; clear e hl h1 h2 w1; grind
    have i : ((d.1 - c.1) * (d.1 - c.1) + (d.2 - c.2) * (d.2 - c.2)) * - D a b p = ((d.1 - p.1) * (d.1 - c.1) + (d.2 - p.2) * (d.2 - c.2)) * - D a b c + ((p.1 - c.1) * (d.1 - c.1) + (p.2 - c.2) * (d.2 - c.2)) * - D a b d + D c d p * ((b.1 - a.1) * (d.1 - c.1) + (b.2 - a.2) * (d.2 - c.2)) * (-1) := by unfold D; grind
    rw [e, Rat.zero_mul, Rat.zero_mul, Rat.add_zero] at i
    have m1 := nn_mul w2 (show 0 ≤ - D a b c by clear i hl w1 w2 k; grind)
    have m2 := nn_mul w1 (show 0 ≤ - D a b d by clear i hl w1 w2 k; grind)
    have m : 0 ≤ ((d.1 - c.1) * (d.1 - c.1) + (d.2 - c.2) * (d.2 - c.2)) * - D a b p := by rw [i]; exact Rat.add_nonneg m1 m2
    have := nn_of_mul hl m
    clear i m m1 m2 hl w1 w2 k
    grind
end Jor
end Go.Proofs.Ytdkaoopkbhaheaa
namespace Go.Proofs.Ytdkaoopkbhaheaa
namespace Jor
set_option linter.unusedVariables false
set_option linter.unusedSimpArgs false
theorem far_left (P : Nat → Pt) (n a : Nat) (B : Pt) (ha : a < n) (hab : P a ≠ B) : ∃ q, 0 < D (P a) B q ∧ ((∀ j, j < n → (P j).2 ≤ q.2) ∨ (∀ j, j < n → q.2 < (P j).2)) := by
  obtain ⟨m, hm⟩ := top_below P n
  obtain ⟨l, hl⟩ := top_below (fun j => (0, - (P j).2)) n
  simp only at hl
  have a1 := hm a (by omega)
  have a2 := hl a (by omega)
  by_cases hy : B.2 - (P a).2 = 0
  · have hx : B.1 - (P a).1 ≠ 0 := fun e => hab (Prod.ext (by grind) (by grind))
    rcases (show 0 < B.1 - (P a).1 ∨ B.1 - (P a).1 < 0 by grind) with h | h
    · refine ⟨((P a).1, (P m).2 + 1), ?_, .inl fun j hj => ?_⟩
      · have := pos_mul h (show 0 < (P m).2 + 1 - (P a).2 by grind)
        unfold D; simp only; rw [hy]; grind
      · have := hm j (by omega); simp only; grind
    · refine ⟨((P a).1, (P l).2 - 1), ?_, .inr fun j hj => ?_⟩
      · have := pos_mul (show 0 < - (B.1 - (P a).1) by grind) (show 0 < - ((P l).2 - 1 - (P a).2) by grind)
        unfold D; simp only; rw [hy]; grind
      · have := hl j (by omega); simp only; grind
  · refine ⟨((P a).1 + ((B.1 - (P a).1) * ((P m).2 - (P a).2) - 1) / (B.2 - (P a).2), (P m).2), ?_, .inl fun j hj => ?_⟩
    · unfold D
      simp only
      have e : (B.2 - (P a).2) * ((P a).1 + ((B.1 - (P a).1) * ((P m).2 - (P a).2) - 1) / (B.2 - (P a).2) - (P a).1) = (B.1 - (P a).1) * ((P m).2 - (P a).2) - 1 := by grind
      rw [e]; grind
    · exact hm j (by omega)
theorem wd_far {P : Nat → Pt} {n : Nat} {nx : Nat → Nat} (hn : ∀ i, i < n → nx i < n) (q : Pt) (h : (∀ j, j < n → (P j).2 ≤ q.2) ∨ (∀ j, j < n → q.2 < (P j).2)) : wd P n nx q = 0 := by
  unfold wd
  refine sm_zero _ _ fun k hk => ?_
  unfold cr
  rcases h with h | h
  · have h1 := h k hk
    have h2 := h (nx k) (hn k hk)
    rw [if_neg (by grind), if_neg (by grind)]
  · have h1 := h k hk
    have h2 := h (nx k) (hn k hk)
    rw [if_neg (by grind), if_neg (by grind)]
theorem fold_left {B A b q : Pt} (h : Fold B A q) (hq : 0 < D B b q) : 0 < D B b A := by
  obtain ⟨k, h1⟩ := h
  have i1 : D B b A * ((q.1 - B.1) * (q.1 - B.1) + (q.2 - B.2) * (q.2 - B.2)) = D B b q * ((A.1 - B.1) * (q.1 - B.1) + (A.2 - B.2) * (q.2 - B.2)) + D B A q * ((b.1 - B.1) * (q.1 - B.1) + (b.2 - B.2) * (q.2 - B.2)) * (-1) := by unfold D; grind
  have nz : 0 < (q.1 - B.1) * (q.1 - B.1) + (q.2 - B.2) * (q.2 - B.2) := by
    by_cases e1 : q.1 - B.1 = 0
    · have e2 : q.2 - B.2 ≠ 0 := fun e2 => by unfold D at hq; rw [e1, e2] at hq; grind
      have := sq_pos e2; have := sq_nn (q.1 - B.1); clear i1; grind
    · have := sq_pos e1; have := sq_nn (q.2 - B.2); clear i1; grind
  rw [k, Rat.zero_mul, Rat.zero_mul, Rat.add_zero, Rat.mul_comm] at i1
  refine pos_of_mul nz ?_
  rw [i1]
  exact pos_mul hq h1
theorem on_begin {x a b q : Pt} (h : On x a q) (h1 : D a b x ≤ 0) (hq : 0 < D a b q) : x = a := by
  obtain ⟨e, k⟩ := h
  have i1 : ((q.1 - a.1) * (q.1 - a.1) + (q.2 - a.2) * (q.2 - a.2)) * D a b x = ((x.1 - a.1) * (q.1 - a.1) + (x.2 - a.2) * (q.2 - a.2)) * D a b q + D a q x * ((b.1 - a.1) * (q.1 - a.1) + (b.2 - a.2) * (q.2 - a.2)) := by unfold D; grind
  rw [e, Rat.zero_mul, Rat.add_zero] at i1
  have w : (x.1 - a.1) * (q.1 - a.1) + (x.2 - a.2) * (q.2 - a.2) = ((x.1 - a.1) * (x.1 - a.1) + (x.2 - a.2) * (x.2 - a.2)) + ((x.1 - a.1) * (q.1 - x.1) + (x.2 - a.2) * (q.2 - x.2)) := by grind
  have k1 := sq_nn (x.1 - a.1); have k2 := sq_nn (x.2 - a.2)
  have nq : 0 ≤ (q.1 - a.1) * (q.1 - a.1) + (q.2 - a.2) * (q.2 - a.2) := Rat.add_nonneg (sq_nn _) (sq_nn _)
  have m1 := nn_mul nq (show 0 ≤ - D a b x by clear i1 w k1 k2 nq k e; grind)
  have hw : (x.1 - a.1) * (q.1 - a.1) + (x.2 - a.2) * (q.2 - a.2) ≤ 0 := by
    by_cases g : 0 < (x.1 - a.1) * (q.1 - a.1) + (x.2 - a.2) * (q.2 - a.2)
    · exfalso
      have m2 := pos_mul g hq
      rw [← i1] at m2
      clear i1 w k1 k2 nq k e g
      generalize (q.1 - a.1) * (q.1 - a.1) + (q.2 - a.2) * (q.2 - a.2) = L at *
      generalize D a b x = t at *
      grind
    · clear i1 w k1 k2 nq k e m1; grind
  rw [w] at hw
  clear i1 w nq m1 e hq h1
  have z1 : x.1 - a.1 = 0 := by
    by_cases q' : x.1 - a.1 = 0
    · exact q'
    · have := sq_pos q'; grind
  have z2 : x.2 - a.2 = 0 := by
    by_cases q' : x.2 - a.2 = 0
    · exact q'
    · have := sq_pos q'; grind
  exact Prod.ext (by clear hw k k1 k2; grind) (by clear hw k k1 k2; grind)
theorem cross_L (a b q X Y : Pt) : - D a q Y * D a b X + D a q X * D a b Y = - D X Y a * D a b q := by unfold D; grind
section
variable {P : Nat → Pt} {n : Nat} {nx pv : Nat → Nat} {K : Nat → Nat → Prop} {th : Nat → Nat → Option Nat}
theorem some_left (G : Bd P n nx pv) (F : Front P n nx pv K th) {a b : Nat} (k : K a b) : ∃ v, v < n ∧ 0 < D (P a) (P b) (P v) := by
  refine Classical.byContradiction fun hno => ?_
  have hr : ∀ v, v < n → D (P a) (P b) (P v) ≤ 0 := fun v hv => by
    have : ¬ 0 < D (P a) (P b) (P v) := fun h => hno ⟨v, hv, h⟩
    grind
  have ha := F.fa _ _ k; have hb := F.fb _ _ k
  have hne : P a ≠ P b := G.ne ha hb (F.ne _ _ k)
  obtain ⟨q, hq, hfar⟩ := far_left P n a (P b) ha hne
  have haq : P a ≠ q := fun e => by rw [← e] at hq; unfold D at hq; grind
  have z : inn P n nx pv a q = wd P n nx q := by
    refine inn_open G a ha q haq (fun h => ?_) (fun h => ?_) fun j hj h1 h2 hm => ?_
    · have := fold_left h hq; have := hr _ (G.pl a ha); grind
    · have := fold_left h hq; have := hr _ (G.nl a ha); grind
    · have hn := G.nl j hj
      have x1 := hr j hj; have x2 := hr (nx j) hn
      rcases Mt_strict haq (G.ne hj hn (Ne.symm (G.n1 j hj))) hm with ⟨o1, o2⟩ | g | g | g | g
      · have e := cross_L (P a) (P b) q (P j) (P (nx j))
        have s := cross_sum (P a) q (P j) (P (nx j))
        generalize D (P a) q (P j) = p at *
        generalize D (P a) q (P (nx j)) = r at *
        generalize D (P j) (P (nx j)) (P a) = s' at *
        generalize D (P j) (P (nx j)) q = t at *
        generalize D (P a) (P b) (P j) = x at *
        generalize D (P a) (P b) (P (nx j)) = y at *
        generalize D (P a) (P b) q = l at *
        unfold Opp at o1 o2
        rcases o1 with ⟨p1, r1⟩ | ⟨p1, r1⟩
        · have s1 : s' < 0 := by grind
          have m1 := nn_mul (show 0 ≤ -r by grind) (show 0 ≤ -x by grind)
          have m2 := nn_mul (show 0 ≤ p by grind) (show 0 ≤ -y by grind)
          have m3 := pos_mul (show 0 < -s' by grind) hq
          grind
        · have s1 : 0 < s' := by grind
          have m1 := nn_mul (show 0 ≤ r by grind) (show 0 ≤ -x by grind)
          have m2 := nn_mul (show 0 ≤ -p by grind) (show 0 ≤ -y by grind)
          have m3 := pos_mul s1 hq
          grind
      · exact F.off _ _ _ (F.bd j hj) ha (Ne.symm h1) (Ne.symm h2) g
      · have := on_side g x1 x2; grind
      · exact h1 (G.inj _ _ hj ha (on_begin g x1 hq))
      · exact h2 (G.inj _ _ hn ha (on_begin g x2 hq))
  rw [wd_far G.nl q hfar] at z
  have t := inn_turn G a ha (P b) q (Ne.symm hne) (Ne.symm haq) hq
  rw [if_neg, if_neg, F.ins _ _ k, z] at t
  · omega
  · rintro ⟨g, _⟩; have := hr _ (G.pl a ha); grind
  · rintro ⟨g, _⟩; have := hr _ (G.nl a ha); grind
end
end Jor
end Go.Proofs.Ytdkaoopkbhaheaa
namespace Go.Proofs.Ytdkaoopkbhaheaa
namespace Jor
set_option linter.unusedVariables false
set_option linter.unusedSimpArgs false
def dt (a b w : Pt) : Rat := (w.1 - a.1) * (b.1 - a.1) + (w.2 - a.2) * (b.2 - a.2)
theorem dt_id (a b v w : Pt) : dt a b v * D a b w - dt a b w * D a b v = ((b.1 - a.1) * (b.1 - a.1) + (b.2 - a.2) * (b.2 - a.2)) * D a v w := by unfold dt D; grind
theorem len_pos {a b : Pt} (h : a ≠ b) : 0 < (b.1 - a.1) * (b.1 - a.1) + (b.2 - a.2) * (b.2 - a.2) := by
  by_cases e1 : b.1 - a.1 = 0
  · have e2 : b.2 - a.2 ≠ 0 := fun e2 => h (Prod.ext (by grind) (by grind))
    have k1 := sq_pos e2; have k2 := sq_nn (b.1 - a.1); grind
  · have k1 := sq_pos e1; have k2 := sq_nn (b.2 - a.2); grind
theorem ne_of_D {a b v : Pt} (h : 0 < D a b v) : a ≠ b := fun e => by subst e; unfold D at h; grind
theorem least_angle (P : Nat → Pt) (n : Nat) (a b : Pt) (p : Nat → Prop) (hp : ∀ w, w < n → p w → 0 < D a b (P w)) (ex : ∃ w, w < n ∧ p w) :
    ∃ v, v < n ∧ p v ∧ ∀ w, w < n → p w → 0 ≤ D a (P v) (P w) ∧ (D a (P v) (P w) = 0 → D a b (P v) ≤ D a b (P w)) := by
  obtain ⟨w0, hw0, pw0⟩ := ex
  have hab : a ≠ b := ne_of_D (hp w0 hw0 pw0)
  have L := len_pos hab
  have cut : ∀ w, w < n → p w → dt a b (P w) = (dt a b (P w) / D a b (P w)) * D a b (P w) := fun w hw pw => by
    have := hp w hw pw
    grind
  rcases least (fun w => - (dt a b (P w) / D a b (P w))) p n with h | ⟨i, hi, pi, mi⟩
  · exact absurd pw0 (h w0 hw0)
  · rcases least (fun w => D a b (P w)) (fun w => p w ∧ dt a b (P w) / D a b (P w) = dt a b (P i) / D a b (P i)) n with h | ⟨v, hv, ⟨pv, ev⟩, mv⟩
    · exact absurd ⟨pi, rfl⟩ (h i hi)
    · refine ⟨v, hv, pv, fun w hw pw => ?_⟩
      have c1 := cut v hv pv
      have c2 := cut w hw pw
      have m := mi w hw pw
      have id := dt_id a b (P v) (P w)
      have dv := hp v hv pv
      have dw := hp w hw pw
      have m : - (dt a b (P i) / D a b (P i)) ≤ - (dt a b (P w) / D a b (P w)) := m
      have mw : dt a b (P w) / D a b (P w) = dt a b (P i) / D a b (P i) → D a b (P v) ≤ D a b (P w) := fun e => mv w hw ⟨pw, e⟩
      rw [← ev] at m mw
      generalize dt a b (P v) / D a b (P v) = α at *
      generalize dt a b (P w) / D a b (P w) = β at *
      generalize D a b (P v) = Dv at *
      generalize D a b (P w) = Dw at *
      rw [c1, c2] at id
      have id2 : (α - β) * (Dv * Dw) = ((b.1 - a.1) * (b.1 - a.1) + (b.2 - a.2) * (b.2 - a.2)) * D a (P v) (P w) := by rw [← id]; grind
      have vw := pos_mul dv dw
      clear id c1 c2 mi mv cut
      refine ⟨nn_of_mul L ?_, fun z => mw ?_⟩
      · rw [← id2]; exact nn_mul (by clear id2; grind) (by clear id2; grind)
      · rw [z, Rat.mul_zero] at id2
        rcases Rat.mul_eq_zero.1 id2 with g | g
        · clear id2; grind
        · exfalso; clear id2; grind
theorem bary (a b u w : Pt) : D a b w + D b u w + D u a w = D a b u := by unfold D; grind
theorem two_lines {a b u w : Pt} (h : 0 < D a b u) (h1 : D a u w = 0) (h2 : D b u w = 0) : w = u := by
  have e1 : D a b u * (w.1 - u.1) = D a u w * (b.1 - u.1) * (-1) + D b u w * (a.1 - u.1) := by unfold D; grind
  have e2 : D a b u * (w.2 - u.2) = D a u w * (b.2 - u.2) * (-1) + D b u w * (a.2 - u.2) := by unfold D; grind
  rw [h1, h2] at e1 e2
  have z1 : D a b u * (w.1 - u.1) = 0 := by rw [e1]; clear e1 e2; grind
  have z2 : D a b u * (w.2 - u.2) = 0 := by rw [e2]; clear e1 e2; grind
  clear e1 e2
  refine Prod.ext ?_ ?_
  · rcases Rat.mul_eq_zero.1 z1 with g | g <;> (clear z1 z2; grind)
  · rcases Rat.mul_eq_zero.1 z2 with g | g <;> (clear z1 z2; grind)
theorem tri_base {w a b u : Pt} (h : Tri w a b u) (hu : 0 < D a b u) (h0 : D a b w = 0) : On w a b := by
  refine ⟨h0, ?_⟩
  obtain ⟨_, t2, t3⟩ := h
  have hab := len_pos (ne_of_D hu)
  have i1 : D a b u * (w.1 - a.1) = D u a w * (b.1 - a.1) + D a b w * (u.1 - a.1) := by unfold D; grind
  have i2 : D a b u * (w.2 - a.2) = D u a w * (b.2 - a.2) + D a b w * (u.2 - a.2) := by unfold D; grind
  have i3 : D a b u * (b.1 - w.1) = D b u w * (b.1 - a.1) + D a b w * (u.1 - b.1) * (-1) := by unfold D; grind
  have i4 : D a b u * (b.2 - w.2) = D b u w * (b.2 - a.2) + D a b w * (u.2 - b.2) * (-1) := by unfold D; grind
  rw [h0, Rat.zero_mul, Rat.add_zero] at i1 i2
  rw [h0, Rat.zero_mul, Rat.zero_mul, Rat.add_zero] at i3 i4
  refine nn_of_mul (pos_mul hu hu) ?_
  have i : D a b u * D a b u * ((w.1 - a.1) * (b.1 - w.1) + (w.2 - a.2) * (b.2 - w.2)) = (D a b u * (w.1 - a.1)) * (D a b u * (b.1 - w.1)) + (D a b u * (w.2 - a.2)) * (D a b u * (b.2 - w.2)) := by clear i1 i2 i3 i4; grind
  rw [i, i1, i2, i3, i4]
  have j : D u a w * (b.1 - a.1) * (D b u w * (b.1 - a.1)) + D u a w * (b.2 - a.2) * (D b u w * (b.2 - a.2)) = (D u a w * D b u w) * ((b.1 - a.1) * (b.1 - a.1) + (b.2 - a.2) * (b.2 - a.2)) := by clear i1 i2 i3 i4 i; grind
  rw [j]
  exact nn_mul (nn_mul t3 t2) (by clear i j i1 i2 i3 i4; grind)
section
variable {P : Nat → Pt} {n : Nat} {nx pv : Nat → Nat} {K : Nat → Nat → Prop} {th : Nat → Nat → Option Nat}
theorem free_of_least (G : Bd P n nx pv) (F : Front P n nx pv K th) {a b u : Nat} (k : K a b) (p : Nat → Prop) (hu : u < n) (l : 0 < D (P a) (P b) (P u))
    (hl : ∀ w, w < n → p w → 0 ≤ D (P a) (P u) (P w) ∧ (D (P a) (P u) (P w) = 0 → D (P a) (P b) (P u) ≤ D (P a) (P b) (P w)))
    (hin : ∀ w, w < n → Tri (P w) (P a) (P b) (P u) → 0 < D (P a) (P b) (P w) → p w) :
    ∀ w, w < n → w ≠ a → w ≠ b → w ≠ u → ¬ Tri (P w) (P a) (P b) (P u) := by
  intro w hw h1 h2 h3 t
  by_cases z : D (P a) (P b) (P w) = 0
  · exact F.off _ _ _ k hw h1 h2 (tri_base t l z)
  · have pos : 0 < D (P a) (P b) (P w) := by have := t.1; grind
    obtain ⟨g1, g2⟩ := hl w hw (hin w hw t pos)
    have t3 := t.2.2
    have t2 := t.2.1
    have s := D_flip (P a) (P u) (P w)
    have z2 : D (P a) (P u) (P w) = 0 := by grind
    have g := g2 z2
    have ba := bary (P a) (P b) (P u) (P w)
    exact h3 (G.inj _ _ hw hu (two_lines l z2 (by grind)))
end
end Jor
end Go.Proofs.Ytdkaoopkbhaheaa
namespace Go.Proofs.Ytdkaoopkbhaheaa
namespace Jor
set_option linter.unusedVariables false
set_option linter.unusedSimpArgs false
theorem bary_s (a b u e f p : Pt) : D a b u * D e f p = D b u p * D e f a + D u a p * D e f b + D a b p * D e f u := by unfold D; grind
theorem D_end (e f : Pt) : D e f f = 0 := by unfold D; grind
theorem D_beg (e f : Pt) : D e f e = 0 := by unfold D; grind
theorem pn {x y : Rat} (hx : 0 < x) (hy : y < 0) : x * y < 0 := by have := pos_mul hx (show 0 < -y by grind); grind
theorem np {x y : Rat} (hx : x < 0) (hy : 0 < y) : x * y < 0 := neg_mul hx hy
theorem nnn {x y : Rat} (hx : x < 0) (hy : y < 0) : 0 < x * y := by have := pos_mul (show 0 < -x by grind) (show 0 < -y by grind); grind
theorem pasch1 {a b u e f : Pt} (hu : 0 < D a b u) (he : D b u e < 0) (hf : 0 < D b u f) (hb : 0 < D e f b) (hsu : D e f u < 0) (te : ¬ Tri e a b u) (tf : ¬ Tri f a b u) (nab : ¬ Mt a b e f) : Mt u a e f ∨ On a e f := by
  have se := bary_s a b u e f e
  have sf := bary_s a b u e f f
  rw [D_beg, Rat.mul_zero] at se
  rw [D_end, Rat.mul_zero] at sf
  have be := bary a b u e
  have bf := bary a b u f
  have c1 := cross_sum u a e f
  have c2 := cross_sum a b e f
  rcases (show 0 < D e f a ∨ D e f a < 0 ∨ D e f a = 0 by grind) with h | h | h
  · left
    have k1 : D u a f < 0 := by
      by_cases g : D u a f < 0
      · exact g
      · exfalso
        have g' : 0 ≤ D u a f := by grind
        have m1 := pos_mul hf h
        have m2 := nn_mul g' (show 0 ≤ D e f b by grind)
        refine tf ⟨?_, by grind, g'⟩
        by_cases q : 0 ≤ D a b f
        · exact q
        · have m3 := nnn (show D a b f < 0 by grind) hsu
          clear se be bf c1 c2 g; exfalso; grind
    have k2 : 0 < D u a e := by
      by_cases g : 0 < D u a e
      · exact g
      · exfalso
        have m1 := np he h
        have m2 := nn_mul (show 0 ≤ - D u a e by grind) (show 0 ≤ D e f b by grind)
        have q : ¬ 0 ≤ D a b e := fun q => by
          have m3 := nn_mul q (show 0 ≤ - D e f u by grind)
          clear sf be bf c1 c2 g k1; grind
        clear se sf m1 m2; grind
    exact Mt_cross k2 k1 hsu h
  · exfalso
    have k1 : D a b f < 0 := by
      by_cases g : D a b f < 0
      · exact g
      · exfalso
        have g' : 0 ≤ D a b f := by grind
        have m1 := pn hf h
        have m2 := nn_mul g' (show 0 ≤ - D e f u by grind)
        refine tf ⟨g', by grind, ?_⟩
        by_cases q : 0 ≤ D u a f
        · exact q
        · have m3 := np (show D u a f < 0 by grind) hb
          clear se be bf c1 c2 g; exfalso; grind
    have k2 : 0 < D a b e := by
      by_cases g : 0 < D a b e
      · exact g
      · exfalso
        have m1 := nnn he h
        have m2 := nn_mul (show 0 ≤ - D a b e by grind) (show 0 ≤ - D e f u by grind)
        have q : ¬ 0 ≤ D u a e := fun q => by
          have m3 := nn_mul q (show 0 ≤ D e f b by grind)
          clear sf be bf c1 c2 g k1; grind
        clear se sf m1 m2; grind
    exact nab (Mt_cross k2 k1 h hb)
  · right
    rw [h, Rat.mul_zero, Rat.zero_add] at se sf
    have k1 : D a b f < 0 := by
      by_cases g : D a b f < 0
      · exact g
      · exfalso
        have g' : 0 ≤ D a b f := by grind
        have m2 := nn_mul g' (show 0 ≤ - D e f u by grind)
        refine tf ⟨g', by grind, ?_⟩
        by_cases q : 0 ≤ D u a f
        · exact q
        · have m3 := np (show D u a f < 0 by grind) hb
          clear se be bf c1 c2 g; exfalso; grind
    have k2 : 0 < D a b e := by
      by_cases g : 0 < D a b e
      · exact g
      · exfalso
        have m2 := nn_mul (show 0 ≤ - D a b e by grind) (show 0 ≤ - D e f u by grind)
        have q : ¬ 0 < D u a e := fun q => by
          have m3 := pos_mul q hb
          clear sf be bf c1 c2 g k1; grind
        clear se sf m2; grind
    exact on_end h (d := b) (by grind) (by unfold Same; grind)
theorem heart {a b v c d u e f : Pt} (hv : 0 < D a b v)
    (xc : D a v c < 0) (yc : D a b c ≤ 0) (xd : 0 < D a v d) (yd : 0 < D a b d) (la : 0 < D c d a)
    (yu : 0 < D a b u) (lu : 0 ≤ D c d u) (xu : 0 < D a v u) (ud : 0 ≤ D a u d)
    (ae : D a u e < 0) (af : 0 < D a u f) (ga : 0 < D e f a) (gu : D e f u < 0)
    (eU : 0 < D a b e → D c d e < 0)
    (M : D a v e < 0 → 0 < D a v f → - D a v e * D c d f + D a v f * D c d e ≤ 0)
    (nc : ¬ (0 < D e f c ∧ D e f d < 0 ∧ D c d e < 0 ∧ 0 < D c d f)) : False := by
  have I1 : D a u f * D c d e - D a u e * D c d f = D e f a * D c d u - D e f u * D c d a := by unfold D; grind
  have I2 : D a u f * - D a v e - D a u e * - D a v f = D e f a * - D a v u := by unfold D; grind
  have I3 : D a b v * D a u e = - D a v u * D a b e - D a b u * - D a v e := by unfold D; grind
  have I5 : - D e f d * D a u c + D e f c * D a u d = - D c d e * D a u f + D c d f * D a u e := by unfold D; grind
  have I6 : - D a v c * D a u d - - D a v d * D a u c = D c d a * - D a v u := by unfold D; grind
  have I7 : - D e f d * - D a v c + D e f c * - D a v d = D c d f * - D a v e - D c d e * - D a v f := by unfold D; grind
  have I8 : D e f c - D e f d = D c d f - D c d e := by unfold D; grind
  generalize D a u f = Af at *
  generalize D a u e = Ae at *
  generalize D a u c = Ac at *
  generalize D a u d = Ad at *
  generalize D c d e = Le at *
  generalize D c d f = Lf at *
  generalize D c d u = Lu at *
  generalize D c d a = La at *
  generalize D e f a = Ga at *
  generalize D e f u = Gu at *
  generalize D e f c = Gc at *
  generalize D e f d = Gd at *
  generalize D a v e = Xe at *
  generalize D a v f = Xf at *
  generalize D a v u = Xu at *
  generalize D a v c = Xc at *
  generalize D a v d = Xd at *
  generalize D a b e = Ye at *
  generalize D a b u = Yu at *
  generalize D a b c = Yc at *
  generalize D a b d = Yd at *
  generalize D a b v = V at *
  have sz : 0 < Af * Le - Ae * Lf := by
    have m1 := nn_mul (show 0 ≤ Ga by grind) lu
    have m2 := pos_mul (show 0 < -Gu by grind) la
    rw [I1]; clear I1 I2 I3 I5 I6 I7; grind
  have sx : Af * - Xe - Ae * - Xf < 0 := by
    have m1 := pos_mul ga xu
    rw [I2]; clear I1 I2 I3 I5 I6 I7; grind
  rcases (show 0 ≤ Le ∨ Le < 0 by grind) with h | h
  · -- e on a's side
    have ye : Ye ≤ 0 := by
      by_cases g : 0 < Ye
      · have := eU g; exfalso; clear I1 I2 I3 I5 I6 I7 sz sx M nc; grind
      · clear I1 I2 I3 I5 I6 I7 sz sx M nc; grind
    have xe : Xe < 0 := by
      by_cases g : Xe < 0
      · exact g
      · exfalso
        have m1 := pn hv ae
        have m2 := nn_mul (show 0 ≤ Xu by grind) (show 0 ≤ - Ye by grind)
        have m3 := nn_mul (show 0 ≤ Yu by grind) (show 0 ≤ Xe by grind)
        clear I1 I2 I5 I6 I7 sz sx M nc; grind
    have xf : 0 < Xf := by
      by_cases g : 0 < Xf
      · exact g
      · exfalso
        have m1 := pos_mul af (show 0 < -Xe by grind)
        have m2 := nn_mul (show 0 ≤ - Ae by grind) (show 0 ≤ - Xf by grind)
        clear I1 I2 I3 I5 I6 I7 sz M nc; grind
    have m := M xe xf
    -- the way from the crossing to e stays on a's side
    have I4 : - Ae * (- Xe * Lf + Xf * Le) = - Xe * (Af * Le - Ae * Lf) - (Af * - Xe - Ae * - Xf) * Le := by grind
    have m1 := pos_mul (show 0 < -Xe by grind) sz
    have m2 := nn_mul (show 0 ≤ - (Af * - Xe - Ae * - Xf) by grind) h
    have m3 := nn_mul (show 0 ≤ - Ae by grind) (show 0 ≤ - (- Xe * Lf + Xf * Le) by grind)
    clear I1 I2 I3 I5 I6 I7 M nc; grind
  · have lf : 0 < Lf := by
      by_cases g : 0 < Lf
      · exact g
      · exfalso
        have m1 := pn af h
        have m2 := nn_mul (show 0 ≤ - Ae by grind) (show 0 ≤ - Lf by grind)
        clear I1 I2 I3 I5 I6 I7 M nc sx; grind
    have tau : - Gd * Ac + Gc * Ad < 0 := by rw [I5]; clear I1 I2 I3 I5 I6 I7 M nc sx; grind
    have six : - Xc * Ad - - Xd * Ac < 0 := by
      rw [I6]
      have := pos_mul la xu
      clear I1 I2 I3 I5 I6 I7 M nc sx tau sz; grind
    have gd : Gd < 0 := by
      by_cases g : Gd < 0
      · exact g
      · exfalso
        have g' : 0 ≤ Gd := by clear I1 I2 I3 I5 I6 I7 M nc sx tau sz six; grind
        have gc : 0 ≤ Gc := by clear I1 I2 I3 I5 I6 I7 M nc sx tau sz six; grind
        have m1 := nn_mul gc ud
        have ac : 0 < Ac := by
          by_cases q : 0 < Ac
          · exact q
          · have m2 := nn_mul g' (show 0 ≤ -Ac by clear I1 I2 I3 I5 I6 I7 M nc sx tau sz six m1; grind)
            exfalso; clear I1 I2 I3 I5 I6 I7 M nc sx sz six; grind
        have m3 := nn_mul (show 0 ≤ -Xc by clear I1 I2 I3 I5 I6 I7 M nc sx tau sz six m1; grind) ud
        have m4 := pos_mul xd ac
        clear I1 I2 I3 I5 I6 I7 M nc sx sz tau m1; grind
    have gc : Gc ≤ 0 := by
      by_cases q : 0 < Gc
      · exact absurd ⟨q, gd, h, lf⟩ nc
      · clear I1 I2 I3 I5 I6 I7 M nc sx tau sz six; grind
    -- the crossing with the line of c and d lies before c
    have xp : 0 < Lf * - Xe - Le * - Xf := by
      rw [← I7]
      have m1 := nnn gd xc
      have m2 := nn_mul (show 0 ≤ -Gc by clear I1 I2 I3 I5 I6 I7 M nc sx tau sz six m1; grind) (show 0 ≤ Xd by clear I1 I2 I3 I5 I6 I7 M nc sx tau sz six m1; grind)
      clear I1 I2 I3 I5 I6 I7 M nc sx tau sz six; grind
    have xe : Xe < 0 := by
      by_cases g : Xe < 0
      · exact g
      · exfalso
        have g' : 0 ≤ Xe := by clear I1 I2 I3 I5 I6 I7 M nc sx tau sz six xp; grind
        -- then Xf < 0, and the two say the contrary of sz
        have m1 := nn_mul (show 0 ≤ Lf by clear I1 I2 I3 I5 I6 I7 M nc sx tau sz six xp; grind) g'
        have xf : Xf < 0 := by
          by_cases q : Xf < 0
          · exact q
          · have m2 := nn_mul (show 0 ≤ -Le by clear I1 I2 I3 I5 I6 I7 M nc sx tau sz six xp m1; grind) (show 0 ≤ Xf by clear I1 I2 I3 I5 I6 I7 M nc sx tau sz six xp m1; grind)
            exfalso; clear I1 I2 I3 I5 I6 I7 M nc sx tau sz six; grind
        have m3 := pos_mul (show 0 < - Xf by clear I1 I2 I3 I5 I6 I7 M nc sx tau sz six xp m1; grind) sz
        have m4 := pos_mul af xp
        have m5 := nn_mul (show 0 ≤ Lf by clear I1 I2 I3 I5 I6 I7 M nc sx tau sz six xp m1 m3 m4; grind) (show 0 ≤ - (Af * - Xe - Ae * - Xf) by clear I1 I2 I3 I5 I6 I7 M nc tau sz six xp m1 m3 m4; grind)
        have id : Af * (Lf * - Xe - Le * - Xf) + Lf * - (Af * - Xe - Ae * - Xf) = - (- Xf * (Af * Le - Ae * Lf)) := by grind
        clear I1 I2 I3 I5 I6 I7 M nc tau six m1 sx sz xp; grind
    have xf : 0 < Xf := by
      by_cases g : 0 < Xf
      · exact g
      · exfalso
        have m1 := pos_mul af (show 0 < -Xe by clear I1 I2 I3 I5 I6 I7 M nc sx tau sz six xp; grind)
        have m2 := nn_mul (show 0 ≤ - Ae by clear I1 I2 I3 I5 I6 I7 M nc sx tau sz six xp m1; grind) (show 0 ≤ - Xf by clear I1 I2 I3 I5 I6 I7 M nc sx tau sz six xp m1; grind)
        clear I1 I2 I3 I5 I6 I7 M nc tau sz six xp; grind
    have m := M xe xf
    clear I1 I2 I3 I5 I6 I7 M nc tau sz six sx; grind
end Jor
end Go.Proofs.Ytdkaoopkbhaheaa
namespace Go.Proofs.Ytdkaoopkbhaheaa
namespace Jor
set_option linter.unusedVariables false
set_option linter.unusedSimpArgs false
section
variable {P : Nat → Pt} {n : Nat} {nx pv : Nat → Nat} {K : Nat → Nat → Prop} {th : Nat → Nat → Option Nat}
theorem KK.symm {a b : Nat} (h : KK K a b) : KK K b a := h.elim .inr .inl
theorem KK.l (F : Front P n nx pv K th) {a b : Nat} (h : KK K a b) : a < n := h.elim (F.fa _ _) (F.fb _ _)
theorem KK.r (F : Front P n nx pv K th) {a b : Nat} (h : KK K a b) : b < n := h.elim (F.fb _ _) (F.fa _ _)
theorem KK.cross (F : Front P n nx pv K th) {a b c d : Nat} (h : KK K a b) (g : KK K c d) (h1 : a ≠ c) (h2 : a ≠ d) (h3 : b ≠ c) (h4 : b ≠ d) : ¬ Mt (P a) (P b) (P c) (P d) := by
  rcases h with h | h <;> rcases g with g | g
  · exact F.cross a b c d h g h1 h2 h3 h4
  · exact fun m => F.cross a b d c h g h2 h1 h4 h3 ((Mt_flip _ _ _ _).1 m)
  · exact fun m => F.cross b a c d h g h3 h4 h1 h2 ((Mt_flip' _ _ _ _).1 m)
  · exact fun m => F.cross b a d c h g h4 h3 h2 h1 ((Mt_flip _ _ _ _).1 ((Mt_flip' _ _ _ _).1 m))
theorem clear_of (G : Bd P n nx pv) (F : Front P n nx pv K th) {a b u : Nat} (k : K a b) (hu : u < n) (l : 0 < D (P a) (P b) (P u))
    (free : ∀ w, w < n → w ≠ a → w ≠ b → w ≠ u → ¬ Tri (P w) (P a) (P b) (P u))
    (H3 : ∀ e f, KK K e f → D (P a) (P u) (P e) < 0 → 0 < D (P a) (P u) (P f) → 0 < D (P e) (P f) (P a) → D (P e) (P f) (P u) < 0 → False)
    (H2 : ∀ f, KK K a f → 0 < D (P a) (P b) (P f) → D (P a) (P u) (P f) < 0 → False) : Clear P n K a b u := by
  have ha := F.fa _ _ k; have hb := F.fb _ _ k
  have ab := F.ne _ _ k
  have ua : u ≠ a := fun e => by rw [e] at l; unfold D at l; grind
  have ub : u ≠ b := fun e => by rw [e] at l; unfold D at l; grind
  have l2 : 0 < D (P b) (P u) (P a) := by have := D_rot (P a) (P b) (P u); grind
  have l3 : 0 < D (P u) (P a) (P b) := by have := D_rot2 (P a) (P b) (P u); grind
  have s3 : ∀ c d, KK K c d → c ≠ u → d ≠ u → c ≠ a → d ≠ a → ¬ Mt (P u) (P a) (P c) (P d) := by
    intro c d h c1 d1 c2 d2 m
    have on : ∀ w, w < n → w ≠ u → w ≠ a → ¬ On (P w) (P u) (P a) := fun w hw h1 h2 o => by
      by_cases e : w = b
      · rw [e] at o; have := o.1; grind
      · exact free w hw h2 e h1 (Tri.rot (on_tri o l3))
    rcases Mt_strict (G.ne hu ha ua) (G.ne (h.l F) (h.r F) (Ne.symm (KK.ne F h))) m with ⟨o1, o2⟩ | g | g | g | g
    · have f1 := D_flip (P a) (P u) (P c); have f2 := D_flip (P a) (P u) (P d)
      have cs := cross_sum (P u) (P a) (P c) (P d)
      have f3 := D_flip (P c) (P d) (P a); have f4 := D_flip (P c) (P d) (P u)
      unfold Opp at o1 o2
      rcases o1 with ⟨q1, q2⟩ | ⟨q1, q2⟩
      · exact H3 c d h (by grind) (by grind) (by grind) (by grind)
      · exact H3 d c h.symm (by grind) (by grind) (by grind) (by grind)
    · exact KK.off F h hu (Ne.symm c1) (Ne.symm d1) g
    · exact KK.off F h ha (Ne.symm c2) (Ne.symm d2) g
    · exact on c (h.l F) c1 c2 g
    · exact on d (h.r F) d1 d2 g
  have way : ∀ e f, KK K e f → e ≠ b → f ≠ b → e ≠ u → f ≠ u → D (P b) (P u) (P e) < 0 → 0 < D (P b) (P u) (P f) → 0 < D (P e) (P f) (P b) → D (P e) (P f) (P u) < 0 → False := by
    intro e f h e1 f1 e2 f2 q1 q2 q3 q4
    have ea : e ≠ a := fun x => by rw [x] at q1; grind
    by_cases fa : f = a
    · rw [fa] at h q3 q4
      have r1 := D_rot (P e) (P a) (P b); have r2 := D_rot (P e) (P a) (P u)
      exact H2 e h.symm (by grind) (by grind)
    · rcases pasch1 l q1 q2 q3 q4 (free e (h.l F) ea e1 e2) (free f (h.r F) fa f1 f2) (KK.cross F (.inl k) h (Ne.symm ea) (Ne.symm fa) (Ne.symm e1) (Ne.symm f1)) with g | g
      · exact s3 e f h e2 f2 ea fa g
      · exact KK.off F h ha (Ne.symm ea) (Ne.symm fa) g
  refine ⟨hu, l, free, fun c d h c1 d1 c2 d2 => F.cross a b c d k h (Ne.symm c1) (Ne.symm d1) (Ne.symm c2) (Ne.symm d2), ?_, fun c d h c1 d1 c2 d2 => s3 c d (.inl h) c1 d1 c2 d2⟩
  intro c d hk c1 d1 c2 d2 m
  have h : KK K c d := .inl hk
  have on : ∀ w, w < n → w ≠ b → w ≠ u → ¬ On (P w) (P b) (P u) := fun w hw h1 h2 o => by
    by_cases e : w = a
    · rw [e] at o; have := o.1; grind
    · exact free w hw e h1 h2 (Tri.rot (Tri.rot (on_tri o l2)))
  rcases Mt_strict (G.ne hb hu (Ne.symm ub)) (G.ne (h.l F) (h.r F) (Ne.symm (KK.ne F h))) m with ⟨o1, o2⟩ | g | g | g | g
  · have cs := cross_sum (P b) (P u) (P c) (P d)
    have f3 := D_flip (P c) (P d) (P b); have f4 := D_flip (P c) (P d) (P u)
    unfold Opp at o1 o2
    rcases o1 with ⟨q1, q2⟩ | ⟨q1, q2⟩
    · exact way d c h.symm d1 c1 d2 c2 q2 q1 (by grind) (by grind)
    · exact way c d h c1 d1 c2 d2 q1 q2 (by grind) (by grind)
  · exact KK.off F h hb (Ne.symm c1) (Ne.symm d1) g
  · exact KK.off F h hu (Ne.symm c2) (Ne.symm d2) g
  · exact on c (h.l F) c1 c2 g
  · exact on d (h.r F) d1 d2 g
def Across (P : Nat → Pt) (K : Nat → Nat → Prop) (a v c d : Nat) : Prop := KK K c d ∧ D (P a) (P v) (P c) < 0 ∧ 0 < D (P a) (P v) (P d) ∧ 0 < D (P c) (P d) (P a) ∧ D (P c) (P d) (P v) < 0
theorem nearest (F : Front P n nx pv K th) {a v c0 d0 : Nat} (h0 : Across P K a v c0 d0) : ∃ c d, Across P K a v c d ∧ ∀ e f, KK K e f → D (P a) (P v) (P e) < 0 → 0 < D (P a) (P v) (P f) → 0 < D (P e) (P f) (P a) →
    - D (P a) (P v) (P e) * D (P c) (P d) (P f) + D (P a) (P v) (P f) * D (P c) (P d) (P e) ≤ 0 := by
  have code : ∀ c d, c < n → d < n → c * n + d < n * n ∧ (c * n + d) / n = c ∧ (c * n + d) % n = d := by
    intro c d hc hd
    have hn : 0 < n := by omega
    refine ⟨?_, ?_, ?_⟩
    · have : (c + 1) * n ≤ n * n := Nat.mul_le_mul_right n hc
      rw [Nat.add_mul, Nat.one_mul] at this; omega
    · rw [Nat.mul_comm, Nat.mul_add_div hn, Nat.div_eq_of_lt hd]; rfl
    · rw [Nat.mul_comm, Nat.mul_add_mod]; exact Nat.mod_eq_of_lt hd
  rcases least (fun i => D (P (i / n)) (P (i % n)) (P a) / - D (P (i / n)) (P (i % n)) (P v)) (fun i => Across P K a v (i / n) (i % n)) (n * n) with h | ⟨i, hi, pi, mi⟩
  · obtain ⟨x1, x2, x3⟩ := code c0 d0 (h0.1.l F) (h0.1.r F)
    exact absurd (by rw [x2, x3]; exact h0) (h _ x1)
  · refine ⟨i / n, i % n, pi, fun e f h q1 q2 q3 => ?_⟩
    have id : - D (P a) (P v) (P e) * D (P (i / n)) (P (i % n)) (P f) + D (P a) (P v) (P f) * D (P (i / n)) (P (i % n)) (P e) = D (P e) (P f) (P a) * D (P (i / n)) (P (i % n)) (P v) - D (P e) (P f) (P v) * D (P (i / n)) (P (i % n)) (P a) := by unfold D; grind
    rw [id]
    clear id
    obtain ⟨_, _, _, la, lv⟩ := pi
    by_cases gv : D (P e) (P f) (P v) < 0
    · obtain ⟨x1, x2, x3⟩ := code e f (h.l F) (h.r F)
      have m := mi _ x1 (by rw [x2, x3]; exact ⟨h, q1, q2, q3, gv⟩)
      simp only [x2, x3] at m
      clear mi code x1 x2 x3 h q1 q2 h0
      generalize D (P (i / n)) (P (i % n)) (P a) = La at *
      generalize D (P (i / n)) (P (i % n)) (P v) = Lv at *
      generalize D (P e) (P f) (P a) = Ga at *
      generalize D (P e) (P f) (P v) = Gv at *
      have e1 : La = (La / - Lv) * - Lv := by grind
      have e2 : Ga = (Ga / - Gv) * - Gv := by grind
      generalize La / - Lv = r1 at *
      generalize Ga / - Gv = r2 at *
      have m1 := nnn lv gv
      have m2 := nn_mul (show 0 ≤ r2 - r1 by clear e1 e2; grind) (show 0 ≤ Lv * Gv by clear e1 e2; grind)
      have id : Ga * Lv - Gv * La = - ((r2 - r1) * (Lv * Gv)) := by rw [e1, e2]; clear e1 e2; grind
      rw [id]; clear id e1 e2; grind
    · have m1 := pn q3 lv
      have m2 := nn_mul (show 0 ≤ D (P e) (P f) (P v) by grind) (show 0 ≤ D (P (i / n)) (P (i % n)) (P a) by grind)
      grind
end
end Jor
end Go.Proofs.Ytdkaoopkbhaheaa
namespace Go.Proofs.Ytdkaoopkbhaheaa
namespace Jor
set_option linter.unusedVariables false
set_option linter.unusedSimpArgs false
theorem above_d (a b v c d : Pt) : - D a v c * D a b d + D a v d * D a b c = D c d a * D a b v := by unfold D; grind
theorem angle_trans (a b f u d : Pt) : D a b u * D a f d = D a b f * D a u d + D a b d * D a f u := by unfold D; grind
theorem way_c (a v c d f : Pt) : - D a v c * D a f d + D a v d * D a f c = D c d a * - D a v f := by unfold D; grind
section
variable {P : Nat → Pt} {n : Nat} {nx pv : Nat → Nat} {K : Nat → Nat → Prop} {th : Nat → Nat → Option Nat}
theorem apex (G : Bd P n nx pv) (F : Front P n nx pv K th) {a b : Nat} (k : K a b) : ∃ v, Clear P n K a b v := by
  have ha := F.fa _ _ k; have hb := F.fb _ _ k
  have ab := F.ne _ _ k
  obtain ⟨v, hv, lv, hl⟩ := least_angle P n (P a) (P b) (fun w => 0 < D (P a) (P b) (P w)) (fun w _ h => h) (some_left G F k)
  have freeV := free_of_least G F k _ hv lv hl (fun w _ _ h => h)
  by_cases cr : ∃ c d, Across P K a v c d
  · obtain ⟨c0, d0, h0⟩ := cr
    obtain ⟨c, d, ⟨kcd, xc, xd, la, lcv⟩, M⟩ := nearest F h0
    have hc := kcd.l F; have hd := kcd.r F
    have yc : D (P a) (P b) (P c) ≤ 0 := by
      by_cases q : 0 < D (P a) (P b) (P c)
      · have := (hl c hc q).1; exfalso; grind
      · grind
    have yd : 0 < D (P a) (P b) (P d) := by
      have id := above_d (P a) (P b) (P v) (P c) (P d)
      have m1 := pos_mul la lv
      have m2 := nn_mul (show 0 ≤ D (P a) (P v) (P d) by grind) (show 0 ≤ - D (P a) (P b) (P c) by grind)
      refine pos_of_mul (show 0 < - D (P a) (P v) (P c) by grind) ?_
      grind
    have ca : c ≠ a := fun e => by rw [e, D_beg] at xc; grind
    have da : d ≠ a := fun e => by rw [e, D_beg] at xd; grind
    have db : d ≠ b := fun e => by rw [e] at xd; have := D_swap (P a) (P b) (P v); grind
    have lb : 0 ≤ D (P c) (P d) (P b) := by
      by_cases q : 0 ≤ D (P c) (P d) (P b)
      · exact q
      · exfalso
        have cb : c ≠ b := fun e => q (by rw [e, D_beg]; grind)
        have f1 := D_flip (P c) (P d) (P a); have f2 := D_flip (P c) (P d) (P b)
        by_cases z : D (P a) (P b) (P c) = 0
        · exact F.off a b c k hc ca cb (on_end z (d := P d) (by grind) (by unfold Same; grind))
        · exact KK.cross F (.inl k) kcd.symm (Ne.symm da) (Ne.symm ca) (Ne.symm db) (Ne.symm cb) (Mt_cross yd (by grind) (by grind) (by grind))
    obtain ⟨u, hu, ⟨yu, lu⟩, hU⟩ := least_angle P n (P a) (P b) (fun w => 0 < D (P a) (P b) (P w) ∧ 0 ≤ D (P c) (P d) (P w)) (fun w _ h => h.1) ⟨d, hd, yd, by rw [D_end]; grind⟩
    have ud := (hU d hd ⟨yd, by rw [D_end]; grind⟩).1
    have xu : 0 < D (P a) (P v) (P u) := by
      obtain ⟨g1, g2⟩ := hl u hu yu
      by_cases z : D (P a) (P v) (P u) = 0
      · exfalso
        have g := g2 z
        have bs := bary_s (P a) (P b) (P v) (P c) (P d) (P u)
        have ba := bary (P a) (P b) (P v) (P u)
        have fl := D_flip (P a) (P v) (P u)
        have z2 : D (P v) (P a) (P u) = 0 := by grind
        rw [z2, Rat.zero_mul, Rat.add_zero] at bs
        have m1 := nn_mul (show 0 ≤ D (P a) (P b) (P v) by grind) lu
        have m2 := nn_mul (show 0 ≤ - D (P b) (P v) (P u) by grind) (show 0 ≤ D (P c) (P d) (P a) by grind)
        have m3 := pn yu lcv
        clear hU hl freeV M; grind
      · grind
    refine ⟨u, clear_of G F k hu yu ?_ ?_ ?_⟩
    · refine free_of_least G F k _ hu yu hU fun w hw t pos => ⟨pos, ?_⟩
      have bs := bary_s (P a) (P b) (P u) (P c) (P d) (P w)
      have m1 := nn_mul t.2.1 (show 0 ≤ D (P c) (P d) (P a) by grind)
      have m2 := nn_mul t.2.2 lb
      have m3 := nn_mul t.1 lu
      refine nn_of_mul yu ?_
      rw [bs]
      exact Rat.add_nonneg (Rat.add_nonneg m1 m2) m3
    · intro e f h q1 q2 q3 q4
      refine heart lv xc yc xd yd la yu lu xu ud q1 q2 q3 q4 (fun g => ?_) (fun x1 x2 => M e f h x1 x2 q3) ?_
      · by_cases z : 0 ≤ D (P c) (P d) (P e)
        · have := (hU e (h.l F) ⟨g, z⟩).1; exfalso; grind
        · grind
      · rintro ⟨g1, g2, g3, g4⟩
        have n1 : e ≠ c := fun x => by rw [x, D_beg] at g3; grind
        have n2 : e ≠ d := fun x => by rw [x, D_end] at g3; grind
        have n3 : f ≠ c := fun x => by rw [x, D_beg] at g4; grind
        have n4 : f ≠ d := fun x => by rw [x, D_end] at g4; grind
        exact KK.cross F h kcd n1 n2 n3 n4 (Mt_cross g1 g2 g3 g4)
    · intro f h q1 q2
      have hf := h.r F
      by_cases z : 0 ≤ D (P c) (P d) (P f)
      · have := (hU f hf ⟨q1, z⟩).1; grind
      · have xf := (hl f hf q1).1
        have s1 := D_swap (P a) (P u) (P f)
        have fd : 0 < D (P a) (P f) (P d) := by
          have id := angle_trans (P a) (P b) (P f) (P u) (P d)
          have m1 := nn_mul (show 0 ≤ D (P a) (P b) (P f) by grind) ud
          have m2 := pos_mul yd (show 0 < D (P a) (P f) (P u) by grind)
          refine pos_of_mul yu ?_
          rw [id]
          clear id hU hl M freeV; grind
        have fc : D (P a) (P f) (P c) < 0 := by
          by_cases q : D (P a) (P f) (P c) < 0
          · exact q
          · exfalso
            have id := way_c (P a) (P v) (P c) (P d) (P f)
            have m1 := pos_mul (show 0 < - D (P a) (P v) (P c) by grind) fd
            have m2 := nn_mul (show 0 ≤ D (P a) (P v) (P d) by grind) (show 0 ≤ D (P a) (P f) (P c) by grind)
            have m3 := nn_mul (show 0 ≤ D (P c) (P d) (P a) by grind) xf
            clear hU hl M freeV; grind
        have n1 : c ≠ f := fun x => by rw [← x, D_beg] at z; exact z (by grind)
        have n2 : d ≠ f := fun x => by rw [← x, D_end] at z; exact z (by grind)
        exact KK.cross F kcd h ca n1 da n2 (Mt_cross la (by grind) fc fd)
  · refine ⟨v, clear_of G F k hv lv freeV ?_ ?_⟩
    · exact fun e f h q1 q2 q3 q4 => cr ⟨e, f, h, q1, q2, q3, q4⟩
    · intro f h q1 q2
      have := (hl f (h.r F) q1).1
      grind
end
end Jor
#print axioms Jor.apex
#print axioms Jor.lay_front
end Go.Proofs.Ytdkaoopkbhaheaa
