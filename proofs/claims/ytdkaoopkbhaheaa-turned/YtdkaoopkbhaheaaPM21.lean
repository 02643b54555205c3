import Derived.Test.YtdkaoopkbhaheaaPM12
namespace Go.Proofs.Ytdkaoopkbhaheaa
namespace Jor
set_option linter.unusedVariables false
set_option linter.unusedSimpArgs false
section
variable {P : Nat → Pt} {n : Nat} {nx pv : Nat → Nat} {K K' : Nat → Nat → Prop} {th : Nat → Nat → Option Nat}
theorem Clear.less (h : ∀ a b, K a b → K' a b) {a b v : Nat} (C : Clear P n K' a b v) : Clear P n K a b v :=
  ⟨C.lt, C.left, C.free, fun c d k => C.s1 c d (h c d k), fun c d k => C.s2 c d (h c d k), fun c d k => C.s3 c d (h c d k)⟩
theorem Clear.turn {a b v : Nat} (ha : a < n) (C : Clear P n K a b v) : Clear P n K b v a :=
  ⟨ha, by have := D_rot (P a) (P b) (P v); have := C.left; grind, fun w hw h1 h2 h3 h => C.free w hw h3 h1 h2 (Tri.rot (Tri.rot h)), C.s2, C.s3, C.s1⟩
theorem inc_swap (a b v w : Pt) : inc b a w v = inc a b v w := by unfold inc q2 D; grind
structure Del (P : Nat → Pt) (n : Nat) (K : Nat → Nat → Prop) (th : Nat → Nat → Option Nat) : Prop where
  cut : ∀ a b, K a b → K b a → th a b = none → th b a ≠ none
  one : ∀ a b v w, th a b = some v → K b a → th b a = none → Clear P n K b a w → inc (P a) (P b) (P v) (P w) ≤ 0
  two : ∀ a b v w, th a b = some v → th b a = some w → inc (P a) (P b) (P v) (P w) ≤ 0
theorem lay_del (G : Bd P n nx pv) (F : Front P n nx pv K th) (L : Del P n K th) {a b v : Nat} (k : K a b) (C : Clear P n K a b v) (u : th a b = none)
    (best : ∀ z, Clear P n K a b z → inc (P a) (P b) (P v) (P z) ≤ 0) : Del P n (K2 K a b v) (th2 th a b v) := by
  have F2 := lay_front G F k C u
  have ha := F.fa _ _ k; have hb := F.fb _ _ k; have hv := C.lt
  have va := C.va; have vb := C.vb; have ab := C.ab
  obtain ⟨ib, nvb⟩ := corner_b G F k C
  obtain ⟨nav, ia⟩ := corner_a G F k C
  have ub := uncut_b F k C u
  have ua := uncut_a F k C u
  have Cb := C.turn ha
  have Ca := Cb.turn hb
  have up : ∀ x y, K x y → K2 K a b v x y := fun x y h => .inl h
  have t_old : ∀ x y w, th x y = some w → th2 th a b v x y = some w := by
    intro x y w h
    unfold th2
    rw [if_neg, if_neg, if_neg]
    · exact h
    · rintro ⟨rfl, rfl⟩; rw [ua] at h; cases h
    · rintro ⟨rfl, rfl⟩; rw [ub] at h; cases h
    · rintro ⟨rfl, rfl⟩; rw [u] at h; cases h
  have t_none : ∀ x y, th2 th a b v x y = none → th x y = none := by
    intro x y h
    cases e : th x y with
    | none => rfl
    | some w => rw [t_old x y w e] at h; cases h
  -- what is cut is old, or a side of the new one
  have t_cases : ∀ x y w, th2 th a b v x y = some w → th x y = some w ∨ (x = a ∧ y = b ∧ w = v) ∨ (x = b ∧ y = v ∧ w = a) ∨ (x = v ∧ y = a ∧ w = b) := by
    intro x y w h
    unfold th2 at h
    split at h
    · next q => cases h; exact .inr (.inl ⟨q.1, q.2, rfl⟩)
    · split at h
      · next q => cases h; exact .inr (.inr (.inl ⟨q.1, q.2, rfl⟩))
      · split at h
        · next q => cases h; exact .inr (.inr (.inr ⟨q.1, q.2, rfl⟩))
        · exact .inl h
  have t_ab : th2 th a b v a b = some v := if_pos ⟨rfl, rfl⟩
  have t_bv : th2 th a b v b v = some a := by unfold th2; rw [if_neg (by omega), if_pos ⟨rfl, rfl⟩]
  have t_va : th2 th a b v v a = some b := by unfold th2; rw [if_neg (by omega), if_neg (by omega), if_pos ⟨rfl, rfl⟩]
  have kth : ∀ x y w, th x y = some w → K x y := fun x y w h => (F.tri _ _ _ h).1
  -- sides that are known either way
  have kb : K v b → K b v := fun h => F.pair _ _ h nvb
  have ka : K a v → K v a := fun h => F.pair _ _ h nav
  have nb : ¬ (K v b ∧ th v b = none) := fun h => L.cut _ _ h.1 (kb h.1) h.2 ub
  have na : ¬ (K a v ∧ th a v = none) := fun h => L.cut _ _ h.1 (ka h.1) h.2 ua
  refine ⟨?_, ?_, ?_⟩
  · intro x y h g e e2
    have e' := t_none _ _ e
    have e2' := t_none _ _ e2
    rcases h with h | ⟨rfl, rfl⟩ | ⟨rfl, rfl, _⟩ | ⟨rfl, rfl⟩ | ⟨rfl, rfl, _⟩
    · rcases g with g | ⟨rfl, rfl⟩ | ⟨rfl, rfl, _⟩ | ⟨rfl, rfl⟩ | ⟨rfl, rfl, _⟩
      · exact L.cut _ _ h g e' e2'
      · rw [t_bv] at e2; cases e2
      · rw [t_bv] at e; cases e
      · rw [t_va] at e2; cases e2
      · rw [t_va] at e; cases e
    · rw [t_bv] at e; cases e
    · rw [t_bv] at e2; cases e2
    · rw [t_va] at e; cases e
    · rw [t_va] at e2; cases e2
  · intro x y z w h g e Cw
    have Cw' := Cw.less up
    have e' := t_none _ _ e
    rcases t_cases _ _ _ h with h | ⟨rfl, rfl, rfl⟩ | ⟨rfl, rfl, rfl⟩ | ⟨rfl, rfl, rfl⟩
    · have kxy := kth _ _ _ h
      by_cases kyx : K y x
      · exact L.one _ _ _ _ h kyx e' Cw'
      · exfalso
        by_cases q : nx x = y
        · exact F2.nb x (F.fa _ _ kxy) (by rw [q]; exact g)
        · exact kyx (F.pair _ _ kxy q)
    · exfalso
      have kyx : K y x := by
        rcases g with g | ⟨g1, g2⟩ | ⟨g1, g2, _⟩ | ⟨g1, g2⟩ | ⟨g1, g2, _⟩
        · exact g
        all_goals (exfalso; omega)
      exact L.cut _ _ k kyx u e'
    · by_cases q : K y x
      · exact absurd ⟨q, e'⟩ nb
      · have nk : ¬ KK K x y := fun h2 => h2.elim (fun h3 => by
            rcases g with g | ⟨g1, g2⟩ | ⟨g1, g2, g3⟩ | ⟨g1, g2⟩ | ⟨g1, g2, g3⟩
            · exact q g
            · exact vb g1
            · exact g3 h3
            · exact ab g2.symm
            · exact va g1) q
        have := del_b G F k C best nk Cw'
        rw [inc_rot] at this
        exact this
    · by_cases q : K y x
      · exact absurd ⟨q, e'⟩ na
      · have nk : ¬ KK K y x := fun h2 => h2.elim q (fun h3 => by
            rcases g with g | ⟨g1, g2⟩ | ⟨g1, g2, g3⟩ | ⟨g1, g2⟩ | ⟨g1, g2, g3⟩
            · exact q g
            · exact ab g1
            · exact va g1.symm
            · exact va g1.symm
            · exact g3 h3)
        have := del_a G F k C best nk Cw'
        rw [inc_rot, inc_rot] at this
        exact this
  · intro x y z w h g
    rcases t_cases _ _ _ h with h0 | ⟨rfl, rfl, rfl⟩ | ⟨rfl, rfl, rfl⟩ | ⟨rfl, rfl, rfl⟩
    · rcases t_cases _ _ _ g with g | ⟨rfl, rfl, rfl⟩ | ⟨rfl, rfl, rfl⟩ | ⟨rfl, rfl, rfl⟩
      · exact L.two _ _ _ _ h0 g
      · exact L.one _ _ _ _ h0 k u C
      · exact L.one _ _ _ _ h0 (kb (kth _ _ _ h0)) ub Cb
      · exact L.one _ _ _ _ h0 (ka (kth _ _ _ h0)) ua Ca
    · rcases t_cases _ _ _ g with g | ⟨g1, g2, _⟩ | ⟨g1, g2, _⟩ | ⟨g1, g2, _⟩
      · have := L.one _ _ _ _ g k u C
        rw [inc_swap] at this
        exact this
      all_goals (exfalso; omega)
    · rcases t_cases _ _ _ g with g | ⟨g1, g2, _⟩ | ⟨g1, g2, _⟩ | ⟨g1, g2, _⟩
      · have := L.one _ _ _ _ g (kb (kth _ _ _ g)) ub Cb
        rw [inc_swap] at this
        exact this
      all_goals (exfalso; omega)
    · rcases t_cases _ _ _ g with g | ⟨g1, g2, _⟩ | ⟨g1, g2, _⟩ | ⟨g1, g2, _⟩
      · have := L.one _ _ _ _ g (ka (kth _ _ _ g)) ua Ca
        rw [inc_swap] at this
        exact this
      all_goals (exfalso; omega)
theorem del_start (G : Bd P n nx pv) : Del P n (fun a b => a < n ∧ nx a = b) (fun _ _ => none) :=
  ⟨fun a b h g _ => absurd g.2 (by rw [← h.2]; exact G.nn h.1), fun a b v w h => (by cases h), fun a b v w h => (by cases h)⟩
theorem inc_pencil (a b u q z : Pt) : D a b q * inc a b u z = D a b z * inc a b u q + D a b u * inc a b q z := by unfold inc q2 D; grind
theorem inc_trans {a b u q z : Pt} (hu : 0 < D a b u) (hq : 0 < D a b q) (hz : 0 < D a b z) (h1 : inc a b u z ≤ 0) (h2 : 0 < inc a b u q) : inc a b q z ≤ 0 := by
  have e := inc_pencil a b u q z
  have p1 := pos_mul hz h2
  have p2 : D a b q * inc a b u z ≤ 0 := by
    have := nn_mul (Rat.le_of_lt hq) (show 0 ≤ - inc a b u z by grind)
    grind
  refine Rat.not_lt.1 fun h => ?_
  have p3 := pos_mul hu h
  generalize D a b q * inc a b u z = x1 at *
  generalize D a b z * inc a b u q = x2 at *
  generalize D a b u * inc a b q z = x3 at *
  grind
end
end Jor
end Go.Proofs.Ytdkaoopkbhaheaa
namespace Go.Proofs.Ytdkaoopkbhaheaa
namespace Jor
set_option linter.unusedVariables false
set_option linter.unusedSimpArgs false
def gg (x y : Pt) : Int := kap x y - kap y x
theorem gg_anti (x y : Pt) : gg y x = - gg x y := by unfold gg; omega
theorem tie {a b v : Pt} (h : 0 < D a b v) (e : a.2 = b.2) : (a.1 < b.1 ∧ a.2 < v.2) ∨ (b.1 < a.1 ∧ v.2 < a.2) := by
  have hd : D a b v = (b.1 - a.1) * (v.2 - a.2) := by unfold D; rw [e]; grind
  rw [hd] at h
  by_cases h1 : 0 < b.1 - a.1
  · left
    refine ⟨by grind, ?_⟩
    have := pos_of_mul h1 h
    grind
  · right
    by_cases h0 : b.1 - a.1 = 0
    · rw [h0] at h; grind
    · have h2 : 0 < a.1 - b.1 := by grind
      refine ⟨by grind, ?_⟩
      have : 0 < (a.1 - b.1) * (a.2 - v.2) := by grind
      have := pos_of_mul h2 this
      grind
theorem cr_left {q a b : Pt} (h : 0 < D a b q) : cr q a b = if a.2 ≤ q.2 ∧ q.2 < b.2 then 1 else 0 := by
  unfold cr
  by_cases h1 : a.2 ≤ q.2 ∧ q.2 < b.2
  · rw [if_pos ⟨h1.1, h1.2, h⟩, if_pos h1]
  · rw [if_neg (fun g => h1 ⟨g.1, g.2.1⟩), if_neg h1, if_neg]
    rintro ⟨_, _, g⟩
    grind
theorem tri_one {a b v : Pt} (h : 0 < D a b v) : gg a b + gg b v + gg v a + 2 * (cr a b v + cr b v a + cr v a b) = 1 := by
  have h1 : 0 < D b v a := by rw [← D_rot]; exact h
  have h2 : 0 < D v a b := by rw [← D_rot2]; exact h
  rw [cr_left h1, cr_left h2, cr_left h]
  have t1 := tie h
  have t2 := tie h1
  have t3 := tie h2
  unfold gg kap
  clear h h1 h2
  have tr : ∀ x y : Rat, x < y ∨ x = y ∨ y < x := fun x y => by grind
  rcases tr a.2 b.2 with q1 | q1 | q1 <;> rcases tr b.2 v.2 with q2 | q2 | q2 <;> rcases tr v.2 a.2 with q3 | q3 | q3
  all_goals (first | (exfalso; grind) | skip)
  all_goals grind
theorem out_one {a b v w : Pt} (h : 0 < D a b v) (hw : D a b w < 0) : cr w a b + cr w b v + cr w v a = 0 := by
  have s := bary a b v w
  have m := vec2 a b v w
  unfold cr
  generalize D b v w = A at *
  generalize D v a w = B at *
  generalize D a b w = C at *
  generalize D a b v = S at *
  have pp : ∀ {x y : Rat}, 0 < x → 0 < y → 0 < x * y := fun h1 h2 => pos_mul h1 h2
  have nn : ∀ {x y : Rat}, 0 ≤ x → 0 ≤ y → 0 ≤ x * y := fun h1 h2 => nn_mul h1 h2
  by_cases la : a.2 ≤ w.2 <;> by_cases lb : b.2 ≤ w.2 <;> by_cases lv : v.2 ≤ w.2
  · grind
  · have c1 := pp (show 0 < -C by grind) (show 0 < v.2 - w.2 by grind)
    have e1 : 0 < A → B < 0 := fun hA => Rat.not_le.1 fun hB => by
      have := nn (Rat.le_of_lt hA) (show 0 ≤ w.2 - a.2 by grind)
      have := nn hB (show 0 ≤ w.2 - b.2 by grind)
      grind
    have e2 : B < 0 → 0 < A := fun hB => by grind
    grind
  · have e1 : ¬ A < 0 := fun hA => by
      have := nn (show 0 ≤ -A by grind) (show 0 ≤ w.2 - a.2 by grind)
      have := nn (show 0 ≤ -C by grind) (show 0 ≤ w.2 - v.2 by grind)
      have hB : 0 < B := by grind
      have := pp hB (show 0 < b.2 - w.2 by grind)
      grind
    grind
  · have e1 : ¬ B < 0 := fun hB => by
      have := pp (show 0 < -B by grind) (show 0 < b.2 - w.2 by grind)
      have := pp (show 0 < -C by grind) (show 0 < v.2 - w.2 by grind)
      have hA : 0 < A := by grind
      have := nn (Rat.le_of_lt hA) (show 0 ≤ w.2 - a.2 by grind)
      grind
    grind
  · have e1 : 0 < B := Rat.not_le.1 fun hB => by
      have := nn (show 0 ≤ -B by grind) (show 0 ≤ w.2 - b.2 by grind)
      have := nn (show 0 ≤ -C by grind) (show 0 ≤ w.2 - v.2 by grind)
      have hA : 0 < A := by grind
      have := pp hA (show 0 < a.2 - w.2 by grind)
      grind
    grind
  · have e1 : 0 < A := Rat.not_le.1 fun hA => by
      have := nn (show 0 ≤ -A by grind) (show 0 ≤ a.2 - w.2 by grind)
      have := pp (show 0 < -C by grind) (show 0 < v.2 - w.2 by grind)
      have hB : 0 < B := by grind
      have := nn (Rat.le_of_lt hB) (show 0 ≤ w.2 - b.2 by grind)
      grind
    grind
  · have e1 : A < 0 → 0 < B := fun hA => by grind
    have e2 : 0 < B → A < 0 := fun hB => Rat.not_le.1 fun hA => by
      have := nn hA (show 0 ≤ a.2 - w.2 by grind)
      have := pp hB (show 0 < b.2 - w.2 by grind)
      have := nn (show 0 ≤ -C by grind) (show 0 ≤ w.2 - v.2 by grind)
      grind
    grind
  · grind
theorem out_tri {a b v w : Pt} (h : 0 < D a b v) (hw : ¬ Tri w a b v) : cr w a b + cr w b v + cr w v a = 0 := by
  have h1 : 0 < D b v a := by rw [← D_rot]; exact h
  have h2 : 0 < D v a b := by rw [← D_rot2]; exact h
  by_cases q1 : D a b w < 0
  · exact out_one h q1
  · by_cases q2 : D b v w < 0
    · have := out_one h1 q2; omega
    · by_cases q3 : D v a w < 0
      · have := out_one h2 q3; omega
      · exact absurd ⟨by grind, by grind, by grind⟩ hw
theorem sm_three (f : Nat → Int) (n a b c : Nat) (ha : a < n) (hb : b < n) (hc : c < n) (hab : a ≠ b) (hac : a ≠ c) (hbc : b ≠ c) (h : ∀ j, j < n → j ≠ a → j ≠ b → j ≠ c → f j = 0) : sm f n = f a + f b + f c := by
  rw [sm_out f a n ha, sm_two _ n b c hb hc hbc]
  · rw [if_neg (Ne.symm hab), if_neg (Ne.symm hac)]; omega
  · intro j hj e1 e2
    by_cases e : j = a
    · rw [if_pos e]
    · rw [if_neg e]; exact h j hj e e1 e2
theorem sm_comm (f : Nat → Nat → Int) (n m : Nat) : sm (fun i => sm (fun j => f i j) m) n = sm (fun j => sm (fun i => f i j) n) m := by
  induction n with
  | zero => simp only [sm]; exact (sm_zero _ _ fun _ _ => rfl).symm
  | succ n ih => simp only [sm]; rw [ih, ← sm_add]
theorem sm_mul (c : Int) (f : Nat → Int) (n : Nat) : sm (fun i => c * f i) n = c * sm f n := by
  induction n with
  | zero => simp [sm]
  | succ n ih => simp only [sm]; rw [ih, Int.mul_add]
section
variable {P : Nat → Pt} {n : Nat} {nx pv : Nat → Nat} {K : Nat → Nat → Prop} {th : Nat → Nat → Option Nat}
theorem count_front (G : Bd P n nx pv) (F : Front P n nx pv K th) (full : Full K th) :
    sm (ls n th) (n * n) = sm (fun i => gg (P i) (P (nx i))) n + 2 * sm (fun i => wd P n nx (P i)) n := by
  rw [← sum_border G F full (fun a b => gg (P a) (P b)) (fun a b => gg_anti _ _), ← sum_tri F]
  have hw : sm (fun w => wd P n nx (P w)) n = sm (fun w => sm (fun i => ls n th i * (gv n th (fun a b => cr (P w) (P a) (P b)) i + gv n th (fun a b => cr (P w) (P a) (P b)) (rho n th i) + gv n th (fun a b => cr (P w) (P a) (P b)) (rhp n th i))) (n * n)) n := by
    refine sm_congr fun w _ => ?_
    rw [sum_tri F, sum_border G F full (fun a b => cr (P w) (P a) (P b)) (fun a b => cr_flip _ _ _)]
    rfl
  rw [hw, sm_comm, ← sm_mul, ← sm_add]
  refine sm_congr fun i hi => ?_
  cases h : th (i / n) (i % n) with
  | none =>
    have : ls n th i = 0 := by unfold ls; rw [h]
    rw [this]
    have z : sm (fun j => 0 * (gv n th (fun a b => cr (P j) (P a) (P b)) i + gv n th (fun a b => cr (P j) (P a) (P b)) (rho n th i) + gv n th (fun a b => cr (P j) (P a) (P b)) (rhp n th i))) n = 0 := sm_zero _ _ fun _ _ => Int.zero_mul _
    rw [z]; omega
  | some v =>
    obtain ⟨_, e1, e2, t1⟩ := next_side F h
    obtain ⟨_, e3, e4, t2⟩ := last_side F h
    obtain ⟨k1, k2, k3, _, _, l, fr⟩ := F.tri _ _ _ h
    have g0 : ∀ g : Nat → Nat → Int, gv n th g i = g (i / n) (i % n) := fun g => gv_some h
    have g1 : ∀ g : Nat → Nat → Int, gv n th g (rho n th i) = g (i % n) v := fun g => by rw [gv_some (v := i / n) (by rw [e1, e2]; exact t1), e1, e2]
    have g2 : ∀ g : Nat → Nat → Int, gv n th g (rhp n th i) = g v (i / n) := fun g => by rw [gv_some (v := i % n) (by rw [e3, e4]; exact t2), e3, e4]
    have hin : sm (fun j => ls n th i * (gv n th (fun a b => cr (P j) (P a) (P b)) i + gv n th (fun a b => cr (P j) (P a) (P b)) (rho n th i) + gv n th (fun a b => cr (P j) (P a) (P b)) (rhp n th i))) n =
        ls n th i * (cr (P (i / n)) (P (i % n)) (P v) + cr (P (i % n)) (P v) (P (i / n)) + cr (P v) (P (i / n)) (P (i % n))) := by
      rw [sm_mul]
      congr 1
      rw [sm_three _ n (i / n) (i % n) v (F.fa _ _ k1) (F.fb _ _ k1) (F.fb _ _ k2) (F.ne _ _ k1) (Ne.symm (F.ne _ _ k3)) (F.ne _ _ k2)]
      · simp only [g0, g1, g2, cr_begin, cr_end]; omega
      · intro j hj h1 h2 h3
        simp only [g0, g1, g2]
        exact out_tri l (fr j hj h1 h2 h3)
    rw [hin, g0, g1, g2]
    have t := tri_one l
    rcases ls_01 (n := n) (th := th) i with q | q
    · rw [q]; omega
    · rw [q]; omega
end
end Jor
#print axioms Jor.count_front
end Go.Proofs.Ytdkaoopkbhaheaa
namespace Go.Proofs.Ytdkaoopkbhaheaa
namespace Jor
set_option linter.unusedVariables false
set_option linter.unusedSimpArgs false
theorem add_mod_ne {n i t : Nat} (h0 : 0 < t) (h1 : t < n) : i % n ≠ (i + t) % n := by
  intro e
  have hn : 0 < n := by omega
  have r := Nat.mod_lt i hn
  rw [Nat.add_mod, Nat.mod_eq_of_lt h1] at e
  generalize i % n = x at *
  by_cases q : x + t < n
  · rw [Nat.mod_eq_of_lt q] at e; omega
  · have e2 : (x + t) % n = x + t - n := by
      rw [Nat.mod_eq_sub_mod (by omega)]
      exact Nat.mod_eq_of_lt (by omega)
    omega
theorem np_mod {n i : Nat} (hi : i < n) : nxm n (pvm n i) = i := by
  rcases pvm_cases hi with ⟨e, h⟩ | ⟨e, h⟩
  · rw [e]; rcases nxm_cases (n := n) (i := i - 1) (by omega) with ⟨f, g⟩ | ⟨f, g⟩ <;> omega
  · rw [e]; rcases nxm_cases (n := n) (i := n - 1) (by omega) with ⟨f, g⟩ | ⟨f, g⟩ <;> omega
theorem pn_mod {n i : Nat} (hi : i < n) : pvm n (nxm n i) = i := by
  rcases nxm_cases hi with ⟨e, h⟩ | ⟨e, h⟩
  · rw [e]; rcases pvm_cases (n := n) (i := i + 1) h with ⟨f, g⟩ | ⟨f, g⟩ <;> omega
  · rw [e]; rcases pvm_cases (n := n) (i := 0) (by omega) with ⟨f, g⟩ | ⟨f, g⟩ <;> omega
theorem bd_ring {P : Nat → Pt} {n : Nat} (G : Bd P n (nxm n) (pvm n)) (h3 : 3 ≤ n) : Ring (fun k => P (k % n)) n := by
  have hn : 0 < n := by omega
  have nm1 : ∀ k, nxm n (k % n) = (k + 1) % n := fun k => by unfold nxm; rw [Nat.mod_add_mod]
  have lt : ∀ k, k % n < n := fun k => Nat.mod_lt _ hn
  refine ⟨h3, ?_, ?_, ?_, ?_⟩
  · intro k; simp only [Nat.add_mod_right]
  · intro k e
    have := G.inj _ _ (lt _) (lt _) e
    exact G.n1 (k % n) (lt k) (by rw [nm1]; exact this.symm)
  · intro k h
    have g := G.nf ((k + 1) % n) (lt _)
    have p1 : pvm n ((k + 1) % n) = k % n := by rw [← nm1]; exact G.pn _ (lt k)
    rw [p1, nm1] at g
    exact g h
  · intro i t h1 h2
    have g := G.nm (i % n) ((i + t) % n) (lt _) (lt _) (add_mod_ne (by omega) (by omega)) (by
      rw [nm1]
      have := add_mod_ne (n := n) (i := i + 1) (t := t - 1) (by omega) (by omega)
      rw [show i + 1 + (t - 1) = i + t by omega] at this
      exact this) (by
      rw [nm1]
      exact Ne.symm (add_mod_ne (n := n) (i := i) (t := t + 1) (by omega) (by omega)))
    rw [nm1, nm1] at g
    exact g
theorem wd_mod {P : Nat → Pt} {n : Nat} (q : Pt) : wd P n (nxm n) q = wind (fun k => P (k % n)) n q := by
  unfold wd wind
  refine sm_congr fun k hk => ?_
  simp only [Nat.mod_eq_of_lt hk]
  rfl
theorem bd_left {P : Nat → Pt} {n : Nat} (G : Bd P n (nxm n) (pvm n)) (h3 : 3 ≤ n) : ∃ L : Int, (L = 0 ∨ L = 1) ∧ ∀ i, i < n → inn P n (nxm n) (pvm n) i (P (nxm n i)) = L := by
  refine ⟨leftOf (fun k => P (k % n)) n, left_01 (bd_ring G h3), fun i hi => ?_⟩
  have h := left_all (bd_ring G h3) (i + (n - 1))
  have e1 : (i + (n - 1) + 1) % n = i := by rw [show i + (n - 1) + 1 = i + n by omega, Nat.add_mod_right]; exact Nat.mod_eq_of_lt hi
  have e2 : (i + (n - 1) + 2) % n = nxm n i := by rw [show i + (n - 1) + 2 = (i + 1) + n by omega, Nat.add_mod_right]; rfl
  simp only [e1, e2] at h
  have g := inn_nx (P := P) (n := n) (nx := nxm n) (pv := pvm n) i
  rw [wd_mod] at g
  exact g.trans h
theorem sm_ring (h : Pt → Pt → Int) (P : Nat → Pt) (m : Nat) : sm (fun i => h (P i) (P (nxm (m + 1) i))) (m + 1) = sm (fun i => h (P i) (P (i + 1))) m + h (P m) (P 0) := by
  simp only [sm]
  congr 1
  · exact sm_congr fun k hk => by rw [show nxm (m + 1) k = k + 1 from Nat.mod_eq_of_lt (by omega)]
  · rw [show nxm (m + 1) m = 0 from Nat.mod_self _]
theorem ring_split (h : Pt → Pt → Int) (anti : ∀ x y, h y x = - h x y) (P : Nat → Pt) (v r : Nat) :
    sm (fun i => h (P i) (P (nxm (v + r + 1) i))) (v + r + 1) = sm (fun i => h (P i) (P (nxm (v + 1) i))) (v + 1) + sm (fun i => h (P (v + i)) (P (v + nxm (r + 1) i))) (r + 1) + (h (P (v + r)) (P 0) + h (P 0) (P v) + h (P v) (P (v + r))) := by
  rw [sm_ring, sm_ring, sm_ring h (fun k => P (v + k)), sm_more]
  have a1 := anti (P v) (P 0)
  have a2 := anti (P v) (P (v + r))
  simp only [Nat.add_zero]
  have e : sm (fun k => h (P (v + k)) (P (v + k + 1))) r = sm (fun i => h (P (v + i)) (P (v + (i + 1)))) r := rfl
  omega
theorem sub_bd {Q : Nat → Pt} {s : Nat} (h2 : 2 ≤ s) (inj : ∀ i j, i ≤ s → j ≤ s → Q i = Q j → i = j) (nf : ∀ i, i + 2 ≤ s → ¬ Fold (Q (i + 1)) (Q i) (Q (i + 2)))
    (f0 : ¬ Fold (Q 0) (Q s) (Q 1)) (fs : ¬ Fold (Q s) (Q (s - 1)) (Q 0)) (nm : ∀ i j, i + 1 < j → j + 1 ≤ s → ¬ Mt (Q i) (Q (i + 1)) (Q j) (Q (j + 1))) (ch : ∀ i, 1 ≤ i → i + 2 ≤ s → ¬ Mt (Q s) (Q 0) (Q i) (Q (i + 1))) :
    Bd Q (s + 1) (nxm (s + 1)) (pvm (s + 1)) := by
  have nlt : ∀ i, i < s + 1 → nxm (s + 1) i < s + 1 := fun i _ => Nat.mod_lt _ (by omega)
  have sym : ∀ i j, i < s + 1 → j < s + 1 → i < j → nxm (s + 1) i ≠ j → nxm (s + 1) j ≠ i → ¬ Mt (Q i) (Q (nxm (s + 1) i)) (Q j) (Q (nxm (s + 1) j)) := by
    intro i j hi hj hij h1 h2 m
    rcases nxm_cases hi with ⟨e, h⟩ | ⟨e, h⟩
    · rw [e] at h1 m
      rcases nxm_cases hj with ⟨f, g⟩ | ⟨f, g⟩
      · rw [f] at h2 m
        exact nm i j (by omega) (by omega) m
      · rw [f] at h2 m
        have : j = s := by omega
        subst this
        exact ch i (by omega) (by omega) ((Mt_swap _ _ _ _).1 m)
    · omega
  refine ⟨fun i j hi hj => inj i j (by omega) (by omega), nlt, fun i _ => Nat.mod_lt _ (by omega), fun i hi => np_mod hi, fun i hi => pn_mod hi, ?_, ?_, ?_, ?_⟩
  · intro i hi
    rcases nxm_cases hi with ⟨e, h⟩ | ⟨e, h⟩ <;> omega
  · intro i hi
    rcases nxm_cases hi with ⟨e, h⟩ | ⟨e, h⟩ <;> rcases pvm_cases hi with ⟨f, g⟩ | ⟨f, g⟩ <;> omega
  · intro i hi
    rcases nxm_cases hi with ⟨e, h⟩ | ⟨e, h⟩ <;> rcases pvm_cases hi with ⟨f, g⟩ | ⟨f, g⟩
    · rw [e, f]
      have := nf (i - 1) (by omega)
      rw [show i - 1 + 1 = i by omega, show i - 1 + 2 = i + 1 by omega] at this
      exact this
    · rw [e, f]; subst g; exact f0
    · rw [e, f]
      have : i = s := by omega
      subst this; exact fs
    · omega
  · intro i j hi hj hij h1 h2
    by_cases q : i < j
    · exact sym i j hi hj q h1 h2
    · exact fun m => sym j i hj hi (by omega) h2 h1 ((Mt_swap _ _ _ _).1 m)
theorem tri_left {a b v : Pt} (h : 0 < D a b v) : cr b v a + ahead a b v = 1 := by
  have h1 : 0 < D b v a := by rw [← D_rot]; exact h
  have h2 : 0 < D v a b := by rw [← D_rot2]; exact h
  have t1 := tie h
  have t2 := tie h1
  have nb : a ≠ b := fun e => by subst e; unfold D at h; grind
  have nv : v ≠ b := fun e => by subst e; unfold D at h; grind
  have x : X (sub v b) (sub a b) = D b v a := X_sub b v a
  have l := lt_iff (nz_sub nv) (nz_sub nb)
  rw [cr_left h2]
  unfold ahead
  rw [x] at l
  by_cases q : v.2 ≤ b.2 ∧ b.2 < a.2
  · rw [if_pos q, if_neg]
    · rfl
    · rw [l]
      unfold Up sub
      grind
  · rw [if_neg q, if_pos]
    · rfl
    · rw [l]
      unfold Up sub
      by_cases u1 : 0 < v.2 - b.2 ∨ (v.2 - b.2 = 0 ∧ v.1 - b.1 < 0)
      · by_cases u2 : 0 < a.2 - b.2 ∨ (a.2 - b.2 = 0 ∧ a.1 - b.1 < 0)
        · exact .inr ⟨⟨fun _ => u2, fun _ => u1⟩, h1⟩
        · exact .inl ⟨u1, u2⟩
      · by_cases u2 : 0 < a.2 - b.2 ∨ (a.2 - b.2 = 0 ∧ a.1 - b.1 < 0)
        · exfalso
          grind
        · exact .inr ⟨⟨fun g => absurd g u1, fun g => absurd g u2⟩, h1⟩
theorem nofold_D {a b c : Pt} (h : D a b c ≠ 0) : ¬ Fold a b c := fun g => h g.1
theorem tri_right {a b v : Pt} (h : 0 < D a b v) : cr a b v - ahead b a v = 0 := by
  have h2 : 0 < D v a b := by rw [← D_rot2]; exact h
  have t := tri_left h2
  have na : v ≠ a := fun e => by subst e; unfold D at h; grind
  have nb : b ≠ a := fun e => by subst e; unfold D at h; grind
  have f := ahead_flip (B := a) (A := v) (C := b) na nb (nofold_D (by rw [D_swap]; grind))
  omega
def fR (P : Nat → Pt) (n : Nat) : Int := sm (fun i => gg (P i) (P (nxm n i))) n + 2 * sm (fun i => wd P n (nxm n) (P i)) n
theorem two_ring (h : Pt → Pt → Int) (anti : ∀ x y, h y x = - h x y) (P : Nat → Pt) : sm (fun i => h (P i) (P (nxm 2 i))) 2 = 0 := by
  rw [sm_ring h P 1]
  have := anti (P 0) (P 1)
  simp only [sm, Nat.zero_add]
  omega
end Jor
end Go.Proofs.Ytdkaoopkbhaheaa
namespace Go.Proofs.Ytdkaoopkbhaheaa
namespace Jor
set_option linter.unusedVariables false
set_option linter.unusedSimpArgs false
theorem ring_step (P : Nat → Pt) (v r : Nat) (hv : 1 ≤ v) (hr : 1 ≤ r) (G : Bd P (v + r + 1) (nxm (v + r + 1)) (pvm (v + r + 1)))
    (off : ∀ i u, i < v + r + 1 → u < v + r + 1 → u ≠ i → u ≠ nxm (v + r + 1) i → ¬ On (P u) (P i) (P (nxm (v + r + 1) i)))
    (left : ∀ i, i < v + r + 1 → inn P (v + r + 1) (nxm (v + r + 1)) (pvm (v + r + 1)) i (P (nxm (v + r + 1) i)) = 1)
    (C : Clear P (v + r + 1) (fun a b => a < v + r + 1 ∧ nxm (v + r + 1) a = b) (v + r) 0 v) :
    (2 ≤ v → Bd P (v + 1) (nxm (v + 1)) (pvm (v + 1)) ∧ (∀ i u, i < v + 1 → u < v + 1 → u ≠ i → u ≠ nxm (v + 1) i → ¬ On (P u) (P i) (P (nxm (v + 1) i))) ∧ (∀ i, i < v + 1 → inn P (v + 1) (nxm (v + 1)) (pvm (v + 1)) i (P (nxm (v + 1) i)) = 1)) ∧
    (2 ≤ r → Bd (fun k => P (v + k)) (r + 1) (nxm (r + 1)) (pvm (r + 1)) ∧ (∀ i u, i < r + 1 → u < r + 1 → u ≠ i → u ≠ nxm (r + 1) i → ¬ On (P (v + u)) (P (v + i)) (P (v + nxm (r + 1) i))) ∧ (∀ i, i < r + 1 → inn (fun k => P (v + k)) (r + 1) (nxm (r + 1)) (pvm (r + 1)) i (P (v + nxm (r + 1) i)) = 1)) ∧
    fR P (v + r + 1) = fR P (v + 1) + fR (fun k => P (v + k)) (r + 1) + 1 := by
  have F := start G off left
  have na : nxm (v + r + 1) (v + r) = 0 := Nat.mod_self _
  have nxs : ∀ i, i < v + r → nxm (v + r + 1) i = i + 1 := fun i hi => Nat.mod_eq_of_lt (by omega)
  have pvs : ∀ i, 1 ≤ i → i ≤ v + r → pvm (v + r + 1) i = i - 1 := fun i h1 h2 => by rcases pvm_cases (n := v + r + 1) (i := i) (by omega) with ⟨e, _⟩ | ⟨e, q⟩ <;> omega
  have pv0 : pvm (v + r + 1) 0 = v + r := by rcases pvm_cases (n := v + r + 1) (i := 0) (by omega) with ⟨e, q⟩ | ⟨e, q⟩ <;> omega
  have k : v + r < v + r + 1 ∧ nxm (v + r + 1) (v + r) = 0 := ⟨by omega, na⟩
  have kb : ∀ i, i < v + r → i < v + r + 1 ∧ nxm (v + r + 1) i = i + 1 := fun i hi => ⟨by omega, nxs i hi⟩
  have T := C.left
  have T0 : 0 < D (P 0) (P v) (P (v + r)) := by rw [← D_rot]; exact T
  have Tv : 0 < D (P v) (P (v + r)) (P 0) := by rw [← D_rot2]; exact T
  have nb : ∀ i j, i < v + r → j < v + r → i + 1 < j → ¬ Mt (P i) (P (i + 1)) (P j) (P (j + 1)) := fun i j hi hj hij => by
    have := G.nm i j (by omega) (by omega) (by omega) (by rw [nxs i hi]; omega) (by rw [nxs j hj]; omega)
    rw [nxs i hi, nxs j hj] at this
    exact this
  have nfb : ∀ i, i + 2 ≤ v + r → ¬ Fold (P (i + 1)) (P i) (P (i + 2)) := fun i hi => by
    have := G.nf (i + 1) (by omega)
    rw [pvs (i + 1) (by omega) (by omega), nxs (i + 1) (by omega)] at this
    exact this
  have on2 : ∀ w, w < v + r + 1 → w ≠ 0 → w ≠ v → ¬ On (P w) (P 0) (P v) := fun w hw h1 h2 => C.on2 w hw h1 h2
  have on2' : ∀ w, w < v + r + 1 → w ≠ v → w ≠ 0 → ¬ On (P w) (P v) (P 0) := fun w hw h1 h2 h => C.on2 w hw h2 h1 h.swap
  have on3 : ∀ w, w < v + r + 1 → w ≠ v → w ≠ v + r → ¬ On (P w) (P v) (P (v + r)) := fun w hw h1 h2 => C.on3 w hw h1 h2
  have on3' : ∀ w, w < v + r + 1 → w ≠ v + r → w ≠ v → ¬ On (P w) (P (v + r)) (P v) := fun w hw h1 h2 h => C.on3 w hw h2 h1 h.swap
  have offb : ∀ i u, i < v + r → u < v + r + 1 → u ≠ i → u ≠ i + 1 → ¬ On (P u) (P i) (P (i + 1)) := fun i u hi hu h1 h2 => by
    have := off i u (by omega) hu h1 (by rw [nxs i hi]; exact h2)
    rw [nxs i hi] at this
    exact this
  -- the two parts
  have bdA : 2 ≤ v → Bd P (v + 1) (nxm (v + 1)) (pvm (v + 1)) := fun h2 => by
    refine sub_bd h2 (fun i j hi hj => G.inj i j (by omega) (by omega)) (fun i hi => nfb i (by omega)) ?_ ?_ (fun i j h1 h2 => nb i j (by omega) (by omega) h1) ?_
    · intro h
      exact no_fold F (y := v) (m := 1) (x := 0) (by omega) (by omega) (.inl (kb 0 (by omega))) (by omega) (by omega) (by omega) on2 (fold_swap h)
    · exact no_fold F (y := 0) (m := v - 1) (x := v) (by omega) (by omega) (.inr (by have := kb (v - 1) (by omega); rw [show v - 1 + 1 = v by omega] at this; exact this)) (by omega) (by omega) (by omega) on2'
    · intro i h1 h2 m
      exact C.s2 i (i + 1) (kb i (by omega)) (by omega) (by omega) (by omega) (by omega) ((Mt_flip' _ _ _ _).1 m)
  have bdB : 2 ≤ r → Bd (fun k => P (v + k)) (r + 1) (nxm (r + 1)) (pvm (r + 1)) := fun h2 => by
    refine sub_bd h2 (fun i j hi hj e => by have := G.inj (v + i) (v + j) (by omega) (by omega) e; omega) (fun i hi => nfb (v + i) (by omega)) ?_ ?_ (fun i j h1 h2 => nb (v + i) (v + j) (by omega) (by omega) (by omega)) ?_
    · intro h
      exact no_fold F (y := v + r) (m := v + 1) (x := v) (by omega) (by omega) (.inl (kb v (by omega))) (by omega) (by omega) (by omega) on3 (fold_swap h)
    · have q : v + (r - 1) = v + r - 1 := by omega
      simp only [q]
      exact no_fold F (y := v) (m := v + r - 1) (x := v + r) (by omega) (by omega) (.inr (by have := kb (v + r - 1) (by omega); rw [show v + r - 1 + 1 = v + r by omega] at this; exact this)) (by omega) (by omega) (by omega) on3'
    · intro i h1 h2 m
      exact C.s3 (v + i) (v + i + 1) (kb (v + i) (by omega)) (by omega) (by omega) (by omega) (by omega) ((Mt_flip' _ _ _ _).1 m)
  -- how often they wind
  have split : ∀ q, wd P (v + r + 1) (nxm (v + r + 1)) q = wd P (v + 1) (nxm (v + 1)) q + wd (fun k => P (v + k)) (r + 1) (nxm (r + 1)) q + (cr q (P (v + r)) (P 0) + cr q (P 0) (P v) + cr q (P v) (P (v + r))) :=
    fun q => ring_split (fun x y => cr q x y) (fun x y => cr_flip q x y) P v r
  have degA : v = 1 → ∀ q, wd P (v + 1) (nxm (v + 1)) q = 0 := fun e q => by subst e; exact two_ring (fun x y => cr q x y) (fun x y => cr_flip q x y) P
  have degB : r = 1 → ∀ q, wd (fun k => P (v + k)) (r + 1) (nxm (r + 1)) q = 0 := fun e q => by subst e; exact two_ring (fun x y => cr q x y) (fun x y => cr_flip q x y) (fun k => P (v + k))
  generalize hA : wd P (v + 1) (nxm (v + 1)) = wA at *
  generalize hB : wd (fun k => P (v + k)) (r + 1) (nxm (r + 1)) = wB at *
  -- at 0
  have e0 : wA (P 0) - ahead (P 1) (P 0) (P v) + wB (P 0) = 0 := by
    have h := (corner_b G F k C).1
    unfold inn at h
    rw [split, pv0, nxs 0 (by omega), cr_begin, cr_end, Nat.zero_add] at h
    have t := tri_left T
    omega
  -- at the other end
  have ea : (2 ≤ r → wA (P (v + r)) + (wB (P (v + r)) + ahead (P (v + r - 1)) (P (v + r)) (P v)) = 1) ∧ (r = 1 → wA (P (v + r)) = 0) := by
    have t := tri_right T
    constructor
    · intro h2
      have h := (corner_a G F k C).2 (by rw [nxs v (by omega)]; omega)
      unfold inn at h
      rw [split, pvs (v + r) (by omega) (by omega), na, cr_begin, cr_end] at h
      omega
    · intro e
      have h := inn_pv G (v + r) (by omega)
      rw [left (v + r) (by omega)] at h
      unfold inn at h
      rw [split, degB e, pvs (v + r) (by omega) (by omega), na, cr_begin, cr_end, show v + r - 1 = v by omega, ahead_self] at h
      omega
  -- the value left of each part
  have lA : 2 ≤ v → ∃ L : Int, (L = 0 ∨ L = 1) ∧ (∀ i, i < v + 1 → inn P (v + 1) (nxm (v + 1)) (pvm (v + 1)) i (P (nxm (v + 1) i)) = L) ∧ wA (P 0) - ahead (P 1) (P 0) (P v) = L - 1 := fun h2 => by
    obtain ⟨L, h01, hl⟩ := bd_left (bdA h2) (by omega)
    refine ⟨L, h01, hl, ?_⟩
    have h := inn_pv (bdA h2) 0 (by omega)
    rw [hl 0 (by omega)] at h
    have p0 : pvm (v + 1) 0 = v := by rcases pvm_cases (n := v + 1) (i := 0) (by omega) with ⟨e, q⟩ | ⟨e, q⟩ <;> omega
    have n0 : nxm (v + 1) 0 = 1 := Nat.mod_eq_of_lt (by omega)
    unfold inn at h
    rw [hA, p0, n0, ahead_self] at h
    omega
  have lB : 2 ≤ r → ∃ L : Int, (L = 0 ∨ L = 1) ∧ (∀ i, i < r + 1 → inn (fun k => P (v + k)) (r + 1) (nxm (r + 1)) (pvm (r + 1)) i (P (v + nxm (r + 1) i)) = L) ∧ wB (P (v + r)) + ahead (P (v + r - 1)) (P (v + r)) (P v) = L := fun h2 => by
    obtain ⟨L, h01, hl⟩ := bd_left (bdB h2) (by omega)
    refine ⟨L, h01, hl, ?_⟩
    have h := inn_nx (P := fun k => P (v + k)) (n := r + 1) (nx := nxm (r + 1)) (pv := pvm (r + 1)) r
    rw [hl r (by omega)] at h
    have p0 : pvm (r + 1) r = r - 1 := by rcases pvm_cases (n := r + 1) (i := r) (by omega) with ⟨e, q⟩ | ⟨e, q⟩ <;> omega
    have n0 : nxm (r + 1) r = 0 := Nat.mod_self _
    rw [hB, p0, n0] at h
    simp only [Nat.add_zero] at h
    rw [show v + (r - 1) = v + r - 1 by omega] at h
    omega
  have both : 2 ≤ v → 2 ≤ r → wA (P (v + r)) + wB (P 0) = 0 := fun h2 h3 => by
    have h := inn_open (bdB h3) r (by omega) (P 0) (fun e => by have := G.inj _ _ (by omega) (by omega) e; omega) ?_ ?_ ?_
    · have p0 : pvm (r + 1) r = r - 1 := by rcases pvm_cases (n := r + 1) (i := r) (by omega) with ⟨e, q⟩ | ⟨e, q⟩ <;> omega
      have n0 : nxm (r + 1) r = 0 := Nat.mod_self _
      unfold inn at h
      rw [hB, p0, n0] at h
      simp only [Nat.add_zero] at h
      rw [show v + (r - 1) = v + r - 1 by omega] at h
      have g := inn_nx (P := P) (n := v + r + 1) (nx := nxm (v + r + 1)) (pv := pvm (v + r + 1)) (v + r)
      rw [left (v + r) (by omega), split, pvs (v + r) (by omega) (by omega), na, cr_begin, cr_end] at g
      have t := tri_left Tv
      omega
    · have p0 : pvm (r + 1) r = r - 1 := by rcases pvm_cases (n := r + 1) (i := r) (by omega) with ⟨e, q⟩ | ⟨e, q⟩ <;> omega
      have := G.nf (v + r) (by omega)
      rw [pvs (v + r) (by omega) (by omega), na] at this
      rw [p0]
      show ¬ Fold (P (v + r)) (P (v + (r - 1))) (P 0)
      rw [show v + (r - 1) = v + r - 1 by omega]
      exact this
    · have n0 : nxm (r + 1) r = 0 := Nat.mod_self _
      rw [n0]
      exact nofold_D (by
        show D (P (v + r)) (P v) (P 0) ≠ 0
        rw [D_flip]
        grind)
    · intro j hj h1 h4
      have hj2 : j + 1 < r := by
        have : j < r := by omega
        rw [show nxm (r + 1) j = j + 1 from Nat.mod_eq_of_lt (by omega)] at h4
        omega
      rw [show nxm (r + 1) j = j + 1 from Nat.mod_eq_of_lt (by omega)]
      have := G.nm (v + r) (v + j) (by omega) (by omega) (by omega) (by rw [na]; omega) (by rw [nxs (v + j) (by omega)]; omega)
      rw [na, nxs (v + j) (by omega)] at this
      exact this
  have z : wB (P 0) = 0 ∧ wA (P (v + r)) = 0 := by
    by_cases h2 : 2 ≤ v
    · obtain ⟨LA, qA, _, xA⟩ := lA h2
      by_cases h3 : 2 ≤ r
      · obtain ⟨LB, qB, _, xB⟩ := lB h3
        have := both h2 h3
        have := ea.1 h3
        omega
      · have hr1 : r = 1 := by omega
        exact ⟨degB hr1 _, ea.2 hr1⟩
    · have hv1 : v = 1 := by omega
      have w0 := degA hv1
      refine ⟨?_, w0 _⟩
      rw [w0, hv1, ahead_self] at e0
      omega
  -- all along
  have zB : ∀ i, i < v → wB (P i) = 0 := by
    intro i
    induction i with
    | zero => intro _; exact z.1
    | succ i ih =>
      intro hi
      by_cases h3 : 2 ≤ r
      · have d := wd_diff (bdB h3) (P i) (P (i + 1))
        rw [hB, sm_zero] at d
        · have := ih (by omega); omega
        · intro j hj
          refine df_none fun m => ?_
          by_cases q : j = r
          · subst q
            rw [show nxm (j + 1) j = 0 from Nat.mod_self _] at m
            exact C.s3 i (i + 1) (kb i (by omega)) (by omega) (by omega) (by omega) (by omega) ((Mt_flip' _ _ _ _).1 ((Mt_swap _ _ _ _).1 m))
          · rw [show nxm (r + 1) j = j + 1 from Nat.mod_eq_of_lt (by omega)] at m
            exact nb i (v + j) (by omega) (by omega) (by omega) m
      · exact degB (by omega) _
  have zA : ∀ j, j < r → wA (P (v + r - j)) = 0 := by
    intro j
    induction j with
    | zero => intro _; exact z.2
    | succ j ih =>
      intro hj
      by_cases h2 : 2 ≤ v
      · have d := wd_diff (bdA h2) (P (v + r - j)) (P (v + r - (j + 1)))
        rw [hA, sm_zero] at d
        · have := ih (by omega); omega
        · intro i hi
          refine df_none fun m => ?_
          have e : v + r - j = v + r - (j + 1) + 1 := by omega
          rw [e] at m
          have m' := (Mt_flip' _ _ _ _).1 m
          by_cases q : i = v
          · subst q
            rw [show nxm (i + 1) i = 0 from Nat.mod_self _] at m'
            exact C.s2 _ _ (kb (i + r - (j + 1)) (by omega)) (by omega) (by omega) (by omega) (by omega) ((Mt_flip' _ _ _ _).1 ((Mt_swap _ _ _ _).1 m'))
          · rw [show nxm (v + 1) i = i + 1 from Nat.mod_eq_of_lt (by omega)] at m'
            exact nb i (v + r - (j + 1)) (by omega) (by omega) (by omega) ((Mt_swap _ _ _ _).1 m')
      · exact degA (by omega) _
  refine ⟨fun h2 => ⟨bdA h2, ?_, ?_⟩, fun h2 => ⟨bdB h2, ?_, ?_⟩, ?_⟩
  · intro i u hi hu h1 h3
    by_cases q : i = v
    · subst q
      rw [show nxm (i + 1) i = 0 from Nat.mod_self _] at h3 ⊢
      exact on2' u (by omega) h1 h3
    · rw [show nxm (v + 1) i = i + 1 from Nat.mod_eq_of_lt (by omega)] at h3 ⊢
      exact offb i u (by omega) (by omega) h1 h3
  · obtain ⟨L, h01, hl, hx⟩ := lA h2
    have : L = 1 := by have := z.1; omega
    subst this
    exact hl
  · intro i u hi hu h1 h3
    by_cases q : i = r
    · have n0 : nxm (r + 1) i = 0 := by rw [q]; exact Nat.mod_self _
      rw [n0] at h3 ⊢
      rw [q]
      have u1 : v + u < v + r + 1 := by clear hA hB lA lB; omega
      have u2 : v + u ≠ v + r := by clear hA hB lA lB; omega
      have u3 : v + u ≠ v := by clear hA hB lA lB; omega
      exact on3' (v + u) u1 u2 u3
    · rw [show nxm (r + 1) i = i + 1 from Nat.mod_eq_of_lt (by omega)] at h3 ⊢
      exact offb (v + i) (v + u) (by omega) (by omega) (by omega) (by omega)
  · obtain ⟨L, h01, hl, hx⟩ := lB h2
    have h5 := ea.1 h2
    have : L = 1 := by have := z.2; omega
    subst this
    exact hl
  · unfold fR
    rw [ring_split gg gg_anti P v r]
    have s1 : sm (fun i => wd P (v + r + 1) (nxm (v + r + 1)) (P i)) (v + r + 1) = sm (fun i => wA (P i)) (v + r + 1) + sm (fun i => wB (P i)) (v + r + 1) + sm (fun i => cr (P i) (P (v + r)) (P 0) + cr (P i) (P 0) (P v) + cr (P i) (P v) (P (v + r))) (v + r + 1) := by
      rw [← sm_add, ← sm_add]
      exact sm_congr fun i _ => split (P i)
    have s2 : sm (fun i => wA (P i)) (v + r + 1) = sm (fun i => wA (P i)) (v + 1) := by
      have z2 : sm (fun k => wA (P (v + 1 + k))) r = 0 := sm_zero _ _ fun j hj => by
        have := zA (r - (j + 1)) (by omega)
        rw [show v + r - (r - (j + 1)) = v + 1 + j by omega] at this
        exact this
      rw [show v + r + 1 = v + 1 + r by omega, sm_more, z2, Int.add_zero]
    have s3 : sm (fun i => wB (P i)) (v + r + 1) = sm (fun i => wB (P (v + i))) (r + 1) := by
      have z2 : sm (fun k => wB (P k)) v = 0 := sm_zero _ _ fun j hj => zB j hj
      rw [show v + r + 1 = v + (r + 1) by omega, sm_more, z2, Int.zero_add]
    have s4 : sm (fun i => cr (P i) (P (v + r)) (P 0) + cr (P i) (P 0) (P v) + cr (P i) (P v) (P (v + r))) (v + r + 1) = cr (P (v + r)) (P 0) (P v) + cr (P 0) (P v) (P (v + r)) + cr (P v) (P (v + r)) (P 0) := by
      rw [sm_three _ _ (v + r) 0 v (by omega) (by omega) (by omega) (by omega) (by omega) (by omega)]
      · simp only [cr_begin, cr_end]; omega
      · intro j hj h1 h2 h3
        exact out_tri T (C.free j hj h1 h2 h3)
    rw [s1, s2, s3, s4]
    have t := tri_one T
    rw [hA, hB]
    have x1 : sm (fun i => gg ((fun k => P (v + k)) i) ((fun k => P (v + k)) (nxm (r + 1) i))) (r + 1) = sm (fun i => gg (P (v + i)) (P (v + nxm (r + 1) i))) (r + 1) := rfl
    have x2 : sm (fun i => wB ((fun k => P (v + k)) i)) (r + 1) = sm (fun i => wB (P (v + i))) (r + 1) := rfl
    omega
theorem ring_f : ∀ (n : Nat) (P : Nat → Pt), 3 ≤ n → Bd P n (nxm n) (pvm n) → (∀ i u, i < n → u < n → u ≠ i → u ≠ nxm n i → ¬ On (P u) (P i) (P (nxm n i))) →
    (∀ i, i < n → inn P n (nxm n) (pvm n) i (P (nxm n i)) = 1) → fR P n = n - 2 := by
  intro n
  induction n using Nat.strongRecOn with
  | ind n ih =>
    intro P h3 G off left
    have F := start G off left
    obtain ⟨v, C⟩ := apex G F (a := n - 1) (b := 0) ⟨by omega, by unfold nxm; rw [show n - 1 + 1 = n by omega, Nat.mod_self]⟩
    have h1 := C.va; have h2 := C.vb; have h4 := C.lt
    obtain ⟨r, rfl⟩ : ∃ r, n = v + r + 1 := ⟨n - 1 - v, by omega⟩
    rw [show v + r + 1 - 1 = v + r by omega] at C h1
    obtain ⟨pA, pB, pf⟩ := ring_step P v r (by omega) (by omega) G off left C
    rw [pf]
    have two : ∀ Q : Nat → Pt, fR Q 2 = 0 := fun Q => by
      unfold fR
      rw [two_ring gg gg_anti Q, sm_zero]
      · rfl
      · intro j _
        exact two_ring (fun x y => cr (Q j) x y) (fun x y => cr_flip _ x y) Q
    have fa : fR P (v + 1) = (v : Int) - 1 := by
      by_cases q : 2 ≤ v
      · obtain ⟨b1, b2, b3⟩ := pA q
        have := ih (v + 1) (by omega) P (by omega) b1 b2 b3
        omega
      · have : v = 1 := by omega
        subst this
        exact two P
    have fb : fR (fun k => P (v + k)) (r + 1) = (r : Int) - 1 := by
      by_cases q : 2 ≤ r
      · obtain ⟨b1, b2, b3⟩ := pB q
        have := ih (r + 1) (by omega) (fun k => P (v + k)) (by omega) b1 b2 b3
        omega
      · have : r = 1 := by omega
        subst this
        exact two _
    omega
end Jor
#print axioms Jor.ring_f
end Go.Proofs.Ytdkaoopkbhaheaa
namespace Go.Proofs.Ytdkaoopkbhaheaa
namespace Jor
set_option linter.unusedVariables false
set_option linter.unusedSimpArgs false
structure Renum (n : Nat) (nx pv nx' pv' s t : Nat → Nat) : Prop where
  sl : ∀ i, i < n → s i < n
  tl : ∀ i, i < n → t i < n
  ts : ∀ i, i < n → t (s i) = i
  st : ∀ i, i < n → s (t i) = i
  nl : ∀ i, i < n → nx' i < n
  pl : ∀ i, i < n → pv' i < n
  nx : ∀ i, i < n → s (nx' i) = nx (s i)
  pv : ∀ i, i < n → s (pv' i) = pv (s i)
section
variable {P : Nat → Pt} {n : Nat} {nx pv nx' pv' s t : Nat → Nat}
theorem Renum.inj (R : Renum n nx pv nx' pv' s t) {i j : Nat} (hi : i < n) (hj : j < n) (h : s i = s j) : i = j := by
  rw [← R.ts i hi, h, R.ts j hj]
theorem Renum.bd (R : Renum n nx pv nx' pv' s t) (G : Bd P n nx pv) : Bd (fun i => P (s i)) n nx' pv' where
  inj := fun i j hi hj h => R.inj hi hj (G.inj _ _ (R.sl i hi) (R.sl j hj) h)
  nl := R.nl
  pl := R.pl
  np := fun i hi => R.inj (R.nl _ (R.pl i hi)) hi (by rw [R.nx _ (R.pl i hi), R.pv i hi, G.np _ (R.sl i hi)])
  pn := fun i hi => R.inj (R.pl _ (R.nl i hi)) hi (by rw [R.pv _ (R.nl i hi), R.nx i hi, G.pn _ (R.sl i hi)])
  n1 := fun i hi h => G.n1 _ (R.sl i hi) (by rw [← R.nx i hi, h])
  n2 := fun i hi h => G.n2 _ (R.sl i hi) (by rw [← R.nx i hi, ← R.pv i hi, h])
  nf := fun i hi => by rw [R.pv i hi, R.nx i hi]; exact G.nf _ (R.sl i hi)
  nm := fun i j hi hj h1 h2 h3 => by
    rw [R.nx i hi, R.nx j hj]
    exact G.nm _ _ (R.sl i hi) (R.sl j hj) (fun e => h1 (R.inj hi hj e)) (fun e => h2 (R.inj (R.nl i hi) hj (by rw [R.nx i hi, e]))) (fun e => h3 (R.inj (R.nl j hj) hi (by rw [R.nx j hj, e])))
theorem Renum.sum (R : Renum n nx pv nx' pv' s t) (h : Pt → Pt → Int) : sm (fun i => h (P (s i)) (P (s (nx' i)))) n = sm (fun i => h (P i) (P (nx i))) n := by
  rw [← sm_perm (fun i => h (P i) (P (nx i))) n s t R.sl R.tl R.ts R.st]
  exact sm_congr fun i hi => by rw [R.nx i hi]
theorem Renum.wd (R : Renum n nx pv nx' pv' s t) (q : Pt) : wd (fun i => P (s i)) n nx' q = wd P n nx q := R.sum (fun a b => cr q a b)
theorem Renum.inn (R : Renum n nx pv nx' pv' s t) (i : Nat) (hi : i < n) (z : Pt) : inn (fun i => P (s i)) n nx' pv' i z = inn P n nx pv (s i) z := by
  unfold Jor.inn
  rw [R.wd]
  simp only [R.pv i hi, R.nx i hi]
end
def rvm (n i : Nat) : Nat := n - 1 - i
theorem rv_renum (n : Nat) : Renum n (pvm n) (nxm n) (nxm n) (pvm n) (rvm n) (rvm n) := by
  have rl : ∀ i, i < n → rvm n i < n := fun i hi => by unfold rvm; omega
  have rr : ∀ i, i < n → rvm n (rvm n i) = i := fun i hi => by unfold rvm; omega
  refine ⟨rl, rl, rr, rr, fun i hi => Nat.mod_lt _ (by omega), fun i hi => Nat.mod_lt _ (by omega), fun i hi => ?_, fun i hi => ?_⟩
  · have h := rl i hi
    rcases nxm_cases hi with ⟨e, g⟩ | ⟨e, g⟩ <;> rcases pvm_cases h with ⟨e2, g2⟩ | ⟨e2, g2⟩ <;> rw [e, e2] <;> unfold rvm at * <;> omega
  · have h := rl i hi
    rcases pvm_cases hi with ⟨e, g⟩ | ⟨e, g⟩ <;> rcases nxm_cases h with ⟨e2, g2⟩ | ⟨e2, g2⟩ <;> rw [e, e2] <;> unfold rvm at * <;> omega
theorem gg_rev {P : Nat → Pt} {n : Nat} {nx pv : Nat → Nat} (G : Bd P n nx pv) : sm (fun i => gg (P i) (P (pv i))) n = - sm (fun i => gg (P i) (P (nx i))) n := by
  rw [← sm_perm (fun j => gg (P j) (P (pv j))) n nx pv G.nl G.pl G.pn G.np, ← sm_neg]
  exact sm_congr fun k hk => by rw [G.pn k hk, gg_anti]
theorem ring_f0 (n : Nat) (P : Nat → Pt) (h3 : 3 ≤ n) (G : Bd P n (nxm n) (pvm n)) (off : ∀ i u, i < n → u < n → u ≠ i → u ≠ nxm n i → ¬ On (P u) (P i) (P (nxm n i)))
    (left : ∀ i, i < n → inn P n (nxm n) (pvm n) i (P (nxm n i)) = 0) : fR P n = 2 - (n : Int) := by
  have R := rv_renum n
  have G' := R.bd G.rev
  have e := ring_f n (fun i => P (rvm n i)) h3 G' (fun i u hi hu h1 h2 h => ?_) (fun i hi => ?_)
  · have e1 : fR (fun i => P (rvm n i)) n = sm (fun i => gg (P i) (P (pvm n i))) n + 2 * sm (fun i => wd P n (pvm n) (P i)) n := by
      unfold fR
      rw [R.sum (P := P) gg]
      congr 2
      rw [← sm_perm (fun i => wd P n (pvm n) (P i)) n (rvm n) (rvm n) R.sl R.tl R.ts R.st]
      exact sm_congr fun i hi => R.wd (P := P) _
    have e2 : sm (fun i => wd P n (pvm n) (P i)) n = - sm (fun i => wd P n (nxm n) (P i)) n := by
      rw [← sm_neg]
      exact sm_congr fun i _ => wd_rev G _
    rw [e1, gg_rev G, e2] at e
    unfold fR
    omega
  · rw [R.nx i hi] at h
    have hr := R.sl i hi
    have hp := G.pl _ hr
    have n1 : rvm n u ≠ pvm n (rvm n i) := fun q => h2 (R.inj hu (R.nl i hi) (by rw [R.nx i hi]; exact q))
    have n2 : rvm n u ≠ nxm n (pvm n (rvm n i)) := by
      rw [np_mod hr]
      exact fun q => h1 (R.inj hu hi q)
    have := off (pvm n (rvm n i)) (rvm n u) hp (R.sl u hu) n1 n2
    rw [np_mod hr] at this
    exact this h.swap
  · rw [R.inn (P := P) i hi, R.nx i hi, inn_rev G _ (R.sl i hi), left _ (R.sl i hi)]
    rfl
end Jor
end Go.Proofs.Ytdkaoopkbhaheaa
namespace Go.Proofs.Ytdkaoopkbhaheaa
namespace Jor
set_option linter.unusedVariables false
set_option linter.unusedSimpArgs false
def nkk : Bool → Nat → Nat → Nat | false => nxm | true => pvm
def pkk : Bool → Nat → Nat → Nat | false => pvm | true => nxm
theorem left_leftOf {ps : Nat → IP} {n : Nat} (R : RingI ps n) (i : Nat) (hi : i < n) : inn (fun i => toR (ps i)) n (nxm n) (pvm n) i (toR (ps (nxm n i))) = leftOf (fun k => toR (ps (k % n))) n := by
  have h3 := R.three
  have h := left_all R.ring (i + (n - 1))
  have e1 : (i + (n - 1) + 1) % n = i := by rw [show i + (n - 1) + 1 = i + n by omega, Nat.add_mod_right]; exact Nat.mod_eq_of_lt hi
  have e2 : (i + (n - 1) + 2) % n = nxm n i := by rw [show i + (n - 1) + 2 = (i + 1) + n by omega, Nat.add_mod_right]; rfl
  simp only [e1, e2] at h
  have g := inn_nx (P := fun i => toR (ps i)) (n := n) (nx := nxm n) (pv := pvm n) i
  rw [wd_ring] at g
  exact g.trans h
theorem wd_windI (ps : Nat → IP) (n : Nat) (z : IP) : wd (fun i => toR (ps i)) n (nxm n) (toR z) = windI ps n z := by
  rw [wd_ring]
  unfold wind windI
  exact sm_congr (fun j _ => cr_toR _ _ _)
theorem windI_small {ps : Nat → IP} {n : Nat} (R : RingI ps n) (p : IP) (off : ∀ j, ¬ OnI p (ps (j % n)) (ps ((j + 1) % n))) :
    windI ps n p = 0 ∨ windI ps n p = leftOf (fun k => toR (ps (k % n))) n ∨ windI ps n p = leftOf (fun k => toR (ps (k % n))) n - 1 := by
  have k := wind_small R.ring (toR p) (fun j hs hd => by
    apply off j
    rw [D_toR] at hd
    have hd' : DI (ps (j % n)) (ps ((j + 1) % n)) p = 0 := by exact_mod_cast hd
    simp only [span, toR, le_toR, lt_toR] at hs
    have hy : Geo.Btw (ps (j % n)).2 p.2 (ps ((j + 1) % n)).2 := by unfold Geo.Btw; omega
    refine ⟨hd', ?_, hy⟩
    have e : ((ps ((j + 1) % n)).2 - (ps (j % n)).2) * (p.1 - (ps (j % n)).1) = (p.2 - (ps (j % n)).2) * ((ps ((j + 1) % n)).1 - (ps (j % n)).1) := by unfold DI Geo.D at hd'; grind
    exact Geo.btw_shift.2 (Geo.btw_of _ _ _ _ (by omega) (by unfold Geo.Btw at *; omega) e))
  have e : wind (fun k => toR (ps (k % n))) n (toR p) = windI ps n p := by
    unfold wind windI
    exact sm_congr (fun j _ => cr_toR _ _ _)
  rw [e] at k
  exact k
theorem onI_meets {p a b q : IP} (h : OnI p a b) : MtI p q a b := by
  unfold MtI
  exact (Geo.meet_iff _ _ _ _ _ _ _ _).2 (.inl h)
theorem ring_off {ps : Nat → IP} {n : Nat} (R : RingI ps n) (i v : Nat) (hi : i < n) (hv : v < n) (h1 : v ≠ i) (h2 : v ≠ nxm n i) : ¬ OnI (ps v) (ps i) (ps (nxm n i)) := by
  have h3 := R.three
  intro h
  by_cases q1 : v = nxm n (nxm n i)
  · have := R.on2 i
    rw [Nat.mod_eq_of_lt hi, show (i + 1) % n = nxm n i from rfl, show (i + 2) % n = nxm n (nxm n i) by unfold nxm; rw [Nat.mod_add_mod]] at this
    rw [q1] at h
    exact this h
  · by_cases q2 : nxm n v = i
    · have := R.on1 v
      rw [Nat.mod_eq_of_lt hv, show (v + 1) % n = nxm n v from rfl, show (v + 2) % n = nxm n (nxm n v) by unfold nxm; rw [Nat.mod_add_mod], q2] at this
      exact this h
    · have hm : MtI (ps v) (ps (nxm n v)) (ps i) (ps (nxm n i)) := onI_meets h
      obtain ⟨t, ht1, ht2, e⟩ : ∃ t, 2 ≤ t ∧ t + 2 ≤ n ∧ (v + t) % n = i := by
        rcases nxm_cases hi with ⟨a1, b1⟩ | ⟨a1, b1⟩ <;> rcases nxm_cases hv with ⟨a2, b2⟩ | ⟨a2, b2⟩
        all_goals
          by_cases q : v < i
          · exact ⟨i - v, by omega, by omega, by rw [show v + (i - v) = i by omega]; exact Nat.mod_eq_of_lt hi⟩
          · exact ⟨i + n - v, by omega, by omega, by rw [show v + (i + n - v) = i + n by omega, Nat.add_mod_right]; exact Nat.mod_eq_of_lt hi⟩
      have := R.nm v t ht1 ht2
      rw [Nat.mod_eq_of_lt hv, show (v + 1) % n = nxm n v from rfl, show (v + t + 1) % n = nxm n ((v + t) % n) by unfold nxm; rw [Nat.mod_add_mod], e] at this
      exact this hm
structure Rgs (R : Nat) (len o : Nat → Nat) (p : Nat → Nat → IP) : Prop where
  pos : 1 ≤ R
  zero : o 0 = 0
  step : ∀ k, k < R → o (k + 1) = o k + len k
  ring : ∀ k, k < R → RingI (p k) (len k)
  inj : ∀ k l a b, k < R → l < R → a < len k → b < len l → p k a = p l b → k = l ∧ a = b
  far : ∀ k l a b, k < R → l < R → k ≠ l → a < len k → b < len l → ¬ MtI (p k a) (p k (nxm (len k) a)) (p l b) (p l (nxm (len l) b))
  win : ∀ k, 1 ≤ k → k < R → windI (p 0) (len 0) (p k 0) ≠ 0
  nest : ∀ k l, 1 ≤ k → k < R → 1 ≤ l → l < R → k ≠ l → windI (p l) (len l) (p k 0) = 0
def areaR (n : Nat) (ps : Nat → IP) : Int := sm (fun i => crx (ps i) (ps (nxm n i))) n
structure Trn (R : Nat) (len : Nat → Nat) (p : Nat → Nat → IP) (tr : Nat → Bool) : Prop where
  outer : tr 0 = false ↔ 0 < areaR (len 0) (p 0)
  hole : ∀ k, 1 ≤ k → k < R → (tr k = true ↔ 0 < areaR (len k) (p k))
section
variable {R : Nat} {len o : Nat → Nat} {p : Nat → Nat → IP} {tr : Nat → Bool}
theorem Rgs.inj1 (V : Rgs R len o p) {k : Nat} (hk : k < R) : ∀ i j, i < len k → j < len k → p k i = p k j → i = j := fun i j hi hj e => (V.inj k k i j hk hk hi hj e).2
theorem Rgs.lt (V : Rgs R len o p) : ∀ K, K ≤ R → ∀ k a, k < K → a < len k → o k + a < o K := by
  intro K
  induction K with
  | zero => intro _ k a h; omega
  | succ K ih =>
    intro hK k a hk ha
    have s := V.step K (by omega)
    by_cases e : k = K
    · subst e; omega
    · have := ih (by omega) k a (by omega) ha; omega
theorem Rgs.num (V : Rgs R len o p) : ∀ K, K ≤ R → ∀ i, i < o K → ∃ k a, k < K ∧ a < len k ∧ i = o k + a := by
  intro K
  induction K with
  | zero => intro _ i h; rw [V.zero] at h; omega
  | succ K ih =>
    intro hK i hi
    have s := V.step K (by omega)
    by_cases e : i < o K
    · obtain ⟨k, a, h1, h2, h3⟩ := ih (by omega) i e
      exact ⟨k, a, by omega, h2, h3⟩
    · exact ⟨K, i - o K, by omega, by omega, by omega⟩
theorem Rgs.sum (V : Rgs R len o p) (f : Nat → Int) : ∀ K, K ≤ R → sm f (o K) = sm (fun k => sm (fun a => f (o k + a)) (len k)) K := by
  intro K
  induction K with
  | zero => intro _; rw [V.zero]; rfl
  | succ K ih =>
    intro hK
    rw [V.step K (by omega), sm_more, ih (by omega)]
    rfl
theorem Rgs.uniq (V : Rgs R len o p) {k l a b : Nat} (hk : k < R) (hl : l < R) (ha : a < len k) (hb : b < len l) (h : o k + a = o l + b) : k = l ∧ a = b := by
  rcases Nat.lt_trichotomy k l with q | q | q
  · have := V.lt l (by omega) k a q ha; omega
  · subst q; exact ⟨rfl, by omega⟩
  · have := V.lt k (by omega) l b q hb; omega
theorem Rgs.bd (V : Rgs R len o p) (b : Bool) {k : Nat} (hk : k < R) : Bd (fun j => toR (p k j)) (len k) (nkk b (len k)) (pkk b (len k)) := by
  have G := ring_bd (V.ring k hk) (V.inj1 hk)
  cases b
  · exact G
  · exact G.rev
def wk (len : Nat → Nat) (p : Nat → Nat → IP) (tr : Nat → Bool) (k : Nat) (q : Pt) : Int := wd (fun j => toR (p k j)) (len k) (nkk (tr k) (len k)) q
theorem wk_windI (V : Rgs R len o p) {k : Nat} (hk : k < R) (z : IP) : wk len p tr k (toR z) = if tr k then - windI (p k) (len k) z else windI (p k) (len k) z := by
  unfold wk
  cases h : tr k
  · exact wd_windI _ _ _
  · have := wd_rev (V.bd false hk) (toR z)
    rw [← wd_windI]
    exact this
theorem own_left (V : Rgs R len o p) (T : Trn R len p tr) {k : Nat} (hk : k < R) : ∀ a, a < len k → inn (fun j => toR (p k j)) (len k) (nkk (tr k) (len k)) (pkk (tr k) (len k)) a (toR (p k (nkk (tr k) (len k) a))) = if k = 0 then 1 else 0 := by
  intro a ha
  have G := V.bd false hk
  have rv := inn_rev G a ha
  rcases ring_area (V.ring k hk) (V.inj1 hk) (fun i v hi hv h1 h2 => ring_off (V.ring k hk) i v hi hv h1 h2) with ⟨h1, h2⟩ | ⟨h1, h2⟩
  · have h := h1 a ha
    by_cases e : k = 0
    · subst e
      have : tr 0 = false := T.outer.2 h2
      rw [this, if_pos rfl]; exact h
    · have : tr k = true := (T.hole k (by omega) hk).2 h2
      rw [this, if_neg e]
      change inn (fun j => toR (p k j)) (len k) (pvm (len k)) (nxm (len k)) a (toR (p k (pvm (len k) a))) = 1 - inn (fun j => toR (p k j)) (len k) (nxm (len k)) (pvm (len k)) a (toR (p k (nxm (len k) a))) at rv
      rw [h] at rv
      exact rv
  · have h := h1 a ha
    have na : ¬ 0 < areaR (len k) (p k) := by unfold areaR; omega
    by_cases e : k = 0
    · subst e
      have : tr 0 = true := by
        cases q : tr 0
        · exact absurd (T.outer.1 q) na
        · rfl
      rw [this, if_pos rfl]
      change inn (fun j => toR (p 0 j)) (len 0) (pvm (len 0)) (nxm (len 0)) a (toR (p 0 (pvm (len 0) a))) = 1 - inn (fun j => toR (p 0 j)) (len 0) (nxm (len 0)) (pvm (len 0)) a (toR (p 0 (nxm (len 0) a))) at rv
      rw [h] at rv
      exact rv
    · have : tr k = false := by
        cases q : tr k
        · rfl
        · exact absurd ((T.hole k (by omega) hk).1 q) na
      rw [this, if_neg e]; exact h
theorem Rgs.apart (V : Rgs R len o p) {k l a b : Nat} (hk : k < R) (hl : l < R) (hkl : k ≠ l) (ha : a < len k) (hb : b < len l) (s t : Bool) :
    ¬ Mt (toR (p k a)) (toR (p k (nkk s (len k) a))) (toR (p l b)) (toR (p l (nkk t (len l) b))) := by
  have pa := (V.bd false hk).pl a ha
  have pb := (V.bd false hl).pl b hb
  have ea : nxm (len k) (pvm (len k) a) = a := np_mod ha
  have eb : nxm (len l) (pvm (len l) b) = b := np_mod hb
  cases s <;> cases t
  · exact fun m => V.far k l a b hk hl hkl ha hb ((Mt_toR _ _ _ _).1 m)
  · intro m
    have := V.far k l a _ hk hl hkl ha pb
    simp only [pkk] at this
    rw [eb] at this
    exact this ((Mt_toR _ _ _ _).1 ((Mt_flip _ _ _ _).1 m))
  · intro m
    have := V.far k l _ b hk hl hkl pa hb
    simp only [pkk] at this
    rw [ea] at this
    exact this ((Mt_toR _ _ _ _).1 ((Mt_flip' _ _ _ _).1 m))
  · intro m
    have := V.far k l _ _ hk hl hkl pa pb
    simp only [pkk] at this
    rw [ea, eb] at this
    exact this ((Mt_toR _ _ _ _).1 ((Mt_flip _ _ _ _).1 ((Mt_flip' _ _ _ _).1 m)))
theorem wk_const (V : Rgs R len o p) {k l : Nat} (hk : k < R) (hl : l < R) (hkl : k ≠ l) : ∀ a, a < len k → wk len p tr l (toR (p k a)) = wk len p tr l (toR (p k 0)) := by
  intro a
  induction a with
  | zero => intro _; rfl
  | succ a ih =>
    intro ha
    rw [← ih (by omega)]
    have d := wd_diff (V.bd (tr l) hl) (toR (p k (a + 1))) (toR (p k a))
    rw [sm_zero] at d
    · unfold wk; omega
    · intro b hb
      refine df_none fun m => ?_
      have := V.apart hk hl hkl (a := a) (by omega) hb false (tr l)
      rw [show nkk false (len k) a = a + 1 from Nat.mod_eq_of_lt (by omega)] at this
      exact this ((Mt_flip' _ _ _ _).1 m)
theorem wk_nest (V : Rgs R len o p) {k l : Nat} (hk1 : 1 ≤ k) (hk : k < R) (hl1 : 1 ≤ l) (hl : l < R) (hkl : k ≠ l) (a : Nat) (ha : a < len k) : wk len p tr l (toR (p k a)) = 0 := by
  rw [wk_const V hk hl hkl a ha, wk_windI V hl, V.nest k l hk1 hk hl1 hl hkl]
  simp
theorem Rgs.offv (V : Rgs R len o p) {k l a b : Nat} (hk : k < R) (hl : l < R) (hkl : k ≠ l) (ha : a < len k) (hb : b < len l) : ¬ OnI (p k a) (p l b) (p l (nxm (len l) b)) :=
  fun h => V.far k l a b hk hl hkl ha hb (onI_meets h)
theorem wk_in (V : Rgs R len o p) (T : Trn R len p tr) {k : Nat} (hk1 : 1 ≤ k) (hk : k < R) (a : Nat) (ha : a < len k) : wk len p tr 0 (toR (p k a)) = 1 := by
  have h3 := (V.ring k hk).three
  have h30 := (V.ring 0 (by omega)).three
  rw [wk_const V hk (by omega) (by omega) a ha, wk_windI V (by omega)]
  have w := V.win k hk1 hk
  have sm := windI_small (V.ring 0 (by omega)) (p k 0) (fun j => by
    have := V.offv (k := k) (l := 0) (a := 0) (b := j % len 0) hk (by omega) (by omega) (by omega) (Nat.mod_lt _ (by omega))
    rw [show nxm (len 0) (j % len 0) = (j + 1) % len 0 by unfold nxm; rw [Nat.mod_add_mod]] at this
    exact this)
  have L := left_leftOf (V.ring 0 (by omega)) 0 (by omega)
  have own := own_left V T (k := 0) (by omega) 0 (by omega)
  rw [if_pos rfl] at own
  have rv := inn_rev (V.bd false (k := 0) (by omega)) 0 (by omega)
  cases h : tr 0
  · rw [h] at own
    have : leftOf (fun k => toR (p 0 (k % len 0))) (len 0) = 1 := by rw [← L]; exact own
    simp only [Bool.false_eq_true, if_false]
    omega
  · rw [h] at own
    change inn (fun j => toR (p 0 j)) (len 0) (pvm (len 0)) (nxm (len 0)) 0 (toR (p 0 (pvm (len 0) 0))) = 1 - inn (fun j => toR (p 0 j)) (len 0) (nxm (len 0)) (pvm (len 0)) 0 (toR (p 0 (nxm (len 0) 0))) at rv
    change inn (fun j => toR (p 0 j)) (len 0) (pvm (len 0)) (nxm (len 0)) 0 (toR (p 0 (pvm (len 0) 0))) = 1 at own
    have : leftOf (fun k => toR (p 0 (k % len 0))) (len 0) = 0 := by rw [← L]; omega
    simp only [if_true]
    omega
theorem top_of (f : Nat → Rat) (n : Nat) (h : 0 < n) : ∃ a, a < n ∧ ∀ j, j < n → f j ≤ f a := by
  rcases least (fun j => - f j) (fun _ => True) n with h1 | ⟨i, hi, _, hm⟩
  · exact absurd trivial (h1 0 h)
  · exact ⟨i, hi, fun j hj => by have := hm j hj trivial; grind⟩
theorem wk_out (V : Rgs R len o p) (T : Trn R len p tr) {l : Nat} (hl1 : 1 ≤ l) (hl : l < R) (a : Nat) (ha : a < len 0) : wk len p tr l (toR (p 0 a)) = 0 := by
  have h3 := (V.ring l hl).three
  have h30 := (V.ring 0 (by omega)).three
  obtain ⟨x, hx, mx⟩ := top_of (fun j => (toR (p 0 j)).2) (len 0) (by omega)
  obtain ⟨y, hy, my⟩ := top_of (fun j => (toR (p l j)).2) (len l) (by omega)
  by_cases q : (toR (p l y)).2 ≤ (toR (p 0 x)).2
  · have z : wk len p tr l (toR (p 0 x)) = 0 := wd_far (V.bd (tr l) hl).nl _ (.inl fun j hj => Rat.le_trans (my j hj) q)
    rw [wk_const V (by omega) hl (by omega) a ha, ← wk_const V (by omega) hl (by omega) x hx]
    exact z
  · exfalso
    have z : wk len p tr 0 (toR (p l y)) = 0 := wd_far (V.bd (tr 0) (by omega)).nl _ (.inl fun j hj => Rat.le_trans (mx j hj) (by grind))
    rw [wk_in V T hl1 hl y hy] at z
    omega
end
end Jor
end Go.Proofs.Ytdkaoopkbhaheaa
namespace Go.Proofs.Ytdkaoopkbhaheaa
namespace Jor
set_option linter.unusedVariables false
set_option linter.unusedSimpArgs false
structure Uni (R : Nat) (len o : Nat → Nat) (p : Nat → Nat → IP) (tr : Nat → Bool) (q : Nat → IP) (nx pv : Nat → Nat) : Prop where
  q : ∀ k a, k < R → a < len k → q (o k + a) = p k a
  nx : ∀ k a, k < R → a < len k → nx (o k + a) = o k + nkk (tr k) (len k) a
  pv : ∀ k a, k < R → a < len k → pv (o k + a) = o k + pkk (tr k) (len k) a
section
variable {R : Nat} {len o : Nat → Nat} {p : Nat → Nat → IP} {tr : Nat → Bool} {q : Nat → IP} {nx pv : Nat → Nat}
theorem uni_bd (V : Rgs R len o p) (U : Uni R len o p tr q nx pv) : Bd (fun i => toR (q i)) (o R) nx pv := by
  have B := fun k (hk : k < R) => V.bd (tr k) hk
  refine ⟨?_, ?_, ?_, ?_, ?_, ?_, ?_, ?_, ?_⟩
  · intro i j hi hj e
    obtain ⟨k, a, hk, ha, rfl⟩ := V.num R (Nat.le_refl _) i hi
    obtain ⟨l, b, hl, hb, rfl⟩ := V.num R (Nat.le_refl _) j hj
    have e := toR_inj e
    rw [U.q k a hk ha, U.q l b hl hb] at e
    obtain ⟨rfl, rfl⟩ := V.inj k l a b hk hl ha hb e
    rfl
  · intro i hi
    obtain ⟨k, a, hk, ha, rfl⟩ := V.num R (Nat.le_refl _) i hi
    rw [U.nx k a hk ha]
    exact V.lt R (Nat.le_refl _) k _ hk ((B k hk).nl a ha)
  · intro i hi
    obtain ⟨k, a, hk, ha, rfl⟩ := V.num R (Nat.le_refl _) i hi
    rw [U.pv k a hk ha]
    exact V.lt R (Nat.le_refl _) k _ hk ((B k hk).pl a ha)
  · intro i hi
    obtain ⟨k, a, hk, ha, rfl⟩ := V.num R (Nat.le_refl _) i hi
    rw [U.pv k a hk ha, U.nx k _ hk ((B k hk).pl a ha), (B k hk).np a ha]
  · intro i hi
    obtain ⟨k, a, hk, ha, rfl⟩ := V.num R (Nat.le_refl _) i hi
    rw [U.nx k a hk ha, U.pv k _ hk ((B k hk).nl a ha), (B k hk).pn a ha]
  · intro i hi
    obtain ⟨k, a, hk, ha, rfl⟩ := V.num R (Nat.le_refl _) i hi
    rw [U.nx k a hk ha]
    have := (B k hk).n1 a ha
    omega
  · intro i hi
    obtain ⟨k, a, hk, ha, rfl⟩ := V.num R (Nat.le_refl _) i hi
    rw [U.nx k a hk ha, U.pv k a hk ha]
    have := (B k hk).n2 a ha
    omega
  · intro i hi
    obtain ⟨k, a, hk, ha, rfl⟩ := V.num R (Nat.le_refl _) i hi
    have h := (B k hk).nf a ha
    rw [U.nx k a hk ha, U.pv k a hk ha]
    simp only [U.q k a hk ha, U.q k _ hk ((B k hk).pl a ha), U.q k _ hk ((B k hk).nl a ha)]
    exact h
  · intro i j hi hj hij h1 h2
    obtain ⟨k, a, hk, ha, rfl⟩ := V.num R (Nat.le_refl _) i hi
    obtain ⟨l, b, hl, hb, rfl⟩ := V.num R (Nat.le_refl _) j hj
    rw [U.nx k a hk ha] at h1 ⊢
    rw [U.nx l b hl hb] at h2 ⊢
    simp only [U.q k a hk ha, U.q l b hl hb, U.q k _ hk ((B k hk).nl a ha), U.q l _ hl ((B l hl).nl b hb)]
    by_cases e : k = l
    · subst e
      exact (B k hk).nm a b ha hb (by omega) (by omega) (by omega)
    · exact V.apart hk hl e ha hb (tr k) (tr l)
theorem uni_sum (V : Rgs R len o p) (U : Uni R len o p tr q nx pv) (h : IP → IP → Int) : sm (fun i => h (q i) (q (nx i))) (o R) = sm (fun k => sm (fun a => h (p k a) (p k (nkk (tr k) (len k) a))) (len k)) R := by
  rw [V.sum _ R (Nat.le_refl _)]
  refine sm_congr fun k hk => sm_congr fun a ha => ?_
  rw [U.nx k a hk ha, U.q k a hk ha, U.q k _ hk ((V.bd (tr k) hk).nl a ha)]
theorem uni_wd (V : Rgs R len o p) (U : Uni R len o p tr q nx pv) (z : Pt) : wd (fun i => toR (q i)) (o R) nx z = sm (fun k => wk len p tr k z) R :=
  uni_sum V U (fun a b => cr z (toR a) (toR b))
theorem uni_rest (V : Rgs R len o p) (T : Trn R len p tr) {k a : Nat} (hk : k < R) (ha : a < len k) : sm (fun l => wk len p tr l (toR (p k a))) R = wk len p tr k (toR (p k a)) + if k = 0 then 0 else 1 := by
  rw [sm_out _ k R hk]
  congr 1
  by_cases e : k = 0
  · subst e
    rw [if_pos rfl]
    refine sm_zero _ _ fun l hl => ?_
    by_cases e : l = 0
    · rw [if_pos e]
    · rw [if_neg e]; exact wk_out V T (by omega) hl a ha
  · rw [if_neg e, sm_out _ 0 R (by omega), if_neg (Ne.symm e), wk_in V T (by omega) hk a ha, sm_zero]
    · rfl
    · intro l hl
      by_cases e0 : l = 0
      · rw [if_pos e0]
      · rw [if_neg e0]
        by_cases e1 : l = k
        · rw [if_pos e1]
        · rw [if_neg e1]; exact wk_nest V (by omega) hk (by omega) hl (Ne.symm e1) a ha
theorem uni_left (V : Rgs R len o p) (T : Trn R len p tr) (U : Uni R len o p tr q nx pv) : ∀ i, i < o R → inn (fun i => toR (q i)) (o R) nx pv i (toR (q (nx i))) = 1 := by
  intro i hi
  obtain ⟨k, a, hk, ha, rfl⟩ := V.num R (Nat.le_refl _) i hi
  have B := V.bd (tr k) hk
  have own := own_left V T hk a ha
  unfold inn at own ⊢
  dsimp only at own
  rw [uni_wd V U, U.nx k a hk ha, U.pv k a hk ha]
  simp only [U.q k a hk ha, U.q k _ hk (B.pl a ha), U.q k _ hk (B.nl a ha)]
  rw [uni_rest V T hk ha]
  unfold wk
  by_cases e : k = 0
  · subst e
    rw [if_pos rfl] at own ⊢
    omega
  · rw [if_neg e] at own ⊢
    omega
theorem uni_off (V : Rgs R len o p) (U : Uni R len o p tr q nx pv) : ∀ i v, i < o R → v < o R → v ≠ i → v ≠ nx i → ¬ On (toR (q v)) (toR (q i)) (toR (q (nx i))) := by
  intro i v hi hv h1 h2 h
  obtain ⟨k, a, hk, ha, rfl⟩ := V.num R (Nat.le_refl _) i hi
  obtain ⟨l, b, hl, hb, rfl⟩ := V.num R (Nat.le_refl _) v hv
  have B := V.bd (tr k) hk
  rw [U.nx k a hk ha] at h2 h
  rw [U.q k a hk ha, U.q l b hl hb, U.q k _ hk (B.nl a ha)] at h
  have ea : nxm (len k) (pvm (len k) a) = a := np_mod ha
  have pa := (V.bd false hk).pl a ha
  simp only [pkk] at pa
  by_cases e : l = k
  · subst e
    cases t : tr l
    · rw [t] at h h2
      exact ring_off (V.ring l hl) a b ha hb (by omega) (by simp only [nkk] at h2; omega) (on_int h)
    · rw [t] at h h2
      have := ring_off (V.ring l hl) (pvm (len l) a) b pa hb (by simp only [nkk] at h2; omega) (by rw [ea]; omega)
      rw [ea] at this
      exact this (on_int h.swap)
  · cases t : tr k
    · rw [t] at h
      exact V.offv hl hk e hb ha (on_int h)
    · rw [t] at h
      have := V.offv hl hk e hb pa
      rw [ea] at this
      exact this (on_int h.swap)
theorem sm_const (c : Int) (n : Nat) : sm (fun _ => c) n = c * n := by
  induction n with
  | zero => simp [sm]
  | succ n ih => simp only [sm]; rw [ih]; rw [Int.natCast_succ, Int.mul_add]; omega
theorem own_count (V : Rgs R len o p) (T : Trn R len p tr) {k : Nat} (hk : k < R) :
    sm (fun a => gg (toR (p k a)) (toR (p k (nkk (tr k) (len k) a)))) (len k) + 2 * sm (fun a => wk len p tr k (toR (p k a))) (len k) = if k = 0 then (len k : Int) - 2 else 2 - (len k : Int) := by
  have G := V.bd false hk
  have h3 := (V.ring k hk).three
  have off : ∀ i v, i < len k → v < len k → v ≠ i → v ≠ nxm (len k) i → ¬ On (toR (p k v)) (toR (p k i)) (toR (p k (nxm (len k) i))) := fun i v hi hv h1 h2 h => ring_off (V.ring k hk) i v hi hv h1 h2 (on_int h)
  have ar := ring_area (V.ring k hk) (V.inj1 hk) (fun i v hi hv h1 h2 => ring_off (V.ring k hk) i v hi hv h1 h2)
  have gr := gg_rev G
  have e2 : sm (fun i => wd (fun j => toR (p k j)) (len k) (pvm (len k)) (toR (p k i))) (len k) = - sm (fun i => wd (fun j => toR (p k j)) (len k) (nxm (len k)) (toR (p k i))) (len k) := by
    rw [← sm_neg]
    exact sm_congr fun i _ => wd_rev G _
  have main : (tr k = false → fR (fun j => toR (p k j)) (len k) = if k = 0 then (len k : Int) - 2 else 2 - (len k : Int)) ∧ (tr k = true → fR (fun j => toR (p k j)) (len k) = if k = 0 then 2 - (len k : Int) else (len k : Int) - 2) := by
    rcases ar with ⟨l, ap⟩ | ⟨l, ap⟩
    · have f := ring_f (len k) _ h3 G off l
      refine ⟨fun t => ?_, fun t => ?_⟩
      · by_cases e : k = 0
        · rw [if_pos e]; exact f
        · have := (T.hole k (by omega) hk).2 ap
          rw [t] at this; cases this
      · by_cases e : k = 0
        · subst e
          have := T.outer.2 ap
          rw [t] at this; cases this
        · rw [if_neg e]; exact f
    · have f := ring_f0 (len k) _ h3 G off l
      have na : ¬ 0 < areaR (len k) (p k) := by unfold areaR; omega
      refine ⟨fun t => ?_, fun t => ?_⟩
      · by_cases e : k = 0
        · subst e
          exact absurd (T.outer.1 t) na
        · rw [if_neg e]; exact f
      · by_cases e : k = 0
        · rw [if_pos e]; exact f
        · exact absurd ((T.hole k (by omega) hk).1 t) na
  unfold wk
  cases t : tr k
  · exact main.1 t
  · have f := main.2 t
    unfold fR at f
    dsimp only at f
    change sm (fun a => gg (toR (p k a)) (toR (p k (pvm (len k) a)))) (len k) + 2 * sm (fun i => wd (fun j => toR (p k j)) (len k) (pvm (len k)) (toR (p k i))) (len k) = _
    change sm (fun i => gg (toR (p k i)) (toR (p k (pvm (len k) i)))) (len k) = - sm (fun i => gg (toR (p k i)) (toR (p k (nxm (len k) i)))) (len k) at gr
    rw [e2, gr]
    by_cases e : k = 0
    · rw [if_pos e] at f ⊢; omega
    · rw [if_neg e] at f ⊢; omega
theorem uni_count (V : Rgs R len o p) (T : Trn R len p tr) (U : Uni R len o p tr q nx pv) :
    sm (fun i => gg (toR (q i)) (toR (q (nx i)))) (o R) + 2 * sm (fun i => wd (fun i => toR (q i)) (o R) nx (toR (q i))) (o R) = (o R : Int) + 2 * (R : Int) - 4 := by
  rw [uni_sum V U (fun a b => gg (toR a) (toR b)), V.sum _ R (Nat.le_refl _), ← sm_mul, ← sm_add]
  have each : sm (fun k => sm (fun a => gg (toR (p k a)) (toR (p k (nkk (tr k) (len k) a)))) (len k) + 2 * sm (fun a => wd (fun i => toR (q i)) (o R) nx (toR (q (o k + a)))) (len k)) R = sm (fun k => (len k : Int) + if k = 0 then -2 else 2) R := by
    refine sm_congr fun k hk => ?_
    have e : sm (fun a => wd (fun i => toR (q i)) (o R) nx (toR (q (o k + a)))) (len k) = sm (fun a => wk len p tr k (toR (p k a))) (len k) + (if k = 0 then 0 else 1) * (len k : Int) := by
      rw [← sm_const, ← sm_add]
      refine sm_congr fun a ha => ?_
      rw [uni_wd V U, U.q k a hk ha, uni_rest V T hk ha]
    have c := own_count V T hk
    rw [e]
    by_cases e : k = 0
    · rw [if_pos e] at c ⊢; rw [if_pos e]; omega
    · rw [if_neg e] at c ⊢; rw [if_neg e]; omega
  rw [each, sm_add]
  have s1 : sm (fun k => (len k : Int)) R = o R := by
    have : ∀ K, K ≤ R → sm (fun k => (len k : Int)) K = o K := by
      intro K
      induction K with
      | zero => intro _; rw [V.zero]; rfl
      | succ K ih => intro hK; simp only [sm]; rw [ih (by omega), V.step K (by omega)]; omega
    exact this R (Nat.le_refl _)
  have s2 : sm (fun k => if k = 0 then (-2 : Int) else 2) R = 2 * (R : Int) - 4 := by
    have : ∀ K, 1 ≤ K → sm (fun k => if k = 0 then (-2 : Int) else 2) K = 2 * (K : Int) - 4 := by
      intro K
      induction K with
      | zero => intro h; omega
      | succ K ih =>
        intro _
        simp only [sm]
        by_cases e : K = 0
        · subst e; simp [sm]
        · rw [ih (by omega), if_neg e]; omega
    exact this R V.pos
  rw [s1, s2]
  omega
theorem uni_area (V : Rgs R len o p) (T : Trn R len p tr) (U : Uni R len o p tr q nx pv) :
    sm (fun i => crx (q i) (q (nx i))) (o R) = sm (fun k => if k = 0 then (areaR (len k) (p k)).natAbs else -((areaR (len k) (p k)).natAbs : Int)) R := by
  rw [uni_sum V U crx]
  refine sm_congr fun k hk => ?_
  have G := V.bd false hk
  have ar := area_rev G
  change sm (fun i => crx (p k i) (p k (pvm (len k) i))) (len k) = - areaR (len k) (p k) at ar
  cases t : tr k
  · change areaR (len k) (p k) = _
    by_cases e : k = 0
    · subst e
      rw [if_pos rfl]
      have := T.outer.1 t
      omega
    · rw [if_neg e]
      have : ¬ 0 < areaR (len k) (p k) := fun h => by
        have := (T.hole k (by omega) hk).2 h
        rw [t] at this; cases this
      omega
  · change sm (fun i => crx (p k i) (p k (pvm (len k) i))) (len k) = _
    rw [ar]
    by_cases e : k = 0
    · subst e
      rw [if_pos rfl]
      have : ¬ 0 < areaR (len 0) (p 0) := fun h => by
        have := T.outer.2 h
        rw [t] at this; cases this
      omega
    · rw [if_neg e]
      have := (T.hole k (by omega) hk).1 t
      omega
end
end Jor
#print axioms Jor.uni_count
end Go.Proofs.Ytdkaoopkbhaheaa
