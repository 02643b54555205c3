import Derived.Test.YtdkaoopkbhaheaaPM21
namespace Go.Proofs.Ytdkaoopkbhaheaa
namespace Jor
open scoped Classical
set_option linter.unusedVariables false
set_option linter.unusedSimpArgs false
set_option linter.unusedSectionVars false
def mix (p w : Pt) (t : Rat) : Pt := (p.1 + t * (w.1 - p.1), p.2 + t * (w.2 - p.2))
theorem D_mx (c d p w : Pt) (t : Rat) : D c d (mix p w t) = (1 - t) * D c d p + t * D c d w := by unfold D mix; grind
theorem D_mxl (p w c : Pt) (t : Rat) : D (mix p w t) w c = (1 - t) * D p w c := by unfold D mix; grind
theorem mix_mix (p w : Pt) (s t : Rat) : mix (mix p w s) w t = mix p w (s + t - s * t) := by unfold mix; apply Prod.ext <;> simp <;> grind
theorem inc_anti (a b u w : Pt) : inc b a u w = - inc a b u w := by unfold inc q2 D; grind
theorem inc_last (a b u w : Pt) : inc a b w u = - inc a b u w := by unfold inc q2 D; grind
theorem D_sum3 (a b v p : Pt) : D a b v = D b v p + D v a p + D a b p := by unfold D; grind
theorem rdiv_pos {a b : Rat} (ha : 0 < a) (hb : 0 < b) : 0 < a / b := by rw [Rat.lt_div_iff hb]; grind
theorem both_pos {x y A B : Rat} (hA : 0 < A) (hB : B < 0) (hs : 0 < x + y) (he : x * A + y * B = 0) : 0 < x ∧ 0 < y := by
  have hx : 0 < x := by
    by_cases q : 0 < x
    · exact q
    · have h1 := pn (show 0 < y by grind) hB
      have h2 := nn_mul (show 0 ≤ - x by grind) (show 0 ≤ A by grind)
      grind
  refine ⟨hx, ?_⟩
  by_cases q : 0 < y
  · exact q
  · have h1 := pos_mul hx hA
    have h2 := nn_mul (show 0 ≤ - y by grind) (show 0 ≤ - B by grind)
    grind
structure Vis (P : Nat → Pt) (n : Nat) (nx : Nat → Nat) (p : Pt) (w : Nat) : Prop where
  free : ∀ u, u < n → u ≠ w → ∀ t, 0 < t → t < 1 → P u ≠ mix p (P w) t
  bord : ∀ c, c < n → D p (P w) (P c) < 0 → 0 < D p (P w) (P (nx c)) → 0 < D (P c) (P (nx c)) p → ¬ D (P c) (P (nx c)) (P w) < 0
section
variable {P : Nat → Pt} {n : Nat} {nx pv : Nat → Nat} {K : Nat → Nat → Prop} {th : Nat → Nat → Option Nat}
theorem Vis.on {p : Pt} {w : Nat} {s : Rat} (V : Vis P n nx p w) (h0 : 0 < s) (h1 : s < 1) : Vis P n nx (mix p (P w) s) w where
  free := fun u hu hw t t0 t1 e => by
    rw [mix_mix] at e
    refine V.free u hu hw (s + t - s * t) ?_ ?_ e
    · have := pos_mul t0 (show 0 < 1 - s by grind); grind
    · have := pos_mul (show 0 < 1 - t by grind) (show 0 < 1 - s by grind); grind
  bord := fun c hc h2 h3 h4 h5 => by
    rw [D_mxl] at h2 h3
    rw [D_mx] at h4
    have g : 0 < 1 - s := by grind
    refine V.bord c hc ?_ (pos_of_mul g h3) ?_ h5
    · have := pos_of_mul g (b := - D p (P w) (P c)) (by grind); grind
    · have q : 0 < (1 - s) * D (P c) (P (nx c)) p := by
        have := pn h0 h5
        grind
      exact pos_of_mul g q
def ahd [∀ p : Prop, Decidable p] (P : Nat → Pt) (n : Nat) (K : Nat → Nat → Prop) (w : Nat) (p : Pt) (i : Nat) : Int := if K (i / n) (i % n) ∧ 0 < D (P (i / n)) (P (i % n)) (P w) ∧ D (P (i / n)) (P (i % n)) p < 0 then 1 else 0
theorem ahd_nn (w : Nat) (p : Pt) (i : Nat) : 0 ≤ ahd P n K w p i := by unfold ahd; split <;> omega
theorem ahd_less {w c d : Nat} {p : Pt} {s : Rat} (hc : c < n) (hd : d < n) (k : K c d) (h0 : 0 < s) (h1 : s < 1) (l : 0 < D (P c) (P d) (P w)) (l1 : D (P c) (P d) p < 0) (l2 : D (P c) (P d) (mix p (P w) s) = 0) :
    sm (ahd P n K w (mix p (P w) s)) (n * n) < sm (ahd P n K w p) (n * n) := by
  refine sm_lt (fun i hi => ?_) (code hc hd).1 ?_
  · by_cases h : K (i / n) (i % n) ∧ 0 < D (P (i / n)) (P (i % n)) (P w) ∧ D (P (i / n)) (P (i % n)) (mix p (P w) s) < 0
    · obtain ⟨g1, g2, g3⟩ := h
      have q : D (P (i / n)) (P (i % n)) p < 0 := by
        rw [D_mx] at g3
        have a1 := pos_mul h0 g2
        have := pos_of_mul (show 0 < 1 - s by grind) (b := - D (P (i / n)) (P (i % n)) p) (by grind)
        grind
      unfold ahd
      rw [if_pos ⟨g1, g2, g3⟩, if_pos ⟨g1, g2, q⟩]
      exact Int.le_refl _
    · have : ahd P n K w (mix p (P w) s) i = 0 := by unfold ahd; rw [if_neg h]
      rw [this]; exact ahd_nn _ _ _
  · have e1 := (code hc hd).2.1; have e2 := (code hc hd).2.2
    unfold ahd
    rw [e1, e2, if_neg (fun h => by have := h.2.2; rw [l2] at this; grind), if_pos ⟨k, l, l1⟩]
    decide
theorem cross_at {c d p w : Pt} (h1 : D c d p < 0) (h2 : 0 < D c d w) : ∃ s, 0 < s ∧ s < 1 ∧ D c d (mix p w s) = 0 := by
  have hp : 0 < D c d w - D c d p := by grind
  refine ⟨(- D c d p) / (D c d w - D c d p), ?_, ?_, ?_⟩
  · exact rdiv_pos (by grind) hp
  · rw [Rat.div_lt_iff hp]; grind
  · rw [D_mx]
    have e : (- D c d p) / (D c d w - D c d p) * (D c d w - D c d p) = - D c d p := Rat.div_mul_cancel (by grind)
    generalize (- D c d p) / (D c d w - D c d p) = s at *
    grind
theorem seen (G : Bd P n nx pv) (F : Front P n nx pv K th) (full : Full K th) (two : ∀ a b v w, th a b = some v → th b a = some w → inc (P a) (P b) (P v) (P w) ≤ 0)
    (w : Nat) (hw : w < n) : ∀ (m : Nat) (a b v : Nat) (p : Pt), sm (ahd P n K w p) (n * n) < (m : Int) → th a b = some v → 0 < D (P a) (P b) (P w) → D (P a) (P b) p = 0 → 0 < D p (P w) (P a) → D p (P w) (P b) < 0 → Vis P n nx p w →
    inc (P a) (P b) (P v) (P w) ≤ 0 ∧ ((∀ a b v w, th a b = some v → th b a = some w → inc (P a) (P b) (P v) (P w) < 0) → v ≠ w → inc (P a) (P b) (P v) (P w) < 0) := by
  intro m
  induction m with
  | zero =>
    intro a b v p hm
    have := sm_le (f := fun _ => 0) (g := ahd P n K w p) (n := n * n) (fun i _ => ahd_nn _ _ _)
    have z : sm (fun _ => 0) (n * n) = 0 := sm_zero _ _ fun _ _ => rfl
    omega
  | succ m ih =>
    intro a b v p hm h l hp hA hB V
    obtain ⟨k1, k2, k3, t2, t3, lv, fr⟩ := F.tri _ _ _ h
    have ha := F.fa _ _ k1; have hb := F.fb _ _ k1; have hv := F.fb _ _ k2
    by_cases e : v = w
    · subst e
      refine ⟨?_, fun _ g => absurd rfl g⟩
      have : inc (P a) (P b) (P v) (P v) = 0 := by unfold inc q2 D; grind
      rw [this]; exact Rat.le_refl
    have wa : w ≠ a := fun q => by rw [q, D_beg] at l; grind
    have wb : w ≠ b := fun q => by rw [q, D_end] at l; grind
    have nt : ¬ Tri (P w) (P a) (P b) (P v) := fr w hw wa wb (fun q => e q.symm)
    have s0 := D_sum3 (P a) (P b) (P v) p
    have s1 := D_sum3 (P a) (P b) (P v) (P w)
    have b1 := bary_s (P a) (P b) (P v) p (P w) p
    have b2 := bary_s (P a) (P b) (P v) p (P w) (P w)
    rw [D_beg] at b1
    rw [D_end] at b2
    obtain ⟨al, be⟩ : 0 < D (P b) (P v) p ∧ 0 < D (P v) (P a) p := both_pos hA hB (by rw [hp] at s0; grind) (by rw [hp] at b1; grind)
    by_cases on : D p (P w) (P v) = 0
    · exfalso
      by_cases q : D (P a) (P b) (P v) < D (P a) (P b) (P w)
      · refine V.free v hv e (D (P a) (P b) (P v) / D (P a) (P b) (P w)) (rdiv_pos lv l) (by rw [Rat.div_lt_iff l]; grind) ?_
        have e1 : D (P a) (P b) (P v) / D (P a) (P b) (P w) * D (P a) (P b) (P w) = D (P a) (P b) (P v) := Rat.div_mul_cancel (by grind)
        generalize D (P a) (P b) (P v) / D (P a) (P b) (P w) = t at *
        have x1 : D (P a) (P b) (P w) * ((P v).1 - (p.1 + t * ((P w).1 - p.1))) = 0 := by unfold D at *; grind
        have x2 : D (P a) (P b) (P w) * ((P v).2 - (p.2 + t * ((P w).2 - p.2))) = 0 := by unfold D at *; grind
        apply Prod.ext
        · show _ = p.1 + t * ((P w).1 - p.1)
          rcases Rat.mul_eq_zero.1 x1 with y | y
          · grind
          · grind
        · show _ = p.2 + t * ((P w).2 - p.2)
          rcases Rat.mul_eq_zero.1 x2 with y | y
          · grind
          · grind
      · have z : D (P b) (P v) (P w) * D p (P w) (P a) + D (P v) (P a) (P w) * D p (P w) (P b) = 0 := by rw [on] at b2; grind
        refine nt ⟨by grind, ?_, ?_⟩
        · by_cases g : 0 ≤ D (P b) (P v) (P w)
          · exact g
          · have c1 := np (show D (P b) (P v) (P w) < 0 by grind) hA
            have c2 := pn (show 0 < D (P v) (P a) (P w) by grind) hB
            grind
        · by_cases g : 0 ≤ D (P v) (P a) (P w)
          · exact g
          · have c1 := nnn (show D (P v) (P a) (P w) < 0 by grind) hB
            have c2 := pos_mul (show 0 < D (P b) (P v) (P w) by grind) hA
            grind
    · by_cases pos : 0 < D p (P w) (P v)
      · have x := pos_mul l pos
        have nw : D (P b) (P v) (P w) < 0 := by
          by_cases g : D (P b) (P v) (P w) < 0
          · exact g
          · have c1 := nn_mul (show 0 ≤ D (P b) (P v) (P w) by grind) (show 0 ≤ D p (P w) (P a) by grind)
            refine absurd ⟨by grind, by grind, ?_⟩ nt
            by_cases g2 : 0 ≤ D (P v) (P a) (P w)
            · exact g2
            · have := nnn (show D (P v) (P a) (P w) < 0 by grind) hB
              grind
        have f1 := D_flip (P b) (P v) p
        have f2 := D_flip (P b) (P v) (P w)
        obtain ⟨s, g0, g1, ge⟩ := cross_at (c := P v) (d := P b) (p := p) (w := P w) (by grind) (by grind)
        have kv : K v b := by
          by_cases q : nx b = v
          · exact absurd nw (by have := V.bord b hb hB; rw [q] at this; exact this pos al)
          · exact F.pair _ _ k2 q
        obtain ⟨u, hu⟩ := full _ _ kv
        have gs : 0 < 1 - s := by grind
        have dec := ahd_less hv hb kv g0 g1 (show 0 < D (P v) (P b) (P w) by grind) (show D (P v) (P b) p < 0 by grind) ge
        obtain ⟨i1, i2⟩ := ih v b u (mix p (P w) s) (by omega) hu (by grind) ge (by rw [D_mxl]; exact pos_mul gs pos) (by rw [D_mxl]; exact pn gs hB) (V.on g0 g1)
        obtain ⟨_, _, _, _, _, lu, _⟩ := F.tri _ _ _ hu
        have f3 := D_flip (P b) (P v) (P u)
        have pe := inc_pencil (P b) (P v) (P a) (P u) (P w)
        have an := inc_anti (P v) (P b) (P u) (P w)
        have la : 0 < D (P b) (P v) (P a) := by rw [← D_rot]; exact lv
        rw [inc_rot]
        constructor
        · have tw := two _ _ _ _ t2 hu
          have c1 := nn_mul (show 0 ≤ - D (P b) (P v) (P w) by grind) (show 0 ≤ - inc (P b) (P v) (P a) (P u) by grind)
          have c2 := nn_mul (show 0 ≤ D (P b) (P v) (P a) by grind) (show 0 ≤ inc (P b) (P v) (P u) (P w) by grind)
          have c3 := nn_of_mul (show 0 < - D (P b) (P v) (P u) by grind) (b := - inc (P b) (P v) (P a) (P w)) (by grind)
          grind
        · intro str _
          have tw := str _ _ _ _ t2 hu
          have c1 := pos_mul (show 0 < - D (P b) (P v) (P w) by grind) (show 0 < - inc (P b) (P v) (P a) (P u) by grind)
          have c2 := nn_mul (show 0 ≤ D (P b) (P v) (P a) by grind) (show 0 ≤ inc (P b) (P v) (P u) (P w) by grind)
          have c3 := pos_of_mul (show 0 < - D (P b) (P v) (P u) by grind) (b := - inc (P b) (P v) (P a) (P w)) (by grind)
          grind
      · have neg : D p (P w) (P v) < 0 := by grind
        have x := pn l neg
        have nw : D (P v) (P a) (P w) < 0 := by
          by_cases g : D (P v) (P a) (P w) < 0
          · exact g
          · have c1 := nn_mul (show 0 ≤ D (P v) (P a) (P w) by grind) (show 0 ≤ - D p (P w) (P b) by grind)
            refine absurd ⟨by grind, ?_, by grind⟩ nt
            by_cases g2 : 0 ≤ D (P b) (P v) (P w)
            · exact g2
            · have := np (show D (P b) (P v) (P w) < 0 by grind) hA
              grind
        have f1 := D_flip (P v) (P a) p
        have f2 := D_flip (P v) (P a) (P w)
        obtain ⟨s, g0, g1, ge⟩ := cross_at (c := P a) (d := P v) (p := p) (w := P w) (by grind) (by grind)
        have kv : K a v := by
          by_cases q : nx v = a
          · exact absurd nw (by have := V.bord v hv neg; rw [q] at this; exact this hA be)
          · exact F.pair _ _ k3 q
        obtain ⟨u, hu⟩ := full _ _ kv
        have gs : 0 < 1 - s := by grind
        have dec := ahd_less ha hv kv g0 g1 (show 0 < D (P a) (P v) (P w) by grind) (show D (P a) (P v) p < 0 by grind) ge
        obtain ⟨i1, i2⟩ := ih a v u (mix p (P w) s) (by omega) hu (by grind) ge (by rw [D_mxl]; exact pos_mul gs hA) (by rw [D_mxl]; exact pn gs neg) (V.on g0 g1)
        obtain ⟨_, _, _, _, _, lu, _⟩ := F.tri _ _ _ hu
        have f3 := D_flip (P v) (P a) (P u)
        have pe := inc_pencil (P v) (P a) (P b) (P u) (P w)
        have an := inc_anti (P a) (P v) (P u) (P w)
        have la : 0 < D (P v) (P a) (P b) := by rw [← D_rot2]; exact lv
        rw [inc_rot, inc_rot]
        constructor
        · have tw := two _ _ _ _ t3 hu
          have c1 := nn_mul (show 0 ≤ - D (P v) (P a) (P w) by grind) (show 0 ≤ - inc (P v) (P a) (P b) (P u) by grind)
          have c2 := nn_mul (show 0 ≤ D (P v) (P a) (P b) by grind) (show 0 ≤ inc (P v) (P a) (P u) (P w) by grind)
          have c3 := nn_of_mul (show 0 < - D (P v) (P a) (P u) by grind) (b := - inc (P v) (P a) (P b) (P w)) (by grind)
          grind
        · intro str _
          have tw := str _ _ _ _ t3 hu
          have c1 := pos_mul (show 0 < - D (P v) (P a) (P w) by grind) (show 0 < - inc (P v) (P a) (P b) (P u) by grind)
          have c2 := nn_mul (show 0 ≤ D (P v) (P a) (P b) by grind) (show 0 ≤ inc (P v) (P a) (P u) (P w) by grind)
          have c3 := pos_of_mul (show 0 < - D (P v) (P a) (P u) by grind) (b := - inc (P v) (P a) (P b) (P w)) (by grind)
          grind
end
end Jor
end Go.Proofs.Ytdkaoopkbhaheaa
