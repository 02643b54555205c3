import Derived.Test.YtdkaoopkbhaheaaQM28
namespace Go.Proofs.Ytdkaoopkbhaheaa
namespace Jor
open scoped Classical
set_option linter.unusedVariables false
set_option linter.unusedSimpArgs false
set_option linter.unusedSectionVars false
theorem D_mid (c d a b : Pt) : 2 * D c d (mix a b (1 / 2)) = D c d a + D c d b := by rw [D_mx]; grind
theorem cross_pt (a b c d p w : Pt) : (- D p w c) * D a b d + D p w d * D a b c = (- D c d w) * D a b p + D c d p * D a b w := by unfold D; grind
section
variable {P : Nat → Pt} {n : Nat} {nx pv : Nat → Nat} {K K' : Nat → Nat → Prop} {th th' : Nat → Nat → Option Nat}
theorem no_reach {a b w p c d : Pt} (l : 0 < D a b w) (hp : D a b p = 0) (hA : 0 < D p w a) (hB : D p w b < 0) (hc : ¬ Tri c a b w) (hd : ¬ Tri d a b w)
    (n2 : ¬ Mt b w c d) (n3 : ¬ Mt w a c d) (g1 : D p w c < 0) (g2 : 0 < D p w d) (g3 : 0 < D c d p) (g4 : D c d w < 0) : False := by
  have i1 := bary_s a b w p w d
  have i2 := bary_s a b w p w c
  have i3 := bary_s a b w c d c
  have i4 := bary_s a b w c d d
  have i5 := bary_s a b w c d p
  have s5 := D_sum3 a b w p
  have ed := Ediff a b c d
  have cp := cross_pt a b c d p w
  rw [D_end] at i1 i2
  rw [D_beg] at i3
  rw [D_end] at i4
  have b1 := bary_s a b w p w p
  rw [D_beg] at b1
  obtain ⟨al, be⟩ : 0 < D b w p ∧ 0 < D w a p := both_pos hA hB (by rw [hp] at s5; grind) (by rw [hp] at b1; grind)
  have sd : 0 < D a b d ∨ 0 < D a b c := by
    by_cases q : 0 < D a b d
    · exact .inl q
    · right
      have h1 := pos_mul g3 l
      have h2 := nn_mul (show 0 ≤ - D p w c by grind) (show 0 ≤ - D a b d by grind)
      rw [hp] at cp
      exact pos_of_mul g2 (by grind)
  -- beyond a
  have dA : 0 < D c d a → 0 < D w a d := by
    intro ca
    by_cases q : 0 < D w a d
    · exact q
    exfalso
    have cq := cross_pt w a c d p w
    have e0 : D w a w = 0 := D_beg _ _
    have wc : 0 < D w a c := by
      have h1 := pos_mul (show 0 < - D c d w by grind) be
      have h2 := nn_mul (show 0 ≤ - D p w c by grind) (show 0 ≤ - D w a d by grind)
      rw [e0] at cq
      exact pos_of_mul g2 (by grind)
    by_cases z : D w a d < 0
    · exact n3 (Mt_cross wc z g4 ca)
    · have z : D w a d = 0 := by grind
      have dp := pos_mul l g2
      rw [z] at i1 i4
      have h1 := pos_of_mul hA (b := D b w d) (by grind)
      have h2 : 0 < D a b d := pos_of_mul (show 0 < - D c d w by grind) (by have := pos_mul h1 ca; grind)
      exact hd ⟨by grind, by grind, by grind⟩
  have cB : 0 < D c d b → 0 < D b w c := by
    intro cb
    by_cases q : 0 < D b w c
    · exact q
    exfalso
    have cq := cross_pt b w c d p w
    have e0 : D b w w = 0 := D_end _ _
    have wd : 0 < D b w d := by
      have h1 := pos_mul (show 0 < - D c d w by grind) al
      have h2 := nn_mul (show 0 ≤ D p w d by grind) (show 0 ≤ - D b w c by grind)
      rw [e0] at cq
      exact pos_of_mul (show 0 < - D p w c by grind) (by grind)
    by_cases z : D b w c < 0
    · refine n2 ((Mt_flip _ _ _ _).2 (Mt_cross wd z ?_ ?_))
      · rw [D_flip]; grind
      · rw [D_flip]; grind
    · have z : D b w c = 0 := by grind
      have dp := pn l g1
      rw [z] at i2 i3
      have h1 := pos_of_mul (show 0 < - D p w b by grind) (b := D w a c) (by grind)
      have h2 : 0 < D a b c := pos_of_mul (show 0 < - D c d w by grind) (by have := pos_mul h1 cb; grind)
      exact hc ⟨by grind, by grind, by grind⟩
  have inD : 0 < D w a d → 0 < D b w d := fun h => by
    have dp := pos_mul l g2
    have h1 := pos_mul h (show 0 < - D p w b by grind)
    exact pos_of_mul hA (by grind)
  have inC : 0 < D b w c → 0 < D w a c := fun h => by
    have dp := pn l g1
    have h1 := pos_mul h hA
    exact pos_of_mul (show 0 < - D p w b by grind) (by grind)
  by_cases ca : 0 < D c d a
  · have d1 := dA ca
    have d2 := inD d1
    by_cases cb : 0 < D c d b
    · have h1 := pos_mul d2 ca
      have h2 := pos_mul d1 cb
      have h3 : 0 < D a b d := pos_of_mul (show 0 < - D c d w by grind) (by grind)
      exact hd ⟨by grind, by grind, by grind⟩
    · have h3 : D a b d < 0 := by
        by_cases q : D a b d < 0
        · exact q
        · exact absurd ⟨by grind, by grind, by grind⟩ hd
      rcases sd with q | q <;> grind
  · by_cases cb : 0 < D c d b
    · have c1 := cB cb
      have c2 := inC c1
      have h3 : D a b c < 0 := by
        by_cases q : D a b c < 0
        · exact q
        · exact absurd ⟨by grind, by grind, by grind⟩ hc
      rcases sd with q | q <;> grind
    · have h1 := nn_mul (show 0 ≤ D b w p by grind) (show 0 ≤ - D c d a by grind)
      have h2 := nn_mul (show 0 ≤ D w a p by grind) (show 0 ≤ - D c d b by grind)
      have h3 := pos_mul l g3
      rw [hp] at i5
      grind
theorem clear_vis (nl : ∀ i, i < n → nx i < n) {a b w : Nat} (ha : a < n) (hb : b < n) (C : Clear P n (fun c d => c < n ∧ nx c = d) a b w) : Vis P n nx (mix (P a) (P b) (1 / 2)) w := by
  have l := C.left
  have m0 : D (P a) (P b) (mix (P a) (P b) (1 / 2)) = 0 := by rw [D_mx, D_beg, D_end]; grind
  have mA : 2 * D (mix (P a) (P b) (1 / 2)) (P w) (P a) = D (P a) (P b) (P w) := by unfold D mix; grind
  have mB : 2 * D (mix (P a) (P b) (1 / 2)) (P w) (P b) = - D (P a) (P b) (P w) := by unfold D mix; grind
  have m1 : 2 * D (P b) (P w) (mix (P a) (P b) (1 / 2)) = D (P a) (P b) (P w) := by unfold D mix; grind
  have m2 : 2 * D (P w) (P a) (mix (P a) (P b) (1 / 2)) = D (P a) (P b) (P w) := by unfold D mix; grind
  refine ⟨fun u hu hw t t0 t1 e => ?_, fun c hc g1 g2 g3 g4 => ?_⟩
  · have g : 0 < 1 - t := by grind
    have d1 : D (P a) (P b) (P u) = t * D (P a) (P b) (P w) := by rw [e, D_mx, m0]; grind
    have d2 : 0 < D (P b) (P w) (P u) := by rw [e, D_mx, D_end]; have := pos_mul g (show 0 < D (P b) (P w) (mix (P a) (P b) (1 / 2)) by grind); grind
    have d3 : 0 < D (P w) (P a) (P u) := by rw [e, D_mx, D_beg]; have := pos_mul g (show 0 < D (P w) (P a) (mix (P a) (P b) (1 / 2)) by grind); grind
    have d4 := pos_mul t0 l
    refine C.free u hu (fun q => ?_) (fun q => ?_) hw ⟨by grind, by grind, by grind⟩
    · rw [q, D_beg] at d1; grind
    · rw [q, D_end] at d1; grind
  · have k : (fun c d => c < n ∧ nx c = d) c (nx c) := ⟨hc, rfl⟩
    have cw : c ≠ w := fun q => by rw [q, D_end] at g1; grind
    have dw : nx c ≠ w := fun q => by rw [q, D_end] at g2; grind
    have ca : c ≠ a := fun q => by rw [q] at g1; grind
    have db : nx c ≠ b := fun q => by rw [q] at g2; grind
    by_cases cb : c = b
    · subst cb
      by_cases da : nx c = a
      · rw [da] at g3
        have : D (P c) (P a) (mix (P a) (P c) (1 / 2)) = - D (P a) (P c) (mix (P a) (P c) (1 / 2)) := D_flip _ _ _
        grind
      · have hd := C.free (nx c) (nl c hc) da db dw
        have e1 := D_mid (P c) (P (nx c)) (P a) (P c)
        rw [D_beg] at e1
        have r1 : D (P a) (P c) (P (nx c)) = D (P c) (P (nx c)) (P a) := D_rot _ _ _
        have r2 : D (P c) (P w) (P (nx c)) = - D (P c) (P (nx c)) (P w) := D_swap _ _ _
        have n1 : D (P w) (P a) (P (nx c)) < 0 := by
          by_cases q : D (P w) (P a) (P (nx c)) < 0
          · exact q
          · exact absurd ⟨by grind, by grind, by grind⟩ hd
        exact C.s3 c (nx c) k cw dw ca da (Mt_cross (by rw [← D_rot2]; exact l) n1 g4 (by grind))
    · by_cases da : nx c = a
      · have hcT := C.free c hc ca cb cw
        rw [da] at g3 g4
        have e1 := D_mid (P c) (P a) (P a) (P b)
        rw [D_end] at e1
        have r1 : D (P a) (P b) (P c) = D (P c) (P a) (P b) := D_rot2 _ _ _
        have r2 : D (P w) (P a) (P c) = - D (P c) (P a) (P w) := by unfold D; grind
        have n1 : D (P b) (P w) (P c) < 0 := by
          by_cases q : D (P b) (P w) (P c) < 0
          · exact q
          · exact absurd ⟨by grind, by grind, by grind⟩ hcT
        have := C.s2 c (nx c) k cb db cw dw
        rw [da] at this
        refine this ((Mt_flip _ _ _ _).2 (Mt_cross (by rw [← D_rot]; exact l) n1 ?_ ?_))
        · rw [D_flip]; grind
        · rw [D_flip]; grind
      · exact no_reach l m0 (by grind) (by grind) (C.free c hc ca cb cw) (C.free _ (nl c hc) da db dw) (C.s2 c _ k cb db cw dw) (C.s3 c _ k cw dw ca da) g1 g2 g3 g4
theorem tri_clear (F : Front P n nx pv K th) {a b v : Nat} (h : th a b = some v) : Clear P n (fun c d => c < n ∧ nx c = d) a b v := by
  obtain ⟨k1, k2, k3, _, _, l, fr⟩ := F.tri _ _ _ h
  have kb : ∀ c d, (c < n ∧ nx c = d) → K c d := fun c d h => by rw [← h.2]; exact F.bd c h.1
  exact ⟨F.fb _ _ k2, l, fr, fun c d k h1 h2 h3 h4 => F.cross _ _ _ _ k1 (kb c d k) h1.symm h2.symm h3.symm h4.symm, fun c d k h1 h2 h3 h4 => F.cross _ _ _ _ k2 (kb c d k) h1.symm h2.symm h3.symm h4.symm, fun c d k h1 h2 h3 h4 => F.cross _ _ _ _ k3 (kb c d k) h1.symm h2.symm h3.symm h4.symm⟩
theorem seen_clear (G : Bd P n nx pv) (F : Front P n nx pv K th) (full : Full K th) (two : ∀ a b v w, th a b = some v → th b a = some w → inc (P a) (P b) (P v) (P w) ≤ 0)
    {a b v w : Nat} (h : th a b = some v) (C : Clear P n (fun c d => c < n ∧ nx c = d) a b w) :
    inc (P a) (P b) (P v) (P w) ≤ 0 ∧ ((∀ a b v w, th a b = some v → th b a = some w → inc (P a) (P b) (P v) (P w) < 0) → v ≠ w → inc (P a) (P b) (P v) (P w) < 0) := by
  obtain ⟨k1, _⟩ := F.tri _ _ _ h
  have l := C.left
  have mA : 2 * D (mix (P a) (P b) (1 / 2)) (P w) (P a) = D (P a) (P b) (P w) := by unfold D mix; grind
  have mB : 2 * D (mix (P a) (P b) (1 / 2)) (P w) (P b) = - D (P a) (P b) (P w) := by unfold D mix; grind
  refine seen G F full two w C.lt ((sm (ahd P n K w (mix (P a) (P b) (1 / 2))) (n * n)).toNat + 1) a b v (mix (P a) (P b) (1 / 2)) (by omega) h l ?_ (by grind) (by grind) (clear_vis G.nl (F.fa _ _ k1) (F.fb _ _ k1) C)
  rw [D_mx, D_beg, D_end]; grind
theorem same_th (G : Bd P n nx pv) (F : Front P n nx pv K th) (full : Full K th) (str : ∀ a b v w, th a b = some v → th b a = some w → inc (P a) (P b) (P v) (P w) < 0)
    (F' : Front P n nx pv K' th') (full' : Full K' th') (two : ∀ a b v w, th' a b = some v → th' b a = some w → inc (P a) (P b) (P v) (P w) ≤ 0) {a b : Nat} (k : K a b) (k' : K' a b) : th a b = th' a b := by
  obtain ⟨v, hv⟩ := full _ _ k
  obtain ⟨v', hv'⟩ := full' _ _ k'
  by_cases e : v = v'
  · rw [hv, hv', e]
  · have h1 := (seen_clear G F full (fun a b v w p q => by have := str a b v w p q; grind) hv (tri_clear F' hv')).2 str e
    have h2 := (seen_clear G F' full' two hv' (tri_clear F hv)).1
    rw [inc_last] at h2
    grind
theorem one_mesh (G : Bd P n nx pv) (F : Front P n nx pv K th) (full : Full K th) (str : ∀ a b v w, th a b = some v → th b a = some w → inc (P a) (P b) (P v) (P w) < 0)
    (F' : Front P n nx pv K' th') (full' : Full K' th') (two : ∀ a b v w, th' a b = some v → th' b a = some w → inc (P a) (P b) (P v) (P w) ≤ 0) {a b v : Nat} (h : th a b = some v) (h1 : a < b) (h2 : a < v) : th' a b = some v := by
  have same := fun {a b : Nat} (k : K a b) (k' : K' a b) => same_th G F full str F' full' two k k'
  let tt : Nat → Nat → Option Nat := fun a b => if K' a b then th a b else none
  have tt_some : ∀ a b v, tt a b = some v → K' a b ∧ th a b = some v := fun a b v h => by
    by_cases k : K' a b
    · exact ⟨k, by have : tt a b = th a b := if_pos k; rw [← this]; exact h⟩
    · have : tt a b = none := if_neg k
      rw [this] at h; cases h
  have F2 : Front P n nx pv (fun a b => K a b ∧ K' a b) tt := by
    refine ⟨fun a b k => F.fa _ _ k.1, fun a b k => F.fb _ _ k.1, fun a b k => F.ne _ _ k.1, fun i hi => ⟨F.bd i hi, F'.bd i hi⟩, fun i hi k => F.nb i hi k.1, fun a b k e => ⟨F.pair _ _ k.1 e, F'.pair _ _ k.2 e⟩, fun a b c d k k' => F.cross _ _ _ _ k.1 k'.1, fun a b v k => F.off _ _ _ k.1, fun a b k => F.ins _ _ k.1, fun a b v h => ?_⟩
    obtain ⟨k', h⟩ := tt_some _ _ _ h
    obtain ⟨k1, k2, k3, t2, t3, l, fr⟩ := F.tri _ _ _ h
    have h' : th' a b = some v := by rw [← same k1 k']; exact h
    obtain ⟨_, q2, q3, _⟩ := F'.tri _ _ _ h'
    exact ⟨⟨k1, k'⟩, ⟨k2, q2⟩, ⟨k3, q3⟩, (if_pos q2).trans t2, (if_pos q3).trans t3, l, fr⟩
  have full2 : Full (fun a b => K a b ∧ K' a b) tt := fun a b k => by
    obtain ⟨v, hv⟩ := full _ _ k.1
    exact ⟨v, (if_pos k.2).trans hv⟩
  have c1 := count_front G F full
  have c2 := count_front G F2 full2
  have le : ∀ i, ls n tt i ≤ ls n th i := fun i => by
    unfold ls
    cases q : tt (i / n) (i % n) with
    | none => cases th (i / n) (i % n) <;> simp only <;> (try split) <;> omega
    | some u => rw [(tt_some _ _ _ q).2]; exact Int.le_refl _
  obtain ⟨k1, k2, _⟩ := F.tri _ _ _ h
  have ha := F.fa _ _ k1; have hb := F.fb _ _ k1
  have k' : K' a b := by
    by_cases k' : K' a b
    · exact k'
    exfalso
    have lt := sm_lt (f := ls n tt) (g := ls n th) (n := n * n) (fun i _ => le i) (code ha hb).1 (by
      have e1 := (code ha hb).2.1; have e2 := (code ha hb).2.2
      unfold ls
      rw [e1, e2, h, show tt a b = none from if_neg k']
      simp only
      rw [if_pos ⟨h1, h2⟩]
      decide)
    omega
  rw [← same k1 k']; exact h
end
end Jor
#print axioms Jor.one_mesh
end Go.Proofs.Ytdkaoopkbhaheaa
