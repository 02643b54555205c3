/- Plain geometry over the rational numbers: the theorem: a ring winds around no point more than once. No Go in sight. -/
import Derived.Test.YtdkaoopkbhaheaaJ3
namespace Go.Proofs.Ytdkaoopkbhaheaa
namespace Jor

theorem sm_part (f : Nat → Int) (m : Nat) : sm f (m + 3) = f 0 + f 1 + sm (fun k => f (k + 2)) m + f (m + 2) := by
  rw [show m + 3 = (m + 2) + 1 from rfl, sm, sm_first f (m + 1), sm_first (fun k => f (k + 1)) m]
  show f 0 + (f 1 + sm (fun k => f (k + 2)) m) + f (m + 2) = _
  omega
theorem sm_zero (f : Nat → Int) (m : Nat) (h : ∀ k, k < m → f k = 0) : sm f m = 0 := by
  induction m with
  | zero => rfl
  | succ m ih => rw [sm, ih (fun k hk => h k (by omega)), h m (by omega)]; rfl
theorem cr_on {a b q : Pt} (h : D a b q = 0) : cr q a b = 0 := by
  unfold cr; rw [h, if_neg (by grind), if_neg (by grind)]

/-- What an edge through X adds for a point to the left of X. -/
theorem passes {a b p : Pt} {x : Rat} (hx : p.1 < x) (off : span a b p.2 → D a b p ≠ 0) (hmin : span a b p.2 → p.1 < xat a b p.2 → x ≤ xat a b p.2) :
    (Lies1 (x, p.2) a b ∧ cr p a b - cr (x, p.2) a b = dir a b) ∨ (¬ Lies1 (x, p.2) a b ∧ cr p a b - cr (x, p.2) a b = 0) := by
  by_cases hs : span a b p.2
  · have hne : a.2 ≠ b.2 := by unfold span at hs; grind
    have hd := D_xat a b p hne
    have ho := off hs
    have hp : xat a b p.2 ≠ p.1 := fun e => ho (by rw [hd, e]; grind)
    have hsx : span a b ((x, p.2) : Pt).2 := hs
    rw [cr_at hs, cr_at hsx]
    show (Lies1 (x, p.2) a b ∧ (if p.1 < xat a b p.2 then dir a b else 0) - (if x < xat a b p.2 then dir a b else 0) = dir a b) ∨ (¬ Lies1 (x, p.2) a b ∧ (if p.1 < xat a b p.2 then dir a b else 0) - (if x < xat a b p.2 then dir a b else 0) = 0)
    by_cases h1 : p.1 < xat a b p.2
    · have h2 := hmin hs h1
      by_cases h3 : xat a b p.2 = x
      · left
        refine ⟨⟨hs, h3⟩, ?_⟩
        rw [if_pos h1, if_neg (by grind)]; omega
      · right
        refine ⟨fun h => h3 h.x, ?_⟩
        rw [if_pos h1, if_pos (by grind)]; omega
    · right
      refine ⟨fun h => ?_, ?_⟩
      · have := h.x
        simp only [] at this
        grind
      · rw [if_neg h1, if_neg (by grind)]; rfl
  · right
    refine ⟨fun h => hs h.sp, ?_⟩
    rw [cr_no hs, cr_no (q := (x, p.2)) hs]; rfl

theorem edge_mod {v : Nat → Pt} {n : Nat} (R : Ring v n) (j : Nat) : v j = v (j % n) ∧ v (j + 1) = v (j % n + 1) := by
  refine ⟨per_mod R j, ?_⟩
  have h := per_mul R (j % n + 1) (j / n)
  rw [← h]
  congr 1
  have := Nat.mod_add_div j n
  omega

/-- Around a vertex: the ring winds as often as it does to the left of it, or once less. -/
theorem at_vertex {v : Nat → Pt} {n : Nat} (R : Ring v n) (m : Nat) : wind v n (v (m + 1)) = leftOf v n ∨ wind v n (v (m + 1)) = leftOf v n - 1 := by
  have h := left_all R m
  rcases ahead_01 (v m) (v (m + 1)) (v (m + 2)) with e | e <;> rw [e] at h <;> omega

theorem lies_out {X y : Pt} : Lies1 X X y ↔ X.2 < y.2 := by
  constructor
  · intro h
    have := h.sp
    unfold span at this
    grind
  · intro h
    refine ⟨.inl ⟨Rat.le_refl, h⟩, ?_⟩
    unfold xat
    have : (X.2 - X.2) / (y.2 - X.2) = 0 := by rw [show X.2 - X.2 = 0 by grind, Rat.div_def]; grind
    rw [this]; grind
theorem lies_in {X a : Pt} : Lies1 X a X ↔ X.2 < a.2 := by
  constructor
  · intro h
    have := h.sp
    unfold span at this
    grind
  · intro h
    refine ⟨.inr ⟨Rat.le_refl, h⟩, ?_⟩
    unfold xat
    have : (X.2 - a.2) / (X.2 - a.2) = 1 := by
      have k : (X.2 - a.2) / (X.2 - a.2) * (X.2 - a.2) = X.2 - a.2 := Rat.div_mul_cancel (by grind)
      have hne : X.2 - a.2 ≠ 0 := by grind
      generalize (X.2 - a.2) / (X.2 - a.2) = s at *
      have : (s - 1) * (X.2 - a.2) = 0 := by grind
      have := Rat.mul_eq_zero.1 this
      grind
    rw [this]; grind

/-- Through the part of an edge up to a point of it: the ring winds around that point as it does to the left, less what the edge's direction takes. -/
theorem at_inner {v : Nat → Pt} {n : Nat} (R : Ring v n) (m : Nat) (X : Pt) (hL : Lies1 X (v (m + 1)) (v (m + 2))) (hB : X ≠ v (m + 1)) (hC : X ≠ v (m + 2)) : wind v n X = leftOf v n - kap (v (m + 1)) X := by
  have hl := left_all R m
  obtain ⟨hd, bx, byy⟩ := hL.on
  have hp := hL.not_low hB
  have hBX : v (m + 1) ≠ X := fun e => hB e.symm
  have nf := R.nf m
  have scale : ∀ z : Pt, ((v (m + 2)).2 - (v (m + 1)).2) * D (v (m + 1)) X z = (X.2 - (v (m + 1)).2) * D (v (m + 1)) (v (m + 2)) z := by intro z; unfold D at *; grind
  have nfX : ¬ Fold (v (m + 1)) (v m) X := by
    rintro ⟨f1, f2⟩
    apply nf
    have k1 := scale (v m)
    have e1 : D (v (m + 1)) (v m) X = - D (v (m + 1)) X (v m) := by unfold D; grind
    have e2 : D (v (m + 1)) (v m) (v (m + 2)) = - D (v (m + 1)) (v (m + 2)) (v m) := by unfold D; grind
    have hx0 : X.2 - (v (m + 1)).2 ≠ 0 := fun e => by rw [e] at hp; grind
    refine ⟨?_, ?_⟩
    · have z : D (v (m + 1)) X (v m) = 0 := by grind
      rw [z] at k1
      have := Rat.mul_eq_zero.1 (show (X.2 - (v (m + 1)).2) * D (v (m + 1)) (v (m + 2)) (v m) = 0 by grind)
      grind
    · have k : ((v (m + 2)).2 - (v (m + 1)).2) * (((v m).1 - (v (m + 1)).1) * (X.1 - (v (m + 1)).1) + ((v m).2 - (v (m + 1)).2) * (X.2 - (v (m + 1)).2)) = (X.2 - (v (m + 1)).2) * (((v m).1 - (v (m + 1)).1) * ((v (m + 2)).1 - (v (m + 1)).1) + ((v m).2 - (v (m + 1)).2) * ((v (m + 2)).2 - (v (m + 1)).2)) := by unfold D at hd; grind
      exact ((sign_scale hp k).1).2 f2
  have hb := begins (v m) (v (m + 1)) X hBX (R.ne m) nfX
  -- the direction is the edge's
  have hah : ahead (v m) (v (m + 1)) X = ahead (v m) (v (m + 1)) (v (m + 2)) := by
    have s1 := sign_scale hp (scale (v m))
    have c1 := cross_eq (v m) (v (m + 1)) X
    have c2 := cross_eq (v m) (v (m + 1)) (v (m + 2))
    have u1 : (sub X (v (m + 1))).2 = X.2 - (v (m + 1)).2 := rfl
    have u2 : (sub (v (m + 2)) (v (m + 1))).2 = (v (m + 2)).2 - (v (m + 1)).2 := rfl
    have hx0 : X.2 - (v (m + 1)).2 ≠ 0 := fun e => by rw [e] at hp; grind
    have hc0 : (v (m + 2)).2 - (v (m + 1)).2 ≠ 0 := fun e => by rw [e] at hp; grind
    have sy : 0 < X.2 - (v (m + 1)).2 ↔ 0 < (v (m + 2)).2 - (v (m + 1)).2 := by
      constructor
      · intro h; exact pos_of_mul h hp
      · intro h; exact pos_of_mul h (by grind)
    have key : lt (sub X (v (m + 1))) (sub (v m) (v (m + 1))) ↔ lt (sub (v (m + 2)) (v (m + 1))) (sub (v m) (v (m + 1))) := by
      unfold lt
      rw [c1, c2, u1, u2, ← s1.1]
      grind
    unfold ahead
    by_cases h : lt (sub X (v (m + 1))) (sub (v m) (v (m + 1)))
    · rw [if_pos h, if_pos (key.1 h)]
    · rw [if_neg h, if_neg (fun h' => h (key.2 h'))]
  have hs0 : sw (v (m + 1)) X (v (m + 2)) = 0 := by
    have z1 : D (v (m + 1)) X (v (m + 2)) = 0 := by unfold D at *; grind
    have z2 : D X (v (m + 1)) (v (m + 2)) = 0 := by unfold D at *; grind
    unfold sw str
    rw [z1, z2, if_neg (c := (v (m + 1)).2 < (v (m + 2)).2 ∧ _) (by grind), if_neg (c := X.2 < (v (m + 2)).2 ∧ _) (by grind)]
    split <;> rfl
  -- the sums
  have hw : wind v n (v (m + 1)) - wind v n X = sw (v (m + 1)) X (v m) - sw (v (m + 1)) X (v (m + 2)) - cr X (v m) (v (m + 1)) := by
    rw [wind_from R (v (m + 1)) (m + 1), wind_from R X (m + 1)]
    obtain ⟨k, rfl⟩ : ∃ k, n = k + 3 := ⟨n - 3, by have := R.three; omega⟩
    rw [sm_part, sm_part]
    have far : sm (fun t => cr (v (m + 1)) (v (m + 1 + (t + 2))) (v (m + 1 + (t + 2) + 1))) k - sm (fun t => cr X (v (m + 1 + (t + 2))) (v (m + 1 + (t + 2) + 1))) k = sw (v (m + 1)) X (v (m + 3 + k)) - sw (v (m + 1)) X (v (m + 3 + 0)) := by
      rw [← sm_sub, ← sm_tele (fun t => sw (v (m + 1)) X (v (m + 3 + t))) k]
      refine sm_congr (fun t ht => ?_)
      have hn : ¬ Mt (v (m + 1)) X (v (m + 1 + (t + 2))) (v (m + 1 + (t + 2) + 1)) := fun h => R.nm (m + 1) (t + 2) (by omega) (by omega) (part_meets hL hB h)
      rw [show m + 1 + (t + 2) = m + 3 + t by omega, show m + 3 + t + 1 = m + 3 + (t + 1) by omega] at hn ⊢
      exact sweep hn
    have nx := sweep (part_next hL hB hC (R.nf (m + 1)))
    have l1 : v (m + 3 + k) = v m := by rw [show m + 3 + k = m + (k + 3) by omega]; exact R.per m
    have l2 : v (m + 1 + (k + 2)) = v m := by rw [show m + 1 + (k + 2) = m + (k + 3) by omega]; exact R.per m
    have l3 : v (m + 1 + (k + 2) + 1) = v (m + 1) := by rw [show m + 1 + (k + 2) + 1 = m + 1 + (k + 3) by omega]; exact R.per (m + 1)
    rw [l1] at far
    rw [l2, l3]
    have z1 := cr_begin (v (m + 1)) (v (m + 2))
    have z2 := cr_on hd
    have z4 := cr_end (v m) (v (m + 1))
    simp only [Nat.add_zero, Nat.add_assoc, Nat.reduceAdd] at *
    omega
  rw [hah] at hb
  omega

/-- A RING WINDS AROUND NO POINT MORE THAN ONCE. -/
theorem wind_small {v : Nat → Pt} {n : Nat} (R : Ring v n) (p : Pt) (off : ∀ j, span (v j) (v (j + 1)) p.2 → D (v j) (v (j + 1)) p ≠ 0) :
    wind v n p = 0 ∨ wind v n p = leftOf v n ∨ wind v n p = leftOf v n - 1 := by
  rcases least (fun j => xat (v j) (v (j + 1)) p.2) (fun j => span (v j) (v (j + 1)) p.2 ∧ p.1 < xat (v j) (v (j + 1)) p.2) n with h | ⟨i, hi, ⟨hs, hx⟩, hmin⟩
  · left
    unfold wind
    refine sm_zero _ _ (fun k hk => ?_)
    by_cases hs : span (v k) (v (k + 1)) p.2
    · rw [cr_at hs, if_neg (fun hx => h k hk ⟨hs, hx⟩)]
    · exact cr_no hs
  · right
    have hmin' : ∀ j, span (v j) (v (j + 1)) p.2 → p.1 < xat (v j) (v (j + 1)) p.2 → xat (v i) (v (i + 1)) p.2 ≤ xat (v j) (v (j + 1)) p.2 := by
      intro j h1 h2
      obtain ⟨e1, e2⟩ := edge_mod R j
      rw [e1, e2] at h1 h2 ⊢
      exact hmin (j % n) (Nat.mod_lt _ (by omega)) ⟨h1, h2⟩
    have hXi : Lies1 (xat (v i) (v (i + 1)) p.2, p.2) (v i) (v (i + 1)) := ⟨hs, rfl⟩
    generalize hX : ((xat (v i) (v (i + 1)) p.2, p.2) : Pt) = X at *
    have hX2 : X.2 = p.2 := by rw [← hX]
    have T : ∀ j, (Lies1 X (v j) (v (j + 1)) ∧ cr p (v j) (v (j + 1)) - cr X (v j) (v (j + 1)) = dir (v j) (v (j + 1))) ∨ (¬ Lies1 X (v j) (v (j + 1)) ∧ cr p (v j) (v (j + 1)) - cr X (v j) (v (j + 1)) = 0) := by
      intro j
      have := passes (a := v j) (b := v (j + 1)) hx (off j) (hmin' j)
      rw [hX] at this
      exact this
    obtain ⟨k, rfl⟩ : ∃ k, n = k + 3 := ⟨n - 3, by have := R.three; omega⟩
    by_cases hv : ∃ m, v (m + 1) = X
    · obtain ⟨m, hm⟩ := hv
      have hsum : wind v (k + 3) p - wind v (k + 3) X = (cr p (v (m + 1)) (v (m + 2)) - cr X (v (m + 1)) (v (m + 2))) + (cr p (v m) (v (m + 1)) - cr X (v m) (v (m + 1))) := by
        rw [wind_from R p (m + 1), wind_from R X (m + 1), ← sm_sub, sm_part]
        have f1 : cr p (v (m + 1 + 1)) (v (m + 1 + 1 + 1)) - cr X (v (m + 1 + 1)) (v (m + 1 + 1 + 1)) = 0 := by
          rcases T (m + 1 + 1) with ⟨hl, _⟩ | ⟨_, h⟩
          · exfalso
            have hne : X ≠ v (m + 2) := fun e => R.ne (m + 1) (hm.trans e)
            have hf := fold_of (A := X) (B := v (m + 2)) (C := v (m + 3)) (by have := hl.on.1; unfold D at *; grind) (hl.not_low hne)
            rw [← hm] at hf
            exact R.nf (m + 1) hf
          · exact h
        have f2 : sm (fun t => cr p (v (m + 1 + (t + 2))) (v (m + 1 + (t + 2) + 1)) - cr X (v (m + 1 + (t + 2))) (v (m + 1 + (t + 2) + 1))) k = 0 := by
          refine sm_zero _ _ (fun t ht => ?_)
          rcases T (m + 1 + (t + 2)) with ⟨hl, _⟩ | ⟨_, h⟩
          · exfalso
            have := meets_end (b := v (m + 2)) hl
            rw [← hm] at this
            exact R.nm (m + 1) (t + 2) (by omega) (by omega) this
          · exact h
        have l2 : v (m + 1 + (k + 2)) = v m := by rw [show m + 1 + (k + 2) = m + (k + 3) by omega]; exact R.per m
        have l3 : v (m + 1 + (k + 2) + 1) = v (m + 1) := by rw [show m + 1 + (k + 2) + 1 = m + 1 + (k + 3) by omega]; exact R.per (m + 1)
        rw [f1, f2, l2, l3]
        simp only [Nat.add_zero, Nat.add_assoc, Nat.reduceAdd]
        omega
      have hl := left_all R m
      have t1 := T (m + 1)
      have t2 := T m
      have hav := at_vertex R m
      simp only [Nat.add_assoc, Nat.reduceAdd] at t1
      rw [hm] at hl t1 t2 hsum hav
      rw [lies_out] at t1
      rw [lies_in] at t2
      have d1 : X.2 < (v (m + 2)).2 → dir X (v (m + 2)) = 1 := fun h => by unfold dir; rw [if_pos h]
      have d2 : X.2 < (v m).2 → dir (v m) X = -1 := fun h => by unfold dir; rw [if_neg (by grind)]
      have s1 : (sub (v (m + 2)) X).2 = (v (m + 2)).2 - X.2 := rfl
      have s2 : (sub (v m) X).2 = (v m).2 - X.2 := rfl
      by_cases h1 : X.2 < (v (m + 2)).2
      · have w1 := (t1.resolve_right (fun h => h.1 h1)).2
        rw [d1 h1] at w1
        by_cases h2 : X.2 < (v m).2
        · have w2 := (t2.resolve_right (fun h => h.1 h2)).2
          rw [d2 h2] at w2
          omega
        · have w2 := (t2.resolve_left (fun h => h2 h.1)).2
          have ha : ahead (v m) X (v (m + 2)) = 1 := by
            unfold ahead lt
            rw [s1, s2, if_pos (by grind)]
          omega
      · have w1 := (t1.resolve_left (fun h => h1 h.1)).2
        by_cases h2 : X.2 < (v m).2
        · have w2 := (t2.resolve_right (fun h => h.1 h2)).2
          rw [d2 h2] at w2
          have ha : ahead (v m) X (v (m + 2)) = 0 := by
            unfold ahead lt
            rw [s1, s2, if_neg (by grind)]
          omega
        · have w2 := (t2.resolve_left (fun h => h2 h.1)).2
          omega
    · -- the edge's inner part
      have nv : ∀ j, X ≠ v j := fun j e => hv ⟨j + (k + 2), by rw [show j + (k + 2) + 1 = j + (k + 3) by omega, R.per]; exact e.symm⟩
      have e1 : v (i + (k + 2) + 1) = v i := by rw [show i + (k + 2) + 1 = i + (k + 3) by omega]; exact R.per i
      have e2 : v (i + (k + 2) + 2) = v (i + 1) := by rw [show i + (k + 2) + 2 = i + 1 + (k + 3) by omega]; exact R.per (i + 1)
      obtain ⟨m, hm⟩ : ∃ m, m = i + (k + 2) := ⟨_, rfl⟩
      rw [← hm] at e1 e2
      rw [← e1, ← e2] at hXi
      have hin := at_inner R m X hXi (nv _) (nv _)
      have hsum : wind v (k + 3) p - wind v (k + 3) X = dir (v (m + 1)) (v (m + 2)) := by
        rw [wind_from R p (m + 1), wind_from R X (m + 1), ← sm_sub, sm_part]
        have f0 : cr p (v (m + 1 + 0)) (v (m + 1 + 0 + 1)) - cr X (v (m + 1 + 0)) (v (m + 1 + 0 + 1)) = dir (v (m + 1)) (v (m + 2)) := by
          rcases T (m + 1) with ⟨_, h⟩ | ⟨hl, _⟩
          · exact h
          · exact absurd hXi hl
        have f1 : cr p (v (m + 1 + 1)) (v (m + 1 + 1 + 1)) - cr X (v (m + 1 + 1)) (v (m + 1 + 1 + 1)) = 0 := by
          rcases T (m + 1 + 1) with ⟨hl, _⟩ | ⟨_, h⟩
          · exfalso
            have z := hXi.on.1
            exact R.nf (m + 1) (fold_two (z := X) (by unfold D at *; grind) (hXi.not_high (nv _)) hl.on.1 (hl.not_low (nv _)))
          · exact h
        have f2 : sm (fun t => cr p (v (m + 1 + (t + 2))) (v (m + 1 + (t + 2) + 1)) - cr X (v (m + 1 + (t + 2))) (v (m + 1 + (t + 2) + 1))) k = 0 := by
          refine sm_zero _ _ (fun t ht => ?_)
          rcases T (m + 1 + (t + 2)) with ⟨hl, _⟩ | ⟨_, h⟩
          · exact absurd (meets_span hXi hl) (R.nm (m + 1) (t + 2) (by omega) (by omega))
          · exact h
        have l2 : v (m + 1 + (k + 2)) = v m := by rw [show m + 1 + (k + 2) = m + (k + 3) by omega]; exact R.per m
        have l3 : v (m + 1 + (k + 2) + 1) = v (m + 1) := by rw [show m + 1 + (k + 2) + 1 = m + 1 + (k + 3) by omega]; exact R.per (m + 1)
        have f3 : cr p (v m) (v (m + 1)) - cr X (v m) (v (m + 1)) = 0 := by
          rcases T m with ⟨hl, _⟩ | ⟨_, h⟩
          · exfalso
            have z := hl.on.1
            exact R.nf m (fold_two (z := X) (by unfold D at *; grind) (hl.not_high (nv _)) hXi.on.1 (hXi.not_low (nv _)))
          · exact h
        rw [f0, f1, f2, l2, l3, f3]
        omega
      have hs' := hXi.sp
      have hy := hXi.not_low (nv _)
      rcases hs' with ⟨u1, u2⟩ | ⟨u1, u2⟩
      · have hk : kap (v (m + 1)) X = 1 := by
          unfold kap
          have : X.2 ≠ (v (m + 1)).2 := fun e => by rw [e] at hy; grind
          rw [if_pos (by grind)]
        have hd : dir (v (m + 1)) (v (m + 2)) = 1 := by unfold dir; rw [if_pos (by grind)]
        omega
      · have hk : kap (v (m + 1)) X = 0 := by unfold kap; rw [if_neg (by grind)]
        have hd : dir (v (m + 1)) (v (m + 2)) = -1 := by unfold dir; rw [if_neg (by grind)]
        omega

theorem wind_one {v : Nat → Pt} {n : Nat} (R : Ring v n) (p : Pt) (off : ∀ j, span (v j) (v (j + 1)) p.2 → D (v j) (v (j + 1)) p ≠ 0) :
    -1 ≤ wind v n p ∧ wind v n p ≤ 1 := by
  have h1 := wind_small R p off
  have h2 := left_01 R
  omega
#print axioms wind_one
end Jor
end Go.Proofs.Ytdkaoopkbhaheaa
