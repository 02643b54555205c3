/- From whole numbers to rational ones: rings of whole numbers whose edges share nothing that they may not wind around no point more than once. No Go in sight. -/
import Derived.Test.YtdkaoopkbhaheaaJ4
import Derived.Test.YtdkaoopkbhaheaaG0
namespace Go.Proofs.Ytdkaoopkbhaheaa
namespace Jor

abbrev IP := Int × Int
def toR (z : IP) : Pt := ((z.1 : Rat), (z.2 : Rat))
def DI (a b c : IP) : Int := Geo.D a.1 a.2 b.1 b.2 c.1 c.2
def OnI (p a b : IP) : Prop := Geo.On p.1 p.2 a.1 a.2 b.1 b.2
/-- Two segments share a point. -/
def MtI (q r a b : IP) : Prop := Geo.Over q.1 r.1 a.1 b.1 ∧ Geo.Over q.2 r.2 a.2 b.2 ∧ ¬ Geo.Same (DI q r a) (DI q r b) ∧ ¬ Geo.Same (DI a b q) (DI a b r)
def crI (q a b : IP) : Int := if a.2 ≤ q.2 ∧ q.2 < b.2 ∧ 0 < DI a b q then 1 else if b.2 ≤ q.2 ∧ q.2 < a.2 ∧ DI a b q < 0 then -1 else 0

theorem le_toR (a b : Int) : (a : Rat) ≤ (b : Rat) ↔ a ≤ b := Rat.intCast_le_intCast
theorem lt_toR (a b : Int) : (a : Rat) < (b : Rat) ↔ a < b := Rat.intCast_lt_intCast
theorem pos_toR (a : Int) : (0 : Rat) < (a : Rat) ↔ 0 < a := lt_toR 0 a
theorem neg_toR (a : Int) : (a : Rat) < 0 ↔ a < 0 := lt_toR a 0
theorem D_toR (a b c : IP) : D (toR a) (toR b) (toR c) = ((DI a b c : Int) : Rat) := by
  unfold D DI Geo.D toR
  simp only [Rat.intCast_sub, Rat.intCast_mul]
theorem cr_toR (q a b : IP) : cr (toR q) (toR a) (toR b) = crI q a b := by
  unfold cr crI
  rw [D_toR]
  simp only [toR, le_toR, lt_toR, pos_toR, neg_toR]
theorem Mt_toR (q r a b : IP) : Mt (toR q) (toR r) (toR a) (toR b) ↔ MtI q r a b := by
  unfold Mt MtI Over Same Geo.Over Geo.Same
  rw [D_toR, D_toR, D_toR, D_toR]
  simp only [toR, le_toR, pos_toR, neg_toR]

/-- A fold is an end of one edge on the other one. -/
theorem sq_nonneg_int (x : Int) : 0 ≤ x * x := by
  rcases Int.le_total 0 x with h | h
  · exact Int.mul_nonneg h h
  · have := Int.mul_nonneg (show 0 ≤ -x by omega) (show 0 ≤ -x by omega)
    have e : -x * -x = x * x := Int.neg_mul_neg x x
    omega
theorem btw_two (a1 a2 c1 c2 : Int) (hc : a1 * c2 = a2 * c1) (h1 : 0 < a1 * c1) : (Geo.Btw 0 a1 c1 ∧ Geo.Btw 0 a2 c2) ∨ (Geo.Btw 0 c1 a1 ∧ Geo.Btw 0 c2 a2) := by
  have hc1 : c1 ≠ 0 := fun e => by rw [e] at h1; simp at h1
  have ha1 : a1 ≠ 0 := fun e => by rw [e] at h1; simp at h1
  have hsame : (0 < a1 ∧ 0 < c1) ∨ (a1 < 0 ∧ c1 < 0) := by
    rcases Int.lt_or_le 0 a1 with h | h
    · rcases Int.lt_or_le 0 c1 with h' | h'
      · exact .inl ⟨h, h'⟩
      · have := Int.mul_nonneg (show 0 ≤ a1 by omega) (show 0 ≤ -c1 by omega)
        have e : a1 * -c1 = -(a1 * c1) := Int.mul_neg a1 c1
        omega
    · rcases Int.lt_or_le 0 c1 with h' | h'
      · have := Int.mul_nonneg (show 0 ≤ -a1 by omega) (show 0 ≤ c1 by omega)
        have e : -a1 * c1 = -(a1 * c1) := Int.neg_mul a1 c1
        omega
      · exact .inr ⟨by omega, by omega⟩
  have hb : Geo.Btw 0 a1 c1 ∨ Geo.Btw 0 c1 a1 := by unfold Geo.Btw; omega
  rcases hb with hb | hb
  · exact .inl ⟨hb, Geo.btw_of c1 a1 a2 c2 hc1 hb (by grind)⟩
  · exact .inr ⟨hb, Geo.btw_of a1 c1 c2 a2 ha1 hb (by grind)⟩
theorem fold_on (A B C : IP) (_hA : A ≠ B) (_hC : C ≠ B) (h : DI B A C = 0) (hd : 0 < (A.1 - B.1) * (C.1 - B.1) + (A.2 - B.2) * (C.2 - B.2)) : OnI A B C ∨ OnI C A B := by
  have hc : (A.1 - B.1) * (C.2 - B.2) = (A.2 - B.2) * (C.1 - B.1) := by unfold DI Geo.D at h; grind
  have e1 : DI B C A = 0 := by unfold DI Geo.D at *; grind
  have e2 : DI A B C = 0 := by unfold DI Geo.D at *; grind
  have key : (Geo.Btw 0 (A.1 - B.1) (C.1 - B.1) ∧ Geo.Btw 0 (A.2 - B.2) (C.2 - B.2)) ∨ (Geo.Btw 0 (C.1 - B.1) (A.1 - B.1) ∧ Geo.Btw 0 (C.2 - B.2) (A.2 - B.2)) := by
    rcases Int.lt_or_le 0 ((A.1 - B.1) * (C.1 - B.1)) with h1 | h1
    · exact btw_two _ _ _ _ hc h1
    · have h2 : 0 < (A.2 - B.2) * (C.2 - B.2) := by omega
      have k := btw_two (A.2 - B.2) (A.1 - B.1) (C.2 - B.2) (C.1 - B.1) (by grind) h2
      rcases k with k | k
      · exact .inl ⟨k.2, k.1⟩
      · exact .inr ⟨k.2, k.1⟩
  rcases key with ⟨k1, k2⟩ | ⟨k1, k2⟩
  · left
    exact ⟨e1, Geo.btw_shift.2 k1, Geo.btw_shift.2 k2⟩
  · right
    refine ⟨e2, ?_, ?_⟩
    · unfold Geo.Btw at *; omega
    · unfold Geo.Btw at *; omega
theorem Fold_toR (B A C : IP) (h : Fold (toR B) (toR A) (toR C)) : DI B A C = 0 ∧ 0 < (A.1 - B.1) * (C.1 - B.1) + (A.2 - B.2) * (C.2 - B.2) := by
  obtain ⟨h1, h2⟩ := h
  rw [D_toR] at h1
  refine ⟨by exact_mod_cast h1, ?_⟩
  rw [← pos_toR]
  simp only [Rat.intCast_add, Rat.intCast_mul, Rat.intCast_sub]
  exact h2

/-- A ring of whole numbers. -/
structure RingI (ps : Nat → IP) (n : Nat) : Prop where
  three : 3 ≤ n
  ne : ∀ k, ps (k % n) ≠ ps ((k + 1) % n)
  on1 : ∀ k, ¬ OnI (ps (k % n)) (ps ((k + 1) % n)) (ps ((k + 2) % n))
  on2 : ∀ k, ¬ OnI (ps ((k + 2) % n)) (ps (k % n)) (ps ((k + 1) % n))
  nm : ∀ i t, 2 ≤ t → t + 2 ≤ n → ¬ MtI (ps (i % n)) (ps ((i + 1) % n)) (ps ((i + t) % n)) (ps ((i + t + 1) % n))

theorem toR_inj {a b : IP} (h : toR a = toR b) : a = b := by
  have h1 := congrArg Prod.fst h
  have h2 := congrArg Prod.snd h
  simp only [toR] at h1 h2
  refine Prod.ext ?_ ?_
  · exact Rat.intCast_inj.1 h1
  · exact Rat.intCast_inj.1 h2
theorem RingI.ring {ps : Nat → IP} {n : Nat} (R : RingI ps n) : Ring (fun k => toR (ps (k % n))) n where
  three := R.three
  per := fun k => by simp only [Nat.add_mod_right]
  ne := fun k h => R.ne k (toR_inj h)
  nf := fun k h => by
    obtain ⟨h1, h2⟩ := Fold_toR _ _ _ h
    rcases fold_on _ _ _ (R.ne k) (fun e => R.ne (k + 1) e.symm) h1 h2 with h | h
    · exact R.on1 k h
    · exact R.on2 k h
  nm := fun i t h1 h2 h => R.nm i t h1 h2 ((Mt_toR _ _ _ _).1 h)

/-- How often a ring of whole numbers winds around a point. -/
def windI (ps : Nat → IP) (n : Nat) (p : IP) : Int := sm (fun j => crI p (ps (j % n)) (ps ((j + 1) % n))) n
theorem windI_one {ps : Nat → IP} {n : Nat} (R : RingI ps n) (p : IP) (off : ∀ j, ¬ OnI p (ps (j % n)) (ps ((j + 1) % n))) : -1 ≤ windI ps n p ∧ windI ps n p ≤ 1 := by
  have k := wind_one R.ring (toR p) (fun j hs hd => by
    apply off j
    rw [D_toR] at hd
    have hd' : DI (ps (j % n)) (ps ((j + 1) % n)) p = 0 := by exact_mod_cast hd
    simp only [span, toR, le_toR, lt_toR] at hs
    have hy : Geo.Btw (ps (j % n)).2 p.2 (ps ((j + 1) % n)).2 := by unfold Geo.Btw; omega
    refine ⟨hd', ?_, hy⟩
    have e : ((ps ((j + 1) % n)).2 - (ps (j % n)).2) * (p.1 - (ps (j % n)).1) = (p.2 - (ps (j % n)).2) * ((ps ((j + 1) % n)).1 - (ps (j % n)).1) := by unfold DI Geo.D at hd'; grind
    exact Geo.btw_shift.2 (Geo.btw_of _ _ _ _ (by omega) (by unfold Geo.Btw at *; omega) e))
  have e : wind (fun k => toR (ps (k % n))) n (toR p) = windI ps n p := by
    unfold wind windI
    exact sm_congr (fun j _ => cr_toR _ _ _)
  rw [e] at k
  exact k
#print axioms windI_one
end Jor
end Go.Proofs.Ytdkaoopkbhaheaa
