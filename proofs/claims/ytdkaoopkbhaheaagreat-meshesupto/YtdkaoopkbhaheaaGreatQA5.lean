import Derived.Test.YtdkaoopkbhaheaaGreatQA4
namespace Go.Proofs.YtdkaoopkbhaheaaGreat
open Go.RowKit
def pBig (a b : Int) : Int := wrap64 (wrap64 (a.tdiv 4194304) * wrap64 (b.tdiv 4194304))
def pMid (a b : Int) : Int := wrap64 (wrap64 (wrap64 (a.tdiv 4194304) * b.tmod 4194304) + wrap64 (a.tmod 4194304 * wrap64 (b.tdiv 4194304)))
def pLow (a b : Int) : Int := wrap64 (a.tmod 4194304 * b.tmod 4194304)
set_option maxHeartbeats 400000 in
theorem refProduct_any (a b : Int) (w : World) :
    Calls Tryz.prog 60 #[.int .i64 a, .int .i64 b] w fun e w' => e = .returned (.agg #[.int .i64 (pBig a b), .int .i64 (pMid a b), .int .i64 (pLow a b)]) ∧ Below w.heap.size w w' := by
  go_enter Tryz.func60, Tryz.ntmps60
  go_wp2
  exact bodyPost_ret (v := .agg #[.int .i64 (pBig a b), .int .i64 (pMid a b), .int .i64 (pLow a b)]) (by simp [results, Tryz.results60, go_sem, pBig, pMid, pLow]) rfl ⟨rfl, (Below.refl _ _).alloc (Nat.le_refl _) _⟩
set_option maxHeartbeats 400000 in
theorem refAdd_any (a b c d e f : Int) (w : World) :
    Calls Tryz.prog 59 #[.agg #[.int .i64 a, .int .i64 b, .int .i64 c], .agg #[.int .i64 d, .int .i64 e, .int .i64 f]] w fun r w' => r = .returned (.agg #[.int .i64 (wrap64 (a + d)), .int .i64 (wrap64 (b + e)), .int .i64 (wrap64 (c + f))]) ∧ Below w.heap.size w w' := by
  go_enter Tryz.func59, Tryz.ntmps59
  go_wp2
  exact bodyPost_ret (v := .agg #[.int .i64 (wrap64 (a + d)), .int .i64 (wrap64 (b + e)), .int .i64 (wrap64 (c + f))]) (by simp [results, Tryz.results59, go_sem]) rfl ⟨rfl, (((Below.refl _ _).alloc (Nat.le_refl _) _).alloc (by simp) _).alloc (by simp; omega) _⟩
def cBig (a b c : Int) : Int := wrap64 (a + wrap64 ((wrap64 (b + wrap64 (c.tdiv 4194304))).tdiv 4194304))
def cMid (b c : Int) : Int := (wrap64 (b + wrap64 (c.tdiv 4194304))).tmod 4194304
def cLow (c : Int) : Int := c.tmod 4194304
def signOfW (a b c : Int) : Int :=
  if cBig a b c = 0 then sgn (wrap64 (wrap64 (cMid b c * 4194304) + cLow c))
  else if cBig a b c = 1 ∨ cBig a b c = -1 then sgn (wrap64 (wrap64 (wrap64 (wrap64 (cBig a b c * 4194304) + cMid b c) * 4194304) + cLow c))
  else sgn (cBig a b c)
set_option maxHeartbeats 400000 in
theorem signOf_zero (a b c : Int) (w : World) (h0 : cBig a b c = 0) :
    Calls Tryz.prog 61 #[.agg #[.int .i64 a, .int .i64 b, .int .i64 c]] w fun r w' => r = .returned (.int .i64 (signOfW a b c)) ∧ Below w.heap.size w w' := by
  have hs : Hid (sgn (wrap64 (wrap64 ((wrap64 (b + wrap64 (c.tdiv 4194304))).tmod 4194304 * 4194304) + c.tmod 4194304)) = signOfW a b c) := by
    unfold signOfW; rw [if_pos h0]; rfl
  have g0 : (wrap64 (a + wrap64 ((wrap64 (b + wrap64 (c.tdiv 4194304))).tdiv 4194304)) == 0) = true := by simp only [beq_iff_eq]; exact h0
  clear h0
  go_enter Tryz.func61, Tryz.ntmps61
  go_wp2_with fail
  refine (refsign_any _ _).mono ?_
  rintro e w1 ⟨rfl, hw1⟩
  rw [hw1]
  go_wp2_with fail
  go_ret
  exact ⟨ret_int hs.out, (Below.refl _ _).alloc (Nat.le_refl _) _⟩
set_option maxHeartbeats 400000 in
theorem signOf_one (a b c : Int) (w : World) (h1 : cBig a b c = 1) :
    Calls Tryz.prog 61 #[.agg #[.int .i64 a, .int .i64 b, .int .i64 c]] w fun r w' => r = .returned (.int .i64 (signOfW a b c)) ∧ Below w.heap.size w w' := by
  have hs : Hid (sgn (wrap64 (wrap64 (wrap64 (wrap64 (wrap64 (a + wrap64 ((wrap64 (b + wrap64 (c.tdiv 4194304))).tdiv 4194304)) * 4194304) + (wrap64 (b + wrap64 (c.tdiv 4194304))).tmod 4194304) * 4194304) + c.tmod 4194304)) = signOfW a b c) := by
    unfold signOfW
    rw [if_neg (by omega), if_pos (.inl h1)]
    rfl
  have g1 : (wrap64 (a + wrap64 ((wrap64 (b + wrap64 (c.tdiv 4194304))).tdiv 4194304)) == 1) = true := by simp only [beq_iff_eq]; exact h1
  clear h1
  go_enter Tryz.func61, Tryz.ntmps61
  go_wp2_with fail
  refine (refsign_any _ _).mono ?_
  rintro e w1 ⟨rfl, hw1⟩
  rw [hw1]
  go_wp2_with fail
  go_ret
  exact ⟨ret_int hs.out, (Below.refl _ _).alloc (Nat.le_refl _) _⟩
set_option maxHeartbeats 400000 in
theorem signOf_minus (a b c : Int) (w : World) (h1 : cBig a b c = -1) :
    Calls Tryz.prog 61 #[.agg #[.int .i64 a, .int .i64 b, .int .i64 c]] w fun r w' => r = .returned (.int .i64 (signOfW a b c)) ∧ Below w.heap.size w w' := by
  have hs : Hid (sgn (wrap64 (wrap64 (wrap64 (-4194304 + (wrap64 (b + wrap64 (c.tdiv 4194304))).tmod 4194304) * 4194304) + c.tmod 4194304)) = signOfW a b c) := by
    unfold signOfW
    rw [if_neg (by omega), if_pos (.inr h1), h1, wrap64_in (-1 * 4194304) (by omega) (by omega)]
    rfl
  have g1 : wrap64 (a + wrap64 ((wrap64 (b + wrap64 (c.tdiv 4194304))).tdiv 4194304)) = -1 := h1
  clear h1
  go_enter Tryz.func61, Tryz.ntmps61
  go_wp2_with fail
  refine (refsign_any _ _).mono ?_
  rintro e w1 ⟨rfl, hw1⟩
  rw [hw1]
  go_wp2_with fail
  go_ret
  exact ⟨ret_int hs.out, (Below.refl _ _).alloc (Nat.le_refl _) _⟩
set_option maxHeartbeats 400000 in
theorem signOf_great (a b c : Int) (w : World) (h0 : cBig a b c ≠ 0) (h1 : cBig a b c ≠ 1) (h2 : cBig a b c ≠ -1) :
    Calls Tryz.prog 61 #[.agg #[.int .i64 a, .int .i64 b, .int .i64 c]] w fun r w' => r = .returned (.int .i64 (signOfW a b c)) ∧ Below w.heap.size w w' := by
  have hs : Hid (sgn (wrap64 (a + wrap64 ((wrap64 (b + wrap64 (c.tdiv 4194304))).tdiv 4194304))) = signOfW a b c) := by
    unfold signOfW; rw [if_neg h0, if_neg (by omega)]; rfl
  have g0 : (wrap64 (a + wrap64 ((wrap64 (b + wrap64 (c.tdiv 4194304))).tdiv 4194304)) == 0) = false := by simp only [beq_eq_false_iff_ne]; exact h0
  have g1 : (wrap64 (a + wrap64 ((wrap64 (b + wrap64 (c.tdiv 4194304))).tdiv 4194304)) == 1) = false := by simp only [beq_eq_false_iff_ne]; exact h1
  have g2 : (wrap64 (a + wrap64 ((wrap64 (b + wrap64 (c.tdiv 4194304))).tdiv 4194304)) == -1) = false := by simp only [beq_eq_false_iff_ne]; exact h2
  clear h0 h1 h2
  go_enter Tryz.func61, Tryz.ntmps61
  go_wp2_with fail
  refine (refsign_any _ _).mono ?_
  rintro e w1 ⟨rfl, hw1⟩
  rw [hw1]
  go_wp2_with fail
  go_ret
  exact ⟨ret_int hs.out, (Below.refl _ _).alloc (Nat.le_refl _) _⟩
theorem signOf_any (a b c : Int) (w : World) :
    Calls Tryz.prog 61 #[.agg #[.int .i64 a, .int .i64 b, .int .i64 c]] w fun r w' => r = .returned (.int .i64 (signOfW a b c)) ∧ Below w.heap.size w w' := by
  by_cases h0 : cBig a b c = 0
  · exact signOf_zero a b c w h0
  · by_cases h1 : cBig a b c = 1
    · exact signOf_one a b c w h1
    · by_cases h2 : cBig a b c = -1
      · exact signOf_minus a b c w h2
      · exact signOf_great a b c w h0 h1 h2
end Go.Proofs.YtdkaoopkbhaheaaGreat
