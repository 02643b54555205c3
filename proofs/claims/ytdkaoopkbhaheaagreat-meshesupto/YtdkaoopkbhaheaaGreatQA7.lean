import Derived.Test.YtdkaoopkbhaheaaGreatPA5
import Derived.Test.YtdkaoopkbhaheaaGreatPB4
set_option maxHeartbeats 8000000
namespace Go.Proofs.YtdkaoopkbhaheaaGreat
open Go.RowKit
theorem parts_of (x : Int) : x = 4194304 * x.tdiv 4194304 + x.tmod 4194304 /\ -4194304 < x.tmod 4194304 /\ x.tmod 4194304 < 4194304 /\
  (0 <= x -> 0 <= x.tdiv 4194304 /\ 0 <= x.tmod 4194304) /\ (x <= 0 -> x.tdiv 4194304 <= 0 /\ x.tmod 4194304 <= 0) := by
 have h1 := Int.mul_tdiv_add_tmod x 4194304
 rcases Int.le_total 0 x with hx | hx
 ·have e1 : x.tdiv 4194304 = x / 4194304 := Int.tdiv_eq_ediv_of_nonneg hx
  have e2 : x.tmod 4194304 = x % 4194304 := Int.tmod_eq_emod_of_nonneg hx
  rw [e1, e2] at *
  omega
 ·have e1 : x.tdiv 4194304 = -((-x) / 4194304) := by
   have h : (-x).tdiv 4194304 = (-x) / 4194304 := Int.tdiv_eq_ediv_of_nonneg (by omega)
   rw [Int.neg_tdiv] at h
   omega
  have e2 : x.tmod 4194304 = -((-x) % 4194304) := by
   have h : (-x).tmod 4194304 = (-x) % 4194304 := Int.tmod_eq_emod_of_nonneg (by omega)
   rw [Int.neg_tmod] at h
   omega
  rw [e1, e2] at *
  omega
theorem product_parts (a b : Int) (ha : 0 <= a /\ a <= 8796093022208) (hb : -8796093022208 <= b /\ b <= 8796093022208) :
  a * b = pBig a b * 17592186044416 + pMid a b * 4194304 + pLow a b /\ (-4398046511104 <= pBig a b /\ pBig a b <= 4398046511104) /\ (-17592186044416 <= pMid a b /\ pMid a b <= 17592186044416) /\ (-17592186044416 <= pLow a b /\ pLow a b <= 17592186044416) := by
 obtain ⟨a1, a2, a3, a4, a5⟩ := parts_of a
 obtain ⟨b1, b2, b3, b4, b5⟩ := parts_of b
 have hq : -2097152 <= b.tdiv 4194304 /\ b.tdiv 4194304 <= 2097152 := by rcases Int.le_total 0 b with h | h <;> omega
 have hp : 0 <= a.tdiv 4194304 /\ a.tdiv 4194304 <= 2097152 := by omega
 unfold pBig pMid pLow
 rw [wrap64_in (a.tdiv 4194304) (by omega) (by omega), wrap64_in (b.tdiv 4194304) (by omega) (by omega)]
 generalize a.tdiv 4194304 = p at *
 generalize a.tmod 4194304 = r at *
 generalize b.tdiv 4194304 = q at *
 generalize b.tmod 4194304 = s at *
 have k1 := mul_bd p q 2097152 2097152 (by omega) (by omega) (by omega)
 have k2 := mul_bd p s 2097152 4194304 (by omega) (by omega) (by omega)
 have k3 := mul_bd r q 4194304 2097152 (by omega) (by omega) (by omega)
 have k4 := mul_bd r s 4194304 4194304 (by omega) (by omega) (by omega)
 have e : a * b = p * q * 17592186044416 + (p * s + r * q) * 4194304 + r * s := by
  rw [a1, b1]; grind
 rw [e]
 generalize p * q = x1 at *
 generalize p * s = x2 at *
 generalize r * q = x3 at *
 generalize r * s = x4 at *
 rw [wrap64_in x1 (by omega) (by omega), wrap64_in x2 (by omega) (by omega), wrap64_in x3 (by omega) (by omega), wrap64_in x4 (by omega) (by omega), wrap64_in (x2 + x3) (by omega) (by omega)]
 omega
theorem signOf_parts (a b c : Int) (ha : -17592186044416 <= a /\ a <= 17592186044416) (hb : -70368744177664 <= b /\ b <= 70368744177664) (hc : -70368744177664 <= c /\ c <= 70368744177664) :
  signOfW a b c = sgn (a * 17592186044416 + b * 4194304 + c) := by
 obtain ⟨c1, c2, c3, c4, c5⟩ := parts_of c
 have hq : -16777216 <= c.tdiv 4194304 /\ c.tdiv 4194304 <= 16777216 := by rcases Int.le_total 0 c with h | h <;> omega
 have e1 : wrap64 (b + wrap64 (c.tdiv 4194304)) = b + c.tdiv 4194304 := by
  rw [wrap64_in (c.tdiv 4194304) (by omega) (by omega), wrap64_in _ (by omega) (by omega)]
 obtain ⟨m1, m2, m3, m4, m5⟩ := parts_of (b + c.tdiv 4194304)
 have hm : -33554432 <= (b + c.tdiv 4194304).tdiv 4194304 /\ (b + c.tdiv 4194304).tdiv 4194304 <= 33554432 := by rcases Int.le_total 0 (b + c.tdiv 4194304) with h | h <;> omega
 have e2 : cBig a b c = a + (b + c.tdiv 4194304).tdiv 4194304 := by
  unfold cBig
  rw [e1, wrap64_in ((b + c.tdiv 4194304).tdiv 4194304) (by omega) (by omega), wrap64_in _ (by omega) (by omega)]
 have e3 : cMid b c = (b + c.tdiv 4194304).tmod 4194304 := by unfold cMid; rw [e1]
 have e4 : cLow c = c.tmod 4194304 := rfl
 unfold signOfW
 rw [e2, e3, e4]
 generalize (b + c.tdiv 4194304).tdiv 4194304 = M at *
 generalize (b + c.tdiv 4194304).tmod 4194304 = m at *
 generalize c.tdiv 4194304 = C at *
 generalize c.tmod 4194304 = l at *
 have ev : a * 17592186044416 + b * 4194304 + c = (a + M) * 17592186044416 + m * 4194304 + l := by omega
 rw [ev]
 generalize a + M = B at *
 by_cases h0 : B = 0
 ·rw [if_pos h0, wrap64_in (m * 4194304) (by omega) (by omega), wrap64_in _ (by omega) (by omega), h0]
  congr 1
  omega
 ·rw [if_neg h0]
  by_cases h1 : B = 1 \/ B = -1
  ·rw [if_pos h1, wrap64_in (B * 4194304) (by omega) (by omega), wrap64_in (B * 4194304 + m) (by omega) (by omega), wrap64_in ((B * 4194304 + m) * 4194304) (by omega) (by omega), wrap64_in _ (by omega) (by omega)]
   congr 1
   omega
  ·rw [if_neg h1]
   rcases Int.lt_or_le B 0 with h | h
   ·rw [sgn_neg h, sgn_neg (by omega)]
   ·rw [sgn_pos (by omega), sgn_pos (by omega)]
theorem squareW_eq (a b : Int) (ha : -2097152 <= a /\ a <= 2097152) (hb : -2097152 <= b /\ b <= 2097152) : squareW a b = a * a + b * b /\ 0 <= squareW a b /\ squareW a b <= 8796093022208 := by
 have k1 := mul_bd a a 2097152 2097152 (by omega) ha ha
 have k2 := mul_bd b b 2097152 2097152 (by omega) hb hb
 have n1 : 0 <= a * a := by
  rcases Int.le_total 0 a with h | h
  ·exact Int.mul_nonneg h h
  ·have := Int.mul_nonneg (show 0 <= -a by omega) (show 0 <= -a by omega)
   have e : -a * -a = a * a := Int.neg_mul_neg a a
   omega
 have n2 : 0 <= b * b := by
  rcases Int.le_total 0 b with h | h
  ·exact Int.mul_nonneg h h
  ·have := Int.mul_nonneg (show 0 <= -b by omega) (show 0 <= -b by omega)
   have e : -b * -b = b * b := Int.neg_mul_neg b b
   omega
 unfold squareW
 rw [wrap64_in (a * a) (by omega) (by omega), wrap64_in (b * b) (by omega) (by omega), wrap64_in _ (by omega) (by omega)]
 omega
theorem crossW_in (a b c d : Int) (ha : -2097152 <= a /\ a <= 2097152) (hb : -2097152 <= b /\ b <= 2097152) (hc : -2097152 <= c /\ c <= 2097152) (hd : -2097152 <= d /\ d <= 2097152) : -8796093022208 <= crossW a b c d /\ crossW a b c d <= 8796093022208 := by
 rw [crossW_eq a b c d ha hb hc hd]
 have k1 := mul_bd a d 2097152 2097152 (by omega) ha hd
 have k2 := mul_bd b c 2097152 2097152 (by omega) hb hc
 omega
theorem sums_sign (s1 s2 s3 t1 t2 t3 : Int) (h1 : 0 <= s1 /\ s1 <= 8796093022208) (h2 : 0 <= s2 /\ s2 <= 8796093022208) (h3 : 0 <= s3 /\ s3 <= 8796093022208)
  (k1 : -8796093022208 <= t1 /\ t1 <= 8796093022208) (k2 : -8796093022208 <= t2 /\ t2 <= 8796093022208) (k3 : -8796093022208 <= t3 /\ t3 <= 8796093022208) :
  signOf3 (add3 (add3 (add3 (0, 0, 0) s1 t1) s2 t2) s3 t3) = sgn (wrap128 (t1 * s1 + t2 * s2 + t3 * s3)) := by
 obtain ⟨e1, p1, q1, r1⟩ := product_parts s1 t1 h1 k1
 obtain ⟨e2, p2, q2, r2⟩ := product_parts s2 t2 h2 k2
 obtain ⟨e3, p3, q3, r3⟩ := product_parts s3 t3 h3 k3
 have m1 := mul_bd t1 s1 8796093022208 8796093022208 (by omega) k1 (by omega)
 have m2 := mul_bd t2 s2 8796093022208 8796093022208 (by omega) k2 (by omega)
 have m3 := mul_bd t3 s3 8796093022208 8796093022208 (by omega) k3 (by omega)
 rw [wrap128_in _ (by omega) (by omega)]
 unfold signOf3 add3
 simp only []
 rw [wrap64_in (0 + pBig s1 t1) (by omega) (by omega), wrap64_in (0 + pMid s1 t1) (by omega) (by omega), wrap64_in (0 + pLow s1 t1) (by omega) (by omega)]
 rw [wrap64_in (0 + pBig s1 t1 + pBig s2 t2) (by omega) (by omega), wrap64_in (0 + pMid s1 t1 + pMid s2 t2) (by omega) (by omega), wrap64_in (0 + pLow s1 t1 + pLow s2 t2) (by omega) (by omega)]
 rw [wrap64_in (0 + pBig s1 t1 + pBig s2 t2 + pBig s3 t3) (by omega) (by omega), wrap64_in (0 + pMid s1 t1 + pMid s2 t2 + pMid s3 t3) (by omega) (by omega), wrap64_in (0 + pLow s1 t1 + pLow s2 t2 + pLow s3 t3) (by omega) (by omega)]
 rw [signOf_parts _ _ _ (by omega) (by omega) (by omega)]
 have c1 : t1 * s1 = s1 * t1 := Int.mul_comm _ _
 have c2 : t2 * s2 = s2 * t2 := Int.mul_comm _ _
 have c3 : t3 * s3 = s3 * t3 := Int.mul_comm _ _
 rw [c1, c2, c3, e1, e2, e3]
 congr 1
 omega
def refCircle (ax ay bx bY cx cy dx dy : Int) : Int := signOf3 (csum3 (wrap64 (ax - dx)) (wrap64 (ay - dy)) (wrap64 (bx - dx)) (wrap64 (bY - dy)) (wrap64 (cx - dx)) (wrap64 (cy - dy)))
theorem circle_same (ax ay bx bY cx cy dx dy : Int) (ha : nearB ax ay = true) (hb : nearB bx bY = true) (hc : nearB cx cy = true) (hd : nearB dx dy = true) : circleW ax ay bx bY cx cy dx dy = refCircle ax ay bx bY cx cy dx dy := by
 have ha := near_bd ha
 have hb := near_bd hb
 have hc := near_bd hc
 have hd := near_bd hd
 unfold circleW refCircle part1 csum3 csum2 csum1
 rw [wrap64_in (ax - dx) (by omega) (by omega), wrap64_in (ay - dy) (by omega) (by omega), wrap64_in (bx - dx) (by omega) (by omega), wrap64_in (bY - dy) (by omega) (by omega), wrap64_in (cx - dx) (by omega) (by omega), wrap64_in (cy - dy) (by omega) (by omega)]
 exact (sums_sign _ _ _ _ _ _ (squareW_eq _ _ (by omega) (by omega)).2 (squareW_eq _ _ (by omega) (by omega)).2 (squareW_eq _ _ (by omega) (by omega)).2
  (crossW_in _ _ _ _ (by omega) (by omega) (by omega) (by omega)) (crossW_in _ _ _ _ (by omega) (by omega) (by omega) (by omega)) (crossW_in _ _ _ _ (by omega) (by omega) (by omega) (by omega))).symm
end Go.Proofs.YtdkaoopkbhaheaaGreat
