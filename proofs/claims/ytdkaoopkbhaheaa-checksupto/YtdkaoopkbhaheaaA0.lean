/- Plain numbers: what two halves of 64 bits say of a whole number. No Go in sight. -/
import Derived.WalkKit
namespace Go.Proofs.Ytdkaoopkbhaheaa
open Go.RowKit

/-- The upper and the lower half of a number, in two's complement of 128 bits. -/
def hi (n : Int) : Int := (n / 18446744073709551616) % 18446744073709551616
def lo (n : Int) : Int := n % 18446744073709551616
/-- What a number of 128 bits holds of n. -/
def wrap128 (n : Int) : Int := (n + 170141183460469231731687303715884105728) % 340282366920938463463374607431768211456 - 170141183460469231731687303715884105728
def mulHi (x y : Int) : Int := x * y / 18446744073709551616
def mulLo (x y : Int) : Int := x * y % 18446744073709551616
def car (n m : Int) : Int := (lo n + lo m) / 18446744073709551616
def car2 (n m : Int) : Int := (hi n + hi m + car n m) / 18446744073709551616

theorem lo_bd (n : Int) : 0 ≤ lo n ∧ lo n < 18446744073709551616 := by unfold lo; omega
theorem hi_bd (n : Int) : 0 ≤ hi n ∧ hi n < 18446744073709551616 := by unfold hi; omega
theorem car_bd (n m : Int) : 0 ≤ car n m ∧ car n m ≤ 1 := by unfold car lo; omega
theorem lo_add (n m : Int) : (lo n + lo m + 0) % 18446744073709551616 = lo (n + m) := by unfold lo; omega
theorem hi_add (n m : Int) : (hi n + hi m + car n m) % 18446744073709551616 = hi (n + m) := by
  unfold hi car lo; omega
theorem wrap_u64 (a : Int) : IntKind.u64.wrap a = a % 18446744073709551616 := by rw [IntKind.wrap_u64]
theorem lo_mul (a b : Int) : mulLo (IntKind.u64.wrap a) (IntKind.u64.wrap b) = lo (a * b) := by
  rw [wrap_u64, wrap_u64]; unfold mulLo lo
  rw [← Int.mul_emod]

/-- The numbers a and b as they lie in 64 bits: u and v; their product, mended. -/
theorem hi_mul (a b p q : Int) (_hp : p = 0 ∨ p = 1) (_hq : q = 0 ∨ q = 1) (u v : Int) (hu : u = a + p * 18446744073709551616) (hv : v = b + q * 18446744073709551616) :
    (u * v / 18446744073709551616 - p * v - q * u) % 18446744073709551616 = hi (a * b) := by
  have ea : a = u - p * 18446744073709551616 := by omega
  have eb : b = v - q * 18446744073709551616 := by omega
  have e : a * b = u * v + (p * q * 18446744073709551616 - p * v - q * u) * 18446744073709551616 := by
    rw [ea, eb]; grind
  unfold hi
  rw [e, Int.add_mul_ediv_right _ _ (by omega)]
  generalize u * v / 18446744073709551616 = X
  generalize p * v = Y
  generalize q * u = Z
  generalize p * q = V
  omega

theorem mulHi_pp (a b : Int) (ha : 0 ≤ a) (ha' : a ≤ 9223372036854775807) (hb : 0 ≤ b) (hb' : b ≤ 9223372036854775807) : mulHi (IntKind.u64.wrap a) (IntKind.u64.wrap b) = hi (a * b) := by
  rw [← hi_mul a b 0 0 (.inl rfl) (.inl rfl) a b (by omega) (by omega), wrap_u64, wrap_u64]
  have e1 : a % 18446744073709551616 = a := by omega
  have e2 : b % 18446744073709551616 = b := by omega
  rw [e1, e2]
  unfold mulHi
  have h1 : 0 ≤ a * b := Int.mul_nonneg ha hb
  have h2 : a * b ≤ 9223372036854775807 * 9223372036854775807 := Int.mul_le_mul ha' hb' hb (by omega)
  omega
theorem mulHi_np (a b : Int) (ha : a < 0) (ha' : -9223372036854775808 ≤ a) (hb : 0 ≤ b) (hb' : b ≤ 9223372036854775807) : IntKind.u64.wrap (mulHi (IntKind.u64.wrap a) (IntKind.u64.wrap b) - IntKind.u64.wrap b) = hi (a * b) := by
  rw [← hi_mul a b 1 0 (.inr rfl) (.inl rfl) (a + 18446744073709551616) b (by omega) (by omega)]
  simp only [wrap_u64]
  have e1 : a % 18446744073709551616 = a + 18446744073709551616 := by omega
  have e2 : b % 18446744073709551616 = b := by omega
  rw [e1, e2]
  unfold mulHi
  congr 1
  omega
theorem mulHi_pn (a b : Int) (ha : 0 ≤ a) (ha' : a ≤ 9223372036854775807) (hb : b < 0) (hb' : -9223372036854775808 ≤ b) : IntKind.u64.wrap (mulHi (IntKind.u64.wrap a) (IntKind.u64.wrap b) - IntKind.u64.wrap a) = hi (a * b) := by
  rw [← hi_mul a b 0 1 (.inl rfl) (.inr rfl) a (b + 18446744073709551616) (by omega) (by omega)]
  simp only [wrap_u64]
  have e1 : a % 18446744073709551616 = a := by omega
  have e2 : b % 18446744073709551616 = b + 18446744073709551616 := by omega
  rw [e1, e2]
  unfold mulHi
  congr 1
  omega
theorem mulHi_nn (a b : Int) (ha : a < 0) (ha' : -9223372036854775808 ≤ a) (hb : b < 0) (hb' : -9223372036854775808 ≤ b) : IntKind.u64.wrap (IntKind.u64.wrap (mulHi (IntKind.u64.wrap a) (IntKind.u64.wrap b) - IntKind.u64.wrap b) - IntKind.u64.wrap a) = hi (a * b) := by
  rw [← hi_mul a b 1 1 (.inr rfl) (.inr rfl) (a + 18446744073709551616) (b + 18446744073709551616) (by omega) (by omega)]
  simp only [wrap_u64]
  have e1 : a % 18446744073709551616 = a + 18446744073709551616 := by omega
  have e2 : b % 18446744073709551616 = b + 18446744073709551616 := by omega
  rw [e1, e2]
  unfold mulHi
  generalize (a + 18446744073709551616) * (b + 18446744073709551616) / 18446744073709551616 = X
  omega

theorem wrap64_hi (n : Int) : (wrap64 (hi n) < 0) ↔ wrap128 n < 0 := by
  unfold wrap64 hi wrap128; omega
theorem hi_lo_zero (n : Int) : (hi n = 0 ∧ lo n = 0) ↔ wrap128 n = 0 := by
  unfold hi lo wrap128; omega
theorem wrap128_in (n : Int) (h1 : -170141183460469231731687303715884105728 ≤ n) (h2 : n < 170141183460469231731687303715884105728) : wrap128 n = n := by
  unfold wrap128; omega
theorem wrap64_in (n : Int) (h1 : -9223372036854775808 ≤ n) (h2 : n ≤ 9223372036854775807) : wrap64 n = n := by
  unfold wrap64; omega
theorem wrap64_bd (n : Int) : -9223372036854775808 ≤ wrap64 n ∧ wrap64 n ≤ 9223372036854775807 := by
  unfold wrap64; omega
end Go.Proofs.Ytdkaoopkbhaheaa
