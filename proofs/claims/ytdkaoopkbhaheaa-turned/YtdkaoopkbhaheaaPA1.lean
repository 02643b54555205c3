import Derived.Test.YtdkaoopkbhaheaaRows
import Derived.WalkKit
import Derived.WalkLawsBesides
import Derived.WalkSpells
import Derived.Deep.RegionHeld3
namespace Go.Proofs.Ytdkaoopkbhaheaa
open Go.RowKit
def sgn (n : Int) : Int := if n < 0 then -1 else if 0 < n then 1 else 0
theorem sgn_pos {n : Int} (h : 0 < n) : sgn n = 1 := by unfold sgn; rw [if_neg (by omega), if_pos h]
theorem sgn_neg {n : Int} (h : n < 0) : sgn n = -1 := by unfold sgn; rw [if_pos h]
theorem sgn_zero {n : Int} (h : n = 0) : sgn n = 0 := by unfold sgn; rw [if_neg (by omega), if_neg (by omega)]
theorem ret_int {k : IntKind} {a b : Int} (h : a = b) : Ending.returned (.int k a) = .returned (.int k b) := by rw [h]
def crossW (a b c d : Int) : Int := wrap64 (wrap64 (a * d) - wrap64 (b * c))
def squareW (a b : Int) : Int := wrap64 (wrap64 (a * a) + wrap64 (b * b))
def twiceW (ax ay bx bY cx cy : Int) : Int := wrap64 (wrap64 (wrap64 (ax * wrap64 (bY - cy)) + wrap64 (bx * wrap64 (cy - ay))) + wrap64 (cx * wrap64 (ay - bY)))
def nearB (x y : Int) : Bool := decide (-1048576 ≤ x ∧ x ≤ 1048576 ∧ -1048576 ≤ y ∧ y ≤ 1048576)
set_option maxHeartbeats 400000 in
theorem point_any (x y : Int) (w : World) :
    Calls Try.prog 13 #[.agg #[.int .i64 x, .int .i64 y]] w fun e w' => e = .returned (.agg #[.int .i64 x, .int .i64 y]) ∧ Below w.heap.size w w' := by
  go_enter Try.func13, Try.ntmps13
  go_wp2
  exact bodyPost_ret (v := .agg #[.int .i64 x, .int .i64 y]) (by simp [results, Try.results13, go_sem]) rfl ⟨rfl, ((Below.refl _ _).alloc (Nat.le_refl _) _).alloc (by simp) _⟩
set_option maxHeartbeats 400000 in
theorem near_any (x y : Int) (w : World) :
    Calls Try.prog 14 #[.agg #[.int .i64 x, .int .i64 y]] w fun e w' => e = .returned (.bool (nearB x y)) ∧ Below w.heap.size w w' := by
  by_cases h1 : -1048576 ≤ x
  · by_cases h2 : x ≤ 1048576
    · by_cases h3 : -1048576 ≤ y
      · by_cases h4 : y ≤ 1048576
        · have hn : nearB x y = true := by simp [nearB, *]
          rw [hn]
          clear hn
          go_enter Try.func14, Try.ntmps14
          go_wp2
          go_ret
          exact ⟨rfl, (Below.refl _ _).alloc (Nat.le_refl _) _⟩
        · have hn : nearB x y = false := by simp [nearB, h4]
          rw [hn]
          clear hn
          go_enter Try.func14, Try.ntmps14
          go_wp2
          go_ret
          exact ⟨rfl, (Below.refl _ _).alloc (Nat.le_refl _) _⟩
      · have hn : nearB x y = false := by simp [nearB, h3]
        rw [hn]
        clear hn
        go_enter Try.func14, Try.ntmps14
        go_wp2
        go_ret
        exact ⟨rfl, (Below.refl _ _).alloc (Nat.le_refl _) _⟩
    · have hn : nearB x y = false := by simp [nearB, h2]
      rw [hn]
      clear hn
      go_enter Try.func14, Try.ntmps14
      go_wp2
      go_ret
      exact ⟨rfl, (Below.refl _ _).alloc (Nat.le_refl _) _⟩
  · have hn : nearB x y = false := by simp [nearB, h1]
    rw [hn]
    clear hn
    go_enter Try.func14, Try.ntmps14
    go_wp2
    go_ret
    exact ⟨rfl, (Below.refl _ _).alloc (Nat.le_refl _) _⟩
set_option maxHeartbeats 400000 in
theorem cross_any (a b c d : Int) (w : World) :
    Calls Try.prog 62 #[.agg #[.int .i64 a, .int .i64 b], .agg #[.int .i64 c, .int .i64 d]] w fun e w' => e = .returned (.int .i64 (crossW a b c d)) ∧ Below w.heap.size w w' := by
  go_enter Try.func62, Try.ntmps62
  go_wp2
  go_ret
  exact ⟨rfl, ((Below.refl _ _).alloc (Nat.le_refl _) _).alloc (by simp) _⟩
set_option maxHeartbeats 400000 in
theorem square_any (a b : Int) (w : World) :
    Calls Try.prog 65 #[.agg #[.int .i64 a, .int .i64 b]] w fun e w' => e = .returned (.int .i64 (squareW a b)) ∧ Below w.heap.size w w' := by
  go_enter Try.func65, Try.ntmps65
  go_wp2
  go_ret
  exact ⟨rfl, (Below.refl _ _).alloc (Nat.le_refl _) _⟩
set_option maxHeartbeats 400000 in
theorem minus_any (a b c d : Int) (w : World) :
    Calls Try.prog 63 #[.agg #[.int .i64 a, .int .i64 b], .agg #[.int .i64 c, .int .i64 d]] w fun e w' => e = .returned (.agg #[.int .i64 (wrap64 (a - c)), .int .i64 (wrap64 (b - d))]) ∧ Below w.heap.size w w' := by
  go_enter Try.func63, Try.ntmps63
  go_wp2
  exact bodyPost_ret (v := .agg #[.int .i64 (wrap64 (a - c)), .int .i64 (wrap64 (b - d))]) (by simp [results, Try.results63, go_sem]) rfl ⟨rfl, (((Below.refl _ _).alloc (Nat.le_refl _) _).alloc (by simp) _).alloc (by simp; omega) _⟩
set_option maxHeartbeats 400000 in
theorem twice_any (ax ay bx bY cx cy : Int) (w : World) :
    Calls Try.prog 43 #[.agg #[.int .i64 ax, .int .i64 ay], .agg #[.int .i64 bx, .int .i64 bY], .agg #[.int .i64 cx, .int .i64 cy]] w fun e w' => e = .returned (.int .i64 (twiceW ax ay bx bY cx cy)) ∧ Below w.heap.size w w' := by
  go_enter Try.func43, Try.ntmps43
  go_wp2
  go_ret
  exact ⟨rfl, (((Below.refl _ _).alloc (Nat.le_refl _) _).alloc (by simp) _).alloc (by simp; omega) _⟩
set_option maxHeartbeats 400000 in
theorem compare0_any (a : Int) (w : World) :
    Calls Try.prog 61 #[.int .i64 a, .int .i64 0] w fun e w' => e = .returned (.int .i64 (sgn a)) ∧ w' = w := by
  by_cases h1 : a < 0
  · rw [sgn_neg h1]
    go_enter Try.func61, Try.ntmps61
    go_wp2
    go_ret
    exact ⟨rfl, rfl⟩
  · by_cases h2 : 0 < a
    · rw [sgn_pos h2]
      go_enter Try.func61, Try.ntmps61
      go_wp2
      go_ret
      exact ⟨rfl, rfl⟩
    · rw [sgn_zero (by omega)]
      go_enter Try.func61, Try.ntmps61
      go_wp2
      go_ret
      exact ⟨rfl, rfl⟩
set_option maxHeartbeats 400000 in
theorem refsign_any (a : Int) (w : World) :
    Calls Try.prog 42 #[.int .i64 a] w fun e w' => e = .returned (.int .i64 (sgn a)) ∧ w' = w := by
  by_cases h1 : a < 0
  · rw [sgn_neg h1]
    go_enter Try.func42, Try.ntmps42
    go_wp2
    go_ret
    exact ⟨rfl, rfl⟩
  · by_cases h2 : 0 < a
    · rw [sgn_pos h2]
      go_enter Try.func42, Try.ntmps42
      go_wp2
      go_ret
      exact ⟨rfl, rfl⟩
    · rw [sgn_zero (by omega)]
      go_enter Try.func42, Try.ntmps42
      go_wp2
      go_ret
      exact ⟨rfl, rfl⟩
set_option maxHeartbeats 400000 in
theorem refTurn_any (ax ay bx bY cx cy : Int) (w : World) :
    Calls Try.prog 15 #[.agg #[.int .i64 ax, .int .i64 ay], .agg #[.int .i64 bx, .int .i64 bY], .agg #[.int .i64 cx, .int .i64 cy]] w fun e w' => e = .returned (.int .i64 (sgn (twiceW ax ay bx bY cx cy))) ∧ Below w.heap.size w w' := by
  go_enter Try.func15, Try.ntmps15
  go_wp2_with (first | (go_at_call 43; refine (twice_any _ _ _ _ _ _ _).mono ?_; rintro e w1 ⟨rfl, hb1⟩) | (go_at_call 42; refine (refsign_any _ _).mono ?_; rintro e w2 ⟨rfl, hw2⟩; rw [hw2]))
  go_ret
  exact ⟨rfl, ((((Below.refl _ _).alloc (Nat.le_refl _) _).alloc (by simp) _).alloc (by simp; omega) _).trans (hb1.mono (by simp; omega))⟩
end Go.Proofs.Ytdkaoopkbhaheaa
namespace Go.Proofs.Ytdkaoopkbhaheaa
open Go.RowKit
def hi (n : Int) : Int := (n / 18446744073709551616) % 18446744073709551616
def lo (n : Int) : Int := n % 18446744073709551616
def wrap128 (n : Int) : Int := (n + 170141183460469231731687303715884105728) % 340282366920938463463374607431768211456 - 170141183460469231731687303715884105728
def mulHi (x y : Int) : Int := x * y / 18446744073709551616
def mulLo (x y : Int) : Int := x * y % 18446744073709551616
def car (n m : Int) : Int := (lo n + lo m) / 18446744073709551616
def car2 (n m : Int) : Int := (hi n + hi m + car n m) / 18446744073709551616
theorem lo_bd (n : Int) : 0 ≤ lo n ∧ lo n < 18446744073709551616 := by unfold lo; omega
theorem hi_bd (n : Int) : 0 ≤ hi n ∧ hi n < 18446744073709551616 := by unfold hi; omega
theorem car_bd (n m : Int) : 0 ≤ car n m ∧ car n m ≤ 1 := by unfold car lo; omega
theorem lo_add (n m : Int) : (lo n + lo m + 0) % 18446744073709551616 = lo (n + m) := by unfold lo; omega
theorem hi_add (n m : Int) : (hi n + hi m + car n m) % 18446744073709551616 = hi (n + m) := by
  unfold hi car lo; omega
theorem wrap_u64 (a : Int) : IntKind.u64.wrap a = a % 18446744073709551616 := by rw [IntKind.wrap_u64]
theorem lo_mul (a b : Int) : mulLo (IntKind.u64.wrap a) (IntKind.u64.wrap b) = lo (a * b) := by
  rw [wrap_u64, wrap_u64]; unfold mulLo lo
  rw [← Int.mul_emod]
theorem hi_mul (a b p q : Int) (_hp : p = 0 ∨ p = 1) (_hq : q = 0 ∨ q = 1) (u v : Int) (hu : u = a + p * 18446744073709551616) (hv : v = b + q * 18446744073709551616) :
    (u * v / 18446744073709551616 - p * v - q * u) % 18446744073709551616 = hi (a * b) := by
  have ea : a = u - p * 18446744073709551616 := by omega
  have eb : b = v - q * 18446744073709551616 := by omega
  have e : a * b = u * v + (p * q * 18446744073709551616 - p * v - q * u) * 18446744073709551616 := by
    rw [ea, eb]; grind
  unfold hi
  rw [e, Int.add_mul_ediv_right _ _ (by omega)]
  generalize u * v / 18446744073709551616 = X
  generalize p * v = Y
  generalize q * u = Z
  generalize p * q = V
  omega
theorem mulHi_pp (a b : Int) (ha : 0 ≤ a) (ha' : a ≤ 9223372036854775807) (hb : 0 ≤ b) (hb' : b ≤ 9223372036854775807) : mulHi (IntKind.u64.wrap a) (IntKind.u64.wrap b) = hi (a * b) := by
  rw [← hi_mul a b 0 0 (.inl rfl) (.inl rfl) a b (by omega) (by omega), wrap_u64, wrap_u64]
  have e1 : a % 18446744073709551616 = a := by omega
  have e2 : b % 18446744073709551616 = b := by omega
  rw [e1, e2]
  unfold mulHi
  have h1 : 0 ≤ a * b := Int.mul_nonneg ha hb
  have h2 : a * b ≤ 9223372036854775807 * 9223372036854775807 := Int.mul_le_mul ha' hb' hb (by omega)
  omega
theorem mulHi_np (a b : Int) (ha : a < 0) (ha' : -9223372036854775808 ≤ a) (hb : 0 ≤ b) (hb' : b ≤ 9223372036854775807) : IntKind.u64.wrap (mulHi (IntKind.u64.wrap a) (IntKind.u64.wrap b) - IntKind.u64.wrap b) = hi (a * b) := by
  rw [← hi_mul a b 1 0 (.inr rfl) (.inl rfl) (a + 18446744073709551616) b (by omega) (by omega)]
  simp only [wrap_u64]
  have e1 : a % 18446744073709551616 = a + 18446744073709551616 := by omega
  have e2 : b % 18446744073709551616 = b := by omega
  rw [e1, e2]
  unfold mulHi
  congr 1
  omega
theorem mulHi_pn (a b : Int) (ha : 0 ≤ a) (ha' : a ≤ 9223372036854775807) (hb : b < 0) (hb' : -9223372036854775808 ≤ b) : IntKind.u64.wrap (mulHi (IntKind.u64.wrap a) (IntKind.u64.wrap b) - IntKind.u64.wrap a) = hi (a * b) := by
  rw [← hi_mul a b 0 1 (.inl rfl) (.inr rfl) a (b + 18446744073709551616) (by omega) (by omega)]
  simp only [wrap_u64]
  have e1 : a % 18446744073709551616 = a := by omega
  have e2 : b % 18446744073709551616 = b + 18446744073709551616 := by omega
  rw [e1, e2]
  unfold mulHi
  congr 1
  omega
theorem mulHi_nn (a b : Int) (ha : a < 0) (ha' : -9223372036854775808 ≤ a) (hb : b < 0) (hb' : -9223372036854775808 ≤ b) : IntKind.u64.wrap (IntKind.u64.wrap (mulHi (IntKind.u64.wrap a) (IntKind.u64.wrap b) - IntKind.u64.wrap b) - IntKind.u64.wrap a) = hi (a * b) := by
  rw [← hi_mul a b 1 1 (.inr rfl) (.inr rfl) (a + 18446744073709551616) (b + 18446744073709551616) (by omega) (by omega)]
  simp only [wrap_u64]
  have e1 : a % 18446744073709551616 = a + 18446744073709551616 := by omega
  have e2 : b % 18446744073709551616 = b + 18446744073709551616 := by omega
  rw [e1, e2]
  unfold mulHi
  generalize (a + 18446744073709551616) * (b + 18446744073709551616) / 18446744073709551616 = X
  omega
theorem wrap64_hi (n : Int) : (wrap64 (hi n) < 0) ↔ wrap128 n < 0 := by
  unfold wrap64 hi wrap128; omega
theorem hi_lo_zero (n : Int) : (hi n = 0 ∧ lo n = 0) ↔ wrap128 n = 0 := by
  unfold hi lo wrap128; omega
theorem wrap128_in (n : Int) (h1 : -170141183460469231731687303715884105728 ≤ n) (h2 : n < 170141183460469231731687303715884105728) : wrap128 n = n := by
  unfold wrap128; omega
theorem wrap64_in (n : Int) (h1 : -9223372036854775808 ≤ n) (h2 : n ≤ 9223372036854775807) : wrap64 n = n := by
  unfold wrap64; omega
theorem wrap64_bd (n : Int) : -9223372036854775808 ≤ wrap64 n ∧ wrap64 n ≤ 9223372036854775807 := by
  unfold wrap64; omega
end Go.Proofs.Ytdkaoopkbhaheaa
namespace Go.Proofs.Ytdkaoopkbhaheaa
open Go.RowKit
theorem ret_two {k : IntKind} {a b a' b' : Int} (h1 : a = a') (h2 : b = b') : Ending.returned (.tuple #[.int k a, .int k b]) = .returned (.tuple #[.int k a', .int k b']) := by rw [h1, h2]
theorem school_high (x y : Int) (hx0 : 0 ≤ x) (hx : x < 18446744073709551616) (hy0 : 0 ≤ y) (hy : y < 18446744073709551616) :
    IntKind.u64.wrap (IntKind.u64.wrap (IntKind.u64.wrap (x / 4294967296 * (y / 4294967296)) + IntKind.u64.wrap (IntKind.u64.wrap (x / 4294967296 * bits .and .u64 y 4294967295) + IntKind.u64.wrap (bits .and .u64 x 4294967295 * bits .and .u64 y 4294967295) / 4294967296) / 4294967296) +
      IntKind.u64.wrap (bits .and .u64 (IntKind.u64.wrap (IntKind.u64.wrap (x / 4294967296 * bits .and .u64 y 4294967295) + IntKind.u64.wrap (bits .and .u64 x 4294967295 * bits .and .u64 y 4294967295) / 4294967296)) 4294967295 + IntKind.u64.wrap (bits .and .u64 x 4294967295 * (y / 4294967296))) / 4294967296) = mulHi x y := by
  rw [and_low32 x hx0 hx, and_low32 y hy0 hy]
  simp only [wrap_u64]
  rw [and_low32 _ (by omega) (by omega)]
  exact mul64_arith x y hx0 hx hy0 hy
set_option maxHeartbeats 1000000 in
theorem mul64_int (x y : Int) (hx0 : 0 ≤ x) (hx : x < 18446744073709551616) (hy0 : 0 ≤ y) (hy : y < 18446744073709551616) (w : World) :
    Calls Try.prog 82 #[.int .u64 x, .int .u64 y] w fun e w' => e = .returned (.tuple #[.int .u64 (mulHi x y), .int .u64 (mulLo x y)]) ∧ w' = w := by
  go_enter Try.func82, Try.ntmps82
  go_wp2
  go_ret2
  exact ⟨ret_two (school_high x y hx0 hx hy0 hy) (wrap_u64 _), rfl⟩
theorem wrap_u64_bd (a : Int) : 0 ≤ IntKind.u64.wrap a ∧ IntKind.u64.wrap a < 18446744073709551616 := by rw [wrap_u64]; omega
theorem add64_run (x y c : Int) (hx : 0 ≤ x) (hy : 0 ≤ y) (hc0 : 0 ≤ c) (hc : c ≤ 1) (w : World) :
    (callFunc 83 #[.int .u64 x, .int .u64 y, .int .u64 c]).run Try.prog w =
      .ok (.value (.tuple #[.int .u64 ((x + y + c) % 18446744073709551616), .int .u64 ((x + y + c) / 18446744073709551616)])) w := by
  rw [run_callFunc_extern Try.func83 (by kernel_rfl) (by kernel_rfl) (by kernel_rfl) (e := add64Entry) (by kernel_rfl), run_add64 x y c hx hy hc0 hc]
  rfl
theorem add64_low (n m : Int) (w : World) :
    (callFunc 83 #[.int .u64 (lo n), .int .u64 (lo m), .int .u64 0]).run Try.prog w = .ok (.value (.tuple #[.int .u64 (lo (n + m)), .int .u64 (car n m)])) w := by
  rw [add64_run _ _ _ (lo_bd n).1 (lo_bd m).1 (by omega) (by omega), lo_add]
  have e : (lo n + lo m + 0) / 18446744073709551616 = car n m := by unfold car; omega
  rw [e]
theorem add64_high (n m : Int) (w : World) :
    (callFunc 83 #[.int .u64 (hi n), .int .u64 (hi m), .int .u64 (car n m)]).run Try.prog w = .ok (.value (.tuple #[.int .u64 (hi (n + m)), .int .u64 (car2 n m)])) w := by
  rw [add64_run _ _ _ (hi_bd n).1 (hi_bd m).1 (car_bd n m).1 (car_bd n m).2, hi_add]
  rfl
set_option maxHeartbeats 1000000 in
theorem wplus_any (n m : Int) (w : World) :
    Calls Try.prog 66 #[.agg #[.int .u64 (hi n), .int .u64 (lo n)], .agg #[.int .u64 (hi m), .int .u64 (lo m)]] w fun e w' => e = .returned (.agg #[.int .u64 (hi (n + m)), .int .u64 (lo (n + m))]) ∧ Below w.heap.size w w' := by
  have f1 := add64_low n m
  have f2 := add64_high n m
  go_enter Try.func66, Try.ntmps66
  go_wp2
  exact bodyPost_ret (v := .agg #[.int .u64 (hi (n + m)), .int .u64 (lo (n + m))]) (by simp [results, Try.results66, go_sem]) rfl ⟨rfl, (((Below.refl _ _).alloc (Nat.le_refl _) _).alloc (by simp) _).alloc (by simp; omega) _⟩
set_option maxHeartbeats 1000000 in
theorem wsign_any (n : Int) (w : World) :
    Calls Try.prog 67 #[.agg #[.int .u64 (hi n), .int .u64 (lo n)]] w fun e w' => e = .returned (.int .i64 (sgn (wrap128 n))) ∧ Below w.heap.size w w' := by
  have k1 := wrap64_hi n
  have k2 := hi_lo_zero n
  by_cases h1 : wrap64 (hi n) < 0
  · rw [sgn_neg (k1.1 h1)]
    clear k1 k2
    go_enter Try.func67, Try.ntmps67
    go_wp2
    go_ret
    exact ⟨rfl, (Below.refl _ _).alloc (Nat.le_refl _) _⟩
  · have h1' : ¬ wrap128 n < 0 := fun h => h1 (k1.2 h)
    by_cases h2 : hi n = 0
    · by_cases h3 : lo n = 0
      · rw [sgn_zero (k2.1 ⟨h2, h3⟩)]
        clear k1 k2 h1'
        have g2 : (hi n == 0) = true := by simp [h2]
        have g3 : (lo n == 0) = true := by simp [h3]
        clear h2 h3
        go_enter Try.func67, Try.ntmps67
        go_wp2
        go_ret
        exact ⟨rfl, (Below.refl _ _).alloc (Nat.le_refl _) _⟩
      · have h4 : wrap128 n ≠ 0 := fun h => h3 (k2.2 h).2
        rw [sgn_pos (by omega)]
        clear k1 k2 h1' h4
        have g2 : (hi n == 0) = true := by simp [h2]
        have g3 : (lo n == 0) = false := by simp [h3]
        clear h2 h3
        go_enter Try.func67, Try.ntmps67
        go_wp2
        go_ret
        exact ⟨rfl, (Below.refl _ _).alloc (Nat.le_refl _) _⟩
    · have h4 : wrap128 n ≠ 0 := fun h => h2 (k2.2 h).1
      rw [sgn_pos (by omega)]
      clear k1 k2 h1' h4
      have g2 : (hi n == 0) = false := by simp [h2]
      clear h2
      go_enter Try.func67, Try.ntmps67
      go_wp2
      go_ret
      exact ⟨rfl, (Below.refl _ _).alloc (Nat.le_refl _) _⟩
theorem wrap_u64_in (a : Int) (h : 0 ≤ a) (h' : a ≤ 9223372036854775807) : IntKind.u64.wrap a = a := by rw [wrap_u64]; omega
set_option maxHeartbeats 1000000 in
theorem product_any (a b : Int) (ha : -9223372036854775808 ≤ a ∧ a ≤ 9223372036854775807) (hb : -9223372036854775808 ≤ b ∧ b ≤ 9223372036854775807) (w : World) :
    Calls Try.prog 64 #[.int .i64 a, .int .i64 b] w fun e w' => e = .returned (.agg #[.int .u64 (hi (a * b)), .int .u64 (lo (a * b))]) ∧ Below w.heap.size w w' := by
  have u1 := wrap_u64_bd a
  have u2 := wrap_u64_bd b
  have el0 := lo_mul a b
  by_cases h1 : a < 0
  · by_cases h2 : b < 0
    · have eh : Hid _ := mulHi_nn a b h1 ha.1 h2 hb.1
      have el : Hid _ := el0
      clear el0
      go_enter Try.func64, Try.ntmps64
      go_wp2_with (go_at_call 82; refine (mul64_int _ _ (by omega) (by omega) (by omega) (by omega) _).mono ?_; rintro e w2 ⟨rfl, hw2⟩; rw [hw2])
      rw [eh.out, el.out]
      exact bodyPost_ret (v := .agg #[.int .u64 (hi (a * b)), .int .u64 (lo (a * b))]) (by simp [results, Try.results64, go_sem]) rfl ⟨rfl, (Below.refl _ _).alloc (Nat.le_refl _) _⟩
    · have eh0 := mulHi_np a b h1 ha.1 (by omega) hb.2
      rw [wrap_u64_in b (by omega) hb.2] at eh0 el0 u2
      have eh : Hid _ := eh0
      have el : Hid _ := el0
      clear el0 eh0
      go_enter Try.func64, Try.ntmps64
      go_wp2_with (go_at_call 82; refine (mul64_int _ _ (by omega) (by omega) (by omega) (by omega) _).mono ?_; rintro e w2 ⟨rfl, hw2⟩; rw [hw2])
      rw [eh.out, el.out]
      exact bodyPost_ret (v := .agg #[.int .u64 (hi (a * b)), .int .u64 (lo (a * b))]) (by simp [results, Try.results64, go_sem]) rfl ⟨rfl, (Below.refl _ _).alloc (Nat.le_refl _) _⟩
  · by_cases h2 : b < 0
    · have eh0 := mulHi_pn a b (by omega) ha.2 h2 hb.1
      rw [wrap_u64_in a (by omega) ha.2] at eh0 el0 u1
      have eh : Hid _ := eh0
      have el : Hid _ := el0
      clear el0 eh0
      go_enter Try.func64, Try.ntmps64
      go_wp2_with (go_at_call 82; refine (mul64_int _ _ (by omega) (by omega) (by omega) (by omega) _).mono ?_; rintro e w2 ⟨rfl, hw2⟩; rw [hw2])
      rw [eh.out, el.out]
      exact bodyPost_ret (v := .agg #[.int .u64 (hi (a * b)), .int .u64 (lo (a * b))]) (by simp [results, Try.results64, go_sem]) rfl ⟨rfl, (Below.refl _ _).alloc (Nat.le_refl _) _⟩
    · have eh0 := mulHi_pp a b (by omega) ha.2 (by omega) hb.2
      rw [wrap_u64_in b (by omega) hb.2] at eh0 el0 u2
      rw [wrap_u64_in a (by omega) ha.2] at eh0 el0 u1
      have eh : Hid _ := eh0
      have el : Hid _ := el0
      clear el0 eh0
      go_enter Try.func64, Try.ntmps64
      go_wp2_with (go_at_call 82; refine (mul64_int _ _ (by omega) (by omega) (by omega) (by omega) _).mono ?_; rintro e w2 ⟨rfl, hw2⟩; rw [hw2])
      rw [eh.out, el.out]
      exact bodyPost_ret (v := .agg #[.int .u64 (hi (a * b)), .int .u64 (lo (a * b))]) (by simp [results, Try.results64, go_sem]) rfl ⟨rfl, (Below.refl _ _).alloc (Nat.le_refl _) _⟩
end Go.Proofs.Ytdkaoopkbhaheaa
namespace Go.Proofs.Ytdkaoopkbhaheaa
open Go.RowKit
def turnW (ax ay bx bY cx cy : Int) : Int := sgn (crossW (wrap64 (bx - ax)) (wrap64 (bY - ay)) (wrap64 (cx - ax)) (wrap64 (cy - ay)))
theorem wrap_i64 (n : Int) : IntKind.i64.wrap n = wrap64 n := by unfold wrap64; exact IntKind.wrap_i64 n
theorem old_reads {W w1 : World} (hb : Below W.heap.size W w1) : (∀ b o, b < W.heap.size → w1.cell? ⟨b, o, none⟩ = W.cell? ⟨b, o, none⟩) ∧ (∀ b o, b < W.heap.size → w1.frozen? ⟨b, o, none⟩ = W.frozen? ⟨b, o, none⟩) := by
  constructor
  · intro b o h
    exact Below.cell hb h
  · intro b o h
    exact Below.frozen hb h
theorem keep_below {B : Nat} {W w1 w2 : World} (hb : Below w1.heap.size w1 w2) (h : Below B W w1 ∧ B ≤ W.heap.size) : Below B W w2 ∧ B ≤ W.heap.size := ⟨h.1.trans (hb.mono (by have := h.1.size; omega)), h.2⟩
set_option maxHeartbeats 2000000 in
theorem planeTurn_any (ax ay bx bY cx cy : Int) (w : World) :
    Calls Try.prog 40 #[.agg #[.int .i64 ax, .int .i64 ay], .agg #[.int .i64 bx, .int .i64 bY], .agg #[.int .i64 cx, .int .i64 cy]] w fun e w' => e = .returned (.int .i64 (turnW ax ay bx bY cx cy)) ∧ Below w.heap.size w w' := by
  go_enter Try.func40, Try.ntmps40
  go_wp2
  go_region_held3 (fun w' => (Below w.heap.size w w' ∧ w.heap.size ≤ w.heap.size) ∧ w'.cell? ⟨w.heap.size, 0, none⟩ = some (.int .i64 ax) ∧ w'.cell? ⟨w.heap.size, 1, none⟩ = some (.int .i64 ay) ∧ w'.cell? ⟨w.heap.size + 1, 0, none⟩ = some (.int .i64 bx) ∧ w'.cell? ⟨w.heap.size + 1, 1, none⟩ = some (.int .i64 bY) ∧ w'.cell? ⟨w.heap.size + 1 + 1, 0, none⟩ = some (.int .i64 cx) ∧ w'.cell? ⟨w.heap.size + 1 + 1, 1, none⟩ = some (.int .i64 cy))
    (first | (go_split_ands; refine ⟨⟨?_, Nat.le_refl _⟩, ?_, ?_, ?_, ?_, ?_, ?_⟩; (exact ((((Below.refl _ _).alloc (Nat.le_refl _) _).alloc (by simp) _).alloc (by simp; omega) _).drew); all_goals (simp [go_sem])) | (go_split_ands; exact ⟨keep_below (by assumption) ⟨by assumption, by assumption⟩, cell_later (by assumption) (by assumption), cell_later (by assumption) (by assumption), cell_later (by assumption) (by assumption), cell_later (by assumption) (by assumption), cell_later (by assumption) (by assumption), cell_later (by assumption) (by assumption)⟩) | (go_split_ands; refine ⟨⟨?_, ?_⟩, ?_, ?_, ?_, ?_, ?_, ?_⟩ <;> assumption))
    (first | (go_at_call 63; refine (minus_any _ _ _ _ _).mono ?_; rintro e w1 ⟨rfl, hb1⟩) | (go_at_call 62; refine (cross_any _ _ _ _ _).mono ?_; rintro e w1 ⟨rfl, hb1⟩) | (go_at_call 61; refine (compare0_any _ _).mono ?_; rintro e w1 ⟨rfl, rfl⟩))
  go_split_ands
  go_wp2
  go_ret
  exact ⟨rfl, by assumption⟩
end Go.Proofs.Ytdkaoopkbhaheaa
