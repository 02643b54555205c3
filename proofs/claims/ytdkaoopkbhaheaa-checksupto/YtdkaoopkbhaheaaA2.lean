/- Contracts of the wide numbers: Mul64, product, plus, sign. -/
import Derived.Test.YtdkaoopkbhaheaaA1
import Derived.Test.YtdkaoopkbhaheaaA0
namespace Go.Proofs.Ytdkaoopkbhaheaa
open Go.RowKit

/-- Two results at once. -/
theorem ret_two {k : IntKind} {a b a' b' : Int} (h1 : a = a') (h2 : b = b') : Ending.returned (.tuple #[.int k a, .int k b]) = .returned (.tuple #[.int k a', .int k b']) := by rw [h1, h2]

/-- What Mul64 reckons for the upper half, step by step, is the upper half. -/
theorem school_high (x y : Int) (hx0 : 0 ≤ x) (hx : x < 18446744073709551616) (hy0 : 0 ≤ y) (hy : y < 18446744073709551616) :
    IntKind.u64.wrap (IntKind.u64.wrap (IntKind.u64.wrap (x / 4294967296 * (y / 4294967296)) + IntKind.u64.wrap (IntKind.u64.wrap (x / 4294967296 * bits .and .u64 y 4294967295) + IntKind.u64.wrap (bits .and .u64 x 4294967295 * bits .and .u64 y 4294967295) / 4294967296) / 4294967296) +
      IntKind.u64.wrap (bits .and .u64 (IntKind.u64.wrap (IntKind.u64.wrap (x / 4294967296 * bits .and .u64 y 4294967295) + IntKind.u64.wrap (bits .and .u64 x 4294967295 * bits .and .u64 y 4294967295) / 4294967296)) 4294967295 + IntKind.u64.wrap (bits .and .u64 x 4294967295 * (y / 4294967296))) / 4294967296) = mulHi x y := by
  rw [and_low32 x hx0 hx, and_low32 y hy0 hy]
  simp only [wrap_u64]
  rw [and_low32 _ (by omega) (by omega)]
  exact mul64_arith x y hx0 hx hy0 hy

set_option maxHeartbeats 1000000 in
theorem mul64_int (x y : Int) (hx0 : 0 ≤ x) (hx : x < 18446744073709551616) (hy0 : 0 ≤ y) (hy : y < 18446744073709551616) (w : World) :
    Calls Try.prog 82 #[.int .u64 x, .int .u64 y] w fun e w' => e = .returned (.tuple #[.int .u64 (mulHi x y), .int .u64 (mulLo x y)]) ∧ w' = w := by
  go_enter Try.func82, Try.ntmps82
  go_wp2
  go_ret2
  exact ⟨ret_two (school_high x y hx0 hx hy0 hy) (wrap_u64 _), rfl⟩

theorem wrap_u64_bd (a : Int) : 0 ≤ IntKind.u64.wrap a ∧ IntKind.u64.wrap a < 18446744073709551616 := by rw [wrap_u64]; omega

theorem add64_run (x y c : Int) (hx : 0 ≤ x) (hy : 0 ≤ y) (hc0 : 0 ≤ c) (hc : c ≤ 1) (w : World) :
    (callFunc 83 #[.int .u64 x, .int .u64 y, .int .u64 c]).run Try.prog w =
      .ok (.value (.tuple #[.int .u64 ((x + y + c) % 18446744073709551616), .int .u64 ((x + y + c) / 18446744073709551616)])) w := by
  rw [run_callFunc_extern Try.func83 (by kernel_rfl) (by kernel_rfl) (by kernel_rfl) (e := add64Entry) (by kernel_rfl), run_add64 x y c hx hy hc0 hc]
  rfl

theorem add64_low (n m : Int) (w : World) :
    (callFunc 83 #[.int .u64 (lo n), .int .u64 (lo m), .int .u64 0]).run Try.prog w = .ok (.value (.tuple #[.int .u64 (lo (n + m)), .int .u64 (car n m)])) w := by
  rw [add64_run _ _ _ (lo_bd n).1 (lo_bd m).1 (by omega) (by omega), lo_add]
  have e : (lo n + lo m + 0) / 18446744073709551616 = car n m := by unfold car; omega
  rw [e]
theorem add64_high (n m : Int) (w : World) :
    (callFunc 83 #[.int .u64 (hi n), .int .u64 (hi m), .int .u64 (car n m)]).run Try.prog w = .ok (.value (.tuple #[.int .u64 (hi (n + m)), .int .u64 (car2 n m)])) w := by
  rw [add64_run _ _ _ (hi_bd n).1 (hi_bd m).1 (car_bd n m).1 (car_bd n m).2, hi_add]
  rfl

set_option maxHeartbeats 1000000 in
theorem wplus_any (n m : Int) (w : World) :
    Calls Try.prog 66 #[.agg #[.int .u64 (hi n), .int .u64 (lo n)], .agg #[.int .u64 (hi m), .int .u64 (lo m)]] w fun e w' => e = .returned (.agg #[.int .u64 (hi (n + m)), .int .u64 (lo (n + m))]) ∧ Below w.heap.size w w' := by
  have f1 := add64_low n m
  have f2 := add64_high n m
  go_enter Try.func66, Try.ntmps66
  go_wp2
  exact bodyPost_ret (v := .agg #[.int .u64 (hi (n + m)), .int .u64 (lo (n + m))]) (by simp [results, Try.results66, go_sem]) rfl ⟨rfl, (((Below.refl _ _).alloc (Nat.le_refl _) _).alloc (by simp) _).alloc (by simp; omega) _⟩

set_option maxHeartbeats 1000000 in
theorem wsign_any (n : Int) (w : World) :
    Calls Try.prog 67 #[.agg #[.int .u64 (hi n), .int .u64 (lo n)]] w fun e w' => e = .returned (.int .i64 (sgn (wrap128 n))) ∧ Below w.heap.size w w' := by
  have k1 := wrap64_hi n
  have k2 := hi_lo_zero n
  by_cases h1 : wrap64 (hi n) < 0
  · rw [sgn_neg (k1.1 h1)]
    clear k1 k2
    go_enter Try.func67, Try.ntmps67
    go_wp2
    go_ret
    exact ⟨rfl, (Below.refl _ _).alloc (Nat.le_refl _) _⟩
  · have h1' : ¬ wrap128 n < 0 := fun h => h1 (k1.2 h)
    by_cases h2 : hi n = 0
    · by_cases h3 : lo n = 0
      · rw [sgn_zero (k2.1 ⟨h2, h3⟩)]
        clear k1 k2 h1'
        have g2 : (hi n == 0) = true := by simp [h2]
        have g3 : (lo n == 0) = true := by simp [h3]
        clear h2 h3
        go_enter Try.func67, Try.ntmps67
        go_wp2
        go_ret
        exact ⟨rfl, (Below.refl _ _).alloc (Nat.le_refl _) _⟩
      · have h4 : wrap128 n ≠ 0 := fun h => h3 (k2.2 h).2
        rw [sgn_pos (by omega)]
        clear k1 k2 h1' h4
        have g2 : (hi n == 0) = true := by simp [h2]
        have g3 : (lo n == 0) = false := by simp [h3]
        clear h2 h3
        go_enter Try.func67, Try.ntmps67
        go_wp2
        go_ret
        exact ⟨rfl, (Below.refl _ _).alloc (Nat.le_refl _) _⟩
    · have h4 : wrap128 n ≠ 0 := fun h => h2 (k2.2 h).1
      rw [sgn_pos (by omega)]
      clear k1 k2 h1' h4
      have g2 : (hi n == 0) = false := by simp [h2]
      clear h2
      go_enter Try.func67, Try.ntmps67
      go_wp2
      go_ret
      exact ⟨rfl, (Below.refl _ _).alloc (Nat.le_refl _) _⟩

theorem wrap_u64_in (a : Int) (h : 0 ≤ a) (h' : a ≤ 9223372036854775807) : IntKind.u64.wrap a = a := by rw [wrap_u64]; omega

set_option maxHeartbeats 1000000 in
theorem product_any (a b : Int) (ha : -9223372036854775808 ≤ a ∧ a ≤ 9223372036854775807) (hb : -9223372036854775808 ≤ b ∧ b ≤ 9223372036854775807) (w : World) :
    Calls Try.prog 64 #[.int .i64 a, .int .i64 b] w fun e w' => e = .returned (.agg #[.int .u64 (hi (a * b)), .int .u64 (lo (a * b))]) ∧ Below w.heap.size w w' := by
  have u1 := wrap_u64_bd a
  have u2 := wrap_u64_bd b
  have el0 := lo_mul a b
  by_cases h1 : a < 0
  · by_cases h2 : b < 0
    · have eh : Hid _ := mulHi_nn a b h1 ha.1 h2 hb.1
      have el : Hid _ := el0
      clear el0
      go_enter Try.func64, Try.ntmps64
      go_wp2_with (go_at_call 82; refine (mul64_int _ _ (by omega) (by omega) (by omega) (by omega) _).mono ?_; rintro e w2 ⟨rfl, hw2⟩; rw [hw2])
      rw [eh.out, el.out]
      exact bodyPost_ret (v := .agg #[.int .u64 (hi (a * b)), .int .u64 (lo (a * b))]) (by simp [results, Try.results64, go_sem]) rfl ⟨rfl, (Below.refl _ _).alloc (Nat.le_refl _) _⟩
    · have eh0 := mulHi_np a b h1 ha.1 (by omega) hb.2
      rw [wrap_u64_in b (by omega) hb.2] at eh0 el0 u2
      have eh : Hid _ := eh0
      have el : Hid _ := el0
      clear el0 eh0
      go_enter Try.func64, Try.ntmps64
      go_wp2_with (go_at_call 82; refine (mul64_int _ _ (by omega) (by omega) (by omega) (by omega) _).mono ?_; rintro e w2 ⟨rfl, hw2⟩; rw [hw2])
      rw [eh.out, el.out]
      exact bodyPost_ret (v := .agg #[.int .u64 (hi (a * b)), .int .u64 (lo (a * b))]) (by simp [results, Try.results64, go_sem]) rfl ⟨rfl, (Below.refl _ _).alloc (Nat.le_refl _) _⟩
  · by_cases h2 : b < 0
    · have eh0 := mulHi_pn a b (by omega) ha.2 h2 hb.1
      rw [wrap_u64_in a (by omega) ha.2] at eh0 el0 u1
      have eh : Hid _ := eh0
      have el : Hid _ := el0
      clear el0 eh0
      go_enter Try.func64, Try.ntmps64
      go_wp2_with (go_at_call 82; refine (mul64_int _ _ (by omega) (by omega) (by omega) (by omega) _).mono ?_; rintro e w2 ⟨rfl, hw2⟩; rw [hw2])
      rw [eh.out, el.out]
      exact bodyPost_ret (v := .agg #[.int .u64 (hi (a * b)), .int .u64 (lo (a * b))]) (by simp [results, Try.results64, go_sem]) rfl ⟨rfl, (Below.refl _ _).alloc (Nat.le_refl _) _⟩
    · have eh0 := mulHi_pp a b (by omega) ha.2 (by omega) hb.2
      rw [wrap_u64_in b (by omega) hb.2] at eh0 el0 u2
      rw [wrap_u64_in a (by omega) ha.2] at eh0 el0 u1
      have eh : Hid _ := eh0
      have el : Hid _ := el0
      clear el0 eh0
      go_enter Try.func64, Try.ntmps64
      go_wp2_with (go_at_call 82; refine (mul64_int _ _ (by omega) (by omega) (by omega) (by omega) _).mono ?_; rintro e w2 ⟨rfl, hw2⟩; rw [hw2])
      rw [eh.out, el.out]
      exact bodyPost_ret (v := .agg #[.int .u64 (hi (a * b)), .int .u64 (lo (a * b))]) (by simp [results, Try.results64, go_sem]) rfl ⟨rfl, (Below.refl _ _).alloc (Nat.le_refl _) _⟩
end Go.Proofs.Ytdkaoopkbhaheaa
