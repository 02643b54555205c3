/- The document's turns around a point are how often the ring winds around it; what is odd and what is not nought. -/
import Derived.Test.YtdkaoopkbhaheaaB5
import Derived.Test.YtdkaoopkbhaheaaB3
import Derived.Test.YtdkaoopkbhaheaaK0
namespace Go.Proofs.Ytdkaoopkbhaheaa
open Go.RowKit
open Jor

theorem refTurn_four (a b p : IP) (ha : nearB a.1 a.2 = true) (hb : nearB b.1 b.2 = true) (hp : nearB p.1 p.2 = true) :
    refTurn (4 * a.1) (4 * a.2) (4 * b.1) (4 * b.2) (4 * p.1) (4 * p.2) = sgn (16 * DI a b p) := by
  have ha := near_bd ha
  have hb := near_bd hb
  have hp := near_bd hp
  unfold refTurn twiceW DI Geo.D
  rw [wrap64_in (4 * b.2 - 4 * p.2) (by omega) (by omega), wrap64_in (4 * p.2 - 4 * a.2) (by omega) (by omega), wrap64_in (4 * a.2 - 4 * b.2) (by omega) (by omega)]
  have k1 := mul_bd (4 * a.1) (4 * b.2 - 4 * p.2) 4194304 8388608 (by omega) (by omega) (by omega)
  have k2 := mul_bd (4 * b.1) (4 * p.2 - 4 * a.2) 4194304 8388608 (by omega) (by omega) (by omega)
  have k3 := mul_bd (4 * p.1) (4 * a.2 - 4 * b.2) 4194304 8388608 (by omega) (by omega) (by omega)
  rw [wrap64_in (4 * a.1 * (4 * b.2 - 4 * p.2)) (by omega) (by omega), wrap64_in (4 * b.1 * (4 * p.2 - 4 * a.2)) (by omega) (by omega), wrap64_in (4 * p.1 * (4 * a.2 - 4 * b.2)) (by omega) (by omega),
    wrap64_in (4 * a.1 * (4 * b.2 - 4 * p.2) + 4 * b.1 * (4 * p.2 - 4 * a.2)) (by omega) (by omega), wrap64_in _ (by omega) (by omega)]
  congr 1
  grind

theorem turnInc_four (a b p : IP) (ha : nearB a.1 a.2 = true) (hb : nearB b.1 b.2 = true) (hp : nearB p.1 p.2 = true) :
    turnInc (wrap64 (4 * p.1)) (wrap64 (4 * p.2)) (wrap64 (4 * a.1)) (wrap64 (4 * a.2)) (wrap64 (4 * b.1)) (wrap64 (4 * b.2)) = crI p a b := by
  have ha' := near_bd ha
  have hb' := near_bd hb
  have hp' := near_bd hp
  rw [wrap64_in (4 * p.1) (by omega) (by omega), wrap64_in (4 * p.2) (by omega) (by omega), wrap64_in (4 * a.1) (by omega) (by omega), wrap64_in (4 * a.2) (by omega) (by omega), wrap64_in (4 * b.1) (by omega) (by omega), wrap64_in (4 * b.2) (by omega) (by omega)]
  unfold turnInc crI
  rw [refTurn_four a b p ha hb hp]
  have hs := sgn_cases (16 * DI a b p)
  by_cases h1 : a.2 ≤ p.2 ∧ p.2 < b.2 ∧ 0 < DI a b p
  · rw [if_pos (by omega), if_pos h1]
  · rw [if_neg (by omega), if_neg h1]
    by_cases h2 : b.2 ≤ p.2 ∧ p.2 < a.2 ∧ DI a b p < 0
    · rw [if_pos (by omega), if_pos h2]
    · rw [if_neg (by omega), if_neg h2]

theorem turns_wind (ps : Nat → IP) (n : Nat) (p : IP) (hp : nearB p.1 p.2 = true) (hn : ∀ i, i < n → nearB (ps i).1 (ps i).2 = true) :
    turns (wrap64 (4 * p.1)) (wrap64 (4 * p.2)) n ps n = windI ps n p := by
  have part : ∀ k, k ≤ n → turns (wrap64 (4 * p.1)) (wrap64 (4 * p.2)) n ps k = sm (fun j => crI p (ps (j % n)) (ps ((j + 1) % n))) k := by
    intro k
    induction k with
    | zero => intro _; rfl
    | succ k ih =>
      intro hk
      rw [turns, sm, ih (by omega), turnInc_four (ps k) (ps ((k + 1) % n)) p (hn k (by omega)) (hn _ (Nat.mod_lt _ (by omega))) hp, Nat.mod_eq_of_lt (show k < n by omega)]
  exact part n (Nat.le_refl n)

/-- How many edges a ray crosses. -/
def crossings (ps : Nat → IP) (n : Nat) (p : IP) : Nat → Nat
  | 0 => 0
  | k + 1 => crossings ps n p k + if crI p (ps (k % n)) (ps ((k + 1) % n)) = 0 then 0 else 1
theorem crI_cases (q a b : IP) : crI q a b = 0 ∨ crI q a b = 1 ∨ crI q a b = -1 := by
  unfold crI; split
  · simp
  · split <;> simp
theorem crossings_parity (ps : Nat → IP) (n : Nat) (p : IP) (k : Nat) : ((crossings ps n p k : Int) - sm (fun j => crI p (ps (j % n)) (ps ((j + 1) % n))) k) % 2 = 0 := by
  induction k with
  | zero => rfl
  | succ k ih =>
    rw [crossings, sm]
    rcases crI_cases p (ps (k % n)) (ps ((k + 1) % n)) with h | h | h <;> rw [h] <;> simp <;> omega
/-- WHAT IS ODD IS WHAT WINDS. -/
theorem odd_iff {ps : Nat → IP} {n : Nat} (R : RingI ps n) (p : IP) (off : ∀ j, ¬ OnI p (ps (j % n)) (ps ((j + 1) % n))) :
    (crossings ps n p n % 2 == 1) = (windI ps n p != 0) := by
  have h1 := windI_one R p off
  have h2 := crossings_parity ps n p n
  change ((crossings ps n p n : Int) - windI ps n p) % 2 = 0 at h2
  rw [Bool.eq_iff_iff, beq_iff_eq, bne_iff_ne]
  omega
#print axioms odd_iff
end Go.Proofs.Ytdkaoopkbhaheaa
