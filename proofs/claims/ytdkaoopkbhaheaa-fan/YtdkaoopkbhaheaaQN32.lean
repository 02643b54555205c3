/- Two rows that grow side by side, and pick. -/
import Derived.Test.YtdkaoopkbhaheaaQN31
import Derived.Test.YtdkaoopkbhaheaaQN24
namespace Go.Proofs.Ytdkaoopkbhaheaa
open Go.RowKit Go.Lib
open Jor
set_option linter.unusedVariables false
set_option linter.unusedSimpArgs false

/-- What pick tells. -/
def pickI (c n : Int) : Int := (if c < 0 then -(c + 1) else c).tmod n
set_option maxHeartbeats 1000000 in
theorem pick_any (c n : Int) (w : World) (hc : -9223372036854775808 ≤ c ∧ c ≤ 9223372036854775807) (hn : 0 < n) (hn2 : n ≤ 1000000) :
    Calls Try.prog 33 #[.int .i64 c, .int .i64 n] w fun e w' => e = .returned (.int .i64 (pickI c n)) ∧ w' = w := by
  have n0 : (n == 0) = false := by rw [beq_eq_false_iff_ne]; omega
  have n1 : ¬ n = 0 := by omega
  by_cases h : c < 0
  · have hw1 : wrap64 (c + 1) = c + 1 := wrap64_in _ (by omega) (by omega)
    have hw2 : wrap64 (-(c + 1)) = -(c + 1) := wrap64_in _ (by omega) (by omega)
    have e : pickI c n = -((c + 1).tmod n) := by unfold pickI; rw [if_pos h, Int.neg_tmod]
    rw [e]
    go_enter Try.func33, Try.ntmps33
    go_wp2
    go_ret
    exact ⟨rfl, rfl⟩
  · have e : pickI c n = c % n := by unfold pickI; rw [if_neg h, Int.tmod_eq_emod_of_nonneg (by omega)]
    rw [e]
    go_enter Try.func33, Try.ntmps33
    go_wp2
    go_ret
    exact ⟨rfl, rfl⟩
theorem pick_in (c : Int) : 0 ≤ pickI c 1000000 ∧ pickI c 1000000 < 1000000 := by
  unfold pickI
  split
  · rw [Int.tmod_eq_emod_of_nonneg (by omega)]; omega
  · rw [Int.tmod_eq_emod_of_nonneg (by omega)]; omega

/-- Two rows that lie apart. -/
structure Two (B : Nat) (w : World) (e : TypeId) (size : Nat) (v1 v2 : Value) (n1 n2 : Nat) (xs1 xs2 : List Value) : Prop where
  o1 : w.ownsRow B e size v1 n1 xs1
  o2 : w.ownsRow B e size v2 n2 xs2
  ne : ∀ g, v1.ownBlock = some g → v2.ownBlock ≠ some g
section
variable {B : Nat} {w w' : World} {e : TypeId} {size : Nat} {v1 v2 : Value} {n1 n2 : Nat} {xs1 xs2 : List Value}
theorem own_in {w : World} {v : Value} {n : Nat} {xs : List Value} (h : w.ownsRow B e size v n xs) {g : Nat} (hg : v.ownBlock = some g) : g < w.heap.size := by
  obtain ⟨cur, hc⟩ := own_at h hg
  exact (Array.getElem?_eq_some_iff.1 hc).1
theorem Two.keep (h : Two B w e size v1 v2 n1 n2 xs1 xs2) (hk : ∀ g, (v1.ownBlock = some g ∨ v2.ownBlock = some g) → w'.heap[g]? = w.heap[g]?) : Two B w' e size v1 v2 n1 n2 xs1 xs2 :=
  ⟨own_keep h.o1 (fun g hg => hk g (.inl hg)), own_keep h.o2 (fun g hg => hk g (.inr hg)), h.ne⟩
theorem Two.swap (h : Two B w e size v1 v2 n1 n2 xs1 xs2) : Two B w e size v2 v1 n2 n1 xs2 xs1 := ⟨h.o2, h.o1, fun g hg hg' => h.ne g hg' hg⟩
theorem Two.grow (h : Two B w e size v1 v2 n1 n2 xs1 xs2) (hg : w.grownBy w' v1.ownBlock) {g cap n : Nat} {xs : List Value} (ho : w'.ownsRow B e size (.slice (some ⟨g, 0, none⟩) n cap) n xs) (hat : v1.ownBlock = some g ∨ g = w.heap.size) : Two B w' e size (.slice (some ⟨g, 0, none⟩) n cap) v2 n n2 xs xs2 := by
  refine ⟨ho, h.o2.kept hg ?_, fun g' hg' hg2 => ?_⟩
  · cases q : v2.ownBlock with
    | none => exact .inl rfl
    | some g2 => exact .inr (fun e => h.ne g2 e.symm q)
  · simp only [Value.ownBlock, Option.some.injEq] at hg'
    subst hg'
    rcases hat with q | q
    · exact h.ne _ q hg2
    · have := own_in h.o2 hg2
      omega
end
end Go.Proofs.Ytdkaoopkbhaheaa
