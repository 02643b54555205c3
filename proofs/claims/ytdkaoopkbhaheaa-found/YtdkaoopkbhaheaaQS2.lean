import Derived.Test.YtdkaoopkbhaheaaQN24
import Derived.Test.YtdkaoopkbhaheaaPN19
namespace Go.Proofs.Ytdkaoopkbhaheaa
open Go.RowKit Go.Lib
open Jor
open scoped Classical
set_option linter.unusedVariables false
set_option linter.unusedSimpArgs false
set_option maxRecDepth 100000 in
set_option maxHeartbeats 4000000 in
theorem counted_wide (a : Option Addr) (cap : Nat) (A : Nat → Option Addr) (C : Nat → Nat) (rs : List (List IP)) (w : World) (hcap : rs.length ≤ cap) (hcm : cap ≤ 9223372036854775807) (hn : rs.length ≤ 8796093022208) (hr : ∀ k, (rg rs k).length ≤ 8796093022208) (hp : RingsL w a A C rs) :
    Calls Try.prog 6 #[.slice a rs.length cap] w fun e w' => e = .returned (.bool true) ∧ Below w.heap.size w w' := by
  by_cases hz : chkP rs = 0
  · exact counted_walk a cap A C rs w hcap hcm (wide_good hz).1 (wide_good hz).2 hp
  · have hz' : (chkP rs == 0) = false := by rw [beq_eq_false_iff_ne]; exact hz
    have hz2 : (chkP rs != 0) = true := by rw [bne, hz']; rfl
    have HR : Hid (∀ k, (rg rs k).length ≤ 8796093022208) := hr
    clear hr
    go_enter Try.func6, Try.ntmps6
    go_wp2_with (first
      | (go_at_call 27; refine (lives_any _).mono ?_; rintro e w1 ⟨rfl, hb1⟩)
      | (go_at_call 22; refine (fcheck3 _ _ _ _ _ _ hcap hcm hn HR.out (Rings.later hb1 hp)).mono ?_; rintro e w2 ⟨rfl, hb2⟩; have hb12 := below_then hb1 hb2)
      | (go_at_call 21; refine (farea3_bad _ _ _ _ _ _ hcap hcm hn HR.out (Rings.later hb12 hp) hz).mono ?_; rintro e w3 ⟨rfl, hb3⟩; have hb13 := below_then hb12 hb3)
      | (go_at_call 28; refine (fnew3_bad _ _ _ _ _ _ hcap hcm hn HR.out (Rings.later hb13 hp) hz).mono ?_; rintro e w4 ⟨rfl, hb4⟩; have hb14 := below_then hb13 hb4))
    go_ret
    exact ⟨by simp, hb14⟩
end Go.Proofs.Ytdkaoopkbhaheaa
