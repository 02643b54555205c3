/- The program: facet.Check and facet.Area. -/
import Derived.Test.YtdkaoopkbhaheaaF11
namespace Go.Proofs.Ytdkaoopkbhaheaa
open Go.RowKit Go.Lib
open Jor
open scoped Classical
set_option linter.unusedVariables false
set_option linter.unusedSimpArgs false

set_option maxHeartbeats 1000000 in
theorem fcheck_any (b of cap : Nat) (A : Nat → Option Addr) (C : Nat → Nat) (rs : List (List IP)) (w : World) (hcap : rs.length ≤ cap) (hcm : cap ≤ 4611686018427387904) (hn : rs.length ≤ 1048576) (hsz : (verts rs).length ≤ 1048576) (hp : RingsL w (some ⟨b, of, none⟩) A C rs) :
    Calls Try.prog 22 #[.slice (some ⟨b, of, none⟩) rs.length cap] w fun e w' => e = .returned (.int .i64 (chkP rs)) ∧ Below w.heap.size w w' := by
  have hC := called b of cap A C rs w hcap hcm hn hsz hp
  go_enter Try.func22, Try.ntmps22
  go_wp2_with (go_at_call 50; refine (pcheck_of _ _ _ _ _ hn hC).mono ?_; rintro e w1 ⟨rfl, hb1⟩)
  go_ret
  exact ⟨rfl, hb1⟩

/-- What Area tells. -/
def areaP [∀ p : Prop, Decidable p] (rs : List (List IP)) : Int := if chkP rs = 0 then psum rs rs.length else 0
theorem chkP_zero {rs : List (List IP)} (h : chkP rs = 0) : ¬ Many rs ∧ ¬ Short rs ∧ ¬ Far rs := by
  unfold chkP first7 at h
  by_cases h1 : Many rs
  · rw [if_pos h1] at h; omega
  by_cases h2 : Short rs
  · rw [if_neg h1, if_pos h2] at h; omega
  by_cases h3 : Far rs
  · rw [if_neg h1, if_neg h2, if_pos h3] at h; omega
  exact ⟨h1, h2, h3⟩

set_option maxHeartbeats 2000000 in
theorem farea_any (b of cap : Nat) (A : Nat → Option Addr) (C : Nat → Nat) (rs : List (List IP)) (w : World) (hcap : rs.length ≤ cap) (hcm : cap ≤ 4611686018427387904) (hn : rs.length ≤ 1048576) (hsz : (verts rs).length ≤ 1048576) (hp : RingsL w (some ⟨b, of, none⟩) A C rs) :
    Calls Try.prog 21 #[.slice (some ⟨b, of, none⟩) rs.length cap] w fun e w' => e = .returned (.tuple #[.int .i64 (areaP rs), .int .i64 (chkP rs)]) ∧ Below w.heap.size w w' := by
  by_cases hz : chkP rs = 0
  · obtain ⟨g1, g2, g3⟩ := chkP_zero hz
    obtain ⟨f1, f2, f3⟩ := fine_of g1 g2
    have HA : areaP rs = psum rs rs.length := if_pos hz
    rw [HA, hz]
    have FC : Hid (∀ x, x = chkP rs → x = 0) := fun x hx => hx.trans hz
    go_enter Try.func21, Try.ntmps21
    go_wp2_with (first | (go_at_call 22; refine (fcheck_any _ _ _ _ _ _ _ hcap hcm hn hsz hp).mono ?_; rintro e w1 ⟨rfl, hb1⟩; rw [hz]) | (go_at_call 49; refine (parea_any _ _ _ _ _ _ _ hcap hcm f2 f1 f3 hsz (Rings.later hb1 hp)).mono ?_; rintro e w2 ⟨rfl, hb2⟩))
    go_ret2
    exact ⟨rfl, below_then hb1 hb2⟩
  · have HA : areaP rs = 0 := if_neg hz
    rw [HA]
    have hz' : (chkP rs == 0) = false := by rw [beq_eq_false_iff_ne]; exact hz
    go_enter Try.func21, Try.ntmps21
    go_wp2_with (go_at_call 22; refine (fcheck_any _ _ _ _ _ _ _ hcap hcm hn hsz hp).mono ?_; rintro e w1 ⟨rfl, hb1⟩)
    go_ret2
    exact ⟨rfl, hb1⟩
end Go.Proofs.Ytdkaoopkbhaheaa
