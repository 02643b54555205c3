/- The document's sizes: the first three tests. -/
import Derived.Test.YtdkaoopkbhaheaaB8
namespace Go.Proofs.Ytdkaoopkbhaheaa
open Go.RowKit
open Jor
open scoped Classical
set_option linter.unusedVariables false
set_option linter.unusedSimpArgs false

theorem ret2 {k : IntKind} {a b : Int} (h : a = b) : Ending.returned (.int k b) = .returned (.int k a) := by rw [h]
def szR [∀ p : Prop, Decidable p] (rs : List (List IP)) : Int := first7 (Many rs) (Short rs) (Far rs) False False False False
theorem sz_many {rs : List (List IP)} (h : Many rs) : szR rs = 1 := by unfold szR first7; rw [if_pos h]
theorem sz_short {rs : List (List IP)} (h : ¬ Many rs) (h2 : Short rs) : szR rs = 2 := by unfold szR first7; rw [if_neg h, if_pos h2]
theorem sz_far {rs : List (List IP)} (h : ¬ Many rs) (h2 : ¬ Short rs) (h3 : Far rs) : szR rs = 3 := by unfold szR first7; rw [if_neg h, if_neg h2, if_pos h3]
theorem sz_ok {rs : List (List IP)} (h : ¬ Many rs) (h2 : ¬ Short rs) (h3 : ¬ Far rs) : szR rs = 0 := by unfold szR first7; rw [if_neg h, if_neg h2, if_neg h3]; simp
theorem near_in (p : IP) : nearP p ↔ inB p.1 (-1048576) 1048576 = true ∧ inB p.2 (-1048576) 1048576 = true := by
  unfold nearP nearB inB
  simp only [decide_eq_true_eq]
  omega
theorem not_short {rs : List (List IP)} (h : ∀ k, k < rs.length → 3 ≤ (rg rs k).length) : ¬ Short rs := by
  rintro ⟨r, hr, hl⟩
  obtain ⟨k, hk, rfl⟩ := List.getElem_of_mem hr
  have := h k hk
  unfold rg at this
  rw [getD_elem _ _ _ hk] at this
  omega
theorem short_at {rs : List (List IP)} {k : Nat} (hk : k < rs.length) (h : (rg rs k).length < 3) : Short rs := ⟨_, rg_mem hk, h⟩
theorem not_far {rs : List (List IP)} (h : rs.flatten.length ≤ 64) (h2 : ∀ i, i < rs.flatten.length → nearP (pt rs.flatten i)) : ¬ Far rs := by
  rintro (hf | ⟨v, hv, hn⟩)
  · omega
  · obtain ⟨k, hk, rfl⟩ := List.getElem_of_mem hv
    have := h2 k hk
    unfold pt at this
    rw [getD_elem _ _ _ hk] at this
    exact hn this
theorem off_le (rs : List (List IP)) (k : Nat) (h : k ≤ rs.length) : off rs k ≤ rs.flatten.length := by
  rcases Nat.lt_or_ge k rs.length with h1 | h1
  · have := off_mono rs k rs.length h1 h1
    rw [off_end] at this; omega
  · rw [show k = rs.length by omega, off_end]; omega

/-- All vertices (a word that the walk does not lay open). -/
def verts (rs : List (List IP)) : List IP := rs.flatten
theorem off_end' (rs : List (List IP)) : off rs rs.length = (verts rs).length := off_end rs
theorem own_verts {w : World} {base : Nat} {e : TypeId} {v : Value} {rs : List (List IP)} (h : w.ownsRow base e 2 v rs.flatten.length (cells2 rs.flatten)) : ∃ a c, v = .slice a (verts rs).length c ∧ Pts w a (verts rs).length (pt (verts rs)) := pts_of_own h

theorem off_le' (rs : List (List IP)) (k : Nat) (h : k ≤ rs.length) : off rs k ≤ (verts rs).length := off_le rs k h

set_option maxRecDepth 100000 in
set_option maxHeartbeats 4000000 in
theorem sizes_any (a : Option Addr) (cap : Nat) (A : Nat → Option Addr) (C : Nat → Nat) (rs : List (List IP)) (w : World) (hn : rs.length ≤ 1048576) (hp : RingsL w a A C rs) (hsz : (verts rs).length ≤ 1048576) :
    Calls Try.prog 51 #[.slice a rs.length cap] w fun e w' => e = .returned (.int .i64 (szR rs)) ∧ Below w.heap.size w w' := by
  by_cases hm : Many rs
  · rw [sz_many hm]
    by_cases h1 : (rs.length : Int) < 1
    · go_enter Try.func51, Try.ntmps51
      go_wp2
      go_ret
      exact ⟨rfl, Below.refl _ _⟩
    · have h2 : (8 : Int) < (rs.length : Int) := by unfold Many at hm; omega
      go_enter Try.func51, Try.ntmps51
      go_wp2
      go_ret
      exact ⟨rfl, Below.refl _ _⟩
  have h1 : ¬ (rs.length : Int) < 1 := by unfold Many at hm; omega
  have h2 : ¬ (8 : Int) < (rs.length : Int) := by unfold Many at hm; omega
  have HM : Hid (¬ Many rs) := hm
  clear hm
  go_enter Try.func51, Try.ntmps51
  go_wp2
  go_loopw [3, 4] (fun s i wr => ∃ k : Nat, k ≤ rs.length ∧ i = .int .i64 k ∧ s = .int .i64 (off rs k) ∧ (∀ j, j < k → 3 ≤ (rg rs j).length) ∧ wr = w) (fun _ i _ => rs.length - (intOf i).toNat)
  case atStart => exact ⟨0, Nat.zero_le _, rfl, by rw [off_zero]; rfl, fun j h => absurd h (by omega), rfl⟩
  case round =>
    obtain ⟨k, hk, rfl, rfl, hall, rfl⟩ := hrel
    by_cases hlt : k < rs.length
    · have hp0 := hp
      rcases hp with h0 | ⟨b, of, rfl, hcell⟩
      · omega
      obtain ⟨hc0, hpk⟩ := hcell k hlt
      have hoff := off_succ rs k hlt
      have hlim := off_le' rs (k + 1) (by omega)
      have HA : Hid (∀ j, j < k → 3 ≤ (rg rs j).length) := hall
      clear hall hp0 hcell hpk
      have hk0 : (0 : Int) ≤ (k : Int) := by omega
      have hkn : (k : Int) < (rs.length : Int) := by omega
      by_cases hs : (rg rs k).length < 3
      · have HS : Hid (szR rs = 2) := sz_short HM.out (short_at hlt hs)
        go_wp2
        go_ret
        exact ⟨ret2 HS.out, Below.refl _ _⟩
      · have HO : Hid (off rs (k + 1) = off rs k + (rg rs k).length) := hoff
        have hb2 : off rs k + (rg rs k).length ≤ 1048576 := by omega
        clear hoff
        go_wp2
        go_roundw
        case rel =>
          refine ⟨k + 1, by omega, by go_num, ?_, fun j hj => ?_, by first | rfl | trivial⟩
          · rw [HO.out]
            go_num
          · rcases Nat.lt_or_ge j k with h | h
            · exact HA.out j h
            · rw [show j = k by omega]; omega
        case measure => simp [intOf]; omega
    · have : k = rs.length := by omega
      subst this
      have HS : Hid (¬ Short rs) := not_short hall
      have h3 : ∀ k, k < rs.length → 0 < (rg rs k).length := fun k hk => by have := hall k hk; omega
      rw [off_end']
      clear hall
      go_wp2_with (go_at_call 52; refine (points_any _ _ _ _ _ _ hn hp h3 hsz).mono ?_; rintro e w1 ⟨v, rfl, hown, hb1⟩; obtain ⟨a', c', rfl, hP⟩ := own_verts hown)
      go_loopw [6] (fun i wr => ∃ k : Nat, k ≤ (verts rs).length ∧ i = .int .i64 k ∧ (∀ j, j < k → nearP (pt (verts rs) j)) ∧ wr = w1) (fun i _ => (verts rs).length - (intOf i).toNat)
      case atStart => exact ⟨0, Nat.zero_le _, rfl, fun j h => absurd h (by omega), rfl⟩
      case round =>
        obtain ⟨k, hk, rfl, hall, rfl⟩ := hrel
        by_cases hlt : k < (verts rs).length
        · rcases hP with h0 | ⟨b, of, rfl, hcell⟩
          · omega
          obtain ⟨c1, c2⟩ := hcell k hlt
          have HA : Hid (∀ j, j < k → nearP (pt (verts rs) j)) := hall
          have NI : Hid (nearP (pt (verts rs) k) ↔ inB (pt (verts rs) k).1 (-1048576) 1048576 = true ∧ inB (pt (verts rs) k).2 (-1048576) 1048576 = true) := near_in _
          have FA : Hid (¬ nearP (pt (verts rs) k) → szR rs = 3) := fun h => sz_far HM.out HS.out (.inr ⟨_, pt_mem hlt, h⟩)
          have Pk : Hid (∀ j, j < k + 1 → j < k ∨ j = k) := fun j h => by omega
          clear hall hcell
          have hk0 : (0 : Int) ≤ (k : Int) := by omega
          have hkn : (k : Int) < ((verts rs).length : Int) := by omega
          generalize hV : pt (verts rs) k = V at *
          obtain ⟨x, y⟩ := V
          have HV : Hid (pt (verts rs) k = (x, y)) := hV
          clear hV
          simp only at c1 c2
          cases h1 : inB x (-1048576) 1048576
          · have HR : Hid (szR rs = 3) := FA.out (fun h => by have := (NI.out.1 h).1; rw [h1] at this; cases this)
            go_wp2_with (go_at_call 70; refine (in_any _ _ _ _).mono ?_; rintro e w2 ⟨rfl, hw2⟩; rw [hw2, h1]; clear hw2 w2)
            go_ret
            exact ⟨ret2 HR.out, hb1⟩
          · cases h2 : inB y (-1048576) 1048576
            · have HR : Hid (szR rs = 3) := FA.out (fun h => by have := (NI.out.1 h).2; rw [h2] at this; cases this)
              go_wp2_with (go_at_call 70; refine (in_any _ _ _ _).mono ?_; rintro e w2 ⟨rfl, hw2⟩; rw [hw2]; first | rw [h1] | rw [h2]; clear hw2 w2)
              go_ret
              exact ⟨ret2 HR.out, hb1⟩
            · go_wp2_with (go_at_call 70; refine (in_any _ _ _ _).mono ?_; rintro e w2 ⟨rfl, hw2⟩; rw [hw2]; first | rw [h1] | rw [h2]; clear hw2 w2)
              go_roundw
              case rel =>
                refine ⟨k + 1, by omega, by go_num, fun j hj => ?_, by first | rfl | trivial⟩
                rcases Pk.out j hj with h | h
                · exact HA.out j h
                · rw [h, HV.out]; exact NI.out.2 ⟨h1, h2⟩
              case measure => simp [intOf]; omega
        · have : k = (verts rs).length := by omega
          subst this
          by_cases h64 : (64 : Int) < ((verts rs).length : Int)
          · have HR : Hid (szR rs = 3) := sz_far HM.out HS.out (.inl (show 64 < (verts rs).length by omega))
            go_wp2
            go_ret
            exact ⟨ret2 HR.out, hb1⟩
          · have HR : Hid (szR rs = 0) := sz_ok HM.out HS.out (not_far (show (verts rs).length ≤ 64 by omega) hall)
            clear hall
            go_wp2
            go_ret
            exact ⟨ret2 HR.out, hb1⟩
end Go.Proofs.Ytdkaoopkbhaheaa
