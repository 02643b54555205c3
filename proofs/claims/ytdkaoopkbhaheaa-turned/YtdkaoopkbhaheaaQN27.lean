import Derived.Test.YtdkaoopkbhaheaaPP27
import Derived.Test.YtdkaoopkbhaheaaPN25
namespace Go.Proofs.Ytdkaoopkbhaheaa
open Go.RowKit Go.Lib
open Jor
set_option linter.unusedVariables false
set_option linter.unusedSimpArgs false
set_option maxRecDepth 100000 in
set_option maxHeartbeats 8000000 in
theorem kown_any (ad : Option Addr) (cap : Nat) (A : Nat → Option Addr) (C : Nat → Nat) (rs : List (List IP)) (a b : Nat) (w : World) (hn : rs.length ≤ 1048576) (hsz : (verts rs).length ≤ 1048576) (ha : a < (verts rs).length) (hb : b < (verts rs).length) (hp : RingsL w ad A C rs) :
    Calls Try.prog 39 #[.slice ad rs.length cap, .int .i64 (a : Int), .int .i64 (b : Int)] w fun e w' => ∃ r, e = .returned (.bool r) ∧ (r = true ↔ ∃ k, k < rs.length ∧ OwnK rs a b k) ∧ Below w.heap.size w w' := by
  have HP : Hid (RingsL w ad A C rs) := hp
  clear hp
  go_enter Try.func39, Try.ntmps39
  go_wp2
  go_loopw [7, 8, 9, 10] (fun x y _ _ wq => ∃ k : Nat, k ≤ rs.length ∧ x = .int .i64 (off rs k : Int) ∧ y = .int .i64 k ∧ (∀ j, j < k → ¬ OwnK rs a b j) ∧ wq = w) (fun _ y _ _ _ => rs.length - (intOf y).toNat)
  case atStart => exact ⟨0, Nat.zero_le _, by rw [off_zero]; rfl, rfl, fun j hj => by omega, rfl⟩
  case round =>
    obtain ⟨k, hk, rfl, rfl, hno, rfl⟩ := hrel
    have HNO : Hid (∀ j, j < k → ¬ OwnK rs a b j) := hno
    clear hno
    by_cases hlt : k < rs.length
    · obtain ⟨bb, oo, rfl, hc⟩ : ∃ bb oo, ad = some ⟨bb, oo, none⟩ ∧ wr.cell? ⟨bb, oo + k, none⟩ = some (.slice (A k) (rg rs k).length (C k)) := by
        rcases HP.out with h | ⟨bb, oo, e, h⟩
        · omega
        · exact ⟨bb, oo, e, (h k hlt).1⟩
      have HO : Hid (off rs (k + 1) = off rs k + (rg rs k).length) := off_succ rs k hlt
      have ho1 := off_le' rs (k + 1) (by omega)
      have k0 : (0 : Int) ≤ (k : Int) := by omega
      have kn : (k : Int) < (rs.length : Int) := by omega
      have NXT : Hid (¬ OwnK rs a b k → ∀ j, j < k + 1 → ¬ OwnK rs a b j) := fun h j hj => by
        rcases Nat.lt_or_ge j k with g | g
        · exact HNO.out j g
        · obtain rfl : j = k := by omega
          exact h
      rw [HO.out] at ho1
      have YES : Hid ((off rs k ≤ a ∧ a < off rs k + (rg rs k).length ∧ off rs k ≤ b ∧ b < off rs k + (rg rs k).length ∧ (a = b + 1 ∨ b = a + 1 ∨ a + 1 = b + (rg rs k).length ∨ b + 1 = a + (rg rs k).length)) → OwnK rs a b k) := id
      have NO : Hid (OwnK rs a b k → (off rs k ≤ a ∧ a < off rs k + (rg rs k).length ∧ off rs k ≤ b ∧ b < off rs k + (rg rs k).length ∧ (a = b + 1 ∨ b = a + 1 ∨ a + 1 = b + (rg rs k).length ∨ b + 1 = a + (rg rs k).length))) := id
      generalize (rg rs k).length = n at *
      generalize off rs k = f at *
      by_cases c1 : (f : Int) ≤ (a : Int)
      · -- within
        by_cases c2 : (a : Int) < (f : Int) + (n : Int)
        · -- within
          by_cases c3 : (f : Int) ≤ (b : Int)
          · -- within
            by_cases c4 : (b : Int) < (f : Int) + (n : Int)
            · -- within
              by_cases d1 : (a : Int) - (b : Int) = 1
              · have d1b : ((a : Int) - (b : Int) == 1) = true := beq_iff_eq.2 d1
                go_wp2
                go_ret
                exact ⟨true, rfl, ⟨fun _ => ⟨k, hlt, YES.out (by omega)⟩, fun _ => rfl⟩, Below.refl _ _⟩
              · have d1b : ((a : Int) - (b : Int) == 1) = false := beq_eq_false_iff_ne.2 d1
                by_cases d2 : (a : Int) - (b : Int) = -1
                · have d2b : ((a : Int) - (b : Int) == -1) = true := beq_iff_eq.2 d2
                  go_wp2
                  go_ret
                  exact ⟨true, rfl, ⟨fun _ => ⟨k, hlt, YES.out (by omega)⟩, fun _ => rfl⟩, Below.refl _ _⟩
                · have d2b : ((a : Int) - (b : Int) == -1) = false := beq_eq_false_iff_ne.2 d2
                  by_cases d3 : (a : Int) - (b : Int) = (n : Int) - 1
                  · have d3b : ((a : Int) - (b : Int) == (n : Int) - 1) = true := beq_iff_eq.2 d3
                    go_wp2
                    go_ret
                    exact ⟨true, rfl, ⟨fun _ => ⟨k, hlt, YES.out (by omega)⟩, fun _ => rfl⟩, Below.refl _ _⟩
                  · have d3b : ((a : Int) - (b : Int) == (n : Int) - 1) = false := beq_eq_false_iff_ne.2 d3
                    by_cases d4 : (a : Int) - (b : Int) = 1 - (n : Int)
                    · have d4b : ((a : Int) - (b : Int) == 1 - (n : Int)) = true := beq_iff_eq.2 d4
                      go_wp2
                      go_ret
                      exact ⟨true, rfl, ⟨fun _ => ⟨k, hlt, YES.out (by omega)⟩, fun _ => rfl⟩, Below.refl _ _⟩
                    · have d4b : ((a : Int) - (b : Int) == 1 - (n : Int)) = false := beq_eq_false_iff_ne.2 d4
                      go_wp2
                      go_roundw
                      case rel => exact ⟨k + 1, by omega, by rw [HO.out]; go_num, by go_num, NXT.out (fun h => by have := NO.out h; omega), by simp⟩
                      case measure => simp [intOf]; omega
            · have c4' := c4
              go_wp2
              go_roundw
              case rel => exact ⟨k + 1, by omega, by rw [HO.out]; go_num, by go_num, NXT.out (fun h => by have := NO.out h; omega), by simp⟩
              case measure => simp [intOf]; omega
          · have c3' := c3
            go_wp2
            go_roundw
            case rel => exact ⟨k + 1, by omega, by rw [HO.out]; go_num, by go_num, NXT.out (fun h => by have := NO.out h; omega), by simp⟩
            case measure => simp [intOf]; omega
        · have c2' := c2
          go_wp2
          go_roundw
          case rel => exact ⟨k + 1, by omega, by rw [HO.out]; go_num, by go_num, NXT.out (fun h => by have := NO.out h; omega), by simp⟩
          case measure => simp [intOf]; omega
      · have c1' := c1
        go_wp2
        go_roundw
        case rel => exact ⟨k + 1, by omega, by rw [HO.out]; go_num, by go_num, NXT.out (fun h => by have := NO.out h; omega), by simp⟩
        case measure => simp [intOf]; omega
    · have : k = rs.length := by omega
      subst this
      go_wp2
      go_ret
      exact ⟨false, rfl, ⟨fun h => absurd h (by simp), fun ⟨j, hj, h⟩ => absurd h (HNO.out j hj)⟩, Below.refl _ _⟩
end Go.Proofs.Ytdkaoopkbhaheaa
