/- The document's Within. -/
import Derived.Test.YtdkaoopkbhaheaaB4
namespace Go.Proofs.Ytdkaoopkbhaheaa
open Go.RowKit
set_option linter.unusedVariables false
set_option linter.unusedSimpArgs false

/-- Points one behind another in memory. -/
def Pts (w : World) (a : Option Addr) (n : Nat) (ps : Nat → Int × Int) : Prop :=
  n = 0 ∨ ∃ b off, a = some ⟨b, off, none⟩ ∧ ∀ i, i < n → w.cell? ⟨b, off + i * 2, none⟩ = some (.int .i64 (ps i).1) ∧ w.cell? ⟨b, off + i * 2 + 1, none⟩ = some (.int .i64 (ps i).2)

/-- What an edge adds to the turns around a point. -/
def turnInc (px py ax ay bx bY : Int) : Int :=
  if ay ≤ py ∧ py < bY ∧ 0 < refTurn ax ay bx bY px py then 1 else if bY ≤ py ∧ py < ay ∧ refTurn ax ay bx bY px py < 0 then -1 else 0
theorem turnInc_bd (px py ax ay bx bY : Int) : -1 ≤ turnInc px py ax ay bx bY ∧ turnInc px py ax ay bx bY ≤ 1 := by
  unfold turnInc; split
  · omega
  · split <;> omega
/-- The turns behind k edges. -/
def turns (px py : Int) (n : Nat) (ps : Nat → Int × Int) : Nat → Int
  | 0 => 0
  | k + 1 => turns px py n ps k + turnInc px py (wrap64 (4 * (ps k).1)) (wrap64 (4 * (ps k).2)) (wrap64 (4 * (ps ((k + 1) % n)).1)) (wrap64 (4 * (ps ((k + 1) % n)).2))
theorem turns_bd (px py : Int) (n : Nat) (ps : Nat → Int × Int) (k : Nat) : -(k : Int) ≤ turns px py n ps k ∧ turns px py n ps k ≤ k := by
  induction k with
  | zero => simp [turns]
  | succ k ih =>
    have := turnInc_bd px py (wrap64 (4 * (ps k).1)) (wrap64 (4 * (ps k).2)) (wrap64 (4 * (ps ((k + 1) % n)).1)) (wrap64 (4 * (ps ((k + 1) % n)).2))
    rw [turns]; omega

set_option maxRecDepth 100000 in
set_option maxHeartbeats 4000000 in
theorem within_any (px py : Int) (a : Option Addr) (n cap : Nat) (ps : Nat → Int × Int) (w : World) (hn : n ≤ maxLen) (hp : Pts w a n ps) :
    Calls Try.prog 55 #[.agg #[.int .i64 px, .int .i64 py], .slice a n cap] w fun e w' => e = .returned (.bool (turns px py n ps n != 0)) ∧ Below w.heap.size w w' := by
  unfold maxLen at hn
  go_enter Try.func55, Try.ntmps55
  go_wp2
  go_loopw [5, 6, 7, 8] (fun t i _ _ wr => ∃ k : Nat, k ≤ n ∧ i = .int .i64 k ∧ t = .int .i64 (turns px py n ps k) ∧ Below w.heap.size w wr ∧ wr.cell? ⟨w.heap.size, 0, none⟩ = some (.int .i64 px) ∧ wr.cell? ⟨w.heap.size, 1, none⟩ = some (.int .i64 py)) (fun _ i _ _ _ => n - (intOf i).toNat)
  case atStart => exact ⟨0, Nat.zero_le _, rfl, rfl, (Below.refl _ _).alloc (Nat.le_refl _) _, by simp [go_sem], by simp [go_sem]⟩
  case round =>
    obtain ⟨k, hk, rfl, rfl, hb, hx, hy⟩ := hrel
    have tb := turns_bd px py n ps k
    by_cases hlt : k < n
    · rcases hp with h0 | ⟨b, off, rfl, hcell⟩
      · omega
      have hj : (k + 1) % n < n := Nat.mod_lt _ (by omega)
      have ts : Hid (turns px py n ps (k + 1) = turns px py n ps k + turnInc px py (wrap64 (4 * (ps k).1)) (wrap64 (4 * (ps k).2)) (wrap64 (4 * (ps ((k + 1) % n)).1)) (wrap64 (4 * (ps ((k + 1) % n)).2))) := rfl
      have c1 := cell_later hb (hcell k hlt).1
      have c2 := cell_later hb (hcell k hlt).2
      have c3 := cell_later hb (hcell _ hj).1
      have c4 := cell_later hb (hcell _ hj).2
      have hmod : ((k : Int) + 1).tmod (n : Int) = (((k + 1) % n : Nat) : Int) := by
        rw [Int.tmod_eq_emod_of_nonneg (by omega), Int.natCast_emod]; rfl
      have hw1 : IntKind.i64.wrap ((k : Int) + 1) = (k : Int) + 1 := by rw [wrap_i64]; exact wrap64_in _ (by omega) (by omega)
      generalize (k + 1) % n = j at *
      generalize (ps k).1 = ax0 at *
      generalize (ps k).2 = ay0 at *
      generalize (ps j).1 = bx0 at *
      generalize (ps j).2 = by0 at *
      have hk0 : (0 : Int) ≤ (k : Int) := by omega
      have hn0 : ¬ n = 0 := by omega
      have hn1 : ((n : Int) == 0) = false := by simp; omega
      have hkn : (k : Int) < (n : Int) := by omega
      have hj0 : (0 : Int) ≤ (j : Int) := by omega
      have hjn : (j : Int) < (n : Int) := by omega
      go_wp2
      go_region_held3 (fun w' => w'.cell? ⟨b, off + k * 2, none⟩ = some (.int .i64 ax0) ∧ w'.cell? ⟨b, off + k * 2 + 1, none⟩ = some (.int .i64 ay0) ∧ w'.cell? ⟨b, off + j * 2, none⟩ = some (.int .i64 bx0) ∧ w'.cell? ⟨b, off + j * 2 + 1, none⟩ = some (.int .i64 by0)) (go_keep) (fail)
      go_split_ands
      simp only [wrap_i64]
      generalize wrap64 (4 * ax0) = ax at *
      generalize wrap64 (4 * ay0) = ay at *
      go_wp2
      go_region_held3 (fun w' => w'.cell? ⟨b, off + j * 2, none⟩ = some (.int .i64 bx0) ∧ w'.cell? ⟨b, off + j * 2 + 1, none⟩ = some (.int .i64 by0)) (go_keep) (fail)
      go_split_ands
      simp only [wrap_i64]
      generalize wrap64 (4 * bx0) = bx at *
      generalize wrap64 (4 * by0) = bY at *
      have hlw : w.heap.size < wr.heap.size := World.block_lt_of_cell? _ _ hx
      have hbW : Below w.heap.size w ((wr.alloc (.cells #[.int .i64 ax, .int .i64 ay] 23)).alloc (.cells #[.int .i64 bx, .int .i64 bY] 23)).drew.drew := (((hb.alloc hb.size _).alloc (by have := hb.size; simp; omega) _).drew).drew
      have hxW : ((wr.alloc (.cells #[.int .i64 ax, .int .i64 ay] 23)).alloc (.cells #[.int .i64 bx, .int .i64 bY] 23)).drew.drew.cell? ⟨w.heap.size, 0, none⟩ = some (.int .i64 px) := cell_later ((((Below.refl _ _).alloc (Nat.le_refl _) _).alloc (by simp) _).drew.drew) hx
      have hyW : ((wr.alloc (.cells #[.int .i64 ax, .int .i64 ay] 23)).alloc (.cells #[.int .i64 bx, .int .i64 bY] 23)).drew.drew.cell? ⟨w.heap.size, 1, none⟩ = some (.int .i64 py) := cell_later ((((Below.refl _ _).alloc (Nat.le_refl _) _).alloc (by simp) _).drew.drew) hy
      have hBW : ((wr.alloc (.cells #[.int .i64 ax, .int .i64 ay] 23)).alloc (.cells #[.int .i64 bx, .int .i64 bY] 23)).drew.drew.cell? ⟨wr.heap.size + 1, 1, none⟩ = some (.int .i64 bY) := by simp [go_sem]
      by_cases u1 : ay ≤ py
      · by_cases u2 : py < bY
        · by_cases u3 : 0 < refTurn ax ay bx bY px py
          · skip
            have HI : Hid (turns px py n ps (k + 1) = turns px py n ps k + 1) := by
              show turns px py n ps (k + 1) = turns px py n ps k + 1
              rw [ts.out]; unfold turnInc; rw [if_pos (by exact ⟨by omega, by omega, by omega⟩)]
            clear ts
            go_wp2_with (go_at_call 15; refine (refTurn_any' _ _ _ _ _ _ _).mono ?_; rintro e w2 ⟨rfl, hb2⟩; have y1 := cell_later hb2 hyW; have y2 := cell_later hb2 hBW)
            go_roundw
            case rel => exact ⟨k + 1, by omega, by go_num, by rw [HI.out], below_then hbW hb2, cell_later hb2 hxW, cell_later hb2 hyW⟩
            case measure => simp [intOf]; omega
          · skip
            have HI : Hid (turns px py n ps (k + 1) = turns px py n ps k) := by
              show turns px py n ps (k + 1) = turns px py n ps k
              rw [ts.out]; unfold turnInc; rw [if_neg (by omega), if_neg (by omega)] <;> omega
            clear ts
            go_wp2_with (go_at_call 15; refine (refTurn_any' _ _ _ _ _ _ _).mono ?_; rintro e w2 ⟨rfl, hb2⟩; have y1 := cell_later hb2 hyW; have y2 := cell_later hb2 hBW)
            go_roundw
            case rel => exact ⟨k + 1, by omega, by go_num, by rw [HI.out], below_then hbW hb2, cell_later hb2 hxW, cell_later hb2 hyW⟩
            case measure => simp [intOf]; omega
        · skip
          have HI : Hid (turns px py n ps (k + 1) = turns px py n ps k) := by
            show turns px py n ps (k + 1) = turns px py n ps k
            rw [ts.out]; unfold turnInc; rw [if_neg (by omega), if_neg (by omega)] <;> omega
          clear ts
          go_wp2
          go_roundw
          case rel => exact ⟨k + 1, by omega, by go_num, by rw [HI.out], hbW, hxW, hyW⟩
          case measure => simp [intOf]; omega
      · by_cases u2 : bY ≤ py
        · by_cases u3 : refTurn ax ay bx bY px py < 0
          · skip
            have HI : Hid (turns px py n ps (k + 1) = turns px py n ps k - 1) := by
              show turns px py n ps (k + 1) = turns px py n ps k - 1
              rw [ts.out]; unfold turnInc; rw [if_neg (by omega), if_pos (by exact ⟨by omega, by omega, by omega⟩)] <;> omega
            clear ts
            go_wp2_with (go_at_call 15; refine (refTurn_any' _ _ _ _ _ _ _).mono ?_; rintro e w2 ⟨rfl, hb2⟩; have y1 := cell_later hb2 hyW; have y2 := cell_later hb2 hBW)
            go_roundw
            case rel => exact ⟨k + 1, by omega, by go_num, by rw [HI.out], below_then hbW hb2, cell_later hb2 hxW, cell_later hb2 hyW⟩
            case measure => simp [intOf]; omega
          · skip
            have HI : Hid (turns px py n ps (k + 1) = turns px py n ps k) := by
              show turns px py n ps (k + 1) = turns px py n ps k
              rw [ts.out]; unfold turnInc; rw [if_neg (by omega), if_neg (by omega)] <;> omega
            clear ts
            go_wp2_with (go_at_call 15; refine (refTurn_any' _ _ _ _ _ _ _).mono ?_; rintro e w2 ⟨rfl, hb2⟩; have y1 := cell_later hb2 hyW; have y2 := cell_later hb2 hBW)
            go_roundw
            case rel => exact ⟨k + 1, by omega, by go_num, by rw [HI.out], below_then hbW hb2, cell_later hb2 hxW, cell_later hb2 hyW⟩
            case measure => simp [intOf]; omega
        · skip
          have HI : Hid (turns px py n ps (k + 1) = turns px py n ps k) := by
            show turns px py n ps (k + 1) = turns px py n ps k
            rw [ts.out]; unfold turnInc; rw [if_neg (by omega), if_neg (by omega)] <;> omega
          clear ts
          go_wp2
          go_roundw
          case rel => exact ⟨k + 1, by omega, by go_num, by rw [HI.out], hbW, hxW, hyW⟩
          case measure => simp [intOf]; omega
    · have : k = n := by omega
      subst this
      go_wp2
      go_ret
      exact ⟨rfl, hb⟩
end Go.Proofs.Ytdkaoopkbhaheaa
