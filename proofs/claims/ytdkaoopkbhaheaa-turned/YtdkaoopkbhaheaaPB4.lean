import Derived.Test.YtdkaoopkbhaheaaPB1
import Derived.Test.YtdkaoopkbhaheaaPG0
namespace Go.Proofs.Ytdkaoopkbhaheaa
open Go.RowKit
set_option linter.unusedVariables false
set_option maxHeartbeats 400000 in
theorem four_any (x y : Int) (w : World) :
    Calls Try.prog 56 #[.agg #[.int .i64 x, .int .i64 y]] w fun e w' => e = .returned (.agg #[.int .i64 (wrap64 (4 * x)), .int .i64 (wrap64 (4 * y))]) ∧ Below w.heap.size w w' := by
  go_enter Try.func56, Try.ntmps56
  go_wp2
  exact bodyPost_ret (v := .agg #[.int .i64 (wrap64 (4 * x)), .int .i64 (wrap64 (4 * y))]) (by simp [results, Try.results56, go_sem]) rfl ⟨rfl, ((Below.refl _ _).alloc (Nat.le_refl _) _).alloc (by simp) _⟩
def badB (eA eB ePx ePy eQx eQy fA fB fPx fPy fQx fQy : Int) : Bool :=
  if eA = fB then onB eQx eQy fPx fPy fQx fQy || onB fPx fPy ePx ePy eQx eQy
  else if eB = fA then onB ePx ePy fPx fPy fQx fQy || onB fQx fQy ePx ePy eQx eQy
  else refMeetB ePx ePy eQx eQy fPx fPy fQx fQy
set_option maxHeartbeats 1000000 in
theorem bad_backa_true (eA eB eR ePx ePy eQx eQy fA fB fR fPx fPy fQx fQy : Int) (w : World) (ha : eA = fB) (hq : (eB == fA) = false) (h1 : onB eQx eQy fPx fPy fQx fQy = true) :
    Calls Try.prog 54 #[.agg #[.int .i64 eA, .int .i64 eB, .int .i64 eR, .int .i64 ePx, .int .i64 ePy, .int .i64 eQx, .int .i64 eQy], .agg #[.int .i64 fA, .int .i64 fB, .int .i64 fR, .int .i64 fPx, .int .i64 fPy, .int .i64 fQx, .int .i64 fQy]] w fun r w' => r = .returned (.bool (true)) ∧ Below w.heap.size w w' := by
  subst ha
  go_enter Try.func54, Try.ntmps54
  go_wp2_with fail
  refine (on_any _ _ _ _ _ _ _).mono ?_
  rintro e w1 ⟨rfl, hb1⟩
  obtain ⟨hc1, hf1⟩ := old_reads hb1
  go_wp2_with fail
  refine (on_any _ _ _ _ _ _ _).mono ?_
  rintro e w2 ⟨rfl, hb2⟩
  clear hc1 hf1
  go_wp2_with fail
  go_ret
  exact ⟨rfl, below_then (below_then (((((Below.refl _ _).alloc (Nat.le_refl _) _).alloc (by simp) _).alloc (by simp; omega) _).alloc (by simp; omega) _) hb1) hb2⟩
set_option maxHeartbeats 1000000 in
theorem bad_backa_false (eA eB eR ePx ePy eQx eQy fA fB fR fPx fPy fQx fQy : Int) (w : World) (ha : eA = fB) (hq : (eB == fA) = false) (h1 : onB eQx eQy fPx fPy fQx fQy = false) :
    Calls Try.prog 54 #[.agg #[.int .i64 eA, .int .i64 eB, .int .i64 eR, .int .i64 ePx, .int .i64 ePy, .int .i64 eQx, .int .i64 eQy], .agg #[.int .i64 fA, .int .i64 fB, .int .i64 fR, .int .i64 fPx, .int .i64 fPy, .int .i64 fQx, .int .i64 fQy]] w fun r w' => r = .returned (.bool (onB fPx fPy ePx ePy eQx eQy)) ∧ Below w.heap.size w w' := by
  subst ha
  go_enter Try.func54, Try.ntmps54
  go_wp2_with fail
  refine (on_any _ _ _ _ _ _ _).mono ?_
  rintro e w1 ⟨rfl, hb1⟩
  obtain ⟨hc1, hf1⟩ := old_reads hb1
  go_wp2_with fail
  refine (on_any _ _ _ _ _ _ _).mono ?_
  rintro e w2 ⟨rfl, hb2⟩
  clear hc1 hf1
  go_wp2_with fail
  go_ret
  exact ⟨rfl, below_then (below_then (((((Below.refl _ _).alloc (Nat.le_refl _) _).alloc (by simp) _).alloc (by simp; omega) _).alloc (by simp; omega) _) hb1) hb2⟩
set_option maxHeartbeats 1000000 in
theorem bad_backb_true (eA eB eR ePx ePy eQx eQy fA fB fR fPx fPy fQx fQy : Int) (w : World) (ha : eA = fB) (hq : eB = fA) (h1 : onB eQx eQy fPx fPy fQx fQy = true) :
    Calls Try.prog 54 #[.agg #[.int .i64 eA, .int .i64 eB, .int .i64 eR, .int .i64 ePx, .int .i64 ePy, .int .i64 eQx, .int .i64 eQy], .agg #[.int .i64 fA, .int .i64 fB, .int .i64 fR, .int .i64 fPx, .int .i64 fPy, .int .i64 fQx, .int .i64 fQy]] w fun r w' => r = .returned (.bool (true)) ∧ Below w.heap.size w w' := by
  subst ha hq
  go_enter Try.func54, Try.ntmps54
  go_wp2_with fail
  refine (on_any _ _ _ _ _ _ _).mono ?_
  rintro e w1 ⟨rfl, hb1⟩
  obtain ⟨hc1, hf1⟩ := old_reads hb1
  go_wp2_with fail
  refine (on_any _ _ _ _ _ _ _).mono ?_
  rintro e w2 ⟨rfl, hb2⟩
  clear hc1 hf1
  go_wp2_with fail
  go_ret
  exact ⟨rfl, below_then (below_then (((((Below.refl _ _).alloc (Nat.le_refl _) _).alloc (by simp) _).alloc (by simp; omega) _).alloc (by simp; omega) _) hb1) hb2⟩
set_option maxHeartbeats 1000000 in
theorem bad_backb_false (eA eB eR ePx ePy eQx eQy fA fB fR fPx fPy fQx fQy : Int) (w : World) (ha : eA = fB) (hq : eB = fA) (h1 : onB eQx eQy fPx fPy fQx fQy = false) :
    Calls Try.prog 54 #[.agg #[.int .i64 eA, .int .i64 eB, .int .i64 eR, .int .i64 ePx, .int .i64 ePy, .int .i64 eQx, .int .i64 eQy], .agg #[.int .i64 fA, .int .i64 fB, .int .i64 fR, .int .i64 fPx, .int .i64 fPy, .int .i64 fQx, .int .i64 fQy]] w fun r w' => r = .returned (.bool (onB fPx fPy ePx ePy eQx eQy)) ∧ Below w.heap.size w w' := by
  subst ha hq
  go_enter Try.func54, Try.ntmps54
  go_wp2_with fail
  refine (on_any _ _ _ _ _ _ _).mono ?_
  rintro e w1 ⟨rfl, hb1⟩
  obtain ⟨hc1, hf1⟩ := old_reads hb1
  go_wp2_with fail
  refine (on_any _ _ _ _ _ _ _).mono ?_
  rintro e w2 ⟨rfl, hb2⟩
  clear hc1 hf1
  go_wp2_with fail
  go_ret
  exact ⟨rfl, below_then (below_then (((((Below.refl _ _).alloc (Nat.le_refl _) _).alloc (by simp) _).alloc (by simp; omega) _).alloc (by simp; omega) _) hb1) hb2⟩
set_option maxHeartbeats 1000000 in
theorem bad_next_true (eA eB eR ePx ePy eQx eQy fA fB fR fPx fPy fQx fQy : Int) (w : World) (hb : eB = fA) (ha : (eA == fB) = false) (h1 : onB ePx ePy fPx fPy fQx fQy = true) :
    Calls Try.prog 54 #[.agg #[.int .i64 eA, .int .i64 eB, .int .i64 eR, .int .i64 ePx, .int .i64 ePy, .int .i64 eQx, .int .i64 eQy], .agg #[.int .i64 fA, .int .i64 fB, .int .i64 fR, .int .i64 fPx, .int .i64 fPy, .int .i64 fQx, .int .i64 fQy]] w fun r w' => r = .returned (.bool (true)) ∧ Below w.heap.size w w' := by
  subst hb
  go_enter Try.func54, Try.ntmps54
  go_wp2_with fail
  refine (on_any _ _ _ _ _ _ _).mono ?_
  rintro e w1 ⟨rfl, hb1⟩
  obtain ⟨hc1, hf1⟩ := old_reads hb1
  go_wp2_with fail
  refine (on_any _ _ _ _ _ _ _).mono ?_
  rintro e w2 ⟨rfl, hb2⟩
  clear hc1 hf1
  go_wp2_with fail
  go_ret
  exact ⟨rfl, below_then (below_then (((((Below.refl _ _).alloc (Nat.le_refl _) _).alloc (by simp) _).alloc (by simp; omega) _).alloc (by simp; omega) _) hb1) hb2⟩
set_option maxHeartbeats 1000000 in
theorem bad_next_false (eA eB eR ePx ePy eQx eQy fA fB fR fPx fPy fQx fQy : Int) (w : World) (hb : eB = fA) (ha : (eA == fB) = false) (h1 : onB ePx ePy fPx fPy fQx fQy = false) :
    Calls Try.prog 54 #[.agg #[.int .i64 eA, .int .i64 eB, .int .i64 eR, .int .i64 ePx, .int .i64 ePy, .int .i64 eQx, .int .i64 eQy], .agg #[.int .i64 fA, .int .i64 fB, .int .i64 fR, .int .i64 fPx, .int .i64 fPy, .int .i64 fQx, .int .i64 fQy]] w fun r w' => r = .returned (.bool (onB fQx fQy ePx ePy eQx eQy)) ∧ Below w.heap.size w w' := by
  subst hb
  go_enter Try.func54, Try.ntmps54
  go_wp2_with fail
  refine (on_any _ _ _ _ _ _ _).mono ?_
  rintro e w1 ⟨rfl, hb1⟩
  obtain ⟨hc1, hf1⟩ := old_reads hb1
  go_wp2_with fail
  refine (on_any _ _ _ _ _ _ _).mono ?_
  rintro e w2 ⟨rfl, hb2⟩
  clear hc1 hf1
  go_wp2_with fail
  go_ret
  exact ⟨rfl, below_then (below_then (((((Below.refl _ _).alloc (Nat.le_refl _) _).alloc (by simp) _).alloc (by simp; omega) _).alloc (by simp; omega) _) hb1) hb2⟩
set_option maxHeartbeats 1000000 in
theorem bad_far (eA eB eR ePx ePy eQx eQy fA fB fR fPx fPy fQx fQy : Int) (w : World) (hb : (eB == fA) = false) (ha : (eA == fB) = false) :
    Calls Try.prog 54 #[.agg #[.int .i64 eA, .int .i64 eB, .int .i64 eR, .int .i64 ePx, .int .i64 ePy, .int .i64 eQx, .int .i64 eQy], .agg #[.int .i64 fA, .int .i64 fB, .int .i64 fR, .int .i64 fPx, .int .i64 fPy, .int .i64 fQx, .int .i64 fQy]] w fun r w' => r = .returned (.bool (refMeetB ePx ePy eQx eQy fPx fPy fQx fQy)) ∧ Below w.heap.size w w' := by
  go_enter Try.func54, Try.ntmps54
  go_wp2_with fail
  refine (refMeet_any _ _ _ _ _ _ _ _ _).mono ?_
  rintro e w1 ⟨rfl, hb1⟩
  go_wp2_with fail
  go_ret
  exact ⟨rfl, below_then (((Below.refl _ _).alloc (Nat.le_refl _) _).alloc (by simp) _) hb1⟩
theorem bad_any (eA eB eR ePx ePy eQx eQy fA fB fR fPx fPy fQx fQy : Int) (w : World) :
    Calls Try.prog 54 #[.agg #[.int .i64 eA, .int .i64 eB, .int .i64 eR, .int .i64 ePx, .int .i64 ePy, .int .i64 eQx, .int .i64 eQy], .agg #[.int .i64 fA, .int .i64 fB, .int .i64 fR, .int .i64 fPx, .int .i64 fPy, .int .i64 fQx, .int .i64 fQy]] w fun r w' => r = .returned (.bool (badB eA eB ePx ePy eQx eQy fA fB fPx fPy fQx fQy)) ∧ Below w.heap.size w w' := by
  unfold badB
  by_cases ha : eA = fB
  · rw [if_pos ha]
    cases h1 : onB eQx eQy fPx fPy fQx fQy
    · by_cases hq : eB = fA
      · exact bad_backb_false eA eB eR ePx ePy eQx eQy fA fB fR fPx fPy fQx fQy w ha hq h1
      · exact bad_backa_false eA eB eR ePx ePy eQx eQy fA fB fR fPx fPy fQx fQy w ha (beq_eq_false_iff_ne.2 hq) h1
    · by_cases hq : eB = fA
      · exact bad_backb_true eA eB eR ePx ePy eQx eQy fA fB fR fPx fPy fQx fQy w ha hq h1
      · exact bad_backa_true eA eB eR ePx ePy eQx eQy fA fB fR fPx fPy fQx fQy w ha (beq_eq_false_iff_ne.2 hq) h1
  · rw [if_neg ha]
    by_cases hb : eB = fA
    · rw [if_pos hb]
      cases h1 : onB ePx ePy fPx fPy fQx fQy
      · exact bad_next_false eA eB eR ePx ePy eQx eQy fA fB fR fPx fPy fQx fQy w hb (beq_eq_false_iff_ne.2 ha) h1
      · exact bad_next_true eA eB eR ePx ePy eQx eQy fA fB fR fPx fPy fQx fQy w hb (beq_eq_false_iff_ne.2 ha) h1
    · rw [if_neg hb]
      exact bad_far eA eB eR ePx ePy eQx eQy fA fB fR fPx fPy fQx fQy w (beq_eq_false_iff_ne.2 hb) (beq_eq_false_iff_ne.2 ha)
end Go.Proofs.Ytdkaoopkbhaheaa
namespace Go.Proofs.Ytdkaoopkbhaheaa
open Go.RowKit
set_option linter.unusedVariables false
set_option linter.unusedSimpArgs false
def Pts (w : World) (a : Option Addr) (n : Nat) (ps : Nat → Int × Int) : Prop :=
  n = 0 ∨ ∃ b off, a = some ⟨b, off, none⟩ ∧ ∀ i, i < n → w.cell? ⟨b, off + i * 2, none⟩ = some (.int .i64 (ps i).1) ∧ w.cell? ⟨b, off + i * 2 + 1, none⟩ = some (.int .i64 (ps i).2)
def turnInc (px py ax ay bx bY : Int) : Int :=
  if ay ≤ py ∧ py < bY ∧ 0 < refTurn ax ay bx bY px py then 1 else if bY ≤ py ∧ py < ay ∧ refTurn ax ay bx bY px py < 0 then -1 else 0
theorem turnInc_bd (px py ax ay bx bY : Int) : -1 ≤ turnInc px py ax ay bx bY ∧ turnInc px py ax ay bx bY ≤ 1 := by
  unfold turnInc; split
  · omega
  · split <;> omega
def turns (px py : Int) (n : Nat) (ps : Nat → Int × Int) : Nat → Int
  | 0 => 0
  | k + 1 => turns px py n ps k + turnInc px py (wrap64 (4 * (ps k).1)) (wrap64 (4 * (ps k).2)) (wrap64 (4 * (ps ((k + 1) % n)).1)) (wrap64 (4 * (ps ((k + 1) % n)).2))
theorem turns_bd (px py : Int) (n : Nat) (ps : Nat → Int × Int) (k : Nat) : -(k : Int) ≤ turns px py n ps k ∧ turns px py n ps k ≤ k := by
  induction k with
  | zero => simp [turns]
  | succ k ih =>
    have := turnInc_bd px py (wrap64 (4 * (ps k).1)) (wrap64 (4 * (ps k).2)) (wrap64 (4 * (ps ((k + 1) % n)).1)) (wrap64 (4 * (ps ((k + 1) % n)).2))
    rw [turns]; omega
set_option maxRecDepth 100000 in
set_option maxHeartbeats 4000000 in
theorem within_any (px py : Int) (a : Option Addr) (n cap : Nat) (ps : Nat → Int × Int) (w : World) (hn : n ≤ maxLen) (hp : Pts w a n ps) :
    Calls Try.prog 55 #[.agg #[.int .i64 px, .int .i64 py], .slice a n cap] w fun e w' => e = .returned (.bool (turns px py n ps n != 0)) ∧ Below w.heap.size w w' := by
  unfold maxLen at hn
  go_enter Try.func55, Try.ntmps55
  go_wp2
  go_loopw [5, 6, 7, 8] (fun t i _ _ wr => ∃ k : Nat, k ≤ n ∧ i = .int .i64 k ∧ t = .int .i64 (turns px py n ps k) ∧ Below w.heap.size w wr ∧ wr.cell? ⟨w.heap.size, 0, none⟩ = some (.int .i64 px) ∧ wr.cell? ⟨w.heap.size, 1, none⟩ = some (.int .i64 py)) (fun _ i _ _ _ => n - (intOf i).toNat)
  case atStart => exact ⟨0, Nat.zero_le _, rfl, rfl, (Below.refl _ _).alloc (Nat.le_refl _) _, by simp [go_sem], by simp [go_sem]⟩
  case round =>
    obtain ⟨k, hk, rfl, rfl, hb, hx, hy⟩ := hrel
    have tb := turns_bd px py n ps k
    by_cases hlt : k < n
    · rcases hp with h0 | ⟨b, off, rfl, hcell⟩
      · omega
      have hj : (k + 1) % n < n := Nat.mod_lt _ (by omega)
      have ts : Hid (turns px py n ps (k + 1) = turns px py n ps k + turnInc px py (wrap64 (4 * (ps k).1)) (wrap64 (4 * (ps k).2)) (wrap64 (4 * (ps ((k + 1) % n)).1)) (wrap64 (4 * (ps ((k + 1) % n)).2))) := rfl
      have c1 := cell_later hb (hcell k hlt).1
      have c2 := cell_later hb (hcell k hlt).2
      have c3 := cell_later hb (hcell _ hj).1
      have c4 := cell_later hb (hcell _ hj).2
      have hmod : ((k : Int) + 1).tmod (n : Int) = (((k + 1) % n : Nat) : Int) := by
        rw [Int.tmod_eq_emod_of_nonneg (by omega), Int.natCast_emod]; rfl
      have hw1 : IntKind.i64.wrap ((k : Int) + 1) = (k : Int) + 1 := by rw [wrap_i64]; exact wrap64_in _ (by omega) (by omega)
      generalize (k + 1) % n = j at *
      generalize (ps k).1 = ax0 at *
      generalize (ps k).2 = ay0 at *
      generalize (ps j).1 = bx0 at *
      generalize (ps j).2 = by0 at *
      have hk0 : (0 : Int) ≤ (k : Int) := by omega
      have hn0 : ¬ n = 0 := by omega
      have hn1 : ((n : Int) == 0) = false := by simp; omega
      have hkn : (k : Int) < (n : Int) := by omega
      have hj0 : (0 : Int) ≤ (j : Int) := by omega
      have hjn : (j : Int) < (n : Int) := by omega
      go_wp2
      go_region_held3 (fun w' => w'.cell? ⟨b, off + k * 2, none⟩ = some (.int .i64 ax0) ∧ w'.cell? ⟨b, off + k * 2 + 1, none⟩ = some (.int .i64 ay0) ∧ w'.cell? ⟨b, off + j * 2, none⟩ = some (.int .i64 bx0) ∧ w'.cell? ⟨b, off + j * 2 + 1, none⟩ = some (.int .i64 by0)) (go_keep) (fail)
      go_split_ands
      simp only [wrap_i64]
      generalize wrap64 (4 * ax0) = ax at *
      generalize wrap64 (4 * ay0) = ay at *
      go_wp2
      go_region_held3 (fun w' => w'.cell? ⟨b, off + j * 2, none⟩ = some (.int .i64 bx0) ∧ w'.cell? ⟨b, off + j * 2 + 1, none⟩ = some (.int .i64 by0)) (go_keep) (fail)
      go_split_ands
      simp only [wrap_i64]
      generalize wrap64 (4 * bx0) = bx at *
      generalize wrap64 (4 * by0) = bY at *
      have hlw : w.heap.size < wr.heap.size := World.block_lt_of_cell? _ _ hx
      have hbW : Below w.heap.size w ((wr.alloc (.cells #[.int .i64 ax, .int .i64 ay] 23)).alloc (.cells #[.int .i64 bx, .int .i64 bY] 23)).drew.drew := (((hb.alloc hb.size _).alloc (by have := hb.size; simp; omega) _).drew).drew
      have hxW : ((wr.alloc (.cells #[.int .i64 ax, .int .i64 ay] 23)).alloc (.cells #[.int .i64 bx, .int .i64 bY] 23)).drew.drew.cell? ⟨w.heap.size, 0, none⟩ = some (.int .i64 px) := cell_later ((((Below.refl _ _).alloc (Nat.le_refl _) _).alloc (by simp) _).drew.drew) hx
      have hyW : ((wr.alloc (.cells #[.int .i64 ax, .int .i64 ay] 23)).alloc (.cells #[.int .i64 bx, .int .i64 bY] 23)).drew.drew.cell? ⟨w.heap.size, 1, none⟩ = some (.int .i64 py) := cell_later ((((Below.refl _ _).alloc (Nat.le_refl _) _).alloc (by simp) _).drew.drew) hy
      have hBW : ((wr.alloc (.cells #[.int .i64 ax, .int .i64 ay] 23)).alloc (.cells #[.int .i64 bx, .int .i64 bY] 23)).drew.drew.cell? ⟨wr.heap.size + 1, 1, none⟩ = some (.int .i64 bY) := by simp [go_sem]
      by_cases u1 : ay ≤ py
      · by_cases u2 : py < bY
        · by_cases u3 : 0 < refTurn ax ay bx bY px py
          · skip
            have HI : Hid (turns px py n ps (k + 1) = turns px py n ps k + 1) := by
              show turns px py n ps (k + 1) = turns px py n ps k + 1
              rw [ts.out]; unfold turnInc; rw [if_pos (by exact ⟨by omega, by omega, by omega⟩)]
            clear ts
            go_wp2_with (go_at_call 15; refine (refTurn_any' _ _ _ _ _ _ _).mono ?_; rintro e w2 ⟨rfl, hb2⟩; have y1 := cell_later hb2 hyW; have y2 := cell_later hb2 hBW)
            go_roundw
            case rel => exact ⟨k + 1, by omega, by go_num, by rw [HI.out], below_then hbW hb2, cell_later hb2 hxW, cell_later hb2 hyW⟩
            case measure => simp [intOf]; omega
          · skip
            have HI : Hid (turns px py n ps (k + 1) = turns px py n ps k) := by
              show turns px py n ps (k + 1) = turns px py n ps k
              rw [ts.out]; unfold turnInc; rw [if_neg (by omega), if_neg (by omega)] <;> omega
            clear ts
            go_wp2_with (go_at_call 15; refine (refTurn_any' _ _ _ _ _ _ _).mono ?_; rintro e w2 ⟨rfl, hb2⟩; have y1 := cell_later hb2 hyW; have y2 := cell_later hb2 hBW)
            go_roundw
            case rel => exact ⟨k + 1, by omega, by go_num, by rw [HI.out], below_then hbW hb2, cell_later hb2 hxW, cell_later hb2 hyW⟩
            case measure => simp [intOf]; omega
        · skip
          have HI : Hid (turns px py n ps (k + 1) = turns px py n ps k) := by
            show turns px py n ps (k + 1) = turns px py n ps k
            rw [ts.out]; unfold turnInc; rw [if_neg (by omega), if_neg (by omega)] <;> omega
          clear ts
          go_wp2
          go_roundw
          case rel => exact ⟨k + 1, by omega, by go_num, by rw [HI.out], hbW, hxW, hyW⟩
          case measure => simp [intOf]; omega
      · by_cases u2 : bY ≤ py
        · by_cases u3 : refTurn ax ay bx bY px py < 0
          · skip
            have HI : Hid (turns px py n ps (k + 1) = turns px py n ps k - 1) := by
              show turns px py n ps (k + 1) = turns px py n ps k - 1
              rw [ts.out]; unfold turnInc; rw [if_neg (by omega), if_pos (by exact ⟨by omega, by omega, by omega⟩)] <;> omega
            clear ts
            go_wp2_with (go_at_call 15; refine (refTurn_any' _ _ _ _ _ _ _).mono ?_; rintro e w2 ⟨rfl, hb2⟩; have y1 := cell_later hb2 hyW; have y2 := cell_later hb2 hBW)
            go_roundw
            case rel => exact ⟨k + 1, by omega, by go_num, by rw [HI.out], below_then hbW hb2, cell_later hb2 hxW, cell_later hb2 hyW⟩
            case measure => simp [intOf]; omega
          · skip
            have HI : Hid (turns px py n ps (k + 1) = turns px py n ps k) := by
              show turns px py n ps (k + 1) = turns px py n ps k
              rw [ts.out]; unfold turnInc; rw [if_neg (by omega), if_neg (by omega)] <;> omega
            clear ts
            go_wp2_with (go_at_call 15; refine (refTurn_any' _ _ _ _ _ _ _).mono ?_; rintro e w2 ⟨rfl, hb2⟩; have y1 := cell_later hb2 hyW; have y2 := cell_later hb2 hBW)
            go_roundw
            case rel => exact ⟨k + 1, by omega, by go_num, by rw [HI.out], below_then hbW hb2, cell_later hb2 hxW, cell_later hb2 hyW⟩
            case measure => simp [intOf]; omega
        · skip
          have HI : Hid (turns px py n ps (k + 1) = turns px py n ps k) := by
            show turns px py n ps (k + 1) = turns px py n ps k
            rw [ts.out]; unfold turnInc; rw [if_neg (by omega), if_neg (by omega)] <;> omega
          clear ts
          go_wp2
          go_roundw
          case rel => exact ⟨k + 1, by omega, by go_num, by rw [HI.out], hbW, hxW, hyW⟩
          case measure => simp [intOf]; omega
    · have : k = n := by omega
      subst this
      go_wp2
      go_ret
      exact ⟨rfl, hb⟩
end Go.Proofs.Ytdkaoopkbhaheaa
namespace Go.Proofs.Ytdkaoopkbhaheaa
open Go.RowKit
set_option linter.unusedVariables false
set_option linter.unusedSimpArgs false
theorem Pts.later {w1 w2 : World} {a : Option Addr} {n : Nat} {ps : Nat → Int × Int} (hb : Below w1.heap.size w1 w2) (h : Pts w1 a n ps) : Pts w2 a n ps := by
  rcases h with h | ⟨b, off, e, hc⟩
  · exact .inl h
  · exact .inr ⟨b, off, e, fun i hi => ⟨cell_later hb (hc i hi).1, cell_later hb (hc i hi).2⟩⟩
def Rings (w : World) (a : Option Addr) (n : Nat) (A : Nat → Option Addr) (L C : Nat → Nat) (P : Nat → Nat → Int × Int) : Prop :=
  n = 0 ∨ ∃ b off, a = some ⟨b, off, none⟩ ∧ ∀ k, k < n → w.cell? ⟨b, off + k, none⟩ = some (.slice (A k) (L k) (C k)) ∧ Pts w (A k) (L k) (P k)
theorem Rings.later {w1 w2 : World} {a : Option Addr} {n : Nat} {A : Nat → Option Addr} {L C : Nat → Nat} {P : Nat → Nat → Int × Int} (hb : Below w1.heap.size w1 w2) (h : Rings w1 a n A L C P) : Rings w2 a n A L C P := by
  rcases h with h | ⟨b, off, e, hc⟩
  · exact .inl h
  · exact .inr ⟨b, off, e, fun i hi => ⟨cell_later hb (hc i hi).1, Pts.later hb (hc i hi).2⟩⟩
def rsum (L : Nat) (P : Nat → Int × Int) : Nat → Int
  | 0 => 0
  | i + 1 => wrap64 (wrap64 (rsum L P i + wrap64 ((P i).1 * (P ((i + 1) % L)).2)) - wrap64 ((P i).2 * (P ((i + 1) % L)).1))
def rabs (a : Int) : Int := if a < 0 then wrap64 (-a) else a
def asum (L : Nat → Nat) (P : Nat → Nat → Int × Int) : Nat → Int
  | 0 => 0
  | k + 1 => wrap64 (asum L P k + if 0 < k then wrap64 (-(rabs (rsum (L k) (P k) (L k)))) else rabs (rsum (L k) (P k) (L k)))
set_option maxRecDepth 100000 in
set_option maxHeartbeats 4000000 in
theorem refArea_any (a : Option Addr) (n cap : Nat) (A : Nat → Option Addr) (L C : Nat → Nat) (P : Nat → Nat → Int × Int) (w : World) (hn : n ≤ maxLen) (hL : ∀ k, k < n → L k ≤ maxLen) (hp : Rings w a n A L C P) :
    Calls Try.prog 26 #[.slice a n cap] w fun e w' => e = .returned (.int .i64 (asum L P n)) ∧ Below w.heap.size w w' := by
  unfold maxLen at hn hL
  go_enter Try.func26, Try.ntmps26
  go_wp2
  go_loopw [3, 4, 5, 6, 7, 8] (fun t i _ _ _ _ wr => ∃ k : Nat, k ≤ n ∧ i = .int .i64 k ∧ t = .int .i64 (asum L P k) ∧ Below w.heap.size w wr) (fun _ i _ _ _ _ _ => n - (intOf i).toNat)
  case atStart => exact ⟨0, Nat.zero_le _, rfl, rfl, Below.refl _ _⟩
  case round =>
    obtain ⟨k, hk, rfl, rfl, hb⟩ := hrel
    by_cases hlt : k < n
    · rcases hp with h0 | ⟨b, off, rfl, hcell⟩
      · omega
      obtain ⟨hc0, hpk⟩ := hcell k hlt
      have hLk := hL k hlt
      have hk0 : (0 : Int) ≤ (k : Int) := by omega
      have hkn : (k : Int) < (n : Int) := by omega
      generalize hLL : L k = l at *
      generalize hAA : A k = ak at *
      generalize hCC : C k = ck at *
      generalize hPP : P k = pk at *
      have HN : Hid (L k = l ∧ P k = pk) := ⟨hLL, hPP⟩
      clear hLL hAA hCC hPP
      have hc1 := cell_later hb hc0
      go_wp2
      go_loopw [5, 6, 7, 8] (fun s j _ _ wq => ∃ i : Nat, i ≤ l ∧ j = .int .i64 i ∧ s = .int .i64 (rsum l pk i) ∧ Below w.heap.size w wq) (fun _ j _ _ _ => l - (intOf j).toNat)
      case atStart => exact ⟨0, Nat.zero_le _, rfl, rfl, hb⟩
      case round =>
        clear hc1
        obtain ⟨i, hi, rfl, rfl, hbq⟩ := hrel
        have hc1 := cell_later hbq hc0
        by_cases hil : i < l
        · rcases hpk with h0 | ⟨b', off', rfl, hps⟩
          · omega
          have hj : (i + 1) % l < l := Nat.mod_lt _ (by omega)
          have ts : Hid (rsum l pk (i + 1) = wrap64 (wrap64 (rsum l pk i + wrap64 ((pk i).1 * (pk ((i + 1) % l)).2)) - wrap64 ((pk i).2 * (pk ((i + 1) % l)).1))) := rfl
          have c1 := cell_later hbq (hps i hil).1
          have c2 := cell_later hbq (hps i hil).2
          have c3 := cell_later hbq (hps _ hj).1
          have c4 := cell_later hbq (hps _ hj).2
          have hmod : ((i : Int) + 1).tmod (l : Int) = (((i + 1) % l : Nat) : Int) := by
            rw [Int.tmod_eq_emod_of_nonneg (by omega), Int.natCast_emod]; rfl
          have hw1 : IntKind.i64.wrap ((i : Int) + 1) = (i : Int) + 1 := by rw [wrap_i64]; exact wrap64_in _ (by omega) (by omega)
          generalize (i + 1) % l = j at *
          generalize (pk i).1 = x1 at *
          generalize (pk i).2 = y1 at *
          generalize (pk j).1 = x2 at *
          generalize (pk j).2 = y2 at *
          have hi0 : (0 : Int) ≤ (i : Int) := by omega
          have hil' : (i : Int) < (l : Int) := by omega
          have hj0 : (0 : Int) ≤ (j : Int) := by omega
          have hjn : (j : Int) < (l : Int) := by omega
          have hl0 : ¬ l = 0 := by omega
          have hl1 : ((l : Int) == 0) = false := by simp; omega
          have e1 := World.new_ne _ _ hc1
          have e3 := World.new_ne _ _ c3
          have e4 := World.new_ne _ _ c4
          go_wp2
          go_region_held3 (fun w' => w'.cell? ⟨b, off + k, none⟩ = some (.slice (some ⟨b', off', none⟩) l ck) ∧ w'.cell? ⟨b', off' + j * 2, none⟩ = some (.int .i64 x2) ∧ w'.cell? ⟨b', off' + j * 2 + 1, none⟩ = some (.int .i64 y2)) (go_keep) (fail)
          go_split_ands
          go_wp2
          go_roundw
          case rel => exact ⟨i + 1, by omega, by go_num, by rw [ts.out], ((hbq.alloc hbq.size _).alloc (Nat.le_trans hbq.size (by simp)) _).drew⟩
          case measure => simp [intOf]; omega
        · have : i = l := by omega
          subst this
          have hsum : Hid (asum L P (k + 1) = wrap64 (asum L P k + if 0 < k then wrap64 (-(rabs (rsum i pk i))) else rabs (rsum i pk i))) := by rw [← HN.out.1, ← HN.out.2]; rfl
          by_cases hneg : rsum i pk i < 0 <;> by_cases hk1 : (0 : Int) < (k : Int)
          all_goals
            go_wp2
          all_goals
            refine ⟨⟨k + 1, by omega, by go_num, ?_, hbq⟩, by simp [intOf]; omega⟩
            have hk2 : (0 < k) = ((0 : Int) < (k : Int)) := propext (by omega)
            rw [hsum.out]
            simp only [rabs, hneg, hk2, hk1, reduceIte]
    · have : k = n := by omega
      subst this
      go_wp2
      go_ret
      exact ⟨rfl, hb⟩
end Go.Proofs.Ytdkaoopkbhaheaa
namespace Go.Proofs.Ytdkaoopkbhaheaa
open Go.RowKit
theorem near_bd {x y : Int} (h : nearB x y = true) : -1048576 ≤ x ∧ x ≤ 1048576 ∧ -1048576 ≤ y ∧ y ≤ 1048576 := by
  unfold nearB at h; exact of_decide_eq_true h
theorem mul_bd (a b A B : Int) (_hA : 0 ≤ A) (ha : -A ≤ a ∧ a ≤ A) (hb : -B ≤ b ∧ b ≤ B) : -(A * B) ≤ a * b ∧ a * b ≤ A * B := by
  have hB : 0 ≤ B := by omega
  have h1 : 0 ≤ (A - a) * (B + b) := Int.mul_nonneg (by omega) (by omega)
  have h2 : 0 ≤ (A + a) * (B - b) := Int.mul_nonneg (by omega) (by omega)
  have h3 : 0 ≤ (A - a) * (B - b) := Int.mul_nonneg (by omega) (by omega)
  have h4 : 0 ≤ (A + a) * (B + b) := Int.mul_nonneg (by omega) (by omega)
  have e1 : (A - a) * (B + b) = A * B + A * b - a * B - a * b := by grind
  have e2 : (A + a) * (B - b) = A * B - A * b + a * B - a * b := by grind
  have e3 : (A - a) * (B - b) = A * B - A * b - a * B + a * b := by grind
  have e4 : (A + a) * (B + b) = A * B + A * b + a * B + a * b := by grind
  omega
theorem crossW_eq (a b c d : Int) (ha : -2097152 ≤ a ∧ a ≤ 2097152) (hb : -2097152 ≤ b ∧ b ≤ 2097152) (hc : -2097152 ≤ c ∧ c ≤ 2097152) (hd : -2097152 ≤ d ∧ d ≤ 2097152) : crossW a b c d = a * d - b * c := by
  have k1 := mul_bd a d 2097152 2097152 (by omega) ha hd
  have k2 := mul_bd b c 2097152 2097152 (by omega) hb hc
  unfold crossW
  rw [wrap64_in (a * d) (by omega) (by omega), wrap64_in (b * c) (by omega) (by omega), wrap64_in _ (by omega) (by omega)]
theorem turnW_eq (ax ay bx bY cx cy : Int) (ha : nearB ax ay = true) (hb : nearB bx bY = true) (hc : nearB cx cy = true) : turnW ax ay bx bY cx cy = sgn (Geo.D ax ay bx bY cx cy) := by
  have ha := near_bd ha
  have hb := near_bd hb
  have hc := near_bd hc
  unfold turnW Geo.D
  rw [wrap64_in (bx - ax) (by omega) (by omega), wrap64_in (bY - ay) (by omega) (by omega), wrap64_in (cx - ax) (by omega) (by omega), wrap64_in (cy - ay) (by omega) (by omega), crossW_eq _ _ _ _ (by omega) (by omega) (by omega) (by omega)]
theorem refTurn_eq (ax ay bx bY cx cy : Int) (ha : nearB ax ay = true) (hb : nearB bx bY = true) (hc : nearB cx cy = true) : refTurn ax ay bx bY cx cy = sgn (Geo.D ax ay bx bY cx cy) := by
  have ha := near_bd ha
  have hb := near_bd hb
  have hc := near_bd hc
  unfold refTurn twiceW Geo.D
  rw [wrap64_in (bY - cy) (by omega) (by omega), wrap64_in (cy - ay) (by omega) (by omega), wrap64_in (ay - bY) (by omega) (by omega)]
  have k1 := mul_bd ax (bY - cy) 1048576 2097152 (by omega) (by omega) (by omega)
  have k2 := mul_bd bx (cy - ay) 1048576 2097152 (by omega) (by omega) (by omega)
  have k3 := mul_bd cx (ay - bY) 1048576 2097152 (by omega) (by omega) (by omega)
  rw [wrap64_in (ax * (bY - cy)) (by omega) (by omega), wrap64_in (bx * (cy - ay)) (by omega) (by omega), wrap64_in (cx * (ay - bY)) (by omega) (by omega),
    wrap64_in (ax * (bY - cy) + bx * (cy - ay)) (by omega) (by omega), wrap64_in _ (by omega) (by omega)]
  congr 1
  grind
theorem sgn_cases (n : Int) : (n < 0 ∧ sgn n = -1) ∨ (n = 0 ∧ sgn n = 0) ∨ (0 < n ∧ sgn n = 1) := by
  unfold sgn
  by_cases h1 : n < 0
  · left; rw [if_pos h1]; exact ⟨h1, rfl⟩
  · by_cases h2 : 0 < n
    · right; right; rw [if_neg h1, if_pos h2]; exact ⟨h2, rfl⟩
    · right; left; rw [if_neg h1, if_neg h2]; exact ⟨by omega, rfl⟩
theorem sgn_same (a b : Int) : 0 < mulW (sgn a) (sgn b) ↔ Geo.Same a b := by
  unfold mulW Geo.Same
  rcases sgn_cases a with ⟨h1, e1⟩ | ⟨h1, e1⟩ | ⟨h1, e1⟩ <;> rcases sgn_cases b with ⟨h2, e2⟩ | ⟨h2, e2⟩ | ⟨h2, e2⟩ <;> rw [e1, e2, wrap64_in _ (by omega) (by omega)] <;> omega
theorem sgn_opp (a b : Int) : mulW (sgn a) (sgn b) = -1 ↔ Geo.Opp a b := by
  unfold mulW Geo.Opp
  rcases sgn_cases a with ⟨h1, e1⟩ | ⟨h1, e1⟩ | ⟨h1, e1⟩ <;> rcases sgn_cases b with ⟨h2, e2⟩ | ⟨h2, e2⟩ | ⟨h2, e2⟩ <;> rw [e1, e2, wrap64_in _ (by omega) (by omega)] <;> omega
theorem sgn_eq_zero (a : Int) : (sgn a == 0) = decide (a = 0) := by
  rw [Bool.eq_iff_iff, beq_iff_eq, decide_eq_true_iff]
  rcases sgn_cases a with ⟨h1, e1⟩ | ⟨h1, e1⟩ | ⟨h1, e1⟩ <;> rw [e1] <;> omega
theorem onB_iff (px py ax ay bx bY : Int) (hp : nearB px py = true) (ha : nearB ax ay = true) (hb : nearB bx bY = true) : onB px py ax ay bx bY = true ↔ Geo.On px py ax ay bx bY := by
  unfold onB Geo.On inB
  rw [refTurn_eq _ _ _ _ _ _ ha hb hp, sgn_eq_zero]
  simp only [Bool.and_eq_true, decide_eq_true_eq, and_assoc]
  rfl
theorem meet_same (ax ay bx bY cx cy dx dy : Int) (ha : nearB ax ay = true) (hb : nearB bx bY = true) (hc : nearB cx cy = true) (hd : nearB dx dy = true) : meetB ax ay bx bY cx cy dx dy = refMeetB ax ay bx bY cx cy dx dy := by
  rw [Bool.eq_iff_iff]
  have k := Geo.meet_iff ax ay bx bY cx cy dx dy
  unfold meetB refMeetB oneSideB apartB
  rw [turnW_eq _ _ _ _ _ _ ha hb hc, turnW_eq _ _ _ _ _ _ ha hb hd, turnW_eq _ _ _ _ _ _ hc hd ha, turnW_eq _ _ _ _ _ _ hc hd hb,
    refTurn_eq _ _ _ _ _ _ ha hb hc, refTurn_eq _ _ _ _ _ _ ha hb hd, refTurn_eq _ _ _ _ _ _ hc hd ha, refTurn_eq _ _ _ _ _ _ hc hd hb]
  simp only [Bool.or_eq_true, Bool.and_eq_true, Bool.not_eq_true', decide_eq_false_iff_not, beq_iff_eq, sgn_same, sgn_opp, onB_iff _ _ _ _ _ _ ha hc hd, onB_iff _ _ _ _ _ _ hb hc hd, onB_iff _ _ _ _ _ _ hc ha hb, onB_iff _ _ _ _ _ _ hd ha hb, or_assoc, and_assoc]
  rw [← k]
  unfold overlapB Geo.Over
  simp only [decide_eq_true_eq]
theorem turn_same (ax ay bx bY cx cy : Int) (ha : nearB ax ay = true) (hb : nearB bx bY = true) (hc : nearB cx cy = true) : turnW ax ay bx bY cx cy = refTurn ax ay bx bY cx cy := by
  rw [turnW_eq _ _ _ _ _ _ ha hb hc, refTurn_eq _ _ _ _ _ _ ha hb hc]
end Go.Proofs.Ytdkaoopkbhaheaa
