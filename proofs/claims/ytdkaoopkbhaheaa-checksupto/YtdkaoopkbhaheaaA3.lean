/- Contracts of plane.Turn and facet.Turn. -/
import Derived.Test.YtdkaoopkbhaheaaA2
import Derived.Deep.RegionHeld3
namespace Go.Proofs.Ytdkaoopkbhaheaa
open Go.RowKit

/-- The turn, as the machine reckons it. -/
def turnW (ax ay bx bY cx cy : Int) : Int := sgn (crossW (wrap64 (bx - ax)) (wrap64 (bY - ay)) (wrap64 (cx - ax)) (wrap64 (cy - ay)))

theorem wrap_i64 (n : Int) : IntKind.i64.wrap n = wrap64 n := by unfold wrap64; exact IntKind.wrap_i64 n
/-- Of what was there before a call all cells, and all marks, read as they did. -/
theorem old_reads {W w1 : World} (hb : Below W.heap.size W w1) : (∀ b o, b < W.heap.size → w1.cell? ⟨b, o, none⟩ = W.cell? ⟨b, o, none⟩) ∧ (∀ b o, b < W.heap.size → w1.frozen? ⟨b, o, none⟩ = W.frozen? ⟨b, o, none⟩) := by
  constructor
  · intro b o h
    exact Below.cell hb h
  · intro b o h
    exact Below.frozen hb h
theorem keep_below {B : Nat} {W w1 w2 : World} (hb : Below w1.heap.size w1 w2) (h : Below B W w1 ∧ B ≤ W.heap.size) : Below B W w2 ∧ B ≤ W.heap.size := ⟨h.1.trans (hb.mono (by have := h.1.size; omega)), h.2⟩

set_option maxHeartbeats 2000000 in
theorem planeTurn_any (ax ay bx bY cx cy : Int) (w : World) :
    Calls Try.prog 40 #[.agg #[.int .i64 ax, .int .i64 ay], .agg #[.int .i64 bx, .int .i64 bY], .agg #[.int .i64 cx, .int .i64 cy]] w fun e w' => e = .returned (.int .i64 (turnW ax ay bx bY cx cy)) ∧ Below w.heap.size w w' := by
  go_enter Try.func40, Try.ntmps40
  go_wp2
  go_region_held3 (fun w' => (Below w.heap.size w w' ∧ w.heap.size ≤ w.heap.size) ∧ w'.cell? ⟨w.heap.size, 0, none⟩ = some (.int .i64 ax) ∧ w'.cell? ⟨w.heap.size, 1, none⟩ = some (.int .i64 ay) ∧ w'.cell? ⟨w.heap.size + 1, 0, none⟩ = some (.int .i64 bx) ∧ w'.cell? ⟨w.heap.size + 1, 1, none⟩ = some (.int .i64 bY) ∧ w'.cell? ⟨w.heap.size + 1 + 1, 0, none⟩ = some (.int .i64 cx) ∧ w'.cell? ⟨w.heap.size + 1 + 1, 1, none⟩ = some (.int .i64 cy))
    (first | (go_split_ands; refine ⟨⟨?_, Nat.le_refl _⟩, ?_, ?_, ?_, ?_, ?_, ?_⟩; (exact ((((Below.refl _ _).alloc (Nat.le_refl _) _).alloc (by simp) _).alloc (by simp; omega) _).drew); all_goals (simp [go_sem])) | (go_split_ands; exact ⟨keep_below (by assumption) ⟨by assumption, by assumption⟩, cell_later (by assumption) (by assumption), cell_later (by assumption) (by assumption), cell_later (by assumption) (by assumption), cell_later (by assumption) (by assumption), cell_later (by assumption) (by assumption), cell_later (by assumption) (by assumption)⟩) | (go_split_ands; refine ⟨⟨?_, ?_⟩, ?_, ?_, ?_, ?_, ?_, ?_⟩ <;> assumption))
    (first | (go_at_call 63; refine (minus_any _ _ _ _ _).mono ?_; rintro e w1 ⟨rfl, hb1⟩) | (go_at_call 62; refine (cross_any _ _ _ _ _).mono ?_; rintro e w1 ⟨rfl, hb1⟩) | (go_at_call 61; refine (compare0_any _ _).mono ?_; rintro e w1 ⟨rfl, rfl⟩))
  go_split_ands
  go_wp2
  go_ret
  exact ⟨rfl, by assumption⟩

set_option maxHeartbeats 400000 in
theorem turn_any (ax ay bx bY cx cy : Int) (w : World) :
    Calls Try.prog 11 #[.agg #[.int .i64 ax, .int .i64 ay], .agg #[.int .i64 bx, .int .i64 bY], .agg #[.int .i64 cx, .int .i64 cy]] w fun e w' => e = .returned (.int .i64 (turnW ax ay bx bY cx cy)) ∧ Below w.heap.size w w' := by
  go_enter Try.func11, Try.ntmps11
  go_wp2_with (go_at_call 40; refine (planeTurn_any _ _ _ _ _ _ _).mono ?_; rintro e w1 ⟨rfl, hb1⟩)
  go_ret
  exact ⟨rfl, ((((Below.refl _ _).alloc (Nat.le_refl _) _).alloc (by simp) _).alloc (by simp; omega) _).trans (hb1.mono (by simp; omega))⟩
end Go.Proofs.Ytdkaoopkbhaheaa
