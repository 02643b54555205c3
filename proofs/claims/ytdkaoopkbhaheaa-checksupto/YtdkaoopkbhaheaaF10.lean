/- The program: noneTwice, walked. -/
import Derived.Test.YtdkaoopkbhaheaaF9
import Derived.Test.YtdkaoopkbhaheaaF5
namespace Go.Proofs.Ytdkaoopkbhaheaa
open Go.RowKit Go.Lib
open Jor
open scoped Classical
set_option linter.unusedVariables false
set_option linter.unusedSimpArgs false

theorem cell_map {w : World} {B b o : Nat} {v : Value} {es : Array MapEntry} {c : Nat} (hb : w.heap[B]? = some (.map es c)) (h : w.cell? ⟨b, o, none⟩ = some v) : b ≠ B := by
  rintro rfl
  simp [World.cell?, hb] at h
theorem twice_yes {rs : List (List IP)} {i j : Nat} (hj : j < i) (hi : i < (verts rs).length) (h : pt (verts rs) i = pt (verts rs) j) : Twice rs := ⟨i, j, hj, hi, h⟩

set_option maxRecDepth 100000 in
set_option maxHeartbeats 4000000 in
theorem noneTwice_any (a : Option Addr) (cap : Nat) (A : Nat → Option Addr) (C : Nat → Nat) (rs : List (List IP)) (w : World) (hn : rs.length ≤ 8) (hm : 1 ≤ rs.length) (h3 : ∀ k, k < rs.length → 3 ≤ (rg rs k).length) (hsz : (verts rs).length ≤ 64) (hnear : ∀ i, i < (verts rs).length → nearP (pt (verts rs) i)) (hp : RingsL w a A C rs) :
    Calls Try.prog 88 #[.slice a rs.length cap] w fun e w' => e = .returned (.bool (bl (¬ Twice rs))) ∧ Below w.heap.size w w' := by
  have H3 : Hid (∀ k, k < rs.length → 3 ≤ (rg rs k).length) := h3
  have HN : Hid (∀ i, i < (verts rs).length → nearP (pt (verts rs) i)) := hnear
  have hpos : 0 < (verts rs).length := by
    have := rg_le rs 0
    have := h3 0 (by omega)
    omega
  have hmm := @run_makeMap Try.prog
  have hbM : Below w.heap.size w (w.alloc (.map #[] 0)) := (Below.refl _ _).alloc (Nat.le_refl _) _
  have hBM : (w.alloc (.map #[] 0)).heap[w.heap.size]? = some (.map #[] 0) := heap_alloc_new _ _
  clear h3 hnear
  go_enter Try.func88, Try.ntmps88
  go_wp2_with (go_at_call 73; refine (vertices_any _ _ _ _ _ _ (by omega) (Rings.later hbM hp) (fun k hk => Nat.lt_of_lt_of_le (by decide) (H3.out k hk)) hpos (by omega)).mono ?_; rintro e w1 ⟨a1, cv, rfl, hP, hb1⟩)
  have hB1 : w1.heap[w.heap.size]? = some (.map #[] 0) := (hb1.block _ (by simp)).trans hBM
  have hw1 : Below w.heap.size w w1 := hbM.trans (hb1.mono hbM.size)
  have hs1 : w.heap.size < w1.heap.size := (Array.getElem?_eq_some_iff.1 hB1).1
  obtain ⟨bv, ov, rfl, hV⟩ : ∃ bv ov, a1 = some ⟨bv, ov, none⟩ ∧ ∀ i, i < (verts rs).length → w1.cell? ⟨bv, ov + i * 2, none⟩ = some (.int .i64 (pt (verts rs) i).1) ∧ w1.cell? ⟨bv, ov + i * 2 + 1, none⟩ = some (.int .i64 (pt (verts rs) i).2) := by
    rcases hP with h | ⟨bv, ov, e, hh⟩
    · omega
    · exact ⟨bv, ov, e, hh⟩
  have hbv : bv ≠ w.heap.size := cell_map hB1 (hV 0 hpos).1
  have hbl : bv < w1.heap.size := World.block_lt_of_cell? _ _ (hV 0 hpos).1
  have HV : Hid (∀ i, i < (verts rs).length → w1.cell? ⟨bv, ov + i * 2, none⟩ = some (.int .i64 (pt (verts rs) i).1) ∧ w1.cell? ⟨bv, ov + i * 2 + 1, none⟩ = some (.int .i64 (pt (verts rs) i).2)) := hV
  clear hV hP hb1 hBM hbM
  go_loopw [5, 10] (fun _ i wr => ∃ k : Nat, k ≤ (verts rs).length ∧ i = .int .i64 k ∧ (∀ i j, j < i → i < k → pt (verts rs) i ≠ pt (verts rs) j) ∧ wr.heap[w.heap.size]? = some (.map (ents (pt (verts rs)) k).toArray k) ∧ KeptBut w1.heap.size w.heap.size w1 wr ∧ Below w.heap.size w wr) (fun _ i _ => (verts rs).length - (intOf i).toNat)
  case atStart => exact ⟨0, Nat.zero_le _, rfl, fun i j _ h => absurd h (by omega), hB1, KeptBut.refl _ _ _, hw1⟩
  case round =>
    obtain ⟨k, hk, rfl, hall, hBr, hKr, hbr⟩ := hrel
    have HA : Hid (∀ i j, j < i → i < k → pt (verts rs) i ≠ pt (verts rs) j) := hall
    clear hall
    by_cases hlt : k < (verts rs).length
    · have c1 : wr.cell? ⟨bv, ov + k * 2, none⟩ = some (.int .i64 (pt (verts rs) k).1) := (hKr.cell (p := ⟨bv, ov + k * 2, none⟩) hbl hbv).trans (HV.out k hlt).1
      have c2 : wr.cell? ⟨bv, ov + k * 2 + 1, none⟩ = some (.int .i64 (pt (verts rs) k).2) := (hKr.cell (p := ⟨bv, ov + k * 2 + 1, none⟩) hbl hbv).trans (HV.out k hlt).2
      have hk0 : (0 : Int) ≤ (k : Int) := by omega
      have hkn : (k : Int) < ((verts rs).length : Int) := by omega
      have hsr : w.heap.size < wr.heap.size := (Array.getElem?_eq_some_iff.1 hBr).1
      -- the world in which the map is turned
      have hW0 : (wr.alloc (.cells #[.int .i64 (pt (verts rs) k).1, .int .i64 (pt (verts rs) k).2] 25)).drew.heap[w.heap.size]? = some (.map (ents (pt (verts rs)) k).toArray k) := (Below.heap_alloc _ _ _ hsr).trans hBr
      have hx0 : (wr.alloc (.cells #[.int .i64 (pt (verts rs) k).1, .int .i64 (pt (verts rs) k).2] 25)).drew.cell? ⟨wr.heap.size, 0, none⟩ = some (.int .i64 (pt (verts rs) k).1) := by simp [go_sem]
      have hx1 : (wr.alloc (.cells #[.int .i64 (pt (verts rs) k).1, .int .i64 (pt (verts rs) k).2] 25)).drew.cell? ⟨wr.heap.size, 1, none⟩ = some (.int .i64 (pt (verts rs) k).2) := by simp [go_sem]
      have hA0 : Below w.heap.size w (wr.alloc (.cells #[.int .i64 (pt (verts rs) k).1, .int .i64 (pt (verts rs) k).2] 25)).drew := (hbr.alloc hbr.size _).drew
      have hK0 : KeptBut w1.heap.size w.heap.size w1 (wr.alloc (.cells #[.int .i64 (pt (verts rs) k).1, .int .i64 (pt (verts rs) k).2] 25)).drew := hKr.trans (KeptBut.of_below (((Below.refl _ wr).alloc (Nat.le_refl _) _).drew) hKr.size)
      have hs0 : (wr.alloc (.cells #[.int .i64 (pt (verts rs) k).1, .int .i64 (pt (verts rs) k).2] 25)).drew.heap.size = wr.heap.size + 1 := by simp
      have nearK : ∀ i, i ≤ k → nearP (pt (verts rs) i) := fun i hi => HN.out i (by omega)
      by_cases hold : ∃ j, j < k ∧ pt (verts rs) k = pt (verts rs) j
      · obtain ⟨j, hj, hej⟩ := hold
        have HR : Hid (bl (¬ Twice rs) = false) := bl_false (fun h => h (twice_yes hj hlt hej))
        obtain ⟨v1, v2, st, r1, r2, r3, r4, r5, r6, r7, r8, r9, r10⟩ := round_old hW0 nearK hj hej (fun i j hi hj h => by
          rcases Nat.lt_trichotomy i j with u | u | u
          · exact absurd h.symm (HA.out j i u hj)
          · exact u
          · exact absurd h (HA.out i j u hi))
        have z0 : v2.cell? ⟨wr.heap.size, 0, none⟩ = some (.int .i64 (pt (verts rs) k).1) := (World.cell?_of_block (a := ⟨wr.heap.size, 0, none⟩) (r6 _ (by simp; omega))).trans hx0
        have z1 : v2.cell? ⟨wr.heap.size, 1, none⟩ = some (.int .i64 (pt (verts rs) k).2) := (World.cell?_of_block (a := ⟨wr.heap.size, 1, none⟩) (r6 _ (by simp; omega))).trans hx1
        have hB2 : Below w.heap.size w v2 := hA0.trans ⟨r8, r9, r10, by omega, fun i hi => r6 i (by omega)⟩
        unfold kv at r1 r2 r3 r5
        clear r6 r8 r9 r10 hW0 hA0 hK0 hej
        generalize (pt (verts rs) k).1 = x at *
        generalize (pt (verts rs) k).2 = y at *
        go_wp2
        go_region
        all_goals
          go_wp2
          go_ret
          exact ⟨retb HR.out, hB2⟩
      · have hnew : ∀ i, i < k → pt (verts rs) k ≠ pt (verts rs) i := fun i hi h => hold ⟨i, hi, h⟩
        clear hold
        have HNW : Hid (∀ i, i < k → pt (verts rs) k ≠ pt (verts rs) i) := hnew
        obtain ⟨v1, v2, r1, r2, r3, r4, r5, rb, r6, r7, r8, r9, r10⟩ := round_new hW0 nearK hnew
        have z0 : v2.cell? ⟨wr.heap.size, 0, none⟩ = some (.int .i64 (pt (verts rs) k).1) := (World.cell?_of_block (a := ⟨wr.heap.size, 0, none⟩) (r6 _ (by simp; omega))).trans hx0
        have z1 : v2.cell? ⟨wr.heap.size, 1, none⟩ = some (.int .i64 (pt (verts rs) k).2) := (World.cell?_of_block (a := ⟨wr.heap.size, 1, none⟩) (r6 _ (by simp; omega))).trans hx1
        have hB2 : Below w.heap.size w v2 := hA0.trans ⟨r8, r9, r10, by omega, fun i hi => r6 i (by omega)⟩
        have hK2 : KeptBut w1.heap.size w.heap.size w1 v2 := hK0.trans ⟨by omega, fun i _ hi => r6 i hi⟩
        have HRB : Hid (v2.heap[w.heap.size]? = some (.map (ents (pt (verts rs)) (k + 1)).toArray (k + 1))) := rb
        unfold kv at r1 r2 r3 r5
        clear r6 r8 r9 r10 hW0 hA0 hK0 hnew rb nearK
        generalize (pt (verts rs) k).1 = x at *
        generalize (pt (verts rs) k).2 = y at *
        go_wp2
        go_region
        all_goals
          go_wp2
          go_roundw
          case rel =>
            refine ⟨k + 1, by omega, by go_num, fun i j h1 h2 => ?_, HRB.out, hK2, hB2⟩
            rcases Nat.lt_or_ge i k with h | h
            · exact HA.out i j h1 h
            · have e : i = k := by omega
              subst e
              exact HNW.out j h1
          case measure => simp [intOf]; omega
    · have : k = (verts rs).length := by omega
      subst this
      have HR : Hid (bl (¬ Twice rs) = true) := bl_true (twice_no fun i j h1 h2 => HA.out i j h1 h2)
      clear HA
      go_wp2
      go_ret
      exact ⟨retb HR.out, hbr⟩
end Go.Proofs.Ytdkaoopkbhaheaa
