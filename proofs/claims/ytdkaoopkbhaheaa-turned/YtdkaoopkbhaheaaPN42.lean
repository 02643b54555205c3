import Derived.Test.YtdkaoopkbhaheaaPN35
import Derived.Test.YtdkaoopkbhaheaaPN22
import Derived.Deep.DeepCutAuto
namespace Go.Proofs.Ytdkaoopkbhaheaa
open Go.RowKit Go.Lib
open Jor
set_option linter.unusedVariables false
set_option linter.unusedSimpArgs false
def arr3 (t : IP × IP × IP) : Value := .agg #[.int .i64 t.1.1, .int .i64 t.1.2, .int .i64 t.2.1.1, .int .i64 t.2.1.2, .int .i64 t.2.2.1, .int .i64 t.2.2.2]
def rotN : Nat → IP × IP × IP → IP × IP × IP
  | 0, t => t
  | k + 1, t => rot1 (rotN k t)
theorem six_cells {w : World} {b : Nat} {v0 v1 v2 v3 v4 v5 : Value} {t : TypeId} (h : w.heap[b]? = some (.cells #[v0, v1, v2, v3, v4, v5] t)) :
    (w.cell? ⟨b, 0, none⟩ = some v0 ∧ w.cell? ⟨b, 1, none⟩ = some v1 ∧ w.cell? ⟨b, 2, none⟩ = some v2 ∧ w.cell? ⟨b, 3, none⟩ = some v3 ∧ w.cell? ⟨b, 4, none⟩ = some v4 ∧ w.cell? ⟨b, 5, none⟩ = some v5) ∧
    (w.frozen? ⟨b, 0, none⟩ = false ∧ w.frozen? ⟨b, 1, none⟩ = false ∧ w.frozen? ⟨b, 2, none⟩ = false ∧ w.frozen? ⟨b, 3, none⟩ = false ∧ w.frozen? ⟨b, 4, none⟩ = false ∧ w.frozen? ⟨b, 5, none⟩ = false) := by
  simp [World.cell?, World.frozen?, h]
def put6 (w : World) (b : Nat) (v0 v1 v2 v3 v4 v5 : Value) : World := ((((((w.setCell ⟨b, 0, none⟩ v0).setCell ⟨b, 1, none⟩ v1).setCell ⟨b, 2, none⟩ v2).setCell ⟨b, 3, none⟩ v3).setCell ⟨b, 4, none⟩ v4).setCell ⟨b, 5, none⟩ v5)
theorem put6_at {w : World} {b : Nat} {u0 u1 u2 u3 u4 u5 : Value} {t : TypeId} (h : w.heap[b]? = some (.cells #[u0, u1, u2, u3, u4, u5] t)) (v0 v1 v2 v3 v4 v5 : Value) : (put6 w b v0 v1 v2 v3 v4 v5).heap[b]? = some (.cells #[v0, v1, v2, v3, v4, v5] t) := by
  simp [put6, World.setCell, Array.getElem?_modify, h]
theorem put6_other {w : World} {b j : Nat} (h : j ≠ b) (v0 v1 v2 v3 v4 v5 : Value) : (put6 w b v0 v1 v2 v3 v4 v5).heap[j]? = w.heap[j]? := by
  unfold put6
  rw [Below.heap_setCell _ _ _ _ h, Below.heap_setCell _ _ _ _ h, Below.heap_setCell _ _ _ _ h, Below.heap_setCell _ _ _ _ h, Below.heap_setCell _ _ _ _ h, Below.heap_setCell _ _ _ _ h]
theorem put6_below {B : Nat} {w w' : World} {b : Nat} (h : Below B w w') (hb : B ≤ b) (v0 v1 v2 v3 v4 v5 : Value) : Below B w (put6 w' b v0 v1 v2 v3 v4 v5) := (((((h.setCell hb _).setCell hb _).setCell hb _).setCell hb _).setCell hb _).setCell hb _
theorem put6_size (w : World) (b : Nat) (v0 v1 v2 v3 v4 v5 : Value) : (put6 w b v0 v1 v2 v3 v4 v5).heap.size = w.heap.size := by simp [put6]
set_option maxRecDepth 100000 in
set_option maxHeartbeats 4000000 in
theorem least_any (g n c p0 p1 p2 : Nat) (V : Nat → IP) (w : World) (h0 : p0 < n) (h1 : p1 < n) (h2 : p2 < n) (hn : n ≤ 1048576) (hV : PtsAt w g 0 n V) :
    Calls Try.prog 36 #[tv p0 p1 p2, .slice (some ⟨g, 0, none⟩) n c] w fun e w' => e = .returned (arr3 (leastP (V p0, V p1, V p2))) ∧ Below w.heap.size w w' := by
  have q0 := hV p0 h0
  have q1 := hV p1 h1
  have q2 := hV p2 h2
  simp only [Nat.zero_add] at q0 q1 q2
  have HE : Hid (leastP (V p0, V p1, V p2) = rotN 2 (((V p0).1, (V p0).2), ((V p1).1, (V p1).2), ((V p2).1, (V p2).2))) := rfl
  generalize (V p0).1 = X0 at *
  generalize (V p0).2 = Y0 at *
  generalize (V p1).1 = X1 at *
  generalize (V p1).2 = Y1 at *
  generalize (V p2).1 = X2 at *
  generalize (V p2).2 = Y2 at *
  have i0 : (0 : Int) ≤ (p0 : Int) := by omega
  have i1 : (0 : Int) ≤ (p1 : Int) := by omega
  have i2 : (0 : Int) ≤ (p2 : Int) := by omega
  have l0 : (p0 : Int) < (n : Int) := by omega
  have l1 : (p1 : Int) < (n : Int) := by omega
  have l2 : (p2 : Int) < (n : Int) := by omega
  have bW : Below w.heap.size w ((w.alloc (.cells #[.int .i64 (p0 : Int), .int .i64 (p1 : Int), .int .i64 (p2 : Int)] 57)).alloc (.cells #[.int .i64 0, .int .i64 0, .int .i64 0, .int .i64 0, .int .i64 0, .int .i64 0] 65)) := ((Below.refl _ _).alloc (Nat.le_refl _) _).alloc (by simp) _
  have x0 := cell_later bW q0.1
  have y0 := cell_later bW q0.2
  have x1 := cell_later bW q1.1
  have y1 := cell_later bW q1.2
  have x2 := cell_later bW q2.1
  have y2 := cell_later bW q2.2
  clear q0 q1 q2 hV
  unfold tv
  go_enter Try.func36, Try.ntmps36
  go_wp2
  have z0 : ((w.alloc (.cells #[.int .i64 (p0 : Int), .int .i64 (p1 : Int), .int .i64 (p2 : Int)] 57)).alloc (.cells #[.int .i64 0, .int .i64 0, .int .i64 0, .int .i64 0, .int .i64 0, .int .i64 0] 65)).cell? ⟨w.heap.size, 0, none⟩ = some (.int .i64 (p0 : Int)) := by simp [go_sem]
  have z1 : ((w.alloc (.cells #[.int .i64 (p0 : Int), .int .i64 (p1 : Int), .int .i64 (p2 : Int)] 57)).alloc (.cells #[.int .i64 0, .int .i64 0, .int .i64 0, .int .i64 0, .int .i64 0, .int .i64 0] 65)).cell? ⟨w.heap.size, 1, none⟩ = some (.int .i64 (p1 : Int)) := by simp [go_sem]
  have z2 : ((w.alloc (.cells #[.int .i64 (p0 : Int), .int .i64 (p1 : Int), .int .i64 (p2 : Int)] 57)).alloc (.cells #[.int .i64 0, .int .i64 0, .int .i64 0, .int .i64 0, .int .i64 0, .int .i64 0] 65)).cell? ⟨w.heap.size, 2, none⟩ = some (.int .i64 (p2 : Int)) := by simp [go_sem]
  have hs : ((w.alloc (.cells #[.int .i64 (p0 : Int), .int .i64 (p1 : Int), .int .i64 (p2 : Int)] 57)).alloc (.cells #[.int .i64 0, .int .i64 0, .int .i64 0, .int .i64 0, .int .i64 0, .int .i64 0] 65)).heap.size = w.heap.size + 2 := by simp
  have hr : ((w.alloc (.cells #[.int .i64 (p0 : Int), .int .i64 (p1 : Int), .int .i64 (p2 : Int)] 57)).alloc (.cells #[.int .i64 0, .int .i64 0, .int .i64 0, .int .i64 0, .int .i64 0, .int .i64 0] 65)).heap[w.heap.size + 1]? = some (.cells #[.int .i64 0, .int .i64 0, .int .i64 0, .int .i64 0, .int .i64 0, .int .i64 0] 65) := by
    have := heap_alloc_new (w.alloc (.cells #[.int .i64 (p0 : Int), .int .i64 (p1 : Int), .int .i64 (p2 : Int)] 57)) (.cells #[.int .i64 0, .int .i64 0, .int .i64 0, .int .i64 0, .int .i64 0, .int .i64 0] 65)
    rw [show (w.alloc (.cells #[.int .i64 (p0 : Int), .int .i64 (p1 : Int), .int .i64 (p2 : Int)] 57)).heap.size = w.heap.size + 1 by simp] at this
    exact this
  generalize ((w.alloc (.cells #[.int .i64 (p0 : Int), .int .i64 (p1 : Int), .int .i64 (p2 : Int)] 57)).alloc (.cells #[.int .i64 0, .int .i64 0, .int .i64 0, .int .i64 0, .int .i64 0, .int .i64 0] 65)) = W at *
  go_cut [5] (fun p wx => ∃ b : Nat, p = .pointer (some ⟨b, 0, none⟩) ∧ wx.heap[b]? = some (.cells #[.int .i64 X0, .int .i64 Y0, .int .i64 X1, .int .i64 Y1, .int .i64 X2, .int .i64 Y2] 65) ∧ w.heap.size + 2 ≤ b ∧ Below W.heap.size W wx)
  case first =>
    go_region_held3 (fun w' => w'.cell? ⟨w.heap.size, 0, none⟩ = some (.int .i64 (p0 : Int)) ∧ w'.cell? ⟨w.heap.size, 1, none⟩ = some (.int .i64 (p1 : Int)) ∧ w'.cell? ⟨w.heap.size, 2, none⟩ = some (.int .i64 (p2 : Int)) ∧ w'.cell? ⟨g, p0 * 2, none⟩ = some (.int .i64 X0) ∧ w'.cell? ⟨g, p0 * 2 + 1, none⟩ = some (.int .i64 Y0) ∧ w'.cell? ⟨g, p1 * 2, none⟩ = some (.int .i64 X1) ∧ w'.cell? ⟨g, p1 * 2 + 1, none⟩ = some (.int .i64 Y1) ∧ w'.cell? ⟨g, p2 * 2, none⟩ = some (.int .i64 X2) ∧ w'.cell? ⟨g, p2 * 2 + 1, none⟩ = some (.int .i64 Y2)) (go_keep) (fail)
    all_goals go_split_ands
    all_goals (try go_wp2_with fail)
    all_goals go_meet
    exact ⟨w.heap.size + 2, rfl, by rw [← hs]; exact heap_alloc_new _ _, Nat.le_refl _, ((Below.refl _ _).alloc (Nat.le_refl _) _).drew⟩
  case rest =>
    obtain ⟨b, rfl, hb, hbl, hbx⟩ := hcut
    have hrx : wc.heap[w.heap.size + 1]? = some (.cells #[.int .i64 0, .int .i64 0, .int .i64 0, .int .i64 0, .int .i64 0, .int .i64 0] 65) := (hbx.block _ (by omega)).trans hr
    have hB : Below w.heap.size w wc := bW.trans (hbx.mono (by omega))
    have hsx := hbx.size
    clear x0 y0 x1 y1 x2 y2 z0 z1 z2 hr hbx bW
    go_wp2
    go_loopw [6, 7] (fun i _ wq => ∃ (k : Nat) (t : IP × IP × IP), k ≤ 2 ∧ i = .int .i64 k ∧ t = rotN k ((X0, Y0), (X1, Y1), (X2, Y2)) ∧ wq.heap[b]? = some (.cells #[.int .i64 t.1.1, .int .i64 t.1.2, .int .i64 t.2.1.1, .int .i64 t.2.1.2, .int .i64 t.2.2.1, .int .i64 t.2.2.2] 65) ∧ wq.heap[w.heap.size + 1]? = some (.cells #[.int .i64 0, .int .i64 0, .int .i64 0, .int .i64 0, .int .i64 0, .int .i64 0] 65) ∧ Below w.heap.size w wq ∧ b < wq.heap.size) (fun i _ _ => 2 - (intOf i).toNat)
    case atStart => exact ⟨0, _, by omega, rfl, rfl, hb, hrx, hB, (Array.getElem?_eq_some_iff.1 hb).1⟩
    case round =>
      clear hb hrx hB hsx
      obtain ⟨k, t, hk, rfl, ht, hb, hrx, hB, hbs⟩ := hrel
      by_cases hlk : k < 2
      · have HT : Hid (t = rotN k ((X0, Y0), (X1, Y1), (X2, Y2))) := ht
        have HS : Hid (rot1 t = if lexB t.2.1 t.1 || lexB t.2.2 t.1 then (t.2.1, t.2.2, t.1) else t) := rfl
        obtain ⟨⟨a0, b0⟩, ⟨a1, b1⟩, ⟨a2, b2⟩⟩ := t
        clear ht
        simp only at hb
        have m0 : (0 : Int) ≤ (k : Int) := by omega
        have mn : (k : Int) < 2 := by omega
        obtain ⟨⟨d0, d1, d2, d3, d4, d5⟩, _⟩ := six_cells hb
        go_upto_region 6 with fail
        have bA : Below wr.heap.size wr (wr.alloc (.cells #[.int .i64 a0, .int .i64 b0] 25)) := (Below.refl _ _).alloc (Nat.le_refl _) _
        have hrs := (Array.getElem?_eq_some_iff.1 hrx).1
        have hb2 := (bA.block b hbs).trans hb
        have hrx2 := (bA.block (w.heap.size + 1) hrs).trans hrx
        have hB2 : Below w.heap.size w (wr.alloc (.cells #[.int .i64 a0, .int .i64 b0] 25)) := hB.alloc hB.size _
        have n0 : (wr.alloc (.cells #[.int .i64 a0, .int .i64 b0] 25)).cell? ⟨wr.heap.size, 0, none⟩ = some (.int .i64 a0) := by simp [go_sem]
        have n1 : (wr.alloc (.cells #[.int .i64 a0, .int .i64 b0] 25)).cell? ⟨wr.heap.size, 1, none⟩ = some (.int .i64 b0) := by simp [go_sem]
        have hbs2 : b < (wr.alloc (.cells #[.int .i64 a0, .int .i64 b0] 25)).heap.size := by simp; omega
        clear d0 d1 d2 d3 d4 d5 hb hrx hB hrs bA
        generalize (wr.alloc (.cells #[.int .i64 a0, .int .i64 b0] 25)) = W1 at *
        generalize wr.heap.size = nb at *
        obtain ⟨⟨d0, d1, d2, d3, d4, d5⟩, f0, f1, f2, f3, f4, f5⟩ := six_cells hb2
        have ROT : Hid (∀ t', rot1 ((a0, b0), (a1, b1), (a2, b2)) = t' → rotN (k + 1) ((X0, Y0), (X1, Y1), (X2, Y2)) = t') := fun t' h => by rw [← h, HT.out]; rfl
        have HB2 : Hid (W1.heap[b]? = some (.cells #[.int .i64 a0, .int .i64 b0, .int .i64 a1, .int .i64 b1, .int .i64 a2, .int .i64 b2] 65) ∧ W1.heap[w.heap.size + 1]? = some (.cells #[.int .i64 0, .int .i64 0, .int .i64 0, .int .i64 0, .int .i64 0, .int .i64 0] 65) ∧ Below w.heap.size w W1 ∧ b < W1.heap.size) := ⟨hb2, hrx2, hB2, hbs2⟩
        have HP6 : Hid ((put6 W1 b (.int .i64 a1) (.int .i64 b1) (.int .i64 a2) (.int .i64 b2) (.int .i64 a0) (.int .i64 b0)).heap[b]? = some (.cells #[.int .i64 a1, .int .i64 b1, .int .i64 a2, .int .i64 b2, .int .i64 a0, .int .i64 b0] 65) ∧ (put6 W1 b (.int .i64 a1) (.int .i64 b1) (.int .i64 a2) (.int .i64 b2) (.int .i64 a0) (.int .i64 b0)).heap[w.heap.size + 1]? = some (.cells #[.int .i64 0, .int .i64 0, .int .i64 0, .int .i64 0, .int .i64 0, .int .i64 0] 65) ∧ Below w.heap.size w (put6 W1 b (.int .i64 a1) (.int .i64 b1) (.int .i64 a2) (.int .i64 b2) (.int .i64 a0) (.int .i64 b0)) ∧ b < (put6 W1 b (.int .i64 a1) (.int .i64 b1) (.int .i64 a2) (.int .i64 b2) (.int .i64 a0) (.int .i64 b0)).heap.size) :=
          ⟨put6_at hb2 _ _ _ _ _ _, (put6_other (by omega) _ _ _ _ _ _).trans hrx2, put6_below hB2 (by omega) _ _ _ _ _ _, by rw [put6_size]; exact hbs2⟩
        have RY : Hid ((a1 < a0 ∨ a1 = a0 ∧ b1 < b0) ∨ (a2 < a0 ∨ a2 = a0 ∧ b2 < b0) → ((a1, b1), (a2, b2), (a0, b0)) = rotN (k + 1) ((X0, Y0), (X1, Y1), (X2, Y2))) := fun h => (ROT.out _ (by
          unfold rot1
          rw [if_pos]
          rw [Bool.or_eq_true, lexB_iff, lexB_iff]; exact h)).symm
        have RN : Hid (¬ ((a1 < a0 ∨ a1 = a0 ∧ b1 < b0) ∨ (a2 < a0 ∨ a2 = a0 ∧ b2 < b0)) → ((a0, b0), (a1, b1), (a2, b2)) = rotN (k + 1) ((X0, Y0), (X1, Y1), (X2, Y2))) := fun h => (ROT.out _ (by
          unfold rot1
          rw [if_neg]
          rw [Bool.or_eq_true, lexB_iff, lexB_iff]; exact h)).symm
        have TB : Hid ((a1 < a0 ∨ a1 = a0 ∧ b1 < b0) ∨ (a2 < a0 ∨ a2 = a0 ∧ b2 < b0) → (lexB (a1, b1) (a0, b0) || lexB (a2, b2) (a0, b0)) = true) := fun h => by rw [Bool.or_eq_true, lexB_iff, lexB_iff]; exact h
        have FB : Hid (¬ ((a1 < a0 ∨ a1 = a0 ∧ b1 < b0) ∨ (a2 < a0 ∨ a2 = a0 ∧ b2 < b0)) → (lexB (a1, b1) (a0, b0) || lexB (a2, b2) (a0, b0)) = false) := fun h => by
          cases q : (lexB (a1, b1) (a0, b0) || lexB (a2, b2) (a0, b0))
          · rfl
          · rw [Bool.or_eq_true, lexB_iff, lexB_iff] at q; exact absurd q h
        clear hb2 hrx2 hB2 HS HT HE ROT
        go_cut [75] from 24 to 82 (fun v wx => v = .bool (lexB (a1, b1) (a0, b0) || lexB (a2, b2) (a0, b0)) ∧ wx = W1)
        case first =>
          clear HP6 HB2 RY RN f0 f1 f2 f3 f4 f5
          go_wp2_with fail
          all_goals go_meet
          all_goals first
            | (refine ⟨?_, rfl⟩; rw [TB.out (by omega)]; done)
            | (refine ⟨?_, rfl⟩; rw [FB.out (by omega)]; done)
            | (refine ⟨?_, rfl⟩; congr 1; rw [Bool.eq_iff_iff]; simp only [Bool.or_eq_true, Bool.and_eq_true, lexB_iff, decide_eq_true_eq, beq_iff_eq]; omega)
            | (refine ⟨?_, rfl⟩; congr 1; rw [Bool.eq_iff_iff]; simp [lexB_iff]; omega)
        case rest =>
          obtain ⟨rfl, hwc⟩ := hcut
          rw [hwc]
          clear hwc
          by_cases h : (a1 < a0 ∨ a1 = a0 ∧ b1 < b0) ∨ (a2 < a0 ∨ a2 = a0 ∧ b2 < b0)
          · have HR := RY.out h
            have HR' : Hid (((a1, b1), (a2, b2), (a0, b0)) = rotN (k + 1) ((X0, Y0), (X1, Y1), (X2, Y2))) := HR
            rw [TB.out h]
            clear RY RN TB FB HB2 h HR
            go_wp2
            go_roundw
            case rel => exact ⟨k + 1, _, by omega, by go_num, HR'.out, HP6.out⟩
            case measure => simp [intOf]; omega
          · have HR := RN.out h
            have HR' : Hid (((a0, b0), (a1, b1), (a2, b2)) = rotN (k + 1) ((X0, Y0), (X1, Y1), (X2, Y2))) := HR
            rw [FB.out h]
            clear RY RN TB FB HP6 h HR
            go_wp2
            go_roundw
            case rel => exact ⟨k + 1, _, by omega, by go_num, HR'.out, HB2.out⟩
            case measure => simp [intOf]; omega
      · have : k = 2 := by omega
        subst this
        have E : Hid (leastP (V p0, V p1, V p2) = t) := HE.out.trans ht.symm
        clear ht
        obtain ⟨⟨d0, d1, d2, d3, d4, d5⟩, _⟩ := six_cells hb
        obtain ⟨⟨e0, e1, e2, e3, e4, e5⟩, f0, f1, f2, f3, f4, f5⟩ := six_cells hrx
        have HBL : Hid (Below w.heap.size w (put6 wr (w.heap.size + 1) (.int .i64 t.1.1) (.int .i64 t.1.2) (.int .i64 t.2.1.1) (.int .i64 t.2.1.2) (.int .i64 t.2.2.1) (.int .i64 t.2.2.2))) := put6_below hB (by omega) _ _ _ _ _ _
        have HRS := (six_cells (put6_at hrx (.int .i64 t.1.1) (.int .i64 t.1.2) (.int .i64 t.2.1.1) (.int .i64 t.2.1.2) (.int .i64 t.2.2.1) (.int .i64 t.2.2.2))).1
        have HRS' : Hid ((put6 wr (w.heap.size + 1) (.int .i64 t.1.1) (.int .i64 t.1.2) (.int .i64 t.2.1.1) (.int .i64 t.2.1.2) (.int .i64 t.2.2.1) (.int .i64 t.2.2.2)).cell? ⟨w.heap.size + 1, 0, none⟩ = some (.int .i64 t.1.1) ∧ _) := HRS
        clear HRS
        go_wp2
        change bodyPost _ _ _ _ _ (put6 wr (w.heap.size + 1) (.int .i64 t.1.1) (.int .i64 t.1.2) (.int .i64 t.2.1.1) (.int .i64 t.2.1.2) (.int .i64 t.2.2.1) (.int .i64 t.2.2.2))
        generalize put6 wr (w.heap.size + 1) (.int .i64 t.1.1) (.int .i64 t.1.2) (.int .i64 t.2.1.1) (.int .i64 t.2.1.2) (.int .i64 t.2.2.1) (.int .i64 t.2.2.2) = WZ at *
        obtain ⟨r0, r1, r2, r3, r4, r5⟩ := HRS'.out
        refine bodyPost_ret (v := arr3 t) ?_ rfl ⟨by rw [E.out], HBL.out⟩
        clear hrx hb E HBL HRS'
        simp only [results, Try.results36]
        simp [go_sem, r0, r1, r2, r3, r4, r5]
        rfl
end Go.Proofs.Ytdkaoopkbhaheaa
namespace Go.Proofs.Ytdkaoopkbhaheaa
open Go.RowKit Go.Lib
open Jor
set_option linter.unusedVariables false
set_option linter.unusedSimpArgs false
theorem run_same6 (s t : IP × IP × IP) (w : World) : (Op.equalIn 10000 65 (arr3 s) (arr3 t)).run Try.prog w = .ok (decide (s = t)) w := by
  have zP := Try.sizeOf25
  have gP := Try.isAgg25
  obtain ⟨⟨a, b⟩, ⟨c, d⟩, e, f⟩ := s
  obtain ⟨⟨a', b'⟩, ⟨c', d'⟩, e', f'⟩ := t
  unfold arr3
  rw [show (10000 : Nat) = 9999 + 1 from rfl, Op.equalIn]
  simp only [Sem.run_bind, run_underlying Try.underlying65, Result.andThen_ok]
  simp only [Std.Legacy.Range.forIn_eq_forIn_range', Std.Legacy.Range.size, Nat.sub_zero, Nat.add_sub_cancel, Nat.div_one, List.range'_succ, List.range'_zero, List.forIn_cons, List.forIn_nil]
  go_simp
  by_cases h1 : a = a' <;> by_cases h2 : b = b' <;> by_cases h3 : c = c' <;> by_cases h4 : d = d' <;> by_cases h5 : e = e' <;> by_cases h6 : f = f' <;> simp [h1, h2, h3, h4, h5, h6]
theorem arr3_same (s : IP × IP × IP) (w : World) : (Op.equalIn 10000 65 (.agg #[.int .i64 s.1.1, .int .i64 s.1.2, .int .i64 s.2.1.1, .int .i64 s.2.1.2, .int .i64 s.2.2.1, .int .i64 s.2.2.2]) (.agg #[.int .i64 s.1.1, .int .i64 s.1.2, .int .i64 s.2.1.1, .int .i64 s.2.1.2, .int .i64 s.2.2.1, .int .i64 s.2.2.2])).run Try.prog w = .ok true w := by
  have := run_same6 s s w
  rw [decide_eq_true rfl] at this
  exact this
theorem arr3_diff {s t : IP × IP × IP} (h : s ≠ t) (w : World) : (Op.equalIn 10000 65 (.agg #[.int .i64 s.1.1, .int .i64 s.1.2, .int .i64 s.2.1.1, .int .i64 s.2.1.2, .int .i64 s.2.2.1, .int .i64 s.2.2.2]) (.agg #[.int .i64 t.1.1, .int .i64 t.1.2, .int .i64 t.2.1.1, .int .i64 t.2.1.2, .int .i64 t.2.2.1, .int .i64 t.2.2.2])).run Try.prog w = .ok false w := by
  have := run_same6 s t w
  rw [decide_eq_false h] at this
  exact this
end Go.Proofs.Ytdkaoopkbhaheaa
