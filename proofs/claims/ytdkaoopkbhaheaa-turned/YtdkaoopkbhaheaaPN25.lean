import Derived.Test.YtdkaoopkbhaheaaPP27
namespace Go.Proofs.Ytdkaoopkbhaheaa
open Go.RowKit Go.Lib
open Jor
set_option linter.unusedVariables false
set_option linter.unusedSimpArgs false
set_option maxRecDepth 100000 in
set_option maxHeartbeats 2000000 in
theorem right_any (x0 x1 : Value) (bl : Nat) (Lf : Nat → Nat → Option Int) (a b : Nat) (w : World) (ha : a ≤ 1048576) (hb : b ≤ 1048576) (hM : MapIs w bl Lf) :
    Calls Try.prog 80 #[.agg #[x0, x1, .map (some bl)], ev a b] w fun e w' => e = .returned (.int .i64 (rgt Lf a b)) ∧ Below w.heap.size w w' := by
  obtain ⟨vv, yy, LK, ER⟩ : ∃ vv yy, (∀ w', MapIs w' bl Lf → (Instr.lookup 94 (.map (some bl)) (ev b a) true).run Try.prog w' = .ok (.tuple #[.int .i64 vv, .bool yy]) w') ∧ rgt Lf a b = if yy = true then vv else -1 := by
    cases h : Lf b a with
    | none => exact ⟨0, false, fun w' h' => look2_no h' hb ha h, by unfold rgt; rw [h]; rfl⟩
    | some v => exact ⟨v, true, fun w' h' => look2_yes h' hb ha h, by unfold rgt; rw [h]; rfl⟩
  rw [ER]
  unfold ev at LK
  have HL : Hid (∀ w', MapIs w' bl Lf → (Instr.lookup 94 (.map (some bl)) (.agg #[.int .i64 (b : Int), .int .i64 (a : Int)]) true).run Try.prog w' = .ok (.tuple #[.int .i64 vv, .bool yy]) w') := LK
  have tu := turned_any a b
  unfold ev at *
  have HT : Hid (∀ (w : World), Calls Try.prog 100 #[.agg #[.int .i64 (a : Int), .int .i64 (b : Int)]] w fun e w' => e = .returned (.agg #[.int .i64 (b : Int), .int .i64 (a : Int)]) ∧ Below w.heap.size w w') := tu
  have hb0 : Below w.heap.size w ((w.alloc (.cells #[x0, x1, .map (some bl)] 96)).alloc (.cells #[.int .i64 (a : Int), .int .i64 (b : Int)] 120)) := ((Below.refl _ _).alloc (Nat.le_refl _) _).alloc (by simp) _
  have HM0 : Hid (MapIs ((w.alloc (.cells #[x0, x1, .map (some bl)] 96)).alloc (.cells #[.int .i64 (a : Int), .int .i64 (b : Int)] 120)).drew bl Lf) := hM.later hb0.drew
  clear LK tu hM ER
  go_enter Try.func80, Try.ntmps80
  go_wp2
  go_region_held3 (fun w' => (Below w.heap.size w w' ∧ w.heap.size ≤ w.heap.size) ∧ MapIs w' bl Lf ∧ w'.cell? ⟨w.heap.size, 2, none⟩ = some (.map (some bl)) ∧ w'.cell? ⟨w.heap.size + 1, 0, none⟩ = some (.int .i64 (a : Int)) ∧ w'.cell? ⟨w.heap.size + 1, 1, none⟩ = some (.int .i64 (b : Int)) ∧ (Instr.lookup 94 (.map (some bl)) (.agg #[.int .i64 (b : Int), .int .i64 (a : Int)]) true).run Try.prog w' = .ok (.tuple #[.int .i64 vv, .bool yy]) w')
    (first | (go_split_ands; refine ⟨⟨hb0.drew, Nat.le_refl _⟩, HM0.out, ?_, ?_, ?_, HL.out _ HM0.out⟩ <;> simp [go_sem]) | (go_split_ands; exact ⟨keep_below (by assumption) ⟨by assumption, by assumption⟩, MapIs.later (by assumption) (by assumption), cell_later (by assumption) (by assumption), cell_later (by assumption) (by assumption), cell_later (by assumption) (by assumption), HL.out _ (MapIs.later (by assumption) (by assumption))⟩) | (go_split_ands; refine ⟨⟨?_, ?_⟩, ?_, ?_, ?_, ?_, ?_⟩ <;> assumption))
    (first | (go_at_call 100; refine (HT.out _).mono ?_; rintro e w1 ⟨rfl, hb1⟩))
  go_split_ands
  have hbz : Below w.heap.size w w1 := by assumption
  cases yy
  · go_wp2
    go_ret
    exact ⟨rfl, hbz⟩
  · go_wp2
    go_ret
    exact ⟨rfl, hbz⟩
theorem stored_block {w : World} {b o : Nat} {cs : Array Value} {t : TypeId} {v : Value} (h : w.heap[b]? = some (.cells cs t (0, 0))) : (w.setCell ⟨b, o, none⟩ v).heap[b]? = some (.cells (cs.setIfInBounds o v) t (0, 0)) := by
  simp [World.setCell, Array.getElem?_modify, h]
set_option maxRecDepth 100000 in
set_option maxHeartbeats 4000000 in
theorem mbeside_any (x0 : Value) (gT cT bl : Nat) (T : List T3) (Lf : Nat → Nat → Option Int) (k : Nat) (w : World) (hT : T.length ≤ 1048576) (hk : k < T.length) (hl : ∀ t ∈ T, t.1 < 64 ∧ t.2.1 < 64 ∧ t.2.2 < 64) (ht : TriAt w gT T) (hM : MapIs w bl Lf) :
    Calls Try.prog 60 #[.agg #[x0, .slice (some ⟨gT, 0, none⟩) T.length cT, .map (some bl)], .int .i64 (k : Int)] w fun e w' => e = .returned (.tuple #[.agg #[.int .i64 (rgt Lf (T.getD k (0, 0, 0)).1 (T.getD k (0, 0, 0)).2.1), .int .i64 (rgt Lf (T.getD k (0, 0, 0)).2.1 (T.getD k (0, 0, 0)).2.2), .int .i64 (rgt Lf (T.getD k (0, 0, 0)).2.2 (T.getD k (0, 0, 0)).1)], .int .i64 0]) ∧ Below w.heap.size w w' := by
  obtain ⟨l0, l1, l2⟩ := hl _ (t3_at hk)
  obtain ⟨t0, t1, t2⟩ := ht k hk
  have k0 : ¬ (k : Int) < 0 := by omega
  have kn : ¬ (T.length : Int) ≤ (k : Int) := by omega
  have k0' : (0 : Int) ≤ (k : Int) := by omega
  have kn' : (k : Int) < (T.length : Int) := by omega
  clear hl ht
  generalize (T.getD k (0, 0, 0)).1 = p0 at *
  generalize (T.getD k (0, 0, 0)).2.1 = p1 at *
  generalize (T.getD k (0, 0, 0)).2.2 = p2 at *
  have hgl : gT < w.heap.size := World.block_lt_of_cell? _ _ t0
  have hbl : bl < w.heap.size := hM.lt
  have hb0 : Below w.heap.size w (((w.alloc (.cells #[x0, .slice (some ⟨gT, 0, none⟩) T.length cT, .map (some bl)] 96)).alloc (.cells #[.int .i64 0, .int .i64 0, .int .i64 0] 57)).alloc (.cells #[.int .i64 0, .int .i64 0, .int .i64 0] 57)) := (((Below.refl _ _).alloc (Nat.le_refl _) _).alloc (by simp) _).alloc (by simp; omega) _
  have HM : Hid (MapIs (((w.alloc (.cells #[x0, .slice (some ⟨gT, 0, none⟩) T.length cT, .map (some bl)] 96)).alloc (.cells #[.int .i64 0, .int .i64 0, .int .i64 0] 57)).alloc (.cells #[.int .i64 0, .int .i64 0, .int .i64 0] 57)) bl Lf) := hM.later hb0
  have c0 : (((w.alloc (.cells #[x0, .slice (some ⟨gT, 0, none⟩) T.length cT, .map (some bl)] 96)).alloc (.cells #[.int .i64 0, .int .i64 0, .int .i64 0] 57)).alloc (.cells #[.int .i64 0, .int .i64 0, .int .i64 0] 57)).cell? ⟨w.heap.size, 1, none⟩ = some (.slice (some ⟨gT, 0, none⟩) T.length cT) := by simp [go_sem]
  obtain ⟨hA, hB, hC, hS⟩ := allocs3 w (.cells #[x0, .slice (some ⟨gT, 0, none⟩) T.length cT, .map (some bl)] 96) (.cells #[.int .i64 0, .int .i64 0, .int .i64 0] 57) (.cells #[.int .i64 0, .int .i64 0, .int .i64 0] 57)
  have t0' := cell_later hb0 t0
  have t1' := cell_later hb0 t1
  have t2' := cell_later hb0 t2
  have HB0 : Hid (Below w.heap.size w (((w.alloc (.cells #[x0, .slice (some ⟨gT, 0, none⟩) T.length cT, .map (some bl)] 96)).alloc (.cells #[.int .i64 0, .int .i64 0, .int .i64 0] 57)).alloc (.cells #[.int .i64 0, .int .i64 0, .int .i64 0] 57))) := hb0
  have HA : Hid ((((w.alloc (.cells #[x0, .slice (some ⟨gT, 0, none⟩) T.length cT, .map (some bl)] 96)).alloc (.cells #[.int .i64 0, .int .i64 0, .int .i64 0] 57)).alloc (.cells #[.int .i64 0, .int .i64 0, .int .i64 0] 57)).heap[w.heap.size]? = some (.cells #[x0, .slice (some ⟨gT, 0, none⟩) T.length cT, .map (some bl)] 96)) := hA
  have HB : Hid ((((w.alloc (.cells #[x0, .slice (some ⟨gT, 0, none⟩) T.length cT, .map (some bl)] 96)).alloc (.cells #[.int .i64 0, .int .i64 0, .int .i64 0] 57)).alloc (.cells #[.int .i64 0, .int .i64 0, .int .i64 0] 57)).heap[w.heap.size + 1]? = some (.cells #[.int .i64 0, .int .i64 0, .int .i64 0] 57)) := hB
  have HC : Hid ((((w.alloc (.cells #[x0, .slice (some ⟨gT, 0, none⟩) T.length cT, .map (some bl)] 96)).alloc (.cells #[.int .i64 0, .int .i64 0, .int .i64 0] 57)).alloc (.cells #[.int .i64 0, .int .i64 0, .int .i64 0] 57)).heap[w.heap.size + 1 + 1]? = some (.cells #[.int .i64 0, .int .i64 0, .int .i64 0] 57)) := hC
  have HS : Hid ((((w.alloc (.cells #[x0, .slice (some ⟨gT, 0, none⟩) T.length cT, .map (some bl)] 96)).alloc (.cells #[.int .i64 0, .int .i64 0, .int .i64 0] 57)).alloc (.cells #[.int .i64 0, .int .i64 0, .int .i64 0] 57)).heap.size = w.heap.size + 1 + 1 + 1) := hS
  clear hM t0 t1 t2 hb0 hA hB hC hS
  go_enter Try.func60, Try.ntmps60
  go_wp2_with (go_at_call 76; refine (sides_any p0 p1 p2 _).mono ?_; rintro e w2 ⟨rfl, hb2⟩)
  have HB2 := below_then HB0.out hb2
  have hs2 := hb2.size
  rw [HS.out] at hs2
  have a2 := (hb2.block (w.heap.size) (by rw [HS.out]; omega)).trans HA.out
  have b2 := (hb2.block (w.heap.size + 1) (by rw [HS.out]; omega)).trans HB.out
  have c2 := (hb2.block (w.heap.size + 1 + 1) (by rw [HS.out]; omega)).trans HC.out
  have m2 := HM.out.later hb2
  have HBL : Hid (bl < w.heap.size) := hbl
  clear HM HA HB HC HS HB0 t0' t1' t2' c0 hb2 hbl
  go_loopw [25] (fun x wq => ∃ m : Nat, m ≤ 3 ∧ x = .int .i64 m ∧ wq.heap[w.heap.size]? = some (.cells #[x0, .slice (some ⟨gT, 0, none⟩) T.length cT, .map (some bl)] 96) ∧ wq.heap[w.heap.size + 1]? = some (.cells #[.int .i64 0, .int .i64 0, .int .i64 0] 57) ∧ wq.heap[w.heap.size + 1 + 1]? = some (.cells #[.int .i64 (if 0 < m then rgt Lf p0 p1 else 0), .int .i64 (if 1 < m then rgt Lf p1 p2 else 0), .int .i64 (if 2 < m then rgt Lf p2 p0 else 0)] 57) ∧ MapIs wq bl Lf ∧ Below w.heap.size w wq ∧ w.heap.size + 1 + 1 + 1 ≤ wq.heap.size) (fun x _ => 3 - (intOf x).toNat)
  case atStart => exact ⟨0, by omega, rfl, a2, b2, c2, m2, HB2, hs2⟩
  case round =>
    clear a2 b2 c2 m2 HB2 hs2
    obtain ⟨m, hm, rfl, a2, b2, c2, m2, B2, s2⟩ := hrel
    obtain ⟨ix0, ix1, ix2⟩ := index6 (.int .i64 (p0 : Int)) (.int .i64 (p1 : Int)) (.int .i64 (p1 : Int)) (.int .i64 (p2 : Int)) (.int .i64 (p2 : Int)) (.int .i64 (p0 : Int))
    have A2 : Hid (wr.heap[w.heap.size]? = some (.cells #[x0, .slice (some ⟨gT, 0, none⟩) T.length cT, .map (some bl)] 96)) := a2
    have B2' : Hid (wr.heap[w.heap.size + 1]? = some (.cells #[.int .i64 0, .int .i64 0, .int .i64 0] 57)) := b2
    have C2 : Hid (wr.heap[w.heap.size + 1 + 1]? = some (.cells #[.int .i64 (if 0 < m then rgt Lf p0 p1 else 0), .int .i64 (if 1 < m then rgt Lf p1 p2 else 0), .int .i64 (if 2 < m then rgt Lf p2 p0 else 0)] 57)) := c2
    have M2 : Hid (MapIs wr bl Lf) := m2
    have d0 : wr.cell? ⟨w.heap.size, 0, none⟩ = some x0 := by simp [World.cell?, a2]
    have d1 : wr.cell? ⟨w.heap.size, 1, none⟩ = some (.slice (some ⟨gT, 0, none⟩) T.length cT) := by simp [World.cell?, a2]
    have d2 : wr.cell? ⟨w.heap.size, 2, none⟩ = some (.map (some bl)) := by simp [World.cell?, a2]
    clear a2 b2 c2 m2
    rcases (show m = 0 ∨ m = 1 ∨ m = 2 ∨ m = 3 by omega) with rfl | rfl | rfl | rfl
    · have hbe : Below wr.heap.size wr (wr.alloc (.cells #[.int .i64 (p0 : Int), .int .i64 (p1 : Int)] 120)) := (Below.refl _ _).alloc (Nat.le_refl _) _
      have g0 := cell_later hbe d0
      have g1 := cell_later hbe d1
      have g2 := cell_later hbe d2
      have g3 : (wr.alloc (.cells #[.int .i64 (p0 : Int), .int .i64 (p1 : Int)] 120)).cell? ⟨wr.heap.size, 0, none⟩ = some (.int .i64 (p0 : Int)) := by simp [go_sem]
      have g4 : (wr.alloc (.cells #[.int .i64 (p0 : Int), .int .i64 (p1 : Int)] 120)).cell? ⟨wr.heap.size, 1, none⟩ = some (.int .i64 (p1 : Int)) := by simp [go_sem]
      have HR : Hid (Calls Try.prog 80 #[.agg #[x0, .slice (some ⟨gT, 0, none⟩) T.length cT, .map (some bl)], .agg #[.int .i64 (p0 : Int), .int .i64 (p1 : Int)]] (wr.alloc (.cells #[.int .i64 (p0 : Int), .int .i64 (p1 : Int)] 120)) fun e w' => e = .returned (.int .i64 (rgt Lf p0 p1)) ∧ Below (wr.alloc (.cells #[.int .i64 (p0 : Int), .int .i64 (p1 : Int)] 120)).heap.size (wr.alloc (.cells #[.int .i64 (p0 : Int), .int .i64 (p1 : Int)] 120)) w') := right_any _ _ _ _ p0 p1 _ (by omega) (by omega) (M2.out.later hbe)
      have HBE : Hid (Below wr.heap.size wr (wr.alloc (.cells #[.int .i64 (p0 : Int), .int .i64 (p1 : Int)] 120))) := hbe
      clear hbe
      go_wp2_with (go_at_call 80; refine Calls.mono HR.out ?_; rintro e w3 ⟨rfl, hb3'⟩; have hb3 := below_then HBE.out hb3'; have c3 := (hb3.block (w.heap.size + 1 + 1) (by omega)).trans C2.out; have e0 : w3.cell? ⟨w.heap.size + 1 + 1, 0, none⟩ = some (.int .i64 0) := (by simp [World.cell?, c3]); have f0 : w3.frozen? ⟨w.heap.size + 1 + 1, 0, none⟩ = false := (by simp [World.frozen?, c3]); have C3 : Hid (w3.heap[w.heap.size + 1 + 1]? = some (.cells #[.int .i64 (if 0 < 0 then rgt Lf p0 p1 else 0), .int .i64 (if 1 < 0 then rgt Lf p1 p2 else 0), .int .i64 (if 2 < 0 then rgt Lf p2 p0 else 0)] 57)) := c3; clear c3)
      go_roundw
      case rel =>
        have st := stored_block (w := w3) (o := 0) (v := .int .i64 (rgt Lf p0 p1)) (Hid.out C3)
        refine ⟨1, by omega, by go_num, ?_, ?_, ?_, ?_, ?_, ?_⟩
        · exact (Below.heap_setCell _ _ _ _ (show w.heap.size ≠ w.heap.size + 1 + 1 by omega)).trans ((hb3.block _ (by omega)).trans A2.out)
        · exact (Below.heap_setCell _ _ _ _ (show w.heap.size + 1 ≠ w.heap.size + 1 + 1 by omega)).trans ((hb3.block _ (by omega)).trans B2'.out)
        · rw [st]; simp
        · exact (M2.out.later hb3).block (Below.heap_setCell _ _ _ _ (show bl ≠ w.heap.size + 1 + 1 by have := HBL.out; omega))
        · exact (below_then B2 hb3).setCell (show w.heap.size ≤ w.heap.size + 1 + 1 by omega) _
        · have := hb3.size; simp; omega
      case measure => simp [intOf]
    · have hbe : Below wr.heap.size wr (wr.alloc (.cells #[.int .i64 (p1 : Int), .int .i64 (p2 : Int)] 120)) := (Below.refl _ _).alloc (Nat.le_refl _) _
      have g0 := cell_later hbe d0
      have g1 := cell_later hbe d1
      have g2 := cell_later hbe d2
      have g3 : (wr.alloc (.cells #[.int .i64 (p1 : Int), .int .i64 (p2 : Int)] 120)).cell? ⟨wr.heap.size, 0, none⟩ = some (.int .i64 (p1 : Int)) := by simp [go_sem]
      have g4 : (wr.alloc (.cells #[.int .i64 (p1 : Int), .int .i64 (p2 : Int)] 120)).cell? ⟨wr.heap.size, 1, none⟩ = some (.int .i64 (p2 : Int)) := by simp [go_sem]
      have HR : Hid (Calls Try.prog 80 #[.agg #[x0, .slice (some ⟨gT, 0, none⟩) T.length cT, .map (some bl)], .agg #[.int .i64 (p1 : Int), .int .i64 (p2 : Int)]] (wr.alloc (.cells #[.int .i64 (p1 : Int), .int .i64 (p2 : Int)] 120)) fun e w' => e = .returned (.int .i64 (rgt Lf p1 p2)) ∧ Below (wr.alloc (.cells #[.int .i64 (p1 : Int), .int .i64 (p2 : Int)] 120)).heap.size (wr.alloc (.cells #[.int .i64 (p1 : Int), .int .i64 (p2 : Int)] 120)) w') := right_any _ _ _ _ p1 p2 _ (by omega) (by omega) (M2.out.later hbe)
      have HBE : Hid (Below wr.heap.size wr (wr.alloc (.cells #[.int .i64 (p1 : Int), .int .i64 (p2 : Int)] 120))) := hbe
      clear hbe
      go_wp2_with (go_at_call 80; refine Calls.mono HR.out ?_; rintro e w3 ⟨rfl, hb3'⟩; have hb3 := below_then HBE.out hb3'; have c3 := (hb3.block (w.heap.size + 1 + 1) (by omega)).trans C2.out; have e0 : w3.cell? ⟨w.heap.size + 1 + 1, 1, none⟩ = some (.int .i64 0) := (by simp [World.cell?, c3]); have f0 : w3.frozen? ⟨w.heap.size + 1 + 1, 1, none⟩ = false := (by simp [World.frozen?, c3]); have C3 : Hid (w3.heap[w.heap.size + 1 + 1]? = some (.cells #[.int .i64 (if 0 < 1 then rgt Lf p0 p1 else 0), .int .i64 (if 1 < 1 then rgt Lf p1 p2 else 0), .int .i64 (if 2 < 1 then rgt Lf p2 p0 else 0)] 57)) := c3; clear c3)
      go_roundw
      case rel =>
        have st := stored_block (w := w3) (o := 1) (v := .int .i64 (rgt Lf p1 p2)) (Hid.out C3)
        refine ⟨2, by omega, by go_num, ?_, ?_, ?_, ?_, ?_, ?_⟩
        · exact (Below.heap_setCell _ _ _ _ (show w.heap.size ≠ w.heap.size + 1 + 1 by omega)).trans ((hb3.block _ (by omega)).trans A2.out)
        · exact (Below.heap_setCell _ _ _ _ (show w.heap.size + 1 ≠ w.heap.size + 1 + 1 by omega)).trans ((hb3.block _ (by omega)).trans B2'.out)
        · rw [st]; simp
        · exact (M2.out.later hb3).block (Below.heap_setCell _ _ _ _ (show bl ≠ w.heap.size + 1 + 1 by have := HBL.out; omega))
        · exact (below_then B2 hb3).setCell (show w.heap.size ≤ w.heap.size + 1 + 1 by omega) _
        · have := hb3.size; simp; omega
      case measure => simp [intOf]
    · have hbe : Below wr.heap.size wr (wr.alloc (.cells #[.int .i64 (p2 : Int), .int .i64 (p0 : Int)] 120)) := (Below.refl _ _).alloc (Nat.le_refl _) _
      have g0 := cell_later hbe d0
      have g1 := cell_later hbe d1
      have g2 := cell_later hbe d2
      have g3 : (wr.alloc (.cells #[.int .i64 (p2 : Int), .int .i64 (p0 : Int)] 120)).cell? ⟨wr.heap.size, 0, none⟩ = some (.int .i64 (p2 : Int)) := by simp [go_sem]
      have g4 : (wr.alloc (.cells #[.int .i64 (p2 : Int), .int .i64 (p0 : Int)] 120)).cell? ⟨wr.heap.size, 1, none⟩ = some (.int .i64 (p0 : Int)) := by simp [go_sem]
      have HR : Hid (Calls Try.prog 80 #[.agg #[x0, .slice (some ⟨gT, 0, none⟩) T.length cT, .map (some bl)], .agg #[.int .i64 (p2 : Int), .int .i64 (p0 : Int)]] (wr.alloc (.cells #[.int .i64 (p2 : Int), .int .i64 (p0 : Int)] 120)) fun e w' => e = .returned (.int .i64 (rgt Lf p2 p0)) ∧ Below (wr.alloc (.cells #[.int .i64 (p2 : Int), .int .i64 (p0 : Int)] 120)).heap.size (wr.alloc (.cells #[.int .i64 (p2 : Int), .int .i64 (p0 : Int)] 120)) w') := right_any _ _ _ _ p2 p0 _ (by omega) (by omega) (M2.out.later hbe)
      have HBE : Hid (Below wr.heap.size wr (wr.alloc (.cells #[.int .i64 (p2 : Int), .int .i64 (p0 : Int)] 120))) := hbe
      clear hbe
      go_wp2_with (go_at_call 80; refine Calls.mono HR.out ?_; rintro e w3 ⟨rfl, hb3'⟩; have hb3 := below_then HBE.out hb3'; have c3 := (hb3.block (w.heap.size + 1 + 1) (by omega)).trans C2.out; have e0 : w3.cell? ⟨w.heap.size + 1 + 1, 2, none⟩ = some (.int .i64 0) := (by simp [World.cell?, c3]); have f0 : w3.frozen? ⟨w.heap.size + 1 + 1, 2, none⟩ = false := (by simp [World.frozen?, c3]); have C3 : Hid (w3.heap[w.heap.size + 1 + 1]? = some (.cells #[.int .i64 (if 0 < 2 then rgt Lf p0 p1 else 0), .int .i64 (if 1 < 2 then rgt Lf p1 p2 else 0), .int .i64 (if 2 < 2 then rgt Lf p2 p0 else 0)] 57)) := c3; clear c3)
      go_roundw
      case rel =>
        have st := stored_block (w := w3) (o := 2) (v := .int .i64 (rgt Lf p2 p0)) (Hid.out C3)
        refine ⟨3, by omega, by go_num, ?_, ?_, ?_, ?_, ?_, ?_⟩
        · exact (Below.heap_setCell _ _ _ _ (show w.heap.size ≠ w.heap.size + 1 + 1 by omega)).trans ((hb3.block _ (by omega)).trans A2.out)
        · exact (Below.heap_setCell _ _ _ _ (show w.heap.size + 1 ≠ w.heap.size + 1 + 1 by omega)).trans ((hb3.block _ (by omega)).trans B2'.out)
        · rw [st]; simp
        · exact (M2.out.later hb3).block (Below.heap_setCell _ _ _ _ (show bl ≠ w.heap.size + 1 + 1 by have := HBL.out; omega))
        · exact (below_then B2 hb3).setCell (show w.heap.size ≤ w.heap.size + 1 + 1 by omega) _
        · have := hb3.size; simp; omega
      case measure => simp [intOf]
    · have c3 := C2.out
      simp only [show (0 : Nat) < 3 by omega, show (1 : Nat) < 3 by omega, show (2 : Nat) < 3 by omega, if_true] at c3
      have e0 : wr.cell? ⟨w.heap.size + 1 + 1, 0, none⟩ = some (.int .i64 (rgt Lf p0 p1)) := by simp [World.cell?, c3]
      have e1 : wr.cell? ⟨w.heap.size + 1 + 1, 1, none⟩ = some (.int .i64 (rgt Lf p1 p2)) := by simp [World.cell?, c3]
      have e2 : wr.cell? ⟨w.heap.size + 1 + 1, 2, none⟩ = some (.int .i64 (rgt Lf p2 p0)) := by simp [World.cell?, c3]
      have b3 := B2'.out
      have f0 : wr.cell? ⟨w.heap.size + 1, 0, none⟩ = some (.int .i64 0) := by simp [World.cell?, b3]
      have f1 : wr.cell? ⟨w.heap.size + 1, 1, none⟩ = some (.int .i64 0) := by simp [World.cell?, b3]
      have f2 : wr.cell? ⟨w.heap.size + 1, 2, none⟩ = some (.int .i64 0) := by simp [World.cell?, b3]
      have g0 : ∀ o, wr.frozen? ⟨w.heap.size + 1, o, none⟩ = false := fun o => by simp [World.frozen?, b3]
      have S1 := stored_block (o := 0) (v := .int .i64 (rgt Lf p0 p1)) b3
      have S2 := stored_block (o := 1) (v := .int .i64 (rgt Lf p1 p2)) S1
      have S3 := stored_block (o := 2) (v := .int .i64 (rgt Lf p2 p0)) S2
      have BZ := ((B2.setCell (p := ⟨w.heap.size + 1, 0, none⟩) (by simp) (.int .i64 (rgt Lf p0 p1))).setCell (p := ⟨w.heap.size + 1, 1, none⟩) (by simp) (.int .i64 (rgt Lf p1 p2))).setCell (p := ⟨w.heap.size + 1, 2, none⟩) (by simp) (.int .i64 (rgt Lf p2 p0))
      have HS3 : Hid ((((wr.setCell ⟨w.heap.size + 1, 0, none⟩ (.int .i64 (rgt Lf p0 p1))).setCell ⟨w.heap.size + 1, 1, none⟩ (.int .i64 (rgt Lf p1 p2))).setCell ⟨w.heap.size + 1, 2, none⟩ (.int .i64 (rgt Lf p2 p0))).heap[w.heap.size + 1]? = some (.cells #[.int .i64 (rgt Lf p0 p1), .int .i64 (rgt Lf p1 p2), .int .i64 (rgt Lf p2 p0)] 57)) := by
        rw [Hid, S3]; simp
      have HBZ : Hid (Below w.heap.size w (((wr.setCell ⟨w.heap.size + 1, 0, none⟩ (.int .i64 (rgt Lf p0 p1))).setCell ⟨w.heap.size + 1, 1, none⟩ (.int .i64 (rgt Lf p1 p2))).setCell ⟨w.heap.size + 1, 2, none⟩ (.int .i64 (rgt Lf p2 p0)))) := BZ
      clear c3 b3 S1 S2 S3 BZ
      go_wp2
      generalize (((wr.setCell ⟨w.heap.size + 1, 0, none⟩ (.int .i64 (rgt Lf p0 p1))).setCell ⟨w.heap.size + 1, 1, none⟩ (.int .i64 (rgt Lf p1 p2))).setCell ⟨w.heap.size + 1, 2, none⟩ (.int .i64 (rgt Lf p2 p0))) = Wz at *
      have z0 : Wz.cell? ⟨w.heap.size + 1, 0, none⟩ = some (.int .i64 (rgt Lf p0 p1)) := by simp [World.cell?, HS3.out]
      have z1 : Wz.cell? ⟨w.heap.size + 1, 1, none⟩ = some (.int .i64 (rgt Lf p1 p2)) := by simp [World.cell?, HS3.out]
      have z2 : Wz.cell? ⟨w.heap.size + 1, 2, none⟩ = some (.int .i64 (rgt Lf p2 p0)) := by simp [World.cell?, HS3.out]
      exact bodyPost_ret (v := .tuple #[.agg #[.int .i64 (rgt Lf p0 p1), .int .i64 (rgt Lf p1 p2), .int .i64 (rgt Lf p2 p0)], .int .i64 0]) (by simp [results, Try.results60, go_sem, z0, z1, z2]) rfl ⟨rfl, HBZ.out⟩
set_option maxHeartbeats 1000000 in
theorem fbeside_any (B bM : Nat) (rs : List (List IP)) (T : List T3) (F : Nat → Nat → Option Int) (k : Nat) (w : World) (hT : T.length ≤ 1048576) (hk : k < T.length) (hl : ∀ t ∈ T, t.1 < 64 ∧ t.2.1 < 64 ∧ t.2.2 < 64) (hM : MeshP B w rs bM T F) :
    Calls Try.prog 38 #[.pointer (some ⟨bM, 0, none⟩), .int .i64 (k : Int)] w fun e w' => e = .returned (.tuple #[.agg #[.int .i64 (rgt (leftF T T.length) (T.getD k (0, 0, 0)).1 (T.getD k (0, 0, 0)).2.1), .int .i64 (rgt (leftF T T.length) (T.getD k (0, 0, 0)).2.1 (T.getD k (0, 0, 0)).2.2), .int .i64 (rgt (leftF T T.length) (T.getD k (0, 0, 0)).2.2 (T.getD k (0, 0, 0)).1)], .int .i64 0]) ∧ Below w.heap.size w w' := by
  obtain ⟨_, ⟨g, c', y, bl, L, h2, h3, h4⟩, h5, h6⟩ := hM
  obtain ⟨gT, cT, rfl⟩ : ∃ gT cT, y = .slice (some ⟨gT, 0, none⟩) T.length cT := by
    rcases h3.row.2 with ⟨_, h⟩ | ⟨b, c2, _, h, h2, _⟩
    · omega
    · exact ⟨b, c2, h⟩
  have hb0 : Below w.heap.size w (w.alloc (.cells #[.int .i64 0, .int .i64 0, .int .i64 0] 57)) := (Below.refl _ _).alloc (Nat.le_refl _) _
  have HT : Hid (TriAt (w.alloc (.cells #[.int .i64 0, .int .i64 0, .int .i64 0] 57)) gT T) := by
    have := tri_cells (own_later h3.row hb0)
    exact this
  have HMp : Hid (MapIs (w.alloc (.cells #[.int .i64 0, .int .i64 0, .int .i64 0] 57)) bl (leftF T T.length)) := h3.map.later hb0
  have HL : Hid (∀ t ∈ T, t.1 < 64 ∧ t.2.1 < 64 ∧ t.2.2 < 64) := hl
  clear h3 h4 h5 h6 hl
  have h2' := (hb0.block _ (Array.getElem?_eq_some_iff.1 h2).1).trans h2
  have c0 : (w.alloc (.cells #[.int .i64 0, .int .i64 0, .int .i64 0] 57)).cell? ⟨bM, 0, none⟩ = some (Value.slice (some ⟨g, 0, none⟩) (verts rs).length c') := by simp only [World.cell?, h2']; simp
  have c1 : (w.alloc (.cells #[.int .i64 0, .int .i64 0, .int .i64 0] 57)).cell? ⟨bM, 1, none⟩ = some (.slice (some ⟨gT, 0, none⟩) T.length cT) := by simp only [World.cell?, h2']; simp
  have c2 : (w.alloc (.cells #[.int .i64 0, .int .i64 0, .int .i64 0] 57)).cell? ⟨bM, 2, none⟩ = some (.map (some bl)) := by simp only [World.cell?, h2']; simp
  have HN : Hid ((w.alloc (.cells #[.int .i64 0, .int .i64 0, .int .i64 0] 57)).heap[w.heap.size]? = some (.cells #[.int .i64 0, .int .i64 0, .int .i64 0] 57)) := heap_alloc_new _ _
  have HB0 : Hid (Below w.heap.size w (w.alloc (.cells #[.int .i64 0, .int .i64 0, .int .i64 0] 57))) := hb0
  clear h2 h2' hb0
  generalize hr0 : rgt (leftF T T.length) (T.getD k (0, 0, 0)).1 (T.getD k (0, 0, 0)).2.1 = r0
  generalize hr1 : rgt (leftF T T.length) (T.getD k (0, 0, 0)).2.1 (T.getD k (0, 0, 0)).2.2 = r1
  generalize hr2 : rgt (leftF T T.length) (T.getD k (0, 0, 0)).2.2 (T.getD k (0, 0, 0)).1 = r2
  have HR : Hid (rgt (leftF T T.length) (T.getD k (0, 0, 0)).1 (T.getD k (0, 0, 0)).2.1 = r0 ∧ rgt (leftF T T.length) (T.getD k (0, 0, 0)).2.1 (T.getD k (0, 0, 0)).2.2 = r1 ∧ rgt (leftF T T.length) (T.getD k (0, 0, 0)).2.2 (T.getD k (0, 0, 0)).1 = r2) := ⟨hr0, hr1, hr2⟩
  clear hr0 hr1 hr2
  go_enter Try.func38, Try.ntmps38
  go_wp2_with (go_at_call 60; refine (mbeside_any _ gT cT bl T _ k _ hT hk HL.out HT.out HMp.out).mono ?_; rintro e w1 ⟨rfl, h1⟩; rw [HR.out.1, HR.out.2.1, HR.out.2.2]; have n1 := (h1.block w.heap.size (by simp)).trans HN.out; have N1 : Hid (w1.heap[w.heap.size]? = some (.cells #[.int .i64 0, .int .i64 0, .int .i64 0] 57)) := n1; have f0 : w1.cell? ⟨w.heap.size, 0, none⟩ = some (.int .i64 0) := (by simp [World.cell?, n1]); have f1 : w1.cell? ⟨w.heap.size, 1, none⟩ = some (.int .i64 0) := (by simp [World.cell?, n1]); have f2 : w1.cell? ⟨w.heap.size, 2, none⟩ = some (.int .i64 0) := (by simp [World.cell?, n1]); have g0 : ∀ o, w1.frozen? ⟨w.heap.size, o, none⟩ = false := (fun o => by simp [World.frozen?, n1]); clear n1)
  have B2 := below_then HB0.out h1
  have S1 := stored_block (o := 0) (v := .int .i64 r0) N1.out
  have S2 := stored_block (o := 1) (v := .int .i64 r1) S1
  have S3 := stored_block (o := 2) (v := .int .i64 r2) S2
  have BZ := ((B2.setCell (p := ⟨w.heap.size, 0, none⟩) (by simp) (.int .i64 r0)).setCell (p := ⟨w.heap.size, 1, none⟩) (by simp) (.int .i64 r1)).setCell (p := ⟨w.heap.size, 2, none⟩) (by simp) (.int .i64 r2)
  have HS3 : Hid ((((w1.setCell ⟨w.heap.size, 0, none⟩ (.int .i64 r0)).setCell ⟨w.heap.size, 1, none⟩ (.int .i64 r1)).setCell ⟨w.heap.size, 2, none⟩ (.int .i64 r2)).heap[w.heap.size]? = some (.cells #[.int .i64 r0, .int .i64 r1, .int .i64 r2] 57)) := by
    rw [Hid, S3]; simp
  clear S1 S2 S3
  generalize (((w1.setCell ⟨w.heap.size, 0, none⟩ (.int .i64 r0)).setCell ⟨w.heap.size, 1, none⟩ (.int .i64 r1)).setCell ⟨w.heap.size, 2, none⟩ (.int .i64 r2)) = Wz at *
  have z0 : Wz.cell? ⟨w.heap.size, 0, none⟩ = some (.int .i64 r0) := by simp [World.cell?, HS3.out]
  have z1 : Wz.cell? ⟨w.heap.size, 1, none⟩ = some (.int .i64 r1) := by simp [World.cell?, HS3.out]
  have z2 : Wz.cell? ⟨w.heap.size, 2, none⟩ = some (.int .i64 r2) := by simp [World.cell?, HS3.out]
  exact bodyPost_ret (v := .tuple #[.agg #[.int .i64 r0, .int .i64 r1, .int .i64 r2], .int .i64 0]) (by simp [results, Try.results38, go_sem, z0, z1, z2]) rfl ⟨rfl, BZ⟩
end Go.Proofs.Ytdkaoopkbhaheaa
namespace Go.Proofs.Ytdkaoopkbhaheaa
open Go.RowKit Go.Lib
open Jor
set_option linter.unusedVariables false
set_option linter.unusedSimpArgs false
def covT (V : Nat → IP) (T : List T3) (p : IP) (k : Nat) : Bool := coverB V (T.getD k (0, 0, 0)).1 (T.getD k (0, 0, 0)).2.1 (T.getD k (0, 0, 0)).2.2 p
def LocI (V : Nat → IP) (T : List T3) (p : IP) (r : Int) : Prop := (r = -1 ∧ (bndP p = false ∨ ∀ k, k < T.length → covT V T p k = false)) ∨ ∃ k : Nat, k < T.length ∧ r = k ∧ bndP p = true ∧ covT V T p k = true ∧ ∀ j, j < k → covT V T p j = false
set_option maxRecDepth 100000 in
set_option maxHeartbeats 4000000 in
theorem mlocate_any (g n c' gT cT bl : Nat) (V : Nat → IP) (T : List T3) (px py : Int) (w : World) (hn : n ≤ 64) (hT : T.length ≤ 1048576) (hl : ∀ t ∈ T, t.1 < n ∧ t.2.1 < n ∧ t.2.2 < n) (hp : PtsAt w g 0 n V) (ht : TriAt w gT T) :
    Calls Try.prog 59 #[.agg #[.slice (some ⟨g, 0, none⟩) n c', .slice (some ⟨gT, 0, none⟩) T.length cT, .map (some bl)], .agg #[.int .i64 px, .int .i64 py]] w fun e w' => ∃ r, e = .returned (.int .i64 r) ∧ LocI V T (px, py) r ∧ Below w.heap.size w w' := by
  have hb0 : Below w.heap.size w ((w.alloc (.cells #[.slice (some ⟨g, 0, none⟩) n c', .slice (some ⟨gT, 0, none⟩) T.length cT, .map (some bl)] 96)).alloc (.cells #[.int .i64 px, .int .i64 py] 25)) := ((Below.refl _ _).alloc (Nat.le_refl _) _).alloc (by simp) _
  have HP : Hid (PtsAt w g 0 n V) := hp
  have HT : Hid (TriAt w gT T) := ht
  have HL : Hid (∀ t ∈ T, t.1 < n ∧ t.2.1 < n ∧ t.2.2 < n) := hl
  have hA : ((w.alloc (.cells #[.slice (some ⟨g, 0, none⟩) n c', .slice (some ⟨gT, 0, none⟩) T.length cT, .map (some bl)] 96)).alloc (.cells #[.int .i64 px, .int .i64 py] 25)).heap[w.heap.size]? = some (.cells #[.slice (some ⟨g, 0, none⟩) n c', .slice (some ⟨gT, 0, none⟩) T.length cT, .map (some bl)] 96) := (allocs2 _ _ _).1
  have hB : ((w.alloc (.cells #[.slice (some ⟨g, 0, none⟩) n c', .slice (some ⟨gT, 0, none⟩) T.length cT, .map (some bl)] 96)).alloc (.cells #[.int .i64 px, .int .i64 py] 25)).heap[w.heap.size + 1]? = some (.cells #[.int .i64 px, .int .i64 py] 25) := (allocs2 _ _ _).2.1
  have hS : ((w.alloc (.cells #[.slice (some ⟨g, 0, none⟩) n c', .slice (some ⟨gT, 0, none⟩) T.length cT, .map (some bl)] 96)).alloc (.cells #[.int .i64 px, .int .i64 py] 25)).heap.size = w.heap.size + 1 + 1 := (allocs2 _ _ _).2.2
  clear hp ht hl
  cases hin : bndP (px, py) with
  | false =>
    go_enter Try.func59, Try.ntmps59
    go_wp2_with (go_at_call 78; refine (inBounds_any px py _).mono ?_; rintro e w1 ⟨rfl, hb1⟩; rw [hin])
    go_ret
    exact ⟨_, rfl, .inl ⟨rfl, .inl hin⟩, below_then hb0 hb1⟩
  | true =>
    have HA : Hid (((w.alloc (.cells #[.slice (some ⟨g, 0, none⟩) n c', .slice (some ⟨gT, 0, none⟩) T.length cT, .map (some bl)] 96)).alloc (.cells #[.int .i64 px, .int .i64 py] 25)).heap[w.heap.size]? = some (.cells #[.slice (some ⟨g, 0, none⟩) n c', .slice (some ⟨gT, 0, none⟩) T.length cT, .map (some bl)] 96)) := hA
    have HB : Hid (((w.alloc (.cells #[.slice (some ⟨g, 0, none⟩) n c', .slice (some ⟨gT, 0, none⟩) T.length cT, .map (some bl)] 96)).alloc (.cells #[.int .i64 px, .int .i64 py] 25)).heap[w.heap.size + 1]? = some (.cells #[.int .i64 px, .int .i64 py] 25)) := hB
    have HS : Hid (((w.alloc (.cells #[.slice (some ⟨g, 0, none⟩) n c', .slice (some ⟨gT, 0, none⟩) T.length cT, .map (some bl)] 96)).alloc (.cells #[.int .i64 px, .int .i64 py] 25)).heap.size = w.heap.size + 1 + 1) := hS
    have HB0 : Hid (Below w.heap.size w ((w.alloc (.cells #[.slice (some ⟨g, 0, none⟩) n c', .slice (some ⟨gT, 0, none⟩) T.length cT, .map (some bl)] 96)).alloc (.cells #[.int .i64 px, .int .i64 py] 25))) := hb0
    clear hA hB hS hb0
    go_enter Try.func59, Try.ntmps59
    go_wp2_with (go_at_call 78; refine (inBounds_any px py _).mono ?_; rintro e w1 ⟨rfl, hb1⟩; rw [hin]; have a1 := (hb1.block w.heap.size (by rw [HS.out]; omega)).trans HA.out; have A1 : Hid (w1.heap[w.heap.size]? = some (.cells #[.slice (some ⟨g, 0, none⟩) n c', .slice (some ⟨gT, 0, none⟩) T.length cT, .map (some bl)] 96)) := a1; have q0 : w1.cell? ⟨w.heap.size, 1, none⟩ = some (.slice (some ⟨gT, 0, none⟩) T.length cT) := (by simp [World.cell?, a1]); clear a1)
    have b1 := (hb1.block (w.heap.size + 1) (by rw [HS.out]; omega)).trans HB.out
    have B1 : Hid (w1.heap[w.heap.size + 1]? = some (.cells #[.int .i64 px, .int .i64 py] 25)) := b1
    have hb2 := below_then HB0.out hb1
    have hs1 : w.heap.size + 1 + 1 ≤ w1.heap.size := by have := hb1.size; rw [HS.out] at this; exact this
    clear hb1 HA HB HS HB0 b1 q0
    go_loopw [13] (fun x wq => ∃ k : Nat, k ≤ T.length ∧ x = .int .i64 k ∧ (∀ j, j < k → covT V T (px, py) j = false) ∧ Below w1.heap.size w1 wq) (fun x _ => T.length - (intOf x).toNat)
    case atStart => exact ⟨0, Nat.zero_le _, rfl, fun j hj => by omega, Below.refl _ _⟩
    case round =>
      obtain ⟨k, hk, rfl, hno, hbr⟩ := hrel
      have HNO : Hid (∀ j, j < k → covT V T (px, py) j = false) := hno
      have hbw := below_then hb2 hbr
      have hsr := hbr.size
      clear hno
      by_cases hlt : k < T.length
      · obtain ⟨t0', t1', t2'⟩ := HT.out k hlt
        have t0 := cell_later hbw t0'
        have t1 := cell_later hbw t1'
        have t2 := cell_later hbw t2'
        obtain ⟨l0, l1, l2⟩ := HL.out _ (t3_at hlt)
        have k0 : (0 : Int) ≤ (k : Int) := by omega
        have kn : (k : Int) < (T.length : Int) := by omega
        clear t0' t1' t2'
        have HCV : Hid (covT V T (px, py) k = coverB V (T.getD k (0, 0, 0)).1 (T.getD k (0, 0, 0)).2.1 (T.getD k (0, 0, 0)).2.2 (px, py)) := rfl
        generalize (T.getD k (0, 0, 0)).1 = p0 at *
        generalize (T.getD k (0, 0, 0)).2.1 = p1 at *
        generalize (T.getD k (0, 0, 0)).2.2 = p2 at *
        have hbe : Below wr.heap.size wr (wr.alloc (.cells #[.int .i64 (p0 : Int), .int .i64 (p1 : Int), .int .i64 (p2 : Int)] 57)) := (Below.refl _ _).alloc (Nat.le_refl _) _
        have hbe2 := below_then hbr hbe
        have ae := (hbe2.block w.heap.size (by omega)).trans A1.out
        have be := (hbe2.block (w.heap.size + 1) (by omega)).trans B1.out
        have g0 : (wr.alloc (.cells #[.int .i64 (p0 : Int), .int .i64 (p1 : Int), .int .i64 (p2 : Int)] 57)).cell? ⟨w.heap.size, 0, none⟩ = some (.slice (some ⟨g, 0, none⟩) n c') := by simp only [World.cell?, ae]; simp
        have g1 : (wr.alloc (.cells #[.int .i64 (p0 : Int), .int .i64 (p1 : Int), .int .i64 (p2 : Int)] 57)).cell? ⟨w.heap.size + 1, 0, none⟩ = some (.int .i64 px) := by simp only [World.cell?, be]; simp
        have g2 : (wr.alloc (.cells #[.int .i64 (p0 : Int), .int .i64 (p1 : Int), .int .i64 (p2 : Int)] 57)).cell? ⟨w.heap.size + 1, 1, none⟩ = some (.int .i64 py) := by simp only [World.cell?, be]; simp
        have g3 : (wr.alloc (.cells #[.int .i64 (p0 : Int), .int .i64 (p1 : Int), .int .i64 (p2 : Int)] 57)).cell? ⟨wr.heap.size, 0, none⟩ = some (.int .i64 (p0 : Int)) := by simp [go_sem]
        have g4 : (wr.alloc (.cells #[.int .i64 (p0 : Int), .int .i64 (p1 : Int), .int .i64 (p2 : Int)] 57)).cell? ⟨wr.heap.size, 1, none⟩ = some (.int .i64 (p1 : Int)) := by simp [go_sem]
        have g5 : (wr.alloc (.cells #[.int .i64 (p0 : Int), .int .i64 (p1 : Int), .int .i64 (p2 : Int)] 57)).cell? ⟨wr.heap.size, 2, none⟩ = some (.int .i64 (p2 : Int)) := by simp [go_sem]
        have HCC : Hid (Calls Try.prog 79 #[.agg #[.slice (some ⟨g, 0, none⟩) n c', .int .i64 (p0 : Int), .int .i64 (p1 : Int), .int .i64 (p2 : Int)], .agg #[.int .i64 px, .int .i64 py]] (wr.alloc (.cells #[.int .i64 (p0 : Int), .int .i64 (p1 : Int), .int .i64 (p2 : Int)] 57)) fun e w' => e = .returned (.bool (coverB V p0 p1 p2 (px, py))) ∧ Below (wr.alloc (.cells #[.int .i64 (p0 : Int), .int .i64 (p1 : Int), .int .i64 (p2 : Int)] 57)).heap.size (wr.alloc (.cells #[.int .i64 (p0 : Int), .int .i64 (p1 : Int), .int .i64 (p2 : Int)] 57)) w') := covers_any g 0 n c' p0 p1 p2 px py V _ (by omega) l0 l1 l2 (PtsAt.later (below_then hbw hbe) HP.out)
        have HBE : Hid (Below wr.heap.size wr (wr.alloc (.cells #[.int .i64 (p0 : Int), .int .i64 (p1 : Int), .int .i64 (p2 : Int)] 57))) := hbe
        clear ae be hbe hbe2
        cases hcv : coverB V p0 p1 p2 (px, py) with
        | false =>
          have CF : Hid (covT V T (px, py) k = false) := HCV.out.trans hcv
          go_wp2_with (go_at_call 79; refine Calls.mono HCC.out ?_; rintro e w3 ⟨rfl, hb3⟩; rw [hcv])
          go_roundw
          case rel =>
            refine ⟨k + 1, by omega, by go_num, fun j hj => ?_, below_then hbr (below_then HBE.out hb3)⟩
            rcases Nat.lt_or_ge j k with h | h
            · exact HNO.out j h
            · obtain rfl : j = k := by omega
              exact CF.out
          case measure => simp [intOf]; omega
        | true =>
          have CF : Hid (covT V T (px, py) k = true) := HCV.out.trans hcv
          go_wp2_with (go_at_call 79; refine Calls.mono HCC.out ?_; rintro e w3 ⟨rfl, hb3⟩; rw [hcv])
          go_ret
          exact ⟨_, rfl, .inr ⟨k, hlt, rfl, hin, CF.out, HNO.out⟩, below_then hbw (below_then HBE.out hb3)⟩
      · have : k = T.length := by omega
        subst this
        go_wp2
        go_ret
        exact ⟨_, rfl, .inl ⟨rfl, .inr HNO.out⟩, hbw⟩
set_option maxHeartbeats 1000000 in
theorem flocate_any (B bM : Nat) (rs : List (List IP)) (T : List T3) (F : Nat → Nat → Option Int) (px py : Int) (w : World) (hn : (verts rs).length ≤ 64) (h0 : 0 < T.length) (hT : T.length ≤ 1048576) (hl : ∀ t ∈ T, t.1 < (verts rs).length ∧ t.2.1 < (verts rs).length ∧ t.2.2 < (verts rs).length) (hM : MeshP B w rs bM T F) :
    Calls Try.prog 37 #[.pointer (some ⟨bM, 0, none⟩), .agg #[.int .i64 px, .int .i64 py]] w fun e w' => ∃ r, e = .returned (.int .i64 r) ∧ LocI (pt (verts rs)) T (px, py) r ∧ Below w.heap.size w w' := by
  obtain ⟨_, ⟨g, c', y, bl, L, h2, h3, h4⟩, h5, h6⟩ := hM
  obtain ⟨gT, cT, rfl⟩ : ∃ gT cT, y = .slice (some ⟨gT, 0, none⟩) T.length cT := by
    rcases h3.row.2 with ⟨_, h⟩ | ⟨b, c2, _, h, h2, _⟩
    · omega
    · exact ⟨b, c2, h⟩
  have hb0 : Below w.heap.size w (w.alloc (.cells #[.int .i64 px, .int .i64 py] 25)) := (Below.refl _ _).alloc (Nat.le_refl _) _
  have HC : Hid (∀ W, PtsAt W g 0 (verts rs).length (pt (verts rs)) → TriAt W gT T → Calls Try.prog 59 #[.agg #[.slice (some ⟨g, 0, none⟩) (verts rs).length c', .slice (some ⟨gT, 0, none⟩) T.length cT, .map (some bl)], .agg #[.int .i64 px, .int .i64 py]] W fun e w' => ∃ r, e = .returned (.int .i64 r) ∧ LocI (pt (verts rs)) T (px, py) r ∧ Below W.heap.size W w') := fun W h1 h2 => mlocate_any g _ c' gT cT bl _ T px py _ hn hT hl h1 h2
  have HPT : Hid (PtsAt (w.alloc (.cells #[.int .i64 px, .int .i64 py] 25)).drew g 0 (verts rs).length (pt (verts rs))) := PtsAt.later hb0.drew h3.pts
  have HTT : Hid (TriAt (w.alloc (.cells #[.int .i64 px, .int .i64 py] 25)).drew gT T) := by
    have := tri_cells (own_later h3.row hb0.drew)
    exact this
  have h2' := (hb0.block _ (Array.getElem?_eq_some_iff.1 h2).1).trans h2
  have c0 : (w.alloc (.cells #[.int .i64 px, .int .i64 py] 25)).cell? ⟨bM, 0, none⟩ = some (Value.slice (some ⟨g, 0, none⟩) (verts rs).length c') := by simp only [World.cell?, h2']; simp
  have c1 : (w.alloc (.cells #[.int .i64 px, .int .i64 py] 25)).cell? ⟨bM, 1, none⟩ = some (.slice (some ⟨gT, 0, none⟩) T.length cT) := by simp only [World.cell?, h2']; simp
  have c2 : (w.alloc (.cells #[.int .i64 px, .int .i64 py] 25)).cell? ⟨bM, 2, none⟩ = some (.map (some bl)) := by simp only [World.cell?, h2']; simp
  have hdr : Below (w.alloc (.cells #[.int .i64 px, .int .i64 py] 25)).heap.size (w.alloc (.cells #[.int .i64 px, .int .i64 py] 25)) (w.alloc (.cells #[.int .i64 px, .int .i64 py] 25)).drew := (Below.refl _ _).drew
  have c0' := cell_later hdr c0
  have c1' := cell_later hdr c1
  have c2' := cell_later hdr c2
  have HB0 : Hid (Below w.heap.size w (w.alloc (.cells #[.int .i64 px, .int .i64 py] 25)).drew) := hb0.drew
  clear h2 h2' h3 h4 h5 h6 hl hdr
  go_enter Try.func37, Try.ntmps37
  go_wp2
  go_region_held3 (fun w' => (Below w.heap.size w w' ∧ w.heap.size ≤ w.heap.size) ∧ PtsAt w' g 0 (verts rs).length (pt (verts rs)) ∧ TriAt w' gT T ∧ w'.cell? ⟨bM, 0, none⟩ = some (Value.slice (some ⟨g, 0, none⟩) (verts rs).length c') ∧ w'.cell? ⟨bM, 1, none⟩ = some (.slice (some ⟨gT, 0, none⟩) T.length cT) ∧ w'.cell? ⟨bM, 2, none⟩ = some (.map (some bl)) ∧ w'.cell? ⟨w.heap.size, 0, none⟩ = some (.int .i64 px) ∧ w'.cell? ⟨w.heap.size, 1, none⟩ = some (.int .i64 py))
    (first | (go_split_ands; refine ⟨⟨HB0.out, Nat.le_refl _⟩, HPT.out, HTT.out, c0', c1', c2', ?_, ?_⟩ <;> simp [go_sem]) | (go_split_ands; exact ⟨keep_below (by assumption) ⟨by assumption, by assumption⟩, PtsAt.later (by assumption) (by assumption), TriAt.later (by assumption) (by assumption), cell_later (by assumption) (by assumption), cell_later (by assumption) (by assumption), cell_later (by assumption) (by assumption), cell_later (by assumption) (by assumption), cell_later (by assumption) (by assumption)⟩) | (go_split_ands; refine ⟨⟨?_, ?_⟩, ?_, ?_, ?_, ?_, ?_, ?_, ?_⟩ <;> assumption))
    (first | (go_at_call 59; refine Calls.mono (HC.out _ (by go_split_ands; first | assumption | exact HPT.out) (by go_split_ands; first | assumption | exact HTT.out)) ?_; rintro e w3 ⟨r, rfl, hr, hb3⟩))
  go_split_ands
  have hbz : Below w.heap.size w w3 := by assumption
  go_wp2
  go_ret
  exact ⟨r, rfl, hr, hbz⟩
end Go.Proofs.Ytdkaoopkbhaheaa
