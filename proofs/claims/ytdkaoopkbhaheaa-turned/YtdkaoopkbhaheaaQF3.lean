import Derived.Test.YtdkaoopkbhaheaaPF1
import Derived.Deep.DeepCutAuto
namespace Go.Proofs.Ytdkaoopkbhaheaa
open Go.RowKit Go.Lib
open Jor
open scoped Classical
set_option linter.unusedVariables false
set_option linter.unusedSimpArgs false
set_option maxRecDepth 100000 in
set_option maxHeartbeats 4000000 in
theorem touch_any (b of n cap : Nat) (e1 e2 f1 f2 : Nat) (ax ay bx bY cx cy dx dy : Int) (w : World) (hn : n ≤ 1048576) (h1 : e1 < n) (h2 : e2 < n) (h3 : f1 < n) (h4 : f2 < n)
    (a1 : w.cell? ⟨b, of + e1 * 2, none⟩ = some (.int .i64 ax)) (a2 : w.cell? ⟨b, of + e1 * 2 + 1, none⟩ = some (.int .i64 ay))
    (b1 : w.cell? ⟨b, of + e2 * 2, none⟩ = some (.int .i64 bx)) (b2 : w.cell? ⟨b, of + e2 * 2 + 1, none⟩ = some (.int .i64 bY))
    (c1 : w.cell? ⟨b, of + f1 * 2, none⟩ = some (.int .i64 cx)) (c2 : w.cell? ⟨b, of + f1 * 2 + 1, none⟩ = some (.int .i64 cy))
    (d1 : w.cell? ⟨b, of + f2 * 2, none⟩ = some (.int .i64 dx)) (d2 : w.cell? ⟨b, of + f2 * 2 + 1, none⟩ = some (.int .i64 dy)) :
    Calls Try.prog 102 #[.slice (some ⟨b, of, none⟩) n cap, .agg #[.int .i64 e1, .int .i64 e2], .agg #[.int .i64 f1, .int .i64 f2]] w fun e w' => e = .returned (.bool (touchB (e1, e2) (f1, f2) (ax, ay) (bx, bY) (cx, cy) (dx, dy))) ∧ Below w.heap.size w w' := by
  have k1 : (0 : Int) ≤ (e1 : Int) := by omega
  have k2 : (0 : Int) ≤ (e2 : Int) := by omega
  have k3 : (0 : Int) ≤ (f1 : Int) := by omega
  have k4 : (0 : Int) ≤ (f2 : Int) := by omega
  have l1 : (e1 : Int) < (n : Int) := by omega
  have l2 : (e2 : Int) < (n : Int) := by omega
  have l3 : (f1 : Int) < (n : Int) := by omega
  have l4 : (f2 : Int) < (n : Int) := by omega
  have hs : Below w.heap.size w ((w.alloc (.cells #[.int .i64 e1, .int .i64 e2] 120)).alloc (.cells #[.int .i64 f1, .int .i64 f2] 120)) := ((Below.refl _ _).alloc (Nat.le_refl _) _).alloc (by simp) _
  have A1 := cell_later hs a1
  have A2 := cell_later hs a2
  have B1 := cell_later hs b1
  have B2 := cell_later hs b2
  have C1 := cell_later hs c1
  have C2 := cell_later hs c2
  have D1 := cell_later hs d1
  have D2 := cell_later hs d2
  have X1 : ((w.alloc (.cells #[.int .i64 e1, .int .i64 e2] 120)).alloc (.cells #[.int .i64 f1, .int .i64 f2] 120)).cell? ⟨w.heap.size, 0, none⟩ = some (.int .i64 e1) := by simp [go_sem]
  have X2 : ((w.alloc (.cells #[.int .i64 e1, .int .i64 e2] 120)).alloc (.cells #[.int .i64 f1, .int .i64 f2] 120)).cell? ⟨w.heap.size, 1, none⟩ = some (.int .i64 e2) := by simp [go_sem]
  have Y1 : ((w.alloc (.cells #[.int .i64 e1, .int .i64 e2] 120)).alloc (.cells #[.int .i64 f1, .int .i64 f2] 120)).cell? ⟨w.heap.size + 1, 0, none⟩ = some (.int .i64 f1) := by simp [go_sem]
  have Y2 : ((w.alloc (.cells #[.int .i64 e1, .int .i64 e2] 120)).alloc (.cells #[.int .i64 f1, .int .i64 f2] 120)).cell? ⟨w.heap.size + 1, 1, none⟩ = some (.int .i64 f2) := by simp [go_sem]
  clear a1 a2 b1 b2 c1 c2 d1 d2
  go_enter Try.func102, Try.ntmps102
  go_wp2
  generalize hW : (w.alloc (.cells #[.int .i64 e1, .int .i64 e2] 120)).alloc (.cells #[.int .i64 f1, .int .i64 f2] 120) = W at *
  have n1 := World.new_ne _ _ A1
  have n2 := World.new_ne _ _ B1
  have n3 := World.new_ne _ _ X1
  have n5 := World.new_ne _ _ C1
  have n6 := World.new_ne _ _ D1
  have n4 := World.new_ne _ _ Y1
  go_cut [7, 8] (fun p q w' => ∃ P R : Nat, p = .pointer (some ⟨P, 0, none⟩) ∧ q = .pointer (some ⟨R, 0, none⟩) ∧ w'.cell? ⟨P, 0, none⟩ = some (.int .i64 ax) ∧ w'.cell? ⟨P, 1, none⟩ = some (.int .i64 ay) ∧ w'.cell? ⟨R, 0, none⟩ = some (.int .i64 bx) ∧ w'.cell? ⟨R, 1, none⟩ = some (.int .i64 bY) ∧ Below W.heap.size W w')
  case first =>
    go_region_held3 (fun w' => w'.cell? ⟨w.heap.size, 0, none⟩ = some (.int .i64 e1) ∧ w'.cell? ⟨w.heap.size, 1, none⟩ = some (.int .i64 e2) ∧ w'.cell? ⟨b, of + e1 * 2, none⟩ = some (.int .i64 ax) ∧ w'.cell? ⟨b, of + e1 * 2 + 1, none⟩ = some (.int .i64 ay) ∧ w'.cell? ⟨b, of + e2 * 2, none⟩ = some (.int .i64 bx) ∧ w'.cell? ⟨b, of + e2 * 2 + 1, none⟩ = some (.int .i64 bY)) (go_keep) (fail)
    all_goals go_split_ands
    all_goals (try go_wp2_with fail)
    all_goals go_meet
    all_goals
      refine ⟨_, _, rfl, rfl, ?_, ?_, ?_, ?_, ?_⟩
      · simp [go_sem]
      · simp [go_sem]
      · simp [go_sem]
      · simp [go_sem]
      · repeat (first | exact Below.refl _ _ | apply Below.drew | refine Below.alloc ?_ (by simp) _)
  case rest =>
    obtain ⟨P1, R1, rfl, rfl, p1, p2, p3, p4, hb1⟩ := hcut
    have C1' := cell_later hb1 C1
    have C2' := cell_later hb1 C2
    have D1' := cell_later hb1 D1
    have D2' := cell_later hb1 D2
    have Y1' := cell_later hb1 Y1
    have Y2' := cell_later hb1 Y2
    have X1' := cell_later hb1 X1
    have X2' := cell_later hb1 X2
    clear A1 A2 B1 B2 C1 C2 D1 D2 X1 X2 Y1 Y2 n1 n2 n3 n4
    have n5 := World.new_ne _ _ C1'
    have n6 := World.new_ne _ _ D1'
    have n7 := World.new_ne _ _ Y1'
    have hs1 : Below w.heap.size w wc := hs.trans (hb1.mono hs.size)
    go_wp2
    go_cut [9, 10] (fun p q w' => ∃ P R : Nat, p = .pointer (some ⟨P, 0, none⟩) ∧ q = .pointer (some ⟨R, 0, none⟩) ∧ w'.cell? ⟨P, 0, none⟩ = some (.int .i64 cx) ∧ w'.cell? ⟨P, 1, none⟩ = some (.int .i64 cy) ∧ w'.cell? ⟨R, 0, none⟩ = some (.int .i64 dx) ∧ w'.cell? ⟨R, 1, none⟩ = some (.int .i64 dy) ∧ Below wc.heap.size wc w')
    case first =>
      go_region_held3 (fun w' => w'.cell? ⟨w.heap.size + 1, 0, none⟩ = some (.int .i64 f1) ∧ w'.cell? ⟨w.heap.size + 1, 1, none⟩ = some (.int .i64 f2) ∧ w'.cell? ⟨b, of + f1 * 2, none⟩ = some (.int .i64 cx) ∧ w'.cell? ⟨b, of + f1 * 2 + 1, none⟩ = some (.int .i64 cy) ∧ w'.cell? ⟨b, of + f2 * 2, none⟩ = some (.int .i64 dx) ∧ w'.cell? ⟨b, of + f2 * 2 + 1, none⟩ = some (.int .i64 dy)) (go_keep) (fail)
      all_goals go_split_ands
      all_goals (try go_wp2_with fail)
      all_goals go_meet
      all_goals
        refine ⟨_, _, rfl, rfl, ?_, ?_, ?_, ?_, ?_⟩
        · simp [go_sem]
        · simp [go_sem]
        · simp [go_sem]
        · simp [go_sem]
        · repeat (first | exact Below.refl _ _ | apply Below.drew | refine Below.alloc ?_ (by simp) _)
    case rest =>
      obtain ⟨P2, R2, rfl, rfl, q1, q2, q3, q4, hb2⟩ := hcut
      have hs2 : Below w.heap.size w wc := hs1.trans (hb2.mono hs1.size)
      have P1' := cell_later hb2 p1
      have P2' := cell_later hb2 p2
      have P3' := cell_later hb2 p3
      have P4' := cell_later hb2 p4
      have Y1'' := cell_later hb2 Y1'
      have Y2'' := cell_later hb2 Y2'
      have X1'' := cell_later hb2 X1'
      have X2'' := cell_later hb2 X2'
      clear p1 p2 p3 p4 Y1' Y2' X1' X2' C1' C2' D1' D2' n5 n6 n7 hs1 hb1 hb2
      by_cases hq : e2 = f1
      · have HR : Hid (touchB (e1, e2) (f1, f2) (ax, ay) (bx, bY) (cx, cy) (dx, dy) = foldB (ax, ay) (bx, bY) (dx, dy)) := if_pos hq
        subst hq
        go_wp2_with fail
        refine (foldBack_any _ _ _ _ _ _ _).mono ?_
        rintro e w1 ⟨rfl, hb3⟩
        go_wp2
        go_ret
        exact ⟨retb HR.out, below_then hs2 hb3⟩
      · have hq1 : ((e2 : Int) == (f1 : Int)) = false := by rw [beq_eq_false_iff_ne]; omega
        have hq2 : ¬ (e2 : Int) = (f1 : Int) := by omega
        by_cases hr : f2 = e1
        · have HR : Hid (touchB (e1, e2) (f1, f2) (ax, ay) (bx, bY) (cx, cy) (dx, dy) = foldB (cx, cy) (dx, dy) (bx, bY)) := by
            show (if e2 = f1 then _ else _) = _
            rw [if_neg hq]; exact if_pos hr
          subst hr
          go_wp2_with fail
          refine (foldBack_any _ _ _ _ _ _ _).mono ?_
          rintro e w1 ⟨rfl, hb3⟩
          go_wp2
          go_ret
          exact ⟨retb HR.out, below_then hs2 hb3⟩
        · have hr1 : ((f2 : Int) == (e1 : Int)) = false := by rw [beq_eq_false_iff_ne]; omega
          have hr2 : ¬ (f2 : Int) = (e1 : Int) := by omega
          have HR : Hid (touchB (e1, e2) (f1, f2) (ax, ay) (bx, bY) (cx, cy) (dx, dy) = meetB ax ay bx bY cx cy dx dy) := by
            show (if e2 = f1 then _ else _) = _
            rw [if_neg hq]; exact if_neg hr
          go_wp2_with fail
          refine (planeMeet_any _ _ _ _ _ _ _ _ _).mono ?_
          rintro e w1 ⟨rfl, hb3⟩
          go_wp2
          go_ret
          exact ⟨retb HR.out, below_then hs2 hb3⟩
theorem own_ed {w : World} {base : Nat} {e : TypeId} {v : Value} {rs : List (List IP)} (hpos : 0 < (verts rs).length) (h : w.ownsRow base e 2 v (verts rs).length (cellsA (eds 0 rs))) : ∃ b c, v = .slice (some ⟨b, 0, none⟩) (verts rs).length c ∧ (verts rs).length ≤ c ∧ c ≤ maxLen ∧ ∀ i, i < (verts rs).length → w.cell? ⟨b, i * 2, none⟩ = some (.int .i64 ((ed rs i).1 : Int)) ∧ w.cell? ⟨b, i * 2 + 1, none⟩ = some (.int .i64 ((ed rs i).2 : Int)) := by
  have h0 := h
  rcases h.2 with ⟨rfl, hn⟩ | ⟨g, cap, cur, rfl, _, _, hc1, hc2, _⟩
  · omega
  · refine ⟨g, cap, rfl, hc1, hc2, fun i hi => ?_⟩
    have hl : i < (eds 0 rs).length := by rw [eds_length]; exact hi
    have g1 := cellsA_get (eds 0 rs) i hl
    have k1 := h0.cellAt (i * 2) (by omega)
    have k2 := h0.cellAt (i * 2 + 1) (by omega)
    rw [g1.1] at k1
    rw [g1.2] at k2
    exact ⟨k1, k2⟩
theorem ed_lt {rs : List (List IP)} {i : Nat} (h3 : ∀ k, k < rs.length → 3 ≤ (rg rs k).length) (h : i < (verts rs).length) : (ed rs i).1 < (verts rs).length ∧ (ed rs i).2 < (verts rs).length := by
  obtain ⟨k, j, hk, hj, rfl⟩ := num_of rs i h
  rw [ed_at rs k j hj]
  have := h3 k hk
  exact ⟨(pt_at rs k j hj).2, (pt_at rs k _ (Nat.mod_lt _ (by omega))).2⟩
theorem touchp_no {rs : List (List IP)} (h : ∀ i j, j < i → i < (verts rs).length → touchE rs i j = false) : ¬ TouchP rs := by
  rintro ⟨i, j, h1, h2, h3⟩
  have := h i j h1 h2
  rw [h3] at this; cases this
set_option maxRecDepth 100000 in
set_option maxHeartbeats 4000000 in
theorem noneTouch_any (a : Option Addr) (cap : Nat) (A : Nat → Option Addr) (C : Nat → Nat) (rs : List (List IP)) (w : World) (hn : rs.length ≤ 8) (hm : 1 ≤ rs.length) (h3 : ∀ k, k < rs.length → 3 ≤ (rg rs k).length) (hsz : (verts rs).length ≤ 1048576) (hp : RingsL w a A C rs) :
    Calls Try.prog 89 #[.slice a rs.length cap] w fun e w' => e = .returned (.bool (bl (¬ TouchP rs))) ∧ Below w.heap.size w w' := by
  have H3 : Hid (∀ k, k < rs.length → 3 ≤ (rg rs k).length) := h3
  have hpos : 0 < (verts rs).length := by
    have := rg_le rs 0
    have := h3 0 (by omega)
    omega
  clear h3
  go_enter Try.func89, Try.ntmps89
  go_wp2_with (first | (go_at_call 73; refine (vertices_any _ _ _ _ _ _ (by omega) hp (fun k hk => Nat.lt_of_lt_of_le (by decide) (H3.out k hk)) hpos hsz).mono ?_; rintro e w1 ⟨a1, cv, rfl, hP, hb1⟩) | (go_at_call 97; refine (pedges_any _ _ _ _ _ _ (by omega) (Rings.later hb1 hp) hsz).mono ?_; rintro e w2 ⟨v2, rfl, hown, hb2'⟩; obtain ⟨be, ce, rfl, hc1, hc2, hE⟩ := own_ed hpos hown))
  have hb2 := below_then hb1 hb2'
  have hP2 := Pts.later hb2' hP
  clear hown hb2' hb1 hP
  unfold maxLen at hc2
  obtain ⟨bv, ov, rfl, hV⟩ : ∃ bv ov, a1 = some ⟨bv, ov, none⟩ ∧ ∀ i, i < (verts rs).length → w2.cell? ⟨bv, ov + i * 2, none⟩ = some (.int .i64 (pt (verts rs) i).1) ∧ w2.cell? ⟨bv, ov + i * 2 + 1, none⟩ = some (.int .i64 (pt (verts rs) i).2) := by
    rcases hP2 with h | ⟨bv, ov, e, hh⟩
    · omega
    · exact ⟨bv, ov, e, hh⟩
  have HV : Hid (∀ i, i < (verts rs).length → w2.cell? ⟨bv, ov + i * 2, none⟩ = some (.int .i64 (pt (verts rs) i).1) ∧ w2.cell? ⟨bv, ov + i * 2 + 1, none⟩ = some (.int .i64 (pt (verts rs) i).2)) := hV
  have HE : Hid (∀ i, i < (verts rs).length → w2.cell? ⟨be, i * 2, none⟩ = some (.int .i64 ((ed rs i).1 : Int)) ∧ w2.cell? ⟨be, i * 2 + 1, none⟩ = some (.int .i64 ((ed rs i).2 : Int))) := hE
  have HL : Hid (∀ i, i < (verts rs).length → (ed rs i).1 < (verts rs).length ∧ (ed rs i).2 < (verts rs).length) := fun i hi => ed_lt H3.out hi
  clear hV hE hP2
  go_loopw [5, 6, 8, 15] (fun _ _ _ x wr => ∃ i : Nat, i ≤ (verts rs).length ∧ x = .int .i64 i ∧ (∀ i' j, j < i' → i' < i → touchE rs i' j = false) ∧ Below w2.heap.size w2 wr) (fun _ _ _ x _ => (verts rs).length - (intOf x).toNat)
  case atStart => exact ⟨0, Nat.zero_le _, rfl, fun i' j _ h => absurd h (by omega), Below.refl _ _⟩
  case round =>
    obtain ⟨i, hi, rfl, hall, hbr⟩ := hrel
    have HA : Hid (∀ i' j, j < i' → i' < i → touchE rs i' j = false) := hall
    clear hall
    by_cases hlt : i < (verts rs).length
    · have hin : (i : Int) < ((verts rs).length : Int) := by omega
      have hi0 : (0 : Int) ≤ (i : Int) := by omega
      have hic : (i : Int) ≤ (ce : Int) := by omega
      have c1 := cell_later hbr (HE.out i hlt).1
      have c2 := cell_later hbr (HE.out i hlt).2
      have hA : Below w2.heap.size w2 (wr.alloc (.cells #[.int .i64 ((ed rs i).1 : Int), .int .i64 ((ed rs i).2 : Int)] 120)) := hbr.alloc hbr.size _
      have hx1 : (wr.alloc (.cells #[.int .i64 ((ed rs i).1 : Int), .int .i64 ((ed rs i).2 : Int)] 120)).cell? ⟨wr.heap.size, 0, none⟩ = some (.int .i64 ((ed rs i).1 : Int)) := by simp [go_sem]
      have hx2 : (wr.alloc (.cells #[.int .i64 ((ed rs i).1 : Int), .int .i64 ((ed rs i).2 : Int)] 120)).cell? ⟨wr.heap.size, 1, none⟩ = some (.int .i64 ((ed rs i).2 : Int)) := by simp [go_sem]
      go_wp2
      generalize hWi : wr.alloc (.cells #[.int .i64 ((ed rs i).1 : Int), .int .i64 ((ed rs i).2 : Int)] 120) = Wi at *
      clear hWi
      go_loopw [8, 24] (fun _ x wq => ∃ j : Nat, j ≤ i ∧ x = .int .i64 j ∧ (∀ j', j' < j → touchE rs i j' = false) ∧ Below Wi.heap.size Wi wq) (fun _ x _ => i - (intOf x).toNat)
      case atStart => exact ⟨0, Nat.zero_le _, rfl, fun j h => absurd h (by omega), Below.refl _ _⟩
      case round =>
        obtain ⟨j, hj, rfl, hall, hbq⟩ := hrel
        have HB : Hid (∀ j', j' < j → touchE rs i j' = false) := hall
        clear hall hbr c1 c2
        by_cases hjl : j < i
        · have hjlt : j < (verts rs).length := by omega
          have hB := below_then hA hbq
          have y1 := cell_later hbq hx1
          have y2 := cell_later hbq hx2
          have c1 := cell_later hB (HE.out j hjlt).1
          have c2 := cell_later hB (HE.out j hjlt).2
          have bW : Below wr.heap.size wr (wr.alloc (.cells #[.int .i64 ((ed rs j).1 : Int), .int .i64 ((ed rs j).2 : Int)] 120)) := (Below.refl _ _).alloc (Nat.le_refl _) _
          have z1 := cell_later bW y1
          have z2 := cell_later bW y2
          have bJ : Below w2.heap.size w2 (wr.alloc (.cells #[.int .i64 ((ed rs j).1 : Int), .int .i64 ((ed rs j).2 : Int)] 120)) := hB.alloc hB.size _
          have TC := touch_any bv ov (verts rs).length cv (ed rs i).1 (ed rs i).2 (ed rs j).1 (ed rs j).2 _ _ _ _ _ _ _ _ (wr.alloc (.cells #[.int .i64 ((ed rs j).1 : Int), .int .i64 ((ed rs j).2 : Int)] 120)) hsz (HL.out i hlt).1 (HL.out i hlt).2 (HL.out j hjlt).1 (HL.out j hjlt).2
            (cell_later bJ (HV.out _ (HL.out i hlt).1).1) (cell_later bJ (HV.out _ (HL.out i hlt).1).2) (cell_later bJ (HV.out _ (HL.out i hlt).2).1) (cell_later bJ (HV.out _ (HL.out i hlt).2).2)
            (cell_later bJ (HV.out _ (HL.out j hjlt).1).1) (cell_later bJ (HV.out _ (HL.out j hjlt).1).2) (cell_later bJ (HV.out _ (HL.out j hjlt).2).1) (cell_later bJ (HV.out _ (HL.out j hjlt).2).2)
          have TE : Hid (touchE rs i j = touchB ((ed rs i).1, (ed rs i).2) ((ed rs j).1, (ed rs j).2) ((pt (verts rs) (ed rs i).1).1, (pt (verts rs) (ed rs i).1).2) ((pt (verts rs) (ed rs i).2).1, (pt (verts rs) (ed rs i).2).2) ((pt (verts rs) (ed rs j).1).1, (pt (verts rs) (ed rs j).1).2) ((pt (verts rs) (ed rs j).2).1, (pt (verts rs) (ed rs j).2).2)) := rfl
          have HTC : Hid _ := TC
          clear TC
          have T5 : Hid (touchE rs i j = true → bl (¬ TouchP rs) = false) := fun h => bl_false (fun h' => h' ⟨i, j, hjl, hlt, h⟩)
          have HB' : Hid (∀ j', j' < j + 1 → j' < j ∨ j' = j) := fun j' h => by omega
          have hj0 : (0 : Int) ≤ (j : Int) := by omega
          have hji : (j : Int) < (i : Int) := by omega
          have hjc : (j : Int) < (ce : Int) := by omega
          generalize (pt (verts rs) (ed rs i).1).1 = ePx at *
          generalize (pt (verts rs) (ed rs i).1).2 = ePy at *
          generalize (pt (verts rs) (ed rs i).2).1 = eQx at *
          generalize (pt (verts rs) (ed rs i).2).2 = eQy at *
          generalize (pt (verts rs) (ed rs j).1).1 = fPx at *
          generalize (pt (verts rs) (ed rs j).1).2 = fPy at *
          generalize (pt (verts rs) (ed rs j).2).1 = fQx at *
          generalize (pt (verts rs) (ed rs j).2).2 = fQy at *
          cases htc : touchB ((ed rs i).1, (ed rs i).2) ((ed rs j).1, (ed rs j).2) (ePx, ePy) (eQx, eQy) (fPx, fPy) (fQx, fQy)
          · have HN : Hid (touchE rs i j = false) := TE.out.trans htc
            go_wp2_with (go_at_call 102; refine Calls.mono HTC.out ?_; rintro e w5 ⟨rfl, hb5⟩; rw [htc])
            go_roundw
            case rel =>
              refine ⟨j + 1, by omega, by go_num, fun j' hj' => ?_, below_then (hbq.alloc hbq.size _) hb5⟩
              rcases HB'.out j' hj' with h | h
              · exact HB.out j' h
              · rw [h]; exact HN.out
            case measure => simp [intOf]; omega
          · have HR : Hid (bl (¬ TouchP rs) = false) := T5.out (TE.out.trans htc)
            go_wp2_with (go_at_call 102; refine Calls.mono HTC.out ?_; rintro e w5 ⟨rfl, hb5⟩; rw [htc])
            go_ret
            exact ⟨retb HR.out, below_then hb2 (below_then bJ hb5)⟩
        · have : j = i := by omega
          subst this
          go_wp2
          go_roundw
          case rel =>
            refine ⟨j + 1, by omega, by go_num, fun i' j' h1 h2 => ?_, below_then hA hbq⟩
            rcases Nat.lt_or_ge i' j with h | h
            · exact HA.out i' j' h1 h
            · rw [show i' = j by omega]; exact HB.out j' (by omega)
          case measure => simp [intOf]; omega
    · have : i = (verts rs).length := by omega
      subst this
      have HR : Hid (bl (¬ TouchP rs) = true) := bl_true (touchp_no fun i j h1 h2 => HA.out i j h1 h2)
      clear HA
      go_wp2
      go_ret
      exact ⟨retb HR.out, below_then hb2 hbr⟩
end Go.Proofs.Ytdkaoopkbhaheaa
