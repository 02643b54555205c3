import Derived.Test.YtdkaoopkbhaheaaPF11
import Derived.Test.YtdkaoopkbhaheaaQA4
namespace Go.Proofs.Ytdkaoopkbhaheaa
open Go.RowKit Go.Lib
open Jor
set_option linter.unusedVariables false
set_option linter.unusedSimpArgs false
def PtsAt (w : World) (b of n : Nat) (V : Nat → IP) : Prop := ∀ i, i < n → w.cell? ⟨b, of + i * 2, none⟩ = some (.int .i64 (V i).1) ∧ w.cell? ⟨b, of + i * 2 + 1, none⟩ = some (.int .i64 (V i).2)
theorem PtsAt.later {w1 w2 : World} {b of n : Nat} {V : Nat → IP} (hb : Below w1.heap.size w1 w2) (h : PtsAt w1 b of n V) : PtsAt w2 b of n V := fun i hi => ⟨cell_later hb (h i hi).1, cell_later hb (h i hi).2⟩
def ev (i j : Nat) : Value := .agg #[.int .i64 (i : Int), .int .i64 (j : Int)]
def tv (i j k : Nat) : Value := .agg #[.int .i64 (i : Int), .int .i64 (j : Int), .int .i64 (k : Int)]
def gv (b of n cap : Nat) : Value := .agg #[.slice (some ⟨b, of, none⟩) n cap]
def egv (b of n cap i j : Nat) : Value := .agg #[.slice (some ⟨b, of, none⟩) n cap, .int .i64 (i : Int), .int .i64 (j : Int)]
def crossB (V : Nat → IP) (i j k l : Nat) : Bool := if i = k ∨ i = l ∨ j = k ∨ j = l then false else meetB (V i).1 (V i).2 (V j).1 (V j).2 (V k).1 (V k).2 (V l).1 (V l).2
set_option maxRecDepth 100000 in
set_option maxHeartbeats 4000000 in
theorem side_any (b of n cap i j : Nat) (px py : Int) (V : Nat → IP) (w : World) (hn : n ≤ 1048576) (hi : i < n) (hj : j < n) (hp : PtsAt w b of n V) :
    Calls Try.prog 99 #[gv b of n cap, ev i j, .agg #[.int .i64 px, .int .i64 py]] w fun e w' => e = .returned (.int .i64 (turnW (V i).1 (V i).2 (V j).1 (V j).2 px py)) ∧ Below w.heap.size w w' := by
  have hs : Below w.heap.size w (((w.alloc (.cells #[.slice (some ⟨b, of, none⟩) n cap] 93)).alloc (.cells #[.int .i64 (i : Int), .int .i64 (j : Int)] 120)).alloc (.cells #[.int .i64 px, .int .i64 py] 25)) := ((((Below.refl _ _).alloc (Nat.le_refl _) _).alloc (by simp) _).alloc (by simp; omega) _)
  have x1 : (((w.alloc (.cells #[.slice (some ⟨b, of, none⟩) n cap] 93)).alloc (.cells #[.int .i64 (i : Int), .int .i64 (j : Int)] 120)).alloc (.cells #[.int .i64 px, .int .i64 py] 25)).cell? ⟨w.heap.size, 0, none⟩ = some (.slice (some ⟨b, of, none⟩) n cap) := by simp [go_sem]
  have x2 : (((w.alloc (.cells #[.slice (some ⟨b, of, none⟩) n cap] 93)).alloc (.cells #[.int .i64 (i : Int), .int .i64 (j : Int)] 120)).alloc (.cells #[.int .i64 px, .int .i64 py] 25)).cell? ⟨w.heap.size + 1, 0, none⟩ = some (.int .i64 (i : Int)) := by simp [go_sem]
  have x3 : (((w.alloc (.cells #[.slice (some ⟨b, of, none⟩) n cap] 93)).alloc (.cells #[.int .i64 (i : Int), .int .i64 (j : Int)] 120)).alloc (.cells #[.int .i64 px, .int .i64 py] 25)).cell? ⟨w.heap.size + 1, 1, none⟩ = some (.int .i64 (j : Int)) := by simp [go_sem]
  have x4 : (((w.alloc (.cells #[.slice (some ⟨b, of, none⟩) n cap] 93)).alloc (.cells #[.int .i64 (i : Int), .int .i64 (j : Int)] 120)).alloc (.cells #[.int .i64 px, .int .i64 py] 25)).cell? ⟨w.heap.size + 1 + 1, 0, none⟩ = some (.int .i64 px) := by simp [go_sem]
  have x5 : (((w.alloc (.cells #[.slice (some ⟨b, of, none⟩) n cap] 93)).alloc (.cells #[.int .i64 (i : Int), .int .i64 (j : Int)] 120)).alloc (.cells #[.int .i64 px, .int .i64 py] 25)).cell? ⟨w.heap.size + 1 + 1, 1, none⟩ = some (.int .i64 py) := by simp [go_sem]
  have a0 := cell_later hs (hp i hi).1
  have b0 := cell_later hs (hp i hi).2
  have k0 : (0 : Int) ≤ (i : Int) := by omega
  have l0 : (i : Int) < (n : Int) := by omega
  have a1 := cell_later hs (hp j hj).1
  have b1 := cell_later hs (hp j hj).2
  have k1 : (0 : Int) ≤ (j : Int) := by omega
  have l1 : (j : Int) < (n : Int) := by omega
  generalize (V i).1 = ax at *
  generalize (V i).2 = ay at *
  generalize (V j).1 = bx at *
  generalize (V j).2 = bY at *
  clear hp
  unfold gv ev
  go_enter Try.func99, Try.ntmps99
  go_wp2
  generalize hW : (((w.alloc (.cells #[.slice (some ⟨b, of, none⟩) n cap] 93)).alloc (.cells #[.int .i64 (i : Int), .int .i64 (j : Int)] 120)).alloc (.cells #[.int .i64 px, .int .i64 py] 25)) = W at *
  go_region_held3 (fun w' => Below W.heap.size W w' ∧ w'.cell? ⟨w.heap.size, 0, none⟩ = some (.slice (some ⟨b, of, none⟩) n cap) ∧ w'.cell? ⟨w.heap.size + 1, 0, none⟩ = some (.int .i64 (i : Int)) ∧ w'.cell? ⟨w.heap.size + 1, 1, none⟩ = some (.int .i64 (j : Int)) ∧ w'.cell? ⟨w.heap.size + 1 + 1, 0, none⟩ = some (.int .i64 px) ∧ w'.cell? ⟨w.heap.size + 1 + 1, 1, none⟩ = some (.int .i64 py) ∧ w'.cell? ⟨b, of + i * 2, none⟩ = some (.int .i64 ax) ∧ w'.cell? ⟨b, of + i * 2 + 1, none⟩ = some (.int .i64 ay) ∧ w'.cell? ⟨b, of + j * 2, none⟩ = some (.int .i64 bx) ∧ w'.cell? ⟨b, of + j * 2 + 1, none⟩ = some (.int .i64 bY))
    (first | (go_split_ands; exact ⟨below_then (by assumption) (by assumption), cell_later (by assumption) (by assumption), cell_later (by assumption) (by assumption), cell_later (by assumption) (by assumption), cell_later (by assumption) (by assumption), cell_later (by assumption) (by assumption), cell_later (by assumption) (by assumption), cell_later (by assumption) (by assumption), cell_later (by assumption) (by assumption), cell_later (by assumption) (by assumption)⟩) | (go_split_ands; refine ⟨?_, ?_, ?_, ?_, ?_, ?_, ?_, ?_, ?_, ?_⟩ <;> first | assumption | exact (Below.refl _ _).drew))
    (first | (go_at_call 40; refine (planeTurn_any _ _ _ _ _ _ _).mono ?_; rintro e w1 ⟨rfl, hb1⟩))
  all_goals
    go_split_ands
    go_wp2
    go_ret
    exact ⟨rfl, below_then hs (by assumption)⟩
set_option maxRecDepth 100000 in
set_option maxHeartbeats 4000000 in
theorem gcircle_any (b of n cap i j k l : Nat) (V : Nat → IP) (w : World) (hn : n ≤ 1048576) (hi : i < n) (hj : j < n) (hk : k < n) (hl : l < n) (hp : PtsAt w b of n V) :
    Calls Try.prog 114 #[gv b of n cap, .int .i64 (i : Int), .int .i64 (j : Int), .int .i64 (k : Int), .int .i64 (l : Int)] w fun e w' => e = .returned (.int .i64 (circleW (V i).1 (V i).2 (V j).1 (V j).2 (V k).1 (V k).2 (V l).1 (V l).2)) ∧ Below w.heap.size w w' := by
  have hs : Below w.heap.size w (w.alloc (.cells #[.slice (some ⟨b, of, none⟩) n cap] 93)) := ((Below.refl _ _).alloc (Nat.le_refl _) _)
  have x1 : (w.alloc (.cells #[.slice (some ⟨b, of, none⟩) n cap] 93)).cell? ⟨w.heap.size, 0, none⟩ = some (.slice (some ⟨b, of, none⟩) n cap) := by simp [go_sem]
  have a0 := cell_later hs (hp i hi).1
  have b0 := cell_later hs (hp i hi).2
  have k0 : (0 : Int) ≤ (i : Int) := by omega
  have l0 : (i : Int) < (n : Int) := by omega
  have a1 := cell_later hs (hp j hj).1
  have b1 := cell_later hs (hp j hj).2
  have k1 : (0 : Int) ≤ (j : Int) := by omega
  have l1 : (j : Int) < (n : Int) := by omega
  have a2 := cell_later hs (hp k hk).1
  have b2 := cell_later hs (hp k hk).2
  have k2 : (0 : Int) ≤ (k : Int) := by omega
  have l2 : (k : Int) < (n : Int) := by omega
  have a3 := cell_later hs (hp l hl).1
  have b3 := cell_later hs (hp l hl).2
  have k3 : (0 : Int) ≤ (l : Int) := by omega
  have l3 : (l : Int) < (n : Int) := by omega
  generalize (V i).1 = ax at *
  generalize (V i).2 = ay at *
  generalize (V j).1 = bx at *
  generalize (V j).2 = bY at *
  generalize (V k).1 = cx at *
  generalize (V k).2 = cy at *
  generalize (V l).1 = dx at *
  generalize (V l).2 = dy at *
  clear hp
  unfold gv
  go_enter Try.func114, Try.ntmps114
  go_wp2
  generalize hW : (w.alloc (.cells #[.slice (some ⟨b, of, none⟩) n cap] 93)) = W at *
  go_region_held3 (fun w' => Below W.heap.size W w' ∧ w'.cell? ⟨w.heap.size, 0, none⟩ = some (.slice (some ⟨b, of, none⟩) n cap) ∧ w'.cell? ⟨b, of + i * 2, none⟩ = some (.int .i64 ax) ∧ w'.cell? ⟨b, of + i * 2 + 1, none⟩ = some (.int .i64 ay) ∧ w'.cell? ⟨b, of + j * 2, none⟩ = some (.int .i64 bx) ∧ w'.cell? ⟨b, of + j * 2 + 1, none⟩ = some (.int .i64 bY) ∧ w'.cell? ⟨b, of + k * 2, none⟩ = some (.int .i64 cx) ∧ w'.cell? ⟨b, of + k * 2 + 1, none⟩ = some (.int .i64 cy) ∧ w'.cell? ⟨b, of + l * 2, none⟩ = some (.int .i64 dx) ∧ w'.cell? ⟨b, of + l * 2 + 1, none⟩ = some (.int .i64 dy))
    (first | (go_split_ands; exact ⟨below_then (by assumption) (by assumption), cell_later (by assumption) (by assumption), cell_later (by assumption) (by assumption), cell_later (by assumption) (by assumption), cell_later (by assumption) (by assumption), cell_later (by assumption) (by assumption), cell_later (by assumption) (by assumption), cell_later (by assumption) (by assumption), cell_later (by assumption) (by assumption), cell_later (by assumption) (by assumption)⟩) | (go_split_ands; refine ⟨?_, ?_, ?_, ?_, ?_, ?_, ?_, ?_, ?_, ?_⟩ <;> first | assumption | exact (Below.refl _ _).drew))
    (first | (go_at_call 41; refine (planeCircle_any _ _ _ _ _ _ _ _ _).mono ?_; rintro e w1 ⟨rfl, hb1⟩))
  all_goals
    go_split_ands
    go_wp2
    go_ret
    exact ⟨rfl, below_then hs (by assumption)⟩
set_option maxRecDepth 100000 in
set_option maxHeartbeats 4000000 in
theorem left_any (b of n cap i j v : Nat) (V : Nat → IP) (w : World) (hn : n ≤ 1048576) (hi : i < n) (hj : j < n) (hv : v < n) (hp : PtsAt w b of n V) :
    Calls Try.prog 105 #[egv b of n cap i j, .int .i64 (v : Int)] w fun e w' => e = .returned (.bool (decide (0 < turnW (V i).1 (V i).2 (V j).1 (V j).2 (V v).1 (V v).2))) ∧ Below w.heap.size w w' := by
  have hs : Below w.heap.size w (w.alloc (.cells #[.slice (some ⟨b, of, none⟩) n cap, .int .i64 (i : Int), .int .i64 (j : Int)] 151)) := ((Below.refl _ _).alloc (Nat.le_refl _) _)
  have x1 : (w.alloc (.cells #[.slice (some ⟨b, of, none⟩) n cap, .int .i64 (i : Int), .int .i64 (j : Int)] 151)).cell? ⟨w.heap.size, 0, none⟩ = some (.slice (some ⟨b, of, none⟩) n cap) := by simp [go_sem]
  have x2 : (w.alloc (.cells #[.slice (some ⟨b, of, none⟩) n cap, .int .i64 (i : Int), .int .i64 (j : Int)] 151)).cell? ⟨w.heap.size, 1, none⟩ = some (.int .i64 (i : Int)) := by simp [go_sem]
  have x3 : (w.alloc (.cells #[.slice (some ⟨b, of, none⟩) n cap, .int .i64 (i : Int), .int .i64 (j : Int)] 151)).cell? ⟨w.heap.size, 2, none⟩ = some (.int .i64 (j : Int)) := by simp [go_sem]
  have HP : Hid (PtsAt (w.alloc (.cells #[.slice (some ⟨b, of, none⟩) n cap, .int .i64 (i : Int), .int .i64 (j : Int)] 151)) b of n V) := PtsAt.later hs hp
  have a0 := cell_later hs (hp v hv).1
  have b0 := cell_later hs (hp v hv).2
  have k0 : (0 : Int) ≤ (v : Int) := by omega
  have l0 : (v : Int) < (n : Int) := by omega
  generalize hvx : (V v).1 = vx at *
  generalize hvy : (V v).2 = vy at *
  clear hp
  unfold egv
  go_enter Try.func105, Try.ntmps105
  go_wp2
  generalize hW : (w.alloc (.cells #[.slice (some ⟨b, of, none⟩) n cap, .int .i64 (i : Int), .int .i64 (j : Int)] 151)) = W at *
  go_region_held3 (fun w' => Below W.heap.size W w' ∧ w'.cell? ⟨w.heap.size, 0, none⟩ = some (.slice (some ⟨b, of, none⟩) n cap) ∧ w'.cell? ⟨w.heap.size, 1, none⟩ = some (.int .i64 (i : Int)) ∧ w'.cell? ⟨w.heap.size, 2, none⟩ = some (.int .i64 (j : Int)) ∧ w'.cell? ⟨b, of + v * 2, none⟩ = some (.int .i64 vx) ∧ w'.cell? ⟨b, of + v * 2 + 1, none⟩ = some (.int .i64 vy))
    (first | (go_split_ands; exact ⟨below_then (by assumption) (by assumption), cell_later (by assumption) (by assumption), cell_later (by assumption) (by assumption), cell_later (by assumption) (by assumption), cell_later (by assumption) (by assumption), cell_later (by assumption) (by assumption)⟩) | (go_split_ands; refine ⟨?_, ?_, ?_, ?_, ?_, ?_⟩ <;> first | assumption | exact (Below.refl _ _).drew))
    (first | (go_at_call 99; go_split_ands; refine (side_any b of n cap i j _ _ V _ hn hi hj (PtsAt.later (by assumption) HP.out)).mono ?_; rintro e w1 ⟨rfl, hb1⟩))
  all_goals
    go_split_ands
    go_wp2
    go_ret
    exact ⟨rfl, below_then hs (by assumption)⟩
set_option maxRecDepth 100000 in
set_option maxHeartbeats 4000000 in
theorem nearer_any (b of n cap i j v o : Nat) (V : Nat → IP) (w : World) (hn : n ≤ 1048576) (hi : i < n) (hj : j < n) (hv : v < n) (ho : o < n) (hp : PtsAt w b of n V) :
    Calls Try.prog 106 #[egv b of n cap i j, .int .i64 (v : Int), .int .i64 (o : Int)] w fun e w' => e = .returned (.bool (decide (0 < circleW (V i).1 (V i).2 (V j).1 (V j).2 (V o).1 (V o).2 (V v).1 (V v).2))) ∧ Below w.heap.size w w' := by
  have hs : Below w.heap.size w (w.alloc (.cells #[.slice (some ⟨b, of, none⟩) n cap, .int .i64 (i : Int), .int .i64 (j : Int)] 151)) := ((Below.refl _ _).alloc (Nat.le_refl _) _)
  have x1 : (w.alloc (.cells #[.slice (some ⟨b, of, none⟩) n cap, .int .i64 (i : Int), .int .i64 (j : Int)] 151)).cell? ⟨w.heap.size, 0, none⟩ = some (.slice (some ⟨b, of, none⟩) n cap) := by simp [go_sem]
  have x2 : (w.alloc (.cells #[.slice (some ⟨b, of, none⟩) n cap, .int .i64 (i : Int), .int .i64 (j : Int)] 151)).cell? ⟨w.heap.size, 1, none⟩ = some (.int .i64 (i : Int)) := by simp [go_sem]
  have x3 : (w.alloc (.cells #[.slice (some ⟨b, of, none⟩) n cap, .int .i64 (i : Int), .int .i64 (j : Int)] 151)).cell? ⟨w.heap.size, 2, none⟩ = some (.int .i64 (j : Int)) := by simp [go_sem]
  have HP := PtsAt.later hs hp
  unfold egv
  go_enter Try.func106, Try.ntmps106
  go_wp2_with (go_at_call 114; refine (gcircle_any b of n cap i j o v V _ hn hi hj ho hv HP).mono ?_; rintro e w1 ⟨rfl, hb1⟩)
  go_ret
  exact ⟨rfl, below_then hs hb1⟩
set_option maxRecDepth 100000 in
set_option maxHeartbeats 4000000 in
theorem gcross_any (b of n cap i j k l : Nat) (V : Nat → IP) (w : World) (hn : n ≤ 1048576) (hi : i < n) (hj : j < n) (hk : k < n) (hl : l < n) (hp : PtsAt w b of n V) :
    Calls Try.prog 122 #[gv b of n cap, ev i j, ev k l] w fun e w' => e = .returned (.bool (crossB V i j k l)) ∧ Below w.heap.size w w' := by
  have hs : Below w.heap.size w (((w.alloc (.cells #[.slice (some ⟨b, of, none⟩) n cap] 93)).alloc (.cells #[.int .i64 (i : Int), .int .i64 (j : Int)] 120)).alloc (.cells #[.int .i64 (k : Int), .int .i64 (l : Int)] 120)) := ((((Below.refl _ _).alloc (Nat.le_refl _) _).alloc (by simp) _).alloc (by simp; omega) _)
  have x1 : (((w.alloc (.cells #[.slice (some ⟨b, of, none⟩) n cap] 93)).alloc (.cells #[.int .i64 (i : Int), .int .i64 (j : Int)] 120)).alloc (.cells #[.int .i64 (k : Int), .int .i64 (l : Int)] 120)).cell? ⟨w.heap.size, 0, none⟩ = some (.slice (some ⟨b, of, none⟩) n cap) := by simp [go_sem]
  have x2 : (((w.alloc (.cells #[.slice (some ⟨b, of, none⟩) n cap] 93)).alloc (.cells #[.int .i64 (i : Int), .int .i64 (j : Int)] 120)).alloc (.cells #[.int .i64 (k : Int), .int .i64 (l : Int)] 120)).cell? ⟨w.heap.size + 1, 0, none⟩ = some (.int .i64 (i : Int)) := by simp [go_sem]
  have x3 : (((w.alloc (.cells #[.slice (some ⟨b, of, none⟩) n cap] 93)).alloc (.cells #[.int .i64 (i : Int), .int .i64 (j : Int)] 120)).alloc (.cells #[.int .i64 (k : Int), .int .i64 (l : Int)] 120)).cell? ⟨w.heap.size + 1, 1, none⟩ = some (.int .i64 (j : Int)) := by simp [go_sem]
  have x4 : (((w.alloc (.cells #[.slice (some ⟨b, of, none⟩) n cap] 93)).alloc (.cells #[.int .i64 (i : Int), .int .i64 (j : Int)] 120)).alloc (.cells #[.int .i64 (k : Int), .int .i64 (l : Int)] 120)).cell? ⟨w.heap.size + 1 + 1, 0, none⟩ = some (.int .i64 (k : Int)) := by simp [go_sem]
  have x5 : (((w.alloc (.cells #[.slice (some ⟨b, of, none⟩) n cap] 93)).alloc (.cells #[.int .i64 (i : Int), .int .i64 (j : Int)] 120)).alloc (.cells #[.int .i64 (k : Int), .int .i64 (l : Int)] 120)).cell? ⟨w.heap.size + 1 + 1, 1, none⟩ = some (.int .i64 (l : Int)) := by simp [go_sem]
  have CB : Hid (crossB V i j k l = if i = k ∨ i = l ∨ j = k ∨ j = l then false else meetB (V i).1 (V i).2 (V j).1 (V j).2 (V k).1 (V k).2 (V l).1 (V l).2) := rfl
  by_cases hsh : i = k ∨ i = l ∨ j = k ∨ j = l
  · have HR : Hid (crossB V i j k l = false) := CB.out.trans (if_pos hsh)
    clear CB hp
    unfold gv ev
    by_cases h1 : i = k
    · subst h1
      go_enter Try.func122, Try.ntmps122
      go_wp2
      go_ret
      exact ⟨retb HR.out, hs⟩
    · have e1 : ((i : Int) == (k : Int)) = false := beq_eq_false_iff_ne.2 (by omega)
      by_cases h2 : i = l
      · subst h2
        go_enter Try.func122, Try.ntmps122
        go_wp2
        go_ret
        exact ⟨retb HR.out, hs⟩
      · have e2 : ((i : Int) == (l : Int)) = false := beq_eq_false_iff_ne.2 (by omega)
        by_cases h3 : j = k
        · subst h3
          go_enter Try.func122, Try.ntmps122
          go_wp2
          go_ret
          exact ⟨retb HR.out, hs⟩
        · have e3 : ((j : Int) == (k : Int)) = false := beq_eq_false_iff_ne.2 (by omega)
          have h4 : j = l := by omega
          subst h4
          go_enter Try.func122, Try.ntmps122
          go_wp2
          go_ret
          exact ⟨retb HR.out, hs⟩
  · have HR : Hid (crossB V i j k l = meetB (V i).1 (V i).2 (V j).1 (V j).2 (V k).1 (V k).2 (V l).1 (V l).2) := CB.out.trans (if_neg hsh)
    clear CB
    have e1 : ((i : Int) == (k : Int)) = false := beq_eq_false_iff_ne.2 (by omega)
    have e2 : ((i : Int) == (l : Int)) = false := beq_eq_false_iff_ne.2 (by omega)
    have e3 : ((j : Int) == (k : Int)) = false := beq_eq_false_iff_ne.2 (by omega)
    have e4 : ((j : Int) == (l : Int)) = false := beq_eq_false_iff_ne.2 (by omega)
    clear hsh
    have a0 := cell_later hs (hp i hi).1
    have b0 := cell_later hs (hp i hi).2
    have k0 : (0 : Int) ≤ (i : Int) := by omega
    have l0 : (i : Int) < (n : Int) := by omega
    have a1 := cell_later hs (hp j hj).1
    have b1 := cell_later hs (hp j hj).2
    have k1 : (0 : Int) ≤ (j : Int) := by omega
    have l1 : (j : Int) < (n : Int) := by omega
    have a2 := cell_later hs (hp k hk).1
    have b2 := cell_later hs (hp k hk).2
    have k2 : (0 : Int) ≤ (k : Int) := by omega
    have l2 : (k : Int) < (n : Int) := by omega
    have a3 := cell_later hs (hp l hl).1
    have b3 := cell_later hs (hp l hl).2
    have k3 : (0 : Int) ≤ (l : Int) := by omega
    have l3 : (l : Int) < (n : Int) := by omega
    generalize (V i).1 = ax at *
    generalize (V i).2 = ay at *
    generalize (V j).1 = bx at *
    generalize (V j).2 = bY at *
    generalize (V k).1 = cx at *
    generalize (V k).2 = cy at *
    generalize (V l).1 = dx at *
    generalize (V l).2 = dy at *
    clear hp
    unfold gv ev
    go_enter Try.func122, Try.ntmps122
    go_wp2
    generalize hW : (((w.alloc (.cells #[.slice (some ⟨b, of, none⟩) n cap] 93)).alloc (.cells #[.int .i64 (i : Int), .int .i64 (j : Int)] 120)).alloc (.cells #[.int .i64 (k : Int), .int .i64 (l : Int)] 120)) = W at *
    go_region_held3 (fun w' => Below W.heap.size W w' ∧ w'.cell? ⟨w.heap.size, 0, none⟩ = some (.slice (some ⟨b, of, none⟩) n cap) ∧ w'.cell? ⟨w.heap.size + 1, 0, none⟩ = some (.int .i64 (i : Int)) ∧ w'.cell? ⟨w.heap.size + 1, 1, none⟩ = some (.int .i64 (j : Int)) ∧ w'.cell? ⟨w.heap.size + 1 + 1, 0, none⟩ = some (.int .i64 (k : Int)) ∧ w'.cell? ⟨w.heap.size + 1 + 1, 1, none⟩ = some (.int .i64 (l : Int)) ∧ w'.cell? ⟨b, of + i * 2, none⟩ = some (.int .i64 ax) ∧ w'.cell? ⟨b, of + i * 2 + 1, none⟩ = some (.int .i64 ay) ∧ w'.cell? ⟨b, of + j * 2, none⟩ = some (.int .i64 bx) ∧ w'.cell? ⟨b, of + j * 2 + 1, none⟩ = some (.int .i64 bY) ∧ w'.cell? ⟨b, of + k * 2, none⟩ = some (.int .i64 cx) ∧ w'.cell? ⟨b, of + k * 2 + 1, none⟩ = some (.int .i64 cy) ∧ w'.cell? ⟨b, of + l * 2, none⟩ = some (.int .i64 dx) ∧ w'.cell? ⟨b, of + l * 2 + 1, none⟩ = some (.int .i64 dy))
      (first | (go_split_ands; exact ⟨below_then (by assumption) (by assumption), cell_later (by assumption) (by assumption), cell_later (by assumption) (by assumption), cell_later (by assumption) (by assumption), cell_later (by assumption) (by assumption), cell_later (by assumption) (by assumption), cell_later (by assumption) (by assumption), cell_later (by assumption) (by assumption), cell_later (by assumption) (by assumption), cell_later (by assumption) (by assumption), cell_later (by assumption) (by assumption), cell_later (by assumption) (by assumption), cell_later (by assumption) (by assumption), cell_later (by assumption) (by assumption)⟩) | (go_split_ands; refine ⟨?_, ?_, ?_, ?_, ?_, ?_, ?_, ?_, ?_, ?_, ?_, ?_, ?_, ?_⟩ <;> first | assumption | exact (Below.refl _ _).drew))
      (first | (go_at_call 47; refine (planeMeet_any _ _ _ _ _ _ _ _ _).mono ?_; rintro e w1 ⟨rfl, hb1⟩))
    all_goals
      go_split_ands
      go_wp2
      go_ret
      exact ⟨retb HR.out, below_then hs (by assumption)⟩
end Go.Proofs.Ytdkaoopkbhaheaa
namespace Go.Proofs.Ytdkaoopkbhaheaa
open Go.RowKit Go.Lib
open Jor
set_option linter.unusedVariables false
set_option linter.unusedSimpArgs false
def tgv (b of n cap i j k : Nat) : Value := .agg #[.slice (some ⟨b, of, none⟩) n cap, .int .i64 (i : Int), .int .i64 (j : Int), .int .i64 (k : Int)]
def sd1 (i j k m : Nat) : Nat := if m = 0 then i else if m = 1 then j else k
def sd2 (i j k m : Nat) : Nat := if m = 0 then j else if m = 1 then k else i
def tw (V : Nat → IP) (i j : Nat) (p : IP) : Int := turnW (V i).1 (V i).2 (V j).1 (V j).2 p.1 p.2
def coverB (V : Nat → IP) (i j k : Nat) (p : IP) : Bool := decide (0 ≤ tw V i j p ∧ 0 ≤ tw V j k p ∧ 0 ≤ tw V k i p)
set_option maxHeartbeats 1000000 in
theorem sides_any (i j k : Nat) (w : World) :
    Calls Try.prog 76 #[tv i j k] w fun e w' => e = .returned (.agg #[.int .i64 (i : Int), .int .i64 (j : Int), .int .i64 (j : Int), .int .i64 (k : Int), .int .i64 (k : Int), .int .i64 (i : Int)]) ∧ Below w.heap.size w w' := by
  unfold tv
  go_enter Try.func76, Try.ntmps76
  go_wp2
  exact bodyPost_ret (v := .agg #[.int .i64 (i : Int), .int .i64 (j : Int), .int .i64 (j : Int), .int .i64 (k : Int), .int .i64 (k : Int), .int .i64 (i : Int)]) (by simp [results, Try.results76, go_sem]) rfl ⟨rfl, ((Below.refl _ _).alloc (Nat.le_refl _) _).alloc (by simp) _⟩
set_option maxHeartbeats 1000000 in
theorem turned_any (i j : Nat) (w : World) :
    Calls Try.prog 100 #[ev i j] w fun e w' => e = .returned (ev j i) ∧ Below w.heap.size w w' := by
  unfold ev
  go_enter Try.func100, Try.ntmps100
  go_wp2
  exact bodyPost_ret (v := .agg #[.int .i64 (j : Int), .int .i64 (i : Int)]) (by simp [results, Try.results100, go_sem]) rfl ⟨rfl, ((Below.refl _ _).alloc (Nat.le_refl _) _).alloc (by simp) _⟩
theorem underA3 : Try.prog.underlying 121 = some (.array 3 120) := by kernel_rfl
theorem index6 (c0 c1 c2 c3 c4 c5 : Value) : (∀ w, (Instr.index 121 (.agg #[c0, c1, c2, c3, c4, c5]) (.int .i64 0)).run Try.prog w = .ok (.agg #[c0, c1]) w) ∧ (∀ w, (Instr.index 121 (.agg #[c0, c1, c2, c3, c4, c5]) (.int .i64 1)).run Try.prog w = .ok (.agg #[c2, c3]) w) ∧ (∀ w, (Instr.index 121 (.agg #[c0, c1, c2, c3, c4, c5]) (.int .i64 2)).run Try.prog w = .ok (.agg #[c4, c5]) w) := by
  refine ⟨fun w => ?_, fun w => ?_, fun w => ?_⟩ <;> kernel_rfl
set_option maxRecDepth 100000 in
set_option maxHeartbeats 4000000 in
theorem covers_any (b of n cap i j k : Nat) (px py : Int) (V : Nat → IP) (w : World) (hn : n ≤ 1048576) (hi : i < n) (hj : j < n) (hk : k < n) (hp : PtsAt w b of n V) :
    Calls Try.prog 79 #[tgv b of n cap i j k, .agg #[.int .i64 px, .int .i64 py]] w fun e w' => e = .returned (.bool (coverB V i j k (px, py))) ∧ Below w.heap.size w w' := by
  have hs : Below w.heap.size w ((w.alloc (.cells #[.slice (some ⟨b, of, none⟩) n cap, .int .i64 (i : Int), .int .i64 (j : Int), .int .i64 (k : Int)] 126)).alloc (.cells #[.int .i64 px, .int .i64 py] 25)) := ((Below.refl _ _).alloc (Nat.le_refl _) _).alloc (by simp) _
  have HP := PtsAt.later hs hp
  have x0 : ((w.alloc (.cells #[.slice (some ⟨b, of, none⟩) n cap, .int .i64 (i : Int), .int .i64 (j : Int), .int .i64 (k : Int)] 126)).alloc (.cells #[.int .i64 px, .int .i64 py] 25)).cell? ⟨w.heap.size, 0, none⟩ = some (.slice (some ⟨b, of, none⟩) n cap) := by simp [go_sem]
  have y0 : ((w.alloc (.cells #[.slice (some ⟨b, of, none⟩) n cap, .int .i64 (i : Int), .int .i64 (j : Int), .int .i64 (k : Int)] 126)).alloc (.cells #[.int .i64 px, .int .i64 py] 25)).cell? ⟨w.heap.size + 1, 0, none⟩ = some (.int .i64 px) := by simp [go_sem]
  have y1 : ((w.alloc (.cells #[.slice (some ⟨b, of, none⟩) n cap, .int .i64 (i : Int), .int .i64 (j : Int), .int .i64 (k : Int)] 126)).alloc (.cells #[.int .i64 px, .int .i64 py] 25)).cell? ⟨w.heap.size + 1, 1, none⟩ = some (.int .i64 py) := by simp [go_sem]
  unfold tgv
  clear hp
  go_enter Try.func79, Try.ntmps79
  go_wp2_with (go_at_call 76; refine (sides_any i j k _).mono ?_; rintro e w1 ⟨rfl, hb1⟩)
  have hs1 := below_then hs hb1
  have HP1 := PtsAt.later hb1 HP
  have X0 := cell_later hb1 x0
  have Y0 := cell_later hb1 y0
  have Y1 := cell_later hb1 y1
  clear HP x0 y0 y1 hb1
  go_loopw [6, 10] (fun _ c wr => ∃ m : Nat, m ≤ 3 ∧ c = .int .i64 m ∧ (∀ q, q < m → 0 ≤ tw V (sd1 i j k q) (sd2 i j k q) (px, py)) ∧ Below w1.heap.size w1 wr) (fun _ c _ => 3 - (intOf c).toNat)
  case atStart => exact ⟨0, by omega, rfl, fun q h => absurd h (by omega), Below.refl _ _⟩
  case round =>
    obtain ⟨m, hm, rfl, hall, hbr⟩ := hrel
    have HA : Hid (∀ q, q < m → 0 ≤ tw V (sd1 i j k q) (sd2 i j k q) (px, py)) := hall
    clear hall
    by_cases hlt : m < 3
    · have hm0 : (0 : Int) ≤ (m : Int) := by omega
      have hm3 : (m : Int) < 3 := by omega
      have hd1 : sd1 i j k m < n := by unfold sd1; split; exact hi; split; exact hj; exact hk
      have hd2 : sd2 i j k m < n := by unfold sd2; split; exact hj; split; exact hk; exact hi
      have hA : Below wr.heap.size wr (wr.alloc (.cells #[.int .i64 (sd1 i j k m : Int), .int .i64 (sd2 i j k m : Int)] 120)) := (Below.refl _ _).alloc (Nat.le_refl _) _
      have X0' := cell_later hA (cell_later hbr X0)
      have Y0' := cell_later hA (cell_later hbr Y0)
      have Y1' := cell_later hA (cell_later hbr Y1)
      have HPr := PtsAt.later hA (PtsAt.later hbr HP1)
      have TW : Hid (turnW (V (sd1 i j k m)).1 (V (sd1 i j k m)).2 (V (sd2 i j k m)).1 (V (sd2 i j k m)).2 px py = tw V (sd1 i j k m) (sd2 i j k m) (px, py)) := rfl
      have Pk : Hid (∀ q, q < m + 1 → q < m ∨ q = m) := fun q h => by omega
      have HC : Hid (¬ 0 ≤ tw V (sd1 i j k m) (sd2 i j k m) (px, py) → coverB V i j k (px, py) = false) := fun h => decide_eq_false (fun h2 => h (by
        obtain rfl | rfl | rfl : m = 0 ∨ m = 1 ∨ m = 2 := by omega
        · exact h2.1
        · exact h2.2.1
        · exact h2.2.2))
      have IX : Hid (m = 0 ∨ m = 1 ∨ m = 2) := by
        show m = 0 ∨ m = 1 ∨ m = 2
        omega
      clear X0 Y0 Y1 HP1
      obtain ⟨ix0, ix1, ix2⟩ := index6 (.int .i64 (i : Int)) (.int .i64 (j : Int)) (.int .i64 (j : Int)) (.int .i64 (k : Int)) (.int .i64 (k : Int)) (.int .i64 (i : Int))
      by_cases h0 : tw V (sd1 i j k m) (sd2 i j k m) (px, py) < 0
      · have HR : Hid (coverB V i j k (px, py) = false) := HC.out (by omega)
        clear HC HA Pk
        rcases IX.out with rfl | rfl | rfl
        all_goals
          simp only [sd1, sd2, if_true, if_false, Nat.succ_ne_zero, Nat.reduceEqDiff] at hd1 hd2 hA HPr TW h0 X0' Y0' Y1'
          go_wp2_with (go_at_call 99; refine (side_any b of n cap _ _ px py V _ hn hd1 hd2 HPr).mono ?_; rintro e w2 ⟨rfl, hb2⟩; rw [TW.out])
          go_ret
          exact ⟨retb HR.out, below_then hs1 (below_then hbr (below_then hA hb2))⟩
      · have HN : Hid (∀ q, q < m + 1 → 0 ≤ tw V (sd1 i j k q) (sd2 i j k q) (px, py)) := fun q hq => by
          rcases Pk.out q hq with h | rfl
          · exact HA.out q h
          · omega
        clear HC HA Pk
        rcases IX.out with rfl | rfl | rfl
        all_goals
          simp only [sd1, sd2, if_true, if_false, Nat.succ_ne_zero, Nat.reduceEqDiff] at hd1 hd2 hA HPr TW h0 X0' Y0' Y1'
          go_wp2_with (go_at_call 99; refine (side_any b of n cap _ _ px py V _ hn hd1 hd2 HPr).mono ?_; rintro e w2 ⟨rfl, hb2⟩; rw [TW.out])
          go_roundw
          case rel =>
            refine ⟨_, ?_, ?_, HN.out, below_then hbr (below_then hA hb2)⟩
            · omega
            · rfl
          case measure => simp [intOf]
    · have : m = 3 := by omega
      subst this
      have HR : Hid (coverB V i j k (px, py) = true) := decide_eq_true ⟨HA.out 0 (by omega), HA.out 1 (by omega), HA.out 2 (by omega)⟩
      clear HA
      go_wp2
      go_ret
      exact ⟨retb HR.out, below_then hs1 hbr⟩
set_option maxRecDepth 100000 in
set_option maxHeartbeats 4000000 in
theorem index3_any (b o i j k v : Nat) (w : World) (hv : v ≤ 1048576) (hi : i ≤ 1048576) (hj : j ≤ 1048576) (hk : k ≤ 1048576) (c0 : w.cell? ⟨b, o, none⟩ = some (.int .i64 (i : Int))) (c1 : w.cell? ⟨b, o + 1, none⟩ = some (.int .i64 (j : Int))) (c2 : w.cell? ⟨b, o + 2, none⟩ = some (.int .i64 (k : Int))) :
    Calls Try.prog 133 #[.slice (some ⟨b, o, none⟩) 3 3, .int .i64 (v : Int)] w fun e w' => (∃ r : Int, e = .returned (.int .i64 r) ∧ (0 ≤ r ↔ v = i ∨ v = j ∨ v = k)) ∧ w' = w := by
  go_enter Try.func133, Try.ntmps133
  go_wp2
  go_loopw [5, 8] (fun _ c wr => ∃ m : Nat, m ≤ 3 ∧ c = .int .i64 m ∧ (∀ q, q < m → v ≠ sd1 i j k q) ∧ w = wr) (fun _ c _ => 3 - (intOf c).toNat)
  case atStart => exact ⟨0, by omega, rfl, fun q h => absurd h (by omega), rfl⟩
  case round =>
    obtain ⟨m, hm, rfl, hall, rfl⟩ := hrel
    have HA : Hid (∀ q, q < m → v ≠ sd1 i j k q) := hall
    clear hall
    by_cases hlt : m < 3
    · have IX : Hid (m = 0 ∨ m = 1 ∨ m = 2) := by
        show m = 0 ∨ m = 1 ∨ m = 2
        omega
      have Pk : Hid (∀ q, q < m + 1 → q < m ∨ q = m) := fun q h => by omega
      by_cases h0 : v = sd1 i j k m
      · have HR : Hid (v = i ∨ v = j ∨ v = k) := by
          show v = i ∨ v = j ∨ v = k
          rcases IX.out with rfl | rfl | rfl
          · exact .inl h0
          · exact .inr (.inl h0)
          · exact .inr (.inr h0)
        clear HA Pk
        rcases IX.out with rfl | rfl | rfl
        all_goals
          simp only [sd1, if_true, if_false, Nat.succ_ne_zero, Nat.reduceEqDiff] at h0
          subst h0
          go_wp2
          go_ret
          refine ⟨⟨_, rfl, ?_⟩, rfl⟩
          first | decide | exact Iff.intro (fun _ => HR.out) (fun _ => by decide)
      · have HN : Hid (∀ q, q < m + 1 → v ≠ sd1 i j k q) := fun q hq => by
          rcases Pk.out q hq with h | rfl
          · exact HA.out q h
          · exact h0
        clear HA Pk
        rcases IX.out with rfl | rfl | rfl
        all_goals
          simp only [sd1, if_true, if_false, Nat.succ_ne_zero, Nat.reduceEqDiff] at h0
        · have e0 : ((v : Int) == (i : Int)) = false := beq_eq_false_iff_ne.2 (by omega)
          go_wp2
          go_roundw
          case rel => exact ⟨1, by omega, rfl, HN.out, by first | rfl | trivial⟩
          case measure => simp [intOf]
        · have e0 : ((v : Int) == (j : Int)) = false := beq_eq_false_iff_ne.2 (by omega)
          go_wp2
          go_roundw
          case rel => exact ⟨2, by omega, rfl, HN.out, by first | rfl | trivial⟩
          case measure => simp [intOf]
        · have e0 : ((v : Int) == (k : Int)) = false := beq_eq_false_iff_ne.2 (by omega)
          go_wp2
          go_roundw
          case rel => exact ⟨3, by omega, rfl, HN.out, by first | rfl | trivial⟩
          case measure => simp [intOf]
    · have : m = 3 := by omega
      subst this
      have HR : Hid (¬ (v = i ∨ v = j ∨ v = k)) := by
        rintro (h | h | h)
        · exact HA.out 0 (by omega) h
        · exact HA.out 1 (by omega) h
        · exact HA.out 2 (by omega) h
      clear HA
      go_wp2
      go_ret
      exact ⟨⟨_, rfl, ⟨fun h => absurd h (by omega), fun h => absurd h HR.out⟩⟩, rfl⟩
def in3 (i j k v : Nat) : Bool := decide (v = i ∨ v = j ∨ v = k)
set_option maxHeartbeats 1000000 in
theorem contains3_any (b o i j k v : Nat) (w : World) (hv : v ≤ 1048576) (hi : i ≤ 1048576) (hj : j ≤ 1048576) (hk : k ≤ 1048576) (c0 : w.cell? ⟨b, o, none⟩ = some (.int .i64 (i : Int))) (c1 : w.cell? ⟨b, o + 1, none⟩ = some (.int .i64 (j : Int))) (c2 : w.cell? ⟨b, o + 2, none⟩ = some (.int .i64 (k : Int))) :
    Calls Try.prog 120 #[.slice (some ⟨b, o, none⟩) 3 3, .int .i64 (v : Int)] w fun e w' => e = .returned (.bool (in3 i j k v)) ∧ w' = w := by
  go_enter Try.func120, Try.ntmps120
  go_wp2_with (go_at_call 133; refine (index3_any b o i j k v _ hv hi hj hk c0 c1 c2).mono ?_; rintro e w1 ⟨⟨r, rfl, hr⟩, hw⟩; rw [hw]; clear hw w1)
  go_ret
  refine ⟨retb ?_, rfl⟩
  unfold in3
  simp only [Bool.decide_or]
end Go.Proofs.Ytdkaoopkbhaheaa
