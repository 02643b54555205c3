import Derived.Test.YtdkaoopkbhaheaaQE1
import Derived.Lib.AppendZerosOnto
namespace Go.Proofs.Ytdkaoopkbhaheaa
open Go.RowKit Go.Lib
open Jor
open scoped Classical
set_option linter.unusedVariables false
set_option linter.unusedSimpArgs false
def bl [∀ p : Prop, Decidable p] (p : Prop) : Bool := decide p
theorem bl_true {p : Prop} (h : p) : bl p = true := by unfold bl; simp [h]
theorem bl_false {p : Prop} (h : ¬ p) : bl p = false := by unfold bl; simp [h]
theorem retb {a b : Bool} (h : a = b) : Ending.returned (.bool b) = .returned (.bool a) := by rw [h]
theorem infoQ : (Try.prog.info? 25).map (fun i => (i.zero, i.size, i.bytes)) = some (some (.agg #[.int .i64 0, .int .i64 0]), 2, 16) := by kernel_rfl
theorem underSQ : Try.prog.underlying 50 = some (.slice 25) := by kernel_rfl
theorem underI : Try.prog.underlying 3 = some (.int .i64) := by kernel_rfl
set_option maxRecDepth 100000 in
set_option maxHeartbeats 2000000 in
theorem grow_any (n : Nat) (h0 : 0 < n) (hn : n ≤ 1048576) (w : World) :
    Calls Try.prog 104 #[.slice none 0 0, .int .i64 n] w fun e w' => ∃ v, e = .returned v ∧ w'.ownsRow w.heap.size 25 2 v 0 [] ∧ Below w.heap.size w w' := by
  obtain ⟨i0, hi, hz0, hz1, hz2⟩ := info_parts infoQ
  have hrz : ∀ ty, (Builtin.append_ #[50, 3] ty #[.slice none 0 0, .int .i64 n]).run Try.prog w =
      .ok (.slice (some ⟨w.heap.size, 0, none⟩) n (grownCap w n 0 25)) (w.drew.alloc (.cells (([] : List Value).toArray ++ Builtin.zeroCells #[.int .i64 0, .int .i64 0] n ++ Builtin.zeroCells #[.int .i64 0, .int .i64 0] (grownCap w n 0 25 - n)) 25)) := fun ty => by
    have h := Lib.run_append_grow_zeros w 50 3 ty 25 i0 _ .i64 .i64 underSQ underI hi hz0 none 0 0 [] (run_firstCells_none w.drew i0.size 0 0 0) n h0 (by omega) (by omega) (by omega) (by rw [hz2]; omega) (by rw [Nat.zero_add, hz2]; exact growslice_fits h0 (by omega))
    rw [Nat.zero_add] at h
    exact h
  have hGn : n ≤ grownCap w n 0 25 := grownCap_ge w _ _ _
  have hGm := grownCap_le_maxLen w n 0 25 (by unfold maxLen; omega)
  generalize grownCap w n 0 25 = G at *
  have hG63 : G ≤ 9223372036854775807 := by unfold maxLen at hGm; omega
  have own : ∀ W : World, W = (w.alloc (.cells (Builtin.zeroCells #[.int .i64 0, .int .i64 0] n ++ Builtin.zeroCells #[.int .i64 0, .int .i64 0] (G - n)) 25)).drew → W.ownsRow w.heap.size 25 2 (.slice (some ⟨w.heap.size, 0, none⟩) 0 G) 0 [] ∧ Below w.heap.size w W := by
    rintro W rfl
    refine ⟨⟨rfl, .inr ⟨w.heap.size, G, _, rfl, Nat.le_refl _, heap_alloc_new _ _, Nat.zero_le _, hGm, ?_, rfl⟩⟩, ((Below.refl _ _).alloc (Nat.le_refl _) _).drew⟩
    simp [size_zeroCells]; omega
  have OW : Hid (∀ W : World, W = (w.alloc (.cells (Builtin.zeroCells #[.int .i64 0, .int .i64 0] n ++ Builtin.zeroCells #[.int .i64 0, .int .i64 0] (G - n)) 25)).drew → W.ownsRow w.heap.size 25 2 (.slice (some ⟨w.heap.size, 0, none⟩) 0 G) 0 [] ∧ Below w.heap.size w W) := own
  clear own
  have h1 : ¬ ((n : Int) < 0) := by omega
  have h2 : (0 : Int) < (n : Int) := by omega
  go_enter Try.func104, Try.ntmps104
  go_wp2_with (at_builtin; refine Lib.wpList_append_run _ rfl _ _ _ _ rfl _ _ rfl rfl _ _ (hrz _) ?_)
  all_goals (go_ret; exact ⟨_, rfl, OW.out _ rfl⟩)
set_option maxRecDepth 100000 in
set_option maxHeartbeats 4000000 in
theorem concat_any (a : Option Addr) (cap : Nat) (A : Nat → Option Addr) (C : Nat → Nat) (rs : List (List IP)) (w : World) (hn : rs.length ≤ 1048576) (hp : RingsL w a A C rs) (h3 : ∀ k, k < rs.length → 0 < (rg rs k).length) (hpos : 0 < (verts rs).length) (hsz : (verts rs).length ≤ 1048576) :
    Calls Try.prog 92 #[.slice a rs.length cap] w fun e w' => ∃ v, e = .returned v ∧ w'.ownsRow w.heap.size 25 2 v rs.flatten.length (cells2 rs.flatten) ∧ Below w.heap.size w w' := by
  obtain ⟨i0, hi, hz0, hz1, hz2⟩ := info_parts infoQ
  go_enter Try.func92, Try.ntmps92
  go_wp2
  go_loopw [3, 5, 11] (fun s _ i wr => ∃ k : Nat, k ≤ rs.length ∧ i = .int .i64 k ∧ s = .int .i64 (off rs k) ∧ w = wr) (fun _ _ i _ => rs.length - (intOf i).toNat)
  case atStart => exact ⟨0, Nat.zero_le _, rfl, by rw [off_zero]; rfl, rfl⟩
  case round =>
    obtain ⟨k, hk, rfl, rfl, rfl⟩ := hrel
    by_cases hlt : k < rs.length
    · rcases hp with h0 | ⟨b, of, rfl, hcell⟩
      · omega
      obtain ⟨hc0, hpk⟩ := hcell k hlt
      have hoff := off_succ rs k hlt
      have hlim := off_le' rs (k + 1) (by omega)
      have HO : Hid (off rs (k + 1) = off rs k + (rg rs k).length) := hoff
      have hb2 : off rs k + (rg rs k).length ≤ 1048576 := by omega
      clear hoff hcell hpk
      have hk0 : (0 : Int) ≤ (k : Int) := by omega
      have hkn : (k : Int) < (rs.length : Int) := by omega
      have hneg : ¬ ((off rs k : Int) + ((rg rs k).length : Int) < 0) := by omega
      go_wp2
      go_roundw
      case rel => exact ⟨k + 1, by omega, by go_num, by rw [HO.out]; go_num, by first | rfl | trivial⟩
      case measure => simp [intOf]; omega
    · have : k = rs.length := by omega
      subst this
      rw [off_end']
      go_wp2_with (go_at_call 104; refine (grow_any _ hpos hsz _).mono ?_; rintro e w1 ⟨v1, rfl, hown1, hb1⟩)
      go_loopw [6, 8, 27] (fun v _ i wr => ∃ k : Nat, k ≤ rs.length ∧ i = .int .i64 k ∧ wr.ownsRow w.heap.size 25 2 v (rs.take k).flatten.length (cells2 (rs.take k).flatten) ∧ Below w.heap.size w wr) (fun _ _ i _ => rs.length - (intOf i).toNat)
      case atStart => exact ⟨0, Nat.zero_le _, rfl, hown1, hb1⟩
      case round =>
        clear hown1 hb1
        obtain ⟨k, hk, rfl, hown, hb⟩ := hrel
        by_cases hlt : k < rs.length
        · rcases hp with h0 | ⟨b, off, rfl, hcell⟩
          · omega
          obtain ⟨hc0, hpk⟩ := hcell k hlt
          have hc1 := cell_later hb hc0
          have hpk1 := Pts.later hb hpk
          have hpos := h3 k hlt
          have hle : (rs.take (k + 1)).flatten.length ≤ (verts rs).length := take_flatten_le rs (k + 1)
          have hfl := take_flatten rs k hlt
          have hll : (rs.take (k + 1)).flatten.length = (rs.take k).flatten.length + (rg rs k).length := by rw [hfl, List.length_append]
          obtain ⟨ak, hak⟩ : ∃ ak, A k = some ak := by
            rcases hpk with h | ⟨b', off', e, _⟩
            · have h' : (rg rs k).length = 0 := h
              omega
            · exact ⟨_, e⟩
          rw [hak] at hc1 hpk1
          have hk0 : (0 : Int) ≤ (k : Int) := by omega
          have hkn : (k : Int) < (rs.length : Int) := by omega
          have HF : Hid (cells2 (rs.take (k + 1)).flatten = cells2 (rs.take k).flatten ++ cells2 (rg rs k) ∧ (rs.take (k + 1)).flatten.length = (rs.take k).flatten.length + (rg rs k).length) := ⟨by rw [hfl, cells2_append], hll⟩
          clear hfl hpk hc0
          go_wp2_with (at_builtin; refine wpList_append_own _ rfl _ _ 50 rfl w.heap.size 25 i0 _ 2 16 underSQ hi hz0 hz1 hz2 rfl (by decide) _ _ _ rfl hown ak (rg rs k).length (C k) (cells2 (rg rs k)) rfl (cells2_length _) (Pts.cells hpk1) (cells2_one _) (by unfold maxLen; omega) (by omega) hb.size ?_; intro v' w1 hown1 hgrow1 _)
          go_roundw
          case rel =>
            refine ⟨k + 1, by omega, by go_num, ?_, hb.grown hgrow1 hb.size (own_ge hown)⟩
            rw [HF.out.1, HF.out.2]; exact hown1
          case measure => simp [intOf]; omega
        · have : k = rs.length := by omega
          subst this
          rw [List.take_length] at hown
          go_wp2
          go_ret
          exact ⟨_, rfl, hown, hb⟩
set_option maxRecDepth 100000 in
set_option maxHeartbeats 1000000 in
theorem vertices_any (a : Option Addr) (cap : Nat) (A : Nat → Option Addr) (C : Nat → Nat) (rs : List (List IP)) (w : World) (hn : rs.length ≤ 1048576) (hp : RingsL w a A C rs) (h3 : ∀ k, k < rs.length → 0 < (rg rs k).length) (hpos : 0 < (verts rs).length) (hsz : (verts rs).length ≤ 1048576) :
    Calls Try.prog 73 #[.slice a rs.length cap] w fun e w' => ∃ a' c', e = .returned (.slice a' (verts rs).length c') ∧ Pts w' a' (verts rs).length (pt (verts rs)) ∧ Below w.heap.size w w' := by
  go_enter Try.func73, Try.ntmps73
  go_wp2_with (go_at_call 92; refine (concat_any _ _ _ _ _ _ hn hp h3 hpos hsz).mono ?_; rintro e w1 ⟨v, rfl, hown, hb1⟩; obtain ⟨a', c', rfl, hP⟩ := own_verts hown)
  go_ret
  exact ⟨a', c', rfl, hP, hb1⟩
set_option maxHeartbeats 1000000 in
theorem ringsAllowed_any (a : Option Addr) (cap : Nat) (rs : List (List IP)) (w : World) (hn : rs.length ≤ 8796093022208) :
    Calls Try.prog 85 #[.slice a rs.length cap] w fun e w' => e = .returned (.bool (bl (¬ Many rs))) ∧ w' = w := by
  by_cases h1 : (1 : Int) ≤ (rs.length : Int)
  · by_cases h2 : (rs.length : Int) ≤ 8
    · have HM : Hid (bl (¬ Many rs) = true) := bl_true (by unfold Many; omega)
      go_enter Try.func85, Try.ntmps85
      go_wp2
      go_ret
      exact ⟨retb HM.out, rfl⟩
    · have HM : Hid (bl (¬ Many rs) = false) := bl_false (fun h => h (by unfold Many; omega))
      go_enter Try.func85, Try.ntmps85
      go_wp2
      go_ret
      exact ⟨retb HM.out, rfl⟩
  · have HM : Hid (bl (¬ Many rs) = false) := bl_false (fun h => h (by unfold Many; omega))
    go_enter Try.func85, Try.ntmps85
    go_wp2
    go_ret
    exact ⟨retb HM.out, rfl⟩
set_option maxRecDepth 100000 in
set_option maxHeartbeats 1000000 in
theorem noneShort_any (a : Option Addr) (cap : Nat) (A : Nat → Option Addr) (C : Nat → Nat) (rs : List (List IP)) (w : World) (hn : rs.length ≤ 1048576) (hsz : (verts rs).length ≤ 1048576) (hp : RingsL w a A C rs) :
    Calls Try.prog 86 #[.slice a rs.length cap] w fun e w' => e = .returned (.bool (bl (¬ Short rs))) ∧ w' = w := by
  go_enter Try.func86, Try.ntmps86
  go_wp2
  go_loopw [4, 7] (fun _ i wr => ∃ k : Nat, k ≤ rs.length ∧ i = .int .i64 k ∧ (∀ j, j < k → 3 ≤ (rg rs j).length) ∧ w = wr) (fun _ i _ => rs.length - (intOf i).toNat)
  case atStart => exact ⟨0, Nat.zero_le _, rfl, fun j h => absurd h (by omega), rfl⟩
  case round =>
    obtain ⟨k, hk, rfl, hall, rfl⟩ := hrel
    by_cases hlt : k < rs.length
    · rcases hp with h0 | ⟨b, of, rfl, hcell⟩
      · omega
      obtain ⟨hc0, hpk⟩ := hcell k hlt
      have hle := rg_le rs k
      have HA : Hid (∀ j, j < k → 3 ≤ (rg rs j).length) := hall
      have HC : Hid (∀ j, j < k + 1 → j < k ∨ j = k) := fun j h => by omega
      clear hall hcell hpk
      have hk0 : (0 : Int) ≤ (k : Int) := by omega
      have hkn : (k : Int) < (rs.length : Int) := by omega
      by_cases hs : (rg rs k).length < 3
      · have HS : Hid (bl (¬ Short rs) = false) := bl_false (fun h => h (short_at hlt hs))
        go_wp2
        go_ret
        exact ⟨retb HS.out, rfl⟩
      · go_wp2
        go_roundw
        case rel =>
          refine ⟨k + 1, by omega, by go_num, fun j hj => ?_, by first | rfl | trivial⟩
          rcases HC.out j hj with h | h
          · exact HA.out j h
          · rw [h]; omega
        case measure => simp [intOf]; omega
    · have : k = rs.length := by omega
      subst this
      have HS : Hid (bl (¬ Short rs) = true) := bl_true (not_short hall)
      clear hall
      go_wp2
      go_ret
      exact ⟨retb HS.out, rfl⟩
end Go.Proofs.Ytdkaoopkbhaheaa
namespace Go.Proofs.Ytdkaoopkbhaheaa
open Go.RowKit Go.Lib
open Jor
open scoped Classical
set_option linter.unusedVariables false
set_option linter.unusedSimpArgs false
def bndB (x : Int) : Bool := decide (-1048576 ≤ x ∧ x ≤ 1048576)
def bndP (p : IP) : Bool := bndB p.1 && bndB p.2
set_option maxHeartbeats 1000000 in
theorem inBounds_any (x y : Int) (w : World) :
    Calls Try.prog 78 #[.agg #[.int .i64 x, .int .i64 y]] w fun e w' => e = .returned (.bool (bndP (x, y))) ∧ Below w.heap.size w w' := by
  have HB : Hid (Below w.heap.size w (w.alloc (.cells #[.int .i64 x, .int .i64 y] 25))) := (Below.refl _ _).alloc (Nat.le_refl _) _
  by_cases h1 : -1048576 ≤ x
  · by_cases h2 : x ≤ 1048576
    · by_cases h3 : -1048576 ≤ y
      · by_cases h4 : y ≤ 1048576
        · have HM : Hid (bndP (x, y) = true) := by unfold bndP bndB; simp only [decide_eq_true_eq, Bool.and_eq_true]; exact ⟨⟨h1, h2⟩, h3, h4⟩
          go_enter Try.func78, Try.ntmps78
          go_wp2
          go_ret
          exact ⟨retb HM.out, HB.out⟩
        · have HM : Hid (bndP (x, y) = false) := by unfold bndP bndB; simp only [Bool.and_eq_false_iff, decide_eq_false_iff_not]; first | (left; omega) | (right; omega)
          go_enter Try.func78, Try.ntmps78
          go_wp2
          go_ret
          exact ⟨retb HM.out, HB.out⟩
      · have HM : Hid (bndP (x, y) = false) := by unfold bndP bndB; simp only [Bool.and_eq_false_iff, decide_eq_false_iff_not]; first | (left; omega) | (right; omega)
        go_enter Try.func78, Try.ntmps78
        go_wp2
        go_ret
        exact ⟨retb HM.out, HB.out⟩
    · have HM : Hid (bndP (x, y) = false) := by unfold bndP bndB; simp only [Bool.and_eq_false_iff, decide_eq_false_iff_not]; first | (left; omega) | (right; omega)
      go_enter Try.func78, Try.ntmps78
      go_wp2
      go_ret
      exact ⟨retb HM.out, HB.out⟩
  · have HM : Hid (bndP (x, y) = false) := by unfold bndP bndB; simp only [Bool.and_eq_false_iff, decide_eq_false_iff_not]; first | (left; omega) | (right; omega)
    go_enter Try.func78, Try.ntmps78
    go_wp2
    go_ret
    exact ⟨retb HM.out, HB.out⟩
theorem near_bnd (p : IP) : nearP p ↔ bndP p = true := by
  unfold nearP nearB bndP bndB
  simp only [decide_eq_true_eq, Bool.and_eq_true]
  omega
set_option maxRecDepth 100000 in
set_option maxHeartbeats 4000000 in
theorem inRange_any (a : Option Addr) (cap : Nat) (A : Nat → Option Addr) (C : Nat → Nat) (rs : List (List IP)) (w : World) (hn : rs.length ≤ 8) (hm : 1 ≤ rs.length) (h3 : ∀ k, k < rs.length → 3 ≤ (rg rs k).length) (hsz : (verts rs).length ≤ 1048576) (hp : RingsL w a A C rs) :
    Calls Try.prog 87 #[.slice a rs.length cap] w fun e w' => e = .returned (.bool (bl (¬ Far rs))) ∧ Below w.heap.size w w' := by
  have H3 : Hid (∀ k, k < rs.length → 3 ≤ (rg rs k).length) := h3
  have hpos : 0 < (verts rs).length := by
    have := rg_le rs 0
    have := h3 0 (by omega)
    omega
  clear h3
  go_enter Try.func87, Try.ntmps87
  go_wp2
  go_loopw [3, 5, 10] (fun s _ i wr => ∃ k : Nat, k ≤ rs.length ∧ i = .int .i64 k ∧ s = .int .i64 (off rs k) ∧ w = wr) (fun _ _ i _ => rs.length - (intOf i).toNat)
  case atStart => exact ⟨0, Nat.zero_le _, rfl, by rw [off_zero]; rfl, rfl⟩
  case round =>
    obtain ⟨k, hk, rfl, rfl, rfl⟩ := hrel
    by_cases hlt : k < rs.length
    · rcases hp with h0 | ⟨b, of, rfl, hcell⟩
      · omega
      obtain ⟨hc0, hpk⟩ := hcell k hlt
      have hoff := off_succ rs k hlt
      have hlim := off_le' rs (k + 1) (by omega)
      have HO : Hid (off rs (k + 1) = off rs k + (rg rs k).length) := hoff
      have hb2 : off rs k + (rg rs k).length ≤ 1048576 := by omega
      clear hoff hcell hpk
      have hk0 : (0 : Int) ≤ (k : Int) := by omega
      have hkn : (k : Int) < (rs.length : Int) := by omega
      go_wp2
      go_roundw
      case rel => exact ⟨k + 1, by omega, by go_num, by rw [HO.out]; go_num, by first | rfl | trivial⟩
      case measure => simp [intOf]; omega
    · have : k = rs.length := by omega
      subst this
      rw [off_end']
      by_cases h64 : (64 : Int) < ((verts rs).length : Int)
      · have HR : Hid (bl (¬ Far rs) = false) := bl_false (fun h => h (.inl (show 64 < (verts rs).length by omega)))
        go_wp2
        go_ret
        exact ⟨retb HR.out, Below.refl _ _⟩
      · go_wp2_with (go_at_call 73; refine (vertices_any _ _ _ _ _ _ (by omega) hp (fun k hk => Nat.lt_of_lt_of_le (by decide) (H3.out k hk)) hpos hsz).mono ?_; rintro e w1 ⟨a', c', rfl, hP, hb1⟩)
        go_loopw [7, 24] (fun _ i wr => ∃ k : Nat, k ≤ (verts rs).length ∧ i = .int .i64 k ∧ (∀ j, j < k → nearP (pt (verts rs) j)) ∧ Below w1.heap.size w1 wr) (fun _ i _ => (verts rs).length - (intOf i).toNat)
        case atStart => exact ⟨0, Nat.zero_le _, rfl, fun j h => absurd h (by omega), Below.refl _ _⟩
        case round =>
          obtain ⟨k, hk, rfl, hall, hbr⟩ := hrel
          by_cases hlt : k < (verts rs).length
          · rcases hP with h0 | ⟨b, of, rfl, hcell⟩
            · omega
            have c1 := cell_later hbr (hcell k hlt).1
            have c2 := cell_later hbr (hcell k hlt).2
            have HA : Hid (∀ j, j < k → nearP (pt (verts rs) j)) := hall
            have NI : Hid (nearP (pt (verts rs) k) ↔ bndP (pt (verts rs) k) = true) := near_bnd _
            have FA : Hid (¬ nearP (pt (verts rs) k) → bl (¬ Far rs) = false) := fun h => bl_false (fun h' => h' (.inr ⟨_, pt_mem hlt, h⟩))
            have Pk : Hid (∀ j, j < k + 1 → j < k ∨ j = k) := fun j h => by omega
            clear hall hcell
            have hk0 : (0 : Int) ≤ (k : Int) := by omega
            have hkn : (k : Int) < ((verts rs).length : Int) := by omega
            generalize hV : pt (verts rs) k = V at *
            obtain ⟨x, y⟩ := V
            have HV : Hid (pt (verts rs) k = (x, y)) := hV
            clear hV
            simp only at c1 c2
            have bA : Below w1.heap.size w1 (wr.alloc (.cells #[.int .i64 x, .int .i64 y] 25)) := hbr.alloc hbr.size _
            cases h1 : bndP (x, y)
            · have HR : Hid (bl (¬ Far rs) = false) := FA.out (fun h => by have := NI.out.1 h; rw [h1] at this; cases this)
              go_wp2_with (go_at_call 78; refine (inBounds_any _ _ _).mono ?_; rintro e w2 ⟨rfl, hb2⟩; rw [h1])
              go_ret
              exact ⟨retb HR.out, below_then hb1 (below_then bA hb2)⟩
            · go_wp2_with (go_at_call 78; refine (inBounds_any _ _ _).mono ?_; rintro e w2 ⟨rfl, hb2⟩; rw [h1])
              go_roundw
              case rel =>
                refine ⟨k + 1, by omega, by go_num, fun j hj => ?_, below_then bA hb2⟩
                rcases Pk.out j hj with h | h
                · exact HA.out j h
                · rw [h, HV.out]; exact NI.out.2 h1
              case measure => simp [intOf]; omega
          · have : k = (verts rs).length := by omega
            subst this
            have HR : Hid (bl (¬ Far rs) = true) := bl_true (not_far (show (verts rs).length ≤ 64 by omega) hall)
            clear hall
            go_wp2
            go_ret
            exact ⟨retb HR.out, below_then hb1 hbr⟩
def cellsA (l : List (Nat × Nat)) : List Value := l.flatMap fun e => [.int .i64 (e.1 : Int), .int .i64 (e.2 : Int)]
theorem cellsA_length (l : List (Nat × Nat)) : (cellsA l).length = l.length * 2 := by
  induction l with
  | nil => rfl
  | cons p l ih => simp [cellsA] at *; omega
theorem cellsA_snoc (l : List (Nat × Nat)) (e : Nat × Nat) : cellsA (l ++ [e]) = cellsA l ++ [.int .i64 (e.1 : Int), .int .i64 (e.2 : Int)] := by simp [cellsA]
theorem cellsA_get (l : List (Nat × Nat)) : ∀ i, i < l.length → (cellsA l)[i * 2]? = some (.int .i64 ((l.getD i (0, 0)).1 : Int)) ∧ (cellsA l)[i * 2 + 1]? = some (.int .i64 ((l.getD i (0, 0)).2 : Int)) := by
  induction l with
  | nil => intro i h; simp at h
  | cons p l ih =>
    intro i h
    match i with
    | 0 => simp [cellsA]
    | i + 1 =>
      have := ih i (by simpa using h)
      rw [show (i + 1) * 2 = i * 2 + 1 + 1 by omega]
      simpa [cellsA] using this
theorem two_one (a b : Int) : ∀ u ∈ [Value.int .i64 a, .int .i64 b], u.oneCell' = true := by
  intro u hu
  simp only [List.mem_cons, List.not_mem_nil, or_false] at hu
  rcases hu with rfl | rfl <;> rfl
theorem infoA : (Try.prog.info? 120).map (fun i => (i.zero, i.size, i.bytes)) = some (some (.agg #[.int .i64 0, .int .i64 0]), 2, 16) := by kernel_rfl
theorem underSA : Try.prog.underlying 117 = some (.slice 120) := by kernel_rfl
theorem size_a {w wr : World} (h : Below w.heap.size w wr) (o : Obj) : w.heap.size ≤ (wr.alloc o).heap.size := by
  have := h.size
  simp; omega
theorem below_app' {w wr : World} (hb : Below w.heap.size w wr) {o : Obj} {w1 : World} {v : Value} {e : TypeId} {size n : Nat} {xs : List Value} (hown : wr.ownsRow w.heap.size e size v n xs) (hg : (wr.alloc o).grownBy w1 v.ownBlock) : Below w.heap.size w w1 :=
  (hb.alloc hb.size o).grown hg (size_a hb o) (own_ge hown)
set_option maxRecDepth 100000 in
set_option maxHeartbeats 4000000 in
theorem pedges_any (a : Option Addr) (cap : Nat) (A : Nat → Option Addr) (C : Nat → Nat) (rs : List (List IP)) (w : World) (hn : rs.length ≤ 1048576) (hp : RingsL w a A C rs) (hsz : (verts rs).length ≤ 1048576) :
    Calls Try.prog 97 #[.slice a rs.length cap] w fun e w' => ∃ v, e = .returned v ∧ w'.ownsRow w.heap.size 120 2 v (verts rs).length (cellsA (eds 0 rs)) ∧ Below w.heap.size w w' := by
  obtain ⟨i0, hi, hz0, hz1, hz2⟩ := info_parts infoA
  go_enter Try.func97, Try.ntmps97
  go_wp2
  go_loopw [3, 4, 6, 7, 8, 11] (fun v f _ _ _ i wr => ∃ k : Nat, k ≤ rs.length ∧ i = .int .i64 k ∧ f = .int .i64 (off rs k) ∧ wr.ownsRow w.heap.size 120 2 v (off rs k) (cellsA ((eds 0 rs).take (off rs k))) ∧ Below w.heap.size w wr) (fun _ _ _ _ _ i _ => rs.length - (intOf i).toNat)
  case atStart =>
    refine ⟨0, Nat.zero_le _, rfl, by rw [off_zero]; rfl, ?_, Below.refl _ _⟩
    rw [off_zero]; exact World.ownsRow_nil _ _ _ _
  case round =>
    obtain ⟨k, hk, rfl, rfl, hown, hb⟩ := hrel
    by_cases hlt : k < rs.length
    · rcases hp with h0 | ⟨b, of, rfl, hcell⟩
      · omega
      obtain ⟨hc0, hpk⟩ := hcell k hlt
      have hoff := off_succ rs k hlt
      have hlim := off_le' rs (k + 1) (by omega)
      have hk0 : (0 : Int) ≤ (k : Int) := by omega
      have hkn : (k : Int) < (rs.length : Int) := by omega
      have hc1 : wr.cell? ⟨b, of + k, none⟩ = some (.slice (A k) (rg rs k).length (C k)) := cell_later hb hc0
      have HO : Hid (off rs (k + 1) = off rs k + (rg rs k).length) := hoff
      have hb2 : off rs k + (rg rs k).length ≤ 1048576 := by omega
      have hb3 : off rs k + (rg rs k).length ≤ (verts rs).length := by omega
      clear hoff hcell hpk hc0
      generalize hF : off rs k = F at *
      have HF : Hid (off rs k = F) := hF
      clear hF
      have E : Hid (∀ i, i < (rg rs k).length → (eds 0 rs).getD (F + i) (0, 0) = (F + i, F + (i + 1) % (rg rs k).length)) := fun i hi => by
        have := ed_at rs k i hi
        rw [HF.out] at this
        exact this
      generalize (rg rs k).length = L at *
      go_wp2
      go_loopw [3, 7, 8, 17] (fun v _ _ i wq => ∃ j : Nat, j ≤ L ∧ i = .int .i64 j ∧ wq.ownsRow w.heap.size 120 2 v (F + j) (cellsA ((eds 0 rs).take (F + j))) ∧ Below w.heap.size w wq) (fun _ _ _ i _ => L - (intOf i).toNat)
      case atStart => exact ⟨0, Nat.zero_le _, rfl, hown, hb⟩
      case round =>
        clear hc1 hown hb
        obtain ⟨i, hi', rfl, hown, hb⟩ := hrel
        by_cases hil : i < L
        · have hj : (i + 1) % L < L := Nat.mod_lt _ (by omega)
          have HT : Hid (cellsA ((eds 0 rs).take (F + (i + 1))) = cellsA ((eds 0 rs).take (F + i)) ++ [.int .i64 ((F + i : Nat) : Int), .int .i64 ((F + (i + 1) % L : Nat) : Int)]) := by
            show _ = _
            have hl : F + i < (eds 0 rs).length := by rw [eds_length]; show F + i < (verts rs).length; omega
            rw [← Nat.add_assoc, take_snoc _ _ (0, 0) hl, E.out i hil, cellsA_snoc]
          have hmod : ((i : Int) + 1).tmod (L : Int) = (((i + 1) % L : Nat) : Int) := by
            rw [Int.tmod_eq_emod_of_nonneg (by omega), Int.natCast_emod]; rfl
          have hl0 : ¬ L = 0 := by omega
          have hl1 : ((L : Int) == 0) = false := by rw [beq_eq_false_iff_ne]; omega
          generalize (i + 1) % L = j at *
          have hj0 : (0 : Int) ≤ (j : Int) := by omega
          have hjn : (j : Int) < (L : Int) := by omega
          have hA2 : Hid (F + i + 1 ≤ maxLen) := by show _ ≤ _; unfold maxLen; omega
          go_wp2_with (at_builtin; refine wpList_append_lies _ rfl _ _ 117 rfl w.heap.size 120 i0 _ 2 16 underSA hi hz0 hz1 hz2 rfl (by decide) _ _ _ rfl (hown.alloc _) ⟨_, 0, none⟩ 1 1 _ rfl rfl (World.news_of_block (heap_alloc_new _ _)) (two_one _ _) (by decide) hA2.out (by omega) (size_a hb _) _ rfl ?_; intro g cap w1 hown1 hgrow1 hat hlt1; have hbN := below_app' hb hown hgrow1)
          go_roundw
          case rel =>
            have e1 : ((F + i : Nat) : Int) = (F : Int) + (i : Int) := by omega
            have e2 : ((F + j : Nat) : Int) = (F : Int) + (j : Int) := by omega
            have e3 := HT.out
            rw [e1, e2] at e3
            refine ⟨i + 1, by omega, by go_num, ?_⟩
            rw [e3]
            first | exact hown1 | exact ⟨hown1, hbN⟩
          case measure => simp [intOf]; omega
        · have : i = L := by omega
          subst this
          go_wp2
          go_roundw
          case rel =>
            refine ⟨k + 1, by omega, by go_num, ?_, ?_, hb⟩
            · rw [HO.out]; go_num
            · rw [HO.out]; exact hown
          case measure => simp [intOf]; omega
    · have : k = rs.length := by omega
      subst this
      have hl : (eds 0 rs).take (off rs rs.length) = eds 0 rs := by rw [off_end, ← eds_length rs 0, List.take_length]
      rw [hl, off_end'] at hown
      clear hl
      go_wp2
      go_ret
      exact ⟨_, rfl, hown, hb⟩
set_option maxHeartbeats 2000000 in
theorem foldBack_any (ax ay bx bY cx cy : Int) (w : World) :
    Calls Try.prog 112 #[.agg #[.int .i64 ax, .int .i64 ay], .agg #[.int .i64 bx, .int .i64 bY], .agg #[.int .i64 cx, .int .i64 cy]] w fun e w' => e = .returned (.bool (foldB (ax, ay) (bx, bY) (cx, cy))) ∧ Below w.heap.size w w' := by
  have hs : Below w.heap.size w (((w.alloc (.cells #[.int .i64 ax, .int .i64 ay] 25)).alloc (.cells #[.int .i64 bx, .int .i64 bY] 25)).alloc (.cells #[.int .i64 cx, .int .i64 cy] 25)) := ((((Below.refl _ _).alloc (Nat.le_refl _) _).alloc (by simp) _).alloc (by simp; omega) _)
  cases h1 : meetB ax ay ax ay bx bY cx cy
  · have HF : Hid (foldB (ax, ay) (bx, bY) (cx, cy) = meetB cx cy cx cy ax ay bx bY) := by show _ = _; unfold foldB; simp only [h1, Bool.false_or]
    go_enter Try.func112, Try.ntmps112
    go_wp2_with fail
    refine (planeMeet_any _ _ _ _ _ _ _ _ _).mono ?_
    rintro e w1 ⟨rfl, hb1⟩
    obtain ⟨hc1, hf1⟩ := old_reads hb1
    rw [h1]
    go_wp2_with fail
    refine (planeMeet_any _ _ _ _ _ _ _ _ _).mono ?_
    rintro e w2 ⟨rfl, hb2⟩
    clear hc1 hf1
    go_wp2
    go_ret
    exact ⟨retb HF.out, below_then (below_then hs hb1) hb2⟩
  · have HF : Hid (foldB (ax, ay) (bx, bY) (cx, cy) = true) := by show _ = _; unfold foldB; simp only [h1, Bool.true_or]
    go_enter Try.func112, Try.ntmps112
    go_wp2_with fail
    refine (planeMeet_any _ _ _ _ _ _ _ _ _).mono ?_
    rintro e w1 ⟨rfl, hb1⟩
    rw [h1]
    go_wp2
    go_ret
    exact ⟨retb HF.out, below_then hs hb1⟩
end Go.Proofs.Ytdkaoopkbhaheaa
namespace Go.Proofs.Ytdkaoopkbhaheaa
open Go.RowKit Go.Lib
open Jor
set_option linter.unusedVariables false
set_option linter.unusedSimpArgs false
set_option maxHeartbeats 2000000 in
theorem crossed_any (px py ax ay bx bY : Int) (w : World) :
    Calls Try.prog 113 #[.agg #[.int .i64 px, .int .i64 py], .agg #[.int .i64 ax, .int .i64 ay], .agg #[.int .i64 bx, .int .i64 bY]] w fun e w' => e = .returned (.bool (crossedB (px, py) (ax, ay) (bx, bY))) ∧ Below w.heap.size w w' := by
  have hs : Below w.heap.size w (((w.alloc (.cells #[.int .i64 px, .int .i64 py] 25)).alloc (.cells #[.int .i64 ax, .int .i64 ay] 25)).alloc (.cells #[.int .i64 bx, .int .i64 bY] 25)) := ((((Below.refl _ _).alloc (Nat.le_refl _) _).alloc (by simp) _).alloc (by simp; omega) _)
  have CB : Hid (crossedB (px, py) (ax, ay) (bx, bY) = if ay ≤ py ∧ py < bY then decide (0 < turnW ax ay bx bY px py) else if bY ≤ py ∧ py < ay then decide (0 < turnW bx bY ax ay px py) else false) := rfl
  by_cases h1 : ay ≤ py
  · by_cases h2 : py < bY
    · have HR : Hid (crossedB (px, py) (ax, ay) (bx, bY) = decide (0 < turnW ax ay bx bY px py)) := CB.out.trans (if_pos ⟨h1, h2⟩)
      go_enter Try.func113, Try.ntmps113
      go_wp2_with fail
      refine (planeTurn_any _ _ _ _ _ _ _).mono ?_
      rintro e w1 ⟨rfl, hb1⟩
      go_wp2
      go_ret
      exact ⟨retb HR.out, below_then hs hb1⟩
    · have HR : Hid (crossedB (px, py) (ax, ay) (bx, bY) = false) := CB.out.trans (by rw [if_neg (by omega), if_neg (by omega)])
      have h3 : bY ≤ py := by omega
      go_enter Try.func113, Try.ntmps113
      go_wp2
      go_ret
      exact ⟨retb HR.out, hs⟩
  · by_cases h2 : bY ≤ py
    · have h3 : py < ay := by omega
      have HR : Hid (crossedB (px, py) (ax, ay) (bx, bY) = decide (0 < turnW bx bY ax ay px py)) := CB.out.trans (by rw [if_neg (by omega), if_pos ⟨h2, h3⟩])
      go_enter Try.func113, Try.ntmps113
      go_wp2_with fail
      refine (planeTurn_any _ _ _ _ _ _ _).mono ?_
      rintro e w1 ⟨rfl, hb1⟩
      go_wp2
      go_ret
      exact ⟨retb HR.out, below_then hs hb1⟩
    · have HR : Hid (crossedB (px, py) (ax, ay) (bx, bY) = false) := CB.out.trans (by rw [if_neg (by omega), if_neg (by omega)])
      go_enter Try.func113, Try.ntmps113
      go_wp2
      go_ret
      exact ⟨retb HR.out, hs⟩
end Go.Proofs.Ytdkaoopkbhaheaa
