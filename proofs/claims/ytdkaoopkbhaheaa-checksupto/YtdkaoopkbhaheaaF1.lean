/- The program: slices.Grow, slices.Concat, Vertices; the first tests. -/
import Derived.Test.YtdkaoopkbhaheaaE1
import Derived.Lib.AppendZerosOnto
namespace Go.Proofs.Ytdkaoopkbhaheaa
open Go.RowKit Go.Lib
open Jor
open scoped Classical
set_option linter.unusedVariables false
set_option linter.unusedSimpArgs false

/-- A proposition as a Boolean (a word that the walk does not lay open). -/
def bl [∀ p : Prop, Decidable p] (p : Prop) : Bool := decide p
theorem bl_true {p : Prop} (h : p) : bl p = true := by unfold bl; simp [h]
theorem bl_false {p : Prop} (h : ¬ p) : bl p = false := by unfold bl; simp [h]
theorem retb {a b : Bool} (h : a = b) : Ending.returned (.bool b) = .returned (.bool a) := by rw [h]
theorem infoQ : (Try.prog.info? 25).map (fun i => (i.zero, i.size, i.bytes)) = some (some (.agg #[.int .i64 0, .int .i64 0]), 2, 16) := by kernel_rfl
theorem underSQ : Try.prog.underlying 50 = some (.slice 25) := by kernel_rfl
theorem underI : Try.prog.underlying 3 = some (.int .i64) := by kernel_rfl

set_option maxRecDepth 100000 in
set_option maxHeartbeats 2000000 in
theorem grow_any (n : Nat) (h0 : 0 < n) (hn : n ≤ 1048576) (w : World) :
    Calls Try.prog 104 #[.slice none 0 0, .int .i64 n] w fun e w' => ∃ v, e = .returned v ∧ w'.ownsRow w.heap.size 25 2 v 0 [] ∧ Below w.heap.size w w' := by
  obtain ⟨i0, hi, hz0, hz1, hz2⟩ := info_parts infoQ
  have hrz : ∀ ty, (Builtin.append_ #[50, 3] ty #[.slice none 0 0, .int .i64 n]).run Try.prog w =
      .ok (.slice (some ⟨w.heap.size, 0, none⟩) n (grownCap w n 0 25)) (w.drew.alloc (.cells (([] : List Value).toArray ++ Builtin.zeroCells #[.int .i64 0, .int .i64 0] n ++ Builtin.zeroCells #[.int .i64 0, .int .i64 0] (grownCap w n 0 25 - n)) 25)) := fun ty => by
    have h := Lib.run_append_grow_zeros w 50 3 ty 25 i0 _ .i64 .i64 underSQ underI hi hz0 none 0 0 [] (run_firstCells_none w.drew i0.size 0 0 0) n h0 (by omega) (by omega) (by omega) (by rw [hz2]; omega) (by rw [Nat.zero_add, hz2]; exact growslice_fits h0 (by omega))
    rw [Nat.zero_add] at h
    exact h
  have hGn : n ≤ grownCap w n 0 25 := grownCap_ge w _ _ _
  have hGm := grownCap_le_maxLen w n 0 25 (by unfold maxLen; omega)
  generalize grownCap w n 0 25 = G at *
  have hG63 : G ≤ 9223372036854775807 := by unfold maxLen at hGm; omega
  have own : ∀ W : World, W = (w.alloc (.cells (Builtin.zeroCells #[.int .i64 0, .int .i64 0] n ++ Builtin.zeroCells #[.int .i64 0, .int .i64 0] (G - n)) 25)).drew → W.ownsRow w.heap.size 25 2 (.slice (some ⟨w.heap.size, 0, none⟩) 0 G) 0 [] ∧ Below w.heap.size w W := by
    rintro W rfl
    refine ⟨⟨rfl, .inr ⟨w.heap.size, G, _, rfl, Nat.le_refl _, heap_alloc_new _ _, Nat.zero_le _, hGm, ?_, rfl⟩⟩, ((Below.refl _ _).alloc (Nat.le_refl _) _).drew⟩
    simp [size_zeroCells]; omega
  have OW : Hid (∀ W : World, W = (w.alloc (.cells (Builtin.zeroCells #[.int .i64 0, .int .i64 0] n ++ Builtin.zeroCells #[.int .i64 0, .int .i64 0] (G - n)) 25)).drew → W.ownsRow w.heap.size 25 2 (.slice (some ⟨w.heap.size, 0, none⟩) 0 G) 0 [] ∧ Below w.heap.size w W) := own
  clear own
  have h1 : ¬ ((n : Int) < 0) := by omega
  have h2 : (0 : Int) < (n : Int) := by omega
  go_enter Try.func104, Try.ntmps104
  go_wp2_with (at_builtin; refine Lib.wpList_append_run _ rfl _ _ _ _ rfl _ _ rfl rfl _ _ (hrz _) ?_)
  all_goals (go_ret; exact ⟨_, rfl, OW.out _ rfl⟩)

set_option maxRecDepth 100000 in
set_option maxHeartbeats 4000000 in
theorem concat_any (a : Option Addr) (cap : Nat) (A : Nat → Option Addr) (C : Nat → Nat) (rs : List (List IP)) (w : World) (hn : rs.length ≤ 1048576) (hp : RingsL w a A C rs) (h3 : ∀ k, k < rs.length → 0 < (rg rs k).length) (hpos : 0 < (verts rs).length) (hsz : (verts rs).length ≤ 1048576) :
    Calls Try.prog 92 #[.slice a rs.length cap] w fun e w' => ∃ v, e = .returned v ∧ w'.ownsRow w.heap.size 25 2 v rs.flatten.length (cells2 rs.flatten) ∧ Below w.heap.size w w' := by
  obtain ⟨i0, hi, hz0, hz1, hz2⟩ := info_parts infoQ
  go_enter Try.func92, Try.ntmps92
  go_wp2
  go_loopw [3, 5, 11] (fun s _ i wr => ∃ k : Nat, k ≤ rs.length ∧ i = .int .i64 k ∧ s = .int .i64 (off rs k) ∧ w = wr) (fun _ _ i _ => rs.length - (intOf i).toNat)
  case atStart => exact ⟨0, Nat.zero_le _, rfl, by rw [off_zero]; rfl, rfl⟩
  case round =>
    obtain ⟨k, hk, rfl, rfl, rfl⟩ := hrel
    by_cases hlt : k < rs.length
    · rcases hp with h0 | ⟨b, of, rfl, hcell⟩
      · omega
      obtain ⟨hc0, hpk⟩ := hcell k hlt
      have hoff := off_succ rs k hlt
      have hlim := off_le' rs (k + 1) (by omega)
      have HO : Hid (off rs (k + 1) = off rs k + (rg rs k).length) := hoff
      have hb2 : off rs k + (rg rs k).length ≤ 1048576 := by omega
      clear hoff hcell hpk
      have hk0 : (0 : Int) ≤ (k : Int) := by omega
      have hkn : (k : Int) < (rs.length : Int) := by omega
      have hneg : ¬ ((off rs k : Int) + ((rg rs k).length : Int) < 0) := by omega
      go_wp2
      go_roundw
      case rel => exact ⟨k + 1, by omega, by go_num, by rw [HO.out]; go_num, by first | rfl | trivial⟩
      case measure => simp [intOf]; omega
    · have : k = rs.length := by omega
      subst this
      rw [off_end']
      go_wp2_with (go_at_call 104; refine (grow_any _ hpos hsz _).mono ?_; rintro e w1 ⟨v1, rfl, hown1, hb1⟩)
      go_loopw [6, 8, 27] (fun v _ i wr => ∃ k : Nat, k ≤ rs.length ∧ i = .int .i64 k ∧ wr.ownsRow w.heap.size 25 2 v (rs.take k).flatten.length (cells2 (rs.take k).flatten) ∧ Below w.heap.size w wr) (fun _ _ i _ => rs.length - (intOf i).toNat)
      case atStart => exact ⟨0, Nat.zero_le _, rfl, hown1, hb1⟩
      case round =>
        clear hown1 hb1
        obtain ⟨k, hk, rfl, hown, hb⟩ := hrel
        by_cases hlt : k < rs.length
        · rcases hp with h0 | ⟨b, off, rfl, hcell⟩
          · omega
          obtain ⟨hc0, hpk⟩ := hcell k hlt
          have hc1 := cell_later hb hc0
          have hpk1 := Pts.later hb hpk
          have hpos := h3 k hlt
          have hle : (rs.take (k + 1)).flatten.length ≤ (verts rs).length := take_flatten_le rs (k + 1)
          have hfl := take_flatten rs k hlt
          have hll : (rs.take (k + 1)).flatten.length = (rs.take k).flatten.length + (rg rs k).length := by rw [hfl, List.length_append]
          obtain ⟨ak, hak⟩ : ∃ ak, A k = some ak := by
            rcases hpk with h | ⟨b', off', e, _⟩
            · have h' : (rg rs k).length = 0 := h
              omega
            · exact ⟨_, e⟩
          rw [hak] at hc1 hpk1
          have hk0 : (0 : Int) ≤ (k : Int) := by omega
          have hkn : (k : Int) < (rs.length : Int) := by omega
          have HF : Hid (cells2 (rs.take (k + 1)).flatten = cells2 (rs.take k).flatten ++ cells2 (rg rs k) ∧ (rs.take (k + 1)).flatten.length = (rs.take k).flatten.length + (rg rs k).length) := ⟨by rw [hfl, cells2_append], hll⟩
          clear hfl hpk hc0
          go_wp2_with (at_builtin; refine wpList_append_own _ rfl _ _ 50 rfl w.heap.size 25 i0 _ 2 16 underSQ hi hz0 hz1 hz2 rfl (by decide) _ _ _ rfl hown ak (rg rs k).length (C k) (cells2 (rg rs k)) rfl (cells2_length _) (Pts.cells hpk1) (cells2_one _) (by unfold maxLen; omega) (by omega) hb.size ?_; intro v' w1 hown1 hgrow1 _)
          go_roundw
          case rel =>
            refine ⟨k + 1, by omega, by go_num, ?_, hb.grown hgrow1 hb.size (own_ge hown)⟩
            rw [HF.out.1, HF.out.2]; exact hown1
          case measure => simp [intOf]; omega
        · have : k = rs.length := by omega
          subst this
          rw [List.take_length] at hown
          go_wp2
          go_ret
          exact ⟨_, rfl, hown, hb⟩

set_option maxRecDepth 100000 in
set_option maxHeartbeats 1000000 in
theorem vertices_any (a : Option Addr) (cap : Nat) (A : Nat → Option Addr) (C : Nat → Nat) (rs : List (List IP)) (w : World) (hn : rs.length ≤ 1048576) (hp : RingsL w a A C rs) (h3 : ∀ k, k < rs.length → 0 < (rg rs k).length) (hpos : 0 < (verts rs).length) (hsz : (verts rs).length ≤ 1048576) :
    Calls Try.prog 73 #[.slice a rs.length cap] w fun e w' => ∃ a' c', e = .returned (.slice a' (verts rs).length c') ∧ Pts w' a' (verts rs).length (pt (verts rs)) ∧ Below w.heap.size w w' := by
  go_enter Try.func73, Try.ntmps73
  go_wp2_with (go_at_call 92; refine (concat_any _ _ _ _ _ _ hn hp h3 hpos hsz).mono ?_; rintro e w1 ⟨v, rfl, hown, hb1⟩; obtain ⟨a', c', rfl, hP⟩ := own_verts hown)
  go_ret
  exact ⟨a', c', rfl, hP, hb1⟩

set_option maxHeartbeats 1000000 in
theorem ringsAllowed_any (a : Option Addr) (cap : Nat) (rs : List (List IP)) (w : World) (hn : rs.length ≤ 1048576) :
    Calls Try.prog 85 #[.slice a rs.length cap] w fun e w' => e = .returned (.bool (bl (¬ Many rs))) ∧ w' = w := by
  by_cases h1 : (1 : Int) ≤ (rs.length : Int)
  · by_cases h2 : (rs.length : Int) ≤ 8
    · have HM : Hid (bl (¬ Many rs) = true) := bl_true (by unfold Many; omega)
      go_enter Try.func85, Try.ntmps85
      go_wp2
      go_ret
      exact ⟨retb HM.out, rfl⟩
    · have HM : Hid (bl (¬ Many rs) = false) := bl_false (fun h => h (by unfold Many; omega))
      go_enter Try.func85, Try.ntmps85
      go_wp2
      go_ret
      exact ⟨retb HM.out, rfl⟩
  · have HM : Hid (bl (¬ Many rs) = false) := bl_false (fun h => h (by unfold Many; omega))
    go_enter Try.func85, Try.ntmps85
    go_wp2
    go_ret
    exact ⟨retb HM.out, rfl⟩

set_option maxRecDepth 100000 in
set_option maxHeartbeats 1000000 in
theorem noneShort_any (a : Option Addr) (cap : Nat) (A : Nat → Option Addr) (C : Nat → Nat) (rs : List (List IP)) (w : World) (hn : rs.length ≤ 1048576) (hsz : (verts rs).length ≤ 1048576) (hp : RingsL w a A C rs) :
    Calls Try.prog 86 #[.slice a rs.length cap] w fun e w' => e = .returned (.bool (bl (¬ Short rs))) ∧ w' = w := by
  go_enter Try.func86, Try.ntmps86
  go_wp2
  go_loopw [4, 7] (fun _ i wr => ∃ k : Nat, k ≤ rs.length ∧ i = .int .i64 k ∧ (∀ j, j < k → 3 ≤ (rg rs j).length) ∧ w = wr) (fun _ i _ => rs.length - (intOf i).toNat)
  case atStart => exact ⟨0, Nat.zero_le _, rfl, fun j h => absurd h (by omega), rfl⟩
  case round =>
    obtain ⟨k, hk, rfl, hall, rfl⟩ := hrel
    by_cases hlt : k < rs.length
    · rcases hp with h0 | ⟨b, of, rfl, hcell⟩
      · omega
      obtain ⟨hc0, hpk⟩ := hcell k hlt
      have hle := rg_le rs k
      have HA : Hid (∀ j, j < k → 3 ≤ (rg rs j).length) := hall
      have HC : Hid (∀ j, j < k + 1 → j < k ∨ j = k) := fun j h => by omega
      clear hall hcell hpk
      have hk0 : (0 : Int) ≤ (k : Int) := by omega
      have hkn : (k : Int) < (rs.length : Int) := by omega
      by_cases hs : (rg rs k).length < 3
      · have HS : Hid (bl (¬ Short rs) = false) := bl_false (fun h => h (short_at hlt hs))
        go_wp2
        go_ret
        exact ⟨retb HS.out, rfl⟩
      · go_wp2
        go_roundw
        case rel =>
          refine ⟨k + 1, by omega, by go_num, fun j hj => ?_, by first | rfl | trivial⟩
          rcases HC.out j hj with h | h
          · exact HA.out j h
          · rw [h]; omega
        case measure => simp [intOf]; omega
    · have : k = rs.length := by omega
      subst this
      have HS : Hid (bl (¬ Short rs) = true) := bl_true (not_short hall)
      clear hall
      go_wp2
      go_ret
      exact ⟨retb HS.out, rfl⟩
end Go.Proofs.Ytdkaoopkbhaheaa
