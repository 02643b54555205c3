import Derived.Test.YtdkaoopkbhaheaaQF6
import Derived.Test.YtdkaoopkbhaheaaQF3
namespace Go.Proofs.Ytdkaoopkbhaheaa
open Go.RowKit Go.Lib
open Jor
open scoped Classical
set_option linter.unusedVariables false
set_option linter.unusedSimpArgs false
theorem ring_cells {w : World} {b of : Nat} {A : Nat → Option Addr} {C : Nat → Nat} {rs : List (List IP)} (hp : RingsL w (some ⟨b, of, none⟩) A C rs) {k : Nat} (hk : k < rs.length) (hl : 0 < (rg rs k).length) :
    ∃ bk ok, w.cell? ⟨b, of + k, none⟩ = some (.slice (some ⟨bk, ok, none⟩) (rg rs k).length (C k)) ∧ ∀ i, i < (rg rs k).length → w.cell? ⟨bk, ok + i * 2, none⟩ = some (.int .i64 (pt (rg rs k) i).1) ∧ w.cell? ⟨bk, ok + i * 2 + 1, none⟩ = some (.int .i64 (pt (rg rs k) i).2) := by
  rcases hp with h0 | ⟨b', of', e, hcell⟩
  · omega
  · cases e
    obtain ⟨hc, hP⟩ := hcell k hk
    rcases hP with h | ⟨bk, ok, e, hh⟩
    · have h' : (rg rs k).length = 0 := h
      omega
    · refine ⟨bk, ok, ?_, hh⟩
      have : w.cell? ⟨b, of + k, none⟩ = some (.slice (A k) (rg rs k).length (C k)) := hc
      rw [this, e]
set_option maxRecDepth 100000 in
set_option maxHeartbeats 2000000 in
theorem parea_any (b of cap : Nat) (A : Nat → Option Addr) (C : Nat → Nat) (rs : List (List IP)) (w : World) (hcap : rs.length ≤ cap) (hcm : cap ≤ 9223372036854775807) (hn : rs.length ≤ 8) (hm : 1 ≤ rs.length) (h3 : ∀ k, k < rs.length → 3 ≤ (rg rs k).length) (hsz : (verts rs).length ≤ 1048576) (hp : RingsL w (some ⟨b, of, none⟩) A C rs) :
    Calls Try.prog 49 #[.slice (some ⟨b, of, none⟩) rs.length cap] w fun e w' => e = .returned (.int .i64 (psum rs rs.length)) ∧ Below w.heap.size w w' := by
  have H3 : Hid (∀ k, k < rs.length → 3 ≤ (rg rs k).length) := h3
  have RL : Hid (∀ k, (rg rs k).length ≤ 1048576) := fun k => by have := rg_le rs k; omega
  have P1 : Hid (psum rs 1 = pabs (lsum (rg rs 0) (rg rs 0).length)) := rfl
  have PS : Hid (∀ k, psum rs (k + 2) = wrap64 (psum rs (k + 1) - pabs (lsum (rg rs (k + 1)) (rg rs (k + 1)).length))) := fun k => by
    show psum rs (k + 1 + 1) = _
    rw [psum, if_neg (by omega)]
  clear h3
  obtain ⟨b0, o0, q0, hps0⟩ := ring_cells hp (show 0 < rs.length by omega) (by have := H3.out 0 (by omega); omega)
  have q0' : w.cell? ⟨b, of, none⟩ = some (.slice (some ⟨b0, o0, none⟩) (rg rs 0).length (C 0)) := q0
  have hn0 : (0 : Int) < (rs.length : Int) := by omega
  have hRA : Hid (Calls Try.prog 71 #[.slice (some ⟨b0, o0, none⟩) (rg rs 0).length (C 0)] w fun e w' => e = .returned (.int .i64 (pabs (lsum (rg rs 0) (rg rs 0).length))) ∧ Below w.heap.size w w') := ringArea_any _ _ _ _ _ (RL.out 0) (by have := H3.out 0 (by omega); omega) hps0
  clear hps0 q0
  by_cases h1 : rs.length = 1
  · rw [h1] at hcap ⊢
    rw [P1.out]
    generalize pabs (lsum (rg rs 0) (rg rs 0).length) = a0 at *
    have hc1 : (1 : Int) ≤ (cap : Int) := by omega
    go_enter Try.func49, Try.ntmps49
    go_wp2_with (go_at_call 71; refine Calls.mono hRA.out ?_; rintro e w1 ⟨rfl, hb1⟩)
    all_goals
      refine wp_loop_rounds 1 ?_
      rw [rounds_succ]
      go_wp2
      go_ret
      exact ⟨rfl, hb1⟩
  · have HP : Hid (RingsL w (some ⟨b, of, none⟩) A C rs) := hp
    clear hp
    obtain ⟨m, hm'⟩ : ∃ m, rs.length = m + 1 := ⟨rs.length - 1, by omega⟩
    have HM : Hid (rs.length = m + 1) := hm'
    have hm1 : 1 ≤ m := by omega
    rw [hm'] at hcap hn hn0 ⊢
    clear hm' hm h1
    have hc1 : (1 : Int) ≤ (cap : Int) := by omega
    have hc2 : ¬ cap = 1 := by omega
    have hc3 : ¬ cap - 1 = 0 := by omega
    go_enter Try.func49, Try.ntmps49
    go_wp2_with (go_at_call 71; refine Calls.mono hRA.out ?_; rintro e w1 ⟨rfl, hb1⟩)
    go_loopw [3, 5, 13] (fun s _ i wr => ∃ k : Nat, k ≤ m ∧ i = .int .i64 k ∧ s = .int .i64 (psum rs (k + 1)) ∧ Below w.heap.size w wr) (fun _ _ i _ => m - (intOf i).toNat)
    case atStart => exact ⟨0, Nat.zero_le _, rfl, by rw [P1.out], hb1⟩
    case round =>
      clear hb1
      obtain ⟨k, hk, rfl, rfl, hb⟩ := hrel
      by_cases hlt : k < m
      · obtain ⟨bk, ok, qk, hps⟩ := ring_cells HP.out (show k + 1 < rs.length by have := HM.out; omega) (by have := H3.out (k + 1) (by have := HM.out; omega); omega)
        have qk1 : wr.cell? ⟨b, of + 1 + k, none⟩ = some (.slice (some ⟨bk, ok, none⟩) (rg rs (k + 1)).length (C (k + 1))) := by
          rw [show of + 1 + k = of + (k + 1) by omega]; exact cell_later hb qk
        have RA : Hid (Calls Try.prog 71 #[.slice (some ⟨bk, ok, none⟩) (rg rs (k + 1)).length (C (k + 1))] wr fun e w' => e = .returned (.int .i64 (pabs (lsum (rg rs (k + 1)) (rg rs (k + 1)).length))) ∧ Below wr.heap.size wr w') :=
          ringArea_any _ _ _ _ _ (RL.out (k + 1)) (by have := H3.out (k + 1) (by have := HM.out; omega); omega) (fun i hi => ⟨cell_later hb (hps i hi).1, cell_later hb (hps i hi).2⟩)
        have PK := PS.out k
        have HPK : Hid (psum rs (k + 2) = wrap64 (psum rs (k + 1) - pabs (lsum (rg rs (k + 1)) (rg rs (k + 1)).length))) := PK
        clear hps qk PK
        have hk0 : (0 : Int) ≤ (k : Int) := by omega
        have hkn : (k : Int) < (m : Int) := by omega
        generalize pabs (lsum (rg rs (k + 1)) (rg rs (k + 1)).length) = ak at *
        go_wp2_with (go_at_call 71; refine Calls.mono RA.out ?_; rintro e w2 ⟨rfl, hb2⟩)
        go_roundw
        case rel => exact ⟨k + 1, by omega, by go_num, by rw [show k + 1 + 1 = k + 2 from rfl, HPK.out], below_then hb hb2⟩
        case measure => simp [intOf]; omega
      · have : k = m := by omega
        subst this
        go_wp2
        go_ret
        exact ⟨rfl, hb⟩
set_option maxRecDepth 100000 in
set_option maxHeartbeats 2000000 in
theorem noneOutside_any (b of cap : Nat) (A : Nat → Option Addr) (C : Nat → Nat) (rs : List (List IP)) (w : World) (hcap : rs.length ≤ cap) (hcm : cap ≤ 9223372036854775807) (hn : rs.length ≤ 8) (hm : 1 ≤ rs.length) (h3 : ∀ k, k < rs.length → 3 ≤ (rg rs k).length) (hsz : (verts rs).length ≤ 1048576) (hp : RingsL w (some ⟨b, of, none⟩) A C rs) :
    Calls Try.prog 90 #[.slice (some ⟨b, of, none⟩) rs.length cap] w fun e w' => e = .returned (.bool (bl (¬ OutP rs))) ∧ Below w.heap.size w w' := by
  have H3 : Hid (∀ k, k < rs.length → 3 ≤ (rg rs k).length) := h3
  have RL : Hid (∀ k, (rg rs k).length ≤ 1048576) := fun k => by have := rg_le rs k; omega
  have NO : Hid ((∀ k, k + 1 < rs.length → withinP (pt (rg rs (k + 1)) 0) (rg rs 0) = true) → bl (¬ OutP rs) = true) := fun h => bl_true (by
    rintro ⟨k, h1, h2, h4⟩
    obtain ⟨k, rfl⟩ : ∃ k', k = k' + 1 := ⟨k - 1, by omega⟩
    rw [h k h2] at h4; cases h4)
  clear h3
  by_cases h1 : rs.length = 1
  · have HR : Hid (bl (¬ OutP rs) = true) := NO.out (fun k hk => by omega)
    rw [h1] at hcap ⊢
    have hc1 : (1 : Int) ≤ (cap : Int) := by omega
    go_enter Try.func90, Try.ntmps90
    go_wp2
    all_goals
      refine wp_loop_rounds 1 ?_
      rw [rounds_succ]
      go_wp2
      go_ret
      exact ⟨retb HR.out, Below.refl _ _⟩
  · have HP : Hid (RingsL w (some ⟨b, of, none⟩) A C rs) := hp
    clear hp
    obtain ⟨m, hm'⟩ : ∃ m, rs.length = m + 1 := ⟨rs.length - 1, by omega⟩
    have HM : Hid (rs.length = m + 1) := hm'
    have hm1 : 1 ≤ m := by omega
    have hn0 : (0 : Int) < (rs.length : Int) := by omega
    obtain ⟨b0, o0, q0, hps0⟩ := ring_cells HP.out (show 0 < rs.length by omega) (by have := H3.out 0 (by omega); omega)
    have q0' : w.cell? ⟨b, of, none⟩ = some (.slice (some ⟨b0, o0, none⟩) (rg rs 0).length (C 0)) := q0
    have HP0 : Hid (∀ i, i < (rg rs 0).length → w.cell? ⟨b0, o0 + i * 2, none⟩ = some (.int .i64 (pt (rg rs 0) i).1) ∧ w.cell? ⟨b0, o0 + i * 2 + 1, none⟩ = some (.int .i64 (pt (rg rs 0) i).2)) := hps0
    have hl00 : 0 < (rg rs 0).length := by have := H3.out 0 (by omega); omega
    clear hps0 q0
    rw [hm'] at hcap hn hn0 ⊢
    clear hm' hm h1
    have hc1 : (1 : Int) ≤ (cap : Int) := by omega
    have hc2 : ¬ cap = 1 := by omega
    have hc3 : ¬ cap - 1 = 0 := by omega
    go_enter Try.func90, Try.ntmps90
    go_wp2
    go_loopw [4, 8] (fun _ i wr => ∃ k : Nat, k ≤ m ∧ i = .int .i64 k ∧ (∀ k', k' < k → withinP (pt (rg rs (k' + 1)) 0) (rg rs 0) = true) ∧ Below w.heap.size w wr) (fun _ i _ => m - (intOf i).toNat)
    case atStart => exact ⟨0, Nat.zero_le _, rfl, fun k h => absurd h (by omega), Below.refl _ _⟩
    case round =>
      obtain ⟨k, hk, rfl, hall, hb⟩ := hrel
      have HA : Hid (∀ k', k' < k → withinP (pt (rg rs (k' + 1)) 0) (rg rs 0) = true) := hall
      clear hall
      by_cases hlt : k < m
      · have hk2 : k + 1 < rs.length := by have := HM.out; omega
        have l3 := H3.out (k + 1) hk2
        obtain ⟨bk, ok, qk, hps⟩ := ring_cells HP.out hk2 (by omega)
        have qk1 : wr.cell? ⟨b, of + 1 + k, none⟩ = some (.slice (some ⟨bk, ok, none⟩) (rg rs (k + 1)).length (C (k + 1))) := by
          rw [show of + 1 + k = of + (k + 1) by omega]; exact cell_later hb qk
        have q1 := cell_later hb (hps 0 (by omega)).1
        have q2 := cell_later hb (hps 0 (by omega)).2
        rw [Nat.zero_mul, Nat.add_zero] at q1 q2
        have q3 := cell_later hb q0'
        have WA : Hid (∀ x : World, Below wr.heap.size wr x → Calls Try.prog 103 #[.agg #[.int .i64 (pt (rg rs (k + 1)) 0).1, .int .i64 (pt (rg rs (k + 1)) 0).2], .slice (some ⟨b0, o0, none⟩) (rg rs 0).length (C 0)] x fun e w' => e = .returned (.bool (withinP (pt (rg rs (k + 1)) 0) (rg rs 0))) ∧ Below x.heap.size x w') := fun x hx =>
          withinP_any _ _ _ _ _ _ (RL.out 0) hl00 (fun i hi => ⟨cell_later hx (cell_later hb (HP0.out i hi).1), cell_later hx (cell_later hb (HP0.out i hi).2)⟩)
        have FA : Hid (withinP (pt (rg rs (k + 1)) 0) (rg rs 0) = false → bl (¬ OutP rs) = false) := fun h => bl_false (fun h' => h' ⟨k + 1, by omega, hk2, h⟩)
        have HB' : Hid (∀ k', k' < k + 1 → k' < k ∨ k' = k) := fun k' h => by omega
        clear hps qk
        have hk0 : (0 : Int) ≤ (k : Int) := by omega
        have hkn : (k : Int) < (m : Int) := by omega
        generalize (rg rs (k + 1)).length = lk at *
        have hlk : (0 : Int) < (lk : Int) := by omega
        have hlk1 : ¬ lk = 0 := by omega
        generalize hW : withinP (pt (rg rs (k + 1)) 0) (rg rs 0) = wb at *
        have HW : Hid (withinP (pt (rg rs (k + 1)) 0) (rg rs 0) = wb) := hW
        clear hW
        generalize (pt (rg rs (k + 1)) 0).1 = px at *
        generalize (pt (rg rs (k + 1)) 0).2 = py at *
        go_wp2_with fail
        refine wp_region_cls (R := Below wr.heap.size wr) (by kernel_rfl) (by kernel_rfl) (Below.refl _ _).drew ?_
        have inst : Nonempty (Cls (Below wr.heap.size wr)) := ⟨⟨wr, Below.refl _ _⟩⟩
        have g1 := fun x => Cls.cell (W := wr) x q1
        have g2 := fun x => Cls.cell (W := wr) x q2
        have g3 := fun x => Cls.cell (W := wr) x q3
        repeat (first | go_big_quiet_step ((go_at_call 103; exact Cls.calls _ (WA.out _ (Cls.ok _)))) | quiet_step ((go_at_call 103; exact Cls.calls _ (WA.out _ (Cls.ok _)))))
        refine wpQuiet_nil ?_
        intro w4 hw'
        obtain ⟨x, hx⟩ := hw'
        have hb4 := x.ok
        rw [← hx] at hb4
        clear hx x g1 g2 g3 inst q1 q2 q3 qk1
        have hb5 := below_then hb hb4
        cases wb
        · have HR : Hid (bl (¬ OutP rs) = false) := FA.out rfl
          go_wp2
          go_ret
          exact ⟨retb HR.out, hb5⟩
        · go_wp2
          go_roundw
          case rel =>
            refine ⟨k + 1, by omega, by go_num, fun k' hk' => ?_, hb5⟩
            rcases HB'.out k' hk' with h | h
            · exact HA.out k' h
            · rw [h]; exact HW.out
          case measure => simp [intOf]; omega
      · have : k = m := by omega
        subst this
        have HR : Hid (bl (¬ OutP rs) = true) := NO.out (fun k' hk' => HA.out k' (by have := HM.out; omega))
        go_wp2
        go_ret
        exact ⟨retb HR.out, hb⟩
end Go.Proofs.Ytdkaoopkbhaheaa
namespace Go.Proofs.Ytdkaoopkbhaheaa
open Go.RowKit Go.Lib
open Jor
open scoped Classical
set_option linter.unusedVariables false
set_option linter.unusedSimpArgs false
set_option maxRecDepth 100000 in
set_option maxHeartbeats 4000000 in
theorem noneNested_any (b of cap : Nat) (A : Nat → Option Addr) (C : Nat → Nat) (rs : List (List IP)) (w : World) (hcap : rs.length ≤ cap) (hcm : cap ≤ 9223372036854775807) (hn : rs.length ≤ 8) (hm : 1 ≤ rs.length) (h3 : ∀ k, k < rs.length → 3 ≤ (rg rs k).length) (hsz : (verts rs).length ≤ 1048576) (hp : RingsL w (some ⟨b, of, none⟩) A C rs) :
    Calls Try.prog 91 #[.slice (some ⟨b, of, none⟩) rs.length cap] w fun e w' => e = .returned (.bool (bl (¬ NestP rs))) ∧ Below w.heap.size w w' := by
  have H3 : Hid (∀ k, k < rs.length → 3 ≤ (rg rs k).length) := h3
  have RL : Hid (∀ k, (rg rs k).length ≤ 1048576) := fun k => by have := rg_le rs k; omega
  have NO : Hid ((∀ k j, k + 1 < rs.length → j + 1 < rs.length → k ≠ j → withinP (pt (rg rs (k + 1)) 0) (rg rs (j + 1)) = false) → bl (¬ NestP rs) = true) := fun h => bl_true (by
    rintro ⟨k, j, h1, h2, h4, h5, h6, h7⟩
    obtain ⟨k, rfl⟩ : ∃ k', k = k' + 1 := ⟨k - 1, by omega⟩
    obtain ⟨j, rfl⟩ : ∃ j', j = j' + 1 := ⟨j - 1, by omega⟩
    rw [h k j h2 h5 (by omega)] at h7; cases h7)
  clear h3
  by_cases h1 : rs.length = 1
  · have HR : Hid (bl (¬ NestP rs) = true) := NO.out (fun k j hk => by omega)
    rw [h1] at hcap ⊢
    have hc1 : (1 : Int) ≤ (cap : Int) := by omega
    go_enter Try.func91, Try.ntmps91
    go_wp2
    all_goals
      refine wp_loop_rounds 1 ?_
      rw [rounds_succ]
      go_wp2
      go_ret
      exact ⟨retb HR.out, Below.refl _ _⟩
  · have HP : Hid (RingsL w (some ⟨b, of, none⟩) A C rs) := hp
    clear hp
    obtain ⟨m, hm'⟩ : ∃ m, rs.length = m + 1 := ⟨rs.length - 1, by omega⟩
    have HM : Hid (rs.length = m + 1) := hm'
    have hm1 : 1 ≤ m := by omega
    rw [hm'] at hcap hn ⊢
    clear hm' hm h1
    have hc1 : (1 : Int) ≤ (cap : Int) := by omega
    have hc2 : ¬ cap = 1 := by omega
    have hc3 : ¬ cap - 1 = 0 := by omega
    go_enter Try.func91, Try.ntmps91
    go_wp2
    go_loopw [4, 5, 6, 7, 12] (fun _ _ _ _ i wr => ∃ k : Nat, k ≤ m ∧ i = .int .i64 k ∧ (∀ k' j, k' < k → j < m → k' ≠ j → withinP (pt (rg rs (k' + 1)) 0) (rg rs (j + 1)) = false) ∧ Below w.heap.size w wr) (fun _ _ _ _ i _ => m - (intOf i).toNat)
    case atStart => exact ⟨0, Nat.zero_le _, rfl, fun k j h => absurd h (by omega), Below.refl _ _⟩
    case round =>
      obtain ⟨k, hk, rfl, hall, hb⟩ := hrel
      have HA : Hid (∀ k' j, k' < k → j < m → k' ≠ j → withinP (pt (rg rs (k' + 1)) 0) (rg rs (j + 1)) = false) := hall
      clear hall
      by_cases hlt : k < m
      · have hk2 : k + 1 < rs.length := by have := HM.out; omega
        have l3 := H3.out (k + 1) hk2
        obtain ⟨bk, ok, qk, hps⟩ := ring_cells HP.out hk2 (by omega)
        have qk1 : wr.cell? ⟨b, of + 1 + k, none⟩ = some (.slice (some ⟨bk, ok, none⟩) (rg rs (k + 1)).length (C (k + 1))) := by
          rw [show of + 1 + k = of + (k + 1) by omega]; exact cell_later hb qk
        have p1 := (hps 0 (by omega)).1
        have p2 := (hps 0 (by omega)).2
        rw [Nat.zero_mul, Nat.add_zero] at p1 p2
        clear hps qk
        have hk0 : (0 : Int) ≤ (k : Int) := by omega
        have hkn : (k : Int) < (m : Int) := by omega
        have WK : Hid (∀ j, withinP (pt (rg rs (k + 1)) 0) (rg rs (j + 1)) = withinP ((pt (rg rs (k + 1)) 0).1, (pt (rg rs (k + 1)) 0).2) (rg rs (j + 1))) := fun j => rfl
        have hlk : (0 : Int) < ((rg rs (k + 1)).length : Int) := by omega
        have hlk1 : ¬ (rg rs (k + 1)).length = 0 := by omega
        generalize hxp : (pt (rg rs (k + 1)) 0).1 = px at *
        generalize hyp : (pt (rg rs (k + 1)) 0).2 = py at *
        clear hxp hyp
        generalize (rg rs (k + 1)).length = lk at *
        go_wp2
        go_loopw [6, 7, 19] (fun _ _ i wq => ∃ j : Nat, j ≤ m ∧ i = .int .i64 j ∧ (∀ j', j' < j → k ≠ j' → withinP (pt (rg rs (k + 1)) 0) (rg rs (j' + 1)) = false) ∧ Below w.heap.size w wq) (fun _ _ i _ => m - (intOf i).toNat)
        case atStart => exact ⟨0, Nat.zero_le _, rfl, fun j h => absurd h (by omega), hb⟩
        case round =>
          clear hb qk1
          obtain ⟨j, hj, rfl, hall, hb⟩ := hrel
          have HB : Hid (∀ j', j' < j → k ≠ j' → withinP (pt (rg rs (k + 1)) 0) (rg rs (j' + 1)) = false) := hall
          clear hall
          by_cases hjl : j < m
          · have hj2 : j + 1 < rs.length := by have := HM.out; omega
            have l4 := H3.out (j + 1) hj2
            obtain ⟨bj, oj, qj, hpj⟩ := ring_cells HP.out hj2 (by omega)
            have qj1 : wr.cell? ⟨b, of + 1 + j, none⟩ = some (.slice (some ⟨bj, oj, none⟩) (rg rs (j + 1)).length (C (j + 1))) := by
              rw [show of + 1 + j = of + (j + 1) by omega]; exact cell_later hb qj
            have q1 := cell_later hb p1
            have q2 := cell_later hb p2
            have WA : Hid (Calls Try.prog 103 #[.agg #[.int .i64 px, .int .i64 py], .slice (some ⟨bj, oj, none⟩) (rg rs (j + 1)).length (C (j + 1))] wr fun e w' => e = .returned (.bool (withinP (px, py) (rg rs (j + 1)))) ∧ Below wr.heap.size wr w') :=
              withinP_any (px, py) _ _ _ _ _ (RL.out (j + 1)) (by omega) (fun i hi => ⟨cell_later hb (hpj i hi).1, cell_later hb (hpj i hi).2⟩)
            have WJ := WK.out j
            have FA : Hid (k ≠ j → withinP (pt (rg rs (k + 1)) 0) (rg rs (j + 1)) = true → bl (¬ NestP rs) = false) := fun hne h => bl_false (fun h' => h' ⟨k + 1, j + 1, by omega, hk2, by omega, hj2, by omega, h⟩)
            have HB' : Hid (∀ j', j' < j + 1 → j' < j ∨ j' = j) := fun j' h => by omega
            clear hpj qj
            generalize withinP (px, py) (rg rs (j + 1)) = wb at *
            have HWJ : Hid (withinP (pt (rg rs (k + 1)) 0) (rg rs (j + 1)) = wb) := WJ
            clear WJ
            have hj0 : (0 : Int) ≤ (j : Int) := by omega
            have hjn : (j : Int) < (m : Int) := by omega
            by_cases hkj : k = j
            · subst hkj
              go_wp2_with fail
              go_roundw
              case rel =>
                refine ⟨k + 1, by omega, by go_num, fun j' hj' hne => ?_, hb⟩
                rcases HB'.out j' hj' with h | h
                · exact HB.out j' h hne
                · exact absurd h.symm hne
              case measure => simp [intOf]; omega
            · have hne3 : ((k : Int) != (j : Int)) = true := by rw [bne_iff_ne]; omega
              have hne2 : ¬ (k : Int) = (j : Int) := by omega
              have hne1 : ((k : Int) == (j : Int)) = false := by rw [beq_eq_false_iff_ne]; omega
              cases wb
              · go_wp2_with (go_at_call 103; refine Calls.mono WA.out ?_; rintro e w2 ⟨rfl, hb2⟩)
                go_roundw
                case rel =>
                  refine ⟨j + 1, by omega, by go_num, fun j' hj' hne => ?_, below_then hb hb2⟩
                  rcases HB'.out j' hj' with h | h
                  · exact HB.out j' h hne
                  · rw [h]; exact HWJ.out
                case measure => simp [intOf]; omega
              · have HR : Hid (bl (¬ NestP rs) = false) := FA.out hkj HWJ.out
                go_wp2_with (go_at_call 103; refine Calls.mono WA.out ?_; rintro e w2 ⟨rfl, hb2⟩)
                go_ret
                exact ⟨retb HR.out, below_then hb hb2⟩
          · have : j = m := by omega
            subst this
            go_wp2
            go_roundw
            case rel =>
              refine ⟨k + 1, by omega, by go_num, fun k' j' h1 h2 h4 => ?_, hb⟩
              rcases Nat.lt_or_ge k' k with h | h
              · exact HA.out k' j' h h2 h4
              · have e : k' = k := by omega
                subst e
                exact HB.out j' h2 h4
            case measure => simp [intOf]; omega
      · have : k = m := by omega
        subst this
        have HR : Hid (bl (¬ NestP rs) = true) := NO.out (fun k' j' h1 h2 h4 => HA.out k' j' (by have := HM.out; omega) (by have := HM.out; omega) h4)
        go_wp2
        go_ret
        exact ⟨retb HR.out, hb⟩
end Go.Proofs.Ytdkaoopkbhaheaa
