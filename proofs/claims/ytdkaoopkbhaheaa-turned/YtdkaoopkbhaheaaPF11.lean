import Derived.Test.YtdkaoopkbhaheaaPF7
import Derived.Test.YtdkaoopkbhaheaaPF9
import Derived.Laws.EntriesVeiled
namespace Go.Proofs.Ytdkaoopkbhaheaa
open Go.RowKit Go.Lib
open Jor
open scoped Classical
set_option linter.unusedVariables false
set_option linter.unusedSimpArgs false
def TestAt (w : World) (T o : Nat) (fault : Int) (f : Nat) : Prop := ∃ s, w.cell? ⟨T, o, none⟩ = some (.string s) ∧ w.cell? ⟨T, o + 1, none⟩ = some (.int .i64 fault) ∧ w.cell? ⟨T, o + 2, none⟩ = some (.func (.func f) #[] #[])
theorem TestAt.later {w w' : World} {T o : Nat} {fault : Int} {f : Nat} (h : TestAt w T o fault f) (hb : Below w.heap.size w w') : TestAt w' T o fault f := by
  obtain ⟨s, h1, h2, h3⟩ := h
  exact ⟨s, cell_later hb h1, cell_later hb h2, cell_later hb h3⟩
theorem testAt_of {w : World} {T o : Nat} {cs : Array Value} {t : TypeId} {fz : Nat × Nat} {fault : Int} {f : Nat} {s : ByteArray} (hb : w.heap[T]? = some (.cells cs t fz)) (h0 : cs[o]? = some (.string s)) (h1 : cs[o + 1]? = some (.int .i64 fault)) (h2 : cs[o + 2]? = some (.func (.func f) #[] #[])) : TestAt w T o fault f :=
  ⟨s, (cell_of_row w T o cs t fz hb).trans h0, (cell_of_row w T (o + 1) cs t fz hb).trans h1, (cell_of_row w T (o + 2) cs t fz hb).trans h2⟩
def Table (w : World) (T : Nat) : Prop := TestAt w T 0 1 85 ∧ TestAt w T 3 2 86 ∧ TestAt w T 6 3 87 ∧ TestAt w T 9 4 88 ∧ TestAt w T 12 5 89 ∧ TestAt w T 15 6 90 ∧ TestAt w T 18 7 91
theorem table_of {w : World} {T : Nat} {cs : Array Value} {t : TypeId} {fz : Nat × Nat} {s0 s1 s2 s3 s4 s5 s6 : ByteArray} (hb : w.heap[T]? = some (.cells cs t fz)) (t0 : cs[0]? = some (.string s0) ∧ cs[0 + 1]? = some (.int .i64 1) ∧ cs[0 + 2]? = some (.func (.func 85) #[] #[])) (t1 : cs[3]? = some (.string s1) ∧ cs[3 + 1]? = some (.int .i64 2) ∧ cs[3 + 2]? = some (.func (.func 86) #[] #[])) (t2 : cs[6]? = some (.string s2) ∧ cs[6 + 1]? = some (.int .i64 3) ∧ cs[6 + 2]? = some (.func (.func 87) #[] #[])) (t3 : cs[9]? = some (.string s3) ∧ cs[9 + 1]? = some (.int .i64 4) ∧ cs[9 + 2]? = some (.func (.func 88) #[] #[])) (t4 : cs[12]? = some (.string s4) ∧ cs[12 + 1]? = some (.int .i64 5) ∧ cs[12 + 2]? = some (.func (.func 89) #[] #[])) (t5 : cs[15]? = some (.string s5) ∧ cs[15 + 1]? = some (.int .i64 6) ∧ cs[15 + 2]? = some (.func (.func 90) #[] #[])) (t6 : cs[18]? = some (.string s6) ∧ cs[18 + 1]? = some (.int .i64 7) ∧ cs[18 + 2]? = some (.func (.func 91) #[] #[])) : Table w T :=
  ⟨testAt_of hb t0.1 t0.2.1 t0.2.2, testAt_of hb t1.1 t1.2.1 t1.2.2, testAt_of hb t2.1 t2.2.1 t2.2.2, testAt_of hb t3.1 t3.2.1 t3.2.2, testAt_of hb t4.1 t4.2.1 t4.2.2, testAt_of hb t5.1 t5.2.1 t5.2.2, testAt_of hb t6.1 t6.2.1 t6.2.2⟩
set_option maxRecDepth 100000 in
set_option maxHeartbeats 2000000 in
theorem tests_any (w : World) : Calls Try.prog 72 #[] w fun e w' => e = .returned (.slice (some ⟨w.heap.size, 0, none⟩) 7 7) ∧ Table w' w.heap.size ∧ Below w.heap.size w w' := by
  go_enter Try.func72, Try.ntmps72
  go_wp2
  go_ret
  exact ⟨rfl, table_of (heap_alloc_new w _) ⟨rfl, rfl, rfl⟩ ⟨rfl, rfl, rfl⟩ ⟨rfl, rfl, rfl⟩ ⟨rfl, rfl, rfl⟩ ⟨rfl, rfl, rfl⟩ ⟨rfl, rfl, rfl⟩ ⟨rfl, rfl, rfl⟩, (Below.refl _ _).alloc (Nat.le_refl _) _⟩
theorem chkP1 {rs : List (List IP)}  (h : Many rs) : chkP rs = 1 := by unfold chkP first7; rw [if_pos h]
theorem chkP2 {rs : List (List IP)} (g1 : ¬ Many rs) (h : Short rs) : chkP rs = 2 := by unfold chkP first7; rw [if_neg g1, if_pos h]
theorem chkP3 {rs : List (List IP)} (g1 : ¬ Many rs) (g2 : ¬ Short rs) (h : Far rs) : chkP rs = 3 := by unfold chkP first7; rw [if_neg g1, if_neg g2, if_pos h]
theorem chkP4 {rs : List (List IP)} (g1 : ¬ Many rs) (g2 : ¬ Short rs) (g3 : ¬ Far rs) (h : Twice rs) : chkP rs = 4 := by unfold chkP first7; rw [if_neg g1, if_neg g2, if_neg g3, if_pos h]
theorem chkP5 {rs : List (List IP)} (g1 : ¬ Many rs) (g2 : ¬ Short rs) (g3 : ¬ Far rs) (g4 : ¬ Twice rs) (h : TouchP rs) : chkP rs = 5 := by unfold chkP first7; rw [if_neg g1, if_neg g2, if_neg g3, if_neg g4, if_pos h]
theorem chkP6 {rs : List (List IP)} (g1 : ¬ Many rs) (g2 : ¬ Short rs) (g3 : ¬ Far rs) (g4 : ¬ Twice rs) (g5 : ¬ TouchP rs) (h : OutP rs) : chkP rs = 6 := by unfold chkP first7; rw [if_neg g1, if_neg g2, if_neg g3, if_neg g4, if_neg g5, if_pos h]
theorem chkP7 {rs : List (List IP)} (g1 : ¬ Many rs) (g2 : ¬ Short rs) (g3 : ¬ Far rs) (g4 : ¬ Twice rs) (g5 : ¬ TouchP rs) (g6 : ¬ OutP rs) (h : NestP rs) : chkP rs = 7 := by unfold chkP first7; rw [if_neg g1, if_neg g2, if_neg g3, if_neg g4, if_neg g5, if_neg g6, if_pos h]
theorem chkP0 {rs : List (List IP)} (g1 : ¬ Many rs) (g2 : ¬ Short rs) (g3 : ¬ Far rs) (g4 : ¬ Twice rs) (g5 : ¬ TouchP rs) (g6 : ¬ OutP rs) (g7 : ¬ NestP rs) : chkP rs = 0 := by unfold chkP first7; rw [if_neg g1, if_neg g2, if_neg g3, if_neg g4, if_neg g5, if_neg g6, if_neg g7]
def Passed (rs : List (List IP)) (k : Nat) : Prop := (1 ≤ k → ¬ Many rs) ∧ (2 ≤ k → ¬ Short rs) ∧ (3 ≤ k → ¬ Far rs) ∧ (4 ≤ k → ¬ Twice rs) ∧ (5 ≤ k → ¬ TouchP rs) ∧ (6 ≤ k → ¬ OutP rs) ∧ (7 ≤ k → ¬ NestP rs)
structure Called (b of cap : Nat) (rs : List (List IP)) (w : World) : Prop where
  c0 : ∀ W, Below w.heap.size w W → Calls Try.prog 85 #[.slice (some ⟨b, of, none⟩) rs.length cap] W fun e w' => e = .returned (.bool (bl (¬ Many rs))) ∧ Below W.heap.size W w'
  c1 : ¬ Many rs → ∀ W, Below w.heap.size w W → Calls Try.prog 86 #[.slice (some ⟨b, of, none⟩) rs.length cap] W fun e w' => e = .returned (.bool (bl (¬ Short rs))) ∧ Below W.heap.size W w'
  c2 : ¬ Many rs → ¬ Short rs → ∀ W, Below w.heap.size w W → Calls Try.prog 87 #[.slice (some ⟨b, of, none⟩) rs.length cap] W fun e w' => e = .returned (.bool (bl (¬ Far rs))) ∧ Below W.heap.size W w'
  c3 : ¬ Many rs → ¬ Short rs → ¬ Far rs → ∀ W, Below w.heap.size w W → Calls Try.prog 88 #[.slice (some ⟨b, of, none⟩) rs.length cap] W fun e w' => e = .returned (.bool (bl (¬ Twice rs))) ∧ Below W.heap.size W w'
  c4 : ¬ Many rs → ¬ Short rs → ¬ Far rs → ¬ Twice rs → ∀ W, Below w.heap.size w W → Calls Try.prog 89 #[.slice (some ⟨b, of, none⟩) rs.length cap] W fun e w' => e = .returned (.bool (bl (¬ TouchP rs))) ∧ Below W.heap.size W w'
  c5 : ¬ Many rs → ¬ Short rs → ¬ Far rs → ¬ Twice rs → ∀ W, Below w.heap.size w W → Calls Try.prog 90 #[.slice (some ⟨b, of, none⟩) rs.length cap] W fun e w' => e = .returned (.bool (bl (¬ OutP rs))) ∧ Below W.heap.size W w'
  c6 : ¬ Many rs → ¬ Short rs → ¬ Far rs → ¬ Twice rs → ∀ W, Below w.heap.size w W → Calls Try.prog 91 #[.slice (some ⟨b, of, none⟩) rs.length cap] W fun e w' => e = .returned (.bool (bl (¬ NestP rs))) ∧ Below W.heap.size W w'
theorem fine_of {rs : List (List IP)} (g1 : ¬ Many rs) (g2 : ¬ Short rs) : 1 ≤ rs.length ∧ rs.length ≤ 8 ∧ ∀ k, k < rs.length → 3 ≤ (rg rs k).length := by
  unfold Many at g1
  refine ⟨by omega, by omega, fun k hk => ?_⟩
  by_cases h : 3 ≤ (rg rs k).length
  · exact h
  · exact absurd (short_at hk (by omega)) g2
theorem near_of {rs : List (List IP)} (g3 : ¬ Far rs) : (verts rs).length ≤ 64 ∧ ∀ i, i < (verts rs).length → nearP (pt (verts rs) i) := by
  refine ⟨?_, fun i hi => Classical.byContradiction fun h => g3 (.inr ⟨_, pt_mem hi, h⟩)⟩
  rcases Nat.lt_or_ge 64 (verts rs).length with h | h
  · exact absurd (.inl h) g3
  · exact h
theorem called (b of cap : Nat) (A : Nat → Option Addr) (C : Nat → Nat) (rs : List (List IP)) (w : World) (hcap : rs.length ≤ cap) (hcm : cap ≤ 9223372036854775807) (hn : rs.length ≤ 1048576) (hsz : (verts rs).length ≤ 1048576) (hp : RingsL w (some ⟨b, of, none⟩) A C rs) : Called b of cap rs w where
  c0 := fun W hW => (ringsAllowed_any _ _ _ _ (by omega)).mono fun e w' h => ⟨h.1, h.2 ▸ Below.refl _ _⟩
  c1 := fun _ W hW => (noneShort_any _ _ _ _ _ _ hn hsz (Rings.later hW hp)).mono fun e w' h => ⟨h.1, h.2 ▸ Below.refl _ _⟩
  c2 := fun g1 g2 W hW => by
    obtain ⟨f1, f2, f3⟩ := fine_of g1 g2
    exact inRange_any _ _ _ _ _ _ f2 f1 f3 hsz (Rings.later hW hp)
  c3 := fun g1 g2 g3 W hW => by
    obtain ⟨f1, f2, f3⟩ := fine_of g1 g2
    obtain ⟨n1, n2⟩ := near_of g3
    exact noneTwice_any _ _ _ _ _ _ f2 f1 f3 n1 n2 (Rings.later hW hp)
  c4 := fun g1 g2 g3 g4 W hW => by
    obtain ⟨f1, f2, f3⟩ := fine_of g1 g2
    exact noneTouch_any _ _ _ _ _ _ f2 f1 f3 hsz (Rings.later hW hp)
  c5 := fun g1 g2 g3 g4 W hW => by
    obtain ⟨f1, f2, f3⟩ := fine_of g1 g2
    exact noneOutside_any _ _ _ _ _ _ _ hcap hcm f2 f1 f3 hsz (Rings.later hW hp)
  c6 := fun g1 g2 g3 g4 W hW => by
    obtain ⟨f1, f2, f3⟩ := fine_of g1 g2
    exact noneNested_any _ _ _ _ _ _ _ hcap hcm f2 f1 f3 hsz (Rings.later hW hp)
set_option maxRecDepth 100000 in
set_option maxHeartbeats 8000000 in
theorem pcheck_of (b of cap : Nat) (rs : List (List IP)) (w : World) (hn : rs.length ≤ 8796093022208) (hC : Called b of cap rs w) :
    Calls Try.prog 50 #[.slice (some ⟨b, of, none⟩) rs.length cap] w fun e w' => e = .returned (.int .i64 (chkP rs)) ∧ Below w.heap.size w w' := by
  have HC : Hid (Called b of cap rs w) := hC
  clear hC
  go_enter Try.func50, Try.ntmps50
  go_wp2_with (go_at_call 72; refine (tests_any _).mono ?_; rintro e w1 ⟨rfl, hT, hb1⟩)
  have HT : Hid (Table w1 w.heap.size) := hT
  clear hT
  go_loopw [4, 7] (fun _ i wr => ∃ k : Nat, k ≤ 7 ∧ i = .int .i64 k ∧ Passed rs k ∧ Below w1.heap.size w1 wr) (fun _ i _ => 7 - (intOf i).toNat)
  case atStart => exact ⟨0, Nat.zero_le _, rfl, by unfold Passed; simp, Below.refl _ _⟩
  case round =>
    obtain ⟨k, hk, rfl, hpass, hbr⟩ := hrel
    have HP : Hid (Passed rs k) := hpass
    have hbw := below_then hb1 hbr
    clear hpass
    obtain ⟨T0, T1, T2, T3, T4, T5, T6⟩ := HT.out
    have hT7 : (k = 0 ∨ k = 1 ∨ k = 2 ∨ k = 3 ∨ k = 4 ∨ k = 5 ∨ k = 6 ∨ k = 7) := by omega
    rcases hT7 with rfl | rfl | rfl | rfl | rfl | rfl | rfl | rfl
    · obtain ⟨s, t0, t1, t2⟩ := TestAt.later T0 hbr
      clear T0 T1 T2 T3 T4 T5 T6
      have CC : Hid (∀ W, Below w.heap.size w W → Calls Try.prog 85 #[.slice (some ⟨b, of, none⟩) rs.length cap] W fun e w' => e = .returned (.bool (bl (¬ Many rs))) ∧ Below W.heap.size W w') := HC.out.c0 
      simp only [Nat.reduceAdd] at t0 t1 t2
      have hA : Below w.heap.size w (wr.alloc (.cells #[.string s, .int .i64 1, .func (.func 85) #[] #[]] 114)) := hbw.alloc hbw.size _
      by_cases hq : Many rs
      · have HR : Hid (chkP rs = 1) := chkP1  hq
        have HB : Hid (bl (¬ Many rs) = false) := bl_false (fun h => h hq)
        clear hq
        go_wp2_with (go_at_call 85; refine Calls.mono (CC.out _ hA) ?_; rintro e w5 ⟨rfl, hb5⟩; rw [HB.out]; obtain ⟨hc5, hf5⟩ := old_reads hb5)
        go_ret
        exact ⟨ret2 HR.out, below_then hA hb5⟩
      · have HB : Hid (bl (¬ Many rs) = true) := bl_true hq
        have HN : Hid (¬ Many rs) := hq
        clear hq
        go_wp2_with (go_at_call 85; refine Calls.mono (CC.out _ hA) ?_; rintro e w5 ⟨rfl, hb5⟩; rw [HB.out])
        go_roundw
        case rel =>
          have hp := HP.out
          refine ⟨1, by omega, by go_num, ?_, below_then (hbr.alloc hbr.size _) hb5⟩
          unfold Passed at hp ⊢
          exact ⟨fun _ => HN.out, fun h => absurd h (by omega), fun h => absurd h (by omega), fun h => absurd h (by omega), fun h => absurd h (by omega), fun h => absurd h (by omega), fun h => absurd h (by omega)⟩
        case measure => simp [intOf]
    · obtain ⟨s, t0, t1, t2⟩ := TestAt.later T1 hbr
      clear T0 T1 T2 T3 T4 T5 T6
      have CC : Hid (∀ W, Below w.heap.size w W → Calls Try.prog 86 #[.slice (some ⟨b, of, none⟩) rs.length cap] W fun e w' => e = .returned (.bool (bl (¬ Short rs))) ∧ Below W.heap.size W w') := HC.out.c1 (HP.out.1 (by omega))
      simp only [Nat.reduceAdd] at t0 t1 t2
      have hA : Below w.heap.size w (wr.alloc (.cells #[.string s, .int .i64 2, .func (.func 86) #[] #[]] 114)) := hbw.alloc hbw.size _
      by_cases hq : Short rs
      · have HR : Hid (chkP rs = 2) := chkP2 (HP.out.1 (by omega)) hq
        have HB : Hid (bl (¬ Short rs) = false) := bl_false (fun h => h hq)
        clear hq
        go_wp2_with (go_at_call 86; refine Calls.mono (CC.out _ hA) ?_; rintro e w5 ⟨rfl, hb5⟩; rw [HB.out]; obtain ⟨hc5, hf5⟩ := old_reads hb5)
        go_ret
        exact ⟨ret2 HR.out, below_then hA hb5⟩
      · have HB : Hid (bl (¬ Short rs) = true) := bl_true hq
        have HN : Hid (¬ Short rs) := hq
        clear hq
        go_wp2_with (go_at_call 86; refine Calls.mono (CC.out _ hA) ?_; rintro e w5 ⟨rfl, hb5⟩; rw [HB.out])
        go_roundw
        case rel =>
          have hp := HP.out
          refine ⟨2, by omega, by go_num, ?_, below_then (hbr.alloc hbr.size _) hb5⟩
          unfold Passed at hp ⊢
          exact ⟨fun _ => hp.1 (by omega), fun _ => HN.out, fun h => absurd h (by omega), fun h => absurd h (by omega), fun h => absurd h (by omega), fun h => absurd h (by omega), fun h => absurd h (by omega)⟩
        case measure => simp [intOf]
    · obtain ⟨s, t0, t1, t2⟩ := TestAt.later T2 hbr
      clear T0 T1 T2 T3 T4 T5 T6
      have CC : Hid (∀ W, Below w.heap.size w W → Calls Try.prog 87 #[.slice (some ⟨b, of, none⟩) rs.length cap] W fun e w' => e = .returned (.bool (bl (¬ Far rs))) ∧ Below W.heap.size W w') := HC.out.c2 (HP.out.1 (by omega)) (HP.out.2.1 (by omega))
      simp only [Nat.reduceAdd] at t0 t1 t2
      have hA : Below w.heap.size w (wr.alloc (.cells #[.string s, .int .i64 3, .func (.func 87) #[] #[]] 114)) := hbw.alloc hbw.size _
      by_cases hq : Far rs
      · have HR : Hid (chkP rs = 3) := chkP3 (HP.out.1 (by omega)) (HP.out.2.1 (by omega)) hq
        have HB : Hid (bl (¬ Far rs) = false) := bl_false (fun h => h hq)
        clear hq
        go_wp2_with (go_at_call 87; refine Calls.mono (CC.out _ hA) ?_; rintro e w5 ⟨rfl, hb5⟩; rw [HB.out]; obtain ⟨hc5, hf5⟩ := old_reads hb5)
        go_ret
        exact ⟨ret2 HR.out, below_then hA hb5⟩
      · have HB : Hid (bl (¬ Far rs) = true) := bl_true hq
        have HN : Hid (¬ Far rs) := hq
        clear hq
        go_wp2_with (go_at_call 87; refine Calls.mono (CC.out _ hA) ?_; rintro e w5 ⟨rfl, hb5⟩; rw [HB.out])
        go_roundw
        case rel =>
          have hp := HP.out
          refine ⟨3, by omega, by go_num, ?_, below_then (hbr.alloc hbr.size _) hb5⟩
          unfold Passed at hp ⊢
          exact ⟨fun _ => hp.1 (by omega), fun _ => hp.2.1 (by omega), fun _ => HN.out, fun h => absurd h (by omega), fun h => absurd h (by omega), fun h => absurd h (by omega), fun h => absurd h (by omega)⟩
        case measure => simp [intOf]
    · obtain ⟨s, t0, t1, t2⟩ := TestAt.later T3 hbr
      clear T0 T1 T2 T3 T4 T5 T6
      have CC : Hid (∀ W, Below w.heap.size w W → Calls Try.prog 88 #[.slice (some ⟨b, of, none⟩) rs.length cap] W fun e w' => e = .returned (.bool (bl (¬ Twice rs))) ∧ Below W.heap.size W w') := HC.out.c3 (HP.out.1 (by omega)) (HP.out.2.1 (by omega)) (HP.out.2.2.1 (by omega))
      simp only [Nat.reduceAdd] at t0 t1 t2
      have hA : Below w.heap.size w (wr.alloc (.cells #[.string s, .int .i64 4, .func (.func 88) #[] #[]] 114)) := hbw.alloc hbw.size _
      by_cases hq : Twice rs
      · have HR : Hid (chkP rs = 4) := chkP4 (HP.out.1 (by omega)) (HP.out.2.1 (by omega)) (HP.out.2.2.1 (by omega)) hq
        have HB : Hid (bl (¬ Twice rs) = false) := bl_false (fun h => h hq)
        clear hq
        go_wp2_with (go_at_call 88; refine Calls.mono (CC.out _ hA) ?_; rintro e w5 ⟨rfl, hb5⟩; rw [HB.out]; obtain ⟨hc5, hf5⟩ := old_reads hb5)
        go_ret
        exact ⟨ret2 HR.out, below_then hA hb5⟩
      · have HB : Hid (bl (¬ Twice rs) = true) := bl_true hq
        have HN : Hid (¬ Twice rs) := hq
        clear hq
        go_wp2_with (go_at_call 88; refine Calls.mono (CC.out _ hA) ?_; rintro e w5 ⟨rfl, hb5⟩; rw [HB.out])
        go_roundw
        case rel =>
          have hp := HP.out
          refine ⟨4, by omega, by go_num, ?_, below_then (hbr.alloc hbr.size _) hb5⟩
          unfold Passed at hp ⊢
          exact ⟨fun _ => hp.1 (by omega), fun _ => hp.2.1 (by omega), fun _ => hp.2.2.1 (by omega), fun _ => HN.out, fun h => absurd h (by omega), fun h => absurd h (by omega), fun h => absurd h (by omega)⟩
        case measure => simp [intOf]
    · obtain ⟨s, t0, t1, t2⟩ := TestAt.later T4 hbr
      clear T0 T1 T2 T3 T4 T5 T6
      have CC : Hid (∀ W, Below w.heap.size w W → Calls Try.prog 89 #[.slice (some ⟨b, of, none⟩) rs.length cap] W fun e w' => e = .returned (.bool (bl (¬ TouchP rs))) ∧ Below W.heap.size W w') := HC.out.c4 (HP.out.1 (by omega)) (HP.out.2.1 (by omega)) (HP.out.2.2.1 (by omega)) (HP.out.2.2.2.1 (by omega))
      simp only [Nat.reduceAdd] at t0 t1 t2
      have hA : Below w.heap.size w (wr.alloc (.cells #[.string s, .int .i64 5, .func (.func 89) #[] #[]] 114)) := hbw.alloc hbw.size _
      by_cases hq : TouchP rs
      · have HR : Hid (chkP rs = 5) := chkP5 (HP.out.1 (by omega)) (HP.out.2.1 (by omega)) (HP.out.2.2.1 (by omega)) (HP.out.2.2.2.1 (by omega)) hq
        have HB : Hid (bl (¬ TouchP rs) = false) := bl_false (fun h => h hq)
        clear hq
        go_wp2_with (go_at_call 89; refine Calls.mono (CC.out _ hA) ?_; rintro e w5 ⟨rfl, hb5⟩; rw [HB.out]; obtain ⟨hc5, hf5⟩ := old_reads hb5)
        go_ret
        exact ⟨ret2 HR.out, below_then hA hb5⟩
      · have HB : Hid (bl (¬ TouchP rs) = true) := bl_true hq
        have HN : Hid (¬ TouchP rs) := hq
        clear hq
        go_wp2_with (go_at_call 89; refine Calls.mono (CC.out _ hA) ?_; rintro e w5 ⟨rfl, hb5⟩; rw [HB.out])
        go_roundw
        case rel =>
          have hp := HP.out
          refine ⟨5, by omega, by go_num, ?_, below_then (hbr.alloc hbr.size _) hb5⟩
          unfold Passed at hp ⊢
          exact ⟨fun _ => hp.1 (by omega), fun _ => hp.2.1 (by omega), fun _ => hp.2.2.1 (by omega), fun _ => hp.2.2.2.1 (by omega), fun _ => HN.out, fun h => absurd h (by omega), fun h => absurd h (by omega)⟩
        case measure => simp [intOf]
    · obtain ⟨s, t0, t1, t2⟩ := TestAt.later T5 hbr
      clear T0 T1 T2 T3 T4 T5 T6
      have CC : Hid (∀ W, Below w.heap.size w W → Calls Try.prog 90 #[.slice (some ⟨b, of, none⟩) rs.length cap] W fun e w' => e = .returned (.bool (bl (¬ OutP rs))) ∧ Below W.heap.size W w') := HC.out.c5 (HP.out.1 (by omega)) (HP.out.2.1 (by omega)) (HP.out.2.2.1 (by omega)) (HP.out.2.2.2.1 (by omega))
      simp only [Nat.reduceAdd] at t0 t1 t2
      have hA : Below w.heap.size w (wr.alloc (.cells #[.string s, .int .i64 6, .func (.func 90) #[] #[]] 114)) := hbw.alloc hbw.size _
      by_cases hq : OutP rs
      · have HR : Hid (chkP rs = 6) := chkP6 (HP.out.1 (by omega)) (HP.out.2.1 (by omega)) (HP.out.2.2.1 (by omega)) (HP.out.2.2.2.1 (by omega)) (HP.out.2.2.2.2.1 (by omega)) hq
        have HB : Hid (bl (¬ OutP rs) = false) := bl_false (fun h => h hq)
        clear hq
        go_wp2_with (go_at_call 90; refine Calls.mono (CC.out _ hA) ?_; rintro e w5 ⟨rfl, hb5⟩; rw [HB.out]; obtain ⟨hc5, hf5⟩ := old_reads hb5)
        go_ret
        exact ⟨ret2 HR.out, below_then hA hb5⟩
      · have HB : Hid (bl (¬ OutP rs) = true) := bl_true hq
        have HN : Hid (¬ OutP rs) := hq
        clear hq
        go_wp2_with (go_at_call 90; refine Calls.mono (CC.out _ hA) ?_; rintro e w5 ⟨rfl, hb5⟩; rw [HB.out])
        go_roundw
        case rel =>
          have hp := HP.out
          refine ⟨6, by omega, by go_num, ?_, below_then (hbr.alloc hbr.size _) hb5⟩
          unfold Passed at hp ⊢
          exact ⟨fun _ => hp.1 (by omega), fun _ => hp.2.1 (by omega), fun _ => hp.2.2.1 (by omega), fun _ => hp.2.2.2.1 (by omega), fun _ => hp.2.2.2.2.1 (by omega), fun _ => HN.out, fun h => absurd h (by omega)⟩
        case measure => simp [intOf]
    · obtain ⟨s, t0, t1, t2⟩ := TestAt.later T6 hbr
      clear T0 T1 T2 T3 T4 T5 T6
      have CC : Hid (∀ W, Below w.heap.size w W → Calls Try.prog 91 #[.slice (some ⟨b, of, none⟩) rs.length cap] W fun e w' => e = .returned (.bool (bl (¬ NestP rs))) ∧ Below W.heap.size W w') := HC.out.c6 (HP.out.1 (by omega)) (HP.out.2.1 (by omega)) (HP.out.2.2.1 (by omega)) (HP.out.2.2.2.1 (by omega))
      simp only [Nat.reduceAdd] at t0 t1 t2
      have hA : Below w.heap.size w (wr.alloc (.cells #[.string s, .int .i64 7, .func (.func 91) #[] #[]] 114)) := hbw.alloc hbw.size _
      by_cases hq : NestP rs
      · have HR : Hid (chkP rs = 7) := chkP7 (HP.out.1 (by omega)) (HP.out.2.1 (by omega)) (HP.out.2.2.1 (by omega)) (HP.out.2.2.2.1 (by omega)) (HP.out.2.2.2.2.1 (by omega)) (HP.out.2.2.2.2.2.1 (by omega)) hq
        have HB : Hid (bl (¬ NestP rs) = false) := bl_false (fun h => h hq)
        clear hq
        go_wp2_with (go_at_call 91; refine Calls.mono (CC.out _ hA) ?_; rintro e w5 ⟨rfl, hb5⟩; rw [HB.out]; obtain ⟨hc5, hf5⟩ := old_reads hb5)
        go_ret
        exact ⟨ret2 HR.out, below_then hA hb5⟩
      · have HB : Hid (bl (¬ NestP rs) = true) := bl_true hq
        have HN : Hid (¬ NestP rs) := hq
        clear hq
        go_wp2_with (go_at_call 91; refine Calls.mono (CC.out _ hA) ?_; rintro e w5 ⟨rfl, hb5⟩; rw [HB.out])
        go_roundw
        case rel =>
          have hp := HP.out
          refine ⟨7, by omega, by go_num, ?_, below_then (hbr.alloc hbr.size _) hb5⟩
          unfold Passed at hp ⊢
          exact ⟨fun _ => hp.1 (by omega), fun _ => hp.2.1 (by omega), fun _ => hp.2.2.1 (by omega), fun _ => hp.2.2.2.1 (by omega), fun _ => hp.2.2.2.2.1 (by omega), fun _ => hp.2.2.2.2.2.1 (by omega), fun _ => HN.out⟩
        case measure => simp [intOf]
    · have HR : Hid (chkP rs = 0) := chkP0 (HP.out.1 (by omega)) (HP.out.2.1 (by omega)) (HP.out.2.2.1 (by omega)) (HP.out.2.2.2.1 (by omega)) (HP.out.2.2.2.2.1 (by omega)) (HP.out.2.2.2.2.2.1 (by omega)) (HP.out.2.2.2.2.2.2 (by omega))
      clear T0 T1 T2 T3 T4 T5 T6
      go_wp2
      go_ret
      exact ⟨ret2 HR.out, hbw⟩
end Go.Proofs.Ytdkaoopkbhaheaa
namespace Go.Proofs.Ytdkaoopkbhaheaa
open Go.RowKit Go.Lib
open Jor
open scoped Classical
set_option linter.unusedVariables false
set_option linter.unusedSimpArgs false
set_option maxHeartbeats 1000000 in
theorem fcheck_any (b of cap : Nat) (A : Nat → Option Addr) (C : Nat → Nat) (rs : List (List IP)) (w : World) (hcap : rs.length ≤ cap) (hcm : cap ≤ 9223372036854775807) (hn : rs.length ≤ 1048576) (hsz : (verts rs).length ≤ 1048576) (hp : RingsL w (some ⟨b, of, none⟩) A C rs) :
    Calls Try.prog 22 #[.slice (some ⟨b, of, none⟩) rs.length cap] w fun e w' => e = .returned (.int .i64 (chkP rs)) ∧ Below w.heap.size w w' := by
  have hC := called b of cap A C rs w hcap hcm hn hsz hp
  go_enter Try.func22, Try.ntmps22
  go_wp2_with (go_at_call 50; refine (pcheck_of _ _ _ _ _ (by omega) hC).mono ?_; rintro e w1 ⟨rfl, hb1⟩)
  go_ret
  exact ⟨rfl, hb1⟩
def areaP [∀ p : Prop, Decidable p] (rs : List (List IP)) : Int := if chkP rs = 0 then psum rs rs.length else 0
theorem chkP_zero {rs : List (List IP)} (h : chkP rs = 0) : ¬ Many rs ∧ ¬ Short rs ∧ ¬ Far rs := by
  unfold chkP first7 at h
  by_cases h1 : Many rs
  · rw [if_pos h1] at h; omega
  by_cases h2 : Short rs
  · rw [if_neg h1, if_pos h2] at h; omega
  by_cases h3 : Far rs
  · rw [if_neg h1, if_neg h2, if_pos h3] at h; omega
  exact ⟨h1, h2, h3⟩
set_option maxHeartbeats 2000000 in
theorem farea_any (b of cap : Nat) (A : Nat → Option Addr) (C : Nat → Nat) (rs : List (List IP)) (w : World) (hcap : rs.length ≤ cap) (hcm : cap ≤ 9223372036854775807) (hn : rs.length ≤ 1048576) (hsz : (verts rs).length ≤ 1048576) (hp : RingsL w (some ⟨b, of, none⟩) A C rs) :
    Calls Try.prog 21 #[.slice (some ⟨b, of, none⟩) rs.length cap] w fun e w' => e = .returned (.tuple #[.int .i64 (areaP rs), .int .i64 (chkP rs)]) ∧ Below w.heap.size w w' := by
  by_cases hz : chkP rs = 0
  · obtain ⟨g1, g2, g3⟩ := chkP_zero hz
    obtain ⟨f1, f2, f3⟩ := fine_of g1 g2
    have HA : areaP rs = psum rs rs.length := if_pos hz
    rw [HA, hz]
    have FC : Hid (∀ x, x = chkP rs → x = 0) := fun x hx => hx.trans hz
    go_enter Try.func21, Try.ntmps21
    go_wp2_with (first | (go_at_call 22; refine (fcheck_any _ _ _ _ _ _ _ hcap hcm hn hsz hp).mono ?_; rintro e w1 ⟨rfl, hb1⟩; rw [hz]) | (go_at_call 49; refine (parea_any _ _ _ _ _ _ _ hcap hcm f2 f1 f3 hsz (Rings.later hb1 hp)).mono ?_; rintro e w2 ⟨rfl, hb2⟩))
    go_ret2
    exact ⟨rfl, below_then hb1 hb2⟩
  · have HA : areaP rs = 0 := if_neg hz
    rw [HA]
    have hz' : (chkP rs == 0) = false := by rw [beq_eq_false_iff_ne]; exact hz
    go_enter Try.func21, Try.ntmps21
    go_wp2_with (go_at_call 22; refine (fcheck_any _ _ _ _ _ _ _ hcap hcm hn hsz hp).mono ?_; rintro e w1 ⟨rfl, hb1⟩)
    go_ret2
    exact ⟨rfl, hb1⟩
end Go.Proofs.Ytdkaoopkbhaheaa
