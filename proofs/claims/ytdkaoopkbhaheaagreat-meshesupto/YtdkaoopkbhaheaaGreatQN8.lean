import Derived.Test.YtdkaoopkbhaheaaGreatPN6
namespace Go.Proofs.YtdkaoopkbhaheaaGreat
open Go.RowKit Go.Lib
open Jor
open Go.ChangeMaps (setBlock heap_setBlock_same heap_setBlock_other)
set_option linter.unusedVariables false
set_option linter.unusedSimpArgs false
def sideF (F : Nat → Nat → Option Int) (x y : Nat) (z : Int) : Nat → Nat → Option Int := upd (if (F x y).isNone then upd F y x (-1) else F) x y z
def sideL (F : Nat → Nat → Option Int) (L : List (Nat × Nat)) (x y : Nat) : List (Nat × Nat) := if (F x y).isNone then L ++ [(y, x)] else L
def layF (F : Nat → Nat → Option Int) (a b c : Nat) : Nat → Nat → Nat → Option Int
  | 0 => F
  | m + 1 => sideF (layF F a b c m) (sd1 a b c m) (sd2 a b c m) (sd1 a b c ((m + 2) % 3))
def layL (F : Nat → Nat → Option Int) (L : List (Nat × Nat)) (a b c : Nat) : Nat → List (Nat × Nat)
  | 0 => L
  | m + 1 => sideL (layF F a b c m) (layL F L a b c m) (sd1 a b c m) (sd2 a b c m)
theorem layL_few (F : Nat → Nat → Option Int) (L : List (Nat × Nat)) (a b c : Nat) : ∀ m, (layL F L a b c m).length ≤ L.length + m := by
  intro m
  induction m with
  | zero => simp [layL]
  | succ m ih =>
    simp only [layL, sideL]
    split
    · simp; omega
    · omega
set_option maxRecDepth 100000 in
set_option maxHeartbeats 4000000 in
theorem lay_any (B bc b of n cap bm i j k : Nat) (L : List (Nat × Nat)) (F : Nat → Nat → Option Int) (v : Value) (w : World) (hB : B ≤ w.heap.size) (hi : i ≤ 1048576) (hj : j ≤ 1048576) (hk : k ≤ 1048576) (hL : L.length + 3 ≤ 1048576) (hS : CutS B w bc b of n cap bm L F v) :
    Calls Tryz.prog 69 #[.pointer (some ⟨bc, 0, none⟩), tv i j k] w fun e w' => e = .returned (.tuple #[]) ∧ (∃ v', CutS B w' bc b of n cap bm (layL F L i j k 3) (layF F i j k 3) v') ∧ Below B w w' := by
  have hs : Below w.heap.size w (w.alloc (.cells #[.int .i64 (i : Int), .int .i64 (j : Int), .int .i64 (k : Int)] 53)) := (Below.refl _ _).alloc (Nat.le_refl _) _
  have tb : (w.alloc (.cells #[.int .i64 (i : Int), .int .i64 (j : Int), .int .i64 (k : Int)] 53)).heap[w.heap.size]? = some (.cells #[.int .i64 (i : Int), .int .i64 (j : Int), .int .i64 (k : Int)] 53) := heap_alloc_new _ _
  have x0 : (w.alloc (.cells #[.int .i64 (i : Int), .int .i64 (j : Int), .int .i64 (k : Int)] 53)).cell? ⟨w.heap.size, 0, none⟩ = some (.int .i64 (i : Int)) := by simp [go_sem]
  have x1 : (w.alloc (.cells #[.int .i64 (i : Int), .int .i64 (j : Int), .int .i64 (k : Int)] 53)).cell? ⟨w.heap.size, 1, none⟩ = some (.int .i64 (j : Int)) := by simp [go_sem]
  have x2 : (w.alloc (.cells #[.int .i64 (i : Int), .int .i64 (j : Int), .int .i64 (k : Int)] 53)).cell? ⟨w.heap.size, 2, none⟩ = some (.int .i64 (k : Int)) := by simp [go_sem]
  have bB : Below B w (w.alloc (.cells #[.int .i64 (i : Int), .int .i64 (j : Int), .int .i64 (k : Int)] 53)) := (Below.refl _ _).alloc hB _
  have hS0 := hS.later hs
  have hlt := hS.lt
  have hltm := hS.map.lt
  unfold tv
  go_enter Tryz.func69, Tryz.ntmps69
  go_wp2_with (go_at_call 54; refine (sides_any i j k _).mono ?_; rintro e w1 ⟨rfl, hb1⟩)
  have b1 : Below B w w1 := bB.trans (hb1.mono (by simp; omega))
  have hS1 := hS0.later hb1
  have tb1 : w1.heap[w.heap.size]? = some (.cells #[.int .i64 (i : Int), .int .i64 (j : Int), .int .i64 (k : Int)] 53) := (hb1.block _ (by simp)).trans tb
  have hsz1 : w.heap.size + 1 ≤ w1.heap.size := by have := hb1.size; simp at this; omega
  clear hS0 hb1 tb x0 x1 x2 hs bB
  go_loopw [4, 5, 6, 7, 10] (fun _ _ _ _ c wr => ∃ m : Nat, m ≤ 3 ∧ c = .int .i64 m ∧ (∃ v', CutS B wr bc b of n cap bm (layL F L i j k m) (layF F i j k m) v') ∧ wr.heap[w.heap.size]? = some (.cells #[.int .i64 (i : Int), .int .i64 (j : Int), .int .i64 (k : Int)] 53) ∧ w.heap.size + 1 ≤ wr.heap.size ∧ Below B w wr) (fun _ _ _ _ c _ => 3 - (intOf c).toNat)
  case atStart => exact ⟨0, by omega, rfl, ⟨_, hS1⟩, tb1, hsz1, b1⟩
  case round =>
    clear hS1 tb1 hsz1 b1
    obtain ⟨m, hm, rfl, ⟨v', hSr⟩, tbr, hszr, hbr⟩ := hrel
    by_cases hlt3 : m < 3
    · have IX : Hid (m = 0 ∨ m = 1 ∨ m = 2) := by
        show m = 0 ∨ m = 1 ∨ m = 2
        omega
      have hd1 : sd1 i j k m ≤ 1048576 := by unfold sd1; split; exact hi; split; exact hj; exact hk
      have hd2 : sd2 i j k m ≤ 1048576 := by unfold sd2; split; exact hj; split; exact hk; exact hi
      have hLr : (layL F L i j k m).length + 1 ≤ 1048576 := by have := layL_few F L i j k m; omega
      have LF : Hid (layF F i j k (m + 1) = sideF (layF F i j k m) (sd1 i j k m) (sd2 i j k m) (sd1 i j k ((m + 2) % 3))) := rfl
      have LL : Hid (layL F L i j k (m + 1) = sideL (layF F i j k m) (layL F L i j k m) (sd1 i j k m) (sd2 i j k m)) := rfl
      generalize layF F i j k m = Fm at *
      generalize layL F L i j k m = Lm at *
      obtain ⟨ix0, ix1, ix2⟩ := index6 (.int .i64 (i : Int)) (.int .i64 (j : Int)) (.int .i64 (j : Int)) (.int .i64 (k : Int)) (.int .i64 (k : Int)) (.int .i64 (i : Int))
      have hbe : Below wr.heap.size wr (wr.alloc (.cells #[.int .i64 (sd1 i j k m : Int), .int .i64 (sd2 i j k m : Int)] 106)) := (Below.refl _ _).alloc (Nat.le_refl _) _
      have eb : (wr.alloc (.cells #[.int .i64 (sd1 i j k m : Int), .int .i64 (sd2 i j k m : Int)] 106)).heap[wr.heap.size]? = some (.cells #[.int .i64 (sd1 i j k m : Int), .int .i64 (sd2 i j k m : Int)] 106) := heap_alloc_new _ _
      have tbe := (hbe.block _ (show w.heap.size < wr.heap.size by omega)).trans tbr
      have hSe := hSr.later hbe
      have hBe : Below B w (wr.alloc (.cells #[.int .i64 (sd1 i j k m : Int), .int .i64 (sd2 i j k m : Int)] 106)) := hbr.alloc (by have := hbr.size; omega) _
      have hse : (wr.alloc (.cells #[.int .i64 (sd1 i j k m : Int), .int .i64 (sd2 i j k m : Int)] 106)).heap.size = wr.heap.size + 1 := by simp
      have hltr := hSr.lt
      have hltmr := hSr.map.lt
      have hov : ∀ g, v'.ownBlock = some g → g < wr.heap.size := fun g hg => by
        obtain ⟨cur, hc⟩ := own_at hSr.row hg
        exact (Array.getElem?_eq_some_iff.1 hc).1
      clear hSr tbr
      generalize hWe : (wr.alloc (.cells #[.int .i64 (sd1 i j k m : Int), .int .i64 (sd2 i j k m : Int)] 106)) = We at *
      have c2 := hSe.c2
      have e0 : We.cell? ⟨wr.heap.size, 0, none⟩ = some (.int .i64 (sd1 i j k m : Int)) := by simp [World.cell?, eb]
      have e1 : We.cell? ⟨wr.heap.size, 1, none⟩ = some (.int .i64 (sd2 i j k m : Int)) := by simp [World.cell?, eb]
      have hSd := hSe.later (Below.refl _ _).drew
      cases hF : Fm (sd1 i j k m) (sd2 i j k m) with
      | some u =>
        have lk := look2_yes (w := We.drew) hSd.map hd1 hd2 hF
        have hSd2 := hSd.later (Below.refl _ _).drew
        obtain ⟨o, hrun, hSf, hbf, hkf⟩ := hSd2.set hd1 hd2 (sd1 i j k ((m + 2) % 3) : Int)
        have HS : Hid (CutS B (setBlock We.drew.drew bm o) bc b of n cap bm (layL F L i j k (m + 1)) (layF F i j k (m + 1)) v') := by
          show CutS _ _ _ _ _ _ _ _ _ _ _
          rw [LF.out, LL.out]
          unfold sideF sideL
          rw [hF]
          exact hSf
        have tf : (setBlock We.drew.drew bm o).heap[w.heap.size]? = some (.cells #[.int .i64 (i : Int), .int .i64 (j : Int), .int .i64 (k : Int)] 53) := (hkf _ (by omega)).trans tbe
        have hsf : w.heap.size + 1 ≤ (setBlock We.drew.drew bm o).heap.size := by have := hbf.size; simp at this; omega
        have hBf : Below B w (setBlock We.drew.drew bm o) := hBe.drew.drew.trans hbf
        have y0 : We.cell? ⟨w.heap.size, 0, none⟩ = some (.int .i64 (i : Int)) := by simp [World.cell?, tbe]
        have y1 : We.cell? ⟨w.heap.size, 1, none⟩ = some (.int .i64 (j : Int)) := by simp [World.cell?, tbe]
        have y2 : We.cell? ⟨w.heap.size, 2, none⟩ = some (.int .i64 (k : Int)) := by simp [World.cell?, tbe]
        unfold ev at lk hrun
        clear hSf hSd hSd2 hSe hkf hbf hF LF LL eb tbe hBe hov
        generalize hWf : setBlock We.drew.drew bm o = Wf at *
        clear hWf
        rcases IX.out with rfl | rfl | rfl
        all_goals
          simp only [sd1, sd2, if_true, if_false, Nat.succ_ne_zero, Nat.reduceEqDiff, Nat.reduceAdd, Nat.reduceMod] at lk hrun e0 e1 hWe
          go_wp2
          try rw [hWe]
          go_region
          all_goals
            go_wp2
            go_region
            all_goals
              go_wp2
              go_roundw
              case rel =>
                refine ⟨_, ?_, ?_, ⟨_, HS.out⟩, tf, hsf, hBf⟩
                · omega
                · rfl
              case measure => simp [intOf]
      | none =>
        have lk := look2_no (w := We.drew) hSd.map hd1 hd2 hF
        unfold ev at lk
        have hBd : Below B w We.drew := hBe.drew
        have ebd : We.drew.heap[wr.heap.size]? = some (.cells #[.int .i64 (sd1 i j k m : Int), .int .i64 (sd2 i j k m : Int)] 106) := eb
        have tbd : We.drew.heap[w.heap.size]? = some (.cells #[.int .i64 (i : Int), .int .i64 (j : Int), .int .i64 (k : Int)] 53) := tbe
        have hsd : We.drew.heap.size = wr.heap.size + 1 := hse
        have HT : Hid (∀ x : World, Below We.drew.heap.size We.drew x → Calls Tryz.prog 68 #[.pointer (some ⟨bc, 0, none⟩), ev (sd2 i j k m) (sd1 i j k m)] x fun e w' => e = .returned (.tuple #[]) ∧ (∃ Wf o v3, (Instr.mapUpdate 79 (.map (some bm)) (ev (sd1 i j k m) (sd2 i j k m)) (.int .i64 (sd1 i j k ((m + 2) % 3) : Int))).run Tryz.prog w'.drew = .ok () Wf ∧ CutS B Wf bc b of n cap bm (layL F L i j k (m + 1)) (layF F i j k (m + 1)) v3 ∧ Wf.heap[w.heap.size]? = some (.cells #[.int .i64 (i : Int), .int .i64 (j : Int), .int .i64 (k : Int)] 53) ∧ w.heap.size + 1 ≤ Wf.heap.size ∧ Below B w Wf ∧ o = Wf) ∧ w'.cell? ⟨wr.heap.size, 0, none⟩ = some (.int .i64 (sd1 i j k m : Int)) ∧ w'.cell? ⟨wr.heap.size, 1, none⟩ = some (.int .i64 (sd2 i j k m : Int)) ∧ w'.cell? ⟨w.heap.size, 0, none⟩ = some (.int .i64 (i : Int)) ∧ w'.cell? ⟨w.heap.size, 1, none⟩ = some (.int .i64 (j : Int)) ∧ w'.cell? ⟨w.heap.size, 2, none⟩ = some (.int .i64 (k : Int)) ∧ w'.cell? ⟨bc, 2, none⟩ = some (.map (some bm))) := by
          intro x hx
          have hSx := hSd.later hx
          have hxs := hx.size
          refine (open_any B bc b of n cap bm (sd2 i j k m) (sd1 i j k m) Lm Fm v' x (by omega) hd2 hd1 hLr hSx).mono ?_
          rintro e w' ⟨rfl, ⟨v2, hS2⟩, hb2, hk2⟩
          have hS2d := hS2.later (Below.refl _ _).drew
          obtain ⟨o, hrun, hSf, hbf, hkf⟩ := hS2d.set hd1 hd2 (sd1 i j k ((m + 2) % 3) : Int)
          have q1 : w'.heap[wr.heap.size]? = some (.cells #[.int .i64 (sd1 i j k m : Int), .int .i64 (sd2 i j k m : Int)] 106) := by
            rw [hk2 _ (by omega) (by omega) (by omega) (fun e => by have := hov _ e; omega), hx.block _ (by omega)]; exact ebd
          have q2 : w'.heap[w.heap.size]? = some (.cells #[.int .i64 (i : Int), .int .i64 (j : Int), .int .i64 (k : Int)] 53) := by
            rw [hk2 _ (by omega) (by omega) (by omega) (fun e => by
              obtain ⟨cur, hc⟩ := own_at hSx.row e
              rw [hx.block _ (by omega), tbd] at hc
              simp at hc), hx.block _ (by omega)]; exact tbd
          have hs2 := hb2.size
          refine ⟨rfl, ⟨_, _, v2, hrun, ?_, (hkf _ (by omega)).trans q2, ?_, ?_, rfl⟩, by simp [World.cell?, q1], by simp [World.cell?, q1], by simp [World.cell?, q2], by simp [World.cell?, q2], by simp [World.cell?, q2], hS2.c2⟩
          · rw [LF.out, LL.out]
            unfold sideF sideL
            rw [hF]
            exact hSf
          · have := hbf.size; simp at this; omega
          · exact ((hBd.trans (hx.mono (by omega))).trans hb2).drew.trans hbf
        unfold ev at HT
        clear hSd hSe hBe hov hF LF LL eb tbe ebd tbd hBd
        rcases IX.out with rfl | rfl | rfl
        all_goals
          simp only [sd1, sd2, if_true, if_false, Nat.succ_ne_zero, Nat.reduceEqDiff, Nat.reduceAdd, Nat.reduceMod] at lk HT e0 e1 hWe
          go_wp2
          go_region
          all_goals
            go_wp2_with (first | (go_at_call 75; refine (turned_any _ _ _).mono ?_; rintro e w2 ⟨rfl, hbT⟩; unfold ev) | (go_at_call 68; refine (HT.out _ hbT).mono ?_; rintro e w3 ⟨rfl, ⟨Wf, _, v3, hrun, hSf, tf, hsf, hBf, _⟩, z0, z1, z2, z3, z4, z5⟩; have HS : Hid _ := hSf; clear hSf))
            go_region
            all_goals
              go_wp2
              go_roundw
              case rel =>
                refine ⟨_, ?_, ?_, ⟨_, HS.out⟩, tf, hsf, hBf⟩
                · omega
                · rfl
              case measure => simp [intOf]
    · have : m = 3 := by omega
      subst this
      go_wp2
      go_end0
      exact ⟨rfl, ⟨_, hSr⟩, hbr⟩
end Go.Proofs.YtdkaoopkbhaheaaGreat
