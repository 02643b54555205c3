import Derived.Test.YtdkaoopkbhaheaaPN6
import Derived.Test.YtdkaoopkbhaheaaPM21
namespace Go.Proofs.Ytdkaoopkbhaheaa
open Go.RowKit Go.Lib
open Jor
open Go.ChangeMaps (setBlock heap_setBlock_same heap_setBlock_other)
set_option linter.unusedVariables false
set_option linter.unusedSimpArgs false
def sideF (F : Nat → Nat → Option Int) (x y : Nat) (z : Int) : Nat → Nat → Option Int := upd (if (F x y).isNone then upd F y x (-1) else F) x y z
def sideL (F : Nat → Nat → Option Int) (L : List (Nat × Nat)) (x y : Nat) : List (Nat × Nat) := if (F x y).isNone then L ++ [(y, x)] else L
def layF (F : Nat → Nat → Option Int) (a b c : Nat) : Nat → Nat → Nat → Option Int
  | 0 => F
  | m + 1 => sideF (layF F a b c m) (sd1 a b c m) (sd2 a b c m) (sd1 a b c ((m + 2) % 3))
def layL (F : Nat → Nat → Option Int) (L : List (Nat × Nat)) (a b c : Nat) : Nat → List (Nat × Nat)
  | 0 => L
  | m + 1 => sideL (layF F a b c m) (layL F L a b c m) (sd1 a b c m) (sd2 a b c m)
theorem layL_few (F : Nat → Nat → Option Int) (L : List (Nat × Nat)) (a b c : Nat) : ∀ m, (layL F L a b c m).length ≤ L.length + m := by
  intro m
  induction m with
  | zero => simp [layL]
  | succ m ih =>
    simp only [layL, sideL]
    split
    · simp; omega
    · omega
set_option maxRecDepth 100000 in
set_option maxHeartbeats 4000000 in
theorem lay_any (B bc b of n cap bm i j k : Nat) (L : List (Nat × Nat)) (F : Nat → Nat → Option Int) (v : Value) (w : World) (hB : B ≤ w.heap.size) (hi : i ≤ 1048576) (hj : j ≤ 1048576) (hk : k ≤ 1048576) (hL : L.length + 3 ≤ 1048576) (hS : CutS B w bc b of n cap bm L F v) :
    Calls Try.prog 94 #[.pointer (some ⟨bc, 0, none⟩), tv i j k] w fun e w' => e = .returned (.tuple #[]) ∧ (∃ v', CutS B w' bc b of n cap bm (layL F L i j k 3) (layF F i j k 3) v') ∧ Below B w w' := by
  have hs : Below w.heap.size w (w.alloc (.cells #[.int .i64 (i : Int), .int .i64 (j : Int), .int .i64 (k : Int)] 57)) := (Below.refl _ _).alloc (Nat.le_refl _) _
  have tb : (w.alloc (.cells #[.int .i64 (i : Int), .int .i64 (j : Int), .int .i64 (k : Int)] 57)).heap[w.heap.size]? = some (.cells #[.int .i64 (i : Int), .int .i64 (j : Int), .int .i64 (k : Int)] 57) := heap_alloc_new _ _
  have x0 : (w.alloc (.cells #[.int .i64 (i : Int), .int .i64 (j : Int), .int .i64 (k : Int)] 57)).cell? ⟨w.heap.size, 0, none⟩ = some (.int .i64 (i : Int)) := by simp [go_sem]
  have x1 : (w.alloc (.cells #[.int .i64 (i : Int), .int .i64 (j : Int), .int .i64 (k : Int)] 57)).cell? ⟨w.heap.size, 1, none⟩ = some (.int .i64 (j : Int)) := by simp [go_sem]
  have x2 : (w.alloc (.cells #[.int .i64 (i : Int), .int .i64 (j : Int), .int .i64 (k : Int)] 57)).cell? ⟨w.heap.size, 2, none⟩ = some (.int .i64 (k : Int)) := by simp [go_sem]
  have bB : Below B w (w.alloc (.cells #[.int .i64 (i : Int), .int .i64 (j : Int), .int .i64 (k : Int)] 57)) := (Below.refl _ _).alloc hB _
  have hS0 := hS.later hs
  have hlt := hS.lt
  have hltm := hS.map.lt
  unfold tv
  go_enter Try.func94, Try.ntmps94
  go_wp2_with (go_at_call 76; refine (sides_any i j k _).mono ?_; rintro e w1 ⟨rfl, hb1⟩)
  have b1 : Below B w w1 := bB.trans (hb1.mono (by simp; omega))
  have hS1 := hS0.later hb1
  have tb1 : w1.heap[w.heap.size]? = some (.cells #[.int .i64 (i : Int), .int .i64 (j : Int), .int .i64 (k : Int)] 57) := (hb1.block _ (by simp)).trans tb
  have hsz1 : w.heap.size + 1 ≤ w1.heap.size := by have := hb1.size; simp at this; omega
  clear hS0 hb1 tb x0 x1 x2 hs bB
  go_loopw [4, 5, 6, 7, 10] (fun _ _ _ _ c wr => ∃ m : Nat, m ≤ 3 ∧ c = .int .i64 m ∧ (∃ v', CutS B wr bc b of n cap bm (layL F L i j k m) (layF F i j k m) v') ∧ wr.heap[w.heap.size]? = some (.cells #[.int .i64 (i : Int), .int .i64 (j : Int), .int .i64 (k : Int)] 57) ∧ w.heap.size + 1 ≤ wr.heap.size ∧ Below B w wr) (fun _ _ _ _ c _ => 3 - (intOf c).toNat)
  case atStart => exact ⟨0, by omega, rfl, ⟨_, hS1⟩, tb1, hsz1, b1⟩
  case round =>
    clear hS1 tb1 hsz1 b1
    obtain ⟨m, hm, rfl, ⟨v', hSr⟩, tbr, hszr, hbr⟩ := hrel
    by_cases hlt3 : m < 3
    · have IX : Hid (m = 0 ∨ m = 1 ∨ m = 2) := by
        show m = 0 ∨ m = 1 ∨ m = 2
        omega
      have hd1 : sd1 i j k m ≤ 1048576 := by unfold sd1; split; exact hi; split; exact hj; exact hk
      have hd2 : sd2 i j k m ≤ 1048576 := by unfold sd2; split; exact hj; split; exact hk; exact hi
      have hLr : (layL F L i j k m).length + 1 ≤ 1048576 := by have := layL_few F L i j k m; omega
      have LF : Hid (layF F i j k (m + 1) = sideF (layF F i j k m) (sd1 i j k m) (sd2 i j k m) (sd1 i j k ((m + 2) % 3))) := rfl
      have LL : Hid (layL F L i j k (m + 1) = sideL (layF F i j k m) (layL F L i j k m) (sd1 i j k m) (sd2 i j k m)) := rfl
      generalize layF F i j k m = Fm at *
      generalize layL F L i j k m = Lm at *
      obtain ⟨ix0, ix1, ix2⟩ := index6 (.int .i64 (i : Int)) (.int .i64 (j : Int)) (.int .i64 (j : Int)) (.int .i64 (k : Int)) (.int .i64 (k : Int)) (.int .i64 (i : Int))
      have hbe : Below wr.heap.size wr (wr.alloc (.cells #[.int .i64 (sd1 i j k m : Int), .int .i64 (sd2 i j k m : Int)] 120)) := (Below.refl _ _).alloc (Nat.le_refl _) _
      have eb : (wr.alloc (.cells #[.int .i64 (sd1 i j k m : Int), .int .i64 (sd2 i j k m : Int)] 120)).heap[wr.heap.size]? = some (.cells #[.int .i64 (sd1 i j k m : Int), .int .i64 (sd2 i j k m : Int)] 120) := heap_alloc_new _ _
      have tbe := (hbe.block _ (show w.heap.size < wr.heap.size by omega)).trans tbr
      have hSe := hSr.later hbe
      have hBe : Below B w (wr.alloc (.cells #[.int .i64 (sd1 i j k m : Int), .int .i64 (sd2 i j k m : Int)] 120)) := hbr.alloc (by have := hbr.size; omega) _
      have hse : (wr.alloc (.cells #[.int .i64 (sd1 i j k m : Int), .int .i64 (sd2 i j k m : Int)] 120)).heap.size = wr.heap.size + 1 := by simp
      have hltr := hSr.lt
      have hltmr := hSr.map.lt
      have hov : ∀ g, v'.ownBlock = some g → g < wr.heap.size := fun g hg => by
        obtain ⟨cur, hc⟩ := own_at hSr.row hg
        exact (Array.getElem?_eq_some_iff.1 hc).1
      clear hSr tbr
      generalize hWe : (wr.alloc (.cells #[.int .i64 (sd1 i j k m : Int), .int .i64 (sd2 i j k m : Int)] 120)) = We at *
      have c2 := hSe.c2
      have e0 : We.cell? ⟨wr.heap.size, 0, none⟩ = some (.int .i64 (sd1 i j k m : Int)) := by simp [World.cell?, eb]
      have e1 : We.cell? ⟨wr.heap.size, 1, none⟩ = some (.int .i64 (sd2 i j k m : Int)) := by simp [World.cell?, eb]
      have hSd := hSe.later (Below.refl _ _).drew
      cases hF : Fm (sd1 i j k m) (sd2 i j k m) with
      | some u =>
        have lk := look2_yes (w := We.drew) hSd.map hd1 hd2 hF
        have hSd2 := hSd.later (Below.refl _ _).drew
        obtain ⟨o, hrun, hSf, hbf, hkf⟩ := hSd2.set hd1 hd2 (sd1 i j k ((m + 2) % 3) : Int)
        have HS : Hid (CutS B (setBlock We.drew.drew bm o) bc b of n cap bm (layL F L i j k (m + 1)) (layF F i j k (m + 1)) v') := by
          show CutS _ _ _ _ _ _ _ _ _ _ _
          rw [LF.out, LL.out]
          unfold sideF sideL
          rw [hF]
          exact hSf
        have tf : (setBlock We.drew.drew bm o).heap[w.heap.size]? = some (.cells #[.int .i64 (i : Int), .int .i64 (j : Int), .int .i64 (k : Int)] 57) := (hkf _ (by omega)).trans tbe
        have hsf : w.heap.size + 1 ≤ (setBlock We.drew.drew bm o).heap.size := by have := hbf.size; simp at this; omega
        have hBf : Below B w (setBlock We.drew.drew bm o) := hBe.drew.drew.trans hbf
        have y0 : We.cell? ⟨w.heap.size, 0, none⟩ = some (.int .i64 (i : Int)) := by simp [World.cell?, tbe]
        have y1 : We.cell? ⟨w.heap.size, 1, none⟩ = some (.int .i64 (j : Int)) := by simp [World.cell?, tbe]
        have y2 : We.cell? ⟨w.heap.size, 2, none⟩ = some (.int .i64 (k : Int)) := by simp [World.cell?, tbe]
        unfold ev at lk hrun
        clear hSf hSd hSd2 hSe hkf hbf hF LF LL eb tbe hBe hov
        generalize hWf : setBlock We.drew.drew bm o = Wf at *
        clear hWf
        rcases IX.out with rfl | rfl | rfl
        all_goals
          simp only [sd1, sd2, if_true, if_false, Nat.succ_ne_zero, Nat.reduceEqDiff, Nat.reduceAdd, Nat.reduceMod] at lk hrun e0 e1 hWe
          go_wp2
          try rw [hWe]
          go_region
          all_goals
            go_wp2
            go_region
            all_goals
              go_wp2
              go_roundw
              case rel =>
                refine ⟨_, ?_, ?_, ⟨_, HS.out⟩, tf, hsf, hBf⟩
                · omega
                · rfl
              case measure => simp [intOf]
      | none =>
        have lk := look2_no (w := We.drew) hSd.map hd1 hd2 hF
        unfold ev at lk
        have hBd : Below B w We.drew := hBe.drew
        have ebd : We.drew.heap[wr.heap.size]? = some (.cells #[.int .i64 (sd1 i j k m : Int), .int .i64 (sd2 i j k m : Int)] 120) := eb
        have tbd : We.drew.heap[w.heap.size]? = some (.cells #[.int .i64 (i : Int), .int .i64 (j : Int), .int .i64 (k : Int)] 57) := tbe
        have hsd : We.drew.heap.size = wr.heap.size + 1 := hse
        have HT : Hid (∀ x : World, Below We.drew.heap.size We.drew x → Calls Try.prog 93 #[.pointer (some ⟨bc, 0, none⟩), ev (sd2 i j k m) (sd1 i j k m)] x fun e w' => e = .returned (.tuple #[]) ∧ (∃ Wf o v3, (Instr.mapUpdate 94 (.map (some bm)) (ev (sd1 i j k m) (sd2 i j k m)) (.int .i64 (sd1 i j k ((m + 2) % 3) : Int))).run Try.prog w'.drew = .ok () Wf ∧ CutS B Wf bc b of n cap bm (layL F L i j k (m + 1)) (layF F i j k (m + 1)) v3 ∧ Wf.heap[w.heap.size]? = some (.cells #[.int .i64 (i : Int), .int .i64 (j : Int), .int .i64 (k : Int)] 57) ∧ w.heap.size + 1 ≤ Wf.heap.size ∧ Below B w Wf ∧ o = Wf) ∧ w'.cell? ⟨wr.heap.size, 0, none⟩ = some (.int .i64 (sd1 i j k m : Int)) ∧ w'.cell? ⟨wr.heap.size, 1, none⟩ = some (.int .i64 (sd2 i j k m : Int)) ∧ w'.cell? ⟨w.heap.size, 0, none⟩ = some (.int .i64 (i : Int)) ∧ w'.cell? ⟨w.heap.size, 1, none⟩ = some (.int .i64 (j : Int)) ∧ w'.cell? ⟨w.heap.size, 2, none⟩ = some (.int .i64 (k : Int)) ∧ w'.cell? ⟨bc, 2, none⟩ = some (.map (some bm))) := by
          intro x hx
          have hSx := hSd.later hx
          have hxs := hx.size
          refine (open_any B bc b of n cap bm (sd2 i j k m) (sd1 i j k m) Lm Fm v' x (by omega) hd2 hd1 hLr hSx).mono ?_
          rintro e w' ⟨rfl, ⟨v2, hS2⟩, hb2, hk2⟩
          have hS2d := hS2.later (Below.refl _ _).drew
          obtain ⟨o, hrun, hSf, hbf, hkf⟩ := hS2d.set hd1 hd2 (sd1 i j k ((m + 2) % 3) : Int)
          have q1 : w'.heap[wr.heap.size]? = some (.cells #[.int .i64 (sd1 i j k m : Int), .int .i64 (sd2 i j k m : Int)] 120) := by
            rw [hk2 _ (by omega) (by omega) (by omega) (fun e => by have := hov _ e; omega), hx.block _ (by omega)]; exact ebd
          have q2 : w'.heap[w.heap.size]? = some (.cells #[.int .i64 (i : Int), .int .i64 (j : Int), .int .i64 (k : Int)] 57) := by
            rw [hk2 _ (by omega) (by omega) (by omega) (fun e => by
              obtain ⟨cur, hc⟩ := own_at hSx.row e
              rw [hx.block _ (by omega), tbd] at hc
              simp at hc), hx.block _ (by omega)]; exact tbd
          have hs2 := hb2.size
          refine ⟨rfl, ⟨_, _, v2, hrun, ?_, (hkf _ (by omega)).trans q2, ?_, ?_, rfl⟩, by simp [World.cell?, q1], by simp [World.cell?, q1], by simp [World.cell?, q2], by simp [World.cell?, q2], by simp [World.cell?, q2], hS2.c2⟩
          · rw [LF.out, LL.out]
            unfold sideF sideL
            rw [hF]
            exact hSf
          · have := hbf.size; simp at this; omega
          · exact ((hBd.trans (hx.mono (by omega))).trans hb2).drew.trans hbf
        unfold ev at HT
        clear hSd hSe hBe hov hF LF LL eb tbe ebd tbd hBd
        rcases IX.out with rfl | rfl | rfl
        all_goals
          simp only [sd1, sd2, if_true, if_false, Nat.succ_ne_zero, Nat.reduceEqDiff, Nat.reduceAdd, Nat.reduceMod] at lk HT e0 e1 hWe
          go_wp2
          go_region
          all_goals
            go_wp2_with (first | (go_at_call 100; refine (turned_any _ _ _).mono ?_; rintro e w2 ⟨rfl, hbT⟩; unfold ev) | (go_at_call 93; refine (HT.out _ hbT).mono ?_; rintro e w3 ⟨rfl, ⟨Wf, _, v3, hrun, hSf, tf, hsf, hBf, _⟩, z0, z1, z2, z3, z4, z5⟩; have HS : Hid _ := hSf; clear hSf))
            go_region
            all_goals
              go_wp2
              go_roundw
              case rel =>
                refine ⟨_, ?_, ?_, ⟨_, HS.out⟩, tf, hsf, hBf⟩
                · omega
                · rfl
              case measure => simp [intOf]
    · have : m = 3 := by omega
      subst this
      go_wp2
      go_end0
      exact ⟨rfl, ⟨_, hSr⟩, hbr⟩
end Go.Proofs.Ytdkaoopkbhaheaa
namespace Go.Proofs.Ytdkaoopkbhaheaa
open Go.RowKit Go.Lib
open Jor
set_option linter.unusedVariables false
set_option linter.unusedSimpArgs false
theorem sqW_eq (a b : Int) (ha : -2097152 ≤ a ∧ a ≤ 2097152) (hb : -2097152 ≤ b ∧ b ≤ 2097152) : squareW a b = a * a + b * b ∧ 0 ≤ squareW a b ∧ squareW a b ≤ 8796093022208 := by
  have k1 := mul_bd a a 2097152 2097152 (by omega) ha ha
  have k2 := mul_bd b b 2097152 2097152 (by omega) hb hb
  have n1 := sq_nonneg_int a
  have n2 := sq_nonneg_int b
  unfold squareW
  rw [wrap64_in (a * a) (by omega) (by omega), wrap64_in (b * b) (by omega) (by omega), wrap64_in _ (by omega) (by omega)]
  omega
def incI (a b v w : IP) : Int := ((a.1 - w.1) * (a.1 - w.1) + (a.2 - w.2) * (a.2 - w.2)) * DI b v w + ((b.1 - w.1) * (b.1 - w.1) + (b.2 - w.2) * (b.2 - w.2)) * DI v a w + ((v.1 - w.1) * (v.1 - w.1) + (v.2 - w.2) * (v.2 - w.2)) * DI a b w
theorem inc_toR (a b v w : IP) : inc (toR a) (toR b) (toR v) (toR w) = ((incI a b v w : Int) : Rat) := by
  unfold inc q2 incI
  rw [D_toR, D_toR, D_toR]
  simp only [toR, Rat.intCast_add, Rat.intCast_mul, Rat.intCast_sub]
theorem circleW_eq (a b c d : IP) (ha : nearP a) (hb : nearP b) (hc : nearP c) (hd : nearP d) : circleW a.1 a.2 b.1 b.2 c.1 c.2 d.1 d.2 = sgn (incI a b c d) := by
  have ha := near_bd ha
  have hb := near_bd hb
  have hc := near_bd hc
  have hd := near_bd hd
  unfold circleW part1
  rw [wrap64_in (a.1 - d.1) (by omega) (by omega), wrap64_in (a.2 - d.2) (by omega) (by omega), wrap64_in (b.1 - d.1) (by omega) (by omega), wrap64_in (b.2 - d.2) (by omega) (by omega), wrap64_in (c.1 - d.1) (by omega) (by omega), wrap64_in (c.2 - d.2) (by omega) (by omega)]
  have s1 := sqW_eq (a.1 - d.1) (a.2 - d.2) (by omega) (by omega)
  have s2 := sqW_eq (b.1 - d.1) (b.2 - d.2) (by omega) (by omega)
  have s3 := sqW_eq (c.1 - d.1) (c.2 - d.2) (by omega) (by omega)
  have t1 := crossW_eq (b.1 - d.1) (b.2 - d.2) (c.1 - d.1) (c.2 - d.2) (by omega) (by omega) (by omega) (by omega)
  have t2 := crossW_eq (c.1 - d.1) (c.2 - d.2) (a.1 - d.1) (a.2 - d.2) (by omega) (by omega) (by omega) (by omega)
  have t3 := crossW_eq (a.1 - d.1) (a.2 - d.2) (b.1 - d.1) (b.2 - d.2) (by omega) (by omega) (by omega) (by omega)
  have bd : ∀ x y z u : Int, (-2097152 ≤ x ∧ x ≤ 2097152) → (-2097152 ≤ y ∧ y ≤ 2097152) → (-2097152 ≤ z ∧ z ≤ 2097152) → (-2097152 ≤ u ∧ u ≤ 2097152) → -8796093022208 ≤ x * u - y * z ∧ x * u - y * z ≤ 8796093022208 := fun x y z u hx hy hz hu => by
    have k1 := mul_bd x u 2097152 2097152 (by omega) hx hu
    have k2 := mul_bd y z 2097152 2097152 (by omega) hy hz
    omega
  have u1 := bd (b.1 - d.1) (b.2 - d.2) (c.1 - d.1) (c.2 - d.2) (by omega) (by omega) (by omega) (by omega)
  have u2 := bd (c.1 - d.1) (c.2 - d.2) (a.1 - d.1) (a.2 - d.2) (by omega) (by omega) (by omega) (by omega)
  have u3 := bd (a.1 - d.1) (a.2 - d.2) (b.1 - d.1) (b.2 - d.2) (by omega) (by omega) (by omega) (by omega)
  rw [← t1] at u1
  rw [← t2] at u2
  rw [← t3] at u3
  have m1 := mul_bd (crossW (b.1 - d.1) (b.2 - d.2) (c.1 - d.1) (c.2 - d.2)) (squareW (a.1 - d.1) (a.2 - d.2)) 8796093022208 8796093022208 (by omega) u1 (by omega)
  have m2 := mul_bd (crossW (c.1 - d.1) (c.2 - d.2) (a.1 - d.1) (a.2 - d.2)) (squareW (b.1 - d.1) (b.2 - d.2)) 8796093022208 8796093022208 (by omega) u2 (by omega)
  have m3 := mul_bd (crossW (a.1 - d.1) (a.2 - d.2) (b.1 - d.1) (b.2 - d.2)) (squareW (c.1 - d.1) (c.2 - d.2)) 8796093022208 8796093022208 (by omega) u3 (by omega)
  rw [wrap128_in _ (by omega) (by omega), s1.1, s2.1, s3.1, t1, t2, t3]
  congr 1
  unfold incI DI Geo.D
  grind
theorem sgn_pos_iff (x : Int) : 0 < sgn x ↔ 0 < x := by have := sgn_cases x; omega
theorem sgn_nn_iff (x : Int) : 0 ≤ sgn x ↔ 0 ≤ x := by have := sgn_cases x; omega
theorem meetB_iff (a b c d : IP) (ha : nearP a) (hb : nearP b) (hc : nearP c) (hd : nearP d) : meetB a.1 a.2 b.1 b.2 c.1 c.2 d.1 d.2 = true ↔ MtI a b c d := by
  unfold meetB overlapB oneSideB MtI DI Geo.Over
  rw [turnW_eq _ _ _ _ _ _ ha hb hc, turnW_eq _ _ _ _ _ _ ha hb hd, turnW_eq _ _ _ _ _ _ hc hd ha, turnW_eq _ _ _ _ _ _ hc hd hb]
  simp only [Bool.and_eq_true, Bool.not_eq_true', decide_eq_true_eq, decide_eq_false_iff_not, sgn_same, and_assoc]
section
variable {V : Nat → IP} {n : Nat} (near : ∀ i, i < n → nearP (V i))
include near
theorem leftB_iff {i j v : Nat} (hi : i < n) (hj : j < n) (hv : v < n) : leftB V i j v = true ↔ 0 < D (toR (V i)) (toR (V j)) (toR (V v)) := by
  unfold leftB
  rw [turnW_eq _ _ _ _ _ _ (near i hi) (near j hj) (near v hv), decide_eq_true_iff, sgn_pos_iff, D_toR, pos_toR]
  rfl
theorem nearerB_iff {i j v o : Nat} (hi : i < n) (hj : j < n) (hv : v < n) (ho : o < n) : nearerB V i j v o = true ↔ 0 < inc (toR (V i)) (toR (V j)) (toR (V o)) (toR (V v)) := by
  unfold nearerB
  rw [circleW_eq _ _ _ _ (near i hi) (near j hj) (near o ho) (near v hv), decide_eq_true_iff, sgn_pos_iff, inc_toR, pos_toR]
theorem tw_nn {i j : Nat} {p : IP} (hi : i < n) (hj : j < n) (hp : nearP p) : 0 ≤ tw V i j p ↔ 0 ≤ D (toR (V i)) (toR (V j)) (toR p) := by
  unfold tw
  rw [turnW_eq _ _ _ _ _ _ (near i hi) (near j hj) hp, sgn_nn_iff, D_toR]
  exact (le_toR 0 _).symm
theorem coverB_iff {i j k : Nat} {p : IP} (hi : i < n) (hj : j < n) (hk : k < n) (hp : nearP p) : coverB V i j k p = true ↔ Tri (toR p) (toR (V i)) (toR (V j)) (toR (V k)) := by
  unfold coverB Tri
  rw [decide_eq_true_iff, tw_nn near hi hj hp, tw_nn near hj hk hp, tw_nn near hk hi hp]
theorem crossB_iff {i j k l : Nat} (hi : i < n) (hj : j < n) (hk : k < n) (hl : l < n) : crossB V i j k l = true ↔ (i ≠ k ∧ i ≠ l ∧ j ≠ k ∧ j ≠ l) ∧ Mt (toR (V i)) (toR (V j)) (toR (V k)) (toR (V l)) := by
  unfold crossB
  rw [Mt_toR, ← meetB_iff _ _ _ _ (near i hi) (near j hj) (near k hk) (near l hl)]
  by_cases h : i = k ∨ i = l ∨ j = k ∨ j = l
  · rw [if_pos h]
    constructor
    · intro h; cases h
    · intro g; exfalso; omega
  · rw [if_neg h]
    constructor
    · intro g; exact ⟨by omega, g⟩
    · exact fun g => g.2
theorem clear_iff {K : Nat → Nat → Prop} {E : Nat → Nat × Nat} {m : Nat} (hE : ∀ u, u < m → (E u).1 < n ∧ (E u).2 < n) (ek : ∀ u, u < m → K (E u).1 (E u).2 ∨ K (E u).2 (E u).1) (ke : ∀ a b, K a b → ∃ u, u < m ∧ (E u = (a, b) ∨ E u = (b, a)))
    {i j v : Nat} (hi : i < n) (hj : j < n) (hv : v < n) : (leftB V i j v = true ∧ clearB V n E m i j v = true) ↔ Clear (fun i => toR (V i)) n K i j v := by
  have hold : anyB n (fun w => holdB V i j v w) = false ↔ ∀ w, w < n → w ≠ i → w ≠ j → w ≠ v → ¬ Tri (toR (V w)) (toR (V i)) (toR (V j)) (toR (V v)) := by
    constructor
    · intro h w hw h1 h2 h3 t
      have : anyB n (fun w => holdB V i j v w) = true := anyB_true.2 ⟨w, hw, by
        unfold holdB in3
        rw [(coverB_iff near hi hj hv (near w hw)).2 t]
        simp; omega⟩
      rw [h] at this; cases this
    · intro h
      refine anyB_false fun w hw => ?_
      cases q : holdB V i j v w
      · rfl
      · exfalso
        unfold holdB in3 at q
        simp only [Bool.and_eq_true, Bool.not_eq_true', decide_eq_false_iff_not] at q
        exact h w hw (fun e => q.1 (.inl e)) (fun e => q.1 (.inr (.inl e))) (fun e => q.1 (.inr (.inr e))) ((coverB_iff near hi hj hv (near w hw)).1 q.2)
  have crs : ∀ x y c d, x < n → y < n → c < n → d < n → (crossB V x y c d = false ↔ (c ≠ x → d ≠ x → c ≠ y → d ≠ y → ¬ Mt (toR (V x)) (toR (V y)) (toR (V c)) (toR (V d)))) := by
    intro x y c d hx hy hc hd
    have := crossB_iff near hx hy hc hd
    constructor
    · intro h h1 h2 h3 h4 t
      have := this.2 ⟨⟨Ne.symm h1, Ne.symm h2, Ne.symm h3, Ne.symm h4⟩, t⟩
      rw [h] at this; cases this
    · intro h
      cases q : crossB V x y c d
      · rfl
      · obtain ⟨⟨a1, a2, a3, a4⟩, a5⟩ := this.1 q
        exact absurd a5 (h (Ne.symm a1) (Ne.symm a2) (Ne.symm a3) (Ne.symm a4))
  have cross : anyB m (fun u => crossedT V i j v (E u).1 (E u).2) = false ↔ ∀ u, u < m → crossB V i j (E u).1 (E u).2 = false ∧ crossB V j v (E u).1 (E u).2 = false ∧ crossB V v i (E u).1 (E u).2 = false := by
    constructor
    · intro h u hu
      have hc : crossedT V i j v (E u).1 (E u).2 = false := by
        cases q : crossedT V i j v (E u).1 (E u).2
        · rfl
        · have : anyB m (fun u => crossedT V i j v (E u).1 (E u).2) = true := anyB_true.2 ⟨u, hu, q⟩
          rw [h] at this; cases this
      unfold crossedT at hc
      simp only [decide_eq_false_iff_not, not_or, Bool.not_eq_true] at hc
      exact hc
    · intro h
      refine anyB_false fun u hu => ?_
      unfold crossedT
      simp only [decide_eq_false_iff_not, not_or, Bool.not_eq_true]
      exact h u hu
  have cl : clearB V n E m i j v = true ↔ anyB n (fun w => holdB V i j v w) = false ∧ anyB m (fun u => crossedT V i j v (E u).1 (E u).2) = false := by
    unfold clearB
    simp only [Bool.and_eq_true, Bool.not_eq_true']
  rw [cl, hold, cross, leftB_iff near hi hj hv]
  constructor
  · rintro ⟨h1, h2, h3⟩
    have side : ∀ x y, x < n → y < n → (∀ u, u < m → crossB V x y (E u).1 (E u).2 = false) → ∀ c d, K c d → c ≠ x → d ≠ x → c ≠ y → d ≠ y → ¬ Mt (toR (V x)) (toR (V y)) (toR (V c)) (toR (V d)) := by
      intro x y hx hy h c d k q1 q2 q3 q4
      obtain ⟨u, hu, e | e⟩ := ke c d k
      · have g := h u hu
        have hn := hE u hu
        rw [e] at g hn
        exact (crs x y c d hx hy hn.1 hn.2).1 g q1 q2 q3 q4
      · have g := h u hu
        have hn := hE u hu
        rw [e] at g hn
        exact fun t => (crs x y d c hx hy hn.1 hn.2).1 g q2 q1 q4 q3 ((Mt_flip _ _ _ _).1 t)
    exact ⟨hv, h1, h2, side i j hi hj (fun u hu => (h3 u hu).1), side j v hj hv (fun u hu => (h3 u hu).2.1), side v i hv hi (fun u hu => (h3 u hu).2.2)⟩
  · intro C
    refine ⟨C.left, C.free, fun u hu => ?_⟩
    have hn := hE u hu
    refine ⟨(crs _ _ _ _ hi hj hn.1 hn.2).2 fun q1 q2 q3 q4 => ?_, (crs _ _ _ _ hj hv hn.1 hn.2).2 fun q1 q2 q3 q4 => ?_, (crs _ _ _ _ hv hi hn.1 hn.2).2 fun q1 q2 q3 q4 => ?_⟩
    · rcases ek u hu with k | k
      · exact C.s1 _ _ k q1 q2 q3 q4
      · exact fun t => C.s1 _ _ k q2 q1 q4 q3 ((Mt_flip _ _ _ _).1 t)
    · rcases ek u hu with k | k
      · exact C.s2 _ _ k q1 q2 q3 q4
      · exact fun t => C.s2 _ _ k q2 q1 q4 q3 ((Mt_flip _ _ _ _).1 t)
    · rcases ek u hu with k | k
      · exact C.s3 _ _ k q1 q2 q3 q4
      · exact fun t => C.s3 _ _ k q2 q1 q4 q3 ((Mt_flip _ _ _ _).1 t)
theorem bst_ok {K : Nat → Nat → Prop} {E : Nat → Nat × Nat} {m : Nat} (hE : ∀ u, u < m → (E u).1 < n ∧ (E u).2 < n) (ek : ∀ u, u < m → K (E u).1 (E u).2 ∨ K (E u).2 (E u).1) (ke : ∀ a b, K a b → ∃ u, u < m ∧ (E u = (a, b) ∨ E u = (b, a)))
    {i j : Nat} (hi : i < n) (hj : j < n) : ∀ q, q ≤ n → match bst V n E m i j q with
      | none => ∀ z, z < q → ¬ Clear (fun i => toR (V i)) n K i j z
      | some u => u < q ∧ Clear (fun i => toR (V i)) n K i j u ∧ ∀ z, z < q → Clear (fun i => toR (V i)) n K i j z → inc (toR (V i)) (toR (V j)) (toR (V u)) (toR (V z)) ≤ 0 := by
  intro q
  induction q with
  | zero => intro _ z h; omega
  | succ q ih =>
    intro hq
    have ih := ih (by omega)
    have ci := clear_iff near hE ek ke hi hj (show q < n by omega)
    have self : inc (toR (V i)) (toR (V j)) (toR (V q)) (toR (V q)) ≤ 0 := by
      have : inc (toR (V i)) (toR (V j)) (toR (V q)) (toR (V q)) = 0 := by unfold inc q2 D; grind
      rw [this]; exact Rat.le_refl
    unfold bst
    cases hb : bst V n E m i j q with
    | none =>
      rw [hb] at ih
      simp only at ih ⊢
      by_cases c : leftB V i j q = true ∧ clearB V n E m i j q = true
      · rw [if_pos (by simp [c.1, c.2])]
        refine ⟨by omega, ci.1 c, fun z hz Cz => ?_⟩
        rcases Nat.lt_or_ge z q with h | h
        · exact absurd Cz (ih z h)
        · have : z = q := by omega
          subst this; exact self
      · rw [if_neg (by simpa [Bool.and_eq_true] using c)]
        intro z hz Cz
        rcases Nat.lt_or_ge z q with h | h
        · exact ih z h Cz
        · have : z = q := by omega
          subst this; exact c (ci.2 Cz)
    | some u =>
      rw [hb] at ih
      simp only at ih ⊢
      obtain ⟨hu, Cu, best⟩ := ih
      by_cases c : leftB V i j q = true ∧ clearB V n E m i j q = true
      · cases hn : nearerB V i j q u
        · rw [if_neg (by simp)]
          refine ⟨by omega, Cu, fun z hz Cz => ?_⟩
          rcases Nat.lt_or_ge z q with h | h
          · exact best z h Cz
          · have : z = q := by omega
            subst this
            refine Rat.not_lt.1 fun g => ?_
            have := (nearerB_iff near hi hj (by omega) (by omega)).2 g
            rw [hn] at this; cases this
        · rw [if_pos (by simp [c.1, c.2])]
          have g := (nearerB_iff near hi hj (show q < n by omega) (show u < n by omega)).1 hn
          refine ⟨by omega, ci.1 c, fun z hz Cz => ?_⟩
          rcases Nat.lt_or_ge z q with h | h
          · exact inc_trans Cu.left (ci.1 c).left Cz.left (best z h Cz) g
          · have : z = q := by omega
            subst this; exact self
      · rw [if_neg (by
          intro h
          simp only [Bool.and_eq_true] at h
          exact c ⟨h.1, h.2.2⟩)]
        refine ⟨by omega, Cu, fun z hz Cz => ?_⟩
        rcases Nat.lt_or_ge z q with h | h
        · exact best z h Cz
        · have : z = q := by omega
          subst this
          exact absurd (ci.2 Cz) c
end
end Go.Proofs.Ytdkaoopkbhaheaa
