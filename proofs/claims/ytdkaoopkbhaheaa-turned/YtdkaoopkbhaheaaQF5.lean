import Derived.Test.YtdkaoopkbhaheaaPF1
import Derived.Test.YtdkaoopkbhaheaaPR1
import Derived.RangeFuncNested
import Derived.RangeFuncBound
import Derived.RangeFuncCalls
import Derived.RangeFuncLeaves
import Derived.Shelf.Abstract
import Derived.Shelf.RegionOpen
import Derived.OwnWalkIn
import Derived.TacticsInMore
import Derived.LoopNIn
import Derived.LoopIn
import Derived.Stop.RegionWithIn
namespace Go.Proofs.Ytdkaoopkbhaheaa
open Go.RowKit Go.Lib Go.Shelf
open Jor
set_option linter.unusedVariables false
set_option linter.unusedSimpArgs false
attribute [local go_sem] Oper.semAt_some
structure KeptBut (n₀ B : Nat) (W W' : World) : Prop where
  size : W.heap.size ≤ W'.heap.size
  block : ∀ k, k < n₀ → k ≠ B → W'.heap[k]? = W.heap[k]?
theorem KeptBut.refl (n₀ B : Nat) (W : World) : KeptBut n₀ B W W := ⟨Nat.le_refl _, fun _ _ _ => rfl⟩
theorem KeptBut.trans {n₀ B : Nat} {X Y Z : World} (h : KeptBut n₀ B X Y) (k : KeptBut n₀ B Y Z) : KeptBut n₀ B X Z := ⟨Nat.le_trans h.size k.size, fun i h1 h2 => (k.block i h1 h2).trans (h.block i h1 h2)⟩
theorem KeptBut.of_below {n₀ B m : Nat} {X Y : World} (h : Below m X Y) (hm : n₀ ≤ m) : KeptBut n₀ B X Y := ⟨h.size, fun k h1 _ => h.block k (by omega)⟩
theorem KeptBut.cell {n₀ B : Nat} {X Y : World} (h : KeptBut n₀ B X Y) {p : Addr} (h1 : p.block < n₀) (h2 : p.block ≠ B) : Y.cell? p = X.cell? p := World.cell?_of_block (h.block _ h1 h2)
theorem KeptBut.setCell {n₀ B : Nat} (W : World) (o : Nat) (v : Value) : KeptBut n₀ B W (W.setCell ⟨B, o, none⟩ v) :=
  ⟨by simp, fun k _ hk => Below.heap_setCell W _ v k hk⟩
theorem keptBut_b {n₀ B : Nat} {w : World} (hn : n₀ ≤ w.heap.size) (W : World) (l : Nat) (o o' : Obj) (hl : w.heap.size ≤ l) (_ : W.heap[l]? = some o) (_ : o.isCells = false) (_ : o.isWalk = false) : KeptBut n₀ B W (W.putObj l o') :=
  ⟨by simp, fun k h1 _ => World.putObj_heap_other (by omega)⟩
def sidesTo (r : List IP) (k : Nat) : List (IP × IP) := (List.range k).map fun i => (pt r i, pt r ((i + 1) % r.length))
theorem sidesTo_succ (r : List IP) (k : Nat) : sidesTo r (k + 1) = sidesTo r k ++ [(pt r k, pt r ((k + 1) % r.length))] := by simp [sidesTo, List.range_succ]
theorem sidesTo_length (r : List IP) (k : Nat) : (sidesTo r k).length = k := by simp [sidesTo]
abbrev encS (x : IP × IP) : Array Value := #[.agg #[.int .i64 x.1.1, .int .i64 x.1.2], .agg #[.int .i64 x.2.1, .int .i64 x.2.2]]
set_option maxHeartbeats 1000000 in
theorem sides_in (F : Fence) (n : Nat) (h : F.fn 101) (hro : F.round = none) (a : Option Addr) (len cap : Nat) (w : World) :
    CallsIn F n Try.prog 101 #[.slice a len cap] w fun e w' => e = .returned (.func (.func 111) #[] #[.pointer (some ⟨w.heap.size, 0, none⟩)]) ∧ w' = w.alloc (.cells #[.slice a len cap] 50) := by
  refine callsIn_of_wp Try.func101 rfl h ?_ hro
  simp only [Try.ntmps101, List.size_toArray, List.length_cons, List.length_nil, Nat.reduceAdd, Nat.reduceSub, Array.replicate_succ, Array.replicate_zero, List.push_toArray, List.append_toArray, List.nil_append, List.cons_append]
  gi_wp2
  go_ret
  exact ⟨rfl, rfl⟩
set_option maxRecDepth 100000 in
set_option maxHeartbeats 4000000 in
theorem sides1_in (F : Fence) (n : Nat) (h : F.fn 111) (hro : F.round = none) (hn : 1 ≤ n) (l Bs n₀ b of cap : Nat) (r : List IP) (hreach : r.length ≤ 1048576) (B : Nat) (hb : b < n₀) (hbB : b ≠ B) (hBn : Bs < n₀) (hBB : Bs ≠ B) (J Jx : List (IP × IP) → World → Prop)
    (hY : ∀ pre x W, J pre W → pre.length < r.length → YieldAt F (n - 1) Try.prog l (encS x) W fun e W' =>
      (e = .returned (.bool true) ∧ J (pre ++ [x]) W' ∧ KeptBut n₀ B W W') ∨ (e = .returned (.bool false) ∧ Jx (pre ++ [x]) W'))
    (hJa : ∀ pre W o, J pre W → n₀ ≤ W.heap.size → J pre (W.alloc o)) (hJd : ∀ pre W, J pre W → J pre W.drew)
    (W : World) (hW : n₀ ≤ W.heap.size) (hBs : W.cell? ⟨Bs, 0, none⟩ = some (.slice (some ⟨b, of, none⟩) r.length cap))
    (hc : ∀ j, j < r.length → W.cell? ⟨b, of + j * 2, none⟩ = some (.int .i64 (pt r j).1) ∧ W.cell? ⟨b, of + j * 2 + 1, none⟩ = some (.int .i64 (pt r j).2)) (h0 : J [] W) :
    CallsIn F n Try.prog 111 #[.func (.yield l) #[] #[], .pointer (some ⟨Bs, 0, none⟩)] W fun e W' => (∃ v, e = .returned v) ∧
      ((∃ ys, ys = sidesTo r r.length ∧ J ys W') ∨ (∃ pre, (∃ k, k < r.length ∧ pre = sidesTo r (k + 1)) ∧ Jx pre W')) := by
  refine callsIn_of_wp Try.func111 rfl h ?_ hro
  simp only [Try.ntmps111, List.size_toArray, List.length_cons, List.length_nil, Nat.reduceAdd, Nat.reduceSub, Array.replicate_succ, Array.replicate_zero, List.push_toArray, List.append_toArray, List.nil_append, List.cons_append]
  gi_wp2
  gi_loopw [3, 4, 7] (fun _ _ i wr => ∃ k : Nat, k ≤ r.length ∧ i = .int .i64 k ∧ J (sidesTo r k) wr ∧ KeptBut n₀ B W wr) (fun _ _ i _ => r.length - (intOf i).toNat)
  case atStart => exact ⟨0, Nat.zero_le _, rfl, h0, KeptBut.refl _ _ _⟩
  case round =>
    obtain ⟨k, hk, rfl, hJs, hnx⟩ := hrel
    by_cases hlt : k < r.length
    · have hj : (k + 1) % r.length < r.length := Nat.mod_lt _ (by omega)
      have hsw : n₀ ≤ wr.heap.size := Nat.le_trans hW hnx.size
      have hB : Below wr.heap.size wr (wr.alloc (.cells #[.int .i64 (pt r k).1, .int .i64 (pt r k).2] 25)).drew := ((Below.refl _ _).alloc (Nat.le_refl _) _).drew
      have hB0 : KeptBut n₀ B W (wr.alloc (.cells #[.int .i64 (pt r k).1, .int .i64 (pt r k).2] 25)).drew := hnx.trans (KeptBut.of_below hB hsw)
      have c1 := (hnx.cell (p := ⟨b, of + k * 2, none⟩) hb hbB).trans (hc k hlt).1
      have c2 := (hnx.cell (p := ⟨b, of + k * 2 + 1, none⟩) hb hbB).trans (hc k hlt).2
      have c3 := (hnx.cell (p := ⟨b, of + (k + 1) % r.length * 2, none⟩) hb hbB).trans (hc _ hj).1
      have c4 := (hnx.cell (p := ⟨b, of + (k + 1) % r.length * 2 + 1, none⟩) hb hbB).trans (hc _ hj).2
      have cb := (hnx.cell (p := ⟨Bs, 0, none⟩) hBn hBB).trans hBs
      have d3 := cell_later hB c3
      have d4 := cell_later hB c4
      have db := cell_later hB cb
      have dx1 : (wr.alloc (.cells #[.int .i64 (pt r k).1, .int .i64 (pt r k).2] 25)).drew.cell? ⟨wr.heap.size, 0, none⟩ = some (.int .i64 (pt r k).1) := by simp [go_sem]
      have dx2 : (wr.alloc (.cells #[.int .i64 (pt r k).1, .int .i64 (pt r k).2] 25)).drew.cell? ⟨wr.heap.size, 1, none⟩ = some (.int .i64 (pt r k).2) := by simp [go_sem]
      obtain ⟨fn, tmps, assign, body, hy, hR⟩ := hY (sidesTo r k) (pt r k, pt r ((k + 1) % r.length)) (wr.alloc (.cells #[.int .i64 (pt r k).1, .int .i64 (pt r k).2] 25)).drew (hJd _ _ (hJa _ _ _ hJs hsw)) (by rw [sidesTo_length]; exact hlt)
      dsimp only [encS] at hy
      have hmod : ((k : Int) + 1).tmod (r.length : Int) = (((k + 1) % r.length : Nat) : Int) := by
        rw [Int.tmod_eq_emod_of_nonneg (by omega), Int.natCast_emod]; rfl
      have hw1 : IntKind.i64.wrap ((k : Int) + 1) = (k : Int) + 1 := by rw [wrap_i64]; exact wrap64_in _ (by omega) (by omega)
      have HS : Hid (sidesTo r (k + 1) = sidesTo r k ++ [(pt r k, pt r ((k + 1) % r.length))]) := sidesTo_succ r k
      have HR : Hid (RoundIn F (n - 1) Try.prog l fn tmps assign body (wr.alloc (.cells #[.int .i64 (pt r k).1, .int .i64 (pt r k).2] 25)).drew fun e W' => ∃ c : Bool, e = .returned (.bool c) ∧ ((c = true ∧ J (sidesTo r k ++ [(pt r k, pt r ((k + 1) % r.length))]) W' ∧ KeptBut n₀ B (wr.alloc (.cells #[.int .i64 (pt r k).1, .int .i64 (pt r k).2] 25)).drew W') ∨ (c = false ∧ Jx (sidesTo r k ++ [(pt r k, pt r ((k + 1) % r.length))]) W'))) :=
        hR.mono fun e W' h' => h'.elim (fun h'' => ⟨true, h''.1, .inl ⟨rfl, h''.2⟩⟩) (fun h'' => ⟨false, h''.1, .inr ⟨rfl, h''.2⟩⟩)
      clear hR
      generalize (k + 1) % r.length = j at *
      have hl0 : ¬ r.length = 0 := by omega
      have hl1 : ((r.length : Int) == 0) = false := by rw [beq_eq_false_iff_ne]; omega
      have hj0 : (0 : Int) ≤ (j : Int) := by omega
      have hjn : (j : Int) < (r.length : Int) := by omega
      gi_wp2
      refine wpIn_region_S [10, 11] (by kernel_rfl) ?_
      intro hc0
      refine anyS_take (i := 0) (v := .func (.yield l) #[] #[]) (f := 12) hro rfl (by kernel_rfl) (by kernel_rfl) (by kernel_rfl) (by kernel_rfl) (fun _ _ _ h => h) hc0 rfl ⟨by rfl, ?y0, by intro w; rfl⟩ ?r0
      case y0 => rintro w rfl; go_simp
      case r0 =>
      intro hc1
      simp only [Act.put, List.setIfInBounds_toArray, List.set_cons_zero, List.set_cons_succ, List.getElem_toArray, List.getElem_cons_succ, List.getElem_cons_zero]
      refine anyS_take (i := 1) (v := .agg #[.int .i64 (pt r k).1, .int .i64 (pt r k).2]) (f := 12) hro rfl (by kernel_rfl) (by kernel_rfl) (by kernel_rfl) (by kernel_rfl) (fun _ _ _ h => h) hc1 rfl ⟨by rfl, ?y1, by intro w; rfl⟩ ?r1
      case y1 => rintro w rfl; go_simp
      case r1 =>
      intro hc2
      simp only [Act.put, List.setIfInBounds_toArray, List.set_cons_zero, List.set_cons_succ, List.getElem_toArray, List.getElem_cons_succ, List.getElem_cons_zero]
      refine anyS_take (i := 2) (v := .slice (some ⟨b, of, none⟩) r.length cap) (f := 12) hro rfl (by kernel_rfl) (by kernel_rfl) (by kernel_rfl) (by kernel_rfl) (fun _ _ _ h => h) hc2 rfl ⟨by rfl, ?y2, by intro w; rfl⟩ ?r2
      case y2 => rintro w rfl; go_simp
      case r2 =>
      intro hc3
      simp only [Act.put, List.setIfInBounds_toArray, List.set_cons_zero, List.set_cons_succ, List.getElem_toArray, List.getElem_cons_succ, List.getElem_cons_zero]
      refine anyS_take (i := 3) (v := .int .i64 (k : Int)) (f := 12) hro rfl (by kernel_rfl) (by kernel_rfl) (by kernel_rfl) (by kernel_rfl) (fun _ _ _ h => h) hc3 rfl ⟨by rfl, ?y3, by intro w; rfl⟩ ?r3
      case y3 => rintro w rfl; go_simp
      case r3 =>
      intro hc4
      simp only [Act.put, List.setIfInBounds_toArray, List.set_cons_zero, List.set_cons_succ, List.getElem_toArray, List.getElem_cons_succ, List.getElem_cons_zero]
      refine anyS_take (i := 4) (v := .int .i64 ((k : Int) + 1)) (f := 12) hro rfl (by kernel_rfl) (by kernel_rfl) (by kernel_rfl) (by kernel_rfl) (fun _ _ _ h => h) hc4 rfl ⟨by rfl, ?y4, by intro w; rfl⟩ ?r4
      case y4 => rintro w rfl; go_simp
      case r4 =>
      intro hc5
      simp only [Act.put, List.setIfInBounds_toArray, List.set_cons_zero, List.set_cons_succ, List.getElem_toArray, List.getElem_cons_succ, List.getElem_cons_zero]
      refine anyS_take (i := 5) (v := .slice (some ⟨b, of, none⟩) r.length cap) (f := 12) hro rfl (by kernel_rfl) (by kernel_rfl) (by kernel_rfl) (by kernel_rfl) (fun _ _ _ h => h) hc5 rfl ⟨by rfl, ?y5, by intro w; rfl⟩ ?r5
      case y5 => rintro w rfl; go_simp
      case r5 =>
      intro hc6
      simp only [Act.put, List.setIfInBounds_toArray, List.set_cons_zero, List.set_cons_succ, List.getElem_toArray, List.getElem_cons_succ, List.getElem_cons_zero]
      refine anyS_take (i := 6) (v := .int .i64 (r.length : Int)) (f := 12) hro rfl (by kernel_rfl) (by kernel_rfl) (by kernel_rfl) (by kernel_rfl) (fun _ _ _ h => h) hc6 rfl ⟨by rfl, ?y6, by intro w; rfl⟩ ?r6
      case y6 => rintro w rfl; go_simp
      case r6 =>
      intro hc7
      simp only [Act.put, List.setIfInBounds_toArray, List.set_cons_zero, List.set_cons_succ, List.getElem_toArray, List.getElem_cons_succ, List.getElem_cons_zero]
      refine anyS_take (i := 7) (v := .int .i64 (j : Int)) (f := 12) hro rfl (by kernel_rfl) (by kernel_rfl) (by kernel_rfl) (by kernel_rfl) (fun _ _ _ h => h) hc7 rfl ⟨by rfl, ?y7, by intro w; rfl⟩ ?r7
      case y7 => rintro w rfl; go_simp
      case r7 =>
      intro hc8
      simp only [Act.put, List.setIfInBounds_toArray, List.set_cons_zero, List.set_cons_succ, List.getElem_toArray, List.getElem_cons_succ, List.getElem_cons_zero]
      refine anyS_take (i := 8) (v := .pointer (some ⟨b, of + j * 2, none⟩)) (f := 12) hro rfl (by kernel_rfl) (by kernel_rfl) (by kernel_rfl) (by kernel_rfl) (fun _ _ _ h => h) hc8 rfl ⟨by rfl, ?y8, by intro w; rfl⟩ ?r8
      case y8 => rintro w rfl; go_simp
      case r8 =>
      intro hc9
      simp only [Act.put, List.setIfInBounds_toArray, List.set_cons_zero, List.set_cons_succ, List.getElem_toArray, List.getElem_cons_succ, List.getElem_cons_zero]
      refine anyS_take (i := 9) (v := .agg #[.int .i64 (pt r j).1, .int .i64 (pt r j).2]) (f := 12) hro rfl (by kernel_rfl) (by kernel_rfl) (by kernel_rfl) (by kernel_rfl) (fun _ _ _ h => h) hc9 rfl ⟨by rfl, ?y9, by intro w; rfl⟩ ?r9
      case y9 => rintro w rfl; go_simp
      case r9 =>
      intro hc10
      simp only [Act.put, List.setIfInBounds_toArray, List.set_cons_zero, List.set_cons_succ, List.getElem_toArray, List.getElem_cons_succ, List.getElem_cons_zero]
      refine anyS_one (i := 10) (by kernel_rfl) ?_
      refine wpOpIn_step rfl ?_
      intro K' hK'
      go_simp
      refine RoundIn.mono HR.out ?_
      rintro e W3 ⟨c, rfl, hc3⟩
      refine hK' _ _ ⟨fun h => (by cases h), ?_⟩
      refine anyS_one (i := 11) (by kernel_rfl) ?_
      refine wpOpIn_step rfl ?_
      intro K2 hK2
      go_simp
      refine hK2 _ _ ⟨fun h => (by cases h), anyS_end (by kernel_rfl) ?_⟩
      rcases hc3 with ⟨rfl, hJ3, hk3⟩ | ⟨rfl, hJx3⟩
      · gi_wp2
        go_roundw
        case rel => exact ⟨k + 1, by omega, by go_num, by rw [HS.out]; exact hJ3, hB0.trans hk3⟩
        case measure => simp [intOf]; omega
      · gi_wp2
        refine bodyPost_ret (results_none rfl _ _ _) rfl ?_
        exact ⟨⟨_, rfl⟩, .inr ⟨_, ⟨k, hlt, HS.out.symm⟩, hJx3⟩⟩
    · obtain rfl : k = r.length := by omega
      gi_wp2
      go_end0
      exact ⟨⟨_, rfl⟩, .inl ⟨_, rfl, hJs⟩⟩
theorem sides_stops (F : Fence) (n : Nat) (h : F.fn 111) (hro : F.round = none) (hn : 1 ≤ n) (Bs n₀ b of cap : Nat) (r : List IP) (hreach : r.length ≤ 1048576) (w : World) (B : Nat) (hb : b < n₀) (hbB : b ≠ B) (hBs : Bs < n₀) (hBB : Bs ≠ B) (hn₀ : n₀ ≤ w.heap.size)
    (hc : w.cell? ⟨Bs, 0, none⟩ = some (.slice (some ⟨b, of, none⟩) r.length cap)) (hp : ∀ j, j < r.length → w.cell? ⟨b, of + j * 2, none⟩ = some (.int .i64 (pt r j).1) ∧ w.cell? ⟨b, of + j * 2 + 1, none⟩ = some (.int .i64 (pt r j).2)) :
    SeqStopsK F n Try.prog 111 #[.pointer (some ⟨Bs, 0, none⟩)] encS (KeptBut n₀ B) (fun ys => ys = sidesTo r r.length) (fun pre => ∃ k, k < r.length ∧ pre = sidesTo r (k + 1)) r.length w := fun l J Jx W hW hJ hJx hY h0 => by
  have hB := hW.mono hn₀
  refine sides1_in F n h hro hn l Bs n₀ b of cap r hreach B hb hbB hBs hBB J Jx hY ?_ ?_ W (Nat.le_trans hn₀ hW.size) ((hB.cell (p := ⟨Bs, 0, none⟩) hBs).trans hc) (fun j hj => ⟨(hB.cell (p := ⟨b, of + j * 2, none⟩) hb).trans (hp j hj).1, (hB.cell (p := ⟨b, of + j * 2 + 1, none⟩) hb).trans (hp j hj).2⟩) h0
  · intro pre W1 o h1 _
    exact hJ pre W1 _ none h1 (World.grownBy_alloc W1 o none) (fun r e => by cases e)
  · intro pre W1 h1
    exact hJ pre W1 _ none h1 ⟨rfl, rfl, rfl, Nat.le_refl _, fun _ _ _ => rfl⟩ (fun r e => by cases e)
end Go.Proofs.Ytdkaoopkbhaheaa
