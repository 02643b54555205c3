import Derived.Test.YtdkaoopkbhaheaaPN4
import Derived.Test.YtdkaoopkbhaheaaPR1
namespace Go.Proofs.Ytdkaoopkbhaheaa
open Go.RowKit Go.Lib
open Jor
open Go.ChangeMaps (setBlock heap_setBlock_same heap_setBlock_other)
set_option linter.unusedVariables false
set_option linter.unusedSimpArgs false
structure CutS (B : Nat) (w : World) (bc b of n cap bm : Nat) (L : List (Nat × Nat)) (F : Nat → Nat → Option Int) (v : Value) : Prop where
  lb : B ≤ bc
  lm : B ≤ bm
  blk : w.heap[bc]? = some (.cells #[.slice (some ⟨b, of, none⟩) n cap, v, .map (some bm)] 134)
  row : w.ownsRow B 120 2 v L.length (cellsA L)
  map : MapIs w bm F
section
variable {B : Nat} {w : World} {bc b of n cap bm : Nat} {L : List (Nat × Nat)} {F : Nat → Nat → Option Int} {v : Value}
theorem CutS.c0 (h : CutS B w bc b of n cap bm L F v) : w.cell? ⟨bc, 0, none⟩ = some (.slice (some ⟨b, of, none⟩) n cap) := by simp [World.cell?, h.blk]
theorem CutS.c1 (h : CutS B w bc b of n cap bm L F v) : w.cell? ⟨bc, 1, none⟩ = some v := by simp [World.cell?, h.blk]
theorem CutS.c2 (h : CutS B w bc b of n cap bm L F v) : w.cell? ⟨bc, 2, none⟩ = some (.map (some bm)) := by simp [World.cell?, h.blk]
theorem CutS.lt (h : CutS B w bc b of n cap bm L F v) : bc < w.heap.size := (Array.getElem?_eq_some_iff.1 h.blk).1
theorem CutS.ne (h : CutS B w bc b of n cap bm L F v) : bc ≠ bm := by
  rintro rfl
  obtain ⟨es, c, h1, _⟩ := h.map
  rw [h.blk] at h1; cases h1
end
theorem own_keep {w w' : World} {B : Nat} {e : TypeId} {size n : Nat} {v : Value} {xs : List Value} (h : w.ownsRow B e size v n xs) (hk : ∀ g, v.ownBlock = some g → w'.heap[g]? = w.heap[g]?) : w'.ownsRow B e size v n xs := by
  obtain ⟨h1, h2⟩ := h
  refine ⟨h1, ?_⟩
  rcases h2 with h2 | ⟨g, c, cur, rfl, h3, h4, h5⟩
  · exact .inl h2
  · exact .inr ⟨g, c, cur, rfl, h3, by rw [hk g rfl]; exact h4, h5⟩
theorem own_at {w : World} {B : Nat} {e : TypeId} {size n : Nat} {v : Value} {xs : List Value} (h : w.ownsRow B e size v n xs) {g : Nat} (hg : v.ownBlock = some g) : ∃ cur, w.heap[g]? = some (.cells cur e (0, 0)) := by
  obtain ⟨_, h2⟩ := h
  rcases h2 with h2 | ⟨g', c, cur, rfl, h3, h4, h5⟩
  · rw [h2.1] at hg; cases hg
  · cases hg; exact ⟨cur, h4⟩
section
variable {B : Nat} {w w' : World} {bc b of n cap bm : Nat} {L : List (Nat × Nat)} {F : Nat → Nat → Option Int} {v : Value}
theorem CutS.own_ne (h : CutS B w bc b of n cap bm L F v) {g : Nat} (hg : v.ownBlock = some g) : g ≠ bc ∧ g ≠ bm := by
  obtain ⟨cur, hc⟩ := own_at h.row hg
  refine ⟨?_, ?_⟩
  · rintro rfl
    rw [h.blk] at hc
    simp at hc
  · rintro rfl
    obtain ⟨es, c, h1, _⟩ := h.map
    rw [h1] at hc; cases hc
theorem CutS.keep (h : CutS B w bc b of n cap bm L F v) (h1 : w'.heap[bc]? = w.heap[bc]?) (h2 : w'.heap[bm]? = w.heap[bm]?) (h3 : ∀ g, v.ownBlock = some g → w'.heap[g]? = w.heap[g]?) : CutS B w' bc b of n cap bm L F v :=
  ⟨h.lb, h.lm, h1.trans h.blk, own_keep h.row h3, h.map.block h2⟩
theorem CutS.later (h : CutS B w bc b of n cap bm L F v) (hb : Below w.heap.size w w') : CutS B w' bc b of n cap bm L F v :=
  h.keep (hb.block _ h.lt) (hb.block _ h.map.lt) (fun g hg => by
    obtain ⟨cur, hc⟩ := own_at h.row hg
    exact hb.block _ (Array.getElem?_eq_some_iff.1 hc).1)
theorem own_later {w w' : World} {B : Nat} {e : TypeId} {size n : Nat} {v : Value} {xs : List Value} (h : w.ownsRow B e size v n xs) (hb : Below w.heap.size w w') : w'.ownsRow B e size v n xs :=
  own_keep h (fun g hg => by
    obtain ⟨cur, hc⟩ := own_at h hg
    exact hb.block _ (Array.getElem?_eq_some_iff.1 hc).1)
theorem CutS.mid {W w1 : World} {o : Obj} (h : CutS B W bc b of n cap bm L F v) (hg : (W.alloc o).grownBy w1 v.ownBlock) : w1.cell? ⟨bc, 1, none⟩ = some v ∧ w1.frozen? ⟨bc, 1, none⟩ = false := by
  have hs := h.lt
  have b1 : w1.heap[bc]? = some (.cells #[.slice (some ⟨b, of, none⟩) n cap, v, .map (some bm)] 134) := by
    rw [hg.block bc (by simp; omega) (fun e => (h.own_ne e.symm).1 rfl), Below.heap_alloc _ _ _ hs]
    exact h.blk
  exact ⟨by simp [World.cell?, b1], by simp [World.frozen?, b1]⟩
theorem CutS.stored {W w1 : World} {o : Obj} {L2 : List (Nat × Nat)} {v' : Value} (h : CutS B W bc b of n cap bm L F v) (hg : (W.alloc o).grownBy w1 v.ownBlock) (hown : w1.ownsRow B 120 2 v' L2.length (cellsA L2)) :
    CutS B (w1.setCell ⟨bc, 1, none⟩ v') bc b of n cap bm L2 F v' := by
  have hs := h.lt
  have hm := h.map.lt
  have b1 : w1.heap[bc]? = some (.cells #[.slice (some ⟨b, of, none⟩) n cap, v, .map (some bm)] 134) := by
    rw [hg.block bc (by simp; omega) (fun e => (h.own_ne e.symm).1 rfl), Below.heap_alloc _ _ _ hs]
    exact h.blk
  have m1 : MapIs w1 bm F := h.map.block (by rw [hg.block bm (by simp; omega) (fun e => (h.own_ne e.symm).2 rfl), Below.heap_alloc _ _ _ hm])
  have ne := h.ne
  refine ⟨h.lb, h.lm, ?_, ?_, ?_⟩
  · simp [World.setCell, Array.getElem?_modify, b1]
  · refine own_keep hown fun g hgv => ?_
    refine Below.heap_setCell _ _ _ _ ?_
    rintro rfl
    obtain ⟨cur, hc⟩ := own_at hown hgv
    rw [b1] at hc
    simp at hc
  · exact m1.block (Below.heap_setCell _ _ _ _ (Ne.symm ne))
set_option maxRecDepth 100000 in
theorem CutS.set (h : CutS B w bc b of n cap bm L F v) {i j : Nat} (hi : i ≤ 1048576) (hj : j ≤ 1048576) (x : Int) :
    ∃ o, (Instr.mapUpdate 94 (.map (some bm)) (ev i j) (.int .i64 x)).run Try.prog w = .ok () (setBlock w bm o) ∧ CutS B (setBlock w bm o) bc b of n cap bm L (upd F i j x) v ∧ Below B w (setBlock w bm o) ∧ ∀ k, k ≠ bm → (setBlock w bm o).heap[k]? = w.heap[k]? := by
  obtain ⟨o, h1, h2⟩ := map_set h.map hi hj x
  obtain ⟨es, c, hm, _⟩ := h.map
  have ne := h.ne
  refine ⟨o, h1, ⟨h.lb, h.lm, ?_, own_keep h.row fun g hg => ?_, h2⟩, ?_⟩
  · rw [heap_setBlock_other hm _ ne]; exact h.blk
  · exact heap_setBlock_other hm _ (h.own_ne hg).2
  · have lm := h.lm
    exact ⟨⟨rfl, rfl, rfl, by simp [setBlock], fun k hk => heap_setBlock_other hm _ (by omega)⟩, fun k hk => heap_setBlock_other hm _ hk⟩
end
end Go.Proofs.Ytdkaoopkbhaheaa
namespace Go.Proofs.Ytdkaoopkbhaheaa
open Go.RowKit Go.Lib
open Jor
open Go.ChangeMaps (setBlock heap_setBlock_same heap_setBlock_other)
set_option linter.unusedVariables false
set_option linter.unusedSimpArgs false
set_option maxRecDepth 100000 in
set_option maxHeartbeats 4000000 in
theorem open_any (B bc b of n cap bm i j : Nat) (L : List (Nat × Nat)) (F : Nat → Nat → Option Int) (v : Value) (w : World) (hB : B ≤ w.heap.size) (hi : i ≤ 1048576) (hj : j ≤ 1048576) (hL : L.length + 1 ≤ 1048576) (hS : CutS B w bc b of n cap bm L F v) :
    Calls Try.prog 93 #[.pointer (some ⟨bc, 0, none⟩), ev i j] w fun e w' => e = .returned (.tuple #[]) ∧ (∃ v', CutS B w' bc b of n cap bm (L ++ [(i, j)]) (upd F i j (-1)) v') ∧ Below B w w' ∧ ∀ k, k < w.heap.size → k ≠ bc → k ≠ bm → v.ownBlock ≠ some k → w'.heap[k]? = w.heap[k]? := by
  obtain ⟨i0, hi0, hz0, hz1, hz2⟩ := info_parts infoA
  have bA : Below w.heap.size w (w.alloc (.cells #[.int .i64 (i : Int), .int .i64 (j : Int)] 120)) := (Below.refl _ _).alloc (Nat.le_refl _) _
  have x0 : (w.alloc (.cells #[.int .i64 (i : Int), .int .i64 (j : Int)] 120)).drew.cell? ⟨w.heap.size, 0, none⟩ = some (.int .i64 (i : Int)) := by simp [go_sem]
  have x1 : (w.alloc (.cells #[.int .i64 (i : Int), .int .i64 (j : Int)] 120)).drew.cell? ⟨w.heap.size, 1, none⟩ = some (.int .i64 (j : Int)) := by simp [go_sem]
  have xs : (w.alloc (.cells #[.int .i64 (i : Int), .int .i64 (j : Int)] 120)).drew.heap.size = w.heap.size + 1 := by simp
  have hS1 := hS.later bA.drew
  have bB : Below B w (w.alloc (.cells #[.int .i64 (i : Int), .int .i64 (j : Int)] 120)).drew := ((Below.refl _ _).alloc hB _).drew
  have hc1 := hS1.c1
  have hA2 : Hid (L.length + 1 ≤ maxLen) := by show _ ≤ _; unfold maxLen; omega
  have hlt := hS.lt
  unfold ev
  go_enter Try.func93, Try.ntmps93
  go_wp2
  refine wp_region_U (fun w' => w'.cell? ⟨bc, 1, none⟩ = some v ∧ w'.cell? ⟨w.heap.size, 0, none⟩ = some (.int .i64 (i : Int)) ∧ w'.cell? ⟨w.heap.size, 1, none⟩ = some (.int .i64 (j : Int))) [0, 7, 8, 9, 10] (by kernel_rfl) ?_
  intro hs0
  refine anyU_takeA (i := 0) (v := .pointer (some ⟨bc, 0, none⟩)) rfl (by kernel_rfl) (by kernel_rfl) (by kernel_rfl) (by kernel_rfl) (fun _ _ _ h => h) hs0 ⟨by rfl, ?y0⟩ ?r0
  case y0 => intro w' hw'; (try obtain ⟨y0, y1, y2⟩ := hw'); go_simp
  case r0 =>
  intro hs1
  simp only [Act.put, List.setIfInBounds_toArray, List.set_cons_zero, List.set_cons_succ, List.getElem_toArray, List.getElem_cons_succ, List.getElem_cons_zero]
  refine anyU_take (i := 1) (v := .pointer (some ⟨bc, 0, none⟩)) (f := 11) rfl (by kernel_rfl) (by kernel_rfl) (by kernel_rfl) (by kernel_rfl) (fun _ _ _ h => h) hs1 ⟨hc1, x0, x1⟩ ⟨by rfl, ?y1⟩ ?r1
  case y1 => intro w' hw'; (try obtain ⟨y0, y1, y2⟩ := hw'); go_simp
  case r1 =>
  intro hs2
  simp only [Act.put, List.setIfInBounds_toArray, List.set_cons_zero, List.set_cons_succ, List.getElem_toArray, List.getElem_cons_succ, List.getElem_cons_zero]
  refine anyU_take (i := 2) (v := .pointer (some ⟨bc, 0, none⟩)) (f := 11) rfl (by kernel_rfl) (by kernel_rfl) (by kernel_rfl) (by kernel_rfl) (fun _ _ _ h => h) hs2 ⟨hc1, x0, x1⟩ ⟨by rfl, ?y2⟩ ?r2
  case y2 => intro w' hw'; (try obtain ⟨y0, y1, y2⟩ := hw'); go_simp
  case r2 =>
  intro hs3
  simp only [Act.put, List.setIfInBounds_toArray, List.set_cons_zero, List.set_cons_succ, List.getElem_toArray, List.getElem_cons_succ, List.getElem_cons_zero]
  refine anyU_take (i := 3) (v := .pointer (some ⟨bc, 1, none⟩)) (f := 11) rfl (by kernel_rfl) (by kernel_rfl) (by kernel_rfl) (by kernel_rfl) (fun _ _ _ h => h) hs3 ⟨hc1, x0, x1⟩ ⟨by rfl, ?y3⟩ ?r3
  case y3 => intro w' hw'; (try obtain ⟨y0, y1, y2⟩ := hw'); go_simp
  case r3 =>
  intro hs4
  simp only [Act.put, List.setIfInBounds_toArray, List.set_cons_zero, List.set_cons_succ, List.getElem_toArray, List.getElem_cons_succ, List.getElem_cons_zero]
  refine anyU_take (i := 4) (v := v) (f := 11) rfl (by kernel_rfl) (by kernel_rfl) (by kernel_rfl) (by kernel_rfl) (fun _ _ _ h => h) hs4 ⟨hc1, x0, x1⟩ ⟨by rfl, ?y4⟩ ?r4
  case y4 => intro w' hw'; (try obtain ⟨y0, y1, y2⟩ := hw'); go_simp
  case r4 =>
  intro hs5
  simp only [Act.put, List.setIfInBounds_toArray, List.set_cons_zero, List.set_cons_succ, List.getElem_toArray, List.getElem_cons_succ, List.getElem_cons_zero]
  refine anyU_take (i := 5) (v := .agg #[.int .i64 (i : Int), .int .i64 (j : Int)]) (f := 11) rfl (by kernel_rfl) (by kernel_rfl) (by kernel_rfl) (by kernel_rfl) (fun _ _ _ h => h) hs5 ⟨hc1, x0, x1⟩ ⟨by rfl, ?y5⟩ ?r5
  case y5 => intro w' hw'; (try obtain ⟨y0, y1, y2⟩ := hw'); go_simp
  case r5 =>
  intro hs6
  simp only [Act.put, List.setIfInBounds_toArray, List.set_cons_zero, List.set_cons_succ, List.getElem_toArray, List.getElem_cons_succ, List.getElem_cons_zero]
  generalize hW : (w.alloc (.cells #[.int .i64 (i : Int), .int .i64 (j : Int)] 120)).drew = W at *
  refine anyU_one (i := 6) (by kernel_rfl) ?_
  refine wpOp_run rfl (by rfl) ?_
  go_simp
  have bC : Below W.heap.size W (W.alloc (.cells #[.int .i64 (i : Int), .int .i64 (j : Int)] 120)) := (Below.refl _ _).alloc (Nat.le_refl _) _
  try refine ⟨⟨cell_later bC hc1, cell_later bC x0, cell_later bC x1⟩, ?_⟩
  refine anyU_one (i := 7) (by kernel_rfl) ?_
  refine wpOp_run rfl (by rfl) ?_
  have hBW : B ≤ (W.alloc (.cells #[.int .i64 (i : Int), .int .i64 (j : Int)] 120)).heap.size := by simp; omega
  refine wp_append_lies _ (.tmp 8) (.tmp 10) 117 rfl B 120 i0 _ 2 16 underSA hi0 hz0 hz1 hz2 rfl (by decide) _ _ _ rfl (hS1.row.alloc _) ⟨_, 0, none⟩ 1 1 _ rfl rfl (World.news_of_block (by rw [← xs]; exact heap_alloc_new _ _)) (two_one _ _) (by decide) hA2.out (by omega) hBW _ rfl ?_
  intro g c w1 hown1 hgrow1 hat hlt1
  refine ⟨fun h => (by cases h), ?_⟩
  have hS2 : CutS B (w1.setCell ⟨bc, 1, none⟩ (.slice (some ⟨g, 0, none⟩) (L.length + 1) c)) bc b of n cap bm (L ++ [(i, j)]) F (.slice (some ⟨g, 0, none⟩) (L.length + 1) c) := hS1.stored hgrow1 (by rw [cellsA_snoc]; simpa using hown1)
  have lbc := hS.lb
  have b1 : Below B w w1 := ((bB.alloc (by omega) _).grown hgrow1 hBW (fun k e => by
    obtain ⟨_, h2⟩ := hS1.row
    rcases h2 with h2 | ⟨g', c', cur, rfl, h3, _⟩
    · rw [h2.1] at e; cases e
    · cases e; exact h3))
  have b2 : Below B w (w1.setCell ⟨bc, 1, none⟩ (.slice (some ⟨g, 0, none⟩) (L.length + 1) c)) := b1.setCell lbc _
  have zb : (w1.setCell ⟨bc, 1, none⟩ (.slice (some ⟨g, 0, none⟩) (L.length + 1) c)).heap[w.heap.size]? = W.heap[w.heap.size]? := by
    rw [Below.heap_setCell _ _ _ _ (show w.heap.size ≠ bc by omega), hgrow1.block w.heap.size (by simp; omega) (fun e => by
      obtain ⟨cur, hc⟩ := own_at hS.row e.symm
      have := (Array.getElem?_eq_some_iff.1 hc).1
      omega), Below.heap_alloc _ _ _ (by omega)]
  have z0 := (World.cell?_of_block (a := ⟨w.heap.size, 0, none⟩) zb).trans x0
  have z1 := (World.cell?_of_block (a := ⟨w.heap.size, 1, none⟩) zb).trans x1
  obtain ⟨cx1, fx1⟩ := hS1.mid hgrow1
  refine anyU_one (i := 8) (by kernel_rfl) ?_
  refine wpOp_run rfl (by rfl) ?_
  go_simp
  refine anyU_one (i := 9) (by kernel_rfl) ?_
  refine wpOp_run rfl (by rfl) ?_
  go_simp
  refine anyU_one (i := 10) (by kernel_rfl) ?_
  refine wpOp_run rfl (by rfl) ?_
  go_simp
  refine anyU_end (by kernel_rfl) ?_
  have hS2d := hS2.later (Below.refl _ _).drew
  obtain ⟨o, hrun, hS3, b3, k3⟩ := hS2d.set hi hj (-1)
  have c2 := hS2.c2
  have HK : Hid (∀ k, k < w.heap.size → k ≠ bc → k ≠ bm → v.ownBlock ≠ some k → (setBlock (w1.setCell ⟨bc, 1, none⟩ (.slice (some ⟨g, 0, none⟩) (L.length + 1) c)).drew bm o).heap[k]? = w.heap[k]?) := fun k h1 h2 h3 h4 => by
    rw [k3 k h3]
    change (w1.setCell ⟨bc, 1, none⟩ (.slice (some ⟨g, 0, none⟩) (L.length + 1) c)).heap[k]? = _
    rw [Below.heap_setCell _ _ _ _ h2, hgrow1.block k (by simp; omega) (fun e => h4 e.symm), Below.heap_alloc _ _ _ (by omega), ← hW]
    exact Below.heap_alloc _ _ _ h1
  unfold ev at hrun
  have b4 := b2.drew.trans b3
  generalize hX : w1.setCell ⟨bc, 1, none⟩ (.slice (some ⟨g, 0, none⟩) (L.length + 1) c) = X at *
  generalize hY : setBlock X.drew bm o = Y at *
  clear hX hY hgrow1 hown1 hat hlt1 zb cx1 fx1 k3 hS2 hS2d b2 b3 b1 hW hc1 x0 x1 xs
  have HS : Hid (CutS B Y bc b of n cap bm (L ++ [(i, j)]) (upd F i j (-1)) (.slice (some ⟨g, 0, none⟩) (L.length + 1) c)) := hS3
  clear hS3 hS1 bB hS bA bC
  go_wp2
  go_region
  all_goals
    go_wp2
    go_end0
    exact ⟨rfl, ⟨_, HS.out⟩, b4, HK.out⟩
end Go.Proofs.Ytdkaoopkbhaheaa
