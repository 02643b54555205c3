/- The law's lend, walked. -/
import Derived.Test.YtdkaoopkbhaheaaH1
namespace Go.Proofs.Ytdkaoopkbhaheaa
open Go.RowKit Go.Lib
open Jor
set_option linter.unusedVariables false
set_option linter.unusedSimpArgs false

theorem grown_set (W : World) (b o : Nat) (v : Value) : W.grownBy (W.setCell ⟨b, o, none⟩ v) (some b) := ⟨rfl, rfl, rfl, by simp, fun k _ hne => Below.heap_setCell W _ v k (fun e => hne (by rw [e]))⟩
theorem madeS (n : Nat) : (madeCells (Value.slice none 0 0).cells (n * 1)).toList = List.replicate n (.slice none 0 0) := by
  rw [Nat.mul_one]; exact toList_madeCells_one _ _
theorem madeP (n : Nat) : (madeCells (Value.agg #[.int .i64 0, .int .i64 0]).cells (n * 2)).toList = cells2 (List.replicate n (0, 0)) := by
  rw [cells2_replicate]
  apply List.ext_getElem
  · simp [size_madeCells]
  · intro i h1 h2
    have : (madeCells (Value.agg #[.int .i64 0, .int .i64 0]).cells (n * 2)).toList[i] = (Value.agg #[.int .i64 0, .int .i64 0]).cells[i % 2]! := by simp [madeCells, Value.cells]
    rw [this, List.getElem_replicate]
    rcases Nat.mod_two_eq_zero_or_one i with h | h <;> rw [h] <;> rfl
theorem infoS : (Try.prog.info? 50).map (fun i => (i.zero, i.size, i.bytes)) = some (some (.slice none 0 0), 1, 24) := by kernel_rfl
theorem underSS : Try.prog.underlying 34 = some (.slice 50) := by kernel_rfl

theorem rows_ne {W : World} {b1 b2 e1 e2 s1 s2 n1 n2 q : Nat} {v1 v2 : Value} {xs ys : List Value} (h1 : W.ownsRow b1 e1 s1 v1 n1 xs) (h2 : W.ownsRow b2 e2 s2 v2 n2 ys) (he : e1 ≠ e2) (q1 : v1.ownBlock = some q) (q2 : v2.ownBlock = some q) : False := by
  rcases h1.2 with ⟨rfl, _⟩ | ⟨g, c, cur, rfl, _, hg, _⟩
  · cases q1
  rcases h2.2 with ⟨rfl, _⟩ | ⟨g', c', cur', rfl, _, hg', _⟩
  · cases q2
  have e1' : g = q := by simpa [Value.ownBlock] using q1
  have e2' : g' = q := by simpa [Value.ownBlock] using q2
  subst e1' e2'
  rw [hg] at hg'
  simp at hg'
  exact he hg'.2
/-- The start: nothing is lent yet. -/
theorem lent_start {w w1 : World} {rs : List (List IP)} (hown : w1.ownsRow (w.heap.size + 1) 50 1 (.slice (some ⟨w.heap.size + 1, 0, none⟩) (rs.length + 8) (rs.length + 8)) (rs.length + 8) (List.replicate (rs.length + 8) (.slice none 0 0)))
    (hg : (w.alloc (.cells #[.slice none 0 0, .slice none 0 0] 80)).grownBy w1 none) :
    LentAt (w1.setCell ⟨w.heap.size, 0, none⟩ (.slice (some ⟨w.heap.size + 1, 0, none⟩) (rs.length + 8) (rs.length + 8))) rs w.heap.size 0 (.slice none 0 0) (fun _ => 0) ∧ Below w.heap.size w (w1.setCell ⟨w.heap.size, 0, none⟩ (.slice (some ⟨w.heap.size + 1, 0, none⟩) (rs.length + 8) (rs.length + 8))) := by
  have hb0 : w1.heap[w.heap.size]? = some (.cells #[.slice none 0 0, .slice none 0 0] 80) := (hg.block _ (by simp) (by simp)).trans (heap_alloc_new w _)
  have hB1 : Below w.heap.size w w1 := ((Below.refl _ w).alloc (Nat.le_refl _) _).grown hg (by simp) (fun j e => by cases e)
  refine ⟨⟨?_, ?_, World.ownsRow_nil _ _ _ _, fun j h => absurd h (by omega), fun i j _ h => absurd h (by omega)⟩, hB1.setCell (p := ⟨w.heap.size, 0, none⟩) (Nat.le_refl _) _⟩
  · have := heap_setCell_same w1 w.heap.size 0 #[.slice none 0 0, .slice none 0 0] 80 (.slice (some ⟨w.heap.size + 1, 0, none⟩) (rs.length + 8) (rs.length + 8)) hb0
    exact this
  · exact hown.kept (grown_set w1 _ _ _) (.inr (by simp [Value.ownBlock]))

/-- One ring more. -/
theorem lent_next {W wq w1 : World} {rs : List (List IP)} {X k g0 g c : Nat} {v : Value} {R : Nat → Nat} {o : Obj} (hk : k < rs.length) (h : LentAt W rs X k v R) (hq : W.grownBy wq none) (hg0 : W.heap.size ≤ g0)
    (hr : wq.ownsRow (X + 2) 25 2 (.slice (some ⟨g0, 0, none⟩) ((rg rs k).length + 8) ((rg rs k).length + 8)) ((rg rs k).length + 8) (cells2 (full (rg rs k))))
    (hown : w1.ownsRow (X + 2) 50 1 (.slice (some ⟨g, 0, none⟩) (k + 1) c) (k + 1) (ringL R rs k ++ [.slice (some ⟨g0, 0, none⟩) (rg rs k).length ((rg rs k).length + 8)])) (hgr : (wq.drew.alloc o).grownBy w1 v.ownBlock) (hat : v.ownBlock = some g ∨ g = wq.heap.size + 1) :
    LentAt ((w1.setCell ⟨X, 1, none⟩ (.slice (some ⟨g, 0, none⟩) (k + 1) c)).drew.setCell ⟨X + 1, k, none⟩ (.slice (some ⟨g0, 0, none⟩) (rg rs k).length ((rg rs k).length + 8))) rs X (k + 1) (.slice (some ⟨g, 0, none⟩) (k + 1) c) (fun j => if j = k then g0 else R j) := by
  have hX := h.lt
  have hzq := hq.size
  have hlq : LentAt wq rs X k v R := h.kept hq (fun g e => by cases e)
  have hg0' := (hr.lt g0 rfl).2
  have hla : LentAt (wq.drew.alloc o) rs X k v R := hlq.kept (row := none) ⟨rfl, rfl, rfl, by simp, fun k hk _ => Below.heap_alloc wq.drew o k hk⟩ (fun g e => by cases e)
  have hza : (wq.drew.alloc o).heap.size = wq.heap.size + 1 := by simp
  have vne : ∀ q, v.ownBlock = some q → q ≠ X ∧ q ≠ X + 1 ∧ q < W.heap.size := fun q hq' => by have := h.rings.lt q hq'; omega
  have gX : X + 2 ≤ g := (hown.lt g rfl).1
  have gne : ∀ j, j < k → g ≠ R j := fun j hj e => by
    rcases hat with e1 | e1
    · exact rows_ne h.rings (h.ring j hj) (by decide) e1 (by rw [e]; rfl)
    · have := ((h.ring j hj).lt (R j) rfl).2
      omega
  have gne0 : g ≠ g0 := fun e => by
    rcases hat with e1 | e1
    · have := (vne g e1).2.2; omega
    · omega
  -- the ring's own row through the append and the two stores
  have ring1 : ∀ q t s m ys, W.heap.size ≤ q ∨ (∃ j, j < k ∧ q = R j) → q ≠ g → (X + 2 ≤ q) → (wq.ownsRow (X + 2) t s (.slice (some ⟨q, 0, none⟩) m m) m ys) →
      ((w1.setCell ⟨X, 1, none⟩ (.slice (some ⟨g, 0, none⟩) (k + 1) c)).drew.setCell ⟨X + 1, k, none⟩ (.slice (some ⟨g0, 0, none⟩) (rg rs k).length ((rg rs k).length + 8))).ownsRow (X + 2) t s (.slice (some ⟨q, 0, none⟩) m m) m ys := by
    intro q t s m ys hq1 hqg hq2 hw
    have a1 : (wq.drew.alloc o).ownsRow (X + 2) t s (.slice (some ⟨q, 0, none⟩) m m) m ys := hw.drew.alloc o
    have a2 : w1.ownsRow (X + 2) t s (.slice (some ⟨q, 0, none⟩) m m) m ys := by
      refine a1.kept hgr (.inr fun e => ?_)
      have e' : v.ownBlock = some q := e.symm
      rcases hq1 with h1 | ⟨j, hj, rfl⟩
      · have := (vne q e').2.2; omega
      · rcases hat with e1 | e1
        · rw [e'] at e1; cases e1; exact hqg rfl
        · exact rows_ne h.rings (h.ring j hj) (by decide) e' rfl
    have a3 := a2.kept (grown_set w1 X 1 (.slice (some ⟨g, 0, none⟩) (k + 1) c)) (.inr (by simp [Value.ownBlock]; omega))
    exact a3.drew.kept (grown_set _ (X + 1) k _) (.inr (by simp [Value.ownBlock]; omega))
  have hx1 : w1.heap[X]? = some (.cells #[.slice (some ⟨X + 1, 0, none⟩) (rs.length + 8) (rs.length + 8), v] 80) := (hgr.block X (by omega) (fun e => (vne X e.symm).1 rfl)).trans hla.x
  have hall1 : w1.ownsRow (X + 1) 50 1 (.slice (some ⟨X + 1, 0, none⟩) (rs.length + 8) (rs.length + 8)) (rs.length + 8) (allL R rs k) := hla.all.kept hgr (.inr fun e => (vne (X + 1) e.symm).2.1 rfl)
  have hcR : ringL R rs k = ringL (fun j => if j = k then g0 else R j) rs k := ringL_congr rs (fun j hj => by rw [if_neg (by omega)])
  have hcrv : Value.slice (some ⟨g0, 0, none⟩) (rg rs k).length ((rg rs k).length + 8) = rv (fun j => if j = k then g0 else R j) rs k := by unfold rv; simp
  refine ⟨?_, ?_, ?_, fun j hj => ?_, fun i j hij hj => ?_⟩
  · have s1 := heap_setCell_same w1 X 1 _ 80 (.slice (some ⟨g, 0, none⟩) (k + 1) c) hx1
    refine (Below.heap_setCell _ _ _ X (by simp)).trans ?_
    exact s1
  · have s1 := hall1.kept (grown_set w1 X 1 (.slice (some ⟨g, 0, none⟩) (k + 1) c)) (.inr (by simp [Value.ownBlock]))
    have s2 := (s1.drew.stored k (.slice (some ⟨g0, 0, none⟩) (rg rs k).length ((rg rs k).length + 8))).1
    have e : (allL R rs k).set k (.slice (some ⟨g0, 0, none⟩) (rg rs k).length ((rg rs k).length + 8)) = allL (fun j => if j = k then g0 else R j) rs (k + 1) := by
      rw [hcrv, ← allL_set _ rs k hk]
      unfold allL; rw [hcR]
    rw [e] at s2
    exact s2
  · rw [ringL_succ, ← hcR, ← hcrv]
    have s1 := hown.kept (grown_set w1 X 1 (.slice (some ⟨g, 0, none⟩) (k + 1) c)) (.inr (by simp [Value.ownBlock]; omega))
    exact s1.drew.kept (grown_set _ (X + 1) k _) (.inr (by simp [Value.ownBlock]; omega))
  · by_cases hjk : j = k
    · subst hjk
      simp only [if_true]
      exact ring1 g0 _ _ _ _ (.inl hg0) (fun e => gne0 e.symm) (by omega) hr
    · simp only [if_neg hjk]
      have hj' : j < k := by omega
      exact ring1 (R j) _ _ _ _ (.inr ⟨j, hj', rfl⟩) (fun e => gne j hj' e.symm) ((h.ring j hj').lt (R j) rfl).1 (hlq.ring j hj')
  · by_cases hjk : j = k
    · subst hjk
      simp only [if_true, if_neg (show ¬ i = j by omega)]
      have := ((h.ring i hij).lt (R i) rfl).2
      omega
    · simp only [if_neg hjk, if_neg (show ¬ i = k by omega)]
      exact h.inj i j hij (by omega)

/-- Between the two stores. -/
theorem lent_mid {wq w1 : World} {rs : List (List IP)} {X k : Nat} {v u : Value} {R : Nat → Nat} {o : Obj} (hk : k < rs.length) (h : LentAt wq rs X k v R) (hgr : (wq.drew.alloc o).grownBy w1 v.ownBlock) :
    (w1.setCell ⟨X, 1, none⟩ u).cell? ⟨X, 0, none⟩ = some (.slice (some ⟨X + 1, 0, none⟩) (rs.length + 8) (rs.length + 8)) ∧ (w1.setCell ⟨X, 1, none⟩ u).cell? ⟨X + 1, k, none⟩ = some (.slice none 0 0) ∧ (w1.setCell ⟨X, 1, none⟩ u).frozen? ⟨X + 1, k, none⟩ = false := by
  have hX := h.lt
  have vne : ∀ q, v.ownBlock = some q → q ≠ X ∧ q ≠ X + 1 := fun q hq' => by have := h.rings.lt q hq'; omega
  have hla : LentAt (wq.drew.alloc o) rs X k v R := h.kept (row := none) ⟨rfl, rfl, rfl, by simp, fun k hk _ => Below.heap_alloc wq.drew o k hk⟩ (fun g e => by cases e)
  have hx1 : w1.heap[X]? = some (.cells #[.slice (some ⟨X + 1, 0, none⟩) (rs.length + 8) (rs.length + 8), v] 80) := (hgr.block X (by simp; omega) (fun e => (vne X e.symm).1 rfl)).trans hla.x
  have s1 := heap_setCell_same w1 X 1 _ 80 u hx1
  have all1 := (hla.all.kept hgr (.inr fun e => (vne (X + 1) e.symm).2 rfl)).kept (grown_set w1 X 1 u) (.inr (by simp [Value.ownBlock]))
  refine ⟨?_, ?_, all1.frozenAt k⟩
  · simp [World.cell?, s1]
  · rw [all1.cellAt k (by omega)]
    unfold allL
    rw [List.getElem?_append_right (by rw [ringL_length]; omega), ringL_length, Nat.sub_self, show rs.length + 8 - k = (rs.length + 7 - k) + 1 by omega, List.replicate_succ]
    rfl
end Go.Proofs.Ytdkaoopkbhaheaa
