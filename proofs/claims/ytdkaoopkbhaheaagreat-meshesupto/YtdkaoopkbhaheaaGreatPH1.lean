import Derived.Test.YtdkaoopkbhaheaaGreatPF11
set_option maxHeartbeats 8000000
namespace Go.Proofs.YtdkaoopkbhaheaaGreat
open Go.RowKit Go.Lib
open Jor
set_option linter.unusedVariables false
set_option linter.unusedSimpArgs false
def padP (l : Nat) : List IP := (List.range 8).map fun i => (77, ((l + i : Nat) : Int))
def full (r : List IP) : List IP := r ++ padP r.length
theorem full_length (r : List IP) : (full r).length = r.length + 8 := by simp [full, padP]
theorem full_low {r : List IP} {i : Nat} (h : i < r.length) : pt (full r) i = pt r i := getD_app _ _ _ _ h
theorem full_high {r : List IP} {i : Nat} (h : r.length <= i) (h2 : i < r.length + 8) : pt (full r) i = (77, (i : Int)) := by
 unfold full pt
 rw [getD_app_r _ _ _ _ h, getD_elem _ _ _ (by simp [padP]; omega)]
 simp [padP]; omega
def fillTo (r : List IP) (i : Nat) : List IP := (full r).take i ++ List.replicate (r.length + 8 - i) (0, 0)
theorem fillTo_length (r : List IP) (i : Nat) (h : i <= r.length + 8) : (fillTo r i).length = r.length + 8 := by simp [fillTo, full_length]; omega
theorem fillTo_end (r : List IP) : fillTo r (r.length + 8) = full r := by
 unfold fillTo
 rw [<- full_length, List.take_length, Nat.sub_self]; simp
theorem cells2_replicate (n : Nat) : cells2 (List.replicate n (0, 0)) = List.replicate (n * 2) (.int .i64 0) := by
 induction n with
 | zero => rfl
 | succ n ih =>
  rw [List.replicate_succ]
  show [Value.int .i64 0, .int .i64 0] ++ cells2 (List.replicate n (0, 0)) = _
  rw [ih, show (n + 1) * 2 = n * 2 + 1 + 1 by omega, List.replicate_succ, List.replicate_succ]; rfl
theorem cells2_set (l : List IP) (p : IP) : ∀ i, i < l.length -> ((cells2 l).set (i * 2) (.int .i64 p.1)).set (i * 2 + 1) (.int .i64 p.2) = cells2 (l.set i p) := by
 induction l with
 | nil => intro i h; simp at h
 | cons q l ih =>
  intro i h
  match i with
  | 0 => rfl
  | i + 1 =>
   rw [show (i + 1) * 2 = i * 2 + 1 + 1 by omega]
   show ((Value.int .i64 q.1 :: .int .i64 q.2 :: cells2 l).set (i * 2 + 1 + 1) _).set (i * 2 + 1 + 1 + 1) _ = _
   simp only [List.set_cons_succ]
   have := ih i (by simpa using h)
   rw [this]; rfl
theorem fillTo_set (r : List IP) (i : Nat) (h : i < r.length + 8) : (fillTo r i).set i (pt (full r) i) = fillTo r (i + 1) := by
 unfold fillTo
 have h1 : ((full r).take i).length = i := by rw [List.length_take, full_length]; omega
 rw [List.set_append_right _ _ (by omega), h1, Nat.sub_self, show r.length + 8 - i = r.length + 8 - (i + 1) + 1 by omega, List.replicate_succ, List.set_cons_zero]
 rw [take_snoc _ i (0, 0) (by rw [full_length]; omega), List.append_assoc]
 rfl
theorem fillTo_set2 (r : List IP) (i : Nat) (h : i < r.length + 8) (q : IP) : ((fillTo r i).set i q).set i (pt (full r) i) = fillTo r (i + 1) := by
 rw [List.set_set]; exact fillTo_set r i h
def rv (R : Nat -> Nat) (rs : List (List IP)) (j : Nat) : Value := .slice (some ⟨R j, 0, none⟩) (rg rs j).length ((rg rs j).length + 8)
def ringL (R : Nat -> Nat) (rs : List (List IP)) (k : Nat) : List Value := (List.range k).map (rv R rs)
def allL (R : Nat -> Nat) (rs : List (List IP)) (k : Nat) : List Value := ringL R rs k ++ List.replicate (rs.length + 8 - k) (.slice none 0 0)
theorem ringL_succ (R : Nat -> Nat) (rs : List (List IP)) (k : Nat) : ringL R rs (k + 1) = ringL R rs k ++ [rv R rs k] := by simp [ringL, List.range_succ]
theorem ringL_length (R : Nat -> Nat) (rs : List (List IP)) (k : Nat) : (ringL R rs k).length = k := by simp [ringL]
theorem ringL_congr {R R' : Nat -> Nat} (rs : List (List IP)) {k : Nat} (h : ∀ j, j < k -> R j = R' j) : ringL R rs k = ringL R' rs k := by
 unfold ringL
 refine List.map_congr_left fun j hj => ?_
 unfold rv; rw [h j (List.mem_range.1 hj)]
theorem allL_set (R : Nat -> Nat) (rs : List (List IP)) (k : Nat) (hk : k < rs.length) : (allL R rs k).set k (rv R rs k) = allL R rs (k + 1) := by
 unfold allL
 rw [List.set_append_right _ _ (by rw [ringL_length]; omega), ringL_length, Nat.sub_self, show rs.length + 8 - k = rs.length + 8 - (k + 1) + 1 by omega, List.replicate_succ, List.set_cons_zero, ringL_succ, List.append_assoc]
 rfl
theorem allL_length (R : Nat -> Nat) (rs : List (List IP)) (k : Nat) (hk : k <= rs.length) : (allL R rs k).length = rs.length + 8 := by simp [allL, ringL_length]; omega
theorem allL_get (R : Nat -> Nat) (rs : List (List IP)) (k j : Nat) (hj : j < k) : (allL R rs k)[j]? = some (rv R rs j) := by
 unfold allL
 rw [List.getElem?_append_left (by rw [ringL_length]; exact hj)]
 simp [ringL, hj]
structure LentAt (W : World) (rs : List (List IP)) (X k : Nat) (v : Value) (R : Nat -> Nat) : Prop where
 x : W.heap[X]? = some (.cells #[.slice (some ⟨X + 1, 0, none⟩) (rs.length + 8) (rs.length + 8), v] 86)
 all : W.ownsRow (X + 1) 48 1 (.slice (some ⟨X + 1, 0, none⟩) (rs.length + 8) (rs.length + 8)) (rs.length + 8) (allL R rs k)
 rings : W.ownsRow (X + 2) 48 1 v k (ringL R rs k)
 ring : ∀ j, j < k -> W.ownsRow (X + 2) 47 2 (.slice (some ⟨R j, 0, none⟩) ((rg rs j).length + 8) ((rg rs j).length + 8)) ((rg rs j).length + 8) (cells2 (full (rg rs j)))
 inj : ∀ i j, i < j -> j < k -> R i ≠ R j
theorem LentAt.lt {W : World} {rs : List (List IP)} {X k : Nat} {v : Value} {R : Nat -> Nat} (h : LentAt W rs X k v R) : X + 1 < W.heap.size := (h.all.lt (X + 1) rfl).2
theorem LentAt.kept {W W' : World} {rs : List (List IP)} {X k : Nat} {v : Value} {R : Nat -> Nat} {row : Option Nat} (h : LentAt W rs X k v R) (hg : W.grownBy W' row) (h1 : ∀ g, row = some g -> W.heap.size <= g) : LentAt W' rs X k v R where
 x := (hg.block X (by have := h.lt; omega) (fun e => by have := h1 X e.symm; have := h.lt; omega)).trans h.x
 all := h.all.kept hg (.inr fun e => by have := h1 (X + 1) e.symm; have := h.lt; omega)
 rings := by
  cases hv : v.ownBlock with
  | none => exact h.rings.kept hg (.inl hv)
  | some g => exact h.rings.kept hg (.inr fun e => by have := h1 g (by rw [<- e, hv]); have := (h.rings.lt g hv).2; omega)
 ring := fun j hj => (h.ring j hj).kept hg (.inr fun e => by have := h1 (R j) e.symm; have := ((h.ring j hj).lt (R j) rfl).2; omega)
 inj := h.inj
end Go.Proofs.YtdkaoopkbhaheaaGreat
namespace Go.Proofs.YtdkaoopkbhaheaaGreat
open Go.RowKit Go.Lib
open Jor
set_option linter.unusedVariables false
set_option linter.unusedSimpArgs false
theorem grown_set (W : World) (b o : Nat) (v : Value) : W.grownBy (W.setCell ⟨b, o, none⟩ v) (some b) := ⟨rfl, rfl, rfl, by simp, fun k _ hne => Below.heap_setCell W _ v k (fun e => hne (by rw [e]))⟩
theorem madeS (n : Nat) : (madeCells (Value.slice none 0 0).cells (n * 1)).toList = List.replicate n (.slice none 0 0) := by
 rw [Nat.mul_one]; exact toList_madeCells_one _ _
theorem madeP (n : Nat) : (madeCells (Value.agg #[.int .i64 0, .int .i64 0]).cells (n * 2)).toList = cells2 (List.replicate n (0, 0)) := by
 rw [cells2_replicate]
 apply List.ext_getElem
 ·simp [size_madeCells]
 ·intro i h1 h2
  have : (madeCells (Value.agg #[.int .i64 0, .int .i64 0]).cells (n * 2)).toList[i] = (Value.agg #[.int .i64 0, .int .i64 0]).cells[i % 2]! := by simp [madeCells, Value.cells]
  rw [this, List.getElem_replicate]
  rcases Nat.mod_two_eq_zero_or_one i with h | h <;> rw [h] <;> rfl
theorem infoS : (Tryz.prog.info? 48).map (fun i => (i.zero, i.size, i.bytes)) = some (some (.slice none 0 0), 1, 24) := by kernel_rfl
theorem underSS : Tryz.prog.underlying 49 = some (.slice 48) := by kernel_rfl
theorem rows_ne {W : World} {b1 b2 e1 e2 s1 s2 n1 n2 q : Nat} {v1 v2 : Value} {xs ys : List Value} (h1 : W.ownsRow b1 e1 s1 v1 n1 xs) (h2 : W.ownsRow b2 e2 s2 v2 n2 ys) (he : e1 ≠ e2) (q1 : v1.ownBlock = some q) (q2 : v2.ownBlock = some q) : False := by
 rcases h1.2 with ⟨rfl, _⟩ | ⟨g, c, cur, rfl, _, hg, _⟩
 ·cases q1
 rcases h2.2 with ⟨rfl, _⟩ | ⟨g', c', cur', rfl, _, hg', _⟩
 ·cases q2
 have e1' : g = q := by simpa [Value.ownBlock] using q1
 have e2' : g' = q := by simpa [Value.ownBlock] using q2
 subst e1' e2'
 rw [hg] at hg'
 simp at hg'
 exact he hg'.2
theorem lent_start {w w1 : World} {rs : List (List IP)} (hown : w1.ownsRow (w.heap.size + 1) 48 1 (.slice (some ⟨w.heap.size + 1, 0, none⟩) (rs.length + 8) (rs.length + 8)) (rs.length + 8) (List.replicate (rs.length + 8) (.slice none 0 0)))
  (hg : (w.alloc (.cells #[.slice none 0 0, .slice none 0 0] 86)).grownBy w1 none) :
  LentAt (w1.setCell ⟨w.heap.size, 0, none⟩ (.slice (some ⟨w.heap.size + 1, 0, none⟩) (rs.length + 8) (rs.length + 8))) rs w.heap.size 0 (.slice none 0 0) (fun _ => 0) /\ Below w.heap.size w (w1.setCell ⟨w.heap.size, 0, none⟩ (.slice (some ⟨w.heap.size + 1, 0, none⟩) (rs.length + 8) (rs.length + 8))) := by
 have hb0 : w1.heap[w.heap.size]? = some (.cells #[.slice none 0 0, .slice none 0 0] 86) := (hg.block _ (by simp) (by simp)).trans (heap_alloc_new w _)
 have hB1 : Below w.heap.size w w1 := ((Below.refl _ w).alloc (Nat.le_refl _) _).grown hg (by simp) (fun j e => by cases e)
 refine ⟨⟨?_, ?_, World.ownsRow_nil _ _ _ _, fun j h => absurd h (by omega), fun i j _ h => absurd h (by omega)⟩, hB1.setCell (p := ⟨w.heap.size, 0, none⟩) (Nat.le_refl _) _⟩
 ·have := heap_setCell_same w1 w.heap.size 0 #[.slice none 0 0, .slice none 0 0] 86 (.slice (some ⟨w.heap.size + 1, 0, none⟩) (rs.length + 8) (rs.length + 8)) hb0
  exact this
 ·exact hown.kept (grown_set w1 _ _ _) (.inr (by simp [Value.ownBlock]))
theorem lent_next {W wq w1 : World} {rs : List (List IP)} {X k g0 g c : Nat} {v : Value} {R : Nat -> Nat} {o : Obj} (hk : k < rs.length) (h : LentAt W rs X k v R) (hq : W.grownBy wq none) (hg0 : W.heap.size <= g0)
  (hr : wq.ownsRow (X + 2) 47 2 (.slice (some ⟨g0, 0, none⟩) ((rg rs k).length + 8) ((rg rs k).length + 8)) ((rg rs k).length + 8) (cells2 (full (rg rs k))))
  (hown : w1.ownsRow (X + 2) 48 1 (.slice (some ⟨g, 0, none⟩) (k + 1) c) (k + 1) (ringL R rs k ++ [.slice (some ⟨g0, 0, none⟩) (rg rs k).length ((rg rs k).length + 8)])) (hgr : (wq.drew.alloc o).grownBy w1 v.ownBlock) (hat : v.ownBlock = some g \/ g = wq.heap.size + 1) :
  LentAt ((w1.setCell ⟨X, 1, none⟩ (.slice (some ⟨g, 0, none⟩) (k + 1) c)).drew.setCell ⟨X + 1, k, none⟩ (.slice (some ⟨g0, 0, none⟩) (rg rs k).length ((rg rs k).length + 8))) rs X (k + 1) (.slice (some ⟨g, 0, none⟩) (k + 1) c) (fun j => if j = k then g0 else R j) := by
 have hX := h.lt
 have hzq := hq.size
 have hlq : LentAt wq rs X k v R := h.kept hq (fun g e => by cases e)
 have hg0' := (hr.lt g0 rfl).2
 have hla : LentAt (wq.drew.alloc o) rs X k v R := hlq.kept (row := none) ⟨rfl, rfl, rfl, by simp, fun k hk _ => Below.heap_alloc wq.drew o k hk⟩ (fun g e => by cases e)
 have hza : (wq.drew.alloc o).heap.size = wq.heap.size + 1 := by simp
 have vne : ∀ q, v.ownBlock = some q -> q ≠ X /\ q ≠ X + 1 /\ q < W.heap.size := fun q hq' => by have := h.rings.lt q hq'; omega
 have gX : X + 2 <= g := (hown.lt g rfl).1
 have gne : ∀ j, j < k -> g ≠ R j := fun j hj e => by
  rcases hat with e1 | e1
  ·exact rows_ne h.rings (h.ring j hj) (by decide) e1 (by rw [e]; rfl)
  ·have := ((h.ring j hj).lt (R j) rfl).2
   omega
 have gne0 : g ≠ g0 := fun e => by
  rcases hat with e1 | e1
  ·have := (vne g e1).2.2; omega
  ·omega
 -- the ring's own row through the append and the two stores
 have ring1 : ∀ q t s m ys, W.heap.size <= q \/ (∃ j, j < k /\ q = R j) -> q ≠ g -> (X + 2 <= q) -> (wq.ownsRow (X + 2) t s (.slice (some ⟨q, 0, none⟩) m m) m ys) ->
   ((w1.setCell ⟨X, 1, none⟩ (.slice (some ⟨g, 0, none⟩) (k + 1) c)).drew.setCell ⟨X + 1, k, none⟩ (.slice (some ⟨g0, 0, none⟩) (rg rs k).length ((rg rs k).length + 8))).ownsRow (X + 2) t s (.slice (some ⟨q, 0, none⟩) m m) m ys := by
  intro q t s m ys hq1 hqg hq2 hw
  have a1 : (wq.drew.alloc o).ownsRow (X + 2) t s (.slice (some ⟨q, 0, none⟩) m m) m ys := hw.drew.alloc o
  have a2 : w1.ownsRow (X + 2) t s (.slice (some ⟨q, 0, none⟩) m m) m ys := by
   refine a1.kept hgr (.inr fun e => ?_)
   have e' : v.ownBlock = some q := e.symm
   rcases hq1 with h1 | ⟨j, hj, rfl⟩
   ·have := (vne q e').2.2; omega
   ·rcases hat with e1 | e1
    ·rw [e'] at e1; cases e1; exact hqg rfl
    ·exact rows_ne h.rings (h.ring j hj) (by decide) e' rfl
  have a3 := a2.kept (grown_set w1 X 1 (.slice (some ⟨g, 0, none⟩) (k + 1) c)) (.inr (by simp [Value.ownBlock]; omega))
  exact a3.drew.kept (grown_set _ (X + 1) k _) (.inr (by simp [Value.ownBlock]; omega))
 have hx1 : w1.heap[X]? = some (.cells #[.slice (some ⟨X + 1, 0, none⟩) (rs.length + 8) (rs.length + 8), v] 86) := (hgr.block X (by omega) (fun e => (vne X e.symm).1 rfl)).trans hla.x
 have hall1 : w1.ownsRow (X + 1) 48 1 (.slice (some ⟨X + 1, 0, none⟩) (rs.length + 8) (rs.length + 8)) (rs.length + 8) (allL R rs k) := hla.all.kept hgr (.inr fun e => (vne (X + 1) e.symm).2.1 rfl)
 have hcR : ringL R rs k = ringL (fun j => if j = k then g0 else R j) rs k := ringL_congr rs (fun j hj => by rw [if_neg (by omega)])
 have hcrv : Value.slice (some ⟨g0, 0, none⟩) (rg rs k).length ((rg rs k).length + 8) = rv (fun j => if j = k then g0 else R j) rs k := by unfold rv; simp
 refine ⟨?_, ?_, ?_, fun j hj => ?_, fun i j hij hj => ?_⟩
 ·have s1 := heap_setCell_same w1 X 1 _ 86 (.slice (some ⟨g, 0, none⟩) (k + 1) c) hx1
  refine (Below.heap_setCell _ _ _ X (by simp)).trans ?_
  exact s1
 ·have s1 := hall1.kept (grown_set w1 X 1 (.slice (some ⟨g, 0, none⟩) (k + 1) c)) (.inr (by simp [Value.ownBlock]))
  have s2 := (s1.drew.stored k (.slice (some ⟨g0, 0, none⟩) (rg rs k).length ((rg rs k).length + 8))).1
  have e : (allL R rs k).set k (.slice (some ⟨g0, 0, none⟩) (rg rs k).length ((rg rs k).length + 8)) = allL (fun j => if j = k then g0 else R j) rs (k + 1) := by
   rw [hcrv, <- allL_set _ rs k hk]
   unfold allL; rw [hcR]
  rw [e] at s2
  exact s2
 ·rw [ringL_succ, <- hcR, <- hcrv]
  have s1 := hown.kept (grown_set w1 X 1 (.slice (some ⟨g, 0, none⟩) (k + 1) c)) (.inr (by simp [Value.ownBlock]; omega))
  exact s1.drew.kept (grown_set _ (X + 1) k _) (.inr (by simp [Value.ownBlock]; omega))
 ·by_cases hjk : j = k
  ·subst hjk
   simp only [if_true]
   exact ring1 g0 _ _ _ _ (.inl hg0) (fun e => gne0 e.symm) (by omega) hr
  ·simp only [if_neg hjk]
   have hj' : j < k := by omega
   exact ring1 (R j) _ _ _ _ (.inr ⟨j, hj', rfl⟩) (fun e => gne j hj' e.symm) ((h.ring j hj').lt (R j) rfl).1 (hlq.ring j hj')
 ·by_cases hjk : j = k
  ·subst hjk
   simp only [if_true, if_neg (show ¬ i = j by omega)]
   have := ((h.ring i hij).lt (R i) rfl).2
   omega
  ·simp only [if_neg hjk, if_neg (show ¬ i = k by omega)]
   exact h.inj i j hij (by omega)
theorem lent_mid {wq w1 : World} {rs : List (List IP)} {X k : Nat} {v u : Value} {R : Nat -> Nat} {o : Obj} (hk : k < rs.length) (h : LentAt wq rs X k v R) (hgr : (wq.drew.alloc o).grownBy w1 v.ownBlock) :
  (w1.setCell ⟨X, 1, none⟩ u).cell? ⟨X, 0, none⟩ = some (.slice (some ⟨X + 1, 0, none⟩) (rs.length + 8) (rs.length + 8)) /\ (w1.setCell ⟨X, 1, none⟩ u).cell? ⟨X + 1, k, none⟩ = some (.slice none 0 0) /\ (w1.setCell ⟨X, 1, none⟩ u).frozen? ⟨X + 1, k, none⟩ = false := by
 have hX := h.lt
 have vne : ∀ q, v.ownBlock = some q -> q ≠ X /\ q ≠ X + 1 := fun q hq' => by have := h.rings.lt q hq'; omega
 have hla : LentAt (wq.drew.alloc o) rs X k v R := h.kept (row := none) ⟨rfl, rfl, rfl, by simp, fun k hk _ => Below.heap_alloc wq.drew o k hk⟩ (fun g e => by cases e)
 have hx1 : w1.heap[X]? = some (.cells #[.slice (some ⟨X + 1, 0, none⟩) (rs.length + 8) (rs.length + 8), v] 86) := (hgr.block X (by simp; omega) (fun e => (vne X e.symm).1 rfl)).trans hla.x
 have s1 := heap_setCell_same w1 X 1 _ 86 u hx1
 have all1 := (hla.all.kept hgr (.inr fun e => (vne (X + 1) e.symm).2 rfl)).kept (grown_set w1 X 1 u) (.inr (by simp [Value.ownBlock]))
 refine ⟨?_, ?_, all1.frozenAt k⟩
 ·simp [World.cell?, s1]
 ·rw [all1.cellAt k (by omega)]
  unfold allL
  rw [List.getElem?_append_right (by rw [ringL_length]; omega), ringL_length, Nat.sub_self, show rs.length + 8 - k = (rs.length + 7 - k) + 1 by omega, List.replicate_succ]
  rfl
end Go.Proofs.YtdkaoopkbhaheaaGreat
