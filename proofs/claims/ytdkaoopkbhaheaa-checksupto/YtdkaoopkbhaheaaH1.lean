/- What the law lends: rings with spare room, in memory of its own. -/
import Derived.Test.YtdkaoopkbhaheaaF11
namespace Go.Proofs.Ytdkaoopkbhaheaa
open Go.RowKit Go.Lib
open Jor
set_option linter.unusedVariables false
set_option linter.unusedSimpArgs false

/-- A ring with its spare room. -/
def padP (l : Nat) : List IP := (List.range 8).map fun i => (77, ((l + i : Nat) : Int))
def full (r : List IP) : List IP := r ++ padP r.length
theorem full_length (r : List IP) : (full r).length = r.length + 8 := by simp [full, padP]
theorem full_low {r : List IP} {i : Nat} (h : i < r.length) : pt (full r) i = pt r i := getD_app _ _ _ _ h
theorem full_high {r : List IP} {i : Nat} (h : r.length ≤ i) (h2 : i < r.length + 8) : pt (full r) i = (77, (i : Int)) := by
  unfold full pt
  rw [getD_app_r _ _ _ _ h, getD_elem _ _ _ (by simp [padP]; omega)]
  simp [padP]; omega
/-- What is laid behind i rounds. -/
def fillTo (r : List IP) (i : Nat) : List IP := (full r).take i ++ List.replicate (r.length + 8 - i) (0, 0)
theorem fillTo_length (r : List IP) (i : Nat) (h : i ≤ r.length + 8) : (fillTo r i).length = r.length + 8 := by simp [fillTo, full_length]; omega
theorem fillTo_end (r : List IP) : fillTo r (r.length + 8) = full r := by
  unfold fillTo
  rw [← full_length, List.take_length, Nat.sub_self]; simp
theorem cells2_replicate (n : Nat) : cells2 (List.replicate n (0, 0)) = List.replicate (n * 2) (.int .i64 0) := by
  induction n with
  | zero => rfl
  | succ n ih =>
    rw [List.replicate_succ]
    show [Value.int .i64 0, .int .i64 0] ++ cells2 (List.replicate n (0, 0)) = _
    rw [ih, show (n + 1) * 2 = n * 2 + 1 + 1 by omega, List.replicate_succ, List.replicate_succ]; rfl
theorem cells2_set (l : List IP) (p : IP) : ∀ i, i < l.length → ((cells2 l).set (i * 2) (.int .i64 p.1)).set (i * 2 + 1) (.int .i64 p.2) = cells2 (l.set i p) := by
  induction l with
  | nil => intro i h; simp at h
  | cons q l ih =>
    intro i h
    match i with
    | 0 => rfl
    | i + 1 =>
      rw [show (i + 1) * 2 = i * 2 + 1 + 1 by omega]
      show ((Value.int .i64 q.1 :: .int .i64 q.2 :: cells2 l).set (i * 2 + 1 + 1) _).set (i * 2 + 1 + 1 + 1) _ = _
      simp only [List.set_cons_succ]
      have := ih i (by simpa using h)
      rw [this]; rfl
theorem fillTo_set (r : List IP) (i : Nat) (h : i < r.length + 8) : (fillTo r i).set i (pt (full r) i) = fillTo r (i + 1) := by
  unfold fillTo
  have h1 : ((full r).take i).length = i := by rw [List.length_take, full_length]; omega
  rw [List.set_append_right _ _ (by omega), h1, Nat.sub_self, show r.length + 8 - i = r.length + 8 - (i + 1) + 1 by omega, List.replicate_succ, List.set_cons_zero]
  rw [take_snoc _ i (0, 0) (by rw [full_length]; omega), List.append_assoc]
  rfl
theorem fillTo_set2 (r : List IP) (i : Nat) (h : i < r.length + 8) (q : IP) : ((fillTo r i).set i q).set i (pt (full r) i) = fillTo r (i + 1) := by
  rw [List.set_set]; exact fillTo_set r i h

/-- The slices that are lent. -/
def rv (R : Nat → Nat) (rs : List (List IP)) (j : Nat) : Value := .slice (some ⟨R j, 0, none⟩) (rg rs j).length ((rg rs j).length + 8)
def ringL (R : Nat → Nat) (rs : List (List IP)) (k : Nat) : List Value := (List.range k).map (rv R rs)
def allL (R : Nat → Nat) (rs : List (List IP)) (k : Nat) : List Value := ringL R rs k ++ List.replicate (rs.length + 8 - k) (.slice none 0 0)
theorem ringL_succ (R : Nat → Nat) (rs : List (List IP)) (k : Nat) : ringL R rs (k + 1) = ringL R rs k ++ [rv R rs k] := by simp [ringL, List.range_succ]
theorem ringL_length (R : Nat → Nat) (rs : List (List IP)) (k : Nat) : (ringL R rs k).length = k := by simp [ringL]
theorem ringL_congr {R R' : Nat → Nat} (rs : List (List IP)) {k : Nat} (h : ∀ j, j < k → R j = R' j) : ringL R rs k = ringL R' rs k := by
  unfold ringL
  refine List.map_congr_left fun j hj => ?_
  unfold rv; rw [h j (List.mem_range.1 hj)]
theorem allL_set (R : Nat → Nat) (rs : List (List IP)) (k : Nat) (hk : k < rs.length) : (allL R rs k).set k (rv R rs k) = allL R rs (k + 1) := by
  unfold allL
  rw [List.set_append_right _ _ (by rw [ringL_length]; omega), ringL_length, Nat.sub_self, show rs.length + 8 - k = rs.length + 8 - (k + 1) + 1 by omega, List.replicate_succ, List.set_cons_zero, ringL_succ, List.append_assoc]
  rfl
theorem allL_length (R : Nat → Nat) (rs : List (List IP)) (k : Nat) (hk : k ≤ rs.length) : (allL R rs k).length = rs.length + 8 := by simp [allL, ringL_length]; omega
theorem allL_get (R : Nat → Nat) (rs : List (List IP)) (k j : Nat) (hj : j < k) : (allL R rs k)[j]? = some (rv R rs j) := by
  unfold allL
  rw [List.getElem?_append_left (by rw [ringL_length]; exact hj)]
  simp [ringL, hj]

/-- What is lent, behind k rounds. -/
structure LentAt (W : World) (rs : List (List IP)) (X k : Nat) (v : Value) (R : Nat → Nat) : Prop where
  x : W.heap[X]? = some (.cells #[.slice (some ⟨X + 1, 0, none⟩) (rs.length + 8) (rs.length + 8), v] 80)
  all : W.ownsRow (X + 1) 50 1 (.slice (some ⟨X + 1, 0, none⟩) (rs.length + 8) (rs.length + 8)) (rs.length + 8) (allL R rs k)
  rings : W.ownsRow (X + 2) 50 1 v k (ringL R rs k)
  ring : ∀ j, j < k → W.ownsRow (X + 2) 25 2 (.slice (some ⟨R j, 0, none⟩) ((rg rs j).length + 8) ((rg rs j).length + 8)) ((rg rs j).length + 8) (cells2 (full (rg rs j)))
  inj : ∀ i j, i < j → j < k → R i ≠ R j

theorem LentAt.lt {W : World} {rs : List (List IP)} {X k : Nat} {v : Value} {R : Nat → Nat} (h : LentAt W rs X k v R) : X + 1 < W.heap.size := (h.all.lt (X + 1) rfl).2
/-- It lies on where none of its blocks is turned. -/
theorem LentAt.kept {W W' : World} {rs : List (List IP)} {X k : Nat} {v : Value} {R : Nat → Nat} {row : Option Nat} (h : LentAt W rs X k v R) (hg : W.grownBy W' row) (h1 : ∀ g, row = some g → W.heap.size ≤ g) : LentAt W' rs X k v R where
  x := (hg.block X (by have := h.lt; omega) (fun e => by have := h1 X e.symm; have := h.lt; omega)).trans h.x
  all := h.all.kept hg (.inr fun e => by have := h1 (X + 1) e.symm; have := h.lt; omega)
  rings := by
    cases hv : v.ownBlock with
    | none => exact h.rings.kept hg (.inl hv)
    | some g => exact h.rings.kept hg (.inr fun e => by have := h1 g (by rw [← e, hv]); have := (h.rings.lt g hv).2; omega)
  ring := fun j hj => (h.ring j hj).kept hg (.inr fun e => by have := h1 (R j) e.symm; have := ((h.ring j hj).lt (R j) rfl).2; omega)
  inj := h.inj
end Go.Proofs.Ytdkaoopkbhaheaa
