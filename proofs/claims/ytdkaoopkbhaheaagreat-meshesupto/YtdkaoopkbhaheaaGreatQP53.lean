import Derived.Test.YtdkaoopkbhaheaaGreatPN46
import Derived.Test.YtdkaoopkbhaheaaGreatPB7
namespace Go.Proofs.YtdkaoopkbhaheaaGreat
open Go.RowKit Go.Lib
open Jor
open scoped Classical
set_option linter.unusedVariables false
def edA (rs : List (List IP)) (i : Nat) : Nat := ((eds3 0 0 rs).getD i (0, 0, 0)).1
def edB (rs : List (List IP)) (i : Nat) : Nat := ((eds3 0 0 rs).getD i (0, 0, 0)).2.1
theorem edge_at (rs : List (List IP)) {k i : Nat} (h : i < (rg rs k).length) : edA rs (off rs k + i) = off rs k + i ∧ edB rs (off rs k + i) = off rs k + (i + 1) % (rg rs k).length := by
  unfold edA edB
  rw [eds3_at rs 0 0 k i h]
  exact ⟨by simp, by simp⟩
theorem edge_in {rs : List (List IP)} {k i : Nat} (hk : k < rs.length) (h : i < (rg rs k).length) : off rs k + i < (verts rs).length := by
  have h1 := off_succ rs k hk
  have h2 := off_end rs
  have h3 : off rs (k + 1) ≤ off rs rs.length := by
    have : ∀ m, k + 1 + m ≤ rs.length → off rs (k + 1) ≤ off rs (k + 1 + m) := by
      intro m
      induction m with
      | zero => intro _; exact Nat.le_refl _
      | succ m ih =>
        intro hm
        have := ih (by omega)
        have e := off_succ rs (k + 1 + m) (by omega)
        have e2 : k + 1 + (m + 1) = k + 1 + m + 1 := by omega
        rw [e2, e]; omega
    have e := this (rs.length - (k + 1)) (by omega)
    rw [show k + 1 + (rs.length - (k + 1)) = rs.length by omega] at e
    exact e
  show off rs k + i < rs.flatten.length
  omega
theorem edge_border {rs : List (List IP)} (G : Good rs) {i : Nat} (h : i < rs.flatten.length) : edA rs i < (verts rs).length ∧ edB rs i < (verts rs).length ∧ (bnx rs (edA rs i) = edB rs i ∨ bnx rs (edB rs i) = edA rs i) := by
  obtain ⟨k, j, hk, hj, rfl⟩ := num_of rs i h
  obtain ⟨e1, e2⟩ := edge_at rs hj
  have h3 := G.three k hk
  have hm : (j + 1) % (rg rs k).length < (rg rs k).length := Nat.mod_lt _ (by omega)
  have la := edge_in hk hj
  have lb := edge_in hk hm
  rw [e1, e2]
  refine ⟨la, lb, (own_iff G la lb).1 ⟨k, hk, by omega, by omega, by omega, by omega, ?_⟩⟩
  rcases Nat.lt_or_ge (j + 1) (rg rs k).length with q | q
  · rw [Nat.mod_eq_of_lt q]; omega
  · rw [show j + 1 = (rg rs k).length by omega, Nat.mod_self]; omega
theorem border_ed {rs : List (List IP)} (G : Good rs) {a b : Nat} (ha : a < (verts rs).length) (hb : b < (verts rs).length) (h : bnx rs a = b ∨ bnx rs b = a) : ∃ i, i < rs.flatten.length ∧ (edA rs i = a ∧ edB rs i = b ∨ edA rs i = b ∧ edB rs i = a) := by
  obtain ⟨k, hk, o1, o2, o3, o4, o5⟩ := (own_iff G ha hb).2 h
  have key : ∀ a b, off rs k ≤ a → a < off rs k + (rg rs k).length → off rs k ≤ b → b < off rs k + (rg rs k).length → (b = a + 1 ∨ a + 1 = b + (rg rs k).length) → a < (verts rs).length → edA rs a = a ∧ edB rs a = b := by
    intro a b h1 h2 h3 h4 h5 h6
    obtain ⟨j, rfl⟩ : ∃ j, a = off rs k + j := ⟨a - off rs k, by omega⟩
    obtain ⟨e1, e2⟩ := edge_at rs (show j < (rg rs k).length by omega)
    refine ⟨e1, ?_⟩
    rw [e2]
    rcases h5 with h5 | h5
    · rw [Nat.mod_eq_of_lt (by omega)]; omega
    · rw [show j + 1 = (rg rs k).length by omega, Nat.mod_self]; omega
  rcases o5 with o | o | o | o
  · exact ⟨b, hb, .inr (key b a o3 o4 o1 o2 (.inl o) hb)⟩
  · exact ⟨a, ha, .inl (key a b o1 o2 o3 o4 (.inl o) ha)⟩
  · exact ⟨a, ha, .inl (key a b o1 o2 o3 o4 (.inr o) ha)⟩
  · exact ⟨b, hb, .inr (key b a o3 o4 o1 o2 (.inr o) hb)⟩
theorem edge_cells {w : World} {B gE cE : Nat} {rs : List (List IP)} (h : w.ownsRow B 91 7 (.slice (some ⟨gE, 0, none⟩) rs.flatten.length cE) rs.flatten.length (cells7 rs.flatten (eds3 0 0 rs))) {i : Nat} (hi : i < rs.flatten.length) :
    w.cell? ⟨gE, i * 7, none⟩ = some (.int .i64 (edA rs i : Int)) ∧ w.cell? ⟨gE, i * 7 + 1, none⟩ = some (.int .i64 (edB rs i : Int)) := by
  have l : i < (eds3 0 0 rs).length := by rw [eds3_length]; exact hi
  have g0 := cells7_get rs.flatten (eds3 0 0 rs) i 0 l (by decide)
  have g1 := cells7_get rs.flatten (eds3 0 0 rs) i 1 l (by decide)
  exact ⟨(h.cellAt (i * 7) (by omega)).trans g0, (h.cellAt (i * 7 + 1) (by omega)).trans g1⟩
def EdM (rs : List (List IP)) (n k q : Nat) : Prop := ∃ i, i < k ∧ (q = edA rs i * n + edB rs i ∨ q = edB rs i * n + edA rs i)
theorem EdM.all {rs : List (List IP)} (G : Good rs) {a b : Nat} (ha : a < (verts rs).length) (hb : b < (verts rs).length) (h : bnx rs a = b ∨ bnx rs b = a) : EdM rs (verts rs).length rs.flatten.length (a * (verts rs).length + b) := by
  obtain ⟨i, hi, e | e⟩ := border_ed G ha hb h
  · exact ⟨i, hi, .inl (by rw [e.1, e.2])⟩
  · exact ⟨i, hi, .inr (by rw [e.1, e.2])⟩
theorem sq_in {a b n : Nat} (ha : a < n) (hb : b < n) : a * n + b < n * n := by
  have : (a + 1) * n ≤ n * n := Nat.mul_le_mul_right n ha
  rw [Nat.add_mul] at this
  omega
end Go.Proofs.YtdkaoopkbhaheaaGreat
