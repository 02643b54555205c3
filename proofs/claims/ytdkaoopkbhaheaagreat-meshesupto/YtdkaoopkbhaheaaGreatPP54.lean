import Derived.Test.YtdkaoopkbhaheaaGreatPN49
import Derived.Test.YtdkaoopkbhaheaaGreatPN46
import Derived.Test.YtdkaoopkbhaheaaGreatPB7
set_option maxHeartbeats 8000000
namespace Go.Proofs.YtdkaoopkbhaheaaGreat
open Go.RowKit Go.Lib
open Jor
open scoped Classical
set_option linter.unusedVariables false
set_option linter.unusedSimpArgs false
theorem own_kept {B : Nat} {w w' : World} {e : TypeId} {size n : Nat} {v : Value} {xs : List Value} (h : w.ownsRow B e size v n xs) (hk : ∀ q, v.ownBlock = some q -> w'.heap[q]? = w.heap[q]?) : w'.ownsRow B e size v n xs := by
 refine ⟨h.1, ?_⟩
 rcases h.2 with hn | ⟨g, cap, cur, e1, h0, hg, rest⟩
 ·exact .inl hn
 ·exact .inr ⟨g, cap, cur, e1, h0, (hk g (by rw [e1]; rfl)).trans hg, rest⟩
theorem PtsAt.kept {w w' : World} {g n : Nat} {V : Nat -> IP} (h : PtsAt w g 0 n V) (hk : w'.heap[g]? = w.heap[g]?) : PtsAt w' g 0 n V := fun i hi => ⟨(World.cell?_of_block (a := ⟨g, 0 + i * 2, none⟩) hk).trans (h i hi).1, (World.cell?_of_block (a := ⟨g, 0 + i * 2 + 1, none⟩) hk).trans (h i hi).2⟩
theorem TriAt.kept {w w' : World} {b : Nat} {T : List T3} (h : TriAt w b T) (hk : w'.heap[b]? = w.heap[b]?) : TriAt w' b T := fun i hi => ⟨(World.cell?_of_block (a := ⟨b, i * 3, none⟩) hk).trans (h i hi).1, (World.cell?_of_block (a := ⟨b, i * 3 + 1, none⟩) hk).trans (h i hi).2.1, (World.cell?_of_block (a := ⟨b, i * 3 + 2, none⟩) hk).trans (h i hi).2.2⟩
theorem MeshP.keep {base : Nat} {w w' : World} {rs : List (List IP)} {bM : Nat} {T : List T3} {F : Nat -> Nat -> Option Int} (h : MeshP base w rs bM T F) (hv : 0 < (verts rs).length) (hk : ∀ q, base <= q -> q < w.heap.size -> w'.heap[q]? = w.heap[q]?) : MeshP base w' rs bM T F := by
 obtain ⟨h1, ⟨g, c', y, bl, L, h2, h3, h4⟩, h5, h6⟩ := h
 refine ⟨h1, ⟨g, c', y, bl, L, (hk _ h1 (Array.getElem?_eq_some_iff.1 h2).1).trans h2, ⟨h3.val, h3.gb, h3.pts.kept (hk g h3.gb (pts_lt h3.pts hv)), own_kept h3.row (fun q hq => ?_), h3.lb, h3.map.block (hk bl h3.lb h3.map.lt)⟩, h4⟩, h5, h6⟩
 obtain ⟨q1, q2⟩ := h3.row.lt q hq
 exact hk q q1 q2
structure XM (base : Nat) (W w : World) (x : Nat) (own : Int) (a : Option Addr) (cap : Nat) (rs : List (List IP)) (T : List T3) (F : Nat -> Nat -> Option Int) (bM g cg bt ct : Nat) (lv : Value) (LS : List Value) : Prop where
 blk : w.heap[x]? = some (.cells #[.pointer (some ⟨bM, 0, none⟩), .int .i64 own, .slice a rs.length cap, .slice (some ⟨g, 0, none⟩) (verts rs).length cg, .slice (some ⟨bt, 0, none⟩) T.length ct, lv] 62)
 xW : W.heap.size <= x
 bW : base <= W.heap.size
 mesh : MeshP base W rs bM T F
 pts : PtsAt W g 0 (verts rs).length (pt (verts rs))
 gb : base <= g
 snap : ∀ q, base <= q -> q < W.heap.size -> w.heap[q]? = W.heap[q]?
 tri : TriAt w bt T
 tx : bt ≠ x
 tl : some bt ≠ lv.ownBlock
 row : w.ownsRow W.heap.size 50 1 lv LS.length LS
 len4 : LS.length % 4 = 0
 lists : ∀ i u, LS[i]? = some u -> ∃ r, KR w (-1 - ((i / 4 * 4 : Nat) : Int), own, 0) u r
section
variable {base : Nat} {W w w' : World} {x : Nat} {own : Int} {a : Option Addr} {cap : Nat} {rs : List (List IP)} {T : List T3} {F : Nat -> Nat -> Option Int} {bM g cg bt ct : Nat} {lv : Value} {LS : List Value}
theorem XM.xlt (h : XM base W w x own a cap rs T F bM g cg bt ct lv LS) : x < w.heap.size := (Array.getElem?_eq_some_iff.1 h.blk).1
theorem XM.cells (h : XM base W w x own a cap rs T F bM g cg bt ct lv LS) : w.cell? ⟨x, 0, none⟩ = some (.pointer (some ⟨bM, 0, none⟩)) /\ w.cell? ⟨x, 1, none⟩ = some (.int .i64 own) /\ w.cell? ⟨x, 2, none⟩ = some (.slice a rs.length cap) /\ w.cell? ⟨x, 3, none⟩ = some (.slice (some ⟨g, 0, none⟩) (verts rs).length cg) /\ w.cell? ⟨x, 4, none⟩ = some (.slice (some ⟨bt, 0, none⟩) T.length ct) /\ w.cell? ⟨x, 5, none⟩ = some lv := by
 have := h.blk
 refine ⟨?_, ?_, ?_, ?_, ?_, ?_⟩ <;> simp [World.cell?, this]
theorem XM.pts' (h : XM base W w x own a cap rs T F bM g cg bt ct lv LS) (hv : 0 < (verts rs).length) : PtsAt w g 0 (verts rs).length (pt (verts rs)) := h.pts.kept (h.snap g h.gb (pts_lt h.pts hv))
theorem XM.mesh' (h : XM base W w x own a cap rs T F bM g cg bt ct lv LS) (hv : 0 < (verts rs).length) : MeshP base w rs bM T F := h.mesh.keep hv h.snap
theorem XM.keep (h : XM base W w x own a cap rs T F bM g cg bt ct lv LS) (ht : 0 < T.length) (hk : ∀ q, q < w.heap.size -> (base <= q /\ q < W.heap.size) \/ q = x \/ q = bt \/ lv.ownBlock = some q \/ (∃ cur, w.heap[q]? = some (.cells cur 53 (0, 0))) -> w'.heap[q]? = w.heap[q]?) (hs : w.heap.size <= w'.heap.size) (hWw : W.heap.size <= w.heap.size) : XM base W w' x own a cap rs T F bM g cg bt ct lv LS where
 blk := (hk x h.xlt (.inr (.inl rfl))).trans h.blk
 xW := h.xW
 bW := h.bW
 mesh := h.mesh
 pts := h.pts
 gb := h.gb
 snap := fun q h1 h2 => (hk q (by omega) (.inl ⟨h1, h2⟩)).trans (h.snap q h1 h2)
 tri := h.tri.kept (hk bt (tri_lt h.tri ht) (.inr (.inr (.inl rfl))))
 tx := h.tx
 tl := h.tl
 row := own_kept h.row (fun q hq => hk q (h.row.lt q hq).2 (.inr (.inr (.inr (.inl hq)))))
 len4 := h.len4
 lists := fun i u hu => by
  obtain ⟨r, hr⟩ := h.lists i u hu
  refine ⟨r, own_kept hr (fun q hq => ?_)⟩
  refine hk q (hr.lt q hq).2 (.inr (.inr (.inr (.inr ?_))))
  rcases hr.2 with ⟨e, _⟩ | ⟨g, cap, cur, e, _, h2, _⟩
  ·rw [e] at hq; cases hq
  ·rw [e] at hq; cases hq; exact ⟨cur, h2⟩
theorem XM.later (h : XM base W w x own a cap rs T F bM g cg bt ct lv LS) (ht : 0 < T.length) (hWw : W.heap.size <= w.heap.size) (hb : Below w.heap.size w w') : XM base W w' x own a cap rs T F bM g cg bt ct lv LS := h.keep ht (fun q hq _ => hb.block q hq) hb.size hWw
end
end Go.Proofs.YtdkaoopkbhaheaaGreat
namespace Go.Proofs.YtdkaoopkbhaheaaGreat
open Go.RowKit Go.Lib
open Jor
open scoped Classical
set_option linter.unusedVariables false
def edA (rs : List (List IP)) (i : Nat) : Nat := ((eds3 0 0 rs).getD i (0, 0, 0)).1
def edB (rs : List (List IP)) (i : Nat) : Nat := ((eds3 0 0 rs).getD i (0, 0, 0)).2.1
theorem edge_at (rs : List (List IP)) {k i : Nat} (h : i < (rg rs k).length) : edA rs (off rs k + i) = off rs k + i /\ edB rs (off rs k + i) = off rs k + (i + 1) % (rg rs k).length := by
 unfold edA edB
 rw [eds3_at rs 0 0 k i h]
 exact ⟨by simp, by simp⟩
theorem edge_in {rs : List (List IP)} {k i : Nat} (hk : k < rs.length) (h : i < (rg rs k).length) : off rs k + i < (verts rs).length := by
 have h1 := off_succ rs k hk
 have h2 := off_end rs
 have h3 : off rs (k + 1) <= off rs rs.length := by
  have : ∀ m, k + 1 + m <= rs.length -> off rs (k + 1) <= off rs (k + 1 + m) := by
   intro m
   induction m with
   | zero => intro _; exact Nat.le_refl _
   | succ m ih =>
    intro hm
    have := ih (by omega)
    have e := off_succ rs (k + 1 + m) (by omega)
    have e2 : k + 1 + (m + 1) = k + 1 + m + 1 := by omega
    rw [e2, e]; omega
  have e := this (rs.length - (k + 1)) (by omega)
  rw [show k + 1 + (rs.length - (k + 1)) = rs.length by omega] at e
  exact e
 show off rs k + i < rs.flatten.length
 omega
theorem edge_border {rs : List (List IP)} (G : Good rs) {i : Nat} (h : i < rs.flatten.length) : edA rs i < (verts rs).length /\ edB rs i < (verts rs).length /\ (bnx rs (edA rs i) = edB rs i \/ bnx rs (edB rs i) = edA rs i) := by
 obtain ⟨k, j, hk, hj, rfl⟩ := num_of rs i h
 obtain ⟨e1, e2⟩ := edge_at rs hj
 have h3 := G.three k hk
 have hm : (j + 1) % (rg rs k).length < (rg rs k).length := Nat.mod_lt _ (by omega)
 have la := edge_in hk hj
 have lb := edge_in hk hm
 rw [e1, e2]
 refine ⟨la, lb, (own_iff G la lb).1 ⟨k, hk, by omega, by omega, by omega, by omega, ?_⟩⟩
 rcases Nat.lt_or_ge (j + 1) (rg rs k).length with q | q
 ·rw [Nat.mod_eq_of_lt q]; omega
 ·rw [show j + 1 = (rg rs k).length by omega, Nat.mod_self]; omega
theorem border_ed {rs : List (List IP)} (G : Good rs) {a b : Nat} (ha : a < (verts rs).length) (hb : b < (verts rs).length) (h : bnx rs a = b \/ bnx rs b = a) : ∃ i, i < rs.flatten.length /\ (edA rs i = a /\ edB rs i = b \/ edA rs i = b /\ edB rs i = a) := by
 obtain ⟨k, hk, o1, o2, o3, o4, o5⟩ := (own_iff G ha hb).2 h
 have key : ∀ a b, off rs k <= a -> a < off rs k + (rg rs k).length -> off rs k <= b -> b < off rs k + (rg rs k).length -> (b = a + 1 \/ a + 1 = b + (rg rs k).length) -> a < (verts rs).length -> edA rs a = a /\ edB rs a = b := by
  intro a b h1 h2 h3 h4 h5 h6
  obtain ⟨j, rfl⟩ : ∃ j, a = off rs k + j := ⟨a - off rs k, by omega⟩
  obtain ⟨e1, e2⟩ := edge_at rs (show j < (rg rs k).length by omega)
  refine ⟨e1, ?_⟩
  rw [e2]
  rcases h5 with h5 | h5
  ·rw [Nat.mod_eq_of_lt (by omega)]; omega
  ·rw [show j + 1 = (rg rs k).length by omega, Nat.mod_self]; omega
 rcases o5 with o | o | o | o
 ·exact ⟨b, hb, .inr (key b a o3 o4 o1 o2 (.inl o) hb)⟩
 ·exact ⟨a, ha, .inl (key a b o1 o2 o3 o4 (.inl o) ha)⟩
 ·exact ⟨a, ha, .inl (key a b o1 o2 o3 o4 (.inr o) ha)⟩
 ·exact ⟨b, hb, .inr (key b a o3 o4 o1 o2 (.inr o) hb)⟩
theorem edge_cells {w : World} {B gE cE : Nat} {rs : List (List IP)} (h : w.ownsRow B 91 7 (.slice (some ⟨gE, 0, none⟩) rs.flatten.length cE) rs.flatten.length (cells7 rs.flatten (eds3 0 0 rs))) {i : Nat} (hi : i < rs.flatten.length) :
  w.cell? ⟨gE, i * 7, none⟩ = some (.int .i64 (edA rs i : Int)) /\ w.cell? ⟨gE, i * 7 + 1, none⟩ = some (.int .i64 (edB rs i : Int)) := by
 have l : i < (eds3 0 0 rs).length := by rw [eds3_length]; exact hi
 have g0 := cells7_get rs.flatten (eds3 0 0 rs) i 0 l (by decide)
 have g1 := cells7_get rs.flatten (eds3 0 0 rs) i 1 l (by decide)
 exact ⟨(h.cellAt (i * 7) (by omega)).trans g0, (h.cellAt (i * 7 + 1) (by omega)).trans g1⟩
def EdM (rs : List (List IP)) (n k q : Nat) : Prop := ∃ i, i < k /\ (q = edA rs i * n + edB rs i \/ q = edB rs i * n + edA rs i)
theorem EdM.all {rs : List (List IP)} (G : Good rs) {a b : Nat} (ha : a < (verts rs).length) (hb : b < (verts rs).length) (h : bnx rs a = b \/ bnx rs b = a) : EdM rs (verts rs).length rs.flatten.length (a * (verts rs).length + b) := by
 obtain ⟨i, hi, e | e⟩ := border_ed G ha hb h
 ·exact ⟨i, hi, .inl (by rw [e.1, e.2])⟩
 ·exact ⟨i, hi, .inr (by rw [e.1, e.2])⟩
theorem sq_in {a b n : Nat} (ha : a < n) (hb : b < n) : a * n + b < n * n := by
 have : (a + 1) * n <= n * n := Nat.mul_le_mul_right n ha
 rw [Nat.add_mul] at this
 omega
end Go.Proofs.YtdkaoopkbhaheaaGreat
