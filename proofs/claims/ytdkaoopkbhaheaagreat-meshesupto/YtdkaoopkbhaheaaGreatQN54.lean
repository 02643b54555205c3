import Derived.Test.YtdkaoopkbhaheaaGreatPP54
import Derived.Test.YtdkaoopkbhaheaaGreatQN52
import Derived.Test.YtdkaoopkbhaheaaGreatQN53
import Derived.Test.YtdkaoopkbhaheaaGreatQH4
import Derived.Test.YtdkaoopkbhaheaaGreatQH5
import Derived.Test.YtdkaoopkbhaheaaGreatQE1
import Derived.Deep.DeepCutAuto
set_option maxHeartbeats 8000000
namespace Go.Proofs.YtdkaoopkbhaheaaGreat
open Go.RowKit Go.Lib
open Jor
open scoped Classical
set_option linter.unusedVariables false
set_option linter.unusedSimpArgs false
set_option maxRecDepth 100000 in
theorem clone4_any (B : Nat) (g c : Nat) (T : List T3) (w : World) (h0 : 0 < T.length) (hT : T.length <= 1048576) (ho : w.ownsRow B 53 3 (.slice (some ⟨g, 0, none⟩) T.length c) T.length (cells3 T)) :
  Calls Tryz.prog 55 #[.slice (some ⟨g, 0, none⟩) T.length c] w fun e w' => ∃ b c2, e = .returned (.slice (some ⟨b, 0, none⟩) T.length c2) /\ w.heap.size <= b /\ w'.ownsRow 0 53 3 (.slice (some ⟨b, 0, none⟩) T.length c2) T.length (cells3 T) /\ Below w.heap.size w w' := by
 have hnil := run_eql_slice_nil (P := Tryz.prog) w 50 53 (some ⟨g, 0, none⟩) T.length c 0 0 underST
 obtain ⟨i0, hi0, hz0, hz1, hz2⟩ := info_parts infoT
 have hb0 : Below w.heap.size w (w.alloc (.cells #[] 53)) := (Below.refl _ _).alloc (Nat.le_refl _) _
 have HO : Hid ((w.alloc (.cells #[] 53)).ownsRow w.heap.size 53 3 (.slice (some ⟨w.heap.size, 0, none⟩) 0 0) 0 []) := ⟨rfl, .inr ⟨w.heap.size, 0, #[], rfl, Nat.le_refl _, heap_alloc_new _ _, Nat.le_refl _, by unfold maxLen; omega, rfl, rfl⟩⟩
 have HN : Hid (∀ j u, (cells3 T)[j]? = some u -> (w.alloc (.cells #[] 53)).cell? ((⟨g, 0, none⟩ : Addr).add j) = some u) := fun j u hu => by
  have hj : j < T.length * 3 := by
   have := (List.getElem?_eq_some_iff.1 hu).1
   rwa [cells3_length] at this
  have h1 := (own_later ho hb0).cellAt j hj
  rw [hu] at h1
  rw [addr_add, Nat.zero_add]; exact h1
 simp only [Option.isNone] at hnil
 go_enter Tryz.func55, Tryz.ntmps55
 go_wp2_with (at_builtin; refine wpList_append_own _ rfl _ _ 50 rfl w.heap.size 53 i0 _ 3 24 underST hi0 hz0 hz1 hz2 rfl (by decide) _ _ _ rfl HO.out ⟨g, 0, none⟩ T.length c (cells3 T) rfl (cells3_length _) HN.out (cells3_one _) (by unfold maxLen; omega) (by omega) hb0.size ?_; intro v' w1 hown1 hgrow1 _)
 go_ret
 rw [Nat.zero_add, List.nil_append] at hown1
 have hbz : Below w.heap.size w w1 := hb0.grown hgrow1 hb0.size (fun j hj => by cases hj; exact Nat.le_refl _)
 obtain ⟨b, c2, rfl, hbb⟩ : ∃ b c2, v' = .slice (some ⟨b, 0, none⟩) T.length c2 /\ w.heap.size <= b := by
  rcases hown1.2 with ⟨_, h⟩ | ⟨b, c2, _, h, h2, _⟩
  ·omega
  ·exact ⟨b, c2, h, h2⟩
 exact ⟨b, c2, rfl, hbb, own_base hown1 (Nat.zero_le _), hbz⟩
theorem mtri4_any (B : Nat) (g c' bl : Nat) (y : Value) (rs : List (List IP)) (T : List T3) (w : World) (h0 : 0 < T.length) (hT : T.length <= 1048576) (hM : MeshAt B w rs T (.agg #[.slice (some ⟨g, 0, none⟩) (verts rs).length c', y, .map (some bl)]) g c' y bl) :
  Calls Tryz.prog 37 #[.agg #[.slice (some ⟨g, 0, none⟩) (verts rs).length c', y, .map (some bl)]] w fun e w' => ∃ b c2, e = .returned (.slice (some ⟨b, 0, none⟩) T.length c2) /\ w.heap.size <= b /\ w'.ownsRow 0 53 3 (.slice (some ⟨b, 0, none⟩) T.length c2) T.length (cells3 T) /\ Below w.heap.size w w' := by
 have ho := hM.row
 obtain ⟨gT, cT, rfl⟩ : ∃ gT cT, y = .slice (some ⟨gT, 0, none⟩) T.length cT := by
  rcases ho.2 with ⟨_, h⟩ | ⟨b, c2, _, h, h2, _⟩
  ·omega
  ·exact ⟨b, c2, h⟩
 clear hM
 have hb0 : Below w.heap.size w (w.alloc (.cells #[.slice (some ⟨g, 0, none⟩) (verts rs).length c', .slice (some ⟨gT, 0, none⟩) T.length cT, .map (some bl)] 81)) := (Below.refl _ _).alloc (Nat.le_refl _) _
 have HO : Hid ((w.alloc (.cells #[.slice (some ⟨g, 0, none⟩) (verts rs).length c', .slice (some ⟨gT, 0, none⟩) T.length cT, .map (some bl)] 81)).ownsRow B 53 3 (.slice (some ⟨gT, 0, none⟩) T.length cT) T.length (cells3 T)) := own_later ho hb0
 clear ho
 go_enter Tryz.func37, Tryz.ntmps37
 go_wp2_with (go_at_call 55; refine (clone4_any B _ _ _ _ h0 hT HO.out).mono ?_; rintro e w1 ⟨b, c2, rfl, h1, h2, h3⟩)
 go_ret
 exact ⟨b, c2, rfl, Nat.le_trans hb0.size h1, h2, below_then hb0 h3⟩
theorem ftri4_any (B : Nat) (bM : Nat) (rs : List (List IP)) (T : List T3) (F : Nat -> Nat -> Option Int) (w : World) (h0 : 0 < T.length) (hT : T.length <= 1048576) (hM : MeshP B w rs bM T F) :
  Calls Tryz.prog 16 #[.pointer (some ⟨bM, 0, none⟩)] w fun e w' => ∃ b c2, e = .returned (.slice (some ⟨b, 0, none⟩) T.length c2) /\ w.heap.size <= b /\ w'.ownsRow 0 53 3 (.slice (some ⟨b, 0, none⟩) T.length c2) T.length (cells3 T) /\ Below w.heap.size w w' := by
 obtain ⟨_, ⟨g, c', y, bl, L, h2, h3, h4⟩, h5, h6⟩ := hM
 have H3 : Hid (MeshAt B w rs T (.agg #[.slice (some ⟨g, 0, none⟩) (verts rs).length c', y, .map (some bl)]) g c' y bl) := h3
 clear h3 h4 h5 h6
 have c0 : w.cell? ⟨bM, 0, none⟩ = some (Value.slice (some ⟨g, 0, none⟩) (verts rs).length c') := by simp [World.cell?, h2]
 have c1 : w.cell? ⟨bM, 1, none⟩ = some y := by simp [World.cell?, h2]
 have c2 : w.cell? ⟨bM, 2, none⟩ = some (.map (some bl)) := by simp [World.cell?, h2]
 clear h2
 go_enter Tryz.func16, Tryz.ntmps16
 go_wp2_with (go_at_call 37; refine (mtri4_any B _ _ _ _ _ _ _ h0 hT H3.out).mono ?_; rintro e w1 ⟨b, c2, rfl, h1, h2, h3⟩)
 go_ret
 exact ⟨b, c2, rfl, h1, h2, h3⟩
theorem tri_row {w : World} {B b c : Nat} {T : List T3} (h : w.ownsRow B 53 3 (.slice (some ⟨b, 0, none⟩) T.length c) T.length (cells3 T)) : TriAt w b T := tri_cells h
theorem pts_row {w : World} {B : Nat} {rs : List (List IP)} {v : Value} (h0 : 0 < (verts rs).length) (h : w.ownsRow B 34 2 v rs.flatten.length (cells2 rs.flatten)) : ∃ g c, v = .slice (some ⟨g, 0, none⟩) (verts rs).length c /\ B <= g /\ PtsAt w g 0 (verts rs).length (pt (verts rs)) := by
 obtain ⟨g, c, rfl, hg⟩ : ∃ g c, v = .slice (some ⟨g, 0, none⟩) (verts rs).length c /\ B <= g := by
  rcases h.2 with ⟨_, h⟩ | ⟨g, c, _, h, h2, _⟩
  ·exact absurd h (by show ¬ (verts rs).length = 0; omega)
  ·exact ⟨g, c, h, h2⟩
 refine ⟨g, c, rfl, hg, fun i hi => ?_⟩
 have q := cells2_get (verts rs) i hi
 rw [Nat.zero_add]
 exact ⟨(h.cellAt (i * 2) (by show _ < (verts rs).length * 2; omega)).trans q.1, (h.cellAt (i * 2 + 1) (by show _ < (verts rs).length * 2; omega)).trans q.2⟩
theorem MeshP.lower {b0 base : Nat} {w : World} {rs : List (List IP)} {bM : Nat} {T : List T3} {F : Nat -> Nat -> Option Int} (h : MeshP base w rs bM T F) (hb : b0 <= base) : MeshP b0 w rs bM T F := by
 obtain ⟨h1, ⟨g, c', y, bl, L, h2, h3, h4⟩, h5, h6⟩ := h
 exact ⟨Nat.le_trans hb h1, ⟨g, c', y, bl, L, h2, h3.base hb, h4⟩, h5, h6⟩
theorem XM.first {base : Nat} {W w9 w10 : World} {x : Nat} {own : Int} {a : Option Addr} {cap : Nat} {rs : List (List IP)} {T : List T3} {F : Nat -> Nat -> Option Int} {bM g cg bt ct b c : Nat} (xW : W.heap.size <= x) (bW : base <= W.heap.size) (mesh : MeshP base W rs bM T F) (pts : PtsAt W g 0 (verts rs).length (pt (verts rs))) (gb : base <= g)
  (snap : ∀ q, q < W.heap.size -> w9.heap[q]? = W.heap[q]?) (hs : W.heap.size <= w9.heap.size) (tri : TriAt w9 bt T) (ht : 0 < T.length) (tx : bt ≠ x) (tb : bt ≠ b) (bb : W.heap.size <= b)
  (h : KeepP w9 w10 x b 0 T.length W.heap.size own (.pointer (some ⟨bM, 0, none⟩)) (.slice a rs.length cap) (.slice (some ⟨g, 0, none⟩) (verts rs).length cg) (.slice (some ⟨bt, 0, none⟩) T.length ct) (.slice none 0 0) (.slice (some ⟨b, 0, none⟩) T.length c) []) :
  ∃ lv LS, XM base W w10 x own a cap rs T F bM g cg bt ct lv LS /\ LS.length = 4 /\ w9.heap.size <= w10.heap.size /\ w10.os = w9.os /\ w10.tape = w9.tape /\ w10.output = w9.output /\ ∀ q, q < w9.heap.size -> q ≠ x -> q ≠ b -> w10.heap[q]? = w9.heap[q]? := by
 obtain ⟨lv', u1, u2, u3, h1, h2, h3, k0, ⟨_, _, _, k1, _⟩, ⟨_, _, _, k2, _⟩, ⟨_, _, _, k3, _⟩, o1, o2, o3, o4, kept⟩ := h
 have kept' : ∀ q, q < w9.heap.size -> q ≠ x -> q ≠ b -> w10.heap[q]? = w9.heap[q]? := fun q hq n1 n2 => kept q hq n1 n2 (by simp [Value.ownBlock])
 have lt := tri_lt tri ht
 refine ⟨lv', _, ⟨h1, xW, bW, mesh, pts, gb, fun q _ hq => (kept' q (by omega) (by omega) (by omega)).trans (snap q hq), tri.kept (kept' bt lt tx tb), tx, fun e => ?_, h2, by simp, fun i u hu => ?_⟩, by simp, o4, o1, o2, o3, kept'⟩
 ·rcases h3 with h | ⟨g, h, hg⟩
  ·rw [h] at e; cases e
  ·rw [h] at e; cases e; omega
 ·have hi : i < 4 := (List.getElem?_eq_some_iff.1 hu).1
  have e4 : i / 4 * 4 = 0 := by omega
  rw [e4]
  rcases (show i = 0 \/ i = 1 \/ i = 2 \/ i = 3 by omega) with rfl | rfl | rfl | rfl
  ·cases hu; exact ⟨_, k0⟩
  ·cases hu; exact ⟨_, k1⟩
  ·cases hu; exact ⟨_, k2⟩
  ·cases hu; exact ⟨_, k3⟩
def MadeP (w : World) (own : Int) (a : Option Addr) (cap : Nat) (rs : List (List IP)) (e : Ending) (w' : World) : Prop :=
 (chkP rs ≠ 0 /\ e = .returned (.tuple #[.pointer none, .bool true]) /\ Below w.heap.size w w') \/
 (chkP rs = 0 /\ ∃ x T F bM g cg bt ct lv LS W, e = .returned (.tuple #[.pointer (some ⟨x, 0, none⟩), .bool true]) /\ XM w.heap.size W w' x own a cap rs T F bM g cg bt ct lv LS /\ W.heap.size <= w'.heap.size /\ LS.length = 4 /\ Below w.heap.size w w')
set_option maxRecDepth 100000 in
theorem made_any (a : Option Addr) (cap : Nat) (A : Nat -> Option Addr) (C : Nat -> Nat) (rs : List (List IP)) (own : Int) (w : World) (hn : rs.length <= 1048576) (hsz : (verts rs).length <= 1048576) (hp : RingsL w a A C rs) :
  Calls Tryz.prog 8 #[.slice a rs.length cap, .int .i64 own] w fun e w' => MadeP w own a cap rs e w' := by
 have same : Hid (chkR rs = chkP rs) := (check_same rs).symm
 have HP : Hid (RingsL w a A C rs) := hp
 clear hp
 go_enter Tryz.func8, Tryz.ntmps8
 go_upto_region 2 with (first | (go_at_call 17; refine (lend_any _ _ _ _ rs _ hn HP.out hsz).mono ?_; rintro e w1 ⟨rfl, ⟨v1, R1, hL1⟩, hb1⟩))
 have HL1 : Hid (LentAt w1 rs w.heap.size rs.length v1 R1) := hL1
 have hr1 : Hid (RingsL w1 (some ⟨w.heap.size + 1, 0, none⟩) (fun k => some ⟨R1 k, 0, none⟩) (fun k => (rg rs k).length + 8) rs) := lent_rings hL1
 clear hL1
 by_cases hz : chkP rs = 0
 ·have G := good_of hz
  have HG : Hid (Good rs) := G
  have hv0 := G.pos
  have h64 := G.few
  have h8 := G.eight
  clear G
  go_upto_region 3 with (first | (go_at_call 15; refine (fnew_good _ _ _ _ _ rs _ (by omega) (by omega) hn hsz hr1.out hz).mono ?_; rintro e w2 ⟨bM, T, F, rfl, hM, hb2⟩))
  have HM2 : Hid (MeshP w1.heap.size w2 rs bM T F) := hM
  have hb12 := below_then hb1 hb2
  clear hM
  go_upto_region 4 with (first | (go_at_call 18; refine (still_any _ _ _ _ rs w _ _ _ hn HP.out hsz (HL1.out.from.later hb2) hb12).mono ?_; rintro e w3 ⟨rfl, hb3, hkr⟩))
  have HM3 : Hid (MeshP w1.heap.size w3 rs bM T F) := HM2.out.keep hv0 (fun q h1 h2 => hkr.2 q h2 (fun k hk e => by have := ((HL1.out.ring k hk).lt (R1 k) rfl).2; omega))
  have hs13 : w1.heap.size <= w3.heap.size := Nat.le_trans hb2.size hkr.1
  clear hkr hb2 HM2 hb12
  go_upto_region 5 with (first | (go_at_call 19; refine (refCheck_any _ _ _ _ rs _ hn (Rings.later hb3 HP.out) hsz).mono ?_; rintro e w4 ⟨rfl, hb4⟩))
  rw [same.out, hz]
  go_upto_region 9 with (first | (go_at_call 20; refine (num_any _ _).mono ?_; rintro e w9 ⟨rfl, hw9⟩; rw [hw9]; clear hw9 w9))
  have hb04 := below_then hb3 hb4
  have HM4 : Hid (MeshP w.heap.size w4 rs bM T F) := (HM3.out.later hb4).lower hb1.size
  obtain ⟨f1, f2, _, _, _⟩ := mesh_facts HG.out HM4.out
  have hT : T.length <= 1048576 := by omega
  clear f1 HM3 hs13
  obtain ⟨i0, hi0, hz0, hz1, hz2⟩ := info_parts infoT3
  go_upto_region 10 with (first | (go_at_call 21; refine (points_any _ _ _ _ rs _ hn (Rings.later hb04 HP.out) (fun k hk => by have := HG.out.three k hk; omega) hsz).mono ?_; rintro e w5 ⟨v, rfl, hv, hb5⟩; obtain ⟨g, cg, rfl, hgB, hpt⟩ := pts_row hv0 hv; have HPT : Hid (PtsAt w5 g 0 (verts rs).length (pt (verts rs))) := hpt; clear hv hpt))
  obtain ⟨w6, hw6⟩ : ∃ w6, w6 = w5.alloc (.cells #[.pointer (some ⟨bM, 0, none⟩), .int .i64 own, .slice a rs.length cap, .slice (some ⟨g, 0, none⟩) (verts rs).length cg, .slice none 0 0, .slice none 0 0] 62) := ⟨_, rfl⟩
  have b6 : w6.heap[w5.heap.size]? = some (.cells #[.pointer (some ⟨bM, 0, none⟩), .int .i64 own, .slice a rs.length cap, .slice (some ⟨g, 0, none⟩) (verts rs).length cg, .slice none 0 0, .slice none 0 0] 62) := by rw [hw6]; exact heap_alloc_new _ _
  have hb6 : Below w5.heap.size w5 w6 := by rw [hw6]; exact (Below.refl _ _).alloc (Nat.le_refl _) _
  have hs6 : w6.heap.size = w5.heap.size + 1 := by rw [hw6]; simp
  rw [<- hw6]
  clear hw6
  have HM5 : Hid (MeshP w.heap.size w5 rs bM T F) := HM4.out.later hb5
  have hb05 := below_then hb04 hb5
  go_upto_region 11 with (first | (go_at_call 16; refine (ftri4_any _ _ rs T F _ f2 hT (HM5.out.later hb6)).mono ?_; rintro e w7 ⟨b, c2, rfl, hbb, hrow, hb7⟩))
  have b7 := (hb7.block w5.heap.size (by omega)).trans b6
  have x4c : w7.cell? ⟨w5.heap.size, 4, none⟩ = some (.slice none 0 0) := by simp [World.cell?, b7]
  have HN : Hid (∀ j u, (cells3 T)[j]? = some u -> w7.cell? ((⟨b, 0, none⟩ : Addr).add j) = some u) := World.ownsRow.cells hrow rfl
  have HO : Hid (w7.ownsRow w7.heap.size 53 3 (.slice none 0 0) 0 []) := World.ownsRow_nil _ _ _ _
  have HR7 : Hid (w7.ownsRow 0 53 3 (.slice (some ⟨b, 0, none⟩) T.length c2) T.length (cells3 T)) := hrow
  have HB7 : Hid (w7.heap[w5.heap.size]? = some (.cells #[.pointer (some ⟨bM, 0, none⟩), .int .i64 own, .slice a rs.length cap, .slice (some ⟨g, 0, none⟩) (verts rs).length cg, .slice none 0 0, .slice none 0 0] 62)) := b7
  have hs7 : w5.heap.size < w7.heap.size := (Array.getElem?_eq_some_iff.1 b7).1
  clear hrow b7 b6
  go_upto_region 12 with (at_builtin; refine wpList_append_lies _ rfl _ _ 50 rfl w7.heap.size 53 i0 _ 3 24 underT hi0 hz0 hz1 hz2 rfl (by decide) _ _ _ rfl HO.out ⟨b, 0, none⟩ T.length c2 (cells3 T) rfl (cells3_length _) HN.out (cells3_one _) f2 (by unfold maxLen; omega) (by omega) (Nat.le_refl _) _ rfl ?_; intro bt ct w8 hown8 hgrow8 hat8 hlt8; rw [Nat.zero_add]; rw [Nat.zero_add, List.nil_append] at hown8; have hg8 : w7.grownBy w8 none := hgrow8; have B8 := (hg8.block w5.heap.size hs7 (by simp)).trans HB7.out; have k4 : w8.cell? ⟨w5.heap.size, 4, none⟩ = some (.slice none 0 0) := (by simp [World.cell?, B8]); have q4 : w8.frozen? ⟨w5.heap.size, 4, none⟩ = false := (by simp [World.frozen?, B8]))
  have hbt : w7.heap.size <= bt := by
   rcases hat8 with h | h
   ·cases h
   ·omega
  have hbw7 : b < w7.heap.size := (HR7.out.lt b rfl).2
  have s67 := hb7.size
  obtain ⟨w9, hw9⟩ : ∃ w9, w9 = w8.setCell ⟨w5.heap.size, 4, none⟩ (.slice (some ⟨bt, 0, none⟩) T.length ct) := ⟨_, rfl⟩
  have far9 : ∀ q, q ≠ w5.heap.size -> w9.heap[q]? = w8.heap[q]? := fun q hq => by rw [hw9]; exact Below.heap_setCell _ _ _ q hq
  have sz9 : w9.heap.size = w8.heap.size := by rw [hw9]; simp
  have b9 : w9.heap[w5.heap.size]? = some (.cells #[.pointer (some ⟨bM, 0, none⟩), .int .i64 own, .slice a rs.length cap, .slice (some ⟨g, 0, none⟩) (verts rs).length cg, .slice (some ⟨bt, 0, none⟩) T.length ct, .slice none 0 0] 62) := by
   rw [hw9, heap_setCell_same w8 w5.heap.size 4 _ _ _ B8]; rfl
  have os9 : w9.os = w8.os := by rw [hw9]; rfl
  have tp9 : w9.tape = w8.tape := by rw [hw9]; rfl
  have op9 : w9.output = w8.output := by rw [hw9]; rfl
  rw [<- hw9]
  clear hw9
  have s8 := hg8.size
  have snap9 : ∀ q, q < w5.heap.size -> w9.heap[q]? = w5.heap[q]? := fun q hq => by
   rw [far9 q (by omega), hg8.block q (by omega) (by simp), hb7.block q (by omega), hb6.block q hq]
  have row9 : w9.ownsRow 0 53 3 (.slice (some ⟨b, 0, none⟩) T.length c2) T.length (cells3 T) := own_kept HR7.out (fun q hq => by
   cases hq
   show w9.heap[b]? = w7.heap[b]?
   rw [far9 b (by omega), hg8.block b hbw7 (by simp)])
  have tri9 : TriAt w9 bt T := (tri_row hown8).kept (far9 bt (by omega))
  have KC : Hid (Calls Tryz.prog 22 #[.pointer (some ⟨w5.heap.size, 0, none⟩), .slice (some ⟨b, 0, none⟩) T.length c2] w9 fun e w' => e = .returned (.tuple #[]) /\ KeepP w9 w' w5.heap.size b 0 T.length w5.heap.size own (.pointer (some ⟨bM, 0, none⟩)) (.slice a rs.length cap) (.slice (some ⟨g, 0, none⟩) (verts rs).length cg) (.slice (some ⟨bt, 0, none⟩) T.length ct) (.slice none 0 0) (.slice (some ⟨b, 0, none⟩) T.length c2) []) := keep_any _ b _ c2 0 w5.heap.size own _ _ _ _ (.slice none 0 0) [] (cells3 T) w9 f2 hT (by omega) b9 (World.ownsRow_nil _ _ _ _) row9 (by omega)
  have XF : Hid (∀ w10, KeepP w9 w10 w5.heap.size b 0 T.length w5.heap.size own (.pointer (some ⟨bM, 0, none⟩)) (.slice a rs.length cap) (.slice (some ⟨g, 0, none⟩) (verts rs).length cg) (.slice (some ⟨bt, 0, none⟩) T.length ct) (.slice none 0 0) (.slice (some ⟨b, 0, none⟩) T.length c2) [] -> ∃ lv LS, XM w.heap.size w5 w10 w5.heap.size own a cap rs T F bM g cg bt ct lv LS /\ w5.heap.size <= w10.heap.size /\ LS.length = 4 /\ Below w.heap.size w w10) := fun w10 h => by
   obtain ⟨lv, LS, h1, h2, h3, h4, h5, h6, h7⟩ := XM.first (base := w.heap.size) (W := w5) (Nat.le_refl _) hb05.size HM5.out HPT.out (Nat.le_trans hb04.size hgB) snap9 (by omega) tri9 f2 (by omega) (by omega) (by omega) h
   refine ⟨lv, LS, h1, by omega, h2, ⟨?_, ?_, ?_, ?_, fun q hq => ?_⟩⟩
   ·rw [h4, os9, hg8.os, hb7.os, hb6.os, hb05.os]
   ·rw [h5, tp9, hg8.tape, hb7.tape, hb6.tape, hb05.tape]
   ·rw [h6, op9, hg8.output, hb7.output, hb6.output, hb05.output]
   ·have := hb05.size; omega
   ·have := hb05.size
    rw [h7 q (by omega) (by omega) (by omega), snap9 q (by omega), hb05.block q hq]
  clear far9 sz9 b9 os9 tp9 op9 snap9 row9 tri9 hown8 hgrow8 hat8 hlt8 B8 k4 q4 x4c HN HO HR7 HB7 hg8
  go_upto_region 13 with (first | (go_at_call 22; refine KC.out.mono ?_; rintro e w10 ⟨rfl, hk⟩; obtain ⟨lv, LS, hX, hsX, h4, hb10⟩ := XF.out _ hk; have HX : Hid (XM w.heap.size w5 w10 w5.heap.size own a cap rs T F bM g cg bt ct lv LS) := hX; clear hk hX))
  have HFM : Hid (∀ z, Below w10.heap.size w10 z -> Calls Tryz.prog 23 #[.pointer (some ⟨w5.heap.size, 0, none⟩)] z fun e w' => e = .returned (.bool true) /\ Below z.heap.size z w') := fun z hbz => by
   have X := HX.out.later f2 hsX hbz
   obtain ⟨_, _, c2', c3', c4', _⟩ := X.cells
   obtain ⟨_, ⟨_, _, _, _, L, _, _, I⟩, hs, hm⟩ := HM5.out
   exact formed_any _ g cg bt ct a cap A C rs T L F z HG.out hs hm I c2' c3' c4' (X.pts' hv0) X.tri (Rings.later (below_then hb10 hbz) HP.out)
  have HED : Hid (∀ z, Below w10.heap.size w10 z -> Calls Tryz.prog 24 #[.pointer (some ⟨w5.heap.size, 0, none⟩)] z fun e w' => e = .returned (.bool true) /\ Below z.heap.size z w') := fun z hbz => by
   have X := HX.out.later f2 hsX hbz
   obtain ⟨_, _, c2', c3', c4', _⟩ := X.cells
   obtain ⟨_, ⟨_, _, _, _, L, _, _, I⟩, hs, hm⟩ := HM5.out
   exact edged_any _ g cg bt ct a cap A C rs T L F z HG.out hs hm I c2' c3' c4' (X.pts' hv0) X.tri (Rings.later (below_then hb10 hbz) HP.out)
  go_upto_region 14 with (first | (go_at_call 23; refine (HFM.out _ (Below.refl _ _)).mono ?_; rintro e w11 ⟨rfl, hb11⟩))
  go_wp2_with (first | (go_at_call 24; refine (HED.out _ hb11).mono ?_; rintro e w12 ⟨rfl, hb12⟩))
  have hbE := below_then hb11 hb12
  go_ret2
  exact .inr ⟨hz, _, T, F, bM, g, cg, bt, ct, lv, LS, w5, rfl, HX.out.later f2 hsX hbE, Nat.le_trans hsX hbE.size, h4, below_then hb10 hbE⟩
 ·go_upto_region 3 with (first | (go_at_call 15; refine (fnew_bad _ _ _ _ rs _ (by omega) (by omega) hn hsz hr1.out hz).mono ?_; rintro e w2 ⟨rfl, hb2⟩))
  have hb12 := below_then hb1 hb2
  go_upto_region 4 with (first | (go_at_call 18; refine (still_any _ _ _ _ rs w _ _ _ hn HP.out hsz (HL1.out.from.later hb2) hb12).mono ?_; rintro e w3 ⟨rfl, hb3, hkr⟩))
  go_upto_region 5 with (first | (go_at_call 19; refine (refCheck_any _ _ _ _ rs _ hn (Rings.later hb3 HP.out) hsz).mono ?_; rintro e w4 ⟨rfl, hb4⟩))
  rw [same.out]
  have hz' : (chkP rs == 0) = false := by rw [beq_eq_false_iff_ne]; exact hz
  have HZ : Hid (chkP rs ≠ 0) := hz
  have hb04 := below_then hb3 hb4
  clear hkr hb3 hb4 hb2 hb12 hb1
  generalize hch : chkP rs = ch at *
  go_wp2_with (go_at_call 20; refine (num_any _ _).mono ?_; rintro e w9 ⟨rfl, hw9⟩; rw [hw9]; clear hw9 w9)
  go_ret2
  exact .inl ⟨by rw [hch]; exact HZ.out, rfl, hb04⟩
end Go.Proofs.YtdkaoopkbhaheaaGreat
