import Derived.Test.YtdkaoopkbhaheaaGreatPH1
import Derived.Test.YtdkaoopkbhaheaaGreatPR1
import Derived.Test.YtdkaoopkbhaheaaGreatZ0
set_option maxHeartbeats 8000000
namespace Go.Proofs.YtdkaoopkbhaheaaGreat
open Go.RowKit Go.Lib
open Jor
set_option linter.unusedVariables false
set_option linter.unusedSimpArgs false
theorem one_slice (a : Option Addr) (l c : Nat) : ∀ u ∈ [Value.slice a l c], u.oneCell' = true := by
 intro u hu
 rw [List.mem_singleton] at hu; subst hu; rfl
theorem lent_below {W : World} {w : World} {wq : World} (h : Below w.heap.size w W) (hq : W.grownBy wq none) : Below w.heap.size w wq := h.grown hq h.size (fun j e => by cases e)
set_option maxRecDepth 100000 in
theorem lend_any (a : Option Addr) (cap : Nat) (A : Nat -> Option Addr) (C : Nat -> Nat) (rs : List (List IP)) (w : World) (hn : rs.length <= 1048576) (hp : RingsL w a A C rs) (hsz : (verts rs).length <= 1048576) :
  Calls Tryz.prog 17 #[.slice a rs.length cap] w fun e w' => e = .returned (.tuple #[.slice (some ⟨w.heap.size + 1, 0, none⟩) rs.length (rs.length + 8), .pointer (some ⟨w.heap.size, 0, none⟩)]) /\ (∃ v R, LentAt w' rs w.heap.size rs.length v R) /\ Below w.heap.size w w' := by
 obtain ⟨i0, hi, hz0, hz1, hz2⟩ := info_parts infoS
 obtain ⟨i1, hi1, hy0, hy1, hy2⟩ := info_parts infoQ
 have hx0 : (w.alloc (.cells #[.slice none 0 0, .slice none 0 0] 86)).cell? ⟨w.heap.size, 0, none⟩ = some (.slice none 0 0) := by simp [go_sem]
 have hxf : (w.alloc (.cells #[.slice none 0 0, .slice none 0 0] 86)).frozen? ⟨w.heap.size, 0, none⟩ = false := by simp [go_sem]
 go_enter Tryz.func17, Tryz.ntmps17
 go_wp2_with (at_make; refine wpList_make_full _ rfl _ _ 49 rfl (w.heap.size + 1) 48 i0 _ 1 underSS hi hz0 hz1 _ _ _ _ (rs.length + 8) rfl rfl (by omega) (by omega) (by rw [hz2]; omega) (by unfold maxLen; omega) (by simp) ?_; intro w1 hown hg1; have cx := (World.cell?_of_block (a := ⟨w.heap.size, 0, none⟩) (hg1.block w.heap.size (by simp) (by simp))).trans hx0; have cf := (World.frozen?_of_block (a := ⟨w.heap.size, 0, none⟩) (hg1.block w.heap.size (by simp) (by simp))).trans hxf)
 have hown' : w1.ownsRow (w.heap.size + 1) 48 1 (.slice (some ⟨w.heap.size + 1, 0, none⟩) (rs.length + 8) (rs.length + 8)) (rs.length + 8) (List.replicate (rs.length + 8) (.slice none 0 0)) := by
  rw [madeS] at hown; simpa only [World.size_alloc] using hown
 obtain ⟨L0, B0⟩ := lent_start hown' hg1
 clear hown hown' hg1 cx cf hx0 hxf
 go_loopw [5, 6, 7] (fun x _ _ wr => ∃ k : Nat, k <= rs.length /\ x = .int .i64 k /\ (∃ v R, LentAt wr rs w.heap.size k v R) /\ Below w.heap.size w wr) (fun x _ _ _ => rs.length - (intOf x).toNat)
 case atStart => exact ⟨0, Nat.zero_le _, rfl, ⟨_, _, L0⟩, B0⟩
 case round =>
  clear L0 B0
  obtain ⟨k, hk, rfl, ⟨v, R, hL⟩, hb⟩ := hrel
  obtain ⟨Wk, hWk⟩ : ∃ Wk, Wk = wr := ⟨_, rfl⟩
  subst hWk
  by_cases hlt : k < rs.length
  ·rcases hp with h0 | ⟨b, of, rfl, hcell⟩
   ·omega
   obtain ⟨hc0, hpk⟩ := hcell k hlt
   have hc1 : Wk.cell? ⟨b, of + k, none⟩ = some (.slice (A k) (rg rs k).length (C k)) := cell_later hb hc0
   have hc0' : w.cell? ⟨b, of + k, none⟩ = some (.slice (A k) (rg rs k).length (C k)) := hc0
   have hlen : (rg rs k).length <= 1048576 := by have := rg_le rs k; omega
   have hk0 : (0 : Int) <= (k : Int) := by omega
   have hkn : (k : Int) < (rs.length : Int) := by omega
   have HL : Hid (LentAt Wk rs w.heap.size k v R) := hL
   have HPK : Hid (Pts w (A k) (rg rs k).length (pt (rg rs k))) := hpk
   have hsz2 : w.heap.size + 2 <= Wk.heap.size := by have := hL.lt; omega
   have HRF : Hid (∀ i, i < (rg rs k).length + 8 -> (fillTo (rg rs k) i).length = (rg rs k).length + 8) := fun i hi => fillTo_length _ _ (by omega)
   clear hcell hpk hL hc0
   go_wp2_with (at_make; refine wpList_make_full _ rfl _ _ 48 rfl (w.heap.size + 2) 47 i1 _ 2 underSQ hi1 hy0 hy1 _ _ _ _ ((rg rs k).length + 8) rfl rfl (by omega) (by omega) (by rw [hy2]; omega) (by unfold maxLen; omega) hsz2 ?_; intro w2 hown hg2)
   rw [madeP] at hown
   go_loopw [7] (fun x wq => ∃ i : Nat, i <= (rg rs k).length + 8 /\ x = .int .i64 i /\ wq.ownsRow (w.heap.size + 2) 47 2 (.slice (some ⟨Wk.heap.size, 0, none⟩) ((rg rs k).length + 8) ((rg rs k).length + 8)) ((rg rs k).length + 8) (cells2 (fillTo (rg rs k) i)) /\ Wk.grownBy wq none) (fun x _ => (rg rs k).length + 8 - (intOf x).toNat)
   case atStart => exact ⟨0, Nat.zero_le _, rfl, hown, hg2⟩
   case round =>
    clear hown hg2
    obtain ⟨i, hi', rfl, hown, hgq⟩ := hrel
    have hbq := lent_below hb hgq
    have hc2 := cell_later hbq hc0'
    have hgs := (hown.lt Wk.heap.size rfl).2
    by_cases hil : i < (rg rs k).length + 8
    ·have hfl := HRF.out i hil
     have g1 := cells2_get (fillTo (rg rs k) i) i (by omega)
     have c0 := (hown.cellAt (i * 2) (by omega)).trans g1.1
     have c1 := (hown.cellAt (i * 2 + 1) (by omega)).trans g1.2
     have f0 := hown.frozenAt (i * 2)
     have f1 := hown.frozenAt (i * 2 + 1)
     obtain ⟨own1, gr1⟩ := hown.stored (i * 2) (.int .i64 77)
     obtain ⟨own2, gr2⟩ := own1.stored (i * 2 + 1) (.int .i64 (i : Int))
     rw [cells2_set _ (77, (i : Int)) i (by omega)] at own2
     have gr : wr.grownBy ((wr.setCell ⟨Wk.heap.size, i * 2, none⟩ (.int .i64 77)).setCell ⟨Wk.heap.size, i * 2 + 1, none⟩ (.int .i64 (i : Int))) (some Wk.heap.size) := ⟨rfl, rfl, rfl, by simp, fun q hq hne => (gr2.block q (by simpa using hq) hne).trans (gr1.block q hq hne)⟩
     have hgW : Wk.grownBy ((wr.setCell ⟨Wk.heap.size, i * 2, none⟩ (.int .i64 77)).setCell ⟨Wk.heap.size, i * 2 + 1, none⟩ (.int .i64 (i : Int))) none := ⟨gr.os.trans hgq.os, gr.tape.trans hgq.tape, gr.output.trans hgq.output, Nat.le_trans hgq.size gr.size, fun q hq hne => (gr.block q (Nat.lt_of_lt_of_le hq hgq.size) (fun e => by cases e; omega)).trans (hgq.block q hq hne)⟩
     have hbW := lent_below hb hgW
     have hc3 := cell_later hbW hc0'
     have d0 := (own2.cellAt (i * 2) (by omega)).trans (cells2_get ((fillTo (rg rs k) i).set i (77, (i : Int))) i (by simp; omega)).1
     have d1 := (own2.cellAt (i * 2 + 1) (by omega)).trans (cells2_get ((fillTo (rg rs k) i).set i (77, (i : Int))) i (by simp; omega)).2
     have e0 := own2.frozenAt (i * 2)
     have e1 := own2.frozenAt (i * 2 + 1)
     have hi0 : (0 : Int) <= (i : Int) := by omega
     have hin : (i : Int) < ((rg rs k).length : Int) + 8 := by omega
     have hin2 : (i : Int) < (((rg rs k).length + 8 : Nat) : Int) := by omega
     clear g1 own1 gr1 gr2
     by_cases hlow : i < (rg rs k).length
     ·obtain ⟨bk, ok, hA, hps⟩ : ∃ bk ok, A k = some ⟨bk, ok, none⟩ /\ ∀ i, i < (rg rs k).length -> w.cell? ⟨bk, ok + i * 2, none⟩ = some (.int .i64 (pt (rg rs k) i).1) /\ w.cell? ⟨bk, ok + i * 2 + 1, none⟩ = some (.int .i64 (pt (rg rs k) i).2) := by
       rcases HPK.out with h | ⟨bk, ok, e, hh⟩
       ·omega
       ·exact ⟨bk, ok, e, hh⟩
      have p0 := cell_later hbW (hps i hlow).1
      have p1 := cell_later hbW (hps i hlow).2
      rw [hA] at hc3
      clear hA hc2
      have HF : Hid (cells2 (((fillTo (rg rs k) i).set i (77, (i : Int))).set i ((pt (rg rs k) i).1, (pt (rg rs k) i).2)) = cells2 (fillTo (rg rs k) (i + 1))) := by
       show _ = _
       rw [show ((pt (rg rs k) i).1, (pt (rg rs k) i).2) = pt (full (rg rs k)) i from (full_low hlow).symm, fillTo_set2 _ _ hil]
      have hil2 : (i : Int) < ((rg rs k).length : Int) := by omega
      clear hps
      generalize (pt (rg rs k) i).1 = px at *
      generalize (pt (rg rs k) i).2 = py at *
      go_wp2_with (go_at_call 28; refine (point_any _ _ _).mono ?_; rintro e w3 ⟨rfl, hb3⟩; have d0' := cell_later hb3 d0; have d1' := cell_later hb3 d1; have e0' := ((old_reads hb3).2 Wk.heap.size (i * 2) (own2.lt Wk.heap.size rfl).2).trans e0; have e1' := ((old_reads hb3).2 Wk.heap.size (i * 2 + 1) (own2.lt Wk.heap.size rfl).2).trans e1)
      have g3 : ((wr.setCell ⟨Wk.heap.size, i * 2, none⟩ (.int .i64 77)).setCell ⟨Wk.heap.size, i * 2 + 1, none⟩ (.int .i64 (i : Int))).grownBy w3 none := ⟨hb3.os, hb3.tape, hb3.output, hb3.size, fun q hq _ => hb3.block q hq⟩
      have own3 := own2.kept g3 (.inr (by simp [Value.ownBlock]))
      obtain ⟨own4, gr4⟩ := own3.stored (i * 2) (.int .i64 px)
      obtain ⟨own5, gr5⟩ := own4.stored (i * 2 + 1) (.int .i64 py)
      rw [cells2_set _ (px, py) i (by simp; omega), HF.out] at own5
      have hgW2 : Wk.grownBy ((w3.setCell ⟨Wk.heap.size, i * 2, none⟩ (.int .i64 px)).setCell ⟨Wk.heap.size, i * 2 + 1, none⟩ (.int .i64 py)) none := by
       have a1 : Wk.grownBy w3 none := ⟨g3.os.trans hgW.os, g3.tape.trans hgW.tape, g3.output.trans hgW.output, Nat.le_trans hgW.size g3.size, fun q hq hne => (g3.block q (Nat.lt_of_lt_of_le hq hgW.size) hne).trans (hgW.block q hq hne)⟩
       have a2 : w3.grownBy ((w3.setCell ⟨Wk.heap.size, i * 2, none⟩ (.int .i64 px)).setCell ⟨Wk.heap.size, i * 2 + 1, none⟩ (.int .i64 py)) (some Wk.heap.size) := ⟨rfl, rfl, rfl, by simp, fun q hq hne => (gr5.block q (by simpa using hq) hne).trans (gr4.block q hq hne)⟩
       exact ⟨a2.os.trans a1.os, a2.tape.trans a1.tape, a2.output.trans a1.output, Nat.le_trans a1.size a2.size, fun q hq hne => (a2.block q (Nat.lt_of_lt_of_le hq a1.size) (fun e => by cases e; omega)).trans (a1.block q hq hne)⟩
      go_roundw
      case rel =>
       first | exact ⟨i + 1, by omega, by go_num, own5, hgW2⟩ | (refine ⟨_, _, _, _, _, _, _, _, _, _, _, _, _, _, _, _, _, _, _, _, _, _, _, _, _, _, _, _, _, _, ⟨i + 1, by omega, ?_, own5, hgW2⟩, rfl⟩; go_num)
      case measure => simp [intOf]; omega
     ·have HF : Hid (cells2 ((fillTo (rg rs k) i).set i (77, (i : Int))) = cells2 (fillTo (rg rs k) (i + 1))) := by
       show _ = _
       rw [<- full_high (r := rg rs k) (i := i) (by omega) hil, fillTo_set _ _ hil]
      go_wp2
      exact ⟨⟨i + 1, by omega, by go_num, HF.out ▸ own2, hgW⟩, by simp [intOf]; omega⟩
    ·have : i = (rg rs k).length + 8 := by omega
     subst this
     rw [fillTo_end] at hown
     have lq : LentAt wr rs w.heap.size k v R := HL.out.kept hgq (fun g e => by cases e)
     have x0 : wr.cell? ⟨w.heap.size, 0, none⟩ = some (.slice (some ⟨w.heap.size + 1, 0, none⟩) (rs.length + 8) (rs.length + 8)) := by simp [World.cell?, lq.x]
     have x1 : wr.cell? ⟨w.heap.size, 1, none⟩ = some v := by simp [World.cell?, lq.x]
     have xf : wr.frozen? ⟨w.heap.size, 1, none⟩ = false := by simp [World.frozen?, lq.x]
     have rown := lq.rings
     have hA2 : Hid (k + 1 <= maxLen) := by show _ <= _; unfold maxLen; omega
     have hB2 : Hid (∀ o : Obj, w.heap.size + 2 <= (wr.drew.alloc o).heap.size) := fun o => by have := hgq.size; simp; omega
     have vge : Hid (∀ j, v.ownBlock = some j -> w.heap.size + 2 <= j) := fun j hj => (rown.lt j hj).1
     have HW : Hid (∀ (o : Obj) (w1 : World), (wr.drew.alloc o).grownBy w1 v.ownBlock -> Below w.heap.size w w1 /\ w1.cell? ⟨w.heap.size, 1, none⟩ = some v /\ w1.frozen? ⟨w.heap.size, 1, none⟩ = false) := fun o w1 hg => by
      have hX := lq.lt
      have e1 : w1.heap[w.heap.size]? = wr.heap[w.heap.size]? := (hg.block _ (by simp; omega) (fun e => by have := vge.out _ e.symm; omega)).trans (Below.heap_alloc wr.drew o _ (show w.heap.size < wr.heap.size by omega))
      refine ⟨(hbq.drew.alloc hbq.size o).grown hg (by have := hbq.size; simp; omega) (fun j e => by have := vge.out j e; omega), (World.cell?_of_block (a := ⟨w.heap.size, 1, none⟩) e1).trans x1, (World.frozen?_of_block (a := ⟨w.heap.size, 1, none⟩) e1).trans xf⟩
     have n1 := World.new_ne _ _ x1
     have n2 := World.new_ne _ _ hc2
     have hll : ((rg rs k).length : Int) <= (((rg rs k).length + 8 : Nat) : Int) := by omega
     have hl0 : (0 : Int) <= ((rg rs k).length : Int) := by omega
     go_wp2
     have hng : ¬ (((rg rs k).length : Int) + 8 < ((rg rs k).length : Int)) := by omega
     have hng2 : (rg rs k).length + 8 - 0 = (rg rs k).length + 8 := rfl
     refine wp_region_U (fun w' => w'.cell? ⟨w.heap.size, 1, none⟩ = some v /\ w'.cell? ⟨b, of + k, none⟩ = some (.slice (A k) (rg rs k).length (C k))) [0, 13, 14, 15, 16] (by kernel_rfl) ?_
     intro hs0
     refine anyU_takeA (i := 0) (v := .pointer (some ⟨w.heap.size, 0, none⟩)) rfl (by kernel_rfl) (by kernel_rfl) (by kernel_rfl) (by kernel_rfl) (fun _ _ _ h => h) hs0 ⟨by rfl, ?y0⟩ ?r0
     case y0 => intro w' hw'; (try obtain ⟨y1, y2⟩ := hw'); go_simp
     case r0 =>
     intro hs1
     simp only [Act.put, zA, zB, zC, zD, zE, zF]
     refine anyU_take (i := 1) (v := .pointer (some ⟨w.heap.size, 0, none⟩)) (f := 17) rfl (by kernel_rfl) (by kernel_rfl) (by kernel_rfl) (by kernel_rfl) (fun _ _ _ h => h) hs1 ⟨x1, hc2⟩ ⟨by rfl, ?y1⟩ ?r1
     case y1 => intro w' hw'; (try obtain ⟨y1, y2⟩ := hw'); go_simp
     case r1 =>
     intro hs2
     simp only [Act.put, zA, zB, zC, zD, zE, zF]
     refine anyU_take (i := 2) (v := .pointer (some ⟨w.heap.size, 0, none⟩)) (f := 17) rfl (by kernel_rfl) (by kernel_rfl) (by kernel_rfl) (by kernel_rfl) (fun _ _ _ h => h) hs2 ⟨x1, hc2⟩ ⟨by rfl, ?y2⟩ ?r2
     case y2 => intro w' hw'; (try obtain ⟨y1, y2⟩ := hw'); go_simp
     case r2 =>
     intro hs3
     simp only [Act.put, zA, zB, zC, zD, zE, zF]
     refine anyU_take (i := 3) (v := .pointer (some ⟨w.heap.size, 1, none⟩)) (f := 17) rfl (by kernel_rfl) (by kernel_rfl) (by kernel_rfl) (by kernel_rfl) (fun _ _ _ h => h) hs3 ⟨x1, hc2⟩ ⟨by rfl, ?y3⟩ ?r3
     case y3 => intro w' hw'; (try obtain ⟨y1, y2⟩ := hw'); go_simp
     case r3 =>
     intro hs4
     simp only [Act.put, zA, zB, zC, zD, zE, zF]
     refine anyU_take (i := 4) (v := v) (f := 17) rfl (by kernel_rfl) (by kernel_rfl) (by kernel_rfl) (by kernel_rfl) (fun _ _ _ h => h) hs4 ⟨x1, hc2⟩ ⟨by rfl, ?y4⟩ ?r4
     case y4 => intro w' hw'; (try obtain ⟨y1, y2⟩ := hw'); go_simp
     case r4 =>
     intro hs5
     simp only [Act.put, zA, zB, zC, zD, zE, zF]
     refine anyU_take (i := 5) (v := .slice (some ⟨Wk.heap.size, 0, none⟩) ((rg rs k).length + 8) ((rg rs k).length + 8)) (f := 17) rfl (by kernel_rfl) (by kernel_rfl) (by kernel_rfl) (by kernel_rfl) (fun _ _ _ h => h) hs5 ⟨x1, hc2⟩ ⟨by rfl, ?y5⟩ ?r5
     case y5 => intro w' hw'; (try obtain ⟨y1, y2⟩ := hw'); go_simp
     case r5 =>
     intro hs6
     simp only [Act.put, zA, zB, zC, zD, zE, zF]
     refine anyU_take (i := 6) (v := .slice (some ⟨b, of, none⟩) rs.length cap) (f := 17) rfl (by kernel_rfl) (by kernel_rfl) (by kernel_rfl) (by kernel_rfl) (fun _ _ _ h => h) hs6 ⟨x1, hc2⟩ ⟨by rfl, ?y6⟩ ?r6
     case y6 => intro w' hw'; (try obtain ⟨y1, y2⟩ := hw'); go_simp
     case r6 =>
     intro hs7
     simp only [Act.put, zA, zB, zC, zD, zE, zF]
     refine anyU_take (i := 7) (v := .int .i64 (k : Int)) (f := 17) rfl (by kernel_rfl) (by kernel_rfl) (by kernel_rfl) (by kernel_rfl) (fun _ _ _ h => h) hs7 ⟨x1, hc2⟩ ⟨by rfl, ?y7⟩ ?r7
     case y7 => intro w' hw'; (try obtain ⟨y1, y2⟩ := hw'); go_simp
     case r7 =>
     intro hs8
     simp only [Act.put, zA, zB, zC, zD, zE, zF]
     refine anyU_take (i := 8) (v := .pointer (some ⟨b, of + k, none⟩)) (f := 17) rfl (by kernel_rfl) (by kernel_rfl) (by kernel_rfl) (by kernel_rfl) (fun _ _ _ h => h) hs8 ⟨x1, hc2⟩ ⟨by rfl, ?y8⟩ ?r8
     case y8 => intro w' hw'; (try obtain ⟨y1, y2⟩ := hw'); go_simp
     case r8 =>
     intro hs9
     simp only [Act.put, zA, zB, zC, zD, zE, zF]
     refine anyU_take (i := 9) (v := .slice (A k) (rg rs k).length (C k)) (f := 17) rfl (by kernel_rfl) (by kernel_rfl) (by kernel_rfl) (by kernel_rfl) (fun _ _ _ h => h) hs9 ⟨x1, hc2⟩ ⟨by rfl, ?y9⟩ ?r9
     case y9 => intro w' hw'; (try obtain ⟨y1, y2⟩ := hw'); go_simp
     case r9 =>
     intro hs10
     simp only [Act.put, zA, zB, zC, zD, zE, zF]
     refine anyU_take (i := 10) (v := .int .i64 ((rg rs k).length : Int)) (f := 17) rfl (by kernel_rfl) (by kernel_rfl) (by kernel_rfl) (by kernel_rfl) (fun _ _ _ h => h) hs10 ⟨x1, hc2⟩ ⟨by rfl, ?y10⟩ ?r10
     case y10 => intro w' hw'; (try obtain ⟨y1, y2⟩ := hw'); go_simp
     case r10 =>
     intro hs11
     simp only [Act.put, zA, zB, zC, zD, zE, zF]
     refine anyU_take (i := 11) (v := .slice (some ⟨Wk.heap.size, 0, none⟩) (rg rs k).length ((rg rs k).length + 8)) (f := 17) rfl (by kernel_rfl) (by kernel_rfl) (by kernel_rfl) (by kernel_rfl) (fun _ _ _ h => h) hs11 ⟨x1, hc2⟩ ⟨by rfl, ?y11⟩ ?r11
     case y11 => intro w' hw'; (try obtain ⟨y1, y2⟩ := hw'); go_simp
     case r11 =>
     intro hs12
     simp only [Act.put, zA, zB, zC, zD, zE, zF]
     refine anyU_one (i := 12) (by kernel_rfl) ?_
     refine wpOp_run rfl (by rfl) ?_
     go_simp
     have bA : Below wr.heap.size wr (wr.alloc (.cells #[.slice (some ⟨Wk.heap.size, 0, none⟩) (rg rs k).length ((rg rs k).length + 8)] 48)) := (Below.refl _ _).alloc (Nat.le_refl _) _
     refine ⟨⟨cell_later bA x1, cell_later bA hc2⟩, ?_⟩
     refine anyU_one (i := 13) (by kernel_rfl) ?_
     refine wpOp_run rfl (by rfl) ?_
     refine wp_append_lies _ (.tmp 63) (.tmp 71) 49 rfl (w.heap.size + 2) 48 i0 _ 1 24 underSS hi hz0 hz1 hz2 rfl (by decide) _ _ _ rfl (rown.drew.alloc _) ⟨_, 0, none⟩ 1 1 _ rfl rfl (World.news_of_block (heap_alloc_new _ _)) (one_slice _ _ _) (by decide) hA2.out (by omega) (hB2.out _) _ rfl ?_
     intro g c w1 hown1 hgrow1 hat hlt1
     obtain ⟨hbN, cx1, fx1⟩ := HW.out _ _ hgrow1
     refine ⟨fun h => (by cases h), ?_⟩
     refine anyU_one (i := 14) (by kernel_rfl) ?_
     refine wpOp_run rfl (by rfl) ?_
     go_simp
     refine anyU_one (i := 15) (by kernel_rfl) ?_
     refine wpOp_run rfl (by rfl) ?_
     go_simp
     refine anyU_one (i := 16) (by kernel_rfl) ?_
     refine wpOp_run rfl (by rfl) ?_
     go_simp
     refine anyU_end (by kernel_rfl) ?_
     obtain ⟨m0, m1, m2⟩ := lent_mid (u := .slice (some ⟨g, 0, none⟩) (k + 1) c) hlt lq hgrow1
     have hbM := hbN.setCell (p := ⟨w.heap.size, 1, none⟩) (Nat.le_refl _) (.slice (some ⟨g, 0, none⟩) (k + 1) c)
     have hc4 := cell_later hbM hc0'
     have hat' : v.ownBlock = some g \/ g = wr.heap.size + 1 := hat.imp (fun h => h) (fun h => h.trans (by simp))
     have LN := lent_next hlt HL.out hgq (Nat.le_refl _) hown hown1 hgrow1 hat'
     have HLN : Hid _ := LN
     have hbZ := hbM.drew.setCell (p := ⟨w.heap.size + 1, k, none⟩) (by simp) (.slice (some ⟨Wk.heap.size, 0, none⟩) (rg rs k).length ((rg rs k).length + 8))
     have hk8 : (k : Int) < (rs.length : Int) + 8 := by omega
     have hk9 : (k : Int) < ((rs.length + 8 : Nat) : Int) := by omega
     clear LN hown hown1 hgrow1 hat hat' lq rown x0 x1 xf HW n1 n2
     generalize w1.setCell ⟨w.heap.size, 1, none⟩ (.slice (some ⟨g, 0, none⟩) (k + 1) c) = Wn at *
     go_wp2
     refine wp_region_U (fun w' => w'.cell? ⟨w.heap.size, 0, none⟩ = some (.slice (some ⟨w.heap.size + 1, 0, none⟩) (rs.length + 8) (rs.length + 8)) /\ w'.cell? ⟨b, of + k, none⟩ = some (.slice (A k) (rg rs k).length (C k))) [12, 13] (by kernel_rfl) ?_
     intro ht0
     refine anyU_take (i := 0) (v := .pointer (some ⟨w.heap.size, 0, none⟩)) (f := 14) rfl (by kernel_rfl) (by kernel_rfl) (by kernel_rfl) (by kernel_rfl) (fun _ _ _ h => h) ht0 ⟨m0, hc4⟩ ⟨by rfl, ?z0⟩ ?q0
     case z0 => intro w' hw'; (try obtain ⟨y1, y2⟩ := hw'); go_simp
     case q0 =>
     intro ht1
     simp only [Act.put, zA, zB, zC, zD, zE, zF]
     refine anyU_take (i := 1) (v := .pointer (some ⟨w.heap.size, 0, none⟩)) (f := 14) rfl (by kernel_rfl) (by kernel_rfl) (by kernel_rfl) (by kernel_rfl) (fun _ _ _ h => h) ht1 ⟨m0, hc4⟩ ⟨by rfl, ?z1⟩ ?q1
     case z1 => intro w' hw'; (try obtain ⟨y1, y2⟩ := hw'); go_simp
     case q1 =>
     intro ht2
     simp only [Act.put, zA, zB, zC, zD, zE, zF]
     refine anyU_take (i := 2) (v := .pointer (some ⟨w.heap.size, 0, none⟩)) (f := 14) rfl (by kernel_rfl) (by kernel_rfl) (by kernel_rfl) (by kernel_rfl) (fun _ _ _ h => h) ht2 ⟨m0, hc4⟩ ⟨by rfl, ?z2⟩ ?q2
     case z2 => intro w' hw'; (try obtain ⟨y1, y2⟩ := hw'); go_simp
     case q2 =>
     intro ht3
     simp only [Act.put, zA, zB, zC, zD, zE, zF]
     refine anyU_take (i := 3) (v := .slice (some ⟨w.heap.size + 1, 0, none⟩) (rs.length + 8) (rs.length + 8)) (f := 14) rfl (by kernel_rfl) (by kernel_rfl) (by kernel_rfl) (by kernel_rfl) (fun _ _ _ h => h) ht3 ⟨m0, hc4⟩ ⟨by rfl, ?z3⟩ ?q3
     case z3 => intro w' hw'; (try obtain ⟨y1, y2⟩ := hw'); go_simp
     case q3 =>
     intro ht4
     simp only [Act.put, zA, zB, zC, zD, zE, zF]
     refine anyU_take (i := 4) (v := .int .i64 (k : Int)) (f := 14) rfl (by kernel_rfl) (by kernel_rfl) (by kernel_rfl) (by kernel_rfl) (fun _ _ _ h => h) ht4 ⟨m0, hc4⟩ ⟨by rfl, ?z4⟩ ?q4
     case z4 => intro w' hw'; (try obtain ⟨y1, y2⟩ := hw'); go_simp
     case q4 =>
     intro ht5
     simp only [Act.put, zA, zB, zC, zD, zE, zF]
     refine anyU_take (i := 5) (v := .slice (some ⟨Wk.heap.size, 0, none⟩) ((rg rs k).length + 8) ((rg rs k).length + 8)) (f := 14) rfl (by kernel_rfl) (by kernel_rfl) (by kernel_rfl) (by kernel_rfl) (fun _ _ _ h => h) ht5 ⟨m0, hc4⟩ ⟨by rfl, ?z5⟩ ?q5
     case z5 => intro w' hw'; (try obtain ⟨y1, y2⟩ := hw'); go_simp
     case q5 =>
     intro ht6
     simp only [Act.put, zA, zB, zC, zD, zE, zF]
     refine anyU_take (i := 6) (v := .slice (some ⟨b, of, none⟩) rs.length cap) (f := 14) rfl (by kernel_rfl) (by kernel_rfl) (by kernel_rfl) (by kernel_rfl) (fun _ _ _ h => h) ht6 ⟨m0, hc4⟩ ⟨by rfl, ?z6⟩ ?q6
     case z6 => intro w' hw'; (try obtain ⟨y1, y2⟩ := hw'); go_simp
     case q6 =>
     intro ht7
     simp only [Act.put, zA, zB, zC, zD, zE, zF]
     refine anyU_take (i := 7) (v := .int .i64 (k : Int)) (f := 14) rfl (by kernel_rfl) (by kernel_rfl) (by kernel_rfl) (by kernel_rfl) (fun _ _ _ h => h) ht7 ⟨m0, hc4⟩ ⟨by rfl, ?z7⟩ ?q7
     case z7 => intro w' hw'; (try obtain ⟨y1, y2⟩ := hw'); go_simp
     case q7 =>
     intro ht8
     simp only [Act.put, zA, zB, zC, zD, zE, zF]
     refine anyU_take (i := 8) (v := .pointer (some ⟨b, of + k, none⟩)) (f := 14) rfl (by kernel_rfl) (by kernel_rfl) (by kernel_rfl) (by kernel_rfl) (fun _ _ _ h => h) ht8 ⟨m0, hc4⟩ ⟨by rfl, ?z8⟩ ?q8
     case z8 => intro w' hw'; (try obtain ⟨y1, y2⟩ := hw'); go_simp
     case q8 =>
     intro ht9
     simp only [Act.put, zA, zB, zC, zD, zE, zF]
     refine anyU_take (i := 9) (v := .slice (A k) (rg rs k).length (C k)) (f := 14) rfl (by kernel_rfl) (by kernel_rfl) (by kernel_rfl) (by kernel_rfl) (fun _ _ _ h => h) ht9 ⟨m0, hc4⟩ ⟨by rfl, ?z9⟩ ?q9
     case z9 => intro w' hw'; (try obtain ⟨y1, y2⟩ := hw'); go_simp
     case q9 =>
     intro ht10
     simp only [Act.put, zA, zB, zC, zD, zE, zF]
     refine anyU_take (i := 10) (v := .int .i64 ((rg rs k).length : Int)) (f := 14) rfl (by kernel_rfl) (by kernel_rfl) (by kernel_rfl) (by kernel_rfl) (fun _ _ _ h => h) ht10 ⟨m0, hc4⟩ ⟨by rfl, ?z10⟩ ?q10
     case z10 => intro w' hw'; (try obtain ⟨y1, y2⟩ := hw'); go_simp
     case q10 =>
     intro ht11
     simp only [Act.put, zA, zB, zC, zD, zE, zF]
     refine anyU_take (i := 11) (v := .slice (some ⟨Wk.heap.size, 0, none⟩) (rg rs k).length ((rg rs k).length + 8)) (f := 14) rfl (by kernel_rfl) (by kernel_rfl) (by kernel_rfl) (by kernel_rfl) (fun _ _ _ h => h) ht11 ⟨m0, hc4⟩ ⟨by rfl, ?z11⟩ ?q11
     case z11 => intro w' hw'; (try obtain ⟨y1, y2⟩ := hw'); go_simp
     case q11 =>
     intro ht12
     simp only [Act.put, zA, zB, zC, zD, zE, zF]
     refine anyU_one (i := 12) (by kernel_rfl) ?_
     refine wpOp_run rfl (by rfl) ?_
     go_simp
     refine anyU_one (i := 13) (by kernel_rfl) ?_
     refine wpOp_run rfl (by rfl) ?_
     go_simp
     refine anyU_end (by kernel_rfl) ?_
     go_wp2
     exact ⟨⟨k + 1, by omega, by go_num, ⟨_, _, HLN.out⟩, hbZ⟩, by simp [intOf]; omega⟩
  ·have : k = rs.length := by omega
   subst this
   have lx := hL.x
   have cx : Wk.cell? ⟨w.heap.size, 0, none⟩ = some (.slice (some ⟨w.heap.size + 1, 0, none⟩) (rs.length + 8) (rs.length + 8)) := by simp [World.cell?, lx]
   go_wp2
   go_ret2
   exact ⟨rfl, ⟨v, R, hL⟩, hb⟩
end Go.Proofs.YtdkaoopkbhaheaaGreat
