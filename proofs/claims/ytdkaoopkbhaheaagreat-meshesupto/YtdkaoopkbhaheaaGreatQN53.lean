import Derived.Test.YtdkaoopkbhaheaaGreatPP54
import Derived.Test.YtdkaoopkbhaheaaGreatQN50
import Derived.Test.YtdkaoopkbhaheaaGreatPN22
import Derived.Test.YtdkaoopkbhaheaaGreatQA7
import Derived.Deep.DeepCutAuto
import Derived.Test.YtdkaoopkbhaheaaGreatZ0
set_option maxHeartbeats 8000000
namespace Go.Proofs.YtdkaoopkbhaheaaGreat
open Go.RowKit Go.Lib
open Jor
open scoped Classical
set_option linter.unusedVariables false
set_option linter.unusedSimpArgs false
structure KO (w W wr : World) (bO : Nat) : Prop where
 below : Below w.heap.size w wr
 size : W.heap.size <= wr.heap.size
 kept : ∀ q, q < W.heap.size -> q ≠ bO -> wr.heap[q]? = W.heap[q]?
theorem KO.later {w W wr w2 : World} {bO : Nat} (h : KO w W wr bO) (hb : Below wr.heap.size wr w2) : KO w W w2 bO := ⟨below_then h.below hb, Nat.le_trans h.size hb.size, fun q hq hn => (hb.block q (Nat.lt_of_lt_of_le hq h.size)).trans (h.kept q hq hn)⟩
theorem KO.set {w W wr : World} {bO : Nat} (h : KO w W wr bO) (hO : w.heap.size <= bO) (j : Nat) (v : Value) : KO w W (wr.setCell ⟨bO, j, none⟩ v) bO :=
 ⟨⟨h.below.os, h.below.tape, h.below.output, by have := h.below.size; simpa using this, fun q hq => (Below.heap_setCell _ _ _ q (by show q ≠ bO; omega)).trans (h.below.block q hq)⟩, by have := h.size; simpa using this, fun q hq hn => (Below.heap_setCell _ _ _ q hn).trans (h.kept q hq hn)⟩
theorem KO.cell {w W wr : World} {bO : Nat} (h : KO w W wr bO) {p : Addr} {v : Value} (hc : W.cell? p = some v) (hn : p.block ≠ bO) : wr.cell? p = some v := (World.cell?_of_block (h.kept p.block (World.block_lt_of_cell? _ _ hc) hn)).trans hc
theorem Marks.later {w w' : World} {bC N : Nat} {S : Nat -> Prop} (h : Marks w bC N S) (hb : Below w.heap.size w w') : Marks w' bC N S := by
 obtain ⟨cur, h1, h2⟩ := h
 exact ⟨cur, (hb.block bC (Array.getElem?_eq_some_iff.1 h1).1).trans h1, h2⟩
set_option maxRecDepth 100000 in
theorem edged_any (x g cg bt ct : Nat) (a : Option Addr) (cap : Nat) (A : Nat -> Option Addr) (C : Nat -> Nat) (rs : List (List IP)) (T : List T3) (L : List (Nat × Nat)) (F : Nat -> Nat -> Option Int) (w : World) (G : Good rs) (hs : T.Pairwise lt3) (hm : ∀ i j u, (i, j, u) ∈ T ↔ F i j = some (u : Int) /\ i < j /\ i < u) (I : FInv (pt (verts rs)) (verts rs).length (bnx rs) (bpv rs) L F L.length)
  (x2 : w.cell? ⟨x, 2, none⟩ = some (.slice a rs.length cap)) (x3 : w.cell? ⟨x, 3, none⟩ = some (.slice (some ⟨g, 0, none⟩) (verts rs).length cg)) (x4 : w.cell? ⟨x, 4, none⟩ = some (.slice (some ⟨bt, 0, none⟩) T.length ct)) (hV : PtsAt w g 0 (verts rs).length (pt (verts rs))) (hT3 : TriAt w bt T) (hp : RingsL w a A C rs) :
  Calls Tryz.prog 24 #[.pointer (some ⟨x, 0, none⟩)] w fun e w' => e = .returned (.bool true) /\ Below w.heap.size w w' := by
 have h64 := G.few
 have h8 := G.eight
 have h1 := G.one
 have hcount := G.count hs hm I
 have hv0 := G.pos
 have hT : T.length <= 1048576 := by omega
 clear hcount
 have hsz : (verts rs).length <= 1048576 := by omega
 have hn : rs.length <= 1048576 := by omega
 have hfl : rs.flatten.length = (verts rs).length := rfl
 have HIN : Hid (∀ k, k < T.length -> (T.getD k (0, 0, 0)).1 < (verts rs).length /\ (T.getD k (0, 0, 0)).2.1 < (verts rs).length /\ (T.getD k (0, 0, 0)).2.2 < (verts rs).length) := fun k hk => tri_in hm I (t3_at hk)
 have ON : Hid (Once T) := once_of hs hm I
 have EB : Hid (∀ i, i < (verts rs).length -> edA rs i < (verts rs).length /\ edB rs i < (verts rs).length /\ -1 <= (lfv T (edA rs i) (edB rs i)).1 /\ -1 <= (lfv T (edB rs i) (edA rs i)).1 /\ (0 <= (lfv T (edA rs i) (edB rs i)).1 /\ (lfv T (edB rs i) (edA rs i)).1 = -1 \/ (lfv T (edA rs i) (edB rs i)).1 = -1 /\ 0 <= (lfv T (edB rs i) (edA rs i)).1)) := fun i hi => by
  obtain ⟨q1, q2, q3⟩ := edge_border G hi
  obtain ⟨q4, q5, q6⟩ := edge_one G hs hm I q1 q2 q3 (lfv_ok T _ _) (lfv_ok T _ _)
  exact ⟨q1, q2, q4, q5, q6⟩
 have SO : Hid (∀ k, k < T.length -> ∀ p q, Sd (T.getD k (0, 0, 0)) p q -> (lfv T p q).1 = (k : Int)) := fun k hk p q sd => side_own hs hm I hk sd (lfv_ok T p q)
 have SF : Hid (∀ k, k < T.length -> ∀ p q, Sd (T.getD k (0, 0, 0)) p q -> p < (verts rs).length -> q < (verts rs).length -> ¬ EdM rs (verts rs).length rs.flatten.length (p * (verts rs).length + q) -> 0 <= (lfv T q p).1 /\ ∃ d : Nat, (lfv T q p).2 = d /\ d < (verts rs).length /\ refCircle (pt (verts rs) (T.getD k (0, 0, 0)).1).1 (pt (verts rs) (T.getD k (0, 0, 0)).1).2 (pt (verts rs) (T.getD k (0, 0, 0)).2.1).1 (pt (verts rs) (T.getD k (0, 0, 0)).2.1).2 (pt (verts rs) (T.getD k (0, 0, 0)).2.2).1 (pt (verts rs) (T.getD k (0, 0, 0)).2.2).2 (pt (verts rs) d).1 (pt (verts rs) d).2 <= 0) := fun k hk p q sd hp' hq nb => side_far G hs hm I hk sd (fun e => nb (EdM.all G hp' hq e)) (lfv_ok T q p)
 have LF : Hid (∀ (p q : Nat) (z : World), Below w.heap.size w z -> Calls Tryz.prog 26 #[.pointer (some ⟨x, 0, none⟩), .int .i64 (p : Int), .int .i64 (q : Int)] z fun e w' => e = .returned (.tuple #[.int .i64 (lfv T p q).1, .int .i64 (lfv T p q).2]) /\ Below z.heap.size z w') := fun p q z hz => xleft_any x bt ct T p q z hT ON.out (cell_later hz x4) (TriAt.later hz hT3)
 have HV : Hid (PtsAt w g 0 (verts rs).length (pt (verts rs))) := hV
 have HT : Hid (TriAt w bt T) := hT3
 have HP : Hid (RingsL w a A C rs) := hp
 obtain ⟨N2, hN2⟩ : ∃ N2, N2 = (verts rs).length * (verts rs).length := ⟨_, rfl⟩
 have HN2 : Hid (N2 = (verts rs).length * (verts rs).length) := hN2
 have hN3 : N2 <= 4096 := by rw [hN2]; exact Nat.mul_le_mul h64 h64
 have mN : ((verts rs).length : Int) * ((verts rs).length : Int) = (N2 : Int) := by rw [hN2]; simp
 have hmk := make_bools N2 (by omega)
 clear hV hT3 hp G hs hm I hN2 hfl
 go_enter Tryz.func24, Tryz.ntmps24
 go_upto_region 2 with (first | (go_at_call 39; refine (edges_any _ _ A C rs _ hn HP.out hsz).mono ?_; rintro e w1 ⟨v, rfl, hE, hb1⟩))
 obtain ⟨gE, cE, rfl, hgE⟩ : ∃ gE cE, v = .slice (some ⟨gE, 0, none⟩) (verts rs).length cE /\ w.heap.size <= gE := by
  rcases hE.2 with ⟨_, h⟩ | ⟨g, c, _, h, h2, _⟩
  ·exact absurd h (by show ¬ (verts rs).length = 0; omega)
  ·exact ⟨g, c, h, h2⟩
 have HE : Hid (∀ i, i < (verts rs).length -> w1.cell? ⟨gE, i * 7, none⟩ = some (.int .i64 (edA rs i : Int)) /\ w1.cell? ⟨gE, i * 7 + 1, none⟩ = some (.int .i64 (edB rs i : Int))) := fun i hi => edge_cells hE hi
 have hgl : gE < w1.heap.size := (hE.lt gE rfl).2
 clear hE
 have y3 := cell_later hb1 x3
 have y3d : w1.drew.cell? ⟨x, 3, none⟩ = some (.slice (some ⟨g, 0, none⟩) (verts rs).length cg) := y3
 refine wp_region_U (fun w' => w'.cell? ⟨x, 3, none⟩ = some (.slice (some ⟨g, 0, none⟩) (verts rs).length cg)) [11, 12] (by kernel_rfl) ?_
 intro hs0
 refine anyU_take (i := 0) (v := .pointer (some ⟨x, 0, none⟩)) (f := 14) rfl (by kernel_rfl) (by kernel_rfl) (by kernel_rfl) (by kernel_rfl) (fun _ _ _ h => h) hs0 y3d ⟨by rfl, ?y0⟩ ?r0
 case y0 => intro w' hw'; (try obtain ⟨⟩ := hw'); go_simp
 case r0 =>
 intro hs1
 simp only [Act.put, zA, zB, zC, zD, zE, zF]
 refine anyU_take (i := 1) (v := .pointer (some ⟨x, 0, none⟩)) (f := 14) rfl (by kernel_rfl) (by kernel_rfl) (by kernel_rfl) (by kernel_rfl) (fun _ _ _ h => h) hs1 y3d ⟨by rfl, ?y1⟩ ?r1
 case y1 => intro w' hw'; (try obtain ⟨⟩ := hw'); go_simp
 case r1 =>
 intro hs2
 simp only [Act.put, zA, zB, zC, zD, zE, zF]
 refine anyU_take (i := 2) (v := .pointer (some ⟨x, 3, none⟩)) (f := 14) rfl (by kernel_rfl) (by kernel_rfl) (by kernel_rfl) (by kernel_rfl) (fun _ _ _ h => h) hs2 y3d ⟨by rfl, ?y2⟩ ?r2
 case y2 => intro w' hw'; (try obtain ⟨⟩ := hw'); go_simp
 case r2 =>
 intro hs3
 simp only [Act.put, zA, zB, zC, zD, zE, zF]
 refine anyU_take (i := 3) (v := .slice (some ⟨g, 0, none⟩) (verts rs).length cg) (f := 14) rfl (by kernel_rfl) (by kernel_rfl) (by kernel_rfl) (by kernel_rfl) (fun _ _ _ h => h) hs3 y3d ⟨by rfl, ?y3⟩ ?r3
 case y3 => intro w' hw'; (try obtain ⟨⟩ := hw'); go_simp
 case r3 =>
 intro hs4
 simp only [Act.put, zA, zB, zC, zD, zE, zF]
 refine anyU_take (i := 4) (v := .int .i64 ((verts rs).length : Int)) (f := 14) rfl (by kernel_rfl) (by kernel_rfl) (by kernel_rfl) (by kernel_rfl) (fun _ _ _ h => h) hs4 y3d ⟨by rfl, ?y4⟩ ?r4
 case y4 => intro w' hw'; (try obtain ⟨⟩ := hw'); go_simp
 case r4 =>
 intro hs5
 simp only [Act.put, zA, zB, zC, zD, zE, zF]
 refine anyU_take (i := 5) (v := .pointer (some ⟨x, 0, none⟩)) (f := 14) rfl (by kernel_rfl) (by kernel_rfl) (by kernel_rfl) (by kernel_rfl) (fun _ _ _ h => h) hs5 y3d ⟨by rfl, ?y5⟩ ?r5
 case y5 => intro w' hw'; (try obtain ⟨⟩ := hw'); go_simp
 case r5 =>
 intro hs6
 simp only [Act.put, zA, zB, zC, zD, zE, zF]
 refine anyU_take (i := 6) (v := .pointer (some ⟨x, 0, none⟩)) (f := 14) rfl (by kernel_rfl) (by kernel_rfl) (by kernel_rfl) (by kernel_rfl) (fun _ _ _ h => h) hs6 y3d ⟨by rfl, ?y6⟩ ?r6
 case y6 => intro w' hw'; (try obtain ⟨⟩ := hw'); go_simp
 case r6 =>
 intro hs7
 simp only [Act.put, zA, zB, zC, zD, zE, zF]
 refine anyU_take (i := 7) (v := .pointer (some ⟨x, 3, none⟩)) (f := 14) rfl (by kernel_rfl) (by kernel_rfl) (by kernel_rfl) (by kernel_rfl) (fun _ _ _ h => h) hs7 y3d ⟨by rfl, ?y7⟩ ?r7
 case y7 => intro w' hw'; (try obtain ⟨⟩ := hw'); go_simp
 case r7 =>
 intro hs8
 simp only [Act.put, zA, zB, zC, zD, zE, zF]
 refine anyU_take (i := 8) (v := .slice (some ⟨g, 0, none⟩) (verts rs).length cg) (f := 14) rfl (by kernel_rfl) (by kernel_rfl) (by kernel_rfl) (by kernel_rfl) (fun _ _ _ h => h) hs8 y3d ⟨by rfl, ?y8⟩ ?r8
 case y8 => intro w' hw'; (try obtain ⟨⟩ := hw'); go_simp
 case r8 =>
 intro hs9
 simp only [Act.put, zA, zB, zC, zD, zE, zF]
 refine anyU_take (i := 9) (v := .int .i64 ((verts rs).length : Int)) (f := 14) rfl (by kernel_rfl) (by kernel_rfl) (by kernel_rfl) (by kernel_rfl) (fun _ _ _ h => h) hs9 y3d ⟨by rfl, ?y9⟩ ?r9
 case y9 => intro w' hw'; (try obtain ⟨⟩ := hw'); go_simp
 case r9 =>
 intro hs10
 simp only [Act.put, zA, zB, zC, zD, zE, zF]
 refine anyU_take (i := 10) (v := .int .i64 (N2 : Int)) (f := 14) rfl (by kernel_rfl) (by kernel_rfl) (by kernel_rfl) (by kernel_rfl) (fun _ _ _ h => h) hs10 y3d ⟨by rfl, ?y10⟩ ?r10
 case y10 => intro w' hw'; (try obtain ⟨⟩ := hw'); go_simp; try (rw [wrap_i64, wrap64_in _ (by omega) (by omega)])
 case r10 =>
 intro hs11
 simp only [Act.put, zA, zB, zC, zD, zE, zF]
 refine anyU_one (i := 11) (by kernel_rfl) ?_
 refine wpOp_run rfl (by rfl) ?_
 go_simp
 try refine ⟨fun h => (by cases h), ?_⟩
 try simp only [Act.put, zA, zB, zC, zD, zE, zF]
 refine anyU_one (i := 12) (by kernel_rfl) ?_
 refine wpOp_run rfl (by rfl) ?_
 go_simp
 try refine ⟨fun h => (by cases h), ?_⟩
 refine anyU_end (by kernel_rfl) ?_
 clear hs0 hs1 hs2 hs3 hs4 hs5 hs6 hs7 hs8 hs9 hs10 hs11 y3d y3
 have hb8 : Below w1.heap.size w1 (w1.alloc (.cells (madeCells #[.bool false] N2) 4)).drew := ((Below.refl _ _).alloc (Nat.le_refl _) _).drew
 have hm8 : Marks (w1.alloc (.cells (madeCells #[.bool false] N2) 4)).drew w1.heap.size N2 (fun _ => False) := (Marks.made w1 N2).block rfl
 have K8 : KO w (w1.alloc (.cells (madeCells #[.bool false] N2) 4)).drew (w1.alloc (.cells (madeCells #[.bool false] N2) 4)).drew w1.heap.size := ⟨below_then hb1 hb8, Nat.le_refl _, fun _ _ _ => rfl⟩
 have HE8 : Hid (∀ i, i < (verts rs).length -> (w1.alloc (.cells (madeCells #[.bool false] N2) 4)).drew.cell? ⟨gE, i * 7, none⟩ = some (.int .i64 (edA rs i : Int)) /\ (w1.alloc (.cells (madeCells #[.bool false] N2) 4)).drew.cell? ⟨gE, i * 7 + 1, none⟩ = some (.int .i64 (edB rs i : Int))) := fun i hi => ⟨cell_later hb8 (HE.out i hi).1, cell_later hb8 (HE.out i hi).2⟩
 have hOw : w.heap.size <= w1.heap.size := hb1.size
 have hgO : gE ≠ w1.heap.size := by omega
 clear hb8 hb1 HE hmk hgl hgE
 generalize (w1.alloc (.cells (madeCells #[.bool false] N2) 4)).drew = W8 at *
 generalize w1.heap.size = bO at *
 go_wp2
 go_loopw [5, 6, 7, 8, 9] (fun i _ _ _ _ wr => ∃ k : Nat, k <= (verts rs).length /\ i = .int .i64 k /\ Marks wr bO N2 (EdM rs (verts rs).length k) /\ KO w W8 wr bO) (fun i _ _ _ _ _ => (verts rs).length - (intOf i).toNat)
 case atStart => exact ⟨0, Nat.zero_le _, rfl, hm8.weak (fun j h => by obtain ⟨i, h, _⟩ := h; omega), K8⟩
 case round =>
  clear hm8 K8
  obtain ⟨k, hk, rfl, hmk, hK⟩ := hrel
  have k0 : (0 : Int) <= (k : Int) := by omega
  by_cases hlt : k < (verts rs).length
  ·have kn : (k : Int) < ((verts rs).length : Int) := by omega
   obtain ⟨lA, lB, g1, g2, g3⟩ := EB.out k hlt
   have HMS : Hid (∀ q, EdM rs (verts rs).length (k + 1) q -> EdM rs (verts rs).length k q \/ q = edA rs k * (verts rs).length + edB rs k \/ q = edB rs k * (verts rs).length + edA rs k) := fun q h => by
    obtain ⟨i, hi, e⟩ := h
    by_cases e2 : i = k
    ·subst e2; exact .inr e
    ·exact .inl ⟨i, by omega, e⟩
   have iq : edA rs k * (verts rs).length + edB rs k < N2 := by rw [HN2.out]; exact sq_in lA lB
   have ir : edB rs k * (verts rs).length + edA rs k < N2 := by rw [HN2.out]; exact sq_in lB lA
   have eA := hK.cell (HE8.out k hlt).1 hgO
   have eB := hK.cell (HE8.out k hlt).2 hgO
   have y3 := cell_later hK.below x3
   have LA : Hid (∀ z : World, Below wr.heap.size wr z -> Calls Tryz.prog 26 #[.pointer (some ⟨x, 0, none⟩), .int .i64 (edA rs k : Int), .int .i64 (edB rs k : Int)] z fun e w' => e = .returned (.tuple #[.int .i64 (lfv T (edA rs k) (edB rs k)).1, .int .i64 (lfv T (edA rs k) (edB rs k)).2]) /\ Below z.heap.size z w') := fun z hz => LF.out _ _ z (below_then hK.below hz)
   have LFA := LF.out (edA rs k) (edB rs k)
   have LFB := LF.out (edB rs k) (edA rs k)
   have HLA : Hid (∀ z : World, Below w.heap.size w z -> Calls Tryz.prog 26 #[.pointer (some ⟨x, 0, none⟩), .int .i64 (edA rs k : Int), .int .i64 (edB rs k : Int)] z fun e w' => e = .returned (.tuple #[.int .i64 (lfv T (edA rs k) (edB rs k)).1, .int .i64 (lfv T (edA rs k) (edB rs k)).2]) /\ Below z.heap.size z w') := LFA
   have HLB : Hid (∀ z : World, Below w.heap.size w z -> Calls Tryz.prog 26 #[.pointer (some ⟨x, 0, none⟩), .int .i64 (edB rs k : Int), .int .i64 (edA rs k : Int)] z fun e w' => e = .returned (.tuple #[.int .i64 (lfv T (edB rs k) (edA rs k)).1, .int .i64 (lfv T (edB rs k) (edA rs k)).2]) /\ Below z.heap.size z w') := LFB
   clear LA LFA LFB
   generalize edA rs k = pA at *
   generalize edB rs k = pB at *
   generalize (lfv T pA pB).1 = l1 at *
   generalize (lfv T pA pB).2 = l2 at *
   generalize (lfv T pB pA).1 = r1 at *
   generalize (lfv T pB pA).2 = r2 at *
   obtain ⟨q1, hq1⟩ : ∃ q1, q1 = pA * (verts rs).length := ⟨_, rfl⟩
   obtain ⟨s1, hs1⟩ : ∃ s1, s1 = pB * (verts rs).length := ⟨_, rfl⟩
   have mA : (pA : Int) * ((verts rs).length : Int) = (q1 : Int) := by rw [hq1]; simp
   have mB : (pB : Int) * ((verts rs).length : Int) = (s1 : Int) := by rw [hs1]; simp
   rw [<- hq1] at iq HMS
   rw [<- hs1] at ir HMS
   clear hq1 hs1
   obtain ⟨qq, hqq⟩ : ∃ qq, qq = q1 + pB := ⟨_, rfl⟩
   obtain ⟨rr, hrr⟩ : ∃ rr, rr = s1 + pA := ⟨_, rfl⟩
   have mA2 : (q1 : Int) + (pB : Int) = (qq : Int) := by omega
   have mB2 : (s1 : Int) + (pA : Int) = (rr : Int) := by omega
   rw [<- hqq] at iq HMS
   rw [<- hrr] at ir HMS
   have qb : q1 <= 4096 := by omega
   have sb : s1 <= 4096 := by omega
   have q0 : (0 : Int) <= (qq : Int) := by omega
   have q3 : (qq : Int) < (N2 : Int) := by omega
   have r0 : (0 : Int) <= (rr : Int) := by omega
   have r3 : (rr : Int) < (N2 : Int) := by omega
   clear hqq hrr
   obtain ⟨bq, c1, c2, _⟩ := hmk.cell iq
   have HM1 : Hid (Marks wr bO N2 (EdM rs (verts rs).length k)) := hmk
   have HK1 : Hid (KO w W8 wr bO) := hK
   have eAd : wr.drew.cell? ⟨gE, k * 7, none⟩ = some (.int .i64 (pA : Int)) := eA
   have eBd : wr.drew.cell? ⟨gE, k * 7 + 1, none⟩ = some (.int .i64 (pB : Int)) := eB
   have y3d : wr.drew.cell? ⟨x, 3, none⟩ = some (.slice (some ⟨g, 0, none⟩) (verts rs).length cg) := y3
   have c1d : wr.drew.cell? ⟨bO, qq, none⟩ = some (.bool bq) := c1
   have c2d : wr.drew.frozen? ⟨bO, qq, none⟩ = false := c2
   clear hmk hK
   go_upto_region 6 with fail
   refine wp_region_U (fun w' => w'.cell? ⟨gE, k * 7, none⟩ = some (.int .i64 (pA : Int)) /\ w'.cell? ⟨gE, k * 7 + 1, none⟩ = some (.int .i64 (pB : Int)) /\ w'.cell? ⟨x, 3, none⟩ = some (.slice (some ⟨g, 0, none⟩) (verts rs).length cg)) [19] (by kernel_rfl) ?_
   intro hs0
   refine anyU_take (i := 0) (v := .slice (some ⟨bO, 0, none⟩) N2 N2) (f := 20) rfl (by kernel_rfl) (by kernel_rfl) (by kernel_rfl) (by kernel_rfl) (fun _ _ _ h => h) hs0 ⟨eAd, eBd, y3d⟩ ⟨by rfl, ?y0⟩ ?r0
   case y0 => intro w' hw'; (try obtain ⟨z0, z1, z2⟩ := hw'); go_simp
   case r0 =>
   intro hs1
   simp only [Act.put, zA, zB, zC, zD, zE, zF]
   refine anyU_take (i := 1) (v := .slice (some ⟨gE, 0, none⟩) (verts rs).length cE) (f := 20) rfl (by kernel_rfl) (by kernel_rfl) (by kernel_rfl) (by kernel_rfl) (fun _ _ _ h => h) hs1 ⟨eAd, eBd, y3d⟩ ⟨by rfl, ?y1⟩ ?r1
   case y1 => intro w' hw'; (try obtain ⟨z0, z1, z2⟩ := hw'); go_simp
   case r1 =>
   intro hs2
   simp only [Act.put, zA, zB, zC, zD, zE, zF]
   refine anyU_take (i := 2) (v := .int .i64 (k : Int)) (f := 20) rfl (by kernel_rfl) (by kernel_rfl) (by kernel_rfl) (by kernel_rfl) (fun _ _ _ h => h) hs2 ⟨eAd, eBd, y3d⟩ ⟨by rfl, ?y2⟩ ?r2
   case y2 => intro w' hw'; (try obtain ⟨z0, z1, z2⟩ := hw'); go_simp
   case r2 =>
   intro hs3
   simp only [Act.put, zA, zB, zC, zD, zE, zF]
   refine anyU_take (i := 3) (v := .pointer (some ⟨gE, k * 7, none⟩)) (f := 20) rfl (by kernel_rfl) (by kernel_rfl) (by kernel_rfl) (by kernel_rfl) (fun _ _ _ h => h) hs3 ⟨eAd, eBd, y3d⟩ ⟨by rfl, ?y3⟩ ?r3
   case y3 => intro w' hw'; (try obtain ⟨z0, z1, z2⟩ := hw'); go_simp
   case r3 =>
   intro hs4
   simp only [Act.put, zA, zB, zC, zD, zE, zF]
   refine anyU_take (i := 4) (v := .pointer (some ⟨gE, k * 7, none⟩)) (f := 20) rfl (by kernel_rfl) (by kernel_rfl) (by kernel_rfl) (by kernel_rfl) (fun _ _ _ h => h) hs4 ⟨eAd, eBd, y3d⟩ ⟨by rfl, ?y4⟩ ?r4
   case y4 => intro w' hw'; (try obtain ⟨z0, z1, z2⟩ := hw'); go_simp
   case r4 =>
   intro hs5
   simp only [Act.put, zA, zB, zC, zD, zE, zF]
   refine anyU_take (i := 5) (v := .int .i64 (pA : Int)) (f := 20) rfl (by kernel_rfl) (by kernel_rfl) (by kernel_rfl) (by kernel_rfl) (fun _ _ _ h => h) hs5 ⟨eAd, eBd, y3d⟩ ⟨by rfl, ?y5⟩ ?r5
   case y5 => intro w' hw'; (try obtain ⟨z0, z1, z2⟩ := hw'); go_simp
   case r5 =>
   intro hs6
   simp only [Act.put, zA, zB, zC, zD, zE, zF]
   refine anyU_take (i := 6) (v := .pointer (some ⟨x, 0, none⟩)) (f := 20) rfl (by kernel_rfl) (by kernel_rfl) (by kernel_rfl) (by kernel_rfl) (fun _ _ _ h => h) hs6 ⟨eAd, eBd, y3d⟩ ⟨by rfl, ?y6⟩ ?r6
   case y6 => intro w' hw'; (try obtain ⟨z0, z1, z2⟩ := hw'); go_simp
   case r6 =>
   intro hs7
   simp only [Act.put, zA, zB, zC, zD, zE, zF]
   refine anyU_take (i := 7) (v := .pointer (some ⟨x, 0, none⟩)) (f := 20) rfl (by kernel_rfl) (by kernel_rfl) (by kernel_rfl) (by kernel_rfl) (fun _ _ _ h => h) hs7 ⟨eAd, eBd, y3d⟩ ⟨by rfl, ?y7⟩ ?r7
   case y7 => intro w' hw'; (try obtain ⟨z0, z1, z2⟩ := hw'); go_simp
   case r7 =>
   intro hs8
   simp only [Act.put, zA, zB, zC, zD, zE, zF]
   refine anyU_take (i := 8) (v := .pointer (some ⟨x, 3, none⟩)) (f := 20) rfl (by kernel_rfl) (by kernel_rfl) (by kernel_rfl) (by kernel_rfl) (fun _ _ _ h => h) hs8 ⟨eAd, eBd, y3d⟩ ⟨by rfl, ?y8⟩ ?r8
   case y8 => intro w' hw'; (try obtain ⟨z0, z1, z2⟩ := hw'); go_simp
   case r8 =>
   intro hs9
   simp only [Act.put, zA, zB, zC, zD, zE, zF]
   refine anyU_take (i := 9) (v := .slice (some ⟨g, 0, none⟩) (verts rs).length cg) (f := 20) rfl (by kernel_rfl) (by kernel_rfl) (by kernel_rfl) (by kernel_rfl) (fun _ _ _ h => h) hs9 ⟨eAd, eBd, y3d⟩ ⟨by rfl, ?y9⟩ ?r9
   case y9 => intro w' hw'; (try obtain ⟨z0, z1, z2⟩ := hw'); go_simp
   case r9 =>
   intro hs10
   simp only [Act.put, zA, zB, zC, zD, zE, zF]
   refine anyU_take (i := 10) (v := .int .i64 ((verts rs).length : Int)) (f := 20) rfl (by kernel_rfl) (by kernel_rfl) (by kernel_rfl) (by kernel_rfl) (fun _ _ _ h => h) hs10 ⟨eAd, eBd, y3d⟩ ⟨by rfl, ?y10⟩ ?r10
   case y10 => intro w' hw'; (try obtain ⟨z0, z1, z2⟩ := hw'); go_simp
   case r10 =>
   intro hs11
   simp only [Act.put, zA, zB, zC, zD, zE, zF]
   refine anyU_take (i := 11) (v := .int .i64 (q1 : Int)) (f := 20) rfl (by kernel_rfl) (by kernel_rfl) (by kernel_rfl) (by kernel_rfl) (fun _ _ _ h => h) hs11 ⟨eAd, eBd, y3d⟩ ⟨by rfl, ?y11⟩ ?r11
   case y11 => intro w' hw'; (try obtain ⟨z0, z1, z2⟩ := hw'); go_simp; try (rw [wrap_i64, wrap64_in _ (by omega) (by omega)])
   case r11 =>
   intro hs12
   simp only [Act.put, zA, zB, zC, zD, zE, zF]
   refine anyU_take (i := 12) (v := .slice (some ⟨gE, 0, none⟩) (verts rs).length cE) (f := 20) rfl (by kernel_rfl) (by kernel_rfl) (by kernel_rfl) (by kernel_rfl) (fun _ _ _ h => h) hs12 ⟨eAd, eBd, y3d⟩ ⟨by rfl, ?y12⟩ ?r12
   case y12 => intro w' hw'; (try obtain ⟨z0, z1, z2⟩ := hw'); go_simp
   case r12 =>
   intro hs13
   simp only [Act.put, zA, zB, zC, zD, zE, zF]
   refine anyU_take (i := 13) (v := .int .i64 (k : Int)) (f := 20) rfl (by kernel_rfl) (by kernel_rfl) (by kernel_rfl) (by kernel_rfl) (fun _ _ _ h => h) hs13 ⟨eAd, eBd, y3d⟩ ⟨by rfl, ?y13⟩ ?r13
   case y13 => intro w' hw'; (try obtain ⟨z0, z1, z2⟩ := hw'); go_simp
   case r13 =>
   intro hs14
   simp only [Act.put, zA, zB, zC, zD, zE, zF]
   refine anyU_take (i := 14) (v := .pointer (some ⟨gE, k * 7, none⟩)) (f := 20) rfl (by kernel_rfl) (by kernel_rfl) (by kernel_rfl) (by kernel_rfl) (fun _ _ _ h => h) hs14 ⟨eAd, eBd, y3d⟩ ⟨by rfl, ?y14⟩ ?r14
   case y14 => intro w' hw'; (try obtain ⟨z0, z1, z2⟩ := hw'); go_simp
   case r14 =>
   intro hs15
   simp only [Act.put, zA, zB, zC, zD, zE, zF]
   refine anyU_take (i := 15) (v := .pointer (some ⟨gE, k * 7 + 1, none⟩)) (f := 20) rfl (by kernel_rfl) (by kernel_rfl) (by kernel_rfl) (by kernel_rfl) (fun _ _ _ h => h) hs15 ⟨eAd, eBd, y3d⟩ ⟨by rfl, ?y15⟩ ?r15
   case y15 => intro w' hw'; (try obtain ⟨z0, z1, z2⟩ := hw'); go_simp
   case r15 =>
   intro hs16
   simp only [Act.put, zA, zB, zC, zD, zE, zF]
   refine anyU_take (i := 16) (v := .int .i64 (pB : Int)) (f := 20) rfl (by kernel_rfl) (by kernel_rfl) (by kernel_rfl) (by kernel_rfl) (fun _ _ _ h => h) hs16 ⟨eAd, eBd, y3d⟩ ⟨by rfl, ?y16⟩ ?r16
   case y16 => intro w' hw'; (try obtain ⟨z0, z1, z2⟩ := hw'); go_simp
   case r16 =>
   intro hs17
   simp only [Act.put, zA, zB, zC, zD, zE, zF]
   refine anyU_take (i := 17) (v := .int .i64 (qq : Int)) (f := 20) rfl (by kernel_rfl) (by kernel_rfl) (by kernel_rfl) (by kernel_rfl) (fun _ _ _ h => h) hs17 ⟨eAd, eBd, y3d⟩ ⟨by rfl, ?y17⟩ ?r17
   case y17 => intro w' hw'; (try obtain ⟨z0, z1, z2⟩ := hw'); go_simp; try (rw [wrap_i64, wrap64_in _ (by omega) (by omega)])
   case r17 =>
   intro hs18
   simp only [Act.put, zA, zB, zC, zD, zE, zF]
   refine anyU_take (i := 18) (v := .pointer (some ⟨bO, qq, none⟩)) (f := 20) rfl (by kernel_rfl) (by kernel_rfl) (by kernel_rfl) (by kernel_rfl) (fun _ _ _ h => h) hs18 ⟨eAd, eBd, y3d⟩ ⟨by rfl, ?y18⟩ ?r18
   case y18 => intro w' hw'; (try obtain ⟨z0, z1, z2⟩ := hw'); go_simp
   case r18 =>
   intro hs19
   simp only [Act.put, zA, zB, zC, zD, zE, zF]
   refine anyU_one (i := 19) (by kernel_rfl) ?_
   refine wpOp_run rfl (by rfl) ?_
   go_simp
   try refine ⟨fun h => (by cases h), ?_⟩
   refine anyU_end (by kernel_rfl) ?_
   have HM2 : Hid (Marks (wr.setCell ⟨bO, qq, none⟩ (.bool true)).drew bO N2 (fun j => EdM rs (verts rs).length k j \/ j = qq)) := (HM1.out.set iq).later (Below.refl _ _).drew
   have HK2 : Hid (KO w W8 (wr.setCell ⟨bO, qq, none⟩ (.bool true)).drew bO) := (HK1.out.set hOw _ _).later (Below.refl _ _).drew
   have eA2 : (wr.setCell ⟨bO, qq, none⟩ (.bool true)).drew.cell? ⟨gE, k * 7, none⟩ = some (.int .i64 (pA : Int)) := (World.cell?_of_block (a := ⟨gE, k * 7, none⟩) (Below.heap_setCell _ _ _ gE hgO)).trans eA
   have eB2 : (wr.setCell ⟨bO, qq, none⟩ (.bool true)).drew.cell? ⟨gE, k * 7 + 1, none⟩ = some (.int .i64 (pB : Int)) := (World.cell?_of_block (a := ⟨gE, k * 7 + 1, none⟩) (Below.heap_setCell _ _ _ gE hgO)).trans eB
   clear hs0 hs1 hs2 hs3 hs4 hs5 hs6 hs7 hs8 hs9 hs10 hs11 hs12 hs13 hs14 hs15 hs16 hs17 hs18 hs19 eA eB y3 eAd eBd y3d c1d c2d c1 c2 HM1 HK1
   generalize (wr.setCell ⟨bO, qq, none⟩ (.bool true)).drew = w2 at *
   have y3 := cell_later HK2.out.below x3
   obtain ⟨br, c1, c2, _⟩ := HM2.out.cell ir
   have eAd : w2.drew.cell? ⟨gE, k * 7, none⟩ = some (.int .i64 (pA : Int)) := eA2
   have eBd : w2.drew.cell? ⟨gE, k * 7 + 1, none⟩ = some (.int .i64 (pB : Int)) := eB2
   have y3d : w2.drew.cell? ⟨x, 3, none⟩ = some (.slice (some ⟨g, 0, none⟩) (verts rs).length cg) := y3
   have c1d : w2.drew.cell? ⟨bO, rr, none⟩ = some (.bool br) := c1
   have c2d : w2.drew.frozen? ⟨bO, rr, none⟩ = false := c2
   go_upto_region 7 with fail
   refine wp_region_U (fun w' => w'.cell? ⟨gE, k * 7, none⟩ = some (.int .i64 (pA : Int)) /\ w'.cell? ⟨gE, k * 7 + 1, none⟩ = some (.int .i64 (pB : Int)) /\ w'.cell? ⟨x, 3, none⟩ = some (.slice (some ⟨g, 0, none⟩) (verts rs).length cg)) [19] (by kernel_rfl) ?_
   intro hs0
   refine anyU_take (i := 0) (v := .slice (some ⟨bO, 0, none⟩) N2 N2) (f := 20) rfl (by kernel_rfl) (by kernel_rfl) (by kernel_rfl) (by kernel_rfl) (fun _ _ _ h => h) hs0 ⟨eAd, eBd, y3d⟩ ⟨by rfl, ?y0⟩ ?r0
   case y0 => intro w' hw'; (try obtain ⟨z0, z1, z2⟩ := hw'); go_simp
   case r0 =>
   intro hs1
   simp only [Act.put, zA, zB, zC, zD, zE, zF]
   refine anyU_take (i := 1) (v := .slice (some ⟨gE, 0, none⟩) (verts rs).length cE) (f := 20) rfl (by kernel_rfl) (by kernel_rfl) (by kernel_rfl) (by kernel_rfl) (fun _ _ _ h => h) hs1 ⟨eAd, eBd, y3d⟩ ⟨by rfl, ?y1⟩ ?r1
   case y1 => intro w' hw'; (try obtain ⟨z0, z1, z2⟩ := hw'); go_simp
   case r1 =>
   intro hs2
   simp only [Act.put, zA, zB, zC, zD, zE, zF]
   refine anyU_take (i := 2) (v := .int .i64 (k : Int)) (f := 20) rfl (by kernel_rfl) (by kernel_rfl) (by kernel_rfl) (by kernel_rfl) (fun _ _ _ h => h) hs2 ⟨eAd, eBd, y3d⟩ ⟨by rfl, ?y2⟩ ?r2
   case y2 => intro w' hw'; (try obtain ⟨z0, z1, z2⟩ := hw'); go_simp
   case r2 =>
   intro hs3
   simp only [Act.put, zA, zB, zC, zD, zE, zF]
   refine anyU_take (i := 3) (v := .pointer (some ⟨gE, k * 7, none⟩)) (f := 20) rfl (by kernel_rfl) (by kernel_rfl) (by kernel_rfl) (by kernel_rfl) (fun _ _ _ h => h) hs3 ⟨eAd, eBd, y3d⟩ ⟨by rfl, ?y3⟩ ?r3
   case y3 => intro w' hw'; (try obtain ⟨z0, z1, z2⟩ := hw'); go_simp
   case r3 =>
   intro hs4
   simp only [Act.put, zA, zB, zC, zD, zE, zF]
   refine anyU_take (i := 4) (v := .pointer (some ⟨gE, k * 7 + 1, none⟩)) (f := 20) rfl (by kernel_rfl) (by kernel_rfl) (by kernel_rfl) (by kernel_rfl) (fun _ _ _ h => h) hs4 ⟨eAd, eBd, y3d⟩ ⟨by rfl, ?y4⟩ ?r4
   case y4 => intro w' hw'; (try obtain ⟨z0, z1, z2⟩ := hw'); go_simp
   case r4 =>
   intro hs5
   simp only [Act.put, zA, zB, zC, zD, zE, zF]
   refine anyU_take (i := 5) (v := .int .i64 (pB : Int)) (f := 20) rfl (by kernel_rfl) (by kernel_rfl) (by kernel_rfl) (by kernel_rfl) (fun _ _ _ h => h) hs5 ⟨eAd, eBd, y3d⟩ ⟨by rfl, ?y5⟩ ?r5
   case y5 => intro w' hw'; (try obtain ⟨z0, z1, z2⟩ := hw'); go_simp
   case r5 =>
   intro hs6
   simp only [Act.put, zA, zB, zC, zD, zE, zF]
   refine anyU_take (i := 6) (v := .pointer (some ⟨x, 0, none⟩)) (f := 20) rfl (by kernel_rfl) (by kernel_rfl) (by kernel_rfl) (by kernel_rfl) (fun _ _ _ h => h) hs6 ⟨eAd, eBd, y3d⟩ ⟨by rfl, ?y6⟩ ?r6
   case y6 => intro w' hw'; (try obtain ⟨z0, z1, z2⟩ := hw'); go_simp
   case r6 =>
   intro hs7
   simp only [Act.put, zA, zB, zC, zD, zE, zF]
   refine anyU_take (i := 7) (v := .pointer (some ⟨x, 0, none⟩)) (f := 20) rfl (by kernel_rfl) (by kernel_rfl) (by kernel_rfl) (by kernel_rfl) (fun _ _ _ h => h) hs7 ⟨eAd, eBd, y3d⟩ ⟨by rfl, ?y7⟩ ?r7
   case y7 => intro w' hw'; (try obtain ⟨z0, z1, z2⟩ := hw'); go_simp
   case r7 =>
   intro hs8
   simp only [Act.put, zA, zB, zC, zD, zE, zF]
   refine anyU_take (i := 8) (v := .pointer (some ⟨x, 3, none⟩)) (f := 20) rfl (by kernel_rfl) (by kernel_rfl) (by kernel_rfl) (by kernel_rfl) (fun _ _ _ h => h) hs8 ⟨eAd, eBd, y3d⟩ ⟨by rfl, ?y8⟩ ?r8
   case y8 => intro w' hw'; (try obtain ⟨z0, z1, z2⟩ := hw'); go_simp
   case r8 =>
   intro hs9
   simp only [Act.put, zA, zB, zC, zD, zE, zF]
   refine anyU_take (i := 9) (v := .slice (some ⟨g, 0, none⟩) (verts rs).length cg) (f := 20) rfl (by kernel_rfl) (by kernel_rfl) (by kernel_rfl) (by kernel_rfl) (fun _ _ _ h => h) hs9 ⟨eAd, eBd, y3d⟩ ⟨by rfl, ?y9⟩ ?r9
   case y9 => intro w' hw'; (try obtain ⟨z0, z1, z2⟩ := hw'); go_simp
   case r9 =>
   intro hs10
   simp only [Act.put, zA, zB, zC, zD, zE, zF]
   refine anyU_take (i := 10) (v := .int .i64 ((verts rs).length : Int)) (f := 20) rfl (by kernel_rfl) (by kernel_rfl) (by kernel_rfl) (by kernel_rfl) (fun _ _ _ h => h) hs10 ⟨eAd, eBd, y3d⟩ ⟨by rfl, ?y10⟩ ?r10
   case y10 => intro w' hw'; (try obtain ⟨z0, z1, z2⟩ := hw'); go_simp
   case r10 =>
   intro hs11
   simp only [Act.put, zA, zB, zC, zD, zE, zF]
   refine anyU_take (i := 11) (v := .int .i64 (s1 : Int)) (f := 20) rfl (by kernel_rfl) (by kernel_rfl) (by kernel_rfl) (by kernel_rfl) (fun _ _ _ h => h) hs11 ⟨eAd, eBd, y3d⟩ ⟨by rfl, ?y11⟩ ?r11
   case y11 => intro w' hw'; (try obtain ⟨z0, z1, z2⟩ := hw'); go_simp; try (rw [wrap_i64, wrap64_in _ (by omega) (by omega)])
   case r11 =>
   intro hs12
   simp only [Act.put, zA, zB, zC, zD, zE, zF]
   refine anyU_take (i := 12) (v := .slice (some ⟨gE, 0, none⟩) (verts rs).length cE) (f := 20) rfl (by kernel_rfl) (by kernel_rfl) (by kernel_rfl) (by kernel_rfl) (fun _ _ _ h => h) hs12 ⟨eAd, eBd, y3d⟩ ⟨by rfl, ?y12⟩ ?r12
   case y12 => intro w' hw'; (try obtain ⟨z0, z1, z2⟩ := hw'); go_simp
   case r12 =>
   intro hs13
   simp only [Act.put, zA, zB, zC, zD, zE, zF]
   refine anyU_take (i := 13) (v := .int .i64 (k : Int)) (f := 20) rfl (by kernel_rfl) (by kernel_rfl) (by kernel_rfl) (by kernel_rfl) (fun _ _ _ h => h) hs13 ⟨eAd, eBd, y3d⟩ ⟨by rfl, ?y13⟩ ?r13
   case y13 => intro w' hw'; (try obtain ⟨z0, z1, z2⟩ := hw'); go_simp
   case r13 =>
   intro hs14
   simp only [Act.put, zA, zB, zC, zD, zE, zF]
   refine anyU_take (i := 14) (v := .pointer (some ⟨gE, k * 7, none⟩)) (f := 20) rfl (by kernel_rfl) (by kernel_rfl) (by kernel_rfl) (by kernel_rfl) (fun _ _ _ h => h) hs14 ⟨eAd, eBd, y3d⟩ ⟨by rfl, ?y14⟩ ?r14
   case y14 => intro w' hw'; (try obtain ⟨z0, z1, z2⟩ := hw'); go_simp
   case r14 =>
   intro hs15
   simp only [Act.put, zA, zB, zC, zD, zE, zF]
   refine anyU_take (i := 15) (v := .pointer (some ⟨gE, k * 7, none⟩)) (f := 20) rfl (by kernel_rfl) (by kernel_rfl) (by kernel_rfl) (by kernel_rfl) (fun _ _ _ h => h) hs15 ⟨eAd, eBd, y3d⟩ ⟨by rfl, ?y15⟩ ?r15
   case y15 => intro w' hw'; (try obtain ⟨z0, z1, z2⟩ := hw'); go_simp
   case r15 =>
   intro hs16
   simp only [Act.put, zA, zB, zC, zD, zE, zF]
   refine anyU_take (i := 16) (v := .int .i64 (pA : Int)) (f := 20) rfl (by kernel_rfl) (by kernel_rfl) (by kernel_rfl) (by kernel_rfl) (fun _ _ _ h => h) hs16 ⟨eAd, eBd, y3d⟩ ⟨by rfl, ?y16⟩ ?r16
   case y16 => intro w' hw'; (try obtain ⟨z0, z1, z2⟩ := hw'); go_simp
   case r16 =>
   intro hs17
   simp only [Act.put, zA, zB, zC, zD, zE, zF]
   refine anyU_take (i := 17) (v := .int .i64 (rr : Int)) (f := 20) rfl (by kernel_rfl) (by kernel_rfl) (by kernel_rfl) (by kernel_rfl) (fun _ _ _ h => h) hs17 ⟨eAd, eBd, y3d⟩ ⟨by rfl, ?y17⟩ ?r17
   case y17 => intro w' hw'; (try obtain ⟨z0, z1, z2⟩ := hw'); go_simp; try (rw [wrap_i64, wrap64_in _ (by omega) (by omega)])
   case r17 =>
   intro hs18
   simp only [Act.put, zA, zB, zC, zD, zE, zF]
   refine anyU_take (i := 18) (v := .pointer (some ⟨bO, rr, none⟩)) (f := 20) rfl (by kernel_rfl) (by kernel_rfl) (by kernel_rfl) (by kernel_rfl) (fun _ _ _ h => h) hs18 ⟨eAd, eBd, y3d⟩ ⟨by rfl, ?y18⟩ ?r18
   case y18 => intro w' hw'; (try obtain ⟨z0, z1, z2⟩ := hw'); go_simp
   case r18 =>
   intro hs19
   simp only [Act.put, zA, zB, zC, zD, zE, zF]
   refine anyU_one (i := 19) (by kernel_rfl) ?_
   refine wpOp_run rfl (by rfl) ?_
   go_simp
   try refine ⟨fun h => (by cases h), ?_⟩
   refine anyU_end (by kernel_rfl) ?_
   have HM3 : Hid (Marks (w2.setCell ⟨bO, rr, none⟩ (.bool true)).drew bO N2 (EdM rs (verts rs).length (k + 1))) := ((HM2.out.set ir).later (Below.refl _ _).drew).weak (fun j h => by
    rcases HMS.out j h with h | h | h
    ·exact .inl (.inl h)
    ·exact .inl (.inr h)
    ·exact .inr h)
   have HK3 : Hid (KO w W8 (w2.setCell ⟨bO, rr, none⟩ (.bool true)).drew bO) := (HK2.out.set hOw _ _).later (Below.refl _ _).drew
   have eA3 : (w2.setCell ⟨bO, rr, none⟩ (.bool true)).drew.cell? ⟨gE, k * 7, none⟩ = some (.int .i64 (pA : Int)) := (World.cell?_of_block (a := ⟨gE, k * 7, none⟩) (Below.heap_setCell _ _ _ gE hgO)).trans eA2
   have eB3 : (w2.setCell ⟨bO, rr, none⟩ (.bool true)).drew.cell? ⟨gE, k * 7 + 1, none⟩ = some (.int .i64 (pB : Int)) := (World.cell?_of_block (a := ⟨gE, k * 7 + 1, none⟩) (Below.heap_setCell _ _ _ gE hgO)).trans eB2
   clear hs0 hs1 hs2 hs3 hs4 hs5 hs6 hs7 hs8 hs9 hs10 hs11 hs12 hs13 hs14 hs15 hs16 hs17 hs18 hs19 eA2 eB2 y3 eAd eBd y3d c1d c2d c1 c2 HM2 HK2
   generalize (w2.setCell ⟨bO, rr, none⟩ (.bool true)).drew = w3 at *
   go_upto_region 8 with fail
   refine wp_region_cls (R := Below w3.heap.size w3) (by kernel_rfl) (by kernel_rfl) (Below.refl _ _).drew ?_
   have inst : Nonempty (Cls (Below w3.heap.size w3)) := ⟨⟨w3, Below.refl _ _⟩⟩
   have cg0 := fun x => Cls.cell (W := w3) x eA3
   have cg1 := fun x => Cls.cell (W := w3) x eB3
   repeat (first | go_big_quiet_step ((first | (go_at_call 26; exact Cls.calls _ (HLA.out _ (below_then HK3.out.below (Cls.ok _)))))) | quiet_step ((first | (go_at_call 26; exact Cls.calls _ (HLA.out _ (below_then HK3.out.below (Cls.ok _)))))))
   refine wpQuiet_nil ?_
   intro w4 hw'
   obtain ⟨xq, hxq⟩ := hw'
   have hb4 := xq.ok
   rw [<- hxq] at hb4
   clear hxq xq inst cg0 cg1
   have eA4 := cell_later hb4 eA3
   have eB4 := cell_later hb4 eB3
   go_upto_region 9 with fail
   refine wp_region_cls (R := Below w4.heap.size w4) (by kernel_rfl) (by kernel_rfl) (Below.refl _ _).drew ?_
   have inst : Nonempty (Cls (Below w4.heap.size w4)) := ⟨⟨w4, Below.refl _ _⟩⟩
   have cg0 := fun x => Cls.cell (W := w4) x eA4
   have cg1 := fun x => Cls.cell (W := w4) x eB4
   repeat (first | go_big_quiet_step ((first | (go_at_call 26; exact Cls.calls _ (HLB.out _ (below_then (below_then HK3.out.below hb4) (Cls.ok _)))))) | quiet_step ((first | (go_at_call 26; exact Cls.calls _ (HLB.out _ (below_then (below_then HK3.out.below hb4) (Cls.ok _)))))))
   refine wpQuiet_nil ?_
   intro w5 hw'
   obtain ⟨xq, hxq⟩ := hw'
   have hb5 := xq.ok
   rw [<- hxq] at hb5
   clear hxq xq inst cg0 cg1
   have hb35 := below_then hb4 hb5
   have n1 : ¬ l1 < -1 := by omega
   have n2 : ¬ r1 < -1 := by omega
   rcases g3 with ⟨h0, rfl⟩ | ⟨rfl, h0⟩
   ·go_wp2
    go_roundw
    case rel => exact ⟨k + 1, by omega, by go_num, HM3.out.later hb35, HK3.out.later hb35⟩
    case measure => simp [intOf]; omega
   ·go_wp2
    go_roundw
    case rel => exact ⟨k + 1, by omega, by go_num, HM3.out.later hb35, HK3.out.later hb35⟩
    case measure => simp [intOf]; omega
  ·have hkn : k = (verts rs).length := by omega
   subst hkn
   have HMK : Hid (Marks wr bO N2 (EdM rs (verts rs).length (verts rs).length)) := hmk
   have HKK : Hid (KO w W8 wr bO) := hK
   clear hmk hK EB HE8
   go_wp2
   go_loopw [10, 11, 12, 13, 14, 15, 16, 17, 18, 19, 20] (fun i _ _ _ _ _ _ _ _ _ _ wq => ∃ k : Nat, k <= T.length /\ i = .int .i64 k /\ Marks wq bO N2 (EdM rs (verts rs).length (verts rs).length) /\ KO w W8 wq bO) (fun i _ _ _ _ _ _ _ _ _ _ _ => T.length - (intOf i).toNat)
   case atStart => exact ⟨0, Nat.zero_le _, rfl, HMK.out, HKK.out⟩
   case round =>
    clear HMK HKK
    obtain ⟨k, hk, rfl, hmk, hK⟩ := hrel
    have y4 := cell_later hK.below x4
    have k0 : (0 : Int) <= (k : Int) := by omega
    by_cases hlt : k < T.length
    ·have kn : (k : Int) < (T.length : Int) := by omega
     have HM0 : Hid (Marks wr bO N2 (EdM rs (verts rs).length (verts rs).length)) := hmk
     have HK0 : Hid (KO w W8 wr bO) := hK
     obtain ⟨l0, l1, l2⟩ := HIN.out k hlt
     obtain ⟨t0, t1, t2⟩ := HT.out k hlt
     have SO0 := SO.out k hlt _ _ (.inl ⟨rfl, rfl⟩)
     have SO1 := SO.out k hlt _ _ (.inr (.inl ⟨rfl, rfl⟩))
     have SO2 := SO.out k hlt _ _ (.inr (.inr ⟨rfl, rfl⟩))
     have SF0 : Hid _ := SF.out k hlt _ _ (.inl ⟨rfl, rfl⟩) l0 l1
     have SF1 : Hid _ := SF.out k hlt _ _ (.inr (.inl ⟨rfl, rfl⟩)) l1 l2
     have SF2 : Hid _ := SF.out k hlt _ _ (.inr (.inr ⟨rfl, rfl⟩)) l2 l0
     clear hmk hK
     generalize (T.getD k (0, 0, 0)).1 = p0 at *
     generalize (T.getD k (0, 0, 0)).2.1 = p1 at *
     generalize (T.getD k (0, 0, 0)).2.2 = p2 at *
     go_wp2
     go_loopw [11, 12, 13, 14, 15, 16, 17, 18, 19, 20] (fun y _ _ _ _ _ _ _ _ _ wq => ∃ m : Nat, m <= 3 /\ y = .int .i64 m /\ Marks wq bO N2 (EdM rs (verts rs).length (verts rs).length) /\ KO w W8 wq bO) (fun y _ _ _ _ _ _ _ _ _ _ => 3 - (intOf y).toNat)
     case atStart => exact ⟨0, by omega, rfl, HM0.out, HK0.out⟩
     case round =>
      clear HM0 HK0 y4
      obtain ⟨m, hm, rfl, hmk, hK⟩ := hrel
      have HMr : Hid (Marks wr bO N2 (EdM rs (verts rs).length (verts rs).length)) := hmk
      have HKr : Hid (KO w W8 wr bO) := hK
      have hbw := hK.below
      have y4 := cell_later hbw x4
      have z0 := cell_later hbw t0
      have z1 := cell_later hbw t1
      have z2 := cell_later hbw t2
      clear hmk hK
      rcases (show m = 0 \/ m = 1 \/ m = 2 \/ m = 3 by omega) with rfl | rfl | rfl | rfl
      ·obtain ⟨q1, hq1⟩ : ∃ q1, q1 = p0 * (verts rs).length := ⟨_, rfl⟩
       obtain ⟨qq, hqq⟩ : ∃ qq, qq = q1 + p1 := ⟨_, rfl⟩
       have iq : qq < N2 := by rw [hqq, hq1, HN2.out]; exact sq_in l0 l1
       have mA : (p0 : Int) * ((verts rs).length : Int) = (q1 : Int) := by rw [hq1]; simp
       have mA2 : (q1 : Int) + (p1 : Int) = (qq : Int) := by omega
       have HSF : Hid (¬ EdM rs (verts rs).length (verts rs).length qq -> 0 <= (lfv T p1 p0).1 /\ ∃ d : Nat, (lfv T p1 p0).2 = d /\ d < (verts rs).length /\ refCircle (pt (verts rs) p0).1 (pt (verts rs) p0).2 (pt (verts rs) p1).1 (pt (verts rs) p1).2 (pt (verts rs) p2).1 (pt (verts rs) p2).2 (pt (verts rs) d).1 (pt (verts rs) d).2 <= 0) := by rw [hqq, hq1]; exact SF0.out
       have q0 : (0 : Int) <= (qq : Int) := by omega
       have q3 : (qq : Int) < (N2 : Int) := by omega
       have qb : q1 <= 4096 := by omega
       have HL1 : Hid (∀ z : World, Below w.heap.size w z -> Calls Tryz.prog 26 #[.pointer (some ⟨x, 0, none⟩), .int .i64 (p0 : Int), .int .i64 (p1 : Int)] z fun e w' => e = .returned (.tuple #[.int .i64 (k : Int), .int .i64 (lfv T p0 p1).2]) /\ Below z.heap.size z w') := by have := LF.out p0 p1; rw [SO0] at this; exact this
       have HL2 : Hid (∀ z : World, Below w.heap.size w z -> Calls Tryz.prog 26 #[.pointer (some ⟨x, 0, none⟩), .int .i64 (p1 : Int), .int .i64 (p0 : Int)] z fun e w' => e = .returned (.tuple #[.int .i64 (lfv T p1 p0).1, .int .i64 (lfv T p1 p0).2]) /\ Below z.heap.size z w') := LF.out p1 p0
       clear hq1 hqq SO0 SO1 SO2
       generalize (lfv T p0 p1).2 = dd at *
       generalize (lfv T p1 p0).1 = r1 at *
       generalize (lfv T p1 p0).2 = r2 at *
       go_upto_region 21 with (first | (go_at_call 26; refine (HL1.out _ hbw).mono ?_; rintro e w2 ⟨rfl, hb2⟩))
       have hbw2 := below_then hbw hb2
       go_upto_region 24 with (first | (go_at_call 26; refine (HL2.out _ hbw2).mono ?_; rintro e w3 ⟨rfl, hb3⟩))
       have hb23 := below_then hb2 hb3
       have HM3 : Hid (Marks w3 bO N2 (EdM rs (verts rs).length (verts rs).length)) := HMr.out.later hb23
       have HK3 : Hid (KO w W8 w3 bO) := HKr.out.later hb23
       have hbw3 := below_then hbw2 hb3
       obtain ⟨bb, c1, c2, hbb⟩ := HM3.out.cell iq
       have y3 := cell_later hbw3 x3
       have y4 := cell_later hbw3 x4
       have v0 := cell_later hbw3 t0
       have v1 := cell_later hbw3 t1
       have v2 := cell_later hbw3 t2
       clear z0 z1 z2 hb2 hb3 hbw2
       cases bb with
       | true =>
        go_wp2
        go_roundw
        case rel => exact ⟨1, by omega, by go_num, HM3.out, HK3.out⟩
        case measure => simp [intOf]
       | false =>
        obtain ⟨rn, d, rfl, ld, hcr⟩ := HSF.out (fun h => by have := hbb h; cases this)
        obtain ⟨u0, u1⟩ := HV.out d ld
        have w0' := cell_later hbw3 u0
        have w1' := cell_later hbw3 u1
        rw [Nat.zero_add] at w0' w1'
        have d0 : (0 : Int) <= (d : Int) := by omega
        have dn : (d : Int) < ((verts rs).length : Int) := by omega
        have CC : Hid (Calls Tryz.prog 30 #[.pointer (some ⟨x, 0, none⟩), .agg #[.int .i64 (p0 : Int), .int .i64 (p1 : Int), .int .i64 (p2 : Int)]] w3 fun e w' => e = .returned (.tuple #[.agg #[.int .i64 (pt (verts rs) p0).1, .int .i64 (pt (verts rs) p0).2], .agg #[.int .i64 (pt (verts rs) p1).1, .int .i64 (pt (verts rs) p1).2], .agg #[.int .i64 (pt (verts rs) p2).1, .int .i64 (pt (verts rs) p2).2]]) /\ Below w3.heap.size w3 w') := corners_any x g _ cg (pt (verts rs)) p0 p1 p2 w3 y3 (PtsAt.later hbw3 HV.out) l0 l1 l2 hsz
        have hnr : ¬ r1 < 0 := by omega
        clear u0 u1 hbb HSF SF0 SF1 SF2
        generalize (pt (verts rs) p0).1 = ax at *
        generalize (pt (verts rs) p0).2 = ay at *
        generalize (pt (verts rs) p1).1 = bx at *
        generalize (pt (verts rs) p1).2 = bY at *
        generalize (pt (verts rs) p2).1 = cx at *
        generalize (pt (verts rs) p2).2 = cy at *
        generalize (pt (verts rs) d).1 = dx at *
        generalize (pt (verts rs) d).2 = dy at *
        have CR : Hid (∀ z : World, Calls Tryz.prog 45 #[.agg #[.int .i64 ax, .int .i64 ay], .agg #[.int .i64 bx, .int .i64 bY], .agg #[.int .i64 cx, .int .i64 cy], .agg #[.int .i64 dx, .int .i64 dy]] z fun e w' => e = .returned (.int .i64 (refCircle ax ay bx bY cx cy dx dy)) /\ Below z.heap.size z w') := fun z => refCircle_any ax ay bx bY cx cy dx dy z
        generalize refCircle ax ay bx bY cx cy dx dy = cv at *
        have hcv : ¬ 0 < cv := by omega
        go_upto_region 26 with (first | (go_at_call 30; refine CC.out.mono ?_; rintro e w7 ⟨rfl, hb7⟩))
        have b7 : Below w7.heap.size w7 (((w7.alloc (.cells #[.int .i64 ax, .int .i64 ay] 34)).alloc (.cells #[.int .i64 bx, .int .i64 bY] 34)).alloc (.cells #[.int .i64 cx, .int .i64 cy] 34)) := (((Below.refl _ _).alloc (Nat.le_refl _) _).alloc (by simp) _).alloc (by simp; omega) _
        obtain ⟨A0, A1, A2, A3⟩ := allocs3 w7 (.cells #[.int .i64 ax, .int .i64 ay] 34) (.cells #[.int .i64 bx, .int .i64 bY] 34) (.cells #[.int .i64 cx, .int .i64 cy] 34)
        have hb38 := below_then hb7 b7
        clear b7 hb7
        generalize (((w7.alloc (.cells #[.int .i64 ax, .int .i64 ay] 34)).alloc (.cells #[.int .i64 bx, .int .i64 bY] 34)).alloc (.cells #[.int .i64 cx, .int .i64 cy] 34)) = w8 at *
        have e0 : w8.cell? ⟨w7.heap.size, 0, none⟩ = some (.int .i64 ax) := by simp [World.cell?, A0]
        have e1 : w8.cell? ⟨w7.heap.size, 1, none⟩ = some (.int .i64 ay) := by simp [World.cell?, A0]
        have e2 : w8.cell? ⟨w7.heap.size + 1, 0, none⟩ = some (.int .i64 bx) := by simp [World.cell?, A1]
        have e3 : w8.cell? ⟨w7.heap.size + 1, 1, none⟩ = some (.int .i64 bY) := by simp [World.cell?, A1]
        have e4 : w8.cell? ⟨w7.heap.size + 1 + 1, 0, none⟩ = some (.int .i64 cx) := by simp [World.cell?, A2]
        have e5 : w8.cell? ⟨w7.heap.size + 1 + 1, 1, none⟩ = some (.int .i64 cy) := by simp [World.cell?, A2]
        have y38 := cell_later hb38 y3
        have w08 := cell_later hb38 w0'
        have w18 := cell_later hb38 w1'
        clear A0 A1 A2 A3
        refine wp_region_cls (R := Below w8.heap.size w8) (by kernel_rfl) (by kernel_rfl) (Below.refl _ _).drew ?_
        have inst : Nonempty (Cls (Below w8.heap.size w8)) := ⟨⟨w8, Below.refl _ _⟩⟩
        have cg0 := fun x => Cls.cell (W := w8) x e0
        have cg1 := fun x => Cls.cell (W := w8) x e1
        have cg2 := fun x => Cls.cell (W := w8) x e2
        have cg3 := fun x => Cls.cell (W := w8) x e3
        have cg4 := fun x => Cls.cell (W := w8) x e4
        have cg5 := fun x => Cls.cell (W := w8) x e5
        have cg6 := fun x => Cls.cell (W := w8) x y38
        have cg7 := fun x => Cls.cell (W := w8) x w08
        have cg8 := fun x => Cls.cell (W := w8) x w18
        repeat (first | go_big_quiet_step ((first | (go_at_call 45; exact Cls.calls _ (CR.out _)))) | quiet_step ((first | (go_at_call 45; exact Cls.calls _ (CR.out _)))))
        refine wpQuiet_nil ?_
        intro w9 hw'
        obtain ⟨xq, hxq⟩ := hw'
        have hb9 := xq.ok
        rw [<- hxq] at hb9
        clear hxq xq inst cg0 cg1 cg2 cg3 cg4 cg5 cg6 cg7 cg8
        have hb39 := below_then hb38 hb9
        go_wp2
        go_roundw
        case rel => exact ⟨1, by omega, by go_num, HM3.out.later hb39, HK3.out.later hb39⟩
        case measure => simp [intOf]
      ·obtain ⟨q1, hq1⟩ : ∃ q1, q1 = p1 * (verts rs).length := ⟨_, rfl⟩
       obtain ⟨qq, hqq⟩ : ∃ qq, qq = q1 + p2 := ⟨_, rfl⟩
       have iq : qq < N2 := by rw [hqq, hq1, HN2.out]; exact sq_in l1 l2
       have mA : (p1 : Int) * ((verts rs).length : Int) = (q1 : Int) := by rw [hq1]; simp
       have mA2 : (q1 : Int) + (p2 : Int) = (qq : Int) := by omega
       have HSF : Hid (¬ EdM rs (verts rs).length (verts rs).length qq -> 0 <= (lfv T p2 p1).1 /\ ∃ d : Nat, (lfv T p2 p1).2 = d /\ d < (verts rs).length /\ refCircle (pt (verts rs) p0).1 (pt (verts rs) p0).2 (pt (verts rs) p1).1 (pt (verts rs) p1).2 (pt (verts rs) p2).1 (pt (verts rs) p2).2 (pt (verts rs) d).1 (pt (verts rs) d).2 <= 0) := by rw [hqq, hq1]; exact SF1.out
       have q0 : (0 : Int) <= (qq : Int) := by omega
       have q3 : (qq : Int) < (N2 : Int) := by omega
       have qb : q1 <= 4096 := by omega
       have HL1 : Hid (∀ z : World, Below w.heap.size w z -> Calls Tryz.prog 26 #[.pointer (some ⟨x, 0, none⟩), .int .i64 (p1 : Int), .int .i64 (p2 : Int)] z fun e w' => e = .returned (.tuple #[.int .i64 (k : Int), .int .i64 (lfv T p1 p2).2]) /\ Below z.heap.size z w') := by have := LF.out p1 p2; rw [SO1] at this; exact this
       have HL2 : Hid (∀ z : World, Below w.heap.size w z -> Calls Tryz.prog 26 #[.pointer (some ⟨x, 0, none⟩), .int .i64 (p2 : Int), .int .i64 (p1 : Int)] z fun e w' => e = .returned (.tuple #[.int .i64 (lfv T p2 p1).1, .int .i64 (lfv T p2 p1).2]) /\ Below z.heap.size z w') := LF.out p2 p1
       clear hq1 hqq SO0 SO1 SO2
       generalize (lfv T p1 p2).2 = dd at *
       generalize (lfv T p2 p1).1 = r1 at *
       generalize (lfv T p2 p1).2 = r2 at *
       go_upto_region 21 with (first | (go_at_call 26; refine (HL1.out _ hbw).mono ?_; rintro e w2 ⟨rfl, hb2⟩))
       have hbw2 := below_then hbw hb2
       go_upto_region 24 with (first | (go_at_call 26; refine (HL2.out _ hbw2).mono ?_; rintro e w3 ⟨rfl, hb3⟩))
       have hb23 := below_then hb2 hb3
       have HM3 : Hid (Marks w3 bO N2 (EdM rs (verts rs).length (verts rs).length)) := HMr.out.later hb23
       have HK3 : Hid (KO w W8 w3 bO) := HKr.out.later hb23
       have hbw3 := below_then hbw2 hb3
       obtain ⟨bb, c1, c2, hbb⟩ := HM3.out.cell iq
       have y3 := cell_later hbw3 x3
       have y4 := cell_later hbw3 x4
       have v0 := cell_later hbw3 t0
       have v1 := cell_later hbw3 t1
       have v2 := cell_later hbw3 t2
       clear z0 z1 z2 hb2 hb3 hbw2
       cases bb with
       | true =>
        go_wp2
        go_roundw
        case rel => exact ⟨2, by omega, by go_num, HM3.out, HK3.out⟩
        case measure => simp [intOf]
       | false =>
        obtain ⟨rn, d, rfl, ld, hcr⟩ := HSF.out (fun h => by have := hbb h; cases this)
        obtain ⟨u0, u1⟩ := HV.out d ld
        have w0' := cell_later hbw3 u0
        have w1' := cell_later hbw3 u1
        rw [Nat.zero_add] at w0' w1'
        have d0 : (0 : Int) <= (d : Int) := by omega
        have dn : (d : Int) < ((verts rs).length : Int) := by omega
        have CC : Hid (Calls Tryz.prog 30 #[.pointer (some ⟨x, 0, none⟩), .agg #[.int .i64 (p0 : Int), .int .i64 (p1 : Int), .int .i64 (p2 : Int)]] w3 fun e w' => e = .returned (.tuple #[.agg #[.int .i64 (pt (verts rs) p0).1, .int .i64 (pt (verts rs) p0).2], .agg #[.int .i64 (pt (verts rs) p1).1, .int .i64 (pt (verts rs) p1).2], .agg #[.int .i64 (pt (verts rs) p2).1, .int .i64 (pt (verts rs) p2).2]]) /\ Below w3.heap.size w3 w') := corners_any x g _ cg (pt (verts rs)) p0 p1 p2 w3 y3 (PtsAt.later hbw3 HV.out) l0 l1 l2 hsz
        have hnr : ¬ r1 < 0 := by omega
        clear u0 u1 hbb HSF SF0 SF1 SF2
        generalize (pt (verts rs) p0).1 = ax at *
        generalize (pt (verts rs) p0).2 = ay at *
        generalize (pt (verts rs) p1).1 = bx at *
        generalize (pt (verts rs) p1).2 = bY at *
        generalize (pt (verts rs) p2).1 = cx at *
        generalize (pt (verts rs) p2).2 = cy at *
        generalize (pt (verts rs) d).1 = dx at *
        generalize (pt (verts rs) d).2 = dy at *
        have CR : Hid (∀ z : World, Calls Tryz.prog 45 #[.agg #[.int .i64 ax, .int .i64 ay], .agg #[.int .i64 bx, .int .i64 bY], .agg #[.int .i64 cx, .int .i64 cy], .agg #[.int .i64 dx, .int .i64 dy]] z fun e w' => e = .returned (.int .i64 (refCircle ax ay bx bY cx cy dx dy)) /\ Below z.heap.size z w') := fun z => refCircle_any ax ay bx bY cx cy dx dy z
        generalize refCircle ax ay bx bY cx cy dx dy = cv at *
        have hcv : ¬ 0 < cv := by omega
        go_upto_region 26 with (first | (go_at_call 30; refine CC.out.mono ?_; rintro e w7 ⟨rfl, hb7⟩))
        have b7 : Below w7.heap.size w7 (((w7.alloc (.cells #[.int .i64 ax, .int .i64 ay] 34)).alloc (.cells #[.int .i64 bx, .int .i64 bY] 34)).alloc (.cells #[.int .i64 cx, .int .i64 cy] 34)) := (((Below.refl _ _).alloc (Nat.le_refl _) _).alloc (by simp) _).alloc (by simp; omega) _
        obtain ⟨A0, A1, A2, A3⟩ := allocs3 w7 (.cells #[.int .i64 ax, .int .i64 ay] 34) (.cells #[.int .i64 bx, .int .i64 bY] 34) (.cells #[.int .i64 cx, .int .i64 cy] 34)
        have hb38 := below_then hb7 b7
        clear b7 hb7
        generalize (((w7.alloc (.cells #[.int .i64 ax, .int .i64 ay] 34)).alloc (.cells #[.int .i64 bx, .int .i64 bY] 34)).alloc (.cells #[.int .i64 cx, .int .i64 cy] 34)) = w8 at *
        have e0 : w8.cell? ⟨w7.heap.size, 0, none⟩ = some (.int .i64 ax) := by simp [World.cell?, A0]
        have e1 : w8.cell? ⟨w7.heap.size, 1, none⟩ = some (.int .i64 ay) := by simp [World.cell?, A0]
        have e2 : w8.cell? ⟨w7.heap.size + 1, 0, none⟩ = some (.int .i64 bx) := by simp [World.cell?, A1]
        have e3 : w8.cell? ⟨w7.heap.size + 1, 1, none⟩ = some (.int .i64 bY) := by simp [World.cell?, A1]
        have e4 : w8.cell? ⟨w7.heap.size + 1 + 1, 0, none⟩ = some (.int .i64 cx) := by simp [World.cell?, A2]
        have e5 : w8.cell? ⟨w7.heap.size + 1 + 1, 1, none⟩ = some (.int .i64 cy) := by simp [World.cell?, A2]
        have y38 := cell_later hb38 y3
        have w08 := cell_later hb38 w0'
        have w18 := cell_later hb38 w1'
        clear A0 A1 A2 A3
        refine wp_region_cls (R := Below w8.heap.size w8) (by kernel_rfl) (by kernel_rfl) (Below.refl _ _).drew ?_
        have inst : Nonempty (Cls (Below w8.heap.size w8)) := ⟨⟨w8, Below.refl _ _⟩⟩
        have cg0 := fun x => Cls.cell (W := w8) x e0
        have cg1 := fun x => Cls.cell (W := w8) x e1
        have cg2 := fun x => Cls.cell (W := w8) x e2
        have cg3 := fun x => Cls.cell (W := w8) x e3
        have cg4 := fun x => Cls.cell (W := w8) x e4
        have cg5 := fun x => Cls.cell (W := w8) x e5
        have cg6 := fun x => Cls.cell (W := w8) x y38
        have cg7 := fun x => Cls.cell (W := w8) x w08
        have cg8 := fun x => Cls.cell (W := w8) x w18
        repeat (first | go_big_quiet_step ((first | (go_at_call 45; exact Cls.calls _ (CR.out _)))) | quiet_step ((first | (go_at_call 45; exact Cls.calls _ (CR.out _)))))
        refine wpQuiet_nil ?_
        intro w9 hw'
        obtain ⟨xq, hxq⟩ := hw'
        have hb9 := xq.ok
        rw [<- hxq] at hb9
        clear hxq xq inst cg0 cg1 cg2 cg3 cg4 cg5 cg6 cg7 cg8
        have hb39 := below_then hb38 hb9
        go_wp2
        go_roundw
        case rel => exact ⟨2, by omega, by go_num, HM3.out.later hb39, HK3.out.later hb39⟩
        case measure => simp [intOf]
      ·obtain ⟨q1, hq1⟩ : ∃ q1, q1 = p2 * (verts rs).length := ⟨_, rfl⟩
       obtain ⟨qq, hqq⟩ : ∃ qq, qq = q1 + p0 := ⟨_, rfl⟩
       have iq : qq < N2 := by rw [hqq, hq1, HN2.out]; exact sq_in l2 l0
       have mA : (p2 : Int) * ((verts rs).length : Int) = (q1 : Int) := by rw [hq1]; simp
       have mA2 : (q1 : Int) + (p0 : Int) = (qq : Int) := by omega
       have HSF : Hid (¬ EdM rs (verts rs).length (verts rs).length qq -> 0 <= (lfv T p0 p2).1 /\ ∃ d : Nat, (lfv T p0 p2).2 = d /\ d < (verts rs).length /\ refCircle (pt (verts rs) p0).1 (pt (verts rs) p0).2 (pt (verts rs) p1).1 (pt (verts rs) p1).2 (pt (verts rs) p2).1 (pt (verts rs) p2).2 (pt (verts rs) d).1 (pt (verts rs) d).2 <= 0) := by rw [hqq, hq1]; exact SF2.out
       have q0 : (0 : Int) <= (qq : Int) := by omega
       have q3 : (qq : Int) < (N2 : Int) := by omega
       have qb : q1 <= 4096 := by omega
       have HL1 : Hid (∀ z : World, Below w.heap.size w z -> Calls Tryz.prog 26 #[.pointer (some ⟨x, 0, none⟩), .int .i64 (p2 : Int), .int .i64 (p0 : Int)] z fun e w' => e = .returned (.tuple #[.int .i64 (k : Int), .int .i64 (lfv T p2 p0).2]) /\ Below z.heap.size z w') := by have := LF.out p2 p0; rw [SO2] at this; exact this
       have HL2 : Hid (∀ z : World, Below w.heap.size w z -> Calls Tryz.prog 26 #[.pointer (some ⟨x, 0, none⟩), .int .i64 (p0 : Int), .int .i64 (p2 : Int)] z fun e w' => e = .returned (.tuple #[.int .i64 (lfv T p0 p2).1, .int .i64 (lfv T p0 p2).2]) /\ Below z.heap.size z w') := LF.out p0 p2
       clear hq1 hqq SO0 SO1 SO2
       generalize (lfv T p2 p0).2 = dd at *
       generalize (lfv T p0 p2).1 = r1 at *
       generalize (lfv T p0 p2).2 = r2 at *
       go_upto_region 21 with (first | (go_at_call 26; refine (HL1.out _ hbw).mono ?_; rintro e w2 ⟨rfl, hb2⟩))
       have hbw2 := below_then hbw hb2
       go_upto_region 24 with (first | (go_at_call 26; refine (HL2.out _ hbw2).mono ?_; rintro e w3 ⟨rfl, hb3⟩))
       have hb23 := below_then hb2 hb3
       have HM3 : Hid (Marks w3 bO N2 (EdM rs (verts rs).length (verts rs).length)) := HMr.out.later hb23
       have HK3 : Hid (KO w W8 w3 bO) := HKr.out.later hb23
       have hbw3 := below_then hbw2 hb3
       obtain ⟨bb, c1, c2, hbb⟩ := HM3.out.cell iq
       have y3 := cell_later hbw3 x3
       have y4 := cell_later hbw3 x4
       have v0 := cell_later hbw3 t0
       have v1 := cell_later hbw3 t1
       have v2 := cell_later hbw3 t2
       clear z0 z1 z2 hb2 hb3 hbw2
       cases bb with
       | true =>
        go_wp2
        go_roundw
        case rel => exact ⟨3, by omega, by go_num, HM3.out, HK3.out⟩
        case measure => simp [intOf]
       | false =>
        obtain ⟨rn, d, rfl, ld, hcr⟩ := HSF.out (fun h => by have := hbb h; cases this)
        obtain ⟨u0, u1⟩ := HV.out d ld
        have w0' := cell_later hbw3 u0
        have w1' := cell_later hbw3 u1
        rw [Nat.zero_add] at w0' w1'
        have d0 : (0 : Int) <= (d : Int) := by omega
        have dn : (d : Int) < ((verts rs).length : Int) := by omega
        have CC : Hid (Calls Tryz.prog 30 #[.pointer (some ⟨x, 0, none⟩), .agg #[.int .i64 (p0 : Int), .int .i64 (p1 : Int), .int .i64 (p2 : Int)]] w3 fun e w' => e = .returned (.tuple #[.agg #[.int .i64 (pt (verts rs) p0).1, .int .i64 (pt (verts rs) p0).2], .agg #[.int .i64 (pt (verts rs) p1).1, .int .i64 (pt (verts rs) p1).2], .agg #[.int .i64 (pt (verts rs) p2).1, .int .i64 (pt (verts rs) p2).2]]) /\ Below w3.heap.size w3 w') := corners_any x g _ cg (pt (verts rs)) p0 p1 p2 w3 y3 (PtsAt.later hbw3 HV.out) l0 l1 l2 hsz
        have hnr : ¬ r1 < 0 := by omega
        clear u0 u1 hbb HSF SF0 SF1 SF2
        generalize (pt (verts rs) p0).1 = ax at *
        generalize (pt (verts rs) p0).2 = ay at *
        generalize (pt (verts rs) p1).1 = bx at *
        generalize (pt (verts rs) p1).2 = bY at *
        generalize (pt (verts rs) p2).1 = cx at *
        generalize (pt (verts rs) p2).2 = cy at *
        generalize (pt (verts rs) d).1 = dx at *
        generalize (pt (verts rs) d).2 = dy at *
        have CR : Hid (∀ z : World, Calls Tryz.prog 45 #[.agg #[.int .i64 ax, .int .i64 ay], .agg #[.int .i64 bx, .int .i64 bY], .agg #[.int .i64 cx, .int .i64 cy], .agg #[.int .i64 dx, .int .i64 dy]] z fun e w' => e = .returned (.int .i64 (refCircle ax ay bx bY cx cy dx dy)) /\ Below z.heap.size z w') := fun z => refCircle_any ax ay bx bY cx cy dx dy z
        generalize refCircle ax ay bx bY cx cy dx dy = cv at *
        have hcv : ¬ 0 < cv := by omega
        go_upto_region 26 with (first | (go_at_call 30; refine CC.out.mono ?_; rintro e w7 ⟨rfl, hb7⟩))
        have b7 : Below w7.heap.size w7 (((w7.alloc (.cells #[.int .i64 ax, .int .i64 ay] 34)).alloc (.cells #[.int .i64 bx, .int .i64 bY] 34)).alloc (.cells #[.int .i64 cx, .int .i64 cy] 34)) := (((Below.refl _ _).alloc (Nat.le_refl _) _).alloc (by simp) _).alloc (by simp; omega) _
        obtain ⟨A0, A1, A2, A3⟩ := allocs3 w7 (.cells #[.int .i64 ax, .int .i64 ay] 34) (.cells #[.int .i64 bx, .int .i64 bY] 34) (.cells #[.int .i64 cx, .int .i64 cy] 34)
        have hb38 := below_then hb7 b7
        clear b7 hb7
        generalize (((w7.alloc (.cells #[.int .i64 ax, .int .i64 ay] 34)).alloc (.cells #[.int .i64 bx, .int .i64 bY] 34)).alloc (.cells #[.int .i64 cx, .int .i64 cy] 34)) = w8 at *
        have e0 : w8.cell? ⟨w7.heap.size, 0, none⟩ = some (.int .i64 ax) := by simp [World.cell?, A0]
        have e1 : w8.cell? ⟨w7.heap.size, 1, none⟩ = some (.int .i64 ay) := by simp [World.cell?, A0]
        have e2 : w8.cell? ⟨w7.heap.size + 1, 0, none⟩ = some (.int .i64 bx) := by simp [World.cell?, A1]
        have e3 : w8.cell? ⟨w7.heap.size + 1, 1, none⟩ = some (.int .i64 bY) := by simp [World.cell?, A1]
        have e4 : w8.cell? ⟨w7.heap.size + 1 + 1, 0, none⟩ = some (.int .i64 cx) := by simp [World.cell?, A2]
        have e5 : w8.cell? ⟨w7.heap.size + 1 + 1, 1, none⟩ = some (.int .i64 cy) := by simp [World.cell?, A2]
        have y38 := cell_later hb38 y3
        have w08 := cell_later hb38 w0'
        have w18 := cell_later hb38 w1'
        clear A0 A1 A2 A3
        refine wp_region_cls (R := Below w8.heap.size w8) (by kernel_rfl) (by kernel_rfl) (Below.refl _ _).drew ?_
        have inst : Nonempty (Cls (Below w8.heap.size w8)) := ⟨⟨w8, Below.refl _ _⟩⟩
        have cg0 := fun x => Cls.cell (W := w8) x e0
        have cg1 := fun x => Cls.cell (W := w8) x e1
        have cg2 := fun x => Cls.cell (W := w8) x e2
        have cg3 := fun x => Cls.cell (W := w8) x e3
        have cg4 := fun x => Cls.cell (W := w8) x e4
        have cg5 := fun x => Cls.cell (W := w8) x e5
        have cg6 := fun x => Cls.cell (W := w8) x y38
        have cg7 := fun x => Cls.cell (W := w8) x w08
        have cg8 := fun x => Cls.cell (W := w8) x w18
        repeat (first | go_big_quiet_step ((first | (go_at_call 45; exact Cls.calls _ (CR.out _)))) | quiet_step ((first | (go_at_call 45; exact Cls.calls _ (CR.out _)))))
        refine wpQuiet_nil ?_
        intro w9 hw'
        obtain ⟨xq, hxq⟩ := hw'
        have hb9 := xq.ok
        rw [<- hxq] at hb9
        clear hxq xq inst cg0 cg1 cg2 cg3 cg4 cg5 cg6 cg7 cg8
        have hb39 := below_then hb38 hb9
        go_wp2
        go_roundw
        case rel => exact ⟨3, by omega, by go_num, HM3.out.later hb39, HK3.out.later hb39⟩
        case measure => simp [intOf]
      ·go_wp2
       go_roundw
       case rel => exact ⟨k + 1, by omega, by go_num, HMr.out, HKr.out⟩
       case measure => simp [intOf]; omega
    ·have hkt : k = T.length := by omega
     subst hkt
     go_wp2
     go_ret
     exact ⟨rfl, hK.below⟩
end Go.Proofs.YtdkaoopkbhaheaaGreat
