import Derived.Test.YtdkaoopkbhaheaaGreatPN0
import Derived.Test.YtdkaoopkbhaheaaGreatPR1
import Derived.Deep.DeepCutAuto
import Derived.Test.YtdkaoopkbhaheaaGreatZ0
set_option maxHeartbeats 8000000
namespace Go.Proofs.YtdkaoopkbhaheaaGreat
open Go.RowKit Go.Lib
set_option linter.unusedVariables false
set_option linter.unusedSimpArgs false
structure CorI (W w' : World) (H : Nat) (b0 b1 b2 : Bool) (ax ay bx bY cx cy : Int) : Prop where
 os : w'.os = W.os
 tape : w'.tape = W.tape
 output : w'.output = W.output
 size : w'.heap.size = W.heap.size
 low : ∀ q, q <= H -> w'.heap[q]? = W.heap[q]?
 c0 : w'.heap[H + 1]? = some (.cells #[.int .i64 (if b0 then ax else 0), .int .i64 (if b0 then ay else 0)] 34)
 c1 : w'.heap[H + 1 + 1]? = some (.cells #[.int .i64 (if b1 then bx else 0), .int .i64 (if b1 then bY else 0)] 34)
 c2 : w'.heap[H + 1 + 1 + 1]? = some (.cells #[.int .i64 (if b2 then cx else 0), .int .i64 (if b2 then cy else 0)] 34)
theorem put_two {w : World} {q : Nat} {u v x y : Value} {t : TypeId} (h : w.heap[q]? = some (.cells #[u, v] t)) :
  ((w.setCell ⟨q, 0, none⟩ x).setCell ⟨q, 1, none⟩ y).heap[q]? = some (.cells #[x, y] t) /\ (∀ p, p ≠ q -> ((w.setCell ⟨q, 0, none⟩ x).setCell ⟨q, 1, none⟩ y).heap[p]? = w.heap[p]?) /\ ((w.setCell ⟨q, 0, none⟩ x).setCell ⟨q, 1, none⟩ y).heap.size = w.heap.size := by
 refine ⟨?_, fun p hp => ?_, by simp⟩
 ·have h1 := heap_setCell_same w q 0 _ _ x h
  have h2 := heap_setCell_same _ q 1 _ _ y h1
  rw [h2]; rfl
 ·rw [Below.heap_setCell _ _ _ p hp, Below.heap_setCell _ _ _ p hp]
set_option maxRecDepth 100000 in
theorem corners_any (x g n cg : Nat) (V : Nat -> Int × Int) (p0 p1 p2 : Nat) (w : World) (x3 : w.cell? ⟨x, 3, none⟩ = some (.slice (some ⟨g, 0, none⟩) n cg)) (hp : PtsAt w g 0 n V) (h0 : p0 < n) (h1 : p1 < n) (h2 : p2 < n) (hn : n <= 1048576) :
  Calls Tryz.prog 30 #[.pointer (some ⟨x, 0, none⟩), .agg #[.int .i64 (p0 : Int), .int .i64 (p1 : Int), .int .i64 (p2 : Int)]] w fun e w' => e = .returned (.tuple #[.agg #[.int .i64 (V p0).1, .int .i64 (V p0).2], .agg #[.int .i64 (V p1).1, .int .i64 (V p1).2], .agg #[.int .i64 (V p2).1, .int .i64 (V p2).2]]) /\ Below w.heap.size w w' := by
 obtain ⟨a0, a1⟩ := hp p0 h0
 obtain ⟨b0, b1⟩ := hp p1 h1
 obtain ⟨c0, c1⟩ := hp p2 h2
 rw [Nat.zero_add] at a0 a1 b0 b1 c0 c1
 clear hp
 have i0 : (0 : Int) <= (p0 : Int) := by omega
 have i1 : (0 : Int) <= (p1 : Int) := by omega
 have i2 : (0 : Int) <= (p2 : Int) := by omega
 have j0 : (p0 : Int) < (n : Int) := by omega
 have j1 : (p1 : Int) < (n : Int) := by omega
 have j2 : (p2 : Int) < (n : Int) := by omega
 generalize (V p0).1 = ax at *
 generalize (V p0).2 = ay at *
 generalize (V p1).1 = bx at *
 generalize (V p1).2 = bY at *
 generalize (V p2).1 = cx at *
 generalize (V p2).2 = cy at *
 go_enter Tryz.func30, Tryz.ntmps30
 go_upto_region 1 with fail
 obtain ⟨W, hW⟩ : ∃ W, W = ((((w.alloc (.cells #[.int .i64 (p0 : Int), .int .i64 (p1 : Int), .int .i64 (p2 : Int)] 53)).alloc (.cells #[.int .i64 0, .int .i64 0] 34)).alloc (.cells #[.int .i64 0, .int .i64 0] 34)).alloc (.cells #[.int .i64 0, .int .i64 0] 34)) := ⟨_, rfl⟩
 rw [<- hW]
 have hbW : Below w.heap.size w W := by rw [hW]; exact ((((Below.refl _ _).alloc (Nat.le_refl _) _).alloc (by simp) _).alloc (by simp; omega) _).alloc (by simp; omega) _
 obtain ⟨B0, B1, B2, B3, B4⟩ : W.heap[w.heap.size]? = some (.cells #[.int .i64 (p0 : Int), .int .i64 (p1 : Int), .int .i64 (p2 : Int)] 53) /\ W.heap[w.heap.size + 1]? = some (.cells #[.int .i64 0, .int .i64 0] 34) /\ W.heap[w.heap.size + 1 + 1]? = some (.cells #[.int .i64 0, .int .i64 0] 34) /\ W.heap[w.heap.size + 1 + 1 + 1]? = some (.cells #[.int .i64 0, .int .i64 0] 34) /\ W.heap.size = w.heap.size + 1 + 1 + 1 + 1 := by
  rw [hW]
  refine ⟨?_, ?_, ?_, ?_, by simp⟩
  ·rw [Below.heap_alloc _ _ _ (by simp <;> omega), Below.heap_alloc _ _ _ (by simp <;> omega), Below.heap_alloc _ _ _ (by simp)]; exact heap_alloc_new _ _
  ·rw [Below.heap_alloc _ _ _ (by simp <;> omega), Below.heap_alloc _ _ _ (by simp)]
   have := heap_alloc_new (w.alloc (.cells #[.int .i64 (p0 : Int), .int .i64 (p1 : Int), .int .i64 (p2 : Int)] 53)) (.cells #[.int .i64 0, .int .i64 0] 34)
   simpa using this
  ·rw [Below.heap_alloc _ _ _ (by simp)]
   have := heap_alloc_new ((w.alloc (.cells #[.int .i64 (p0 : Int), .int .i64 (p1 : Int), .int .i64 (p2 : Int)] 53)).alloc (.cells #[.int .i64 0, .int .i64 0] 34)) (.cells #[.int .i64 0, .int .i64 0] 34)
   simpa using this
  ·have := heap_alloc_new (((w.alloc (.cells #[.int .i64 (p0 : Int), .int .i64 (p1 : Int), .int .i64 (p2 : Int)] 53)).alloc (.cells #[.int .i64 0, .int .i64 0] 34)).alloc (.cells #[.int .i64 0, .int .i64 0] 34)) (.cells #[.int .i64 0, .int .i64 0] 34)
   simpa using this
 clear hW
 have RD : Hid (∀ w' : World, (∀ q, q <= w.heap.size -> w'.heap[q]? = W.heap[q]?) -> w'.cell? ⟨x, 3, none⟩ = some (.slice (some ⟨g, 0, none⟩) n cg) /\ w'.cell? ⟨w.heap.size, 0, none⟩ = some (.int .i64 (p0 : Int)) /\ w'.cell? ⟨w.heap.size, 1, none⟩ = some (.int .i64 (p1 : Int)) /\ w'.cell? ⟨w.heap.size, 2, none⟩ = some (.int .i64 (p2 : Int)) /\ w'.cell? ⟨g, p0 * 2, none⟩ = some (.int .i64 ax) /\ w'.cell? ⟨g, p0 * 2 + 1, none⟩ = some (.int .i64 ay) /\ w'.cell? ⟨g, p1 * 2, none⟩ = some (.int .i64 bx) /\ w'.cell? ⟨g, p1 * 2 + 1, none⟩ = some (.int .i64 bY) /\ w'.cell? ⟨g, p2 * 2, none⟩ = some (.int .i64 cx) /\ w'.cell? ⟨g, p2 * 2 + 1, none⟩ = some (.int .i64 cy)) := fun w' h => by
  have old : ∀ (p : Addr) (v : Value), w.cell? p = some v -> w'.cell? p = some v := fun p v hv => (World.cell?_of_block (h p.block (Nat.le_of_lt (World.block_lt_of_cell? _ _ hv)))).trans (cell_later hbW hv)
  have bx0 := h w.heap.size (Nat.le_refl _)
  rw [B0] at bx0
  refine ⟨old _ _ x3, ?_, ?_, ?_, old _ _ a0, old _ _ a1, old _ _ b0, old _ _ b1, old _ _ c0, old _ _ c1⟩ <;> simp [World.cell?, bx0]
 have HD : Hid (∀ q, q <= w.heap.size -> W.drew.heap[q]? = W.heap[q]?) := fun _ _ => rfl
 clear x3 a0 a1 b0 b1 c0 c1
 refine wp_region_U (fun w' => ∀ q, q <= w.heap.size -> w'.heap[q]? = W.heap[q]?) [] (by kernel_rfl) ?_
 intro hs0
 refine anyU_take (i := 0) (v := .pointer (some ⟨x, 0, none⟩)) (f := 27) rfl (by kernel_rfl) (by kernel_rfl) (by kernel_rfl) (by kernel_rfl) (fun _ _ _ h => h) hs0 HD.out ⟨by rfl, ?y0⟩ ?r0
 case y0 => intro w' hw'; obtain ⟨z0, z1, z2, z3, z4, z5, z6, z7, z8, z9⟩ := RD.out w' hw'; go_simp
 case r0 =>
 intro hs1
 simp only [Act.put, zA, zB, zC, zD, zE, zF]
 refine anyU_take (i := 1) (v := .pointer (some ⟨x, 0, none⟩)) (f := 27) rfl (by kernel_rfl) (by kernel_rfl) (by kernel_rfl) (by kernel_rfl) (fun _ _ _ h => h) hs1 HD.out ⟨by rfl, ?y1⟩ ?r1
 case y1 => intro w' hw'; obtain ⟨z0, z1, z2, z3, z4, z5, z6, z7, z8, z9⟩ := RD.out w' hw'; go_simp
 case r1 =>
 intro hs2
 simp only [Act.put, zA, zB, zC, zD, zE, zF]
 refine anyU_take (i := 2) (v := .pointer (some ⟨x, 3, none⟩)) (f := 27) rfl (by kernel_rfl) (by kernel_rfl) (by kernel_rfl) (by kernel_rfl) (fun _ _ _ h => h) hs2 HD.out ⟨by rfl, ?y2⟩ ?r2
 case y2 => intro w' hw'; obtain ⟨z0, z1, z2, z3, z4, z5, z6, z7, z8, z9⟩ := RD.out w' hw'; go_simp
 case r2 =>
 intro hs3
 simp only [Act.put, zA, zB, zC, zD, zE, zF]
 refine anyU_take (i := 3) (v := .slice (some ⟨g, 0, none⟩) n cg) (f := 27) rfl (by kernel_rfl) (by kernel_rfl) (by kernel_rfl) (by kernel_rfl) (fun _ _ _ h => h) hs3 HD.out ⟨by rfl, ?y3⟩ ?r3
 case y3 => intro w' hw'; obtain ⟨z0, z1, z2, z3, z4, z5, z6, z7, z8, z9⟩ := RD.out w' hw'; go_simp
 case r3 =>
 intro hs4
 simp only [Act.put, zA, zB, zC, zD, zE, zF]
 refine anyU_take (i := 4) (v := .pointer (some ⟨w.heap.size, 0, none⟩)) (f := 27) rfl (by kernel_rfl) (by kernel_rfl) (by kernel_rfl) (by kernel_rfl) (fun _ _ _ h => h) hs4 HD.out ⟨by rfl, ?y4⟩ ?r4
 case y4 => intro w' hw'; obtain ⟨z0, z1, z2, z3, z4, z5, z6, z7, z8, z9⟩ := RD.out w' hw'; go_simp
 case r4 =>
 intro hs5
 simp only [Act.put, zA, zB, zC, zD, zE, zF]
 refine anyU_take (i := 5) (v := .int .i64 (p0 : Int)) (f := 27) rfl (by kernel_rfl) (by kernel_rfl) (by kernel_rfl) (by kernel_rfl) (fun _ _ _ h => h) hs5 HD.out ⟨by rfl, ?y5⟩ ?r5
 case y5 => intro w' hw'; obtain ⟨z0, z1, z2, z3, z4, z5, z6, z7, z8, z9⟩ := RD.out w' hw'; go_simp
 case r5 =>
 intro hs6
 simp only [Act.put, zA, zB, zC, zD, zE, zF]
 refine anyU_take (i := 6) (v := .pointer (some ⟨g, p0 * 2, none⟩)) (f := 27) rfl (by kernel_rfl) (by kernel_rfl) (by kernel_rfl) (by kernel_rfl) (fun _ _ _ h => h) hs6 HD.out ⟨by rfl, ?y6⟩ ?r6
 case y6 => intro w' hw'; obtain ⟨z0, z1, z2, z3, z4, z5, z6, z7, z8, z9⟩ := RD.out w' hw'; go_simp
 case r6 =>
 intro hs7
 simp only [Act.put, zA, zB, zC, zD, zE, zF]
 refine anyU_take (i := 7) (v := .agg #[.int .i64 ax, .int .i64 ay]) (f := 27) rfl (by kernel_rfl) (by kernel_rfl) (by kernel_rfl) (by kernel_rfl) (fun _ _ _ h => h) hs7 HD.out ⟨by rfl, ?y7⟩ ?r7
 case y7 => intro w' hw'; obtain ⟨z0, z1, z2, z3, z4, z5, z6, z7, z8, z9⟩ := RD.out w' hw'; go_simp
 case r7 =>
 intro hs8
 simp only [Act.put, zA, zB, zC, zD, zE, zF]
 refine anyU_take (i := 8) (v := .pointer (some ⟨x, 0, none⟩)) (f := 27) rfl (by kernel_rfl) (by kernel_rfl) (by kernel_rfl) (by kernel_rfl) (fun _ _ _ h => h) hs8 HD.out ⟨by rfl, ?y8⟩ ?r8
 case y8 => intro w' hw'; obtain ⟨z0, z1, z2, z3, z4, z5, z6, z7, z8, z9⟩ := RD.out w' hw'; go_simp
 case r8 =>
 intro hs9
 simp only [Act.put, zA, zB, zC, zD, zE, zF]
 refine anyU_take (i := 9) (v := .pointer (some ⟨x, 0, none⟩)) (f := 27) rfl (by kernel_rfl) (by kernel_rfl) (by kernel_rfl) (by kernel_rfl) (fun _ _ _ h => h) hs9 HD.out ⟨by rfl, ?y9⟩ ?r9
 case y9 => intro w' hw'; obtain ⟨z0, z1, z2, z3, z4, z5, z6, z7, z8, z9⟩ := RD.out w' hw'; go_simp
 case r9 =>
 intro hs10
 simp only [Act.put, zA, zB, zC, zD, zE, zF]
 refine anyU_take (i := 10) (v := .pointer (some ⟨x, 3, none⟩)) (f := 27) rfl (by kernel_rfl) (by kernel_rfl) (by kernel_rfl) (by kernel_rfl) (fun _ _ _ h => h) hs10 HD.out ⟨by rfl, ?y10⟩ ?r10
 case y10 => intro w' hw'; obtain ⟨z0, z1, z2, z3, z4, z5, z6, z7, z8, z9⟩ := RD.out w' hw'; go_simp
 case r10 =>
 intro hs11
 simp only [Act.put, zA, zB, zC, zD, zE, zF]
 refine anyU_take (i := 11) (v := .slice (some ⟨g, 0, none⟩) n cg) (f := 27) rfl (by kernel_rfl) (by kernel_rfl) (by kernel_rfl) (by kernel_rfl) (fun _ _ _ h => h) hs11 HD.out ⟨by rfl, ?y11⟩ ?r11
 case y11 => intro w' hw'; obtain ⟨z0, z1, z2, z3, z4, z5, z6, z7, z8, z9⟩ := RD.out w' hw'; go_simp
 case r11 =>
 intro hs12
 simp only [Act.put, zA, zB, zC, zD, zE, zF]
 refine anyU_take (i := 12) (v := .pointer (some ⟨w.heap.size, 1, none⟩)) (f := 27) rfl (by kernel_rfl) (by kernel_rfl) (by kernel_rfl) (by kernel_rfl) (fun _ _ _ h => h) hs12 HD.out ⟨by rfl, ?y12⟩ ?r12
 case y12 => intro w' hw'; obtain ⟨z0, z1, z2, z3, z4, z5, z6, z7, z8, z9⟩ := RD.out w' hw'; go_simp
 case r12 =>
 intro hs13
 simp only [Act.put, zA, zB, zC, zD, zE, zF]
 refine anyU_take (i := 13) (v := .int .i64 (p1 : Int)) (f := 27) rfl (by kernel_rfl) (by kernel_rfl) (by kernel_rfl) (by kernel_rfl) (fun _ _ _ h => h) hs13 HD.out ⟨by rfl, ?y13⟩ ?r13
 case y13 => intro w' hw'; obtain ⟨z0, z1, z2, z3, z4, z5, z6, z7, z8, z9⟩ := RD.out w' hw'; go_simp
 case r13 =>
 intro hs14
 simp only [Act.put, zA, zB, zC, zD, zE, zF]
 refine anyU_take (i := 14) (v := .pointer (some ⟨g, p1 * 2, none⟩)) (f := 27) rfl (by kernel_rfl) (by kernel_rfl) (by kernel_rfl) (by kernel_rfl) (fun _ _ _ h => h) hs14 HD.out ⟨by rfl, ?y14⟩ ?r14
 case y14 => intro w' hw'; obtain ⟨z0, z1, z2, z3, z4, z5, z6, z7, z8, z9⟩ := RD.out w' hw'; go_simp
 case r14 =>
 intro hs15
 simp only [Act.put, zA, zB, zC, zD, zE, zF]
 refine anyU_take (i := 15) (v := .agg #[.int .i64 bx, .int .i64 bY]) (f := 27) rfl (by kernel_rfl) (by kernel_rfl) (by kernel_rfl) (by kernel_rfl) (fun _ _ _ h => h) hs15 HD.out ⟨by rfl, ?y15⟩ ?r15
 case y15 => intro w' hw'; obtain ⟨z0, z1, z2, z3, z4, z5, z6, z7, z8, z9⟩ := RD.out w' hw'; go_simp
 case r15 =>
 intro hs16
 simp only [Act.put, zA, zB, zC, zD, zE, zF]
 refine anyU_take (i := 16) (v := .pointer (some ⟨x, 0, none⟩)) (f := 27) rfl (by kernel_rfl) (by kernel_rfl) (by kernel_rfl) (by kernel_rfl) (fun _ _ _ h => h) hs16 HD.out ⟨by rfl, ?y16⟩ ?r16
 case y16 => intro w' hw'; obtain ⟨z0, z1, z2, z3, z4, z5, z6, z7, z8, z9⟩ := RD.out w' hw'; go_simp
 case r16 =>
 intro hs17
 simp only [Act.put, zA, zB, zC, zD, zE, zF]
 refine anyU_take (i := 17) (v := .pointer (some ⟨x, 0, none⟩)) (f := 27) rfl (by kernel_rfl) (by kernel_rfl) (by kernel_rfl) (by kernel_rfl) (fun _ _ _ h => h) hs17 HD.out ⟨by rfl, ?y17⟩ ?r17
 case y17 => intro w' hw'; obtain ⟨z0, z1, z2, z3, z4, z5, z6, z7, z8, z9⟩ := RD.out w' hw'; go_simp
 case r17 =>
 intro hs18
 simp only [Act.put, zA, zB, zC, zD, zE, zF]
 refine anyU_take (i := 18) (v := .pointer (some ⟨x, 3, none⟩)) (f := 27) rfl (by kernel_rfl) (by kernel_rfl) (by kernel_rfl) (by kernel_rfl) (fun _ _ _ h => h) hs18 HD.out ⟨by rfl, ?y18⟩ ?r18
 case y18 => intro w' hw'; obtain ⟨z0, z1, z2, z3, z4, z5, z6, z7, z8, z9⟩ := RD.out w' hw'; go_simp
 case r18 =>
 intro hs19
 simp only [Act.put, zA, zB, zC, zD, zE, zF]
 refine anyU_take (i := 19) (v := .slice (some ⟨g, 0, none⟩) n cg) (f := 27) rfl (by kernel_rfl) (by kernel_rfl) (by kernel_rfl) (by kernel_rfl) (fun _ _ _ h => h) hs19 HD.out ⟨by rfl, ?y19⟩ ?r19
 case y19 => intro w' hw'; obtain ⟨z0, z1, z2, z3, z4, z5, z6, z7, z8, z9⟩ := RD.out w' hw'; go_simp
 case r19 =>
 intro hs20
 simp only [Act.put, zA, zB, zC, zD, zE, zF]
 refine anyU_take (i := 20) (v := .pointer (some ⟨w.heap.size, 2, none⟩)) (f := 27) rfl (by kernel_rfl) (by kernel_rfl) (by kernel_rfl) (by kernel_rfl) (fun _ _ _ h => h) hs20 HD.out ⟨by rfl, ?y20⟩ ?r20
 case y20 => intro w' hw'; obtain ⟨z0, z1, z2, z3, z4, z5, z6, z7, z8, z9⟩ := RD.out w' hw'; go_simp
 case r20 =>
 intro hs21
 simp only [Act.put, zA, zB, zC, zD, zE, zF]
 refine anyU_take (i := 21) (v := .int .i64 (p2 : Int)) (f := 27) rfl (by kernel_rfl) (by kernel_rfl) (by kernel_rfl) (by kernel_rfl) (fun _ _ _ h => h) hs21 HD.out ⟨by rfl, ?y21⟩ ?r21
 case y21 => intro w' hw'; obtain ⟨z0, z1, z2, z3, z4, z5, z6, z7, z8, z9⟩ := RD.out w' hw'; go_simp
 case r21 =>
 intro hs22
 simp only [Act.put, zA, zB, zC, zD, zE, zF]
 refine anyU_take (i := 22) (v := .pointer (some ⟨g, p2 * 2, none⟩)) (f := 27) rfl (by kernel_rfl) (by kernel_rfl) (by kernel_rfl) (by kernel_rfl) (fun _ _ _ h => h) hs22 HD.out ⟨by rfl, ?y22⟩ ?r22
 case y22 => intro w' hw'; obtain ⟨z0, z1, z2, z3, z4, z5, z6, z7, z8, z9⟩ := RD.out w' hw'; go_simp
 case r22 =>
 intro hs23
 simp only [Act.put, zA, zB, zC, zD, zE, zF]
 refine anyU_take (i := 23) (v := .agg #[.int .i64 cx, .int .i64 cy]) (f := 27) rfl (by kernel_rfl) (by kernel_rfl) (by kernel_rfl) (by kernel_rfl) (fun _ _ _ h => h) hs23 HD.out ⟨by rfl, ?y23⟩ ?r23
 case y23 => intro w' hw'; obtain ⟨z0, z1, z2, z3, z4, z5, z6, z7, z8, z9⟩ := RD.out w' hw'; go_simp
 case r23 =>
 intro hs24
 simp only [Act.put, zA, zB, zC, zD, zE, zF]
 refine anyU_flags (fun ls a w' => ∃ d0 d1 d2, ls = #[true, true, true, true, true, true, true, true, true, true, true, true, true, true, true, true, true, true, true, true, true, true, true, true, d0, d1, d2] /\ a = { tmps := #[.pointer (some ⟨x, 0, none⟩), .agg #[.int .i64 (p0 : Int), .int .i64 (p1 : Int), .int .i64 (p2 : Int)], undef, .pointer (some ⟨w.heap.size, 0, none⟩), .pointer (some ⟨w.heap.size + 1, 0, none⟩), .pointer (some ⟨w.heap.size + 1 + 1, 0, none⟩), .pointer (some ⟨w.heap.size + 1 + 1 + 1, 0, none⟩), .pointer (some ⟨x, 0, none⟩), .pointer (some ⟨x, 0, none⟩), .pointer (some ⟨x, 3, none⟩), .slice (some ⟨g, 0, none⟩) n cg, .pointer (some ⟨w.heap.size, 0, none⟩), .int .i64 (p0 : Int), .pointer (some ⟨g, p0 * 2, none⟩), .agg #[.int .i64 ax, .int .i64 ay], .pointer (some ⟨x, 0, none⟩), .pointer (some ⟨x, 0, none⟩), .pointer (some ⟨x, 3, none⟩), .slice (some ⟨g, 0, none⟩) n cg, .pointer (some ⟨w.heap.size, 1, none⟩), .int .i64 (p1 : Int), .pointer (some ⟨g, p1 * 2, none⟩), .agg #[.int .i64 bx, .int .i64 bY], .pointer (some ⟨x, 0, none⟩), .pointer (some ⟨x, 0, none⟩), .pointer (some ⟨x, 3, none⟩), .slice (some ⟨g, 0, none⟩) n cg, .pointer (some ⟨w.heap.size, 2, none⟩), .int .i64 (p2 : Int), .pointer (some ⟨g, p2 * 2, none⟩), .agg #[.int .i64 cx, .int .i64 cy]], defers := [] } /\ CorI W w' w.heap.size d0 d1 d2 ax ay bx bY cx cy) ?_ ?_ _ _ _ _ (by decide) ⟨false, false, false, by rfl, by rfl, ⟨rfl, rfl, rfl, rfl, fun _ _ => rfl, B1, B2, B3⟩⟩
 ·rintro ls a w' ⟨d0, d1, d2, rfl, rfl, I⟩ i hi
  have key : (i = 24 /\ d0 = false) \/ (i = 25 /\ d1 = false) \/ (i = 26 /\ d2 = false) := by
   have k0 : ((i == 24 && !d0) || (i == 25 && !d1) || (i == 26 && !d2)) = true := by
    refine (List.all_eq_true (p := fun i => ((i == 24 && !d0) || (i == 25 && !d1) || (i == 26 && !d2)))).1 ?_ i hi
    clear I hi
    revert d0 d1 d2
    decide +kernel
   simp only [Bool.or_eq_true, Bool.and_eq_true, beq_iff_eq, Bool.not_eq_true'] at k0
   rcases k0 with (h | h) | h
   ·exact .inl h
   ·exact .inr (.inl h)
   ·exact .inr (.inr h)
  clear hi
  rcases key with ⟨rfl, rfl⟩ | ⟨rfl, rfl⟩ | ⟨rfl, rfl⟩
  ·have B : w'.heap[w.heap.size + 1]? = some (.cells #[.int .i64 0, .int .i64 0] 34) := I.c0
   have k0 : w'.cell? ⟨w.heap.size + 1, 0, none⟩ = some (.int .i64 0) := by simp [World.cell?, B]
   have k1 : w'.cell? ⟨w.heap.size + 1, 1, none⟩ = some (.int .i64 0) := by simp [World.cell?, B]
   have f0 : w'.frozen? ⟨w.heap.size + 1, 0, none⟩ = false := by simp [World.frozen?, B]
   have f1 : w'.frozen? ⟨w.heap.size + 1, 1, none⟩ = false := by simp [World.frozen?, B]
   obtain ⟨e1, e2, e3⟩ := put_two (x := .int .i64 ax) (y := .int .i64 ay) B
   have HI : Hid (CorI W w' w.heap.size false d1 d2 ax ay bx bY cx cy) := I
   have I2 : CorI W ((w'.setCell ⟨w.heap.size + 1, 0, none⟩ (.int .i64 ax)).setCell ⟨w.heap.size + 1, 1, none⟩ (.int .i64 ay)) w.heap.size true d1 d2 ax ay bx bY cx cy := ⟨I.os, I.tape, I.output, e3.trans I.size, fun q hq => (e2 q (by omega)).trans (I.low q hq), e1, (e2 _ (by omega)).trans I.c1, (e2 _ (by omega)).trans I.c2⟩
   clear e1 e2 e3 B I
   refine wpOp_step rfl (fun K hK => ?_)
   go_simp
   refine hK _ _ ⟨fun _ => I2.low, ?_⟩
   exact ⟨true, d1, d2, rfl, rfl, I2⟩
  ·have B : w'.heap[w.heap.size + 1 + 1]? = some (.cells #[.int .i64 0, .int .i64 0] 34) := I.c1
   have k0 : w'.cell? ⟨w.heap.size + 1 + 1, 0, none⟩ = some (.int .i64 0) := by simp [World.cell?, B]
   have k1 : w'.cell? ⟨w.heap.size + 1 + 1, 1, none⟩ = some (.int .i64 0) := by simp [World.cell?, B]
   have f0 : w'.frozen? ⟨w.heap.size + 1 + 1, 0, none⟩ = false := by simp [World.frozen?, B]
   have f1 : w'.frozen? ⟨w.heap.size + 1 + 1, 1, none⟩ = false := by simp [World.frozen?, B]
   obtain ⟨e1, e2, e3⟩ := put_two (x := .int .i64 bx) (y := .int .i64 bY) B
   have HI : Hid (CorI W w' w.heap.size d0 false d2 ax ay bx bY cx cy) := I
   have I2 : CorI W ((w'.setCell ⟨w.heap.size + 1 + 1, 0, none⟩ (.int .i64 bx)).setCell ⟨w.heap.size + 1 + 1, 1, none⟩ (.int .i64 bY)) w.heap.size d0 true d2 ax ay bx bY cx cy := ⟨I.os, I.tape, I.output, e3.trans I.size, fun q hq => (e2 q (by omega)).trans (I.low q hq), (e2 _ (by omega)).trans I.c0, e1, (e2 _ (by omega)).trans I.c2⟩
   clear e1 e2 e3 B I
   refine wpOp_step rfl (fun K hK => ?_)
   go_simp
   refine hK _ _ ⟨fun _ => I2.low, ?_⟩
   exact ⟨d0, true, d2, rfl, rfl, I2⟩
  ·have B : w'.heap[w.heap.size + 1 + 1 + 1]? = some (.cells #[.int .i64 0, .int .i64 0] 34) := I.c2
   have k0 : w'.cell? ⟨w.heap.size + 1 + 1 + 1, 0, none⟩ = some (.int .i64 0) := by simp [World.cell?, B]
   have k1 : w'.cell? ⟨w.heap.size + 1 + 1 + 1, 1, none⟩ = some (.int .i64 0) := by simp [World.cell?, B]
   have f0 : w'.frozen? ⟨w.heap.size + 1 + 1 + 1, 0, none⟩ = false := by simp [World.frozen?, B]
   have f1 : w'.frozen? ⟨w.heap.size + 1 + 1 + 1, 1, none⟩ = false := by simp [World.frozen?, B]
   obtain ⟨e1, e2, e3⟩ := put_two (x := .int .i64 cx) (y := .int .i64 cy) B
   have HI : Hid (CorI W w' w.heap.size d0 d1 false ax ay bx bY cx cy) := I
   have I2 : CorI W ((w'.setCell ⟨w.heap.size + 1 + 1 + 1, 0, none⟩ (.int .i64 cx)).setCell ⟨w.heap.size + 1 + 1 + 1, 1, none⟩ (.int .i64 cy)) w.heap.size d0 d1 true ax ay bx bY cx cy := ⟨I.os, I.tape, I.output, e3.trans I.size, fun q hq => (e2 q (by omega)).trans (I.low q hq), (e2 _ (by omega)).trans I.c0, (e2 _ (by omega)).trans I.c1, e1⟩
   clear e1 e2 e3 B I
   refine wpOp_step rfl (fun K hK => ?_)
   go_simp
   refine hK _ _ ⟨fun _ => I2.low, ?_⟩
   exact ⟨d0, d1, true, rfl, rfl, I2⟩
 ·rintro ls a w' ⟨d0, d1, d2, rfl, rfl, I⟩ hr
  have key : d0 = true /\ d1 = true /\ d2 = true := by
   clear I
   revert d0 d1 d2
   decide +kernel
  obtain ⟨rfl, rfl, rfl⟩ := key
  have B1' := I.c0
  have B2' := I.c1
  have B3' := I.c2
  have k0 : w'.cell? ⟨w.heap.size + 1, 0, none⟩ = some (.int .i64 ax) := by simp [World.cell?, B1']
  have k1 : w'.cell? ⟨w.heap.size + 1, 1, none⟩ = some (.int .i64 ay) := by simp [World.cell?, B1']
  have k2 : w'.cell? ⟨w.heap.size + 1 + 1, 0, none⟩ = some (.int .i64 bx) := by simp [World.cell?, B2']
  have k3 : w'.cell? ⟨w.heap.size + 1 + 1, 1, none⟩ = some (.int .i64 bY) := by simp [World.cell?, B2']
  have k4 : w'.cell? ⟨w.heap.size + 1 + 1 + 1, 0, none⟩ = some (.int .i64 cx) := by simp [World.cell?, B3']
  have k5 : w'.cell? ⟨w.heap.size + 1 + 1 + 1, 1, none⟩ = some (.int .i64 cy) := by simp [World.cell?, B3']
  have hb : Below w.heap.size w w' := ⟨I.os.trans hbW.os, I.tape.trans hbW.tape, I.output.trans hbW.output, by rw [I.size]; exact hbW.size, fun q hq => (I.low q (by omega)).trans (hbW.block q hq)⟩
  clear I B1' B2' B3'
  go_wp2
  exact bodyPost_ret (v := .tuple #[.agg #[.int .i64 ax, .int .i64 ay], .agg #[.int .i64 bx, .int .i64 bY], .agg #[.int .i64 cx, .int .i64 cy]]) (by simp [results, Tryz.results30, go_sem, k0, k1, k2, k3, k4, k5]) rfl ⟨rfl, hb⟩
end Go.Proofs.YtdkaoopkbhaheaaGreat
