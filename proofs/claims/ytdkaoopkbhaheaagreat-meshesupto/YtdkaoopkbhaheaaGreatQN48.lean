import Derived.Test.YtdkaoopkbhaheaaGreatPN22
set_option maxHeartbeats 8000000
namespace Go.Proofs.YtdkaoopkbhaheaaGreat
open Go.RowKit Go.Lib
open Jor
set_option linter.unusedVariables false
set_option linter.unusedSimpArgs false
def kite : List IP := [(0, 0), (3, -1), (9, 0), (3, 1)]
theorem kite_pos : ∀ i, i < 4 -> ∀ j, j < 4 -> ∀ u, u < 4 -> (!(decide (i < j) && decide (i < u) && decide (0 < DI (pt kite i) (pt kite j) (pt kite u))) || (decide (i = 0 /\ j = 1 /\ u = 2) || decide (i = 0 /\ j = 1 /\ u = 3) || decide (i = 0 /\ j = 2 /\ u = 3) || decide (i = 1 /\ j = 2 /\ u = 3))) = true := by decide +kernel
theorem kite_in : 0 < incI (pt kite 0) (pt kite 2) (pt kite 3) (pt kite 1) := by decide +kernel
theorem kite_twice : ∀ i, i < 4 -> ∀ j, j < i -> pt kite i ≠ pt kite j := by decide +kernel
theorem kite_touch : ∀ i, i < 4 -> ∀ j, j < i -> touchE [kite] i j = false := by decide +kernel
theorem kite_near : ∀ i, i < 4 -> nearB (pt kite i).1 (pt kite i).2 = true := by decide +kernel
open scoped Classical
theorem kite_chk : chkP [kite] = 0 := by
 refine chkP0 ?_ ?_ ?_ ?_ ?_ ?_ ?_
 ·unfold Many; simp
 ·refine not_short fun k hk => ?_
  obtain rfl : k = 0 := by simp at hk; omega
  decide
 ·refine not_far (by decide) fun i hi => ?_
  have : i < 4 := hi
  exact kite_near i this
 ·rintro ⟨i, j, hj, hi, h⟩
  exact kite_twice i hi j hj h
 ·rintro ⟨i, j, hj, hi, h⟩
  rw [kite_touch i hi j hj] at h; cases h
 ·rintro ⟨k, h1, h2, _⟩
  simp at h2; omega
 ·rintro ⟨k, j, h1, h2, _⟩
  simp at h2; omega
theorem kite_verts : verts [kite] = kite := by simp [verts]
theorem kite_mesh {B : Nat} {w : World} {bM : Nat} {T : List T3} {F : Nat -> Nat -> Option Int} (h : MeshP B w [kite] bM T F) : T = [(0, 1, 3), (1, 2, 3)] := by
 obtain ⟨_, ⟨g, c', y, bl, L, h2, h3, I⟩, hs, hm⟩ := h
 have hc := (good_of kite_chk).count hs hm I
 have hl : T.length = 2 := by
  have e1 : (verts [kite]).length = 4 := by rw [kite_verts]; rfl
  have e2 : [kite].length = 1 := rfl
  rw [e1, e2] at hc
  omega
 have one : ∀ t ∈ T, t = (0, 1, 2) \/ t = (0, 1, 3) \/ t = (0, 2, 3) \/ t = (1, 2, 3) := by
  rintro ⟨i, j, u⟩ ht
  have p1 := tri_pos hm I ht
  have p2 := tri_in hm I ht
  have p3 := ((hm i j u).1 ht).2
  rw [kite_verts] at p1 p2
  have k4 : kite.length = 4 := rfl
  simp only [k4] at p2 p1
  have q := kite_pos i p2.1 j p2.2.1 u p2.2.2
  rw [decide_eq_true p3.1, decide_eq_true p3.2, decide_eq_true p1] at q
  simp only [Bool.and_self, Bool.not_true, Bool.false_or, Bool.or_eq_true, decide_eq_true_eq] at q
  rcases q with ((⟨rfl, rfl, rfl⟩ | ⟨rfl, rfl, rfl⟩) | ⟨rfl, rfl, rfl⟩) | ⟨rfl, rfl, rfl⟩
  ·exact .inl rfl
  ·exact .inr (.inl rfl)
  ·exact .inr (.inr (.inl rfl))
  ·exact .inr (.inr (.inr rfl))
 have th : ∀ a b c, (a, b, c) ∈ T -> thF F a b = some c /\ thF F b c = some a /\ thF F c a = some b := fun a b c h => by
  have e := thF_some ((hm a b c).1 h).1
  obtain ⟨_, _, _, e1, e2, _⟩ := I.front.tri _ _ _ e
  exact ⟨e, e1, e2⟩
 match T, hl, hs, one, th with
 | [t, u], _, hs, one, th =>
  have lt : lt3 t u := (List.pairwise_cons.1 hs).1 u (List.mem_singleton.2 rfl)
  have ht : t ∈ [t, u] := List.mem_cons_self ..
  have hu : u ∈ [t, u] := List.mem_cons_of_mem _ (List.mem_singleton.2 rfl)
  rcases one t ht with rfl | rfl | rfl | rfl <;> rcases one u hu with rfl | rfl | rfl | rfl
  case inr.inl.inr.inr.inr => rfl
  case inl.inr.inr.inl =>
   exfalso
   have q := I.del.two 0 2 3 1 (th _ _ _ hu).1 (th _ _ _ ht).2.2
   rw [inc_toR] at q
   have q := (le_toR _ 0).1 q
   rw [kite_verts] at q
   have := kite_in
   omega
  all_goals exfalso
  all_goals first | (unfold lt3 at lt; simp at lt; done) | (have a := (th _ _ _ ht).1; have b := (th _ _ _ hu).1; rw [a] at b; cases b; done) | (have a := (th _ _ _ ht).2.1; have b := (th _ _ _ hu).1; rw [a] at b; cases b; done) | (have a := (th _ _ _ ht).2.1; have b := (th _ _ _ hu).2.1; rw [a] at b; cases b; done) | (have a := (th _ _ _ ht).2.2; have b := (th _ _ _ hu).2.2; rw [a] at b; cases b; done)
theorem kite_rings (w : World) : RingsL ((w.alloc (.cells #[.int .i64 0, .int .i64 0, .int .i64 3, .int .i64 (-1), .int .i64 9, .int .i64 0, .int .i64 3, .int .i64 1] 47)).alloc (.cells #[.slice (some ⟨w.heap.size, 0, none⟩) 4 4] 48)) (some ⟨w.heap.size + 1, 0, none⟩) (fun _ => some ⟨w.heap.size, 0, none⟩) (fun _ => 4) [kite] := by
 refine .inr ⟨_, _, rfl, fun k hk => ?_⟩
 obtain rfl : k = 0 := by simp at hk; omega
 refine ⟨by simp [go_sem]; rfl, .inr ⟨_, _, rfl, fun i hi => ?_⟩⟩
 have : i < 4 := hi
 rcases (show i = 0 \/ i = 1 \/ i = 2 \/ i = 3 by omega) with rfl | rfl | rfl | rfl
 all_goals (constructor <;> (simp [go_sem]; rfl))
set_option maxRecDepth 100000 in
theorem known_any (w : World) : Calls Tryz.prog 7 #[] w fun e w' => e = .returned (.bool true) /\ Below w.heap.size w w' := by
 have HR : Hid (RingsL ((w.alloc (.cells #[.int .i64 0, .int .i64 0, .int .i64 3, .int .i64 (-1), .int .i64 9, .int .i64 0, .int .i64 3, .int .i64 1] 47)).alloc (.cells #[.slice (some ⟨w.heap.size, 0, none⟩) 4 4] 48)) (some ⟨w.heap.size + 1, 0, none⟩) (fun _ => some ⟨w.heap.size, 0, none⟩) (fun _ => 4) [kite]) := kite_rings w
 have hb0 : Below w.heap.size w ((w.alloc (.cells #[.int .i64 0, .int .i64 0, .int .i64 3, .int .i64 (-1), .int .i64 9, .int .i64 0, .int .i64 3, .int .i64 1] 47)).alloc (.cells #[.slice (some ⟨w.heap.size, 0, none⟩) 4 4] 48)) := ((Below.refl _ _).alloc (Nat.le_refl _) _).alloc (by simp) _
 have hq := run_same3 0 1 3 0 1 3
 have hq2 := run_same3 1 2 3 1 2 3
 go_enter Tryz.func7, Tryz.ntmps7
 go_wp2_with (go_at_call 15; refine (fnew_good _ _ _ _ _ [kite] _ (by decide) (by decide) (by decide) (by decide) HR.out kite_chk).mono ?_; rintro e w1 ⟨bM, T, F, rfl, hM, hb1⟩; obtain rfl := kite_mesh hM; have HM : Hid (MeshP _ w1 [kite] bM [(0, 1, 3), (1, 2, 3)] F) := hM; clear hM)
 have hb2 := below_then hb0 hb1
 clear hb1 hb0 HR
 go_wp2_with (go_at_call 16; refine (ftri_any _ _ _ _ _ _ (by decide) (by decide) HM.out).mono ?_; rintro e w2 ⟨b, c2, rfl, h1, h2, h3⟩; obtain ⟨q0, q1, q2⟩ := h2 0 (by decide); obtain ⟨r0, r1, r2⟩ := h2 1 (by decide); simp only [List.getD_cons_zero, List.getD_cons_succ, Nat.zero_mul, Nat.one_mul, Nat.zero_add, Int.ofNat_zero, Int.natCast_zero, Int.natCast_one, Int.cast_ofNat_Int] at q0 q1 q2 r0 r1 r2; clear h2)
 go_ret
 exact ⟨rfl, below_then hb2 h3⟩
end Go.Proofs.YtdkaoopkbhaheaaGreat
