import Derived.Test.YtdkaoopkbhaheaaGreatPN46
import Derived.Test.YtdkaoopkbhaheaaGreatQN50
import Derived.Test.YtdkaoopkbhaheaaGreatPN22
import Derived.Test.YtdkaoopkbhaheaaGreatPB4
import Derived.Deep.DeepCutAuto
set_option maxHeartbeats 8000000
namespace Go.Proofs.YtdkaoopkbhaheaaGreat
open Go.RowKit Go.Lib
open Jor
open scoped Classical
set_option linter.unusedVariables false
set_option linter.unusedSimpArgs false
set_option maxRecDepth 100000 in
theorem formed_any (x g cg bt ct : Nat) (a : Option Addr) (cap : Nat) (A : Nat -> Option Addr) (C : Nat -> Nat) (rs : List (List IP)) (T : List T3) (L : List (Nat × Nat)) (F : Nat -> Nat -> Option Int) (w : World) (G : Good rs) (hs : T.Pairwise lt3) (hm : ∀ i j u, (i, j, u) ∈ T ↔ F i j = some (u : Int) /\ i < j /\ i < u) (I : FInv (pt (verts rs)) (verts rs).length (bnx rs) (bpv rs) L F L.length)
  (x2 : w.cell? ⟨x, 2, none⟩ = some (.slice a rs.length cap)) (x3 : w.cell? ⟨x, 3, none⟩ = some (.slice (some ⟨g, 0, none⟩) (verts rs).length cg)) (x4 : w.cell? ⟨x, 4, none⟩ = some (.slice (some ⟨bt, 0, none⟩) T.length ct)) (hV : PtsAt w g 0 (verts rs).length (pt (verts rs))) (hT3 : TriAt w bt T) (hp : RingsL w a A C rs) :
  Calls Tryz.prog 23 #[.pointer (some ⟨x, 0, none⟩)] w fun e w' => e = .returned (.bool true) /\ Below w.heap.size w w' := by
 have h64 := G.few
 have h8 := G.eight
 have h1 := G.one
 have hcount := G.count hs hm I
 have hT : T.length <= 1048576 := by omega
 have hsz : (verts rs).length <= 1048576 := by omega
 have HIN : Hid (∀ k, k < T.length -> (T.getD k (0, 0, 0)).1 < (verts rs).length /\ (T.getD k (0, 0, 0)).2.1 < (verts rs).length /\ (T.getD k (0, 0, 0)).2.2 < (verts rs).length /\ (T.getD k (0, 0, 0)).1 < (T.getD k (0, 0, 0)).2.1 /\ (T.getD k (0, 0, 0)).1 < (T.getD k (0, 0, 0)).2.2) := fun k hk => by
  obtain ⟨q1, q2, q3⟩ := tri_in hm I (t3_at hk)
  obtain ⟨q4, q5⟩ := tri_shape hm hk
  exact ⟨q1, q2, q3, q4, q5⟩
 have HRI : Hid (∀ k, k + 1 < T.length -> lt3 (T.getD k (0, 0, 0)) (T.getD (k + 1) (0, 0, 0))) := fun k hk => rise_at hs hk
 obtain ⟨S, S0, Sn, St⟩ := formed_facts G hs hm I
 have SN : Hid (S T.length = asum (fun k => (rg rs k).length) (fun k => pt (rg rs k)) rs.length) := Sn
 have ST : Hid (∀ k, k < T.length ->
   wrap64 (S k + twiceW (pt (verts rs) (T.getD k (0, 0, 0)).1).1 (pt (verts rs) (T.getD k (0, 0, 0)).1).2 (pt (verts rs) (T.getD k (0, 0, 0)).2.1).1 (pt (verts rs) (T.getD k (0, 0, 0)).2.1).2 (pt (verts rs) (T.getD k (0, 0, 0)).2.2).1 (pt (verts rs) (T.getD k (0, 0, 0)).2.2).2) = S (k + 1) /\
   0 < twiceW (pt (verts rs) (T.getD k (0, 0, 0)).1).1 (pt (verts rs) (T.getD k (0, 0, 0)).1).2 (pt (verts rs) (T.getD k (0, 0, 0)).2.1).1 (pt (verts rs) (T.getD k (0, 0, 0)).2.1).2 (pt (verts rs) (T.getD k (0, 0, 0)).2.2).1 (pt (verts rs) (T.getD k (0, 0, 0)).2.2).2) := St
 have HV : Hid (PtsAt w g 0 (verts rs).length (pt (verts rs))) := hV
 have HT : Hid (TriAt w bt T) := hT3
 have HP : Hid (RingsL w a A C rs) := hp
 have S0' : Hid (S 0 = 0) := S0
 clear hV hT3 hp Sn St G hs hm I S0
 go_enter Tryz.func23, Tryz.ntmps23
 go_wp2
 go_loopw [3, 4, 5, 6, 7, 8, 9] (fun sm i _ _ _ _ _ wr => ∃ k : Nat, k <= T.length /\ sm = .int .i64 (S k) /\ i = .int .i64 k /\ Below w.heap.size w wr) (fun _ i _ _ _ _ _ _ => T.length - (intOf i).toNat)
 case atStart => exact ⟨0, Nat.zero_le _, by rw [S0'.out], rfl, Below.refl _ _⟩
 case round =>
  obtain ⟨k, hk, rfl, rfl, hb⟩ := hrel
  have k0 : (0 : Int) <= (k : Int) := by omega
  have y2 := cell_later hb x2
  have y3 := cell_later hb x3
  have y4 := cell_later hb x4
  by_cases hlt : k < T.length
  ·have kn : (k : Int) < (T.length : Int) := by omega
   obtain ⟨t0, t1, t2⟩ := TriAt.later hb HT.out k hlt
   obtain ⟨l0, l1, l2, l3, l4⟩ := HIN.out k hlt
   obtain ⟨s1, s2⟩ := ST.out k hlt
   have HS1 : Hid (wrap64 (S k + twiceW (pt (verts rs) (T.getD k (0, 0, 0)).1).1 (pt (verts rs) (T.getD k (0, 0, 0)).1).2 (pt (verts rs) (T.getD k (0, 0, 0)).2.1).1 (pt (verts rs) (T.getD k (0, 0, 0)).2.1).2 (pt (verts rs) (T.getD k (0, 0, 0)).2.2).1 (pt (verts rs) (T.getD k (0, 0, 0)).2.2).2) = S (k + 1)) := s1
   have HRK : Hid (∀ j, j + 1 = k -> lt3 (T.getD j (0, 0, 0)) ((T.getD k (0, 0, 0)).1, (T.getD k (0, 0, 0)).2.1, (T.getD k (0, 0, 0)).2.2)) := fun j hj => by subst hj; exact HRI.out j hlt
   clear s1
   generalize (T.getD k (0, 0, 0)).1 = p0 at *
   generalize (T.getD k (0, 0, 0)).2.1 = p1 at *
   generalize (T.getD k (0, 0, 0)).2.2 = p2 at *
   go_upto_region 6 with fail
   obtain ⟨W, hW⟩ : ∃ W, W = wr.alloc (.cells #[.int .i64 (p0 : Int), .int .i64 (p1 : Int), .int .i64 (p2 : Int)] 53) := ⟨_, rfl⟩
   have hbW : Below wr.heap.size wr W := by rw [hW]; exact (Below.refl _ _).alloc (Nat.le_refl _) _
   have B0 : W.heap[wr.heap.size]? = some (.cells #[.int .i64 (p0 : Int), .int .i64 (p1 : Int), .int .i64 (p2 : Int)] 53) := by rw [hW]; exact heap_alloc_new _ _
   have z0 : W.cell? ⟨wr.heap.size, 0, none⟩ = some (.int .i64 (p0 : Int)) := by simp [World.cell?, B0]
   have z1 : W.cell? ⟨wr.heap.size, 1, none⟩ = some (.int .i64 (p1 : Int)) := by simp [World.cell?, B0]
   have z2 : W.cell? ⟨wr.heap.size, 2, none⟩ = some (.int .i64 (p2 : Int)) := by simp [World.cell?, B0]
   have z3 := cell_later hbW y3
   have b0 : ¬ (p0 : Int) < 0 := by omega
   have b1 : ¬ (p1 : Int) <= (p0 : Int) := by omega
   have b2 : ¬ (p2 : Int) <= (p0 : Int) := by omega
   have b3 : ¬ ((verts rs).length : Int) <= (p1 : Int) := by omega
   have b4 : ¬ ((verts rs).length : Int) <= (p2 : Int) := by omega
   rw [<- hW]
   clear hW B0 t0 t1 t2
   refine wp_region_cls (R := Below W.heap.size W) (by kernel_rfl) (by kernel_rfl) (Below.refl _ _).drew ?_
   have inst : Nonempty (Cls (Below W.heap.size W)) := ⟨⟨W, Below.refl _ _⟩⟩
   have cg0 := fun x => Cls.cell (W := W) x z0
   have cg1 := fun x => Cls.cell (W := W) x z1
   have cg2 := fun x => Cls.cell (W := W) x z2
   have cg3 := fun x => Cls.cell (W := W) x z3
   repeat (first | go_big_quiet_step (fail) | quiet_step (fail))
   refine wpQuiet_nil ?_
   intro w6 hw'
   obtain ⟨xq, hxq⟩ := hw'
   have hb6 := xq.ok
   rw [<- hxq] at hb6
   clear hxq xq inst cg0 cg1 cg2 cg3
   have hb06 := below_then hb (below_then hbW hb6)
   have hb6' := below_then hbW hb6
   have v0 := cell_later hb6 z0
   have v1 := cell_later hb6 z1
   have v2 := cell_later hb6 z2
   clear z0 z1 z2 z3
   generalize wr.heap.size = nb at *
   have CC : Hid (Calls Tryz.prog 30 #[.pointer (some ⟨x, 0, none⟩), .agg #[.int .i64 (p0 : Int), .int .i64 (p1 : Int), .int .i64 (p2 : Int)]] w6 fun e w' => e = .returned (.tuple #[.agg #[.int .i64 (pt (verts rs) p0).1, .int .i64 (pt (verts rs) p0).2], .agg #[.int .i64 (pt (verts rs) p1).1, .int .i64 (pt (verts rs) p1).2], .agg #[.int .i64 (pt (verts rs) p2).1, .int .i64 (pt (verts rs) p2).2]]) /\ Below w6.heap.size w6 w') := corners_any x g _ cg (pt (verts rs)) p0 p1 p2 w6 (cell_later hb06 x3) (PtsAt.later hb06 HV.out) l0 l1 l2 hsz
   generalize (pt (verts rs) p0).1 = ax at *
   generalize (pt (verts rs) p0).2 = ay at *
   generalize (pt (verts rs) p1).1 = bx at *
   generalize (pt (verts rs) p1).2 = bY at *
   generalize (pt (verts rs) p2).1 = cx at *
   generalize (pt (verts rs) p2).2 = cy at *
   go_upto_region 9 with (first | (go_at_call 30; refine CC.out.mono ?_; rintro e w7 ⟨rfl, hb7⟩))
   have b7 : Below w7.heap.size w7 (((w7.alloc (.cells #[.int .i64 ax, .int .i64 ay] 34)).alloc (.cells #[.int .i64 bx, .int .i64 bY] 34)).alloc (.cells #[.int .i64 cx, .int .i64 cy] 34)) := (((Below.refl _ _).alloc (Nat.le_refl _) _).alloc (by simp) _).alloc (by simp; omega) _
   obtain ⟨A0, A1, A2, A3⟩ := allocs3 w7 (.cells #[.int .i64 ax, .int .i64 ay] 34) (.cells #[.int .i64 bx, .int .i64 bY] 34) (.cells #[.int .i64 cx, .int .i64 cy] 34)
   have hb67 := below_then hb7 b7
   clear b7 hb7
   generalize (((w7.alloc (.cells #[.int .i64 ax, .int .i64 ay] 34)).alloc (.cells #[.int .i64 bx, .int .i64 bY] 34)).alloc (.cells #[.int .i64 cx, .int .i64 cy] 34)) = w8 at *
   have e0 : w8.cell? ⟨w7.heap.size, 0, none⟩ = some (.int .i64 ax) := by simp [World.cell?, A0]
   have e1 : w8.cell? ⟨w7.heap.size, 1, none⟩ = some (.int .i64 ay) := by simp [World.cell?, A0]
   have e2 : w8.cell? ⟨w7.heap.size + 1, 0, none⟩ = some (.int .i64 bx) := by simp [World.cell?, A1]
   have e3 : w8.cell? ⟨w7.heap.size + 1, 1, none⟩ = some (.int .i64 bY) := by simp [World.cell?, A1]
   have e4 : w8.cell? ⟨w7.heap.size + 1 + 1, 0, none⟩ = some (.int .i64 cx) := by simp [World.cell?, A2]
   have e5 : w8.cell? ⟨w7.heap.size + 1 + 1, 1, none⟩ = some (.int .i64 cy) := by simp [World.cell?, A2]
   have b5 : ¬ twiceW ax ay bx bY cx cy <= 0 := by omega
   go_upto_region 13 with (first | (go_at_call 43; refine (twice_any _ _ _ _ _ _ _).mono ?_; rintro e w9 ⟨rfl, hb9⟩))
   have hb69 := below_then hb67 hb9
   have v0 := cell_later hb69 v0
   have v1 := cell_later hb69 v1
   have v2 := cell_later hb69 v2
   have hb09 := below_then hb06 hb69
   have q4 := cell_later hb09 x4
   have HSW : Hid (IntKind.i64.wrap (S k + twiceW ax ay bx bY cx cy) = S (k + 1)) := by show _ = _; rw [wrap_i64]; exact HS1.out
   by_cases hk0 : k = 0
   ·subst hk0
    refine wp_region_cls (R := Below w9.heap.size w9) (by kernel_rfl) (by kernel_rfl) (Below.refl _ _).drew ?_
    have inst : Nonempty (Cls (Below w9.heap.size w9)) := ⟨⟨w9, Below.refl _ _⟩⟩
    have cg0 := fun x => Cls.cell (W := w9) x q4
    have cg1 := fun x => Cls.cell (W := w9) x v0
    have cg2 := fun x => Cls.cell (W := w9) x v1
    have cg3 := fun x => Cls.cell (W := w9) x v2
    repeat (first | go_big_quiet_step (fail) | quiet_step (fail))
    refine wpQuiet_nil ?_
    intro w10 hw'
    obtain ⟨xq, hxq⟩ := hw'
    have hb10 := xq.ok
    rw [<- hxq] at hb10
    clear hxq xq inst cg0 cg1 cg2 cg3
    go_wp2
    go_roundw
    case rel => exact ⟨1, by omega, by rw [<- HS1.out], by go_num, below_then hb09 hb10⟩
    case measure => simp [intOf]; omega
   ·obtain ⟨j, rfl⟩ : ∃ j, k = j + 1 := ⟨k - 1, by omega⟩
    obtain ⟨r0, r1, r2⟩ := TriAt.later hb09 HT.out j (by omega)
    have lt := HRK.out j rfl
    have HRIS : Hid (∀ z : World, Calls Tryz.prog 44 #[.agg #[.int .i64 ((T.getD j (0, 0, 0)).1 : Int), .int .i64 ((T.getD j (0, 0, 0)).2.1 : Int), .int .i64 ((T.getD j (0, 0, 0)).2.2 : Int)], .agg #[.int .i64 (p0 : Int), .int .i64 (p1 : Int), .int .i64 (p2 : Int)]] z fun e w' => e = .returned (.bool true) /\ Below z.heap.size z w') := fun z => rises_any _ _ _ p0 p1 p2 z lt
    have jn : (j : Int) < (T.length : Int) := by omega
    have j0 : (0 : Int) <= (j : Int) := by omega
    clear lt
    generalize (T.getD j (0, 0, 0)).1 = m0 at *
    generalize (T.getD j (0, 0, 0)).2.1 = m1 at *
    generalize (T.getD j (0, 0, 0)).2.2 = m2 at *
    refine wp_region_cls (R := Below w9.heap.size w9) (by kernel_rfl) (by kernel_rfl) (Below.refl _ _).drew ?_
    have inst : Nonempty (Cls (Below w9.heap.size w9)) := ⟨⟨w9, Below.refl _ _⟩⟩
    have cg0 := fun x => Cls.cell (W := w9) x q4
    have cg1 := fun x => Cls.cell (W := w9) x v0
    have cg2 := fun x => Cls.cell (W := w9) x v1
    have cg3 := fun x => Cls.cell (W := w9) x v2
    have cg4 := fun x => Cls.cell (W := w9) x r0
    have cg5 := fun x => Cls.cell (W := w9) x r1
    have cg6 := fun x => Cls.cell (W := w9) x r2
    repeat (first | go_big_quiet_step ((first | (go_at_call 44; exact Cls.calls _ (HRIS.out _)))) | quiet_step ((first | (go_at_call 44; exact Cls.calls _ (HRIS.out _)))))
    refine wpQuiet_nil ?_
    intro w10 hw'
    obtain ⟨xq, hxq⟩ := hw'
    have hb10 := xq.ok
    rw [<- hxq] at hb10
    clear hxq xq inst cg0 cg1 cg2 cg3 cg4 cg5 cg6
    go_wp2
    go_roundw
    case rel => exact ⟨j + 1 + 1, by omega, by rw [<- HS1.out], by go_num, below_then hb09 hb10⟩
    case measure => simp [intOf]; omega
  ·have : k = T.length := by omega
   subst this
   have RA : Hid (∀ z : World, Below w.heap.size w z -> Calls Tryz.prog 35 #[.slice a rs.length cap] z fun e w' => e = .returned (.int .i64 (asum (fun k => (rg rs k).length) (fun k => pt (rg rs k)) rs.length)) /\ Below z.heap.size z w') := fun z hz => refArea_any a rs.length cap A (fun k => (rg rs k).length) C (fun k => pt (rg rs k)) z (by unfold maxLen; omega) (fun k _ => by have := rg_le rs k; unfold maxLen; omega) (Rings.later hz HP.out)
   rw [<- SN.out] at RA
   have hcnt : (T.length : Int) = ((verts rs).length : Int) + 2 * ((rs.length : Int) - 1) - 2 := by omega
   generalize S T.length = ar at *
   go_upto_region 15 with fail
   refine wp_region_cls (R := Below wr.heap.size wr) (by kernel_rfl) (by kernel_rfl) (Below.refl _ _).drew ?_
   have inst : Nonempty (Cls (Below wr.heap.size wr)) := ⟨⟨wr, Below.refl _ _⟩⟩
   have cg0 := fun x => Cls.cell (W := wr) x y2
   have cg1 := fun x => Cls.cell (W := wr) x y3
   have cg2 := fun x => Cls.cell (W := wr) x y4
   repeat (first | go_big_quiet_step ((first | (go_at_call 35; exact Cls.calls _ (RA.out _ (below_then hb (Cls.ok _)))))) | quiet_step ((first | (go_at_call 35; exact Cls.calls _ (RA.out _ (below_then hb (Cls.ok _)))))))
   refine wpQuiet_nil ?_
   intro w4 hw'
   obtain ⟨xq, hxq⟩ := hw'
   have hb4 := xq.ok
   rw [<- hxq] at hb4
   clear hxq xq inst cg0 cg1 cg2
   go_wp2
   go_ret
   exact ⟨by simp; omega, below_then hb hb4⟩
end Go.Proofs.YtdkaoopkbhaheaaGreat
