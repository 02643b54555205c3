import Derived.Test.YtdkaoopkbhaheaaQN44
import Derived.Test.YtdkaoopkbhaheaaQN23
import Derived.Test.YtdkaoopkbhaheaaPN42
import Derived.Test.YtdkaoopkbhaheaaQN41
import Derived.Test.YtdkaoopkbhaheaaPN19
namespace Go.Proofs.Ytdkaoopkbhaheaa
open Go.RowKit Go.Lib
open Jor
open scoped Classical
set_option linter.unusedVariables false
set_option linter.unusedSimpArgs false
set_option maxRecDepth 100000 in
set_option maxHeartbeats 4000000 in
theorem turned_walk (a : Option Addr) (cap : Nat) (A : Nat → Option Addr) (C : Nat → Nat) (rs : List (List IP)) (ra : Option Addr) (rl rc : Nat) (Z : Nat → Int) (w : World) (hrl : rl ≤ 9223372036854775807) (hcap : rs.length ≤ cap) (hcm : cap ≤ 9223372036854775807) (hn : rs.length ≤ 5864062014805) (hrs : ∀ k, (rg rs k).length ≤ 8796093022208) (hp : RingsL w a A C rs) (hz : Ints w ra rl Z) :
    Calls Try.prog 9 #[.slice a rs.length cap, .slice ra rl rc] w fun e w' => e = .returned (.bool true) ∧ Below w.heap.size w w' := by
  have HP : Hid (RingsL w a A C rs) := hp
  have HZ : Hid (Ints w ra rl Z) := hz
  have HLR : Hid (∀ k, (rg rs k).length ≤ 8796093022208) := hrs
  clear hp hz hrs
  go_enter Try.func9, Try.ntmps9
  go_upto_region 2 with (first | (go_at_call 27; refine (lives_any _).mono ?_; rintro e w1 ⟨rfl, hb1⟩))
  go_upto_region 3 with (first | (go_at_call 34; refine (kturned_any a cap A C rs ra rl rc Z _ hrl hcap hcm hn HLR.out (Rings.later hb1 HP.out) (Ints.later hb1 HZ.out)).mono ?_; rintro e w2 ⟨us, pi, pi', fl, ta, ta', a', cap', A', C', rfl, H, hc1, hc2, hR, hb2⟩))
  have HT : Hid (Trd rs us pi pi' fl ta ta') := H
  have HRU : Hid (RingsL w2 a' A' C' us) := hR
  have hlu : Hid (us.length = rs.length ∧ (verts us).length = (verts rs).length ∧ chkP us = chkP rs) := ⟨H.len, H.size, H.chk⟩
  have LU : Hid (∀ k, (rg us k).length ≤ 8796093022208) := fun k => by
    by_cases q : k < us.length
    · rw [H.rl k q]; exact HLR.out _
    · unfold rg
      rw [List.getD_eq_getElem?_getD, List.getElem?_eq_none (by omega)]
      exact Nat.zero_le _
  have hb12 := below_then hb1 hb2
  clear H hR
  by_cases hc : chkP rs = 0
  · have G := good_of hc
    obtain ⟨hn, hsz⟩ := wide_good hc
    have hcu : chkP us = 0 := by rw [hlu.out.2.2]; exact hc
    have G' := good_of hcu
    obtain ⟨b, of, rfl⟩ : ∃ b of, a = some ⟨b, of, none⟩ := by
      rcases HP.out with h | ⟨b, of, rfl, _⟩
      · have := G.one; omega
      · exact ⟨b, of, rfl⟩
    obtain ⟨b', of', rfl⟩ : ∃ b of, a' = some ⟨b, of, none⟩ := by
      rcases HRU.out with h | ⟨b, of, rfl, _⟩
      · have := G'.one; omega
      · exact ⟨b, of, rfl⟩
    have HG : Hid (Good rs) := G
    have HG' : Hid (Good us) := G'
    have hb64 := G.few
    have hb8 := G.eight
    have hv0 := G.pos
    have hv0' := G'.pos
    have hnu : us.length ≤ 1048576 := by rw [hlu.out.1]; exact hn
    have hszu : (verts us).length ≤ 1048576 := by rw [hlu.out.2.1]; exact hsz
    clear G G'
    go_upto_region 4 with (first | (go_at_call 28; refine (fnew_good _ _ _ A C rs _ hcap hcm hn hsz (Rings.later hb12 HP.out) hc).mono ?_; rintro e w3 ⟨bM, T, F, rfl, hM, hb3⟩; have HM : Hid (MeshP w2.heap.size w3 rs bM T F) := hM; clear hM))
    go_upto_region 5 with (first | (go_at_call 28; refine (fnew_good _ _ _ A' C' us _ hc1 hc2 hnu hszu (Rings.later hb3 HRU.out) hcu).mono ?_; rintro e w4 ⟨bM', T', F', rfl, hM, hb4⟩; have HM' : Hid (MeshP w3.heap.size w4 us bM' T' F') := hM; clear hM))
    have hb14 := below_then hb12 (below_then hb3 hb4)
    have hb24 := below_then hb3 hb4
    have HL : Hid (T.length = (verts rs).length + 2 * rs.length - 4 ∧ 0 < T.length ∧ ∀ t ∈ T, t.1 < (verts rs).length ∧ t.2.1 < (verts rs).length ∧ t.2.2 < (verts rs).length) := ⟨(mesh_facts HG.out HM.out).1, (mesh_facts HG.out HM.out).2.1, (mesh_facts HG.out HM.out).2.2.2.1⟩
    have HL' : Hid (T'.length = (verts us).length + 2 * us.length - 4 ∧ 0 < T'.length ∧ ∀ t ∈ T', t.1 < (verts us).length ∧ t.2.1 < (verts us).length ∧ t.2.2 < (verts us).length) := ⟨(mesh_facts HG'.out HM'.out).1, (mesh_facts HG'.out HM'.out).2.1, (mesh_facts HG'.out HM'.out).2.2.2.1⟩
    have hT : T.length ≤ 1048576 := by have := HL.out.1; omega
    have hT' : T'.length ≤ 1048576 := by have := HL'.out.1; have := hlu.out.1; have := hlu.out.2.1; omega
    have heq : Hid (T.length = T'.length) := by show _ = _; rw [HL.out.1, HL'.out.1, hlu.out.1, hlu.out.2.1]
    go_upto_region 10 with (first | (go_at_call 29; refine (kpoints_any _ _ A C rs _ hn (Rings.later hb14 HP.out) (fun k hk => Nat.lt_of_lt_of_le (by decide) (HG.out.three k hk)) hsz).mono ?_; rintro e w5 ⟨v, rfl, hv, hb5⟩; obtain ⟨g, cg, rfl, hgl, hpt⟩ := points_of hv0 hv; have HPT : Hid (PtsAt w5 g 0 (verts rs).length (pt (verts rs))) := hpt; clear hv hpt))
    go_upto_region 11 with (first | (go_at_call 29; refine (kpoints_any _ _ A' C' us _ hnu (Rings.later (below_then hb24 hb5) HRU.out) (fun k hk => Nat.lt_of_lt_of_le (by decide) (HG'.out.three k hk)) hszu).mono ?_; rintro e w6 ⟨v, rfl, hv, hb6⟩; obtain ⟨g', cg', rfl, hgl', hpt⟩ := points_of hv0' hv; have HPT' : Hid (PtsAt w6 g' 0 (verts us).length (pt (verts us))) := hpt; clear hv hpt))
    have hb46 := below_then hb5 hb6
    go_upto_region 12 with (first | (go_at_call 30; refine (ftri_any _ _ rs T F _ HL.out.2.1 hT (HM.out.later (below_then hb4 hb46))).mono ?_; rintro e w7 ⟨bT, cT, rfl, hTl, ht, hb7⟩; have HTR : Hid (TriAt w7 bT T) := ht; clear ht))
    go_upto_region 13 with (first | (go_at_call 30; refine (ftri_any _ _ us T' F' _ HL'.out.2.1 hT' (HM'.out.later (below_then hb46 hb7))).mono ?_; rintro e w8 ⟨bT', cT', rfl, hTl', ht, hb8'⟩; have HTR' : Hid (TriAt w8 bT' T') := ht; clear ht))
    go_upto_region 14 with (first | (go_at_call 31; refine (kgood_any _ _ T (verts rs).length _ hT hsz (TriAt.later hb8' HTR.out) HL.out.2.2).mono ?_; rintro e w9 ⟨rfl, hb9⟩))
    go_upto_region 15 with (first | (go_at_call 31; refine (kgood_any _ _ T' (verts us).length _ hT' hszu (TriAt.later hb9 HTR'.out) HL'.out.2.2).mono ?_; rintro e w10 ⟨rfl, hb10⟩))
    have hne : ((T.length : Int) != (T'.length : Int)) = false := bne_false (by have := heq.out; omega)
    have hb8a := below_then hb8' (below_then hb9 hb10)
    have hb6a := below_then hb7 hb8a
    have hb4a := below_then hb46 hb6a
    have HM10 : Hid (MeshP w2.heap.size w10 rs bM T F) := HM.out.later (below_then hb4 hb4a)
    have HTR10 : Hid (TriAt w10 bT T) := TriAt.later hb8a HTR.out
    have HTR10' : Hid (TriAt w10 bT' T') := TriAt.later (below_then hb9 hb10) HTR'.out
    have HPT10 : Hid (PtsAt w10 g 0 (verts rs).length (pt (verts rs))) := PtsAt.later (below_then hb6 hb6a) HPT.out
    have HPT10' : Hid (PtsAt w10 g' 0 (verts us).length (pt (verts us))) := PtsAt.later hb6a HPT'.out
    have hbA := below_then hb14 hb4a
    have HP10 : Hid (RingsL w10 (some ⟨b, of, none⟩) A C rs) := Rings.later hbA HP.out
    go_upto_region 18 with (first | (go_at_call 35; refine (sure_any _ bM bT cT _ cap A C rs g cg T F _ HG.out hn HM10.out HTR10.out HP10.out HPT10.out).mono ?_; rintro e w11 ⟨⟨s, rfl, hs⟩, hb11⟩))
    have HS : Hid (s = true → ∀ i, i < T.length → ∀ a b, Sd (T.getD i (0, 0, 0)) a b → SideOK rs T i a b) := hs
    have FND : Hid (s = true → ∀ k, k < T.length → ∃ j, j < T'.length ∧ leastP (pt (verts us) (T'.getD j (0, 0, 0)).1, pt (verts us) (T'.getD j (0, 0, 0)).2.1, pt (verts us) (T'.getD j (0, 0, 0)).2.2) = leastP (pt (verts rs) (T.getD k (0, 0, 0)).1, pt (verts rs) (T.getD k (0, 0, 0)).2.1, pt (verts rs) (T.getD k (0, 0, 0)).2.2)) := fun h k hk => by
      obtain ⟨_, ⟨_, _, _, _, L, _, _, I⟩, hsrt, hmm⟩ := HM.out
      obtain ⟨_, ⟨_, _, _, _, L', _, _, I'⟩, _, hmm'⟩ := HM'.out
      obtain ⟨t', ht', e⟩ := HT.out.found HG.out HG'.out I I' hmm hmm' (strict_of HG.out hsrt hmm I (hs h)) (t3_at hk)
      obtain ⟨j, hj, ej⟩ := t3_in ht'
      exact ⟨j, hj, by rw [ej]; exact e⟩
    clear hs HS
    have hbB := below_then hbA hb11
    go_wp2
    go_loopw [18, 19, 20, 21] (fun i _ _ _ wq => ∃ k : Nat, k ≤ T.length ∧ i = .int .i64 k ∧ Below w11.heap.size w11 wq) (fun i _ _ _ _ => T.length - (intOf i).toNat)
    case atStart => exact ⟨0, Nat.zero_le _, rfl, Below.refl _ _⟩
    case round =>
      obtain ⟨k, hk, rfl, hbk⟩ := hrel
      have k0 : (0 : Int) ≤ (k : Int) := by omega
      by_cases hlk : k < T.length
      · have kn : (k : Int) < (T.length : Int) := by omega
        cases s with
        | false =>
          go_wp2
          go_ret
          exact ⟨by simp, below_then hbB hbk⟩
        | true =>
          obtain ⟨jt, hjt, hle⟩ := FND.out rfl k hlk
          obtain ⟨l0, l1, l2⟩ := HL.out.2.2 _ (t3_at hlk)
          have HTk := TriAt.later (below_then hb11 hbk) HTR10.out k hlk
          obtain ⟨t0, t1, t2⟩ := HTk
          have HLE : Hid (leastP (pt (verts us) (T'.getD jt (0, 0, 0)).1, pt (verts us) (T'.getD jt (0, 0, 0)).2.1, pt (verts us) (T'.getD jt (0, 0, 0)).2.2) = leastP (pt (verts rs) (T.getD k (0, 0, 0)).1, pt (verts rs) (T.getD k (0, 0, 0)).2.1, pt (verts rs) (T.getD k (0, 0, 0)).2.2)) := hle
          have CLS : Hid (∀ z, Below wr.heap.size wr z → Calls Try.prog 36 #[.agg #[.int .i64 ((T.getD k (0, 0, 0)).1 : Int), .int .i64 ((T.getD k (0, 0, 0)).2.1 : Int), .int .i64 ((T.getD k (0, 0, 0)).2.2 : Int)], .slice (some ⟨g, 0, none⟩) (verts rs).length cg] z fun e w' => e = .returned (arr3 (leastP (pt (verts rs) (T.getD k (0, 0, 0)).1, pt (verts rs) (T.getD k (0, 0, 0)).2.1, pt (verts rs) (T.getD k (0, 0, 0)).2.2))) ∧ Below z.heap.size z w') := fun z hz => least_any g (verts rs).length cg _ _ _ (pt (verts rs)) z l0 l1 l2 hsz (PtsAt.later (below_then (below_then hb11 hbk) hz) HPT10.out)
          clear hle
          generalize leastP (pt (verts rs) (T.getD k (0, 0, 0)).1, pt (verts rs) (T.getD k (0, 0, 0)).2.1, pt (verts rs) (T.getD k (0, 0, 0)).2.2) = lt at *
          generalize (T.getD k (0, 0, 0)).1 = p0 at *
          generalize (T.getD k (0, 0, 0)).2.1 = p1 at *
          generalize (T.getD k (0, 0, 0)).2.2 = p2 at *
          unfold arr3 at CLS
          go_upto_region 22 with (first | (go_at_call 36; refine (CLS.out _ (Below.refl _ _)).mono ?_; rintro e w12 ⟨rfl, hb12⟩))
          have bA : Below w12.heap.size w12 (w12.alloc (.cells #[.int .i64 lt.1.1, .int .i64 lt.1.2, .int .i64 lt.2.1.1, .int .i64 lt.2.1.2, .int .i64 lt.2.2.1, .int .i64 lt.2.2.2] 65)) := (Below.refl _ _).alloc (Nat.le_refl _) _
          have hB13 := below_then hbk (below_then hb12 bA)
          have hsix : (w12.alloc (.cells #[.int .i64 lt.1.1, .int .i64 lt.1.2, .int .i64 lt.2.1.1, .int .i64 lt.2.1.2, .int .i64 lt.2.2.1, .int .i64 lt.2.2.2] 65)).heap[w12.heap.size]? = some (.cells #[.int .i64 lt.1.1, .int .i64 lt.1.2, .int .i64 lt.2.1.1, .int .i64 lt.2.1.2, .int .i64 lt.2.2.1, .int .i64 lt.2.2.2] 65) := heap_alloc_new _ _
          clear bA t0 t1 t2 CLS hb12
          generalize (w12.alloc (.cells #[.int .i64 lt.1.1, .int .i64 lt.1.2, .int .i64 lt.2.1.1, .int .i64 lt.2.1.2, .int .i64 lt.2.2.1, .int .i64 lt.2.2.2] 65)) = w13 at *
          generalize w12.heap.size = nb at *
          go_wp2
          go_loopw [20, 21] (fun f j wq => ∃ (q : Nat) (bb : Bool), q ≤ T'.length ∧ j = .int .i64 q ∧ f = .bool bb ∧ (jt < q → bb = true) ∧ Below w13.heap.size w13 wq) (fun _ j _ => T'.length - (intOf j).toNat)
          case atStart => exact ⟨0, false, Nat.zero_le _, rfl, rfl, fun h => by omega, Below.refl _ _⟩
          case round =>
            obtain ⟨q, bb, hq, rfl, rfl, hbb, hbq⟩ := hrel
            have q0 : (0 : Int) ≤ (q : Int) := by omega
            by_cases hlq : q < T'.length
            · have qn : (q : Int) < (T'.length : Int) := by omega
              cases bb with
              | true =>
                go_upto_region 26 with fail
                refine wp_region_cls (R := Below wr.heap.size wr) (by kernel_rfl) (by kernel_rfl) (Below.refl _ _).drew ?_
                have inst : Nonempty (Cls (Below wr.heap.size wr)) := ⟨⟨wr, Below.refl _ _⟩⟩
                repeat (first | go_big_quiet_step (fail) | quiet_step (fail))
                refine wpQuiet_nil ?_
                intro w4 hw'
                obtain ⟨x, hx⟩ := hw'
                have hb4 := x.ok
                rw [← hx] at hb4
                clear hx x inst
                go_wp2
                go_roundw
                case rel => exact ⟨q + 1, true, by omega, by go_num, rfl, fun _ => rfl, below_then hbq hb4⟩
                case measure => simp [intOf]; omega
              | false =>
                obtain ⟨u0, u1, u2⟩ := HL'.out.2.2 _ (t3_at hlq)
                obtain ⟨c0, c1, c2⟩ := TriAt.later (below_then hb11 (below_then hB13 hbq)) HTR10'.out q hlq
                obtain ⟨⟨d0, d1, d2, d3, d4, d5⟩, _⟩ := six_cells ((hbq.block nb (Array.getElem?_eq_some_iff.1 hsix).1).trans hsix)
                have HQ : Hid (q = jt → leastP (pt (verts us) (T'.getD q (0, 0, 0)).1, pt (verts us) (T'.getD q (0, 0, 0)).2.1, pt (verts us) (T'.getD q (0, 0, 0)).2.2) = lt) := fun e => by rw [e]; exact HLE.out
                have CL : Hid (∀ x : Cls (Below wr.heap.size wr), Calls Try.prog 36 #[.agg #[.int .i64 ((T'.getD q (0, 0, 0)).1 : Int), .int .i64 ((T'.getD q (0, 0, 0)).2.1 : Int), .int .i64 ((T'.getD q (0, 0, 0)).2.2 : Int)], .slice (some ⟨g', 0, none⟩) (verts us).length cg'] x.val fun e w' => e = .returned (arr3 (leastP (pt (verts us) (T'.getD q (0, 0, 0)).1, pt (verts us) (T'.getD q (0, 0, 0)).2.1, pt (verts us) (T'.getD q (0, 0, 0)).2.2))) ∧ Below x.val.heap.size x.val w') := fun x => least_any g' (verts us).length cg' _ _ _ (pt (verts us)) x.val u0 u1 u2 hszu (PtsAt.later (below_then (below_then hb11 (below_then hB13 hbq)) x.ok) HPT10'.out)
                generalize leastP (pt (verts us) (T'.getD q (0, 0, 0)).1, pt (verts us) (T'.getD q (0, 0, 0)).2.1, pt (verts us) (T'.getD q (0, 0, 0)).2.2) = lq at *
                generalize (T'.getD q (0, 0, 0)).1 = r0 at *
                generalize (T'.getD q (0, 0, 0)).2.1 = r1 at *
                generalize (T'.getD q (0, 0, 0)).2.2 = r2 at *
                unfold arr3 at CL
                by_cases hlqt : lq = lt
                · subst hlqt
                  have hrun := arr3_same lq
                  go_upto_region 26 with fail
                  refine wp_region_cls (R := Below wr.heap.size wr) (by kernel_rfl) (by kernel_rfl) (Below.refl _ _).drew ?_
                  have inst : Nonempty (Cls (Below wr.heap.size wr)) := ⟨⟨wr, Below.refl _ _⟩⟩
                  have cg0 := fun x => Cls.cell (W := wr) x c0
                  have cg1 := fun x => Cls.cell (W := wr) x c1
                  have cg2 := fun x => Cls.cell (W := wr) x c2
                  have cg3 := fun x => Cls.cell (W := wr) x d0
                  have cg4 := fun x => Cls.cell (W := wr) x d1
                  have cg5 := fun x => Cls.cell (W := wr) x d2
                  have cg6 := fun x => Cls.cell (W := wr) x d3
                  have cg7 := fun x => Cls.cell (W := wr) x d4
                  have cg8 := fun x => Cls.cell (W := wr) x d5
                  repeat (first | go_big_quiet_step ((first | (go_at_call 36; exact Cls.calls _ (CL.out _)))) | quiet_step ((first | (go_at_call 36; exact Cls.calls _ (CL.out _)))))
                  refine wpQuiet_nil ?_
                  intro w4 hw'
                  obtain ⟨xq, hxq⟩ := hw'
                  have hb4 := xq.ok
                  rw [← hxq] at hb4
                  clear hxq xq inst cg0 cg1 cg2 cg3 cg4 cg5 cg6 cg7 cg8
                  go_wp2
                  go_roundw
                  case rel => exact ⟨q + 1, true, by omega, by go_num, rfl, fun _ => rfl, below_then hbq hb4⟩
                  case measure => simp [intOf]; omega
                · have hrun := arr3_diff hlqt
                  have nq : q ≠ jt := fun e => hlqt (HQ.out e)
                  go_upto_region 26 with fail
                  refine wp_region_cls (R := Below wr.heap.size wr) (by kernel_rfl) (by kernel_rfl) (Below.refl _ _).drew ?_
                  have inst : Nonempty (Cls (Below wr.heap.size wr)) := ⟨⟨wr, Below.refl _ _⟩⟩
                  have cg0 := fun x => Cls.cell (W := wr) x c0
                  have cg1 := fun x => Cls.cell (W := wr) x c1
                  have cg2 := fun x => Cls.cell (W := wr) x c2
                  have cg3 := fun x => Cls.cell (W := wr) x d0
                  have cg4 := fun x => Cls.cell (W := wr) x d1
                  have cg5 := fun x => Cls.cell (W := wr) x d2
                  have cg6 := fun x => Cls.cell (W := wr) x d3
                  have cg7 := fun x => Cls.cell (W := wr) x d4
                  have cg8 := fun x => Cls.cell (W := wr) x d5
                  repeat (first | go_big_quiet_step ((first | (go_at_call 36; exact Cls.calls _ (CL.out _)))) | quiet_step ((first | (go_at_call 36; exact Cls.calls _ (CL.out _)))))
                  refine wpQuiet_nil ?_
                  intro w4 hw'
                  obtain ⟨xq, hxq⟩ := hw'
                  have hb4 := xq.ok
                  rw [← hxq] at hb4
                  clear hxq xq inst cg0 cg1 cg2 cg3 cg4 cg5 cg6 cg7 cg8
                  go_wp2
                  go_roundw
                  case rel => exact ⟨q + 1, false, by omega, by go_num, rfl, fun h => hbb (by omega), below_then hbq hb4⟩
                  case measure => simp [intOf]; omega
            · have hbt : bb = true := hbb (by omega)
              subst hbt
              have qn : ¬ (q : Int) < (T'.length : Int) := by omega
              go_wp2
              go_roundw
              case rel => exact ⟨k + 1, by omega, by go_num, below_then hB13 hbq⟩
              case measure => simp [intOf]; omega
      · have kn : ¬ (k : Int) < (T.length : Int) := by omega
        go_wp2
        go_ret
        exact ⟨by simp, below_then hbB hbk⟩
  · have hz' : (chkP rs == 0) = false := by rw [beq_eq_false_iff_ne]; exact hc
    have hz2 : (chkP rs != 0) = true := by rw [bne, hz']; rfl
    have hcu : chkP us ≠ 0 := by rw [hlu.out.2.2]; exact hc
    go_upto_region 4 with (first | (go_at_call 28; refine (fnew3_bad _ _ A C rs _ hcap hcm (by omega) HLR.out (Rings.later hb12 HP.out) hc).mono ?_; rintro e w3 ⟨rfl, hb3⟩))
    go_upto_region 5 with (first | (go_at_call 28; refine (fnew3_bad _ _ A' C' us _ hc1 hc2 (by rw [hlu.out.1]; omega) LU.out (Rings.later hb3 HRU.out) hcu).mono ?_; rintro e w4 ⟨rfl, hb4⟩))
    have hb14 := below_then hb12 (below_then hb3 hb4)
    rw [hlu.out.2.2]
    go_wp2
    go_ret
    exact ⟨by simp, hb14⟩
end Go.Proofs.Ytdkaoopkbhaheaa
