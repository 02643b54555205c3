import Derived.Test.YtdkaoopkbhaheaaGreatQN15
namespace Go.Proofs.YtdkaoopkbhaheaaGreat
open Go.RowKit Go.Lib
open Jor
open Go.ChangeMaps (setBlock)
set_option linter.unusedVariables false
set_option linter.unusedSimpArgs false
theorem thF_val {F : Nat → Nat → Option Int} {a b v : Nat} (h : thF F a b = some v) : F a b = some (v : Int) := by
  unfold thF at h
  cases e : F a b with
  | none => rw [e] at h; cases h
  | some t =>
    rw [e] at h
    simp only at h
    split at h
    · cases h
      congr 1
      omega
    · cases h
theorem FInv.some {V : Nat → IP} {n : Nat} {nx pv : Nat → Nat} {L : List (Nat × Nat)} {F : Nat → Nat → Option Int} (I : FInv V n nx pv L F L.length) (hn : 0 < n) : ∃ i j u : Nat, F i j = some (u : Int) ∧ i < j ∧ i < u := by
  obtain ⟨v, hv⟩ := I.full _ _ (I.front.bd 0 hn)
  obtain ⟨k1, k2, k3, t1, t2, _⟩ := I.front.tri _ _ _ hv
  have n1 := I.front.ne _ _ k1; have n2 := I.front.ne _ _ k2; have n3 := I.front.ne _ _ k3
  generalize nx 0 = b at *
  exact ⟨0, b, v, thF_val hv, by omega, by omega⟩
def opF (bl : List (Nat × Nat)) : Nat → Nat → Nat → Option Int
  | 0 => fun _ _ => none
  | k + 1 => upd (opF bl k) (bl.getD k (0, 0)).1 (bl.getD k (0, 0)).2 (-1)
theorem own_edges {w : World} {B : Nat} {v : Value} {L : List (Nat × Nat)} (hpos : 0 < L.length) (h : w.ownsRow B 106 2 v L.length (cellsA L)) : ∃ g c, v = .slice (some ⟨g, 0, none⟩) L.length c ∧ EdAt w g 0 L.length (fun u => L.getD u (0, 0)) := by
  obtain ⟨_, h2⟩ := h
  rcases h2 with ⟨_, h2⟩ | ⟨g, c, cur, rfl, _, h4, h5, _, h7, h8⟩
  · omega
  · refine ⟨g, c, rfl, fun i hi => ?_⟩
    obtain ⟨q1, q2⟩ := cellsA_get L i hi
    have rd : ∀ t x, t < L.length * 2 → (cellsA L)[t]? = some x → cur[t]? = some x := fun t x ht hx => by
      rw [← h8, List.getElem?_take, if_pos ht] at hx
      simpa using hx
    refine ⟨?_, ?_⟩
    · simp [World.cell?, h4, rd _ _ (by omega) q1]
    · simp [World.cell?, h4, rd _ _ (by omega) q2]
set_option maxRecDepth 100000 in
set_option maxHeartbeats 4000000 in
theorem cutAll_any (b of n cap bb ob mc : Nat) (V : Nat → IP) (nx pv : Nat → Nat) (bl : List (Nat × Nat)) (w : World) (hn : n ≤ 64) (hpos : 0 < n) (near : ∀ i, i < n → nearP (V i)) (G : Bd (fun i => toR (V i)) n nx pv) (hbn : ∀ u, u < bl.length → (bl.getD u (0, 0)).1 < n ∧ (bl.getD u (0, 0)).2 < n)
    (hI : FInv V n nx pv bl (opF bl bl.length) 0) (hp : PtsAt w b of n V) (he : EdAt w bb ob bl.length (fun u => bl.getD u (0, 0))) :
    Calls Tryz.prog 52 #[gv b of n cap, .slice (some ⟨bb, ob, none⟩) bl.length mc] w fun e w' => ∃ y T F L, e = .returned y ∧ w'.ownsRow w.heap.size 53 3 y T.length (cells3 T) ∧ T.Pairwise lt3 ∧ (∀ i j u, (i, j, u) ∈ T ↔ F i j = some (u : Int) ∧ i < j ∧ i < u) ∧ FInv V n nx pv L F L.length ∧ Below w.heap.size w w' := by
  have hmm := @run_makeMap Tryz.prog
  have hm0 := hI.bound hn
  unfold Go.Proofs.YtdkaoopkbhaheaaGreat.gv
  go_enter Tryz.func52, Tryz.ntmps52
  go_wp2
  have hS0 : CutS w.heap.size (((w.alloc (.cells #[.slice (some ⟨b, of, none⟩) n cap] 78)).alloc (.map #[] 0)).alloc (.cells #[.slice (some ⟨b, of, none⟩) n cap, .slice none 0 0, .map (some (w.heap.size + 1))] 130)) (w.heap.size + 1 + 1) b of n cap (w.heap.size + 1) (bl.take 0) (opF bl 0) (.slice none 0 0) := by
    refine ⟨by omega, by omega, ?_, World.ownsRow_nil _ _ _ _, ?_⟩
    · have := heap_alloc_new ((w.alloc (.cells #[.slice (some ⟨b, of, none⟩) n cap] 78)).alloc (.map #[] 0)) (.cells #[.slice (some ⟨b, of, none⟩) n cap, .slice none 0 0, .map (some (w.heap.size + 1))] 130)
      simpa using this
    · have h1 := MapIs.new (w.alloc (.cells #[.slice (some ⟨b, of, none⟩) n cap] 78))
      simp only [World.size_alloc] at h1
      exact h1.block (Below.heap_alloc _ _ _ (by simp))
  have b0 : Below w.heap.size w (((w.alloc (.cells #[.slice (some ⟨b, of, none⟩) n cap] 78)).alloc (.map #[] 0)).alloc (.cells #[.slice (some ⟨b, of, none⟩) n cap, .slice none 0 0, .map (some (w.heap.size + 1))] 130)) := (((Below.refl _ _).alloc (Nat.le_refl _) _).alloc (by simp) _).alloc (by simp; omega) _
  generalize (((w.alloc (.cells #[.slice (some ⟨b, of, none⟩) n cap] 78)).alloc (.map #[] 0)).alloc (.cells #[.slice (some ⟨b, of, none⟩) n cap, .slice none 0 0, .map (some (w.heap.size + 1))] 130)) = W0 at *
  have HI : Hid (FInv V n nx pv bl (opF bl bl.length) 0) := hI
  have HBN : Hid (∀ u, u < bl.length → (bl.getD u (0, 0)).1 < n ∧ (bl.getD u (0, 0)).2 < n) := hbn
  have HN : Hid (∀ i, i < n → nearP (V i)) := near
  have HPOS : Hid (0 < n) := hpos
  have HG : Hid (Bd (fun i => toR (V i)) n nx pv) := G
  have HP : Hid (PtsAt w b of n V) := hp
  have HD : Hid (EdAt w bb ob bl.length (fun u => bl.getD u (0, 0))) := he
  clear hI hbn near G hp he
  go_loopw [7, 15] (fun _ c wr => ∃ k : Nat, k ≤ bl.length ∧ c = .int .i64 k ∧ (∃ v, CutS w.heap.size wr (w.heap.size + 1 + 1) b of n cap (w.heap.size + 1) (bl.take k) (opF bl k) v) ∧ Below w.heap.size w wr) (fun _ c _ => bl.length - (intOf c).toNat)
  case atStart => exact ⟨0, by omega, rfl, ⟨_, hS0⟩, b0⟩
  case round =>
    clear hS0 b0
    obtain ⟨k, hk, rfl, ⟨v, hSr⟩, hbr⟩ := hrel
    by_cases hlt : k < bl.length
    · have c0 := cell_later hbr (HD.out k hlt).1
      have c1 := cell_later hbr (HD.out k hlt).2
      have k0 : (0 : Int) ≤ (k : Int) := by omega
      have kn : (k : Int) < (bl.length : Int) := by omega
      have hb1 := HBN.out k hlt
      have OF : Hid (opF bl (k + 1) = upd (opF bl k) (bl.getD k (0, 0)).1 (bl.getD k (0, 0)).2 (-1)) := rfl
      have TL : Hid (bl.take (k + 1) = bl.take k ++ [((bl.getD k (0, 0)).1, (bl.getD k (0, 0)).2)]) := take_snoc _ _ (0, 0) hlt
      have hlen : (bl.take k).length + 1 ≤ 1048576 := by simp; omega
      have hsz := hbr.size
      have CO : Hid (∀ x, Below wr.heap.size wr x → Calls Tryz.prog 68 #[.pointer (some ⟨w.heap.size + 1 + 1, 0, none⟩), ev (bl.getD k (0, 0)).1 (bl.getD k (0, 0)).2] x fun e w' => e = .returned (.tuple #[]) ∧ (∃ v', CutS w.heap.size w' (w.heap.size + 1 + 1) b of n cap (w.heap.size + 1) (bl.take (k + 1)) (opF bl (k + 1)) v') ∧ Below w.heap.size w w') := fun x hx => by
        have hxs := hx.size
        refine (open_any w.heap.size (w.heap.size + 1 + 1) b of n cap (w.heap.size + 1) _ _ (bl.take k) (opF bl k) v x (by omega) (by omega) (by omega) hlen (hSr.later hx)).mono ?_
        rintro e w' ⟨rfl, h1, h2, _⟩
        rw [OF.out, TL.out]
        exact ⟨rfl, h1, (hbr.trans (hx.mono (by omega))).trans h2⟩
      clear hSr
      unfold ev at CO
      generalize (bl.getD k (0, 0)).1 = e1 at *
      generalize (bl.getD k (0, 0)).2 = e2 at *
      go_wp2_with (go_at_call 68; refine (CO.out _ ((Below.refl _ _).alloc (Nat.le_refl _) _)).mono ?_; rintro e w2 ⟨rfl, hS2, hb2⟩)
      go_roundw
      case rel => exact ⟨k + 1, by omega, by go_num, hS2, hb2⟩
      case measure => simp [intOf]; omega
    · have : k = bl.length := by omega
      subst this
      have TL : bl.take bl.length = bl := List.take_length
      rw [TL] at hSr
      clear TL
      have HS1 : Hid (CutS w.heap.size wr (w.heap.size + 1 + 1) b of n cap (w.heap.size + 1) bl (opF bl bl.length) v) := hSr
      have hbr1 := hbr
      clear hSr hbr
      go_wp2
      go_loopw [8, 9] (fun c _ wr => ∃ (i : Nat) (L : List (Nat × Nat)) (F : Nat → Nat → Option Int) (v : Value), c = .int .i64 i ∧ CutS w.heap.size wr (w.heap.size + 1 + 1) b of n cap (w.heap.size + 1) L F v ∧ FInv V n nx pv L F i ∧ Below w.heap.size w wr) (fun c _ _ => 10001 - (intOf c).toNat)
      case atStart => exact ⟨0, bl, _, _, rfl, HS1.out, HI.out, hbr1⟩
      case round =>
        clear HS1 HI hbr1 hk hlt
        rename_i wr0
        obtain ⟨i, L, F, v, rfl, hS, hIv, hbr⟩ := hrel
        have HIV : Hid (FInv V n nx pv L F i) := hIv
        have hbd := hIv.bound hn
        have hil := hIv.il
        have hsz := hbr.size
        have hs1 := hS.c1
        have hs2 := hS.c2
        have HC : Hid (CutS w.heap.size wr (w.heap.size + 1 + 1) b of n cap (w.heap.size + 1) L F v) := hS
        clear hIv hS
        by_cases hlt : i < L.length
        · obtain ⟨g, cg, rfl, hE⟩ := own_edges (by omega) HC.out.row
          have c0 := (hE i hlt).1
          have c1 := (hE i hlt).2
          simp only [Nat.zero_add] at c0 c1
          have i0 : (0 : Int) ≤ (i : Int) := by omega
          have iL : (i : Int) < (L.length : Int) := by omega
          have hlt2 := HIV.out.lt i hlt
          have kk := HIV.out.ek _ (getD_in (d := (0, 0)) hlt)
          have HE : Hid (EdAt wr g 0 L.length (fun u => L.getD u (0, 0))) := hE
          have HL : Hid (∀ u, u < L.length → (L.getD u (0, 0)).1 < n ∧ (L.getD u (0, 0)).2 < n) := HIV.out.lt
          have HST : Hid (F (L.getD i (0, 0)).1 (L.getD i (0, 0)).2 = some (-1) → ∃ x, bst V n (fun u => L.getD u (0, 0)) L.length (L.getD i (0, 0)).1 (L.getD i (0, 0)).2 n = some x ∧ x < n ∧ FInv V n nx pv (layL F L (L.getD i (0, 0)).1 (L.getD i (0, 0)).2 x 3) (layF F (L.getD i (0, 0)).1 (L.getD i (0, 0)).2 x 3) (i + 1)) := fun h => HIV.out.step HN.out HG.out hlt h
          have HSK : Hid (∀ u : Int, F (L.getD i (0, 0)).1 (L.getD i (0, 0)).2 = some u → u ≠ -1 → FInv V n nx pv L F (i + 1)) := fun u h h2 => HIV.out.skip hlt h h2
          clear hE
          generalize he1 : (L.getD i (0, 0)).1 = e1 at *
          generalize he2 : (L.getD i (0, 0)).2 = e2 at *
          clear he1 he2
          cases hF : F e1 e2 with
          | none => exact absurd hF kk
          | some u =>
            have hbA : Below wr.heap.size wr (wr.alloc (.cells #[.int .i64 (e1 : Int), .int .i64 (e2 : Int)] 106)) := (Below.refl _ _).alloc (Nat.le_refl _) _
            have lk := look1_yes (w := (wr.alloc (.cells #[.int .i64 (e1 : Int), .int .i64 (e2 : Int)] 106))) (HC.out.later hbA).map (by omega) (by omega) hF
            unfold ev at lk
            have q2 := cell_later hbA hs2
            have x0 : (wr.alloc (.cells #[.int .i64 (e1 : Int), .int .i64 (e2 : Int)] 106)).cell? ⟨wr.heap.size, 0, none⟩ = some (.int .i64 (e1 : Int)) := by simp [go_sem]
            have x1 : (wr.alloc (.cells #[.int .i64 (e1 : Int), .int .i64 (e2 : Int)] 106)).cell? ⟨wr.heap.size, 1, none⟩ = some (.int .i64 (e2 : Int)) := by simp [go_sem]
            by_cases hu : u = -1
            · subst hu
              obtain ⟨x, hb, hxn, hInew⟩ := HST.out hF
              have HNEW : Hid (FInv V n nx pv (layL F L e1 e2 x 3) (layF F e1 e2 x 3) (i + 1)) := hInew
              have CB : Hid (∀ z, Below wr.heap.size wr z → Calls Tryz.prog 70 #[.pointer (some ⟨w.heap.size + 1 + 1, 0, none⟩), ev e1 e2] z fun e w' => e = .returned (.int .i64 (x : Int)) ∧ Below z.heap.size z w') := fun z hz => by
                have := best_any (w.heap.size + 1 + 1) b of n cap e1 e2 g 0 L.length cg (w.heap.size + 1) V (fun u => L.getD u (0, 0)) z (by omega) (by omega) hlt2.1 hlt2.2 HL.out ⟨(HC.out.later hz).c0, (HC.out.later hz).c1, (HC.out.later hz).c2⟩ (PtsAt.later (hbr.trans (hz.mono (by omega))) HP.out) (EdAt.later hz HE.out)
                rw [hb] at this
                exact this
              have CL : Hid (∀ z, Below wr.heap.size wr z → Calls Tryz.prog 69 #[.pointer (some ⟨w.heap.size + 1 + 1, 0, none⟩), tv e1 e2 x] z fun e w' => e = .returned (.tuple #[]) ∧ (∃ v', CutS w.heap.size w' (w.heap.size + 1 + 1) b of n cap (w.heap.size + 1) (layL F L e1 e2 x 3) (layF F e1 e2 x 3) v') ∧ Below w.heap.size w w') := fun z hz => by
                have hzs := hz.size
                refine (lay_any w.heap.size (w.heap.size + 1 + 1) b of n cap (w.heap.size + 1) e1 e2 x L F _ z (by omega) (by omega) (by omega) (by omega) (by omega) (HC.out.later hz)).mono ?_
                rintro e w' ⟨rfl, h1, h2⟩
                exact ⟨rfl, h1, (hbr.trans (hz.mono (by omega))).trans h2⟩
              unfold ev at CB
              unfold tv at CL
              have HBA : Hid (Below wr.heap.size wr (wr.alloc (.cells #[.int .i64 (e1 : Int), .int .i64 (e2 : Int)] 106)).drew) := hbA.drew
              have x0d : (wr.alloc (.cells #[.int .i64 (e1 : Int), .int .i64 (e2 : Int)] 106)).drew.cell? ⟨wr.heap.size, 0, none⟩ = some (.int .i64 (e1 : Int)) := x0
              have x1d : (wr.alloc (.cells #[.int .i64 (e1 : Int), .int .i64 (e2 : Int)] 106)).drew.cell? ⟨wr.heap.size, 1, none⟩ = some (.int .i64 (e2 : Int)) := x1
              clear HST HSK hInew hF kk hb HIV HC HL HE hbA
              go_wp2
              refine wp_region_U (fun w' => w'.cell? ⟨wr.heap.size, 0, none⟩ = some (.int .i64 (e1 : Int)) ∧ w'.cell? ⟨wr.heap.size, 1, none⟩ = some (.int .i64 (e2 : Int))) [7] (by kernel_rfl) ?_
              intro hs0
              refine anyU_take (i := 0) (v := .pointer (some ⟨wr.heap.size, 0, none⟩)) (f := 8) rfl (by kernel_rfl) (by kernel_rfl) (by kernel_rfl) (by kernel_rfl) (fun _ _ _ h => h) hs0 ⟨x0d, x1d⟩ ⟨by rfl, ?y0⟩ ?r0
              case y0 => intro w' hw'; (try obtain ⟨y0, y1⟩ := hw'); go_simp
              case r0 =>
              intro hs1
              simp only [Act.put, List.setIfInBounds_toArray, List.set_cons_zero, List.set_cons_succ, List.getElem_toArray, List.getElem_cons_succ, List.getElem_cons_zero]
              refine anyU_take (i := 1) (v := .int .i64 (e1 : Int)) (f := 8) rfl (by kernel_rfl) (by kernel_rfl) (by kernel_rfl) (by kernel_rfl) (fun _ _ _ h => h) hs1 ⟨x0d, x1d⟩ ⟨by rfl, ?y1⟩ ?r1
              case y1 => intro w' hw'; (try obtain ⟨y0, y1⟩ := hw'); go_simp
              case r1 =>
              intro hs2
              simp only [Act.put, List.setIfInBounds_toArray, List.set_cons_zero, List.set_cons_succ, List.getElem_toArray, List.getElem_cons_succ, List.getElem_cons_zero]
              refine anyU_take (i := 2) (v := .pointer (some ⟨wr.heap.size, 1, none⟩)) (f := 8) rfl (by kernel_rfl) (by kernel_rfl) (by kernel_rfl) (by kernel_rfl) (fun _ _ _ h => h) hs2 ⟨x0d, x1d⟩ ⟨by rfl, ?y2⟩ ?r2
              case y2 => intro w' hw'; (try obtain ⟨y0, y1⟩ := hw'); go_simp
              case r2 =>
              intro hs3
              simp only [Act.put, List.setIfInBounds_toArray, List.set_cons_zero, List.set_cons_succ, List.getElem_toArray, List.getElem_cons_succ, List.getElem_cons_zero]
              refine anyU_take (i := 3) (v := .int .i64 (e2 : Int)) (f := 8) rfl (by kernel_rfl) (by kernel_rfl) (by kernel_rfl) (by kernel_rfl) (fun _ _ _ h => h) hs3 ⟨x0d, x1d⟩ ⟨by rfl, ?y3⟩ ?r3
              case y3 => intro w' hw'; (try obtain ⟨y0, y1⟩ := hw'); go_simp
              case r3 =>
              intro hs4
              simp only [Act.put, List.setIfInBounds_toArray, List.set_cons_zero, List.set_cons_succ, List.getElem_toArray, List.getElem_cons_succ, List.getElem_cons_zero]
              refine anyU_take (i := 4) (v := .agg #[.int .i64 (e1 : Int), .int .i64 (e2 : Int)]) (f := 8) rfl (by kernel_rfl) (by kernel_rfl) (by kernel_rfl) (by kernel_rfl) (fun _ _ _ h => h) hs4 ⟨x0d, x1d⟩ ⟨by rfl, ?y4⟩ ?r4
              case y4 => intro w' hw'; (try obtain ⟨y0, y1⟩ := hw'); go_simp
              case r4 =>
              intro hs5
              simp only [Act.put, List.setIfInBounds_toArray, List.set_cons_zero, List.set_cons_succ, List.getElem_toArray, List.getElem_cons_succ, List.getElem_cons_zero]
              refine anyU_one (i := 5) (by kernel_rfl) ?_
              refine wpOp_run rfl (by rfl) ?_
              go_simp
              refine (CB.out _ HBA.out).mono ?_
              rintro e w2 ⟨rfl, hb2⟩
              refine ⟨⟨cell_later hb2 x0d, cell_later hb2 x1d⟩, ?_⟩
              have HB2 : Hid (Below wr.heap.size wr w2) := below_then HBA.out hb2
              have z0 := cell_later hb2 x0d
              have z1 := cell_later hb2 x1d
              try simp only [Act.put, List.setIfInBounds_toArray, List.set_cons_zero, List.set_cons_succ, List.getElem_toArray, List.getElem_cons_succ, List.getElem_cons_zero]
              refine anyU_one (i := 6) (by kernel_rfl) ?_
              refine wpOp_run rfl (by rfl) ?_
              go_simp
              try refine ⟨⟨z0, z1⟩, ?_⟩
              refine anyU_one (i := 7) (by kernel_rfl) ?_
              refine wpOp_run rfl (by rfl) ?_
              go_simp
              refine (CL.out _ HB2.out).mono ?_
              rintro e w3 ⟨rfl, ⟨v3, hS3⟩, hb3⟩
              have HS3 : Hid (CutS w.heap.size w3 (w.heap.size + 1 + 1) b of n cap (w.heap.size + 1) (layL F L e1 e2 x 3) (layF F e1 e2 x 3) v3) := hS3
              clear hS3
              try refine ⟨fun h => (by cases h), ?_⟩
              refine anyU_end (by kernel_rfl) ?_
              go_wp2
              go_roundw
              case rel => exact ⟨i + 1, _, _, _, by go_num, HS3.out, HNEW.out, hb3⟩
              case measure => simp [intOf]; omega
            · have HI2 : Hid (FInv V n nx pv L F (i + 1)) := HSK.out u hF hu
              have hu2 : (u == -1) = false := beq_eq_false_iff_ne.2 hu
              have HCA : Hid (CutS w.heap.size (wr.alloc (.cells #[.int .i64 (e1 : Int), .int .i64 (e2 : Int)] 106)) (w.heap.size + 1 + 1) b of n cap (w.heap.size + 1) L F (.slice (some ⟨g, 0, none⟩) L.length cg)) := HC.out.later hbA
              have hbB : Below w.heap.size w (wr.alloc (.cells #[.int .i64 (e1 : Int), .int .i64 (e2 : Int)] 106)) := hbr.alloc (by omega) _
              clear HST HSK hF kk HIV HC
              go_wp2
              go_roundw
              case rel => exact ⟨i + 1, L, F, _, by go_num, HCA.out, HI2.out, hbB⟩
              case measure => simp [intOf]; omega
        · have : i = L.length := by omega
          subst this
          have hLp : 0 < L.length := by rcases HIV.out.ke _ _ (HIV.out.front.bd 0 HPOS.out) with h | h <;> exact List.length_pos_of_mem h
          obtain ⟨g, cg, rfl, _⟩ := own_edges hLp HC.out.row
          have CT : Hid (Calls Tryz.prog 71 #[.pointer (some ⟨w.heap.size + 1 + 1, 0, none⟩)] wr fun e w' => ∃ y T, e = .returned y ∧ w'.ownsRow wr.heap.size 53 3 y T.length (cells3 T) ∧ T.Pairwise lt3 ∧ (∀ i j u, (i, j, u) ∈ T ↔ F i j = some (u : Int) ∧ i < j ∧ i < u) ∧ Below wr.heap.size wr w') := triangles_any w.heap.size _ b of n cap _ L F _ wr (by omega) HC.out (fun i j u h => ⟨HIV.out.front.fa i j (by unfold KF; rw [h]; simp), HIV.out.front.fb i j (by unfold KF; rw [h]; simp)⟩) (HIV.out.some HPOS.out)
          clear HC
          go_wp2_with (go_at_call 71; refine CT.out.mono ?_; rintro e w2 ⟨y, T, rfl, ho, hp, hm, hb2⟩; have HM : Hid (∀ i j u, (i, j, u) ∈ T ↔ F i j = some (u : Int) ∧ i < j ∧ i < u) := hm; clear hm)
          go_ret
          exact ⟨y, T, F, L, rfl, own_base ho hsz, hp, HM.out, HIV.out, hbr.trans (hb2.mono hsz)⟩
end Go.Proofs.YtdkaoopkbhaheaaGreat
