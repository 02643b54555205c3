import Derived.Test.YtdkaoopkbhaheaaQN23
import Derived.Test.YtdkaoopkbhaheaaPN22
namespace Go.Proofs.Ytdkaoopkbhaheaa
open Go.RowKit Go.Lib
open Jor
open scoped Classical
set_option linter.unusedVariables false
set_option linter.unusedSimpArgs false
set_option maxRecDepth 100000 in
set_option maxHeartbeats 4000000 in
theorem counted_walk (a : Option Addr) (cap : Nat) (A : Nat → Option Addr) (C : Nat → Nat) (rs : List (List IP)) (w : World) (hcap : rs.length ≤ cap) (hcm : cap ≤ 9223372036854775807) (hn : rs.length ≤ 1048576) (hsz : (verts rs).length ≤ 1048576) (hp : RingsL w a A C rs) :
    Calls Try.prog 6 #[.slice a rs.length cap] w fun e w' => e = .returned (.bool true) ∧ Below w.heap.size w w' := by
  by_cases hz : chkP rs = 0
  · have G := good_of hz
    obtain ⟨b, of, rfl, _⟩ : ∃ b of, a = some ⟨b, of, none⟩ ∧ True := by
      rcases hp with h | ⟨b, of, rfl, _⟩
      · have := G.one; omega
      · exact ⟨b, of, rfl, trivial⟩
    have HP : Hid (RingsL w (some ⟨b, of, none⟩) A C rs) := hp
    have HG : Hid (Good rs) := G
    have hA : areaP rs = psum rs rs.length := if_pos hz
    have hb1 := G.one; have hb8 := G.eight; have hb64 := G.few; have hb0 := G.pos
    clear hp G
    have hmk := make_bools (verts rs).length hsz
    go_enter Try.func6, Try.ntmps6
    go_wp2_with (first
      | (go_at_call 27; refine (lives_any _).mono ?_; rintro e w1 ⟨rfl, hb1⟩)
      | (go_at_call 22; refine (fcheck2 _ _ _ _ _ _ hcap hcm hn hsz (Rings.later hb1 HP.out)).mono ?_; rintro e w2 ⟨rfl, hb2⟩; rw [hz]; have hb12 := below_then hb1 hb2)
      | (go_at_call 21; refine (farea2 _ _ _ _ _ _ hcap hcm hn hsz (Rings.later hb12 HP.out)).mono ?_; rintro e w3 ⟨rfl, hb3⟩; rw [hz, hA]; have hb13 := below_then hb12 hb3)
      | (go_at_call 28; refine (fnew_good _ _ _ _ _ _ _ hcap hcm hn hsz (Rings.later hb13 HP.out) hz).mono ?_; rintro e w4 ⟨bM, T, F, rfl, hM, hb4⟩; have hb14 := below_then hb13 hb4; have HM : Hid (MeshP w3.heap.size w4 rs bM T F) := hM; clear hM; have HMP : Hid (T.length = (verts rs).length + 2 * rs.length - 4 ∧ 0 < T.length ∧ (∃ S : Nat → Int, S 0 = psum rs rs.length ∧ S T.length = 0 ∧ ∀ k, k < T.length → wrap64 (S k - twiceI (pt (verts rs) (T.getD k (0, 0, 0)).1) (pt (verts rs) (T.getD k (0, 0, 0)).2.1) (pt (verts rs) (T.getD k (0, 0, 0)).2.2)) = S (k + 1) ∧ 0 < twiceI (pt (verts rs) (T.getD k (0, 0, 0)).1) (pt (verts rs) (T.getD k (0, 0, 0)).2.1) (pt (verts rs) (T.getD k (0, 0, 0)).2.2)) ∧ (∀ t ∈ T, t.1 < (verts rs).length ∧ t.2.1 < (verts rs).length ∧ t.2.2 < (verts rs).length) ∧ ∀ i, i < (verts rs).length → ∃ t ∈ T, t.1 = i ∨ t.2.1 = i ∨ t.2.2 = i) := mesh_facts HG.out HM.out; have hlen : ((T.length : Int) != ((verts rs).length : Int) + 2 * ((rs.length : Int) - 1) - 2) = false := bne_false (by have := HMP.out.1; have := HMP.out.2.1; omega))
      | (go_at_call 29; refine (kpoints_any _ _ _ _ _ _ hn (Rings.later hb14 HP.out) (fun k hk => Nat.lt_of_lt_of_le (by decide) (HG.out.three k hk)) hsz).mono ?_; rintro e w5 ⟨v, rfl, hv, hb5⟩; have hb15 := below_then hb14 hb5; obtain ⟨g, cg, rfl, hgl, hpt⟩ := points_of hb0 hv; have HPT : Hid (PtsAt w5 g 0 (verts rs).length (pt (verts rs))) := hpt; clear hv hpt)
      | (go_at_call 30; refine (ftri_any _ _ _ _ _ _ HMP.out.2.1 (by have := HMP.out.1; omega) (HM.out.later hb5)).mono ?_; rintro e w6 ⟨bT, cT, rfl, hTl, ht, hb6⟩; have hb16 := below_then hb15 hb6; have HT : Hid (TriAt w6 bT T) := ht; clear ht)
      | (go_at_call 31; refine (kgood_any _ _ _ _ _ (by have := HMP.out.1; omega) (by omega) HT.out HMP.out.2.2.2.1).mono ?_; rintro e w7 ⟨rfl, hb7⟩; have hb17 := below_then hb16 hb7))
    obtain ⟨S, hS0, hSn, hS⟩ := HMP.out.2.2.1
    have HS : Hid (∀ k, k < T.length → wrap64 (S k - twiceI (pt (verts rs) (T.getD k (0, 0, 0)).1) (pt (verts rs) (T.getD k (0, 0, 0)).2.1) (pt (verts rs) (T.getD k (0, 0, 0)).2.2)) = S (k + 1) ∧ 0 < twiceI (pt (verts rs) (T.getD k (0, 0, 0)).1) (pt (verts rs) (T.getD k (0, 0, 0)).2.1) (pt (verts rs) (T.getD k (0, 0, 0)).2.2)) := hS
    have HS0 : Hid (S 0 = psum rs rs.length) := hS0
    have HSn : Hid (S T.length = 0) := hSn
    clear hS hS0 hSn hlen hmk
    have hb8 : Below w7.heap.size w7 (w7.alloc (.cells (madeCells #[.bool false] (verts rs).length) 4)) := (Below.refl _ _).alloc (Nat.le_refl _) _
    have hm8 := Marks.made w7 (verts rs).length
    have h8 : (w7.alloc (.cells (madeCells #[.bool false] (verts rs).length) 4)).heap.size = w7.heap.size + 1 := by simp
    have HPT8 : Hid (PtsAt (w7.alloc (.cells (madeCells #[.bool false] (verts rs).length) 4)) g 0 (verts rs).length (pt (verts rs))) := PtsAt.later (below_then (below_then hb6 hb7) hb8) HPT.out
    have HT8 : Hid (TriAt (w7.alloc (.cells (madeCells #[.bool false] (verts rs).length) 4)) bT T) := TriAt.later (below_then hb7 hb8) HT.out
    have hg8 : g < w7.heap.size := Nat.lt_of_lt_of_le (pts_lt HPT.out hb0) (below_then hb6 hb7).size
    have ht8 : bT < w7.heap.size := Nat.lt_of_lt_of_le (tri_lt HT.out HMP.out.2.1) hb7.size
    have B8 := below_then hb17 hb8
    have hwC : w.heap.size ≤ w7.heap.size := hb17.size
    have hT : T.length ≤ 1048576 := by have := HMP.out.1; omega
    generalize (w7.alloc (.cells (madeCells #[.bool false] (verts rs).length) 4)) = w8 at *
    generalize w7.heap.size = bC at *
    clear hb1 hb2 hb12 hb3 hb13 hb4 hb14 hb5 hb15 hb6 hb16 hb7 hb17 hb8 HPT HT HM HP hgl hTl
    go_loopw [5, 13, 14, 15] (fun x y _ _ wr => ∃ k : Nat, k ≤ T.length ∧ x = .int .i64 (S k) ∧ y = .int .i64 k ∧ Marks wr bC (verts rs).length (fun j => ∃ i, i < k ∧ ((T.getD i (0, 0, 0)).1 = j ∨ (T.getD i (0, 0, 0)).2.1 = j ∨ (T.getD i (0, 0, 0)).2.2 = j)) ∧ Below w.heap.size w wr ∧ w8.heap.size ≤ wr.heap.size ∧ ∀ j, j < w8.heap.size → j ≠ bC → wr.heap[j]? = w8.heap[j]?) (fun _ y _ _ _ => T.length - (intOf y).toNat)
    case atStart => exact ⟨0, Nat.zero_le _, by rw [HS0.out], rfl, hm8.weak (fun j h => by obtain ⟨i, h, _⟩ := h; omega), B8, Nat.le_refl _, fun _ _ _ => rfl⟩
    case round =>
      obtain ⟨k, hk, rfl, rfl, hmk, hbr, hsr, hkr⟩ := hrel
      have HK : Hid (∀ j, j < w8.heap.size → j ≠ bC → wr.heap[j]? = w8.heap[j]?) := hkr
      clear hkr
      by_cases hlt : k < T.length
      · obtain ⟨t0, t1, t2⟩ := HT8.out k hlt
        obtain ⟨l0, l1, l2⟩ := HMP.out.2.2.2.1 _ (t3_at hlt)
        obtain ⟨s1, s2⟩ := HS.out k hlt
        have SUM : Hid (∀ j, (∃ i, i < k + 1 ∧ ((T.getD i (0, 0, 0)).1 = j ∨ (T.getD i (0, 0, 0)).2.1 = j ∨ (T.getD i (0, 0, 0)).2.2 = j)) → (∃ i, i < k ∧ ((T.getD i (0, 0, 0)).1 = j ∨ (T.getD i (0, 0, 0)).2.1 = j ∨ (T.getD i (0, 0, 0)).2.2 = j)) ∨ (T.getD k (0, 0, 0)).1 = j ∨ (T.getD k (0, 0, 0)).2.1 = j ∨ (T.getD k (0, 0, 0)).2.2 = j) := fun j ⟨i, h1, h2⟩ => by
          rcases Nat.lt_or_ge i k with h | h
          · exact .inl ⟨i, h, h2⟩
          · obtain rfl : i = k := by omega
            exact .inr h2
        have eg := HK.out bT (by omega) (by omega)
        have ep := HK.out g (by omega) (by omega)
        have r0 := (World.cell?_of_block (a := ⟨bT, k * 3, none⟩) eg).trans t0
        have r1 := (World.cell?_of_block (a := ⟨bT, k * 3 + 1, none⟩) eg).trans t1
        have r2 := (World.cell?_of_block (a := ⟨bT, k * 3 + 2, none⟩) eg).trans t2
        have k0 : (0 : Int) ≤ (k : Int) := by omega
        have kn : (k : Int) < (T.length : Int) := by omega
        clear t0 t1 t2
        generalize (T.getD k (0, 0, 0)).1 = p0 at *
        generalize (T.getD k (0, 0, 0)).2.1 = p1 at *
        generalize (T.getD k (0, 0, 0)).2.2 = p2 at *
        generalize hMk : (fun j => ∃ i, i < k ∧ ((T.getD i (0, 0, 0)).1 = j ∨ (T.getD i (0, 0, 0)).2.1 = j ∨ (T.getD i (0, 0, 0)).2.2 = j)) = Mk at hmk
        have HMk : Hid ((fun j => ∃ i, i < k ∧ ((T.getD i (0, 0, 0)).1 = j ∨ (T.getD i (0, 0, 0)).2.1 = j ∨ (T.getD i (0, 0, 0)).2.2 = j)) = Mk) := hMk
        clear hMk
        have p00 : (0 : Int) ≤ (p0 : Int) := by omega
        have p10 : (0 : Int) ≤ (p1 : Int) := by omega
        have p20 : (0 : Int) ≤ (p2 : Int) := by omega
        have p0n : (p0 : Int) < ((verts rs).length : Int) := by omega
        have p1n : (p1 : Int) < ((verts rs).length : Int) := by omega
        have p2n : (p2 : Int) < ((verts rs).length : Int) := by omega
        have q0 := HPT8.out p0 l0
        have q1 := HPT8.out p1 l1
        have q2 := HPT8.out p2 l2
        simp only [Nat.zero_add] at q0 q1 q2
        have x0 := (World.cell?_of_block (a := ⟨g, p0 * 2, none⟩) ep).trans q0.1
        have y0 := (World.cell?_of_block (a := ⟨g, p0 * 2 + 1, none⟩) ep).trans q0.2
        have x1 := (World.cell?_of_block (a := ⟨g, p1 * 2, none⟩) ep).trans q1.1
        have y1 := (World.cell?_of_block (a := ⟨g, p1 * 2 + 1, none⟩) ep).trans q1.2
        have x2 := (World.cell?_of_block (a := ⟨g, p2 * 2, none⟩) ep).trans q2.1
        have y2 := (World.cell?_of_block (a := ⟨g, p2 * 2 + 1, none⟩) ep).trans q2.2
        clear q0 q1 q2 eg ep
        have s2' : ¬ twiceI (pt (verts rs) p0) (pt (verts rs) p1) (pt (verts rs) p2) ≤ 0 := by omega
        go_wp2
        go_region_held3 (fun w' => (Below wr.heap.size wr w' ∧ wr.heap.size ≤ wr.heap.size) ∧ w'.cell? ⟨bT, k * 3, none⟩ = some (.int .i64 (p0 : Int)) ∧ w'.cell? ⟨bT, k * 3 + 1, none⟩ = some (.int .i64 (p1 : Int)) ∧ w'.cell? ⟨bT, k * 3 + 2, none⟩ = some (.int .i64 (p2 : Int)) ∧ w'.cell? ⟨g, p0 * 2, none⟩ = some (.int .i64 (pt (verts rs) p0).1) ∧ w'.cell? ⟨g, p0 * 2 + 1, none⟩ = some (.int .i64 (pt (verts rs) p0).2) ∧ w'.cell? ⟨g, p1 * 2, none⟩ = some (.int .i64 (pt (verts rs) p1).1) ∧ w'.cell? ⟨g, p1 * 2 + 1, none⟩ = some (.int .i64 (pt (verts rs) p1).2) ∧ w'.cell? ⟨g, p2 * 2, none⟩ = some (.int .i64 (pt (verts rs) p2).1) ∧ w'.cell? ⟨g, p2 * 2 + 1, none⟩ = some (.int .i64 (pt (verts rs) p2).2))
          (first | (go_split_ands; exact ⟨⟨(Below.refl _ _).drew, Nat.le_refl _⟩, cell_later (Below.refl _ _).drew (by assumption), cell_later (Below.refl _ _).drew (by assumption), cell_later (Below.refl _ _).drew (by assumption), cell_later (Below.refl _ _).drew (by assumption), cell_later (Below.refl _ _).drew (by assumption), cell_later (Below.refl _ _).drew (by assumption), cell_later (Below.refl _ _).drew (by assumption), cell_later (Below.refl _ _).drew (by assumption), cell_later (Below.refl _ _).drew (by assumption)⟩) | (go_split_ands; exact ⟨keep_below (by assumption) ⟨by assumption, by assumption⟩, cell_later (by assumption) (by assumption), cell_later (by assumption) (by assumption), cell_later (by assumption) (by assumption), cell_later (by assumption) (by assumption), cell_later (by assumption) (by assumption), cell_later (by assumption) (by assumption), cell_later (by assumption) (by assumption), cell_later (by assumption) (by assumption), cell_later (by assumption) (by assumption)⟩) | (go_split_ands; refine ⟨⟨?_, ?_⟩, ?_, ?_, ?_, ?_, ?_, ?_, ?_, ?_, ?_⟩ <;> assumption))
          (first | (go_at_call 32; refine (ktwice_any (pt (verts rs) p0) (pt (verts rs) p1) (pt (verts rs) p2) _).mono ?_; rintro e w9 ⟨rfl, hb9⟩))
        go_split_ands
        have hb9' : Below wr.heap.size wr w9 := by assumption
        have z0 : w9.cell? ⟨bT, k * 3, none⟩ = some (.int .i64 (p0 : Int)) := by assumption
        have z1 : w9.cell? ⟨bT, k * 3 + 1, none⟩ = some (.int .i64 (p1 : Int)) := by assumption
        have z2 : w9.cell? ⟨bT, k * 3 + 2, none⟩ = some (.int .i64 (p2 : Int)) := by assumption
        have HZ : Hid (w9.cell? ⟨bT, k * 3, none⟩ = some (.int .i64 (p0 : Int)) ∧ w9.cell? ⟨bT, k * 3 + 1, none⟩ = some (.int .i64 (p1 : Int)) ∧ w9.cell? ⟨bT, k * 3 + 2, none⟩ = some (.int .i64 (p2 : Int))) := ⟨z0, z1, z2⟩
        have hsz9 := hb9'.size
        have hm9 : Marks w9 bC (verts rs).length Mk := hmk.block (hb9'.block bC (by omega))
        have hB9 : Below w.heap.size w w9 := hbr.trans (hb9'.mono hbr.size)
        have HK9 : Hid (∀ j, j < w8.heap.size → j ≠ bC → w9.heap[j]? = w8.heap[j]?) := fun j h1 h2 => (hb9'.block j (by omega)).trans (HK.out j h1 h2)
        have S1 : Hid (wrap64 (S k - twiceI (pt (verts rs) p0) (pt (verts rs) p1) (pt (verts rs) p2)) = S (k + 1)) := s1
        have hs9 : w8.heap.size ≤ w9.heap.size := Nat.le_trans hsr hb9'.size
        clear x0 y0 x1 y1 x2 y2 r0 r1 r2 s1 hb9 hmk hbr hsr HK hb9' z0 z1 z2
        generalize twiceI (pt (verts rs) p0) (pt (verts rs) p1) (pt (verts rs) p2) = tw at *
        go_wp2
        rw [S1.out]
        go_loopw [15] (fun z wq => ∃ m : Nat, m ≤ 3 ∧ z = .int .i64 m ∧ Marks wq bC (verts rs).length (fun j => Mk j ∨ (0 < m ∧ p0 = j) ∨ (1 < m ∧ p1 = j) ∨ (2 < m ∧ p2 = j)) ∧ Below w.heap.size w wq ∧ w8.heap.size ≤ wq.heap.size ∧ wq.heap[bT]? = w9.heap[bT]? ∧ ∀ j, j < w8.heap.size → j ≠ bC → wq.heap[j]? = w8.heap[j]?) (fun z _ => 3 - (intOf z).toNat)
        case atStart => exact ⟨0, by omega, rfl, hm9.weak (fun j h => by rcases h with h | h | h | h; exact h; all_goals (exact absurd h.1 (by omega))), hB9, hs9, rfl, HK9.out⟩
        case round =>
          rename_i wr0
          obtain ⟨m, hm, rfl, hmq, hbq, hsq, htq, hkq⟩ := hrel
          have HK : Hid (∀ j, j < w8.heap.size → j ≠ bC → wr.heap[j]? = w8.heap[j]?) := hkq
          obtain ⟨z0, z1, z2⟩ := HZ.out
          have r0 := (World.cell?_of_block (a := ⟨bT, k * 3, none⟩) htq).trans z0
          have r1 := (World.cell?_of_block (a := ⟨bT, k * 3 + 1, none⟩) htq).trans z1
          have r2 := (World.cell?_of_block (a := ⟨bT, k * 3 + 2, none⟩) htq).trans z2
          have HTQ : Hid (wr.heap[bT]? = w9.heap[bT]?) := htq
          clear hkq z0 z1 z2 htq hm9
          have put : Hid (∀ j, j < (verts rs).length → Below w.heap.size w (wr.setCell ⟨bC, j, none⟩ (.bool true)) ∧ w8.heap.size ≤ (wr.setCell ⟨bC, j, none⟩ (.bool true)).heap.size ∧ (wr.setCell ⟨bC, j, none⟩ (.bool true)).heap[bT]? = w9.heap[bT]? ∧ ∀ i, i < w8.heap.size → i ≠ bC → (wr.setCell ⟨bC, j, none⟩ (.bool true)).heap[i]? = w8.heap[i]?) := fun j hj => ⟨hbq.setCell hwC _, by simpa using hsq, (Below.heap_setCell _ _ _ _ (Nat.ne_of_lt ht8)).trans HTQ.out, fun i h1 h2 => (Below.heap_setCell _ _ _ _ h2).trans (HK.out i h1 h2)⟩
          have HMQ : Hid (Marks wr bC (verts rs).length (fun j => Mk j ∨ (0 < m ∧ p0 = j) ∨ (1 < m ∧ p1 = j) ∨ (2 < m ∧ p2 = j))) := hmq
          rcases (show m = 0 ∨ m = 1 ∨ m = 2 ∨ m = 3 by omega) with rfl | rfl | rfl | rfl
          · obtain ⟨bq, c1, c2, _⟩ := hmq.cell l0
            clear hmq
            go_wp2
            go_roundw
            case rel =>
              refine ⟨1, by omega, by go_num, (HMQ.out.set l0).weak (fun j h => ?_), put.out p0 l0⟩
              rcases h with h | h | h | h
              · exact .inl (.inl h)
              · exact .inr h.2.symm
              · exact absurd h.1 (by omega)
              · exact absurd h.1 (by omega)
            case measure => simp [intOf]
          · obtain ⟨bq, c1, c2, _⟩ := hmq.cell l1
            clear hmq
            go_wp2
            go_roundw
            case rel =>
              refine ⟨2, by omega, by go_num, (HMQ.out.set l1).weak (fun j h => ?_), put.out p1 l1⟩
              rcases h with h | h | h | h
              · exact .inl (.inl h)
              · exact .inl (.inr (.inl ⟨by omega, h.2⟩))
              · exact .inr h.2.symm
              · exact absurd h.1 (by omega)
            case measure => simp [intOf]
          · obtain ⟨bq, c1, c2, _⟩ := hmq.cell l2
            clear hmq
            go_wp2
            go_roundw
            case rel =>
              refine ⟨3, by omega, by go_num, (HMQ.out.set l2).weak (fun j h => ?_), put.out p2 l2⟩
              rcases h with h | h | h | h
              · exact .inl (.inl h)
              · exact .inl (.inr (.inl ⟨by omega, h.2⟩))
              · exact .inl (.inr (.inr (.inl ⟨by omega, h.2⟩)))
              · exact .inr h.2.symm
            case measure => simp [intOf]
          · clear hmq
            go_wp2
            go_roundw
            case rel =>
              refine ⟨k + 1, by omega, rfl, by go_num, HMQ.out.weak (fun j h => ?_), hbq, hsq, HK.out⟩
              rcases SUM.out j h with h | h | h | h
              · exact .inl (by rw [← HMk.out]; exact h)
              · exact .inr (.inl ⟨by omega, h⟩)
              · exact .inr (.inr (.inl ⟨by omega, h⟩))
              · exact .inr (.inr (.inr ⟨by omega, h⟩))
            case measure => simp [intOf]; omega
      · have : k = T.length := by omega
        subst this
        rw [HSn.out]
        have HA : Hid (∀ j, j < (verts rs).length → wr.cell? ⟨bC, j, none⟩ = some (.bool true)) := fun j hj => by
          obtain ⟨t, ht, hc⟩ := HMP.out.2.2.2.2 j hj
          obtain ⟨i, hi, e⟩ := t3_in ht
          obtain ⟨bq, c1, _, c3⟩ := hmk.cell hj
          rw [c3 ⟨i, hi, by rw [e]; exact hc⟩] at c1
          exact c1
        clear hmk HK
        go_wp2
        go_loopw [16] (fun y wq => ∃ m : Nat, m ≤ (verts rs).length ∧ y = .int .i64 m ∧ wq = wr) (fun y _ => (verts rs).length - (intOf y).toNat)
        case atStart => exact ⟨0, by omega, rfl, rfl⟩
        case round =>
          rename_i wr0
          obtain ⟨m, hm, rfl, rfl⟩ := hrel
          by_cases hlm : m < (verts rs).length
          · have c1 := HA.out m hlm
            have m0 : (0 : Int) ≤ (m : Int) := by omega
            have mn : (m : Int) < ((verts rs).length : Int) := by omega
            go_wp2
            go_roundw
            case rel => exact ⟨m + 1, by omega, by go_num, by simp⟩
            case measure => simp [intOf]; omega
          · have : m = (verts rs).length := by omega
            subst this
            go_wp2
            go_ret
            exact ⟨by simp, hbr⟩
  · have hA : areaP rs = 0 := if_neg hz
    have hz' : (chkP rs == 0) = false := by rw [beq_eq_false_iff_ne]; exact hz
    have hz2 : (chkP rs != 0) = true := by rw [bne, hz']; rfl
    go_enter Try.func6, Try.ntmps6
    go_wp2_with (first
      | (go_at_call 27; refine (lives_any _).mono ?_; rintro e w1 ⟨rfl, hb1⟩)
      | (go_at_call 22; refine (fcheck2 _ _ _ _ _ _ hcap hcm hn hsz (Rings.later hb1 hp)).mono ?_; rintro e w2 ⟨rfl, hb2⟩; have hb12 := below_then hb1 hb2)
      | (go_at_call 21; refine (farea2 _ _ _ _ _ _ hcap hcm hn hsz (Rings.later hb12 hp)).mono ?_; rintro e w3 ⟨rfl, hb3⟩; rw [hA]; have hb13 := below_then hb12 hb3)
      | (go_at_call 28; refine (fnew_bad _ _ _ _ _ _ hcap hcm hn hsz (Rings.later hb13 hp) hz).mono ?_; rintro e w4 ⟨rfl, hb4⟩; have hb14 := below_then hb13 hb4))
    go_ret
    exact ⟨by simp, hb14⟩
end Go.Proofs.Ytdkaoopkbhaheaa
