/- The law Fan, walked. -/
import Derived.Test.YtdkaoopkbhaheaaQN34
import Derived.Test.YtdkaoopkbhaheaaQN33
import Derived.Test.YtdkaoopkbhaheaaQA5
import Derived.Deep.DeepCutAuto
namespace Go.Proofs.Ytdkaoopkbhaheaa
open Go.RowKit Go.Lib
open Jor
set_option linter.unusedVariables false
set_option linter.unusedSimpArgs false

theorem circle_one : circleW 0 0 2 0 0 2 1 1 = 1 := by decide +kernel
open scoped Classical
/-- A row of numbers. -/
def Ints (w : World) (a : Option Addr) (n : Nat) (Z : Nat → Int) : Prop := n = 0 ∨ ∃ b off, a = some ⟨b, off, none⟩ ∧ ∀ i, i < n → w.cell? ⟨b, off + i, none⟩ = some (.int .i64 (Z i)) ∧ -9223372036854775808 ≤ Z i ∧ Z i ≤ 9223372036854775807
theorem Ints.later {w1 w2 : World} {a : Option Addr} {n : Nat} {Z : Nat → Int} (hb : Below w1.heap.size w1 w2) (h : Ints w1 a n Z) : Ints w2 a n Z := by
  rcases h with h | ⟨b, off, e, h⟩
  · exact .inl h
  · exact .inr ⟨b, off, e, fun i hi => ⟨cell_later hb (h i hi).1, (h i hi).2⟩⟩
theorem pick_60 (c : Int) : ∃ j : Nat, pickI c 60 = (j : Int) ∧ j < 60 := by
  have : 0 ≤ pickI c 60 ∧ pickI c 60 < 60 := by
    unfold pickI
    split
    · rw [Int.tmod_eq_emod_of_nonneg (by omega)]; omega
    · rw [Int.tmod_eq_emod_of_nonneg (by omega)]; omega
  exact ⟨(pickI c 60).toNat, by omega, by omega⟩
/-- The points that have come. -/
structure Bends (x : Nat) (xs : List Nat) : Prop where
  up : xs.Pairwise (· < ·)
  lt : ∀ y ∈ xs, y < x
  h0 : 0 < x → 0 ∈ xs
  h1 : 1 < x → 1 ∈ xs
  h2 : 59 < x → 59 ∈ xs
theorem Bends.snoc {x : Nat} {xs : List Nat} (h : Bends x xs) : Bends (x + 1) (xs ++ [x]) where
  up := by
    rw [List.pairwise_append]
    exact ⟨h.up, List.pairwise_singleton _ _, fun a ha b hb => by rw [List.mem_singleton] at hb; subst hb; exact h.lt a ha⟩
  lt := fun y hy => by
    rw [List.mem_append, List.mem_singleton] at hy
    rcases hy with q | q
    · have := h.lt y q; omega
    · omega
  h0 := fun _ => by
    rw [List.mem_append, List.mem_singleton]
    by_cases q : 0 < x
    · exact .inl (h.h0 q)
    · exact .inr (by omega)
  h1 := fun _ => by
    rw [List.mem_append, List.mem_singleton]
    by_cases q : 1 < x
    · exact .inl (h.h1 q)
    · exact .inr (by omega)
  h2 := fun _ => by
    rw [List.mem_append, List.mem_singleton]
    by_cases q : 59 < x
    · exact .inl (h.h2 q)
    · exact .inr (by omega)
theorem Bends.skip {x : Nat} {xs : List Nat} (h : Bends x xs) (n0 : x ≠ 0) (n1 : x ≠ 1) (n2 : x ≠ 59) : Bends (x + 1) xs :=
  ⟨h.up, fun y hy => by have := h.lt y hy; omega, fun _ => h.h0 (by omega), fun _ => h.h1 (by omega), fun _ => h.h2 (by omega)⟩
theorem Bends.three {xs : List Nat} (h : Bends 60 xs) : 3 ≤ xs.length := by
  have a0 := h.h0 (by omega)
  have a1 := h.h1 (by omega)
  have a2 := h.h2 (by omega)
  match xs, a0, a1, a2 with
  | [], a0, _, _ => simp at a0
  | [u], a0, a1, _ => simp at a0 a1; omega
  | [u, v], a0, a1, a2 => simp at a0 a1 a2; omega
  | u :: v :: z :: l, _, _, _ => simp
theorem twice_bd (x : Nat) (h : x < 60) : wrap64 ((x : Int) * x) = (x : Int) * x := by
  have h1 := mul_bd (x : Int) (x : Int) 60 60 (by omega) (by omega) (by omega)
  exact wrap64_in _ (by omega) (by omega)

/-- All of the mesh that the law asks of. -/
theorem fan_facts {xs : List Nat} (h : Bends 60 xs) {B : Nat} {w : World} {bM : Nat} {T : List T3} {F : Nat → Nat → Option Int} (hM : MeshP B w [xs.map bend] bM T F) :
    (T.length = xs.length - 2 ∧ 0 < T.length) ∧ (∀ t ∈ T, t.1 < xs.length ∧ t.2.1 < xs.length ∧ t.2.2 < xs.length) ∧
    ∀ t ∈ T, ∀ k, k < xs.length → circleW (pt (xs.map bend) t.1).1 (pt (xs.map bend) t.1).2 (pt (xs.map bend) t.2.1).1 (pt (xs.map bend) t.2.1).2 (pt (xs.map bend) t.2.2).1 (pt (xs.map bend) t.2.2).2 (pt (xs.map bend) k).1 (pt (xs.map bend) k).2 ≤ 0 := by
  have h3 := h.three
  have lt : ∀ x ∈ xs, x < 60 := h.lt
  have G := good_of (bend_chk h.up lt h3)
  have hv : verts [xs.map bend] = xs.map bend := by simp [verts]
  obtain ⟨f1, f2, _, f4, _⟩ := mesh_facts G hM
  rw [hv, List.length_map] at f1 f4
  have f1' : T.length = xs.length + 2 * 1 - 4 := f1
  refine ⟨⟨by omega, f2⟩, f4, fun t ht k hk => ?_⟩
  obtain ⟨_, ⟨g, c', y, bl, L, _, _, I⟩, _, hm⟩ := hM
  rw [hv, List.length_map] at I
  have := bend_out h.up I hm ht hk
  obtain ⟨t1, t2, t3⟩ := f4 t ht
  have nr : ∀ i, i < xs.length → nearP (pt (xs.map bend) i) := fun i hi => by rw [pt_bend hi]; exact bend_near (lt _ (by rw [getD_elem _ _ _ hi]; exact List.getElem_mem _))
  rw [circleW_eq _ _ _ _ (nr _ t1) (nr _ t2) (nr _ t3) (nr _ hk), pt_bend t1, pt_bend t2, pt_bend t3, pt_bend hk, ← Int.not_lt, sgn_pos_iff]
  omega

set_option maxRecDepth 100000 in
set_option maxHeartbeats 4000000 in
theorem fan_walk (a : Option Addr) (len cap : Nat) (Z : Nat → Int) (w : World) (hl : len ≤ 9223372036854775807) (hz : Ints w a len Z) :
    Calls Try.prog 7 #[.slice a len cap] w fun e w' => e = .returned (.bool true) ∧ Below w.heap.size w w' := by
  have HZ : Hid (Ints w a len Z) := hz
  clear hz
  obtain ⟨i0, hi0, hz0, hz1, hz2⟩ := info_parts infoQ
  have hmk : ∀ W : World, (Instr.makeSlice 55 (.int .i64 60) (.int .i64 60)).run Try.prog W = .ok (.slice (some ⟨W.heap.size, 0, none⟩) 60 60) (W.alloc (.cells (madeCells #[.bool false] 60) 4)) := make_bools 60 (by omega)
  go_enter Try.func7, Try.ntmps7
  go_wp2
  have hb8 : Below w.heap.size w (w.alloc (.cells (madeCells #[.bool false] 60) 4)) := (Below.refl _ _).alloc (Nat.le_refl _) _
  have hm8 := Marks.made w 60
  have h8 : (w.alloc (.cells (madeCells #[.bool false] 60) 4)).heap.size = w.heap.size + 1 := by simp
  generalize (w.alloc (.cells (madeCells #[.bool false] 60) 4)) = w8 at *
  clear hmk
  go_loopw [4] (fun i wr => ∃ k : Nat, k ≤ len ∧ i = .int .i64 k ∧ Marks wr w.heap.size 60 (fun _ => False) ∧ Below w.heap.size w wr ∧ wr.heap.size = w.heap.size + 1) (fun i _ => len - (intOf i).toNat)
  case atStart => exact ⟨0, Nat.zero_le _, rfl, hm8, hb8, h8⟩
  case round =>
    clear hb8 hm8 h8
    obtain ⟨k, hk, rfl, hm, hb, hs⟩ := hrel
    have HM : Hid (Marks wr w.heap.size 60 (fun _ => False)) := hm
    by_cases hlt : k < len
    · rcases Ints.later hb HZ.out with h0 | ⟨b, of, rfl, hc⟩
      · omega
      obtain ⟨c1, r1, r2⟩ := hc k hlt
      obtain ⟨j, hj, hj60⟩ := pick_60 (Z k)
      have HX : Hid (∀ W, Calls Try.prog 33 #[.int .i64 (Z k), .int .i64 60] W fun e w' => e = .returned (.int .i64 (j : Int)) ∧ w' = W) := fun W => by have := pick_any (Z k) 60 W ⟨r1, r2⟩ (by omega) (by omega); rw [hj] at this; exact this
      obtain ⟨bq, c2, c3, _⟩ := hm.cell hj60
      have k0 : (0 : Int) ≤ (k : Int) := by omega
      have kn : (k : Int) < (len : Int) := by omega
      have j0 : (0 : Int) ≤ (j : Int) := by omega
      have jn : (j : Int) < 60 := by omega
      have HSET : Hid (Marks (wr.setCell ⟨w.heap.size, j, none⟩ (.bool true)) w.heap.size 60 (fun _ => False) ∧ Below w.heap.size w (wr.setCell ⟨w.heap.size, j, none⟩ (.bool true)) ∧ (wr.setCell ⟨w.heap.size, j, none⟩ (.bool true)).heap.size = w.heap.size + 1) := ⟨(hm.set hj60).weak (fun _ h => h.elim), hb.setCell (Nat.le_refl _) _, by simpa using hs⟩
      clear hm hc hj r1 r2
      go_wp2_with (first | (go_at_call 33; refine (HX.out _).mono ?_; rintro e wx ⟨rfl, rfl⟩))
      go_roundw
      case rel => exact ⟨k + 1, by omega, by go_num, HSET.out⟩
      case measure => simp [intOf]; omega
    · have : k = len := by omega
      subst this
      clear HZ
      obtain ⟨q0, c00, c01, _⟩ := hm.cell (show 0 < 60 by omega)
      have m1 := hm.set (show 0 < 60 by omega)
      obtain ⟨q1, c10, c11, _⟩ := m1.cell (show 1 < 60 by omega)
      have m2 := m1.set (show 1 < 60 by omega)
      obtain ⟨q2, c20, c21, _⟩ := m2.cell (show 59 < 60 by omega)
      have m3 := m2.set (show 59 < 60 by omega)
      have HB : Hid (Below w.heap.size w (((wr.setCell ⟨w.heap.size, 0, none⟩ (.bool true)).setCell ⟨w.heap.size, 1, none⟩ (.bool true)).setCell ⟨w.heap.size, 59, none⟩ (.bool true)) ∧ (((wr.setCell ⟨w.heap.size, 0, none⟩ (.bool true)).setCell ⟨w.heap.size, 1, none⟩ (.bool true)).setCell ⟨w.heap.size, 59, none⟩ (.bool true)).heap.size = w.heap.size + 1) := ⟨((hb.setCell (Nat.le_refl _) _).setCell (Nat.le_refl _) _).setCell (Nat.le_refl _) _, by simpa using hs⟩
      have HM3 : Hid (Marks (((wr.setCell ⟨w.heap.size, 0, none⟩ (.bool true)).setCell ⟨w.heap.size, 1, none⟩ (.bool true)).setCell ⟨w.heap.size, 59, none⟩ (.bool true)) w.heap.size 60 (fun j => j = 0 ∨ j = 1 ∨ j = 59)) := m3.weak (fun j h => by rcases h with h | h | h; exact .inl (.inl (.inr h)); exact .inl (.inr h); exact .inr h)
      clear hm m1 m2 m3 hb hs HM
      go_wp2
      clear c00 c01 c10 c11 c20 c21
      generalize (((wr.setCell ⟨w.heap.size, 0, none⟩ (.bool true)).setCell ⟨w.heap.size, 1, none⟩ (.bool true)).setCell ⟨w.heap.size, 59, none⟩ (.bool true)) = w9 at *
      obtain ⟨hb9, hs9⟩ := HB.out
      go_loopw [5, 6] (fun r x wq => ∃ (m : Nat) (xs : List Nat), m ≤ 60 ∧ x = .int .i64 m ∧ Bends m xs ∧ wq.ownsRow (w.heap.size + 1) 25 2 r xs.length (cells2 (xs.map bend)) ∧ Marks wq w.heap.size 60 (fun j => j = 0 ∨ j = 1 ∨ j = 59) ∧ Below w.heap.size w wq ∧ w.heap.size + 1 ≤ wq.heap.size) (fun _ x _ => 60 - (intOf x).toNat)
      case atStart => exact ⟨0, [], by omega, rfl, ⟨List.Pairwise.nil, fun y hy => by simp at hy, fun h => by omega, fun h => by omega, fun h => by omega⟩, World.ownsRow_nil _ _ _ _, HM3.out, hb9, by omega⟩
      case round =>
        clear HM3 HB hb9 hs9
        obtain ⟨m, xs, hm, rfl, hB, hown, hM, hbq, hsq⟩ := hrel
        by_cases hlm : m < 60
        · obtain ⟨bq, c1, _, c3⟩ := hM.cell hlm
          have m0 : (0 : Int) ≤ (m : Int) := by omega
          have mn : (m : Int) < 60 := by omega
          have htw := twice_bd m hlm
          have hxl : xs.length ≤ 60 := up_len hB.up (fun y hy => by have := hB.lt y hy; omega)
          have HO : Hid (wr.ownsRow (w.heap.size + 1) 25 2 _ xs.length (cells2 (xs.map bend))) := hown
          have HMK : Hid (Marks wr w.heap.size 60 (fun j => j = 0 ∨ j = 1 ∨ j = 59)) := hM
          have HBE : Hid (Bends m xs) := hB
          clear hown hM hB
          cases bq with
          | false =>
            go_wp2
            go_roundw
            case rel =>
              refine ⟨m + 1, xs, by omega, by go_num, HBE.out.skip (fun e => ?_) (fun e => ?_) (fun e => ?_), HO.out, HMK.out, hbq, hsq⟩
              · exact absurd (c3 (.inl e)) (by decide)
              · exact absurd (c3 (.inr (.inl e))) (by decide)
              · exact absurd (c3 (.inr (.inr e))) (by decide)
            case measure => simp [intOf]; omega
          | true =>
            have hA2 : Hid (xs.length + 1 ≤ maxLen) := by show _ ≤ _; unfold maxLen; omega
            have hsA : ∀ o : Obj, w.heap.size + 1 ≤ (wr.alloc o).heap.size := fun o => by simp; omega
            go_wp2_with (at_builtin; refine wpList_append_lies _ rfl _ _ 50 rfl (w.heap.size + 1) 25 i0 _ 2 16 underSQ hi0 hz0 hz1 hz2 rfl (by decide) _ _ _ rfl (HO.out.alloc _) ⟨_, 0, none⟩ 1 1 _ rfl rfl (World.news_of_block (heap_alloc_new _ _)) (two_one _ _) (by decide) hA2.out (by omega) (hsA _) _ rfl ?_; intro g3 cp3 w3 hown3 hgrow3 hat3 hlt3)
            have hb3 : Below w.heap.size w w3 := (hbq.alloc hbq.size _).grown hgrow3 (by simp; omega) (fun j e => by have := own_ge HO.out j e; omega)
            have hM3 : Marks w3 w.heap.size 60 (fun j => j = 0 ∨ j = 1 ∨ j = 59) := HMK.out.block (by
              rw [hgrow3.block w.heap.size (by simp; omega) (fun h => by have := own_ge HO.out _ h.symm; omega), Below.heap_alloc _ _ _ (by omega)])
            have hs3 := hgrow3.size
            go_roundw
            case rel =>
              refine ⟨m + 1, xs ++ [m], by omega, by go_num, HBE.out.snoc, ?_, hM3, hb3, by simp at hs3; omega⟩
              rw [List.length_append, List.map_append, cells2_append]
              exact hown3
            case measure => simp [intOf]; omega
        · have : m = 60 := by omega
          subst this
          have h3 := hB.three
          have hxl : xs.length ≤ 60 := up_len hB.up (fun y hy => hB.lt y hy)
          have HBE : Hid (Bends 60 xs) := hB
          have hv : verts [xs.map bend] = xs.map bend := by simp [verts]
          obtain ⟨g, cg, rfl, hgB, hpt⟩ := points_of (rs := [xs.map bend]) (by rw [hv, List.length_map]; omega) (by rw [hv, List.length_map]; exact hown)
          rw [hv, List.length_map] at hpt
          have el : (verts [xs.map bend]).length = xs.length := by rw [hv, List.length_map]
          rw [el]
          have hgl : g < wr.heap.size := pts_lt hpt (by omega)
          have hbA : Below wr.heap.size wr (wr.alloc (.cells #[.slice (some ⟨g, 0, none⟩) xs.length cg] 50)) := (Below.refl _ _).alloc (Nat.le_refl _) _
          have CN : Hid (Calls Try.prog 28 #[.slice (some ⟨wr.heap.size, 0, none⟩) 1 1] (wr.alloc (.cells #[.slice (some ⟨g, 0, none⟩) xs.length cg] 50)) fun e w' => ∃ bM T F, e = .returned (.tuple #[.pointer (some ⟨bM, 0, none⟩), .int .i64 0]) ∧ MeshP (wr.alloc (.cells #[.slice (some ⟨g, 0, none⟩) xs.length cg] 50)).heap.size w' [xs.map bend] bM T F ∧ Below (wr.alloc (.cells #[.slice (some ⟨g, 0, none⟩) xs.length cg] 50)).heap.size (wr.alloc (.cells #[.slice (some ⟨g, 0, none⟩) xs.length cg] 50)) w') :=
            fnew_good wr.heap.size 0 1 (fun _ => some ⟨g, 0, none⟩) (fun _ => cg) [xs.map bend] _ (Nat.le_refl _) (by omega) (by simp) (by rw [el]; omega) (.inr ⟨wr.heap.size, 0, rfl, fun k hk => by
              have hk' : k < 1 := hk
              obtain rfl : k = 0 := by omega
              have e : (rg [xs.map bend] 0).length = xs.length := by show (xs.map bend).length = _; rw [List.length_map]
              refine ⟨?_, .inr ⟨g, 0, rfl, fun i hi => ?_⟩⟩
              · simp only [e]; simp [go_sem]
              · have hi' : i < xs.length := by rw [← e]; exact hi
                exact ⟨cell_later hbA (hpt i hi').1, cell_later hbA (hpt i hi').2⟩⟩) (bend_chk hB.up hB.lt h3)
          have HPT : Hid (PtsAt wr g 0 xs.length (pt (xs.map bend))) := hpt
          have hbw : Below w.heap.size w (wr.alloc (.cells #[.slice (some ⟨g, 0, none⟩) xs.length cg] 50)) := hbq.alloc hbq.size _
          clear hpt hown hM hB hgB hv el
          go_upto_region 18 with (first | (go_at_call 28; refine CN.out.mono ?_; rintro e w1 ⟨bM, T, F, rfl, hM, hb1⟩; have HM : Hid (MeshP (wr.alloc (.cells #[.slice (some ⟨g, 0, none⟩) xs.length cg] 50)).heap.size w1 [xs.map bend] bM T F) := hM; clear hM))
          obtain ⟨f1, f3, f4⟩ := fan_facts HBE.out HM.out
          have F1 : Hid (T.length = xs.length - 2 ∧ 0 < T.length) := f1
          have hT60 : T.length ≤ 60 := by omega
          have F3 : Hid (∀ t ∈ T, t.1 < xs.length ∧ t.2.1 < xs.length ∧ t.2.2 < xs.length) := f3
          have F4 : Hid (∀ t ∈ T, ∀ k, k < xs.length → circleW (pt (xs.map bend) t.1).1 (pt (xs.map bend) t.1).2 (pt (xs.map bend) t.2.1).1 (pt (xs.map bend) t.2.1).2 (pt (xs.map bend) t.2.2).1 (pt (xs.map bend) t.2.2).2 (pt (xs.map bend) k).1 (pt (xs.map bend) k).2 ≤ 0) := f4
          have hlen : ((T.length : Int) != (xs.length : Int) - 2) = false := bne_false (by omega)
          clear f1 f3 f4
          go_upto_region 19 with (first | (go_at_call 30; refine (ftri_any _ _ _ T F _ F1.out.2 (by omega) HM.out).mono ?_; rintro e w2 ⟨bT, cT, rfl, hTl, ht, hb2⟩; have HT : Hid (TriAt w2 bT T) := ht; clear ht))
          go_upto_region 20 with (first | (go_at_call 31; refine (kgood_any _ _ T xs.length _ (by omega) (by omega) HT.out F3.out).mono ?_; rintro e w3 ⟨rfl, hb3⟩))
          have hb13 := below_then hb1 (below_then hb2 hb3)
          have HPT3 : Hid (PtsAt w3 g 0 xs.length (pt (xs.map bend))) := PtsAt.later (below_then hbA hb13) HPT.out
          have HT3 : Hid (TriAt w3 bT T) := TriAt.later hb3 HT.out
          have hbw3 : Below w.heap.size w w3 := hbw.trans (hb13.mono hbw.size)
          clear HPT HT hbA hb13 hb1 hb2 hb3 hTl CN HM hbw hbq
          go_wp2
          go_loopw [11, 12] (fun i _ wq => ∃ k : Nat, k ≤ T.length ∧ i = .int .i64 k ∧ Below w3.heap.size w3 wq) (fun i _ _ => T.length - (intOf i).toNat)
          case atStart => exact ⟨0, Nat.zero_le _, rfl, Below.refl _ _⟩
          case round =>
            obtain ⟨k, hk, rfl, hbk⟩ := hrel
            by_cases hlk : k < T.length
            · obtain ⟨t0, t1, t2⟩ := HT3.out k hlk
              obtain ⟨l0, l1, l2⟩ := F3.out _ (t3_at hlk)
              have F5 : Hid (∀ m, m < xs.length → circleW (pt (xs.map bend) (T.getD k (0, 0, 0)).1).1 (pt (xs.map bend) (T.getD k (0, 0, 0)).1).2 (pt (xs.map bend) (T.getD k (0, 0, 0)).2.1).1 (pt (xs.map bend) (T.getD k (0, 0, 0)).2.1).2 (pt (xs.map bend) (T.getD k (0, 0, 0)).2.2).1 (pt (xs.map bend) (T.getD k (0, 0, 0)).2.2).2 (pt (xs.map bend) m).1 (pt (xs.map bend) m).2 ≤ 0) := F4.out _ (t3_at hlk)
              have HT0 : Hid (w3.cell? ⟨bT, k * 3, none⟩ = some (.int .i64 ((T.getD k (0, 0, 0)).1 : Int)) ∧ w3.cell? ⟨bT, k * 3 + 1, none⟩ = some (.int .i64 ((T.getD k (0, 0, 0)).2.1 : Int)) ∧ w3.cell? ⟨bT, k * 3 + 2, none⟩ = some (.int .i64 ((T.getD k (0, 0, 0)).2.2 : Int))) := ⟨t0, t1, t2⟩
              clear t0 t1 t2
              have k0 : (0 : Int) ≤ (k : Int) := by omega
              have kn : (k : Int) < (T.length : Int) := by omega
              generalize (T.getD k (0, 0, 0)).1 = p0 at *
              generalize (T.getD k (0, 0, 0)).2.1 = p1 at *
              generalize (T.getD k (0, 0, 0)).2.2 = p2 at *
              have p00 : (0 : Int) ≤ (p0 : Int) := by omega
              have p10 : (0 : Int) ≤ (p1 : Int) := by omega
              have p20 : (0 : Int) ≤ (p2 : Int) := by omega
              have p0n : (p0 : Int) < (xs.length : Int) := by omega
              have p1n : (p1 : Int) < (xs.length : Int) := by omega
              have p2n : (p2 : Int) < (xs.length : Int) := by omega
              generalize wr = wk at *
              go_wp2
              go_loopw [12] (fun i wq => ∃ m : Nat, m ≤ xs.length ∧ i = .int .i64 m ∧ Below w3.heap.size w3 wq) (fun i _ => xs.length - (intOf i).toNat)
              case atStart => exact ⟨0, Nat.zero_le _, rfl, hbk⟩
              case round =>
                obtain ⟨m, hm, rfl, hbm⟩ := hrel
                by_cases hlm : m < xs.length
                · have q0 := HPT3.out p0 l0
                  have q1 := HPT3.out p1 l1
                  have q2 := HPT3.out p2 l2
                  have q3 := HPT3.out m hlm
                  have hno := F5.out m hlm
                  have hno2 := Int.not_lt.2 hno
                  simp only [Nat.zero_add] at q0 q1 q2 q3
                  have r0 := cell_later hbm HT0.out.1
                  have r1 := cell_later hbm HT0.out.2.1
                  have r2 := cell_later hbm HT0.out.2.2
                  have x0 := cell_later hbm q0.1
                  have y0 := cell_later hbm q0.2
                  have x1 := cell_later hbm q1.1
                  have y1 := cell_later hbm q1.2
                  have x2 := cell_later hbm q2.1
                  have y2 := cell_later hbm q2.2
                  have x3 := cell_later hbm q3.1
                  have y3 := cell_later hbm q3.2
                  clear q0 q1 q2 q3
                  have m0 : (0 : Int) ≤ (m : Int) := by omega
                  have mn : (m : Int) < (xs.length : Int) := by omega
                  generalize (pt (xs.map bend) p0).1 = X0 at *
                  generalize (pt (xs.map bend) p0).2 = Y0 at *
                  generalize (pt (xs.map bend) p1).1 = X1 at *
                  generalize (pt (xs.map bend) p1).2 = Y1 at *
                  generalize (pt (xs.map bend) p2).1 = X2 at *
                  generalize (pt (xs.map bend) p2).2 = Y2 at *
                  generalize (pt (xs.map bend) m).1 = X3 at *
                  generalize (pt (xs.map bend) m).2 = Y3 at *
                  go_wp2
                  go_region_held3 (fun w' => (Below wr.heap.size wr w' ∧ wr.heap.size ≤ wr.heap.size) ∧ w'.cell? ⟨bT, k * 3, none⟩ = some (.int .i64 (p0 : Int)) ∧ w'.cell? ⟨bT, k * 3 + 1, none⟩ = some (.int .i64 (p1 : Int)) ∧ w'.cell? ⟨bT, k * 3 + 2, none⟩ = some (.int .i64 (p2 : Int)) ∧ w'.cell? ⟨g, p0 * 2, none⟩ = some (.int .i64 X0) ∧ w'.cell? ⟨g, p0 * 2 + 1, none⟩ = some (.int .i64 Y0) ∧ w'.cell? ⟨g, p1 * 2, none⟩ = some (.int .i64 X1) ∧ w'.cell? ⟨g, p1 * 2 + 1, none⟩ = some (.int .i64 Y1) ∧ w'.cell? ⟨g, p2 * 2, none⟩ = some (.int .i64 X2) ∧ w'.cell? ⟨g, p2 * 2 + 1, none⟩ = some (.int .i64 Y2) ∧ w'.cell? ⟨g, m * 2, none⟩ = some (.int .i64 X3) ∧ w'.cell? ⟨g, m * 2 + 1, none⟩ = some (.int .i64 Y3))
                    (first | (go_split_ands; exact ⟨⟨(Below.refl _ _).drew, Nat.le_refl _⟩, cell_later (Below.refl _ _).drew (by assumption), cell_later (Below.refl _ _).drew (by assumption), cell_later (Below.refl _ _).drew (by assumption), cell_later (Below.refl _ _).drew (by assumption), cell_later (Below.refl _ _).drew (by assumption), cell_later (Below.refl _ _).drew (by assumption), cell_later (Below.refl _ _).drew (by assumption), cell_later (Below.refl _ _).drew (by assumption), cell_later (Below.refl _ _).drew (by assumption), cell_later (Below.refl _ _).drew (by assumption), cell_later (Below.refl _ _).drew (by assumption)⟩) | (go_split_ands; exact ⟨keep_below (by assumption) ⟨by assumption, by assumption⟩, cell_later (by assumption) (by assumption), cell_later (by assumption) (by assumption), cell_later (by assumption) (by assumption), cell_later (by assumption) (by assumption), cell_later (by assumption) (by assumption), cell_later (by assumption) (by assumption), cell_later (by assumption) (by assumption), cell_later (by assumption) (by assumption), cell_later (by assumption) (by assumption), cell_later (by assumption) (by assumption), cell_later (by assumption) (by assumption)⟩) | (go_split_ands; refine ⟨⟨?_, ?_⟩, ?_, ?_, ?_, ?_, ?_, ?_, ?_, ?_, ?_, ?_, ?_⟩ <;> assumption))
                    (first | (go_at_call 12; refine (circle_any X0 Y0 X1 Y1 X2 Y2 X3 Y3 _).mono ?_; rintro e w9 ⟨rfl, hb9⟩))
                  go_split_ands
                  have hb9' : Below wr.heap.size wr w9 := by assumption
                  clear x0 y0 x1 y1 x2 y2 x3 y3 r0 r1 r2 hb9
                  go_wp2
                  go_roundw
                  case rel => exact ⟨m + 1, by omega, by go_num, hbm.trans (hb9'.mono hbm.size)⟩
                  case measure => simp [intOf]; omega
                · have : m = xs.length := by omega
                  subst this
                  go_wp2
                  go_roundw
                  case rel => exact ⟨k + 1, by omega, by go_num, hbm⟩
                  case measure => simp [intOf]; omega
            · have : k = T.length := by omega
              subst this
              have h1 := circle_one
              go_wp2_with (first | (go_at_call 12; refine (circle_any 0 0 2 0 0 2 1 1 _).mono ?_; rintro e w9 ⟨rfl, hb9⟩; rw [h1]))
              go_ret
              exact ⟨by simp, hbw3.trans ((below_then hbk hb9).mono hbw3.size)⟩
end Go.Proofs.Ytdkaoopkbhaheaa
