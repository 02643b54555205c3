import Derived.Test.YtdkaoopkbhaheaaGreatQN20
import Derived.Test.YtdkaoopkbhaheaaGreatPF11
namespace Go.Proofs.YtdkaoopkbhaheaaGreat
open Go.RowKit Go.Lib
open Jor
open scoped Classical
set_option linter.unusedVariables false
set_option linter.unusedSimpArgs false
theorem chk_nil : chkP [] = 1 := chkP1 (by unfold Many; simp)
set_option maxRecDepth 100000 in
set_option maxHeartbeats 4000000 in
theorem pcheck_nil (a : Option Addr) (cap : Nat) (w : World) :
    Calls Tryz.prog 50 #[.slice a 0 cap] w fun e w' => e = .returned (.int .i64 1) ∧ Below w.heap.size w w' := by
  go_enter Tryz.func50, Tryz.ntmps50
  go_wp2_with (go_at_call 66; refine (tests_any _).mono ?_; rintro e w1 ⟨rfl, hT, hb1⟩)
  have HT : Hid (Table w1 w.heap.size) := hT
  clear hT
  go_loopw [4, 7] (fun _ i wr => i = .int .i64 0 ∧ wr = w1) (fun _ i _ => 7 - (intOf i).toNat)
  case atStart => exact ⟨rfl, rfl⟩
  case round =>
    obtain ⟨rfl, rfl⟩ := hrel
    obtain ⟨s, t0, t1, t2⟩ := HT.out.1
    simp only [Nat.reduceAdd] at t0 t1 t2
    have hA : Below w.heap.size w (wr.alloc (.cells #[.string s, .int .i64 1, .func (.func 77) #[] #[]] 127)) := hb1.alloc hb1.size _
    go_wp2_with (go_at_call 77; refine Calls.mono (ringsAllowed_any _ _ ([] : List (List IP)) _ (by simp)) ?_; rintro e w5 ⟨rfl, hw5⟩; rw [bl_false (fun h => h (show Many ([] : List (List IP)) by unfold Many; simp))])
    subst hw5
    go_wp2
    go_ret
    exact ⟨rfl, hA⟩
set_option maxHeartbeats 1000000 in
theorem fcheck2 (a : Option Addr) (cap : Nat) (A : Nat → Option Addr) (C : Nat → Nat) (rs : List (List IP)) (w : World) (hcap : rs.length ≤ cap) (hcm : cap ≤ 9223372036854775807) (hn : rs.length ≤ 1048576) (hsz : (verts rs).length ≤ 1048576) (hp : RingsL w a A C rs) :
    Calls Tryz.prog 34 #[.slice a rs.length cap] w fun e w' => e = .returned (.int .i64 (chkP rs)) ∧ Below w.heap.size w w' := by
  have hp0 := hp
  rcases hp with h | ⟨b, of, rfl, _⟩
  · obtain rfl : rs = [] := List.eq_nil_of_length_eq_zero h
    rw [chk_nil]
    go_enter Tryz.func34, Tryz.ntmps34
    go_wp2_with (go_at_call 50; refine (pcheck_nil _ _ _).mono ?_; rintro e w1 ⟨rfl, hb1⟩)
    go_ret
    exact ⟨rfl, hb1⟩
  · exact fcheck_any b of cap A C rs w hcap hcm hn hsz hp0
set_option maxHeartbeats 1000000 in
theorem farea2 (a : Option Addr) (cap : Nat) (A : Nat → Option Addr) (C : Nat → Nat) (rs : List (List IP)) (w : World) (hcap : rs.length ≤ cap) (hcm : cap ≤ 9223372036854775807) (hn : rs.length ≤ 1048576) (hsz : (verts rs).length ≤ 1048576) (hp : RingsL w a A C rs) :
    Calls Tryz.prog 33 #[.slice a rs.length cap] w fun e w' => e = .returned (.tuple #[.int .i64 (areaP rs), .int .i64 (chkP rs)]) ∧ Below w.heap.size w w' := by
  have hp0 := hp
  rcases hp with h | ⟨b, of, rfl, _⟩
  · obtain rfl : rs = [] := List.eq_nil_of_length_eq_zero h
    have HA : areaP [] = 0 := if_neg (by rw [chk_nil]; decide)
    rw [chk_nil, HA]
    have FC := fcheck2 a cap A C [] w hcap hcm hn hsz hp0
    rw [chk_nil] at FC
    go_enter Tryz.func33, Tryz.ntmps33
    go_wp2_with (go_at_call 34; refine Calls.mono FC ?_; rintro e w1 ⟨rfl, hb1⟩)
    go_ret2
    exact ⟨rfl, hb1⟩
  · exact farea_any b of cap A C rs w hcap hcm hn hsz hp0
set_option maxHeartbeats 1000000 in
theorem fnew_bad (a : Option Addr) (cap : Nat) (A : Nat → Option Addr) (C : Nat → Nat) (rs : List (List IP)) (w : World) (hcap : rs.length ≤ cap) (hcm : cap ≤ 9223372036854775807) (hn : rs.length ≤ 1048576) (hsz : (verts rs).length ≤ 1048576) (hp : RingsL w a A C rs) (hz : chkP rs ≠ 0) :
    Calls Tryz.prog 15 #[.slice a rs.length cap] w fun e w' => e = .returned (.tuple #[.pointer none, .int .i64 (chkP rs)]) ∧ Below w.heap.size w w' := by
  have hz' : (chkP rs == 0) = false := by rw [beq_eq_false_iff_ne]; exact hz
  go_enter Tryz.func15, Tryz.ntmps15
  go_wp2_with (go_at_call 34; refine (fcheck2 _ _ _ _ _ _ hcap hcm hn hsz hp).mono ?_; rintro e w1 ⟨rfl, hb1⟩)
  go_ret2
  exact ⟨rfl, hb1⟩
structure MeshP (base : Nat) (w : World) (rs : List (List IP)) (bM : Nat) (T : List T3) (F : Nat → Nat → Option Int) : Prop where
  bb : base ≤ bM
  at_ : ∃ g c' y bl L, w.heap[bM]? = some (.cells #[.slice (some ⟨g, 0, none⟩) (verts rs).length c', y, .map (some bl)] 84) ∧ MeshAt base w rs T (.agg #[.slice (some ⟨g, 0, none⟩) (verts rs).length c', y, .map (some bl)]) g c' y bl ∧ FInv (pt (verts rs)) (verts rs).length (bnx rs) (bpv rs) L F L.length
  sorted : T.Pairwise lt3
  mem : ∀ i j u, (i, j, u) ∈ T ↔ F i j = some (u : Int) ∧ i < j ∧ i < u
theorem MeshAt.later {base : Nat} {w w' : World} {rs : List (List IP)} {T : List T3} {mv : Value} {g c' : Nat} {y : Value} {bl : Nat} (h : MeshAt base w rs T mv g c' y bl) (hb : Below w.heap.size w w') : MeshAt base w' rs T mv g c' y bl :=
  ⟨h.val, h.gb, PtsAt.later hb h.pts, own_later h.row hb, h.lb, h.map.later hb⟩
theorem MeshAt.base {b0 base : Nat} {w : World} {rs : List (List IP)} {T : List T3} {mv : Value} {g c' : Nat} {y : Value} {bl : Nat} (h : MeshAt base w rs T mv g c' y bl) (hb : b0 ≤ base) : MeshAt b0 w rs T mv g c' y bl :=
  ⟨h.val, Nat.le_trans hb h.gb, h.pts, own_base h.row hb, Nat.le_trans hb h.lb, h.map⟩
theorem MeshP.later {base : Nat} {w w' : World} {rs : List (List IP)} {bM : Nat} {T : List T3} {F : Nat → Nat → Option Int} (h : MeshP base w rs bM T F) (hb : Below w.heap.size w w') : MeshP base w' rs bM T F := by
  obtain ⟨h1, ⟨g, c', y, bl, L, h2, h3, h4⟩, h5, h6⟩ := h
  exact ⟨h1, ⟨g, c', y, bl, L, (hb.block _ (Array.getElem?_eq_some_iff.1 h2).1).trans h2, h3.later hb, h4⟩, h5, h6⟩
set_option maxHeartbeats 1000000 in
theorem fnew_good (b of cap : Nat) (A : Nat → Option Addr) (C : Nat → Nat) (rs : List (List IP)) (w : World) (hcap : rs.length ≤ cap) (hcm : cap ≤ 9223372036854775807) (hn : rs.length ≤ 1048576) (hsz : (verts rs).length ≤ 1048576) (hp : RingsL w (some ⟨b, of, none⟩) A C rs) (hz : chkP rs = 0) :
    Calls Tryz.prog 15 #[.slice (some ⟨b, of, none⟩) rs.length cap] w fun e w' => ∃ bM T F, e = .returned (.tuple #[.pointer (some ⟨bM, 0, none⟩), .int .i64 0]) ∧ MeshP w.heap.size w' rs bM T F ∧ Below w.heap.size w w' := by
  have G := good_of hz
  have HG : Hid (Good rs) := G
  clear G
  go_enter Tryz.func15, Tryz.ntmps15
  go_wp2_with (first | (go_at_call 34; refine (fcheck_any _ _ _ _ _ _ _ hcap hcm hn hsz hp).mono ?_; rintro e w1 ⟨rfl, hb1⟩; rw [hz]) | (go_at_call 36; refine (mnew_any _ _ _ _ _ _ _ HG.out (Rings.later hb1 hp)).mono ?_; rintro e w2 ⟨mv, g, c', y, bl, T, F, L, rfl, hM, q1, q2, q3, hb2⟩; obtain rfl := hM.val))
  have hbz : Below w2.heap.size w2 (w2.alloc (.cells #[.slice (some ⟨g, 0, none⟩) (verts rs).length c', y, .map (some bl)] 84)) := (Below.refl _ _).alloc (Nat.le_refl _) _
  have hb12 := below_then hb1 hb2
  have HM2 := (hM.base hb1.size).later hbz
  go_ret2
  exact ⟨_, T, F, rfl, ⟨hb12.size, ⟨g, c', y, bl, L, heap_alloc_new _ _, HM2, q3⟩, q1, q2⟩, below_then hb12 hbz⟩
def TriAt (w : World) (b : Nat) (T : List T3) : Prop := ∀ i, i < T.length → w.cell? ⟨b, i * 3, none⟩ = some (.int .i64 ((T.getD i (0, 0, 0)).1 : Int)) ∧ w.cell? ⟨b, i * 3 + 1, none⟩ = some (.int .i64 ((T.getD i (0, 0, 0)).2.1 : Int)) ∧ w.cell? ⟨b, i * 3 + 2, none⟩ = some (.int .i64 ((T.getD i (0, 0, 0)).2.2 : Int))
theorem cells3_one (T : List T3) : ∀ u ∈ cells3 T, u.oneCell' = true := by
  intro u hu
  unfold cells3 at hu
  obtain ⟨t, _, ht⟩ := List.mem_flatMap.1 hu
  unfold enc3 at ht
  simp only [List.mem_cons, List.not_mem_nil, or_false] at ht
  rcases ht with rfl | rfl | rfl <;> rfl
set_option maxRecDepth 100000 in
set_option maxHeartbeats 1000000 in
theorem clone3_any (B : Nat) (g c : Nat) (T : List T3) (w : World) (h0 : 0 < T.length) (hT : T.length ≤ 1048576) (ho : w.ownsRow B 53 3 (.slice (some ⟨g, 0, none⟩) T.length c) T.length (cells3 T)) :
    Calls Tryz.prog 55 #[.slice (some ⟨g, 0, none⟩) T.length c] w fun e w' => ∃ b c2, e = .returned (.slice (some ⟨b, 0, none⟩) T.length c2) ∧ w.heap.size ≤ b ∧ TriAt w' b T ∧ Below w.heap.size w w' := by
  have hnil := run_eql_slice_nil (P := Tryz.prog) w 50 53 (some ⟨g, 0, none⟩) T.length c 0 0 underST
  obtain ⟨i0, hi0, hz0, hz1, hz2⟩ := info_parts infoT
  have hb0 : Below w.heap.size w (w.alloc (.cells #[] 53)) := (Below.refl _ _).alloc (Nat.le_refl _) _
  have HO : Hid ((w.alloc (.cells #[] 53)).ownsRow w.heap.size 53 3 (.slice (some ⟨w.heap.size, 0, none⟩) 0 0) 0 []) := ⟨rfl, .inr ⟨w.heap.size, 0, #[], rfl, Nat.le_refl _, heap_alloc_new _ _, Nat.le_refl _, by unfold maxLen; omega, rfl, rfl⟩⟩
  have HN : Hid (∀ j u, (cells3 T)[j]? = some u → (w.alloc (.cells #[] 53)).cell? ((⟨g, 0, none⟩ : Addr).add j) = some u) := fun j u hu => by
    have hj : j < T.length * 3 := by
      have := (List.getElem?_eq_some_iff.1 hu).1
      rwa [cells3_length] at this
    have h1 := (own_later ho hb0).cellAt j hj
    rw [hu] at h1
    rw [addr_add, Nat.zero_add]; exact h1
  simp only [Option.isNone] at hnil
  go_enter Tryz.func55, Tryz.ntmps55
  go_wp2_with (at_builtin; refine wpList_append_own _ rfl _ _ 50 rfl w.heap.size 53 i0 _ 3 24 underST hi0 hz0 hz1 hz2 rfl (by decide) _ _ _ rfl HO.out ⟨g, 0, none⟩ T.length c (cells3 T) rfl (cells3_length _) HN.out (cells3_one _) (by unfold maxLen; omega) (by omega) hb0.size ?_; intro v' w1 hown1 hgrow1 _)
  go_ret
  rw [Nat.zero_add, List.nil_append] at hown1
  have hbz : Below w.heap.size w w1 := hb0.grown hgrow1 hb0.size (fun j hj => by cases hj; exact Nat.le_refl _)
  obtain ⟨b, c2, rfl, hbb⟩ : ∃ b c2, v' = .slice (some ⟨b, 0, none⟩) T.length c2 ∧ w.heap.size ≤ b := by
    rcases hown1.2 with ⟨_, h⟩ | ⟨b, c2, _, h, h2, _⟩
    · omega
    · exact ⟨b, c2, h, h2⟩
  exact ⟨b, c2, rfl, hbb, tri_cells hown1, hbz⟩
set_option maxHeartbeats 1000000 in
theorem mtri_any (B : Nat) (g c' bl : Nat) (y : Value) (rs : List (List IP)) (T : List T3) (w : World) (h0 : 0 < T.length) (hT : T.length ≤ 1048576) (hM : MeshAt B w rs T (.agg #[.slice (some ⟨g, 0, none⟩) (verts rs).length c', y, .map (some bl)]) g c' y bl) :
    Calls Tryz.prog 37 #[.agg #[.slice (some ⟨g, 0, none⟩) (verts rs).length c', y, .map (some bl)]] w fun e w' => ∃ b c2, e = .returned (.slice (some ⟨b, 0, none⟩) T.length c2) ∧ w.heap.size ≤ b ∧ TriAt w' b T ∧ Below w.heap.size w w' := by
  have ho := hM.row
  obtain ⟨gT, cT, rfl⟩ : ∃ gT cT, y = .slice (some ⟨gT, 0, none⟩) T.length cT := by
    rcases ho.2 with ⟨_, h⟩ | ⟨b, c2, _, h, h2, _⟩
    · omega
    · exact ⟨b, c2, h⟩
  clear hM
  have hb0 : Below w.heap.size w (w.alloc (.cells #[.slice (some ⟨g, 0, none⟩) (verts rs).length c', .slice (some ⟨gT, 0, none⟩) T.length cT, .map (some bl)] 81)) := (Below.refl _ _).alloc (Nat.le_refl _) _
  have HO : Hid ((w.alloc (.cells #[.slice (some ⟨g, 0, none⟩) (verts rs).length c', .slice (some ⟨gT, 0, none⟩) T.length cT, .map (some bl)] 81)).ownsRow B 53 3 (.slice (some ⟨gT, 0, none⟩) T.length cT) T.length (cells3 T)) := own_later ho hb0
  clear ho
  go_enter Tryz.func37, Tryz.ntmps37
  go_wp2_with (go_at_call 55; refine (clone3_any B _ _ _ _ h0 hT HO.out).mono ?_; rintro e w1 ⟨b, c2, rfl, h1, h2, h3⟩)
  go_ret
  exact ⟨b, c2, rfl, Nat.le_trans hb0.size h1, h2, below_then hb0 h3⟩
set_option maxHeartbeats 1000000 in
theorem ftri_any (B : Nat) (bM : Nat) (rs : List (List IP)) (T : List T3) (F : Nat → Nat → Option Int) (w : World) (h0 : 0 < T.length) (hT : T.length ≤ 1048576) (hM : MeshP B w rs bM T F) :
    Calls Tryz.prog 16 #[.pointer (some ⟨bM, 0, none⟩)] w fun e w' => ∃ b c2, e = .returned (.slice (some ⟨b, 0, none⟩) T.length c2) ∧ w.heap.size ≤ b ∧ TriAt w' b T ∧ Below w.heap.size w w' := by
  obtain ⟨_, ⟨g, c', y, bl, L, h2, h3, h4⟩, h5, h6⟩ := hM
  have H3 : Hid (MeshAt B w rs T (.agg #[.slice (some ⟨g, 0, none⟩) (verts rs).length c', y, .map (some bl)]) g c' y bl) := h3
  clear h3 h4 h5 h6
  have c0 : w.cell? ⟨bM, 0, none⟩ = some (Value.slice (some ⟨g, 0, none⟩) (verts rs).length c') := by simp [World.cell?, h2]
  have c1 : w.cell? ⟨bM, 1, none⟩ = some y := by simp [World.cell?, h2]
  have c2 : w.cell? ⟨bM, 2, none⟩ = some (.map (some bl)) := by simp [World.cell?, h2]
  clear h2
  go_enter Tryz.func16, Tryz.ntmps16
  go_wp2_with (go_at_call 37; refine (mtri_any B _ _ _ _ _ _ _ h0 hT H3.out).mono ?_; rintro e w1 ⟨b, c2, rfl, h1, h2, h3⟩)
  go_ret
  exact ⟨b, c2, rfl, h1, h2, h3⟩
end Go.Proofs.YtdkaoopkbhaheaaGreat
