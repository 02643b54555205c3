import Derived.Test.YtdkaoopkbhaheaaPN22
namespace Go.Proofs.Ytdkaoopkbhaheaa
open Go.RowKit Go.Lib
open Jor
set_option linter.unusedVariables false
set_option linter.unusedSimpArgs false
def t3 : List IP := [(0, 0), (3, 0), (0, 3)]
theorem t3_pos (i j u : Nat) (hj : j < 3) (hu : u < 3) (h1 : i < j) (h2 : i < u) (h : 0 < DI (pt t3 i) (pt t3 j) (pt t3 u)) : i = 0 ∧ j = 1 ∧ u = 2 := by
  rcases (show (i = 0 ∧ j = 1 ∧ u = 1) ∨ (i = 0 ∧ j = 1 ∧ u = 2) ∨ (i = 0 ∧ j = 2 ∧ u = 1) ∨ (i = 0 ∧ j = 2 ∧ u = 2) ∨ (i = 1 ∧ j = 2 ∧ u = 2) by omega) with ⟨rfl, rfl, rfl⟩ | ⟨rfl, rfl, rfl⟩ | ⟨rfl, rfl, rfl⟩ | ⟨rfl, rfl, rfl⟩ | ⟨rfl, rfl, rfl⟩
  · exact absurd h (by decide +kernel)
  · exact ⟨rfl, rfl, rfl⟩
  · exact absurd h (by decide +kernel)
  · exact absurd h (by decide +kernel)
  · exact absurd h (by decide +kernel)
open scoped Classical
theorem t3_twice : ∀ i, i < 3 → ∀ j, j < i → pt t3 i ≠ pt t3 j := by decide +kernel
theorem t3_touch : ∀ i, i < 3 → ∀ j, j < i → touchE [t3] i j = false := by decide +kernel
theorem t3_near : ∀ i, i < 3 → nearB (pt t3 i).1 (pt t3 i).2 = true := by decide +kernel
theorem t3_chk : chkP [t3] = 0 := by
  refine chkP0 ?_ ?_ ?_ ?_ ?_ ?_ ?_
  · unfold Many; simp
  · refine not_short fun k hk => ?_
    obtain rfl : k = 0 := by simp at hk; omega
    decide
  · refine not_far (by decide) fun i hi => ?_
    have : i < 3 := hi
    exact t3_near i this
  · rintro ⟨i, j, hj, hi, h⟩
    exact t3_twice i hi j hj h
  · rintro ⟨i, j, hj, hi, h⟩
    rw [t3_touch i hi j hj] at h; cases h
  · rintro ⟨k, h1, h2, _⟩
    simp at h2; omega
  · rintro ⟨k, j, h1, h2, _⟩
    simp at h2; omega
theorem t3_verts : verts [t3] = t3 := by simp [verts]
theorem t3_mesh {B : Nat} {w : World} {bM : Nat} {T : List T3} {F : Nat → Nat → Option Int} (h : MeshP B w [t3] bM T F) : T = [(0, 1, 2)] := by
  obtain ⟨_, ⟨g, c', y, bl, L, h2, h3, I⟩, hs, hm⟩ := h
  have hc := (good_of t3_chk).count hs hm I
  have hl : T.length = 1 := by
    have e1 : (verts [t3]).length = 3 := by rw [t3_verts]; rfl
    have e2 : [t3].length = 1 := rfl
    rw [e1, e2] at hc
    omega
  match T, hl with
  | [t], _ =>
    have ht : t ∈ [t] := List.mem_singleton.2 rfl
    have p1 := tri_pos hm I ht
    have p2 := tri_in hm I ht
    obtain ⟨i, j, u⟩ := t
    have p3 := ((hm i j u).1 ht).2
    rw [t3_verts] at p1 p2
    obtain ⟨rfl, rfl, rfl⟩ := t3_pos i j u p2.2.1 p2.2.2 p3.1 p3.2 p1
    rfl
set_option maxRecDepth 100000 in
set_option maxHeartbeats 4000000 in
theorem lives_any (w : World) : Calls Try.prog 27 #[] w fun e w' => e = .returned (.bool true) ∧ Below w.heap.size w w' := by
  have HR : Hid (RingsL ((w.alloc (.cells #[.int .i64 0, .int .i64 0, .int .i64 3, .int .i64 0, .int .i64 0, .int .i64 3] 25)).alloc (.cells #[.slice (some ⟨w.heap.size, 0, none⟩) 3 3] 50)) (some ⟨w.heap.size + 1, 0, none⟩) (fun _ => some ⟨w.heap.size, 0, none⟩) (fun _ => 3) [t3]) := by
    refine .inr ⟨_, _, rfl, fun k hk => ?_⟩
    obtain rfl : k = 0 := by simp at hk; omega
    refine ⟨by simp [go_sem]; rfl, .inr ⟨_, _, rfl, fun i hi => ?_⟩⟩
    have : i < 3 := hi
    rcases (show i = 0 ∨ i = 1 ∨ i = 2 by omega) with rfl | rfl | rfl
    all_goals (constructor <;> (simp [go_sem]; rfl))
  have hb0 : Below w.heap.size w ((w.alloc (.cells #[.int .i64 0, .int .i64 0, .int .i64 3, .int .i64 0, .int .i64 0, .int .i64 3] 25)).alloc (.cells #[.slice (some ⟨w.heap.size, 0, none⟩) 3 3] 50)) := ((Below.refl _ _).alloc (Nat.le_refl _) _).alloc (by simp) _
  have hq := run_same3 0 1 2 0 1 2
  go_enter Try.func27, Try.ntmps27
  go_wp2_with (go_at_call 28; refine (fnew_good _ _ _ _ _ [t3] _ (by decide) (by decide) (by decide) (by decide) HR.out t3_chk).mono ?_; rintro e w1 ⟨bM, T, F, rfl, hM, hb1⟩; obtain rfl := t3_mesh hM; have HM : Hid (MeshP _ w1 [t3] bM [(0, 1, 2)] F) := hM; clear hM)
  have hb2 := below_then hb0 hb1
  clear hb1 hb0 HR
  go_wp2_with (go_at_call 30; refine (ftri_any _ _ _ _ _ _ (by decide) (by decide) HM.out).mono ?_; rintro e w2 ⟨b, c2, rfl, h1, h2, h3⟩; obtain ⟨q0, q1, q2⟩ := h2 0 (by decide); simp only [List.getD_cons_zero, Nat.zero_mul, Nat.zero_add, Int.ofNat_zero, Int.natCast_zero, Int.natCast_one, Int.cast_ofNat_Int] at q0 q1 q2; clear h2)
  go_ret
  exact ⟨rfl, below_then hb2 h3⟩
set_option maxHeartbeats 1000000 in
theorem ktwice_any (a b c : IP) (w : World) : Calls Try.prog 32 #[.agg #[.int .i64 a.1, .int .i64 a.2], .agg #[.int .i64 b.1, .int .i64 b.2], .agg #[.int .i64 c.1, .int .i64 c.2]] w fun e w' => e = .returned (.int .i64 (twiceI a b c)) ∧ Below w.heap.size w w' := by
  go_enter Try.func32, Try.ntmps32
  go_wp2
  go_ret
  exact ⟨rfl, (((Below.refl _ _).alloc (Nat.le_refl _) _).alloc (by simp) _).alloc (by simp; omega) _⟩
set_option maxRecDepth 100000 in
set_option maxHeartbeats 4000000 in
theorem kgood_any (b c : Nat) (T : List T3) (n : Nat) (w : World) (hT : T.length ≤ 1048576) (hn : n ≤ 1048576) (ht : TriAt w b T) (hl : ∀ t ∈ T, t.1 < n ∧ t.2.1 < n ∧ t.2.2 < n) :
    Calls Try.prog 31 #[.slice (some ⟨b, 0, none⟩) T.length c, .int .i64 n] w fun e w' => e = .returned (.bool true) ∧ Below w.heap.size w w' := by
  have HT : Hid (TriAt w b T) := ht
  have HL : Hid (∀ i, i < T.length → (T.getD i (0, 0, 0)).1 < n ∧ (T.getD i (0, 0, 0)).2.1 < n ∧ (T.getD i (0, 0, 0)).2.2 < n) := fun i hi => hl _ (t3_at hi)
  clear ht hl
  go_enter Try.func31, Try.ntmps31
  go_wp2
  go_loopw [5, 6] (fun x _ wr => ∃ k : Nat, k ≤ T.length ∧ x = .int .i64 k ∧ wr = w) (fun x _ _ => T.length - (intOf x).toNat)
  case atStart => exact ⟨0, by omega, rfl, rfl⟩
  case round =>
    obtain ⟨k, hk, rfl, rfl⟩ := hrel
    by_cases hlt : k < T.length
    · obtain ⟨t0, t1, t2⟩ := HT.out k hlt
      obtain ⟨l0, l1, l2⟩ := HL.out k hlt
      have k0 : (0 : Int) ≤ (k : Int) := by omega
      have kn : (k : Int) < (T.length : Int) := by omega
      generalize (T.getD k (0, 0, 0)).1 = p0 at *
      generalize (T.getD k (0, 0, 0)).2.1 = p1 at *
      generalize (T.getD k (0, 0, 0)).2.2 = p2 at *
      go_wp2
      go_loopw [6] (fun y wq => ∃ m : Nat, m ≤ 3 ∧ y = .int .i64 m ∧ wq = wr) (fun y _ => 3 - (intOf y).toNat)
      case atStart => exact ⟨0, by omega, rfl, rfl⟩
      case round =>
        obtain ⟨m, hm, rfl, rfl⟩ := hrel
        rcases (show m = 0 ∨ m = 1 ∨ m = 2 ∨ m = 3 by omega) with rfl | rfl | rfl | rfl
        · have a1 : ¬ (p0 : Int) < 0 := by omega
          have a2 : ¬ (n : Int) ≤ p0 := by omega
          go_wp2
          go_roundw
          case rel => exact ⟨1, by omega, by go_num, by simp⟩
          case measure => simp [intOf]
        · have a1 : ¬ (p1 : Int) < 0 := by omega
          have a2 : ¬ (n : Int) ≤ p1 := by omega
          go_wp2
          go_roundw
          case rel => exact ⟨2, by omega, by go_num, by simp⟩
          case measure => simp [intOf]
        · have a1 : ¬ (p2 : Int) < 0 := by omega
          have a2 : ¬ (n : Int) ≤ p2 := by omega
          go_wp2
          go_roundw
          case rel => exact ⟨3, by omega, by go_num, by simp⟩
          case measure => simp [intOf]
        · go_wp2
          go_roundw
          case rel => exact ⟨k + 1, by omega, by go_num, by simp⟩
          case measure => simp [intOf]; omega
    · have : k = T.length := by omega
      subst this
      go_wp2
      go_ret
      exact ⟨rfl, Below.refl _ _⟩
set_option maxRecDepth 100000 in
set_option maxHeartbeats 4000000 in
theorem kpoints_any (a : Option Addr) (cap : Nat) (A : Nat → Option Addr) (C : Nat → Nat) (rs : List (List IP)) (w : World) (hn : rs.length ≤ 1048576) (hp : RingsL w a A C rs) (h3 : ∀ k, k < rs.length → 0 < (rg rs k).length) (hsz : rs.flatten.length ≤ 1048576) :
    Calls Try.prog 29 #[.slice a rs.length cap] w fun e w' => ∃ v, e = .returned v ∧ w'.ownsRow w.heap.size 25 2 v rs.flatten.length (cells2 rs.flatten) ∧ Below w.heap.size w w' := by
  obtain ⟨i0, hi, hz0, hz1, hz2⟩ := info_parts infoQ
  go_enter Try.func29, Try.ntmps29
  go_wp2
  go_loopw [3, 4] (fun v i wr => ∃ k : Nat, k ≤ rs.length ∧ i = .int .i64 k ∧ wr.ownsRow w.heap.size 25 2 v (rs.take k).flatten.length (cells2 (rs.take k).flatten) ∧ Below w.heap.size w wr) (fun _ i _ => rs.length - (intOf i).toNat)
  case atStart => exact ⟨0, Nat.zero_le _, rfl, World.ownsRow_nil _ _ _ _, Below.refl _ _⟩
  case round =>
    obtain ⟨k, hk, rfl, hown, hb⟩ := hrel
    by_cases hlt : k < rs.length
    · rcases hp with h0 | ⟨b, off, rfl, hcell⟩
      · omega
      obtain ⟨hc0, hpk⟩ := hcell k hlt
      have hc1 := cell_later hb hc0
      have hpk1 := Pts.later hb hpk
      have hpos := h3 k hlt
      have hle := take_flatten_le rs (k + 1)
      have hfl := take_flatten rs k hlt
      have hll : (rs.take (k + 1)).flatten.length = (rs.take k).flatten.length + (rg rs k).length := by rw [hfl, List.length_append]
      obtain ⟨ak, hak⟩ : ∃ ak, A k = some ak := by
        rcases hpk with h | ⟨b', off', e, _⟩
        · have h' : (rg rs k).length = 0 := h
          omega
        · exact ⟨_, e⟩
      rw [hak] at hc1 hpk1
      have hk0 : (0 : Int) ≤ (k : Int) := by omega
      have hkn : (k : Int) < (rs.length : Int) := by omega
      have HF : Hid (cells2 (rs.take (k + 1)).flatten = cells2 (rs.take k).flatten ++ cells2 (rg rs k) ∧ (rs.take (k + 1)).flatten.length = (rs.take k).flatten.length + (rg rs k).length) := ⟨by rw [hfl, cells2_append], hll⟩
      clear hfl hpk hc0
      go_wp2_with (at_builtin; refine wpList_append_own _ rfl _ _ 50 rfl w.heap.size 25 i0 _ 2 16 underSQ hi hz0 hz1 hz2 rfl (by decide) _ _ _ rfl hown ak (rg rs k).length (C k) (cells2 (rg rs k)) rfl (cells2_length _) (Pts.cells hpk1) (cells2_one _) (by unfold maxLen; omega) (by omega) hb.size ?_; intro v' w1 hown1 hgrow1 _)
      go_roundw
      case rel =>
        refine ⟨k + 1, by omega, by go_num, ?_, hb.grown hgrow1 hb.size (fun j hj => ?_)⟩
        · rw [HF.out.1, HF.out.2]; exact hown1
        · rcases hown.2 with ⟨rfl, _⟩ | ⟨g, cap', cur, rfl, hg, _⟩
          · cases hj
          · cases hj; exact hg
      case measure => simp [intOf]; omega
    · have : k = rs.length := by omega
      subst this
      rw [List.take_length] at hown
      go_wp2
      go_ret
      exact ⟨_, rfl, hown, hb⟩
end Go.Proofs.Ytdkaoopkbhaheaa
