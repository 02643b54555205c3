/- What a cut tells as numbers: how many triangles, their areas, their corners. -/
import Derived.Test.YtdkaoopkbhaheaaQN21
namespace Go.Proofs.Ytdkaoopkbhaheaa
open Go.RowKit Go.Lib
open Jor
set_option linter.unusedVariables false
set_option linter.unusedSimpArgs false

theorem sm_alone (f : Nat → Int) (n a : Nat) (ha : a < n) (h : ∀ j, j < n → j ≠ a → f j = 0) : sm f n = f a := by
  rw [sm_out f a n ha, sm_zero _ _ (fun k hk => by
    by_cases e : k = a
    · rw [if_pos e]
    · rw [if_neg e]; exact h k hk e)]
  omega

theorem lt3_irr (x : T3) : ¬ lt3 x x := by unfold lt3; omega
theorem pair_inj {T : List T3} (h : T.Pairwise lt3) {i j : Nat} (hi : i < T.length) (hj : j < T.length) (e : T.getD i (0, 0, 0) = T.getD j (0, 0, 0)) : i = j := by
  rw [getD_elem _ _ _ hi, getD_elem _ _ _ hj] at e
  rcases Nat.lt_trichotomy i j with g | g | g
  · have := List.pairwise_iff_getElem.1 h i j hi hj g
    rw [e] at this
    exact absurd this (lt3_irr _)
  · exact g
  · have := List.pairwise_iff_getElem.1 h j i hj hi g
    rw [e] at this
    exact absurd this (lt3_irr _)
theorem t3_in {T : List T3} {t : T3} (h : t ∈ T) : ∃ i, i < T.length ∧ T.getD i (0, 0, 0) = t := by
  obtain ⟨u, hu, he⟩ := List.getElem_of_mem h
  exact ⟨u, hu, by rw [getD_elem _ _ _ hu]; exact he⟩
theorem t3_at {T : List T3} {i : Nat} (h : i < T.length) : T.getD i (0, 0, 0) ∈ T := by
  rw [getD_elem _ _ _ h]; exact List.getElem_mem _

section
variable {V : Nat → IP} {n : Nat} {nx pv : Nat → Nat} {L : List (Nat × Nat)} {F : Nat → Nat → Option Int} {T : List T3}

/-- A sum over the triangles is one over the coded pairs. -/
theorem sum_list (hs : T.Pairwise lt3) (hm : ∀ i j u, (i, j, u) ∈ T ↔ F i j = some (u : Int) ∧ i < j ∧ i < u) (I : FInv V n nx pv L F L.length) (f : Nat → Nat → Nat → Int) :
    sm (fun i => f (T.getD i (0, 0, 0)).1 (T.getD i (0, 0, 0)).2.1 (T.getD i (0, 0, 0)).2.2) T.length = sm (fun c => match thF F (c / n) (c % n) with | some v => if c / n < c % n ∧ c / n < v then f (c / n) (c % n) v else 0 | none => 0) (n * n) := by
  have low : ∀ i, i < T.length → (T.getD i (0, 0, 0)).1 < n ∧ (T.getD i (0, 0, 0)).2.1 < n := fun i hi => by
    have := tri_in hm I (t3_at hi)
    exact ⟨this.1, this.2.1⟩
  have code : ∀ i, i < T.length → (T.getD i (0, 0, 0)).1 * n + (T.getD i (0, 0, 0)).2.1 < n * n ∧ ((T.getD i (0, 0, 0)).1 * n + (T.getD i (0, 0, 0)).2.1) / n = (T.getD i (0, 0, 0)).1 ∧ ((T.getD i (0, 0, 0)).1 * n + (T.getD i (0, 0, 0)).2.1) % n = (T.getD i (0, 0, 0)).2.1 := fun i hi => by
    obtain ⟨h1, h2⟩ := low i hi
    generalize (T.getD i (0, 0, 0)).1 = a at *
    generalize (T.getD i (0, 0, 0)).2.1 = b at *
    refine ⟨?_, ?_, ?_⟩
    · have : (a + 1) * n ≤ n * n := Nat.mul_le_mul_right n h1
      rw [Nat.add_mul] at this; omega
    · rw [Nat.mul_comm, Nat.mul_add_div (by omega), Nat.div_eq_of_lt h2]; rfl
    · rw [Nat.mul_comm, Nat.mul_add_mod, Nat.mod_eq_of_lt h2]
  have step : sm (fun i => f (T.getD i (0, 0, 0)).1 (T.getD i (0, 0, 0)).2.1 (T.getD i (0, 0, 0)).2.2) T.length = sm (fun i => sm (fun c => if c = (T.getD i (0, 0, 0)).1 * n + (T.getD i (0, 0, 0)).2.1 then f (T.getD i (0, 0, 0)).1 (T.getD i (0, 0, 0)).2.1 (T.getD i (0, 0, 0)).2.2 else 0) (n * n)) T.length := by
    refine sm_congr fun i hi => ?_
    rw [sm_alone _ _ _ (code i hi).1 (fun j _ hj => if_neg hj), if_pos rfl]
  rw [step, sm_comm]
  refine sm_congr fun c hc => ?_
  have val : ∀ i, i < T.length → c = (T.getD i (0, 0, 0)).1 * n + (T.getD i (0, 0, 0)).2.1 → thF F (c / n) (c % n) = some (T.getD i (0, 0, 0)).2.2 ∧ c / n = (T.getD i (0, 0, 0)).1 ∧ c % n = (T.getD i (0, 0, 0)).2.1 ∧ c / n < c % n ∧ c / n < (T.getD i (0, 0, 0)).2.2 := fun i hi e => by
    obtain ⟨_, h1, h2⟩ := code i hi
    rw [← e] at h1 h2
    have := (hm _ _ _).1 (t3_at hi)
    rw [h1, h2]
    exact ⟨thF_some this.1, rfl, rfl, this.2⟩
  by_cases q : ∃ i, i < T.length ∧ c = (T.getD i (0, 0, 0)).1 * n + (T.getD i (0, 0, 0)).2.1
  · obtain ⟨i, hi, e⟩ := q
    obtain ⟨v1, v2, v3, v4, v5⟩ := val i hi e
    rw [sm_alone _ _ i hi (fun j hj ne => if_neg (fun e2 => ne (by
      obtain ⟨u1, u2, u3, _⟩ := val j hj e2
      rw [u1] at v1
      refine pair_inj hs hj hi ?_
      refine Prod.ext (by rw [← u2, v2]) (Prod.ext (by rw [← u3, v3]) (by simpa using v1))))), if_pos e, v1]
    simp only
    rw [if_pos ⟨v4, v5⟩, v2, v3]
  · rw [sm_zero _ _ (fun i hi => if_neg (fun e => q ⟨i, hi, e⟩))]
    cases h : thF F (c / n) (c % n) with
    | none => rfl
    | some v =>
      simp only
      by_cases hl : c / n < c % n ∧ c / n < v
      · exfalso
        have hF : F (c / n) (c % n) = some (v : Int) := by
          unfold thF at h
          cases hh : F (c / n) (c % n) with
          | none => rw [hh] at h; cases h
          | some u =>
            rw [hh] at h
            simp only at h
            split at h
            · rename_i h0
              simp only [Option.some.injEq] at h
              rw [← h, Int.toNat_of_nonneg h0]
            · cases h
        obtain ⟨i, hi, e⟩ := t3_in ((hm _ _ _).2 ⟨hF, hl⟩)
        refine q ⟨i, hi, ?_⟩
        rw [e]
        simp only
        rw [Nat.mul_comm]
        exact (Nat.div_add_mod c n).symm
      · rw [if_neg hl]

theorem tri_count (hs : T.Pairwise lt3) (hm : ∀ i j u, (i, j, u) ∈ T ↔ F i j = some (u : Int) ∧ i < j ∧ i < u) (I : FInv V n nx pv L F L.length) (G : Bd (fun i => toR (V i)) n nx pv) :
    (T.length : Int) = sm (fun i => gg (toR (V i)) (toR (V (nx i)))) n + 2 * sm (fun i => wd (fun i => toR (V i)) n nx (toR (V i))) n := by
  rw [← count_front G I.front I.full]
  have h := sum_list hs hm I (fun _ _ _ => 1)
  rw [sm_const] at h
  rw [← Int.one_mul (T.length : Int), h]
  refine sm_congr fun c _ => ?_
  unfold ls
  rfl
theorem tri_area (hs : T.Pairwise lt3) (hm : ∀ i j u, (i, j, u) ∈ T ↔ F i j = some (u : Int) ∧ i < j ∧ i < u) (I : FInv V n nx pv L F L.length) (G : Bd (fun i => toR (V i)) n nx pv) :
    sm (fun i => DI (V (T.getD i (0, 0, 0)).1) (V (T.getD i (0, 0, 0)).2.1) (V (T.getD i (0, 0, 0)).2.2)) T.length = sm (fun i => crx (V i) (V (nx i))) n := by
  rw [← area_border G I.front I.full]
  exact sum_list hs hm I (fun a b c => DI (V a) (V b) (V c))
/-- A cut side has its triangle in the list, however it is turned. -/
theorem in_list (hm : ∀ i j u, (i, j, u) ∈ T ↔ F i j = some (u : Int) ∧ i < j ∧ i < u) (I : FInv V n nx pv L F L.length) {a b v : Nat} (h : thF F a b = some v) : (a, b, v) ∈ T ∨ (b, v, a) ∈ T ∨ (v, a, b) ∈ T := by
  obtain ⟨k1, k2, k3, t1, t2, _⟩ := I.front.tri _ _ _ h
  have n1 := I.front.ne _ _ k1; have n2 := I.front.ne _ _ k2; have n3 := I.front.ne _ _ k3
  have back : ∀ {x y z : Nat}, thF F x y = some z → F x y = some (z : Int) := by
    intro x y z h
    unfold thF at h
    cases hh : F x y with
    | none => rw [hh] at h; cases h
    | some u =>
      rw [hh] at h
      simp only at h
      split at h
      · rename_i h0
        simp only [Option.some.injEq] at h
        rw [← h, Int.toNat_of_nonneg h0]
      · cases h
  rcases (show (a < b ∧ a < v) ∨ (b < v ∧ b < a) ∨ (v < a ∧ v < b) by omega) with g | g | g
  · exact .inl ((hm _ _ _).2 ⟨back h, g⟩)
  · exact .inr (.inl ((hm _ _ _).2 ⟨back t1, g⟩))
  · exact .inr (.inr ((hm _ _ _).2 ⟨back t2, g⟩))
theorem tri_pos (hm : ∀ i j u, (i, j, u) ∈ T ↔ F i j = some (u : Int) ∧ i < j ∧ i < u) (I : FInv V n nx pv L F L.length) {t : T3} (h : t ∈ T) : 0 < DI (V t.1) (V t.2.1) (V t.2.2) := by
  obtain ⟨i, j, u⟩ := t
  obtain ⟨_, _, _, _, _, l, _⟩ := I.front.tri _ _ _ (thF_some ((hm _ _ _).1 h).1)
  rw [D_toR] at l
  exact (pos_toR _).1 l
end

section
variable {rs : List (List IP)} {L : List (Nat × Nat)} {F : Nat → Nat → Option Int} {T : List T3}
theorem Good.psum (g : Good rs) : ∀ k, k ≤ rs.length → psum rs k = sm (fun k => if k = 0 then (areaR (rg rs k).length (pt (rg rs k))).natAbs else -((areaR (rg rs k).length (pt (rg rs k))).natAbs : Int)) k ∧ -(281474976710656 * (k : Int)) ≤ Go.Proofs.Ytdkaoopkbhaheaa.psum rs k ∧ Go.Proofs.Ytdkaoopkbhaheaa.psum rs k ≤ 281474976710656 * (k : Int) := by
  intro k
  induction k with
  | zero => intro _; exact ⟨rfl, by simp [Go.Proofs.Ytdkaoopkbhaheaa.psum], by simp [Go.Proofs.Ytdkaoopkbhaheaa.psum]⟩
  | succ k ih =>
    intro hk
    obtain ⟨e, b1, b2⟩ := ih (by omega)
    have h8 := g.eight
    have h64 : (rg rs k).length ≤ 64 := by have := rg_le rs k; have := g.few; omega
    have hn : ∀ i, i < (rg rs k).length → nearP (pt (rg rs k) i) := fun i hi => by
      have := pt_at rs k i hi
      rw [← this.1]; exact g.near _ this.2
    obtain ⟨_, c1, c2⟩ := lsum_same (rg rs k) h64 hn _ (Nat.le_refl _)
    have hl := g.larea (k := k) (by omega)
    have hp : pabs (lsum (rg rs k) (rg rs k).length) = ((areaR (rg rs k).length (pt (rg rs k))).natAbs : Int) := by
      unfold pabs
      rw [wrap64_in _ (by omega) (by omega), hl]
      omega
    have hq : ((areaR (rg rs k).length (pt (rg rs k))).natAbs : Int) ≤ 281474976710656 := by
      rw [← hl]; omega
    rw [Go.Proofs.Ytdkaoopkbhaheaa.psum, sm, ← e]
    by_cases h0 : k = 0
    · subst h0
      rw [if_pos rfl, if_pos rfl, hp]
      refine ⟨?_, ?_, ?_⟩
      · simp [Go.Proofs.Ytdkaoopkbhaheaa.psum]
      · omega
      · omega
    · rw [if_neg h0, if_neg h0, hp, wrap64_in _ (by omega) (by omega)]
      refine ⟨by omega, by omega, by omega⟩
theorem Good.count (g : Good rs) (hs : T.Pairwise lt3) (hm : ∀ i j u, (i, j, u) ∈ T ↔ F i j = some (u : Int) ∧ i < j ∧ i < u) (I : FInv (pt (verts rs)) (verts rs).length (bnx rs) (bpv rs) L F L.length) : (T.length : Int) = (verts rs).length + 2 * (rs.length : Int) - 4 := by
  rw [tri_count hs hm I g.bd]
  have := uni_count g.rgs g.trn g.uni
  rw [off_end'] at this
  exact this
theorem Good.areas (g : Good rs) (hs : T.Pairwise lt3) (hm : ∀ i j u, (i, j, u) ∈ T ↔ F i j = some (u : Int) ∧ i < j ∧ i < u) (I : FInv (pt (verts rs)) (verts rs).length (bnx rs) (bpv rs) L F L.length) :
    sm (fun i => DI (pt (verts rs) (T.getD i (0, 0, 0)).1) (pt (verts rs) (T.getD i (0, 0, 0)).2.1) (pt (verts rs) (T.getD i (0, 0, 0)).2.2)) T.length = Go.Proofs.Ytdkaoopkbhaheaa.psum rs rs.length := by
  rw [tri_area hs hm I g.bd, (g.psum _ (Nat.le_refl _)).1]
  have := uni_area g.rgs g.trn g.uni
  rw [off_end'] at this
  exact this
theorem Good.corner (g : Good rs) (hm : ∀ i j u, (i, j, u) ∈ T ↔ F i j = some (u : Int) ∧ i < j ∧ i < u) (I : FInv (pt (verts rs)) (verts rs).length (bnx rs) (bpv rs) L F L.length) {i : Nat} (hi : i < (verts rs).length) : ∃ t ∈ T, t.1 = i ∨ t.2.1 = i ∨ t.2.2 = i := by
  obtain ⟨v, hv⟩ := I.full _ _ (I.front.bd i hi)
  rcases in_list hm I hv with h | h | h
  · exact ⟨_, h, .inl rfl⟩
  · exact ⟨_, h, .inr (.inr rfl)⟩
  · exact ⟨_, h, .inr (.inl rfl)⟩
end
end Go.Proofs.Ytdkaoopkbhaheaa

/- The package facetkeep: lives, points, good, twice. -/
namespace Go.Proofs.Ytdkaoopkbhaheaa
open Go.RowKit Go.Lib
open Jor
set_option linter.unusedVariables false
set_option linter.unusedSimpArgs false

def t3 : List IP := [(0, 0), (3, 0), (0, 3)]
theorem t3_pos (i j u : Nat) (hj : j < 3) (hu : u < 3) (h1 : i < j) (h2 : i < u) (h : 0 < DI (pt t3 i) (pt t3 j) (pt t3 u)) : i = 0 ∧ j = 1 ∧ u = 2 := by
  rcases (show (i = 0 ∧ j = 1 ∧ u = 1) ∨ (i = 0 ∧ j = 1 ∧ u = 2) ∨ (i = 0 ∧ j = 2 ∧ u = 1) ∨ (i = 0 ∧ j = 2 ∧ u = 2) ∨ (i = 1 ∧ j = 2 ∧ u = 2) by omega) with ⟨rfl, rfl, rfl⟩ | ⟨rfl, rfl, rfl⟩ | ⟨rfl, rfl, rfl⟩ | ⟨rfl, rfl, rfl⟩ | ⟨rfl, rfl, rfl⟩
  · exact absurd h (by decide +kernel)
  · exact ⟨rfl, rfl, rfl⟩
  · exact absurd h (by decide +kernel)
  · exact absurd h (by decide +kernel)
  · exact absurd h (by decide +kernel)
open scoped Classical
theorem t3_twice : ∀ i, i < 3 → ∀ j, j < i → pt t3 i ≠ pt t3 j := by decide +kernel
theorem t3_touch : ∀ i, i < 3 → ∀ j, j < i → touchE [t3] i j = false := by decide +kernel
theorem t3_near : ∀ i, i < 3 → nearB (pt t3 i).1 (pt t3 i).2 = true := by decide +kernel
theorem t3_chk : chkP [t3] = 0 := by
  refine chkP0 ?_ ?_ ?_ ?_ ?_ ?_ ?_
  · unfold Many; simp
  · refine not_short fun k hk => ?_
    obtain rfl : k = 0 := by simp at hk; omega
    decide
  · refine not_far (by decide) fun i hi => ?_
    have : i < 3 := hi
    exact t3_near i this
  · rintro ⟨i, j, hj, hi, h⟩
    exact t3_twice i hi j hj h
  · rintro ⟨i, j, hj, hi, h⟩
    rw [t3_touch i hi j hj] at h; cases h
  · rintro ⟨k, h1, h2, _⟩
    simp at h2; omega
  · rintro ⟨k, j, h1, h2, _⟩
    simp at h2; omega
theorem t3_verts : verts [t3] = t3 := by simp [verts]
theorem t3_mesh {B : Nat} {w : World} {bM : Nat} {T : List T3} {F : Nat → Nat → Option Int} (h : MeshP B w [t3] bM T F) : T = [(0, 1, 2)] := by
  obtain ⟨_, ⟨g, c', y, bl, L, h2, h3, I⟩, hs, hm⟩ := h
  have hc := (good_of t3_chk).count hs hm I
  have hl : T.length = 1 := by
    have e1 : (verts [t3]).length = 3 := by rw [t3_verts]; rfl
    have e2 : [t3].length = 1 := rfl
    rw [e1, e2] at hc
    omega
  match T, hl with
  | [t], _ =>
    have ht : t ∈ [t] := List.mem_singleton.2 rfl
    have p1 := tri_pos hm I ht
    have p2 := tri_in hm I ht
    obtain ⟨i, j, u⟩ := t
    have p3 := ((hm i j u).1 ht).2
    rw [t3_verts] at p1 p2
    obtain ⟨rfl, rfl, rfl⟩ := t3_pos i j u p2.2.1 p2.2.2 p3.1 p3.2 p1
    rfl

/-- Two triangles compared. -/
theorem run_same3 (a b c d e f : Int) (w : World) : (Op.equalIn 10000 57 (.agg #[.int .i64 a, .int .i64 b, .int .i64 c]) (.agg #[.int .i64 d, .int .i64 e, .int .i64 f])).run Try.prog w = .ok (a == d && (b == e && c == f)) w := by
  have u3 := Try.underlying3
  have a3 := Try.isAgg3
  have z3 := Try.sizeOf3
  rw [show (10000 : Nat) = 9999 + 1 from rfl, Op.equalIn]
  simp only [Sem.run_bind, run_underlying Try.underlying57, Result.andThen_ok]
  simp only [Std.Legacy.Range.forIn_eq_forIn_range', Std.Legacy.Range.size, Nat.sub_zero, Nat.add_sub_cancel, Nat.div_one, List.range'_succ, List.range'_zero, List.forIn_cons, List.forIn_nil]
  go_simp
  by_cases h1 : a = d <;> by_cases h2 : b = e <;> by_cases h3 : c = f <;> simp [h1, h2, h3]

set_option maxRecDepth 100000 in
set_option maxHeartbeats 4000000 in
theorem lives_any (w : World) : Calls Try.prog 27 #[] w fun e w' => e = .returned (.bool true) ∧ Below w.heap.size w w' := by
  have HR : Hid (RingsL ((w.alloc (.cells #[.int .i64 0, .int .i64 0, .int .i64 3, .int .i64 0, .int .i64 0, .int .i64 3] 25)).alloc (.cells #[.slice (some ⟨w.heap.size, 0, none⟩) 3 3] 50)) (some ⟨w.heap.size + 1, 0, none⟩) (fun _ => some ⟨w.heap.size, 0, none⟩) (fun _ => 3) [t3]) := by
    refine .inr ⟨_, _, rfl, fun k hk => ?_⟩
    obtain rfl : k = 0 := by simp at hk; omega
    refine ⟨by simp [go_sem]; rfl, .inr ⟨_, _, rfl, fun i hi => ?_⟩⟩
    have : i < 3 := hi
    rcases (show i = 0 ∨ i = 1 ∨ i = 2 by omega) with rfl | rfl | rfl
    all_goals (constructor <;> (simp [go_sem]; rfl))
  have hb0 : Below w.heap.size w ((w.alloc (.cells #[.int .i64 0, .int .i64 0, .int .i64 3, .int .i64 0, .int .i64 0, .int .i64 3] 25)).alloc (.cells #[.slice (some ⟨w.heap.size, 0, none⟩) 3 3] 50)) := ((Below.refl _ _).alloc (Nat.le_refl _) _).alloc (by simp) _
  have hq := run_same3 0 1 2 0 1 2
  go_enter Try.func27, Try.ntmps27
  go_wp2_with (go_at_call 28; refine (fnew_good _ _ _ _ _ [t3] _ (by decide) (by decide) (by decide) (by decide) HR.out t3_chk).mono ?_; rintro e w1 ⟨bM, T, F, rfl, hM, hb1⟩; obtain rfl := t3_mesh hM; have HM : Hid (MeshP _ w1 [t3] bM [(0, 1, 2)] F) := hM; clear hM)
  have hb2 := below_then hb0 hb1
  clear hb1 hb0 HR
  go_wp2_with (go_at_call 30; refine (ftri_any _ _ _ _ _ _ (by decide) (by decide) HM.out).mono ?_; rintro e w2 ⟨b, c2, rfl, h1, h2, h3⟩; obtain ⟨q0, q1, q2⟩ := h2 0 (by decide); simp only [List.getD_cons_zero, Nat.zero_mul, Nat.zero_add, Int.ofNat_zero, Int.natCast_zero, Int.natCast_one, Int.cast_ofNat_Int] at q0 q1 q2; clear h2)
  go_ret
  exact ⟨rfl, below_then hb2 h3⟩

def twiceI (a b c : IP) : Int := wrap64 (wrap64 (wrap64 (b.1 - a.1) * wrap64 (c.2 - a.2)) - wrap64 (wrap64 (b.2 - a.2) * wrap64 (c.1 - a.1)))
set_option maxHeartbeats 1000000 in
theorem ktwice_any (a b c : IP) (w : World) : Calls Try.prog 32 #[.agg #[.int .i64 a.1, .int .i64 a.2], .agg #[.int .i64 b.1, .int .i64 b.2], .agg #[.int .i64 c.1, .int .i64 c.2]] w fun e w' => e = .returned (.int .i64 (twiceI a b c)) ∧ Below w.heap.size w w' := by
  go_enter Try.func32, Try.ntmps32
  go_wp2
  go_ret
  exact ⟨rfl, (((Below.refl _ _).alloc (Nat.le_refl _) _).alloc (by simp) _).alloc (by simp; omega) _⟩

theorem TriAt.later {w w' : World} {b : Nat} {T : List T3} (hb : Below w.heap.size w w') (h : TriAt w b T) : TriAt w' b T := fun i hi => ⟨cell_later hb (h i hi).1, cell_later hb (h i hi).2.1, cell_later hb (h i hi).2.2⟩

set_option maxRecDepth 100000 in
set_option maxHeartbeats 4000000 in
theorem kgood_any (b c : Nat) (T : List T3) (n : Nat) (w : World) (hT : T.length ≤ 1048576) (hn : n ≤ 1048576) (ht : TriAt w b T) (hl : ∀ t ∈ T, t.1 < n ∧ t.2.1 < n ∧ t.2.2 < n) :
    Calls Try.prog 31 #[.slice (some ⟨b, 0, none⟩) T.length c, .int .i64 n] w fun e w' => e = .returned (.bool true) ∧ Below w.heap.size w w' := by
  have HT : Hid (TriAt w b T) := ht
  have HL : Hid (∀ i, i < T.length → (T.getD i (0, 0, 0)).1 < n ∧ (T.getD i (0, 0, 0)).2.1 < n ∧ (T.getD i (0, 0, 0)).2.2 < n) := fun i hi => hl _ (t3_at hi)
  clear ht hl
  go_enter Try.func31, Try.ntmps31
  go_wp2
  go_loopw [5, 6] (fun x _ wr => ∃ k : Nat, k ≤ T.length ∧ x = .int .i64 k ∧ wr = w) (fun x _ _ => T.length - (intOf x).toNat)
  case atStart => exact ⟨0, by omega, rfl, rfl⟩
  case round =>
    obtain ⟨k, hk, rfl, rfl⟩ := hrel
    by_cases hlt : k < T.length
    · obtain ⟨t0, t1, t2⟩ := HT.out k hlt
      obtain ⟨l0, l1, l2⟩ := HL.out k hlt
      have k0 : (0 : Int) ≤ (k : Int) := by omega
      have kn : (k : Int) < (T.length : Int) := by omega
      generalize (T.getD k (0, 0, 0)).1 = p0 at *
      generalize (T.getD k (0, 0, 0)).2.1 = p1 at *
      generalize (T.getD k (0, 0, 0)).2.2 = p2 at *
      go_wp2
      go_loopw [6] (fun y wq => ∃ m : Nat, m ≤ 3 ∧ y = .int .i64 m ∧ wq = wr) (fun y _ => 3 - (intOf y).toNat)
      case atStart => exact ⟨0, by omega, rfl, rfl⟩
      case round =>
        obtain ⟨m, hm, rfl, rfl⟩ := hrel
        rcases (show m = 0 ∨ m = 1 ∨ m = 2 ∨ m = 3 by omega) with rfl | rfl | rfl | rfl
        · have a1 : ¬ (p0 : Int) < 0 := by omega
          have a2 : ¬ (n : Int) ≤ p0 := by omega
          go_wp2
          go_roundw
          case rel => exact ⟨1, by omega, by go_num, by simp⟩
          case measure => simp [intOf]
        · have a1 : ¬ (p1 : Int) < 0 := by omega
          have a2 : ¬ (n : Int) ≤ p1 := by omega
          go_wp2
          go_roundw
          case rel => exact ⟨2, by omega, by go_num, by simp⟩
          case measure => simp [intOf]
        · have a1 : ¬ (p2 : Int) < 0 := by omega
          have a2 : ¬ (n : Int) ≤ p2 := by omega
          go_wp2
          go_roundw
          case rel => exact ⟨3, by omega, by go_num, by simp⟩
          case measure => simp [intOf]
        · go_wp2
          go_roundw
          case rel => exact ⟨k + 1, by omega, by go_num, by simp⟩
          case measure => simp [intOf]; omega
    · have : k = T.length := by omega
      subst this
      go_wp2
      go_ret
      exact ⟨rfl, Below.refl _ _⟩

set_option maxRecDepth 100000 in
set_option maxHeartbeats 4000000 in
theorem kpoints_any (a : Option Addr) (cap : Nat) (A : Nat → Option Addr) (C : Nat → Nat) (rs : List (List IP)) (w : World) (hn : rs.length ≤ 1048576) (hp : RingsL w a A C rs) (h3 : ∀ k, k < rs.length → 0 < (rg rs k).length) (hsz : rs.flatten.length ≤ 1048576) :
    Calls Try.prog 29 #[.slice a rs.length cap] w fun e w' => ∃ v, e = .returned v ∧ w'.ownsRow w.heap.size 25 2 v rs.flatten.length (cells2 rs.flatten) ∧ Below w.heap.size w w' := by
  obtain ⟨i0, hi, hz0, hz1, hz2⟩ := info_parts infoQ
  go_enter Try.func29, Try.ntmps29
  go_wp2
  go_loopw [3, 4] (fun v i wr => ∃ k : Nat, k ≤ rs.length ∧ i = .int .i64 k ∧ wr.ownsRow w.heap.size 25 2 v (rs.take k).flatten.length (cells2 (rs.take k).flatten) ∧ Below w.heap.size w wr) (fun _ i _ => rs.length - (intOf i).toNat)
  case atStart => exact ⟨0, Nat.zero_le _, rfl, World.ownsRow_nil _ _ _ _, Below.refl _ _⟩
  case round =>
    obtain ⟨k, hk, rfl, hown, hb⟩ := hrel
    by_cases hlt : k < rs.length
    · rcases hp with h0 | ⟨b, off, rfl, hcell⟩
      · omega
      obtain ⟨hc0, hpk⟩ := hcell k hlt
      have hc1 := cell_later hb hc0
      have hpk1 := Pts.later hb hpk
      have hpos := h3 k hlt
      have hle := take_flatten_le rs (k + 1)
      have hfl := take_flatten rs k hlt
      have hll : (rs.take (k + 1)).flatten.length = (rs.take k).flatten.length + (rg rs k).length := by rw [hfl, List.length_append]
      obtain ⟨ak, hak⟩ : ∃ ak, A k = some ak := by
        rcases hpk with h | ⟨b', off', e, _⟩
        · have h' : (rg rs k).length = 0 := h
          omega
        · exact ⟨_, e⟩
      rw [hak] at hc1 hpk1
      have hk0 : (0 : Int) ≤ (k : Int) := by omega
      have hkn : (k : Int) < (rs.length : Int) := by omega
      have HF : Hid (cells2 (rs.take (k + 1)).flatten = cells2 (rs.take k).flatten ++ cells2 (rg rs k) ∧ (rs.take (k + 1)).flatten.length = (rs.take k).flatten.length + (rg rs k).length) := ⟨by rw [hfl, cells2_append], hll⟩
      clear hfl hpk hc0
      go_wp2_with (at_builtin; refine wpList_append_own _ rfl _ _ 50 rfl w.heap.size 25 i0 _ 2 16 underSQ hi hz0 hz1 hz2 rfl (by decide) _ _ _ rfl hown ak (rg rs k).length (C k) (cells2 (rg rs k)) rfl (cells2_length _) (Pts.cells hpk1) (cells2_one _) (by unfold maxLen; omega) (by omega) hb.size ?_; intro v' w1 hown1 hgrow1 _)
      go_roundw
      case rel =>
        refine ⟨k + 1, by omega, by go_num, ?_, hb.grown hgrow1 hb.size (fun j hj => ?_)⟩
        · rw [HF.out.1, HF.out.2]; exact hown1
        · rcases hown.2 with ⟨rfl, _⟩ | ⟨g, cap', cur, rfl, hg, _⟩
          · cases hj
          · cases hj; exact hg
      case measure => simp [intOf]; omega
    · have : k = rs.length := by omega
      subst this
      rw [List.take_length] at hown
      go_wp2
      go_ret
      exact ⟨_, rfl, hown, hb⟩
end Go.Proofs.Ytdkaoopkbhaheaa
