import Derived.Test.YtdkaoopkbhaheaaPN19
namespace Go.Proofs.Ytdkaoopkbhaheaa
open Go.RowKit Go.Lib
open Jor
set_option linter.unusedVariables false
set_option linter.unusedSimpArgs false
theorem sm_alone (f : Nat → Int) (n a : Nat) (ha : a < n) (h : ∀ j, j < n → j ≠ a → f j = 0) : sm f n = f a := by
  rw [sm_out f a n ha, sm_zero _ _ (fun k hk => by
    by_cases e : k = a
    · rw [if_pos e]
    · rw [if_neg e]; exact h k hk e)]
  omega
theorem lt3_irr (x : T3) : ¬ lt3 x x := by unfold lt3; omega
theorem pair_inj {T : List T3} (h : T.Pairwise lt3) {i j : Nat} (hi : i < T.length) (hj : j < T.length) (e : T.getD i (0, 0, 0) = T.getD j (0, 0, 0)) : i = j := by
  rw [getD_elem _ _ _ hi, getD_elem _ _ _ hj] at e
  rcases Nat.lt_trichotomy i j with g | g | g
  · have := List.pairwise_iff_getElem.1 h i j hi hj g
    rw [e] at this
    exact absurd this (lt3_irr _)
  · exact g
  · have := List.pairwise_iff_getElem.1 h j i hj hi g
    rw [e] at this
    exact absurd this (lt3_irr _)
theorem t3_in {T : List T3} {t : T3} (h : t ∈ T) : ∃ i, i < T.length ∧ T.getD i (0, 0, 0) = t := by
  obtain ⟨u, hu, he⟩ := List.getElem_of_mem h
  exact ⟨u, hu, by rw [getD_elem _ _ _ hu]; exact he⟩
theorem t3_at {T : List T3} {i : Nat} (h : i < T.length) : T.getD i (0, 0, 0) ∈ T := by
  rw [getD_elem _ _ _ h]; exact List.getElem_mem _
section
variable {V : Nat → IP} {n : Nat} {nx pv : Nat → Nat} {L : List (Nat × Nat)} {F : Nat → Nat → Option Int} {T : List T3}
theorem sum_list (hs : T.Pairwise lt3) (hm : ∀ i j u, (i, j, u) ∈ T ↔ F i j = some (u : Int) ∧ i < j ∧ i < u) (I : FInv V n nx pv L F L.length) (f : Nat → Nat → Nat → Int) :
    sm (fun i => f (T.getD i (0, 0, 0)).1 (T.getD i (0, 0, 0)).2.1 (T.getD i (0, 0, 0)).2.2) T.length = sm (fun c => match thF F (c / n) (c % n) with | some v => if c / n < c % n ∧ c / n < v then f (c / n) (c % n) v else 0 | none => 0) (n * n) := by
  have low : ∀ i, i < T.length → (T.getD i (0, 0, 0)).1 < n ∧ (T.getD i (0, 0, 0)).2.1 < n := fun i hi => by
    have := tri_in hm I (t3_at hi)
    exact ⟨this.1, this.2.1⟩
  have code : ∀ i, i < T.length → (T.getD i (0, 0, 0)).1 * n + (T.getD i (0, 0, 0)).2.1 < n * n ∧ ((T.getD i (0, 0, 0)).1 * n + (T.getD i (0, 0, 0)).2.1) / n = (T.getD i (0, 0, 0)).1 ∧ ((T.getD i (0, 0, 0)).1 * n + (T.getD i (0, 0, 0)).2.1) % n = (T.getD i (0, 0, 0)).2.1 := fun i hi => by
    obtain ⟨h1, h2⟩ := low i hi
    generalize (T.getD i (0, 0, 0)).1 = a at *
    generalize (T.getD i (0, 0, 0)).2.1 = b at *
    refine ⟨?_, ?_, ?_⟩
    · have : (a + 1) * n ≤ n * n := Nat.mul_le_mul_right n h1
      rw [Nat.add_mul] at this; omega
    · rw [Nat.mul_comm, Nat.mul_add_div (by omega), Nat.div_eq_of_lt h2]; rfl
    · rw [Nat.mul_comm, Nat.mul_add_mod, Nat.mod_eq_of_lt h2]
  have step : sm (fun i => f (T.getD i (0, 0, 0)).1 (T.getD i (0, 0, 0)).2.1 (T.getD i (0, 0, 0)).2.2) T.length = sm (fun i => sm (fun c => if c = (T.getD i (0, 0, 0)).1 * n + (T.getD i (0, 0, 0)).2.1 then f (T.getD i (0, 0, 0)).1 (T.getD i (0, 0, 0)).2.1 (T.getD i (0, 0, 0)).2.2 else 0) (n * n)) T.length := by
    refine sm_congr fun i hi => ?_
    rw [sm_alone _ _ _ (code i hi).1 (fun j _ hj => if_neg hj), if_pos rfl]
  rw [step, sm_comm]
  refine sm_congr fun c hc => ?_
  have val : ∀ i, i < T.length → c = (T.getD i (0, 0, 0)).1 * n + (T.getD i (0, 0, 0)).2.1 → thF F (c / n) (c % n) = some (T.getD i (0, 0, 0)).2.2 ∧ c / n = (T.getD i (0, 0, 0)).1 ∧ c % n = (T.getD i (0, 0, 0)).2.1 ∧ c / n < c % n ∧ c / n < (T.getD i (0, 0, 0)).2.2 := fun i hi e => by
    obtain ⟨_, h1, h2⟩ := code i hi
    rw [← e] at h1 h2
    have := (hm _ _ _).1 (t3_at hi)
    rw [h1, h2]
    exact ⟨thF_some this.1, rfl, rfl, this.2⟩
  by_cases q : ∃ i, i < T.length ∧ c = (T.getD i (0, 0, 0)).1 * n + (T.getD i (0, 0, 0)).2.1
  · obtain ⟨i, hi, e⟩ := q
    obtain ⟨v1, v2, v3, v4, v5⟩ := val i hi e
    rw [sm_alone _ _ i hi (fun j hj ne => if_neg (fun e2 => ne (by
      obtain ⟨u1, u2, u3, _⟩ := val j hj e2
      rw [u1] at v1
      refine pair_inj hs hj hi ?_
      refine Prod.ext (by rw [← u2, v2]) (Prod.ext (by rw [← u3, v3]) (by simpa using v1))))), if_pos e, v1]
    simp only
    rw [if_pos ⟨v4, v5⟩, v2, v3]
  · rw [sm_zero _ _ (fun i hi => if_neg (fun e => q ⟨i, hi, e⟩))]
    cases h : thF F (c / n) (c % n) with
    | none => rfl
    | some v =>
      simp only
      by_cases hl : c / n < c % n ∧ c / n < v
      · exfalso
        have hF : F (c / n) (c % n) = some (v : Int) := by
          unfold thF at h
          cases hh : F (c / n) (c % n) with
          | none => rw [hh] at h; cases h
          | some u =>
            rw [hh] at h
            simp only at h
            split at h
            · rename_i h0
              simp only [Option.some.injEq] at h
              rw [← h, Int.toNat_of_nonneg h0]
            · cases h
        obtain ⟨i, hi, e⟩ := t3_in ((hm _ _ _).2 ⟨hF, hl⟩)
        refine q ⟨i, hi, ?_⟩
        rw [e]
        simp only
        rw [Nat.mul_comm]
        exact (Nat.div_add_mod c n).symm
      · rw [if_neg hl]
theorem tri_count (hs : T.Pairwise lt3) (hm : ∀ i j u, (i, j, u) ∈ T ↔ F i j = some (u : Int) ∧ i < j ∧ i < u) (I : FInv V n nx pv L F L.length) (G : Bd (fun i => toR (V i)) n nx pv) :
    (T.length : Int) = sm (fun i => gg (toR (V i)) (toR (V (nx i)))) n + 2 * sm (fun i => wd (fun i => toR (V i)) n nx (toR (V i))) n := by
  rw [← count_front G I.front I.full]
  have h := sum_list hs hm I (fun _ _ _ => 1)
  rw [sm_const] at h
  rw [← Int.one_mul (T.length : Int), h]
  refine sm_congr fun c _ => ?_
  unfold ls
  rfl
theorem tri_area (hs : T.Pairwise lt3) (hm : ∀ i j u, (i, j, u) ∈ T ↔ F i j = some (u : Int) ∧ i < j ∧ i < u) (I : FInv V n nx pv L F L.length) (G : Bd (fun i => toR (V i)) n nx pv) :
    sm (fun i => DI (V (T.getD i (0, 0, 0)).1) (V (T.getD i (0, 0, 0)).2.1) (V (T.getD i (0, 0, 0)).2.2)) T.length = sm (fun i => crx (V i) (V (nx i))) n := by
  rw [← area_border G I.front I.full]
  exact sum_list hs hm I (fun a b c => DI (V a) (V b) (V c))
theorem in_list (hm : ∀ i j u, (i, j, u) ∈ T ↔ F i j = some (u : Int) ∧ i < j ∧ i < u) (I : FInv V n nx pv L F L.length) {a b v : Nat} (h : thF F a b = some v) : (a, b, v) ∈ T ∨ (b, v, a) ∈ T ∨ (v, a, b) ∈ T := by
  obtain ⟨k1, k2, k3, t1, t2, _⟩ := I.front.tri _ _ _ h
  have n1 := I.front.ne _ _ k1; have n2 := I.front.ne _ _ k2; have n3 := I.front.ne _ _ k3
  have back : ∀ {x y z : Nat}, thF F x y = some z → F x y = some (z : Int) := by
    intro x y z h
    unfold thF at h
    cases hh : F x y with
    | none => rw [hh] at h; cases h
    | some u =>
      rw [hh] at h
      simp only at h
      split at h
      · rename_i h0
        simp only [Option.some.injEq] at h
        rw [← h, Int.toNat_of_nonneg h0]
      · cases h
  rcases (show (a < b ∧ a < v) ∨ (b < v ∧ b < a) ∨ (v < a ∧ v < b) by omega) with g | g | g
  · exact .inl ((hm _ _ _).2 ⟨back h, g⟩)
  · exact .inr (.inl ((hm _ _ _).2 ⟨back t1, g⟩))
  · exact .inr (.inr ((hm _ _ _).2 ⟨back t2, g⟩))
theorem tri_pos (hm : ∀ i j u, (i, j, u) ∈ T ↔ F i j = some (u : Int) ∧ i < j ∧ i < u) (I : FInv V n nx pv L F L.length) {t : T3} (h : t ∈ T) : 0 < DI (V t.1) (V t.2.1) (V t.2.2) := by
  obtain ⟨i, j, u⟩ := t
  obtain ⟨_, _, _, _, _, l, _⟩ := I.front.tri _ _ _ (thF_some ((hm _ _ _).1 h).1)
  rw [D_toR] at l
  exact (pos_toR _).1 l
end
section
variable {rs : List (List IP)} {L : List (Nat × Nat)} {F : Nat → Nat → Option Int} {T : List T3}
theorem Good.psum (g : Good rs) : ∀ k, k ≤ rs.length → psum rs k = sm (fun k => if k = 0 then (areaR (rg rs k).length (pt (rg rs k))).natAbs else -((areaR (rg rs k).length (pt (rg rs k))).natAbs : Int)) k ∧ -(281474976710656 * (k : Int)) ≤ Go.Proofs.Ytdkaoopkbhaheaa.psum rs k ∧ Go.Proofs.Ytdkaoopkbhaheaa.psum rs k ≤ 281474976710656 * (k : Int) := by
  intro k
  induction k with
  | zero => intro _; exact ⟨rfl, by simp [Go.Proofs.Ytdkaoopkbhaheaa.psum], by simp [Go.Proofs.Ytdkaoopkbhaheaa.psum]⟩
  | succ k ih =>
    intro hk
    obtain ⟨e, b1, b2⟩ := ih (by omega)
    have h8 := g.eight
    have h64 : (rg rs k).length ≤ 64 := by have := rg_le rs k; have := g.few; omega
    have hn : ∀ i, i < (rg rs k).length → nearP (pt (rg rs k) i) := fun i hi => by
      have := pt_at rs k i hi
      rw [← this.1]; exact g.near _ this.2
    obtain ⟨_, c1, c2⟩ := lsum_same (rg rs k) h64 hn _ (Nat.le_refl _)
    have hl := g.larea (k := k) (by omega)
    have hp : pabs (lsum (rg rs k) (rg rs k).length) = ((areaR (rg rs k).length (pt (rg rs k))).natAbs : Int) := by
      unfold pabs
      rw [wrap64_in _ (by omega) (by omega), hl]
      omega
    have hq : ((areaR (rg rs k).length (pt (rg rs k))).natAbs : Int) ≤ 281474976710656 := by
      rw [← hl]; omega
    rw [Go.Proofs.Ytdkaoopkbhaheaa.psum, sm, ← e]
    by_cases h0 : k = 0
    · subst h0
      rw [if_pos rfl, if_pos rfl, hp]
      refine ⟨?_, ?_, ?_⟩
      · simp [Go.Proofs.Ytdkaoopkbhaheaa.psum]
      · omega
      · omega
    · rw [if_neg h0, if_neg h0, hp, wrap64_in _ (by omega) (by omega)]
      refine ⟨by omega, by omega, by omega⟩
theorem Good.count (g : Good rs) (hs : T.Pairwise lt3) (hm : ∀ i j u, (i, j, u) ∈ T ↔ F i j = some (u : Int) ∧ i < j ∧ i < u) (I : FInv (pt (verts rs)) (verts rs).length (bnx rs) (bpv rs) L F L.length) : (T.length : Int) = (verts rs).length + 2 * (rs.length : Int) - 4 := by
  rw [tri_count hs hm I g.bd]
  have := uni_count g.rgs g.trn g.uni
  rw [off_end'] at this
  exact this
theorem Good.areas (g : Good rs) (hs : T.Pairwise lt3) (hm : ∀ i j u, (i, j, u) ∈ T ↔ F i j = some (u : Int) ∧ i < j ∧ i < u) (I : FInv (pt (verts rs)) (verts rs).length (bnx rs) (bpv rs) L F L.length) :
    sm (fun i => DI (pt (verts rs) (T.getD i (0, 0, 0)).1) (pt (verts rs) (T.getD i (0, 0, 0)).2.1) (pt (verts rs) (T.getD i (0, 0, 0)).2.2)) T.length = Go.Proofs.Ytdkaoopkbhaheaa.psum rs rs.length := by
  rw [tri_area hs hm I g.bd, (g.psum _ (Nat.le_refl _)).1]
  have := uni_area g.rgs g.trn g.uni
  rw [off_end'] at this
  exact this
theorem Good.corner (g : Good rs) (hm : ∀ i j u, (i, j, u) ∈ T ↔ F i j = some (u : Int) ∧ i < j ∧ i < u) (I : FInv (pt (verts rs)) (verts rs).length (bnx rs) (bpv rs) L F L.length) {i : Nat} (hi : i < (verts rs).length) : ∃ t ∈ T, t.1 = i ∨ t.2.1 = i ∨ t.2.2 = i := by
  obtain ⟨v, hv⟩ := I.full _ _ (I.front.bd i hi)
  rcases in_list hm I hv with h | h | h
  · exact ⟨_, h, .inl rfl⟩
  · exact ⟨_, h, .inr (.inr rfl)⟩
  · exact ⟨_, h, .inr (.inl rfl)⟩
end
end Go.Proofs.Ytdkaoopkbhaheaa
namespace Go.Proofs.Ytdkaoopkbhaheaa
open Go.RowKit Go.Lib
open Jor
set_option linter.unusedVariables false
set_option linter.unusedSimpArgs false
theorem run_same3 (a b c d e f : Int) (w : World) : (Op.equalIn 10000 57 (.agg #[.int .i64 a, .int .i64 b, .int .i64 c]) (.agg #[.int .i64 d, .int .i64 e, .int .i64 f])).run Try.prog w = .ok (a == d && (b == e && c == f)) w := by
  have u3 := Try.underlying3
  have a3 := Try.isAgg3
  have z3 := Try.sizeOf3
  rw [show (10000 : Nat) = 9999 + 1 from rfl, Op.equalIn]
  simp only [Sem.run_bind, run_underlying Try.underlying57, Result.andThen_ok]
  simp only [Std.Legacy.Range.forIn_eq_forIn_range', Std.Legacy.Range.size, Nat.sub_zero, Nat.add_sub_cancel, Nat.div_one, List.range'_succ, List.range'_zero, List.forIn_cons, List.forIn_nil]
  go_simp
  by_cases h1 : a = d <;> by_cases h2 : b = e <;> by_cases h3 : c = f <;> simp [h1, h2, h3]
def twiceI (a b c : IP) : Int := wrap64 (wrap64 (wrap64 (b.1 - a.1) * wrap64 (c.2 - a.2)) - wrap64 (wrap64 (b.2 - a.2) * wrap64 (c.1 - a.1)))
theorem TriAt.later {w w' : World} {b : Nat} {T : List T3} (hb : Below w.heap.size w w') (h : TriAt w b T) : TriAt w' b T := fun i hi => ⟨cell_later hb (h i hi).1, cell_later hb (h i hi).2.1, cell_later hb (h i hi).2.2⟩
end Go.Proofs.Ytdkaoopkbhaheaa
namespace Go.Proofs.Ytdkaoopkbhaheaa
open Go.RowKit Go.Lib
open Jor
open scoped Classical
set_option linter.unusedVariables false
set_option linter.unusedSimpArgs false
theorem twice_in {a b c : IP} (ha : nearP a) (hb : nearP b) (hc : nearP c) : twiceI a b c = DI a b c ∧ -(17592186044416 : Int) ≤ DI a b c ∧ DI a b c ≤ 17592186044416 := by
  have n1 := near_bd ha; have n2 := near_bd hb; have n3 := near_bd hc
  have m1 := mul_bd (b.1 - a.1) (c.2 - a.2) 2097152 2097152 (by omega) (by omega) (by omega)
  have m2 := mul_bd (b.2 - a.2) (c.1 - a.1) 2097152 2097152 (by omega) (by omega) (by omega)
  have e : DI a b c = (b.1 - a.1) * (c.2 - a.2) - (b.2 - a.2) * (c.1 - a.1) := by
    unfold DI Geo.D
    grind
  unfold twiceI
  rw [wrap64_in (b.1 - a.1) (by omega) (by omega), wrap64_in (c.2 - a.2) (by omega) (by omega), wrap64_in (b.2 - a.2) (by omega) (by omega), wrap64_in (c.1 - a.1) (by omega) (by omega), wrap64_in ((b.1 - a.1) * _) (by omega) (by omega), wrap64_in ((b.2 - a.2) * _) (by omega) (by omega), wrap64_in _ (by omega) (by omega), e]
  refine ⟨rfl, ?_, ?_⟩ <;> omega
theorem bne_false {a b : Int} (h : a = b) : (a != b) = false := by subst h; simp
def Marks (w : World) (bC N : Nat) (S : Nat → Prop) : Prop := ∃ cur, w.heap[bC]? = some (.cells cur 4 (0, 0)) ∧ cur.size = N ∧ ∀ j, j < N → ∃ b, cur[j]? = some (.bool b) ∧ (S j → b = true)
theorem Marks.block {w w' : World} {bC N : Nat} {S : Nat → Prop} (h : Marks w bC N S) (e : w'.heap[bC]? = w.heap[bC]?) : Marks w' bC N S := by
  obtain ⟨cur, h1, h2⟩ := h
  exact ⟨cur, e.trans h1, h2⟩
theorem Marks.cell {w : World} {bC N : Nat} {S : Nat → Prop} (h : Marks w bC N S) {j : Nat} (hj : j < N) : ∃ b, w.cell? ⟨bC, j, none⟩ = some (.bool b) ∧ w.frozen? ⟨bC, j, none⟩ = false ∧ (S j → b = true) := by
  obtain ⟨cur, h1, h2, h3⟩ := h
  obtain ⟨b, e1, e2⟩ := h3 j hj
  exact ⟨b, by simp [World.cell?, h1, e1], by simp [World.frozen?, h1], e2⟩
theorem Marks.weak {w : World} {bC N : Nat} {S S' : Nat → Prop} (h : Marks w bC N S) (hs : ∀ j, S' j → S j) : Marks w bC N S' := by
  obtain ⟨cur, h1, h2, h3⟩ := h
  refine ⟨cur, h1, h2, fun j hj => ?_⟩
  obtain ⟨b, e1, e2⟩ := h3 j hj
  exact ⟨b, e1, fun h => e2 (hs j h)⟩
theorem Marks.set {w : World} {bC N : Nat} {S : Nat → Prop} (h : Marks w bC N S) {j : Nat} (hj : j < N) : Marks (w.setCell ⟨bC, j, none⟩ (.bool true)) bC N (fun i => S i ∨ i = j) := by
  obtain ⟨cur, h1, h2, h3⟩ := h
  refine ⟨cur.setIfInBounds j (.bool true), by simp [World.setCell, Array.getElem?_modify, h1], by simpa using h2, fun i hi => ?_⟩
  obtain ⟨b, e1, e2⟩ := h3 i hi
  by_cases e : i = j
  · subst e
    exact ⟨true, by simp [Array.getElem?_setIfInBounds, h2, hi], fun _ => rfl⟩
  · refine ⟨b, by rw [Array.getElem?_setIfInBounds_ne (fun h => e h.symm)]; exact e1, fun h => ?_⟩
    rcases h with h | h
    · exact e2 h
    · exact absurd h e
theorem Marks.made (w : World) (N : Nat) : Marks (w.alloc (.cells (madeCells #[.bool false] N) 4)) w.heap.size N (fun _ => False) := by
  refine ⟨_, heap_alloc_new _ _, size_madeCells _ _, fun j hj => ⟨false, ?_, fun h => h.elim⟩⟩
  simp [madeCells, hj, Nat.mod_one]
theorem underB : Try.prog.underlying 55 = some (.slice 4) := by kernel_rfl
theorem infoB : (Try.prog.info? 4).map (fun i => (i.zero, i.size, i.bytes)) = some (some (.bool false), 1, 1) := by kernel_rfl
theorem make_bools (N : Nat) (h : N ≤ 1048576) (W : World) : (Instr.makeSlice 55 (.int .i64 (N : Int)) (.int .i64 (N : Int))).run Try.prog W = .ok (.slice (some ⟨W.heap.size, 0, none⟩) N N) (W.alloc (.cells (madeCells #[.bool false] N) 4)) := by
  obtain ⟨i0, hi, hz0, hz1, hz2⟩ := info_parts infoB
  have := run_make (P := Try.prog) W 55 4 i0 (.bool false) underB hi hz0 .i64 .i64 N N (by omega) (by omega) (by rw [hz2]; omega) (by omega)
  rw [hz1, Int.toNat_natCast, Nat.mul_one] at this
  exact this
theorem left_areas {rs : List (List IP)} (G : Good rs) {L : List (Nat × Nat)} {F : Nat → Nat → Option Int} {T : List T3} (hs : T.Pairwise lt3) (hm : ∀ i j u, (i, j, u) ∈ T ↔ F i j = some (u : Int) ∧ i < j ∧ i < u) (I : FInv (pt (verts rs)) (verts rs).length (bnx rs) (bpv rs) L F L.length) :
    ∃ S : Nat → Int, S 0 = psum rs rs.length ∧ S T.length = 0 ∧ ∀ k, k < T.length → wrap64 (S k - twiceI (pt (verts rs) (T.getD k (0, 0, 0)).1) (pt (verts rs) (T.getD k (0, 0, 0)).2.1) (pt (verts rs) (T.getD k (0, 0, 0)).2.2)) = S (k + 1) ∧ 0 < twiceI (pt (verts rs) (T.getD k (0, 0, 0)).1) (pt (verts rs) (T.getD k (0, 0, 0)).2.1) (pt (verts rs) (T.getD k (0, 0, 0)).2.2) := by
  refine ⟨fun k => psum rs rs.length - sm (fun i => DI (pt (verts rs) (T.getD i (0, 0, 0)).1) (pt (verts rs) (T.getD i (0, 0, 0)).2.1) (pt (verts rs) (T.getD i (0, 0, 0)).2.2)) k, ?_, ?_, fun k hk => ?_⟩
  · show psum rs rs.length - 0 = psum rs rs.length
    omega
  · show psum rs rs.length - _ = 0
    rw [G.areas hs hm I]; omega
  · have p1 := tri_pos hm I (t3_at hk)
    have p2 := tri_in hm I (t3_at hk)
    obtain ⟨e, c1, c2⟩ := twice_in (G.near _ p2.1) (G.near _ p2.2.1) (G.near _ p2.2.2)
    rw [e]
    refine ⟨?_, p1⟩
    obtain ⟨_, b1, b2⟩ := G.psum _ (Nat.le_refl _)
    have h8 := G.eight
    have low : ∀ m, m ≤ T.length → 0 ≤ sm (fun i => DI (pt (verts rs) (T.getD i (0, 0, 0)).1) (pt (verts rs) (T.getD i (0, 0, 0)).2.1) (pt (verts rs) (T.getD i (0, 0, 0)).2.2)) m ∧ sm (fun i => DI (pt (verts rs) (T.getD i (0, 0, 0)).1) (pt (verts rs) (T.getD i (0, 0, 0)).2.1) (pt (verts rs) (T.getD i (0, 0, 0)).2.2)) m ≤ 17592186044416 * (m : Int) := by
      intro m
      induction m with
      | zero => intro _; exact ⟨Int.le_refl _, Int.le_refl _⟩
      | succ m ih =>
        intro hm'
        obtain ⟨h1, h2⟩ := ih (by omega)
        have q1 := tri_pos hm I (t3_at (show m < T.length by omega))
        have q2 := tri_in hm I (t3_at (show m < T.length by omega))
        obtain ⟨_, d1, d2⟩ := twice_in (G.near _ q2.1) (G.near _ q2.2.1) (G.near _ q2.2.2)
        rw [sm]
        refine ⟨by omega, by omega⟩
    have hc := G.count hs hm I
    have h64 := G.few
    obtain ⟨l1, l2⟩ := low k (by omega)
    show wrap64 (psum rs rs.length - sm _ k - _) = psum rs rs.length - sm _ (k + 1)
    rw [sm, wrap64_in _ (by omega) (by omega)]
    omega
theorem cell_lt {w : World} {p : Addr} {v : Value} (h : w.cell? p = some v) : p.block < w.heap.size := by
  by_cases q : p.block < w.heap.size
  · exact q
  · unfold World.cell? at h
    rw [Array.getElem?_eq_none (by omega)] at h
    simp at h
theorem pts_lt {w : World} {g n : Nat} {P : Nat → IP} (h : PtsAt w g 0 n P) (h0 : 0 < n) : g < w.heap.size := cell_lt (p := ⟨g, 0 + 0 * 2, none⟩) (h 0 h0).1
theorem tri_lt {w : World} {b : Nat} {T : List T3} (h : TriAt w b T) (h0 : 0 < T.length) : b < w.heap.size := cell_lt (p := ⟨b, 0 * 3, none⟩) (h 0 h0).1
theorem mesh_facts {rs : List (List IP)} (G : Good rs) {B : Nat} {w : World} {bM : Nat} {T : List T3} {F : Nat → Nat → Option Int} (h : MeshP B w rs bM T F) :
    T.length = (verts rs).length + 2 * rs.length - 4 ∧ 0 < T.length ∧ (∃ S : Nat → Int, S 0 = psum rs rs.length ∧ S T.length = 0 ∧ ∀ k, k < T.length → wrap64 (S k - twiceI (pt (verts rs) (T.getD k (0, 0, 0)).1) (pt (verts rs) (T.getD k (0, 0, 0)).2.1) (pt (verts rs) (T.getD k (0, 0, 0)).2.2)) = S (k + 1) ∧ 0 < twiceI (pt (verts rs) (T.getD k (0, 0, 0)).1) (pt (verts rs) (T.getD k (0, 0, 0)).2.1) (pt (verts rs) (T.getD k (0, 0, 0)).2.2)) ∧ (∀ t ∈ T, t.1 < (verts rs).length ∧ t.2.1 < (verts rs).length ∧ t.2.2 < (verts rs).length) ∧ ∀ i, i < (verts rs).length → ∃ t ∈ T, t.1 = i ∨ t.2.1 = i ∨ t.2.2 = i := by
  obtain ⟨_, ⟨g, c', y, bl, L, h2, h3, I⟩, hs, hm⟩ := h
  have hc := G.count hs hm I
  have h1 := G.one
  have h3 : 3 ≤ (verts rs).length := by
    have q1 := G.three 0 (by omega)
    have q2 := rg_le rs 0
    omega
  exact ⟨by omega, by omega, left_areas G hs hm I, fun t ht => tri_in hm I ht, fun i hi => G.corner hm I hi⟩
theorem points_of {w : World} {B : Nat} {rs : List (List IP)} {v : Value} (h0 : 0 < (verts rs).length) (h : w.ownsRow B 25 2 v (verts rs).length (cells2 (verts rs))) : ∃ g c, v = .slice (some ⟨g, 0, none⟩) (verts rs).length c ∧ B ≤ g ∧ PtsAt w g 0 (verts rs).length (pt (verts rs)) := by
  obtain ⟨g, c, rfl, hg⟩ : ∃ g c, v = .slice (some ⟨g, 0, none⟩) (verts rs).length c ∧ B ≤ g := by
    rcases h.2 with ⟨_, h⟩ | ⟨g, c, _, h, h2, _⟩
    · omega
    · exact ⟨g, c, h, h2⟩
  refine ⟨g, c, rfl, hg, fun i hi => ?_⟩
  have q := cells2_get (verts rs) i hi
  rw [Nat.zero_add]
  exact ⟨(h.cellAt (i * 2) (by omega)).trans q.1, (h.cellAt (i * 2 + 1) (by omega)).trans q.2⟩
end Go.Proofs.Ytdkaoopkbhaheaa
namespace Go.Proofs.Ytdkaoopkbhaheaa
open Go.RowKit Go.Lib
open Jor
set_option linter.unusedVariables false
set_option linter.unusedSimpArgs false
def Ints (w : World) (a : Option Addr) (n : Nat) (Z : Nat → Int) : Prop := n = 0 ∨ ∃ b off, a = some ⟨b, off, none⟩ ∧ ∀ i, i < n → w.cell? ⟨b, off + i, none⟩ = some (.int .i64 (Z i)) ∧ -9223372036854775808 ≤ Z i ∧ Z i ≤ 9223372036854775807
theorem Ints.later {w1 w2 : World} {a : Option Addr} {n : Nat} {Z : Nat → Int} (hb : Below w1.heap.size w1 w2) (h : Ints w1 a n Z) : Ints w2 a n Z := by
  rcases h with h | ⟨b, off, e, h⟩
  · exact .inl h
  · exact .inr ⟨b, off, e, fun i hi => ⟨cell_later hb (h i hi).1, (h i hi).2⟩⟩
end Go.Proofs.Ytdkaoopkbhaheaa
