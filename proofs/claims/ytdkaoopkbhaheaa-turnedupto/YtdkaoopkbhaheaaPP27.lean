/- Edges of the rings. -/
import Derived.Test.YtdkaoopkbhaheaaPN25
import Derived.Test.YtdkaoopkbhaheaaPN22
namespace Go.Proofs.Ytdkaoopkbhaheaa
open Go.RowKit Go.Lib
open Jor
set_option linter.unusedVariables false
set_option linter.unusedSimpArgs false

/-- Between a and b there is an edge of the k-th ring. -/
def OwnK (rs : List (List IP)) (a b k : Nat) : Prop := off rs k ≤ a ∧ a < off rs k + (rg rs k).length ∧ off rs k ≤ b ∧ b < off rs k + (rg rs k).length ∧ (a = b + 1 ∨ b = a + 1 ∨ a + 1 = b + (rg rs k).length ∨ b + 1 = a + (rg rs k).length)

end Go.Proofs.Ytdkaoopkbhaheaa

/- Which triangles share a side: what the map of sides says. -/
namespace Go.Proofs.Ytdkaoopkbhaheaa
open Go.RowKit Go.Lib
open Jor
set_option linter.unusedVariables false
set_option linter.unusedSimpArgs false

/-- a to b is a side of t. -/
def Sd (t : T3) (a b : Nat) : Prop := (t.1 = a ∧ t.2.1 = b) ∨ (t.2.1 = a ∧ t.2.2 = b) ∨ (t.2.2 = a ∧ t.1 = b)

theorem leftF_some {T : List T3} {a b : Nat} : ∀ {k : Nat} {v : Int}, leftF T k a b = some v → ∃ i : Nat, i < k ∧ v = i ∧ Sd (T.getD i (0, 0, 0)) a b := by
  intro k
  induction k with
  | zero => intro v h; cases h
  | succ k ih =>
    intro v h
    unfold leftF upd at h
    by_cases h1 : a = (T.getD k (0, 0, 0)).2.2 ∧ b = (T.getD k (0, 0, 0)).1
    · rw [if_pos h1] at h
      exact ⟨k, by omega, by cases h; rfl, .inr (.inr ⟨h1.1.symm, h1.2.symm⟩)⟩
    · rw [if_neg h1] at h
      by_cases h2 : a = (T.getD k (0, 0, 0)).2.1 ∧ b = (T.getD k (0, 0, 0)).2.2
      · rw [if_pos h2] at h
        exact ⟨k, by omega, by cases h; rfl, .inr (.inl ⟨h2.1.symm, h2.2.symm⟩)⟩
      · rw [if_neg h2] at h
        by_cases h3 : a = (T.getD k (0, 0, 0)).1 ∧ b = (T.getD k (0, 0, 0)).2.1
        · rw [if_pos h3] at h
          exact ⟨k, by omega, by cases h; rfl, .inl ⟨h3.1.symm, h3.2.symm⟩⟩
        · rw [if_neg h3] at h
          obtain ⟨i, hi, h4⟩ := ih h
          exact ⟨i, by omega, h4⟩
theorem leftF_none {T : List T3} {a b : Nat} : ∀ {k : Nat}, leftF T k a b = none → ∀ i, i < k → ¬ Sd (T.getD i (0, 0, 0)) a b := by
  intro k
  induction k with
  | zero => intro h i hi; omega
  | succ k ih =>
    intro h i hi
    unfold leftF upd at h
    by_cases h1 : a = (T.getD k (0, 0, 0)).2.2 ∧ b = (T.getD k (0, 0, 0)).1
    · rw [if_pos h1] at h; cases h
    · rw [if_neg h1] at h
      by_cases h2 : a = (T.getD k (0, 0, 0)).2.1 ∧ b = (T.getD k (0, 0, 0)).2.2
      · rw [if_pos h2] at h; cases h
      · rw [if_neg h2] at h
        by_cases h3 : a = (T.getD k (0, 0, 0)).1 ∧ b = (T.getD k (0, 0, 0)).2.1
        · rw [if_pos h3] at h; cases h
        · rw [if_neg h3] at h
          rcases Nat.lt_or_ge i k with g | g
          · exact ih h i g
          · obtain rfl : i = k := by omega
            rintro (⟨e1, e2⟩ | ⟨e1, e2⟩ | ⟨e1, e2⟩)
            · exact h3 ⟨e1.symm, e2.symm⟩
            · exact h2 ⟨e1.symm, e2.symm⟩
            · exact h1 ⟨e1.symm, e2.symm⟩

section
variable {V : Nat → IP} {n : Nat} {nx pv : Nat → Nat} {L : List (Nat × Nat)} {F : Nat → Nat → Option Int} {T : List T3}

/-- The third corner by a side. -/
theorem Sd.th (hm : ∀ i j u, (i, j, u) ∈ T ↔ F i j = some (u : Int) ∧ i < j ∧ i < u) (I : FInv V n nx pv L F L.length) {t : T3} (ht : t ∈ T) {a b : Nat} (h : Sd t a b) : ∃ c, thF F a b = some c ∧ (t = (a, b, c) ∧ a < b ∧ a < c ∨ t = (c, a, b) ∧ c < a ∧ c < b ∨ t = (b, c, a) ∧ b < c ∧ b < a) := by
  obtain ⟨i, j, u⟩ := t
  obtain ⟨h1, h2, h3⟩ := (hm i j u).1 ht
  have t0 := thF_some h1
  obtain ⟨_, _, _, t1, t2, _⟩ := I.front.tri _ _ _ t0
  rcases h with ⟨e1, e2⟩ | ⟨e1, e2⟩ | ⟨e1, e2⟩
  · simp only at e1 e2; subst e1 e2
    exact ⟨u, t0, .inl ⟨rfl, h2, h3⟩⟩
  · simp only at e1 e2; subst e1 e2
    exact ⟨i, t1, .inr (.inl ⟨rfl, h2, h3⟩)⟩
  · simp only at e1 e2; subst e1 e2
    exact ⟨j, t2, .inr (.inr ⟨rfl, h2, h3⟩)⟩
theorem Sd.one (hs : T.Pairwise lt3) (hm : ∀ i j u, (i, j, u) ∈ T ↔ F i j = some (u : Int) ∧ i < j ∧ i < u) (I : FInv V n nx pv L F L.length) {i j : Nat} (hi : i < T.length) (hj : j < T.length) {a b : Nat} (h1 : Sd (T.getD i (0, 0, 0)) a b) (h2 : Sd (T.getD j (0, 0, 0)) a b) : i = j := by
  obtain ⟨c, e1, o1⟩ := Sd.th hm I (t3_at hi) h1
  obtain ⟨d, e2, o2⟩ := Sd.th hm I (t3_at hj) h2
  rw [e1] at e2
  cases e2
  refine pair_inj hs hi hj ?_
  rcases o1 with ⟨o1, _, _⟩ | ⟨o1, _, _⟩ | ⟨o1, _, _⟩ <;> rcases o2 with ⟨o2, _, _⟩ | ⟨o2, _, _⟩ | ⟨o2, _, _⟩ <;> first | exact o1.trans o2.symm | (exfalso; omega)
theorem Sd.of_th (hm : ∀ i j u, (i, j, u) ∈ T ↔ F i j = some (u : Int) ∧ i < j ∧ i < u) (I : FInv V n nx pv L F L.length) {a b c : Nat} (h : thF F a b = some c) : ∃ i, i < T.length ∧ Sd (T.getD i (0, 0, 0)) a b := by
  rcases in_list hm I h with h | h | h
  · obtain ⟨i, hi, e⟩ := t3_in h
    exact ⟨i, hi, by rw [e]; exact .inl ⟨rfl, rfl⟩⟩
  · obtain ⟨i, hi, e⟩ := t3_in h
    exact ⟨i, hi, by rw [e]; exact .inr (.inr ⟨rfl, rfl⟩)⟩
  · obtain ⟨i, hi, e⟩ := t3_in h
    exact ⟨i, hi, by rw [e]; exact .inr (.inl ⟨rfl, rfl⟩)⟩
theorem Sd.known (hm : ∀ i j u, (i, j, u) ∈ T ↔ F i j = some (u : Int) ∧ i < j ∧ i < u) (I : FInv V n nx pv L F L.length) {t : T3} (ht : t ∈ T) {a b : Nat} (h : Sd t a b) : KF F a b := by
  obtain ⟨c, e1, _⟩ := Sd.th hm I ht h
  exact (I.front.tri _ _ _ e1).1
/-- What lies beyond a side. -/
theorem rgt_of (hs : T.Pairwise lt3) (hm : ∀ i j u, (i, j, u) ∈ T ↔ F i j = some (u : Int) ∧ i < j ∧ i < u) (I : FInv V n nx pv L F L.length) {k : Nat} (hk : k < T.length) {a b : Nat} (h : Sd (T.getD k (0, 0, 0)) a b) :
    (nx a = b ∧ rgt (leftF T T.length) a b = -1) ∨ (nx a ≠ b ∧ ∃ j : Nat, j < T.length ∧ rgt (leftF T T.length) a b = j ∧ Sd (T.getD j (0, 0, 0)) b a) := by
  have kk := Sd.known hm I (t3_at hk) h
  by_cases e : nx a = b
  · refine .inl ⟨e, ?_⟩
    unfold rgt
    cases q : leftF T T.length b a with
    | none => rfl
    | some v =>
      obtain ⟨i, hi, _, hsd⟩ := leftF_some q
      have := Sd.known hm I (t3_at hi) hsd
      rw [← e] at this
      exact absurd this (I.front.nb a (I.front.fa _ _ kk))
  · refine .inr ⟨e, ?_⟩
    obtain ⟨c, hc⟩ := I.full _ _ (I.front.pair _ _ kk e)
    obtain ⟨i, hi, hsd⟩ := Sd.of_th hm I hc
    unfold rgt
    cases q : leftF T T.length b a with
    | none => exact absurd hsd (leftF_none q i hi)
    | some v =>
      obtain ⟨j, hj, rfl, hsd⟩ := leftF_some q
      exact ⟨j, hj, rfl, hsd⟩
theorem rgt_back (hs : T.Pairwise lt3) (hm : ∀ i j u, (i, j, u) ∈ T ↔ F i j = some (u : Int) ∧ i < j ∧ i < u) (I : FInv V n nx pv L F L.length) {k : Nat} (hk : k < T.length) {a b : Nat} (h : Sd (T.getD k (0, 0, 0)) a b) : rgt (leftF T T.length) b a = k := by
  unfold rgt
  cases q : leftF T T.length a b with
  | none => exact absurd h (leftF_none q k hk)
  | some v =>
    obtain ⟨j, hj, rfl, hsd⟩ := leftF_some q
    rw [Sd.one hs hm I hj hk hsd h]
    rfl
end

/-- An edge of the polygon lies between the ends of a known edge just if it is that one. -/
theorem own_iff {rs : List (List IP)} (G : Good rs) {a b : Nat} (ha : a < (verts rs).length) (hb : b < (verts rs).length) : (∃ k, k < rs.length ∧ OwnK rs a b k) ↔ bnx rs a = b ∨ bnx rs b = a := by
  have U := G.uni
  have num : ∀ i, i < (verts rs).length → ∃ k x, k < rs.length ∧ x < (rg rs k).length ∧ i = off rs k + x := fun i hi => num_of rs i hi
  have step : ∀ k x, k < rs.length → x < (rg rs k).length → bnx rs (off rs k + x) = off rs k + nkk (trB rs k) (rg rs k).length x := fun k x hk hx => U.nx k x hk hx
  have cyc : ∀ k x, k < rs.length → x < (rg rs k).length → (trB rs k = false ∧ ((nkk (trB rs k) (rg rs k).length x = x + 1 ∧ x + 1 < (rg rs k).length) ∨ (nkk (trB rs k) (rg rs k).length x = 0 ∧ x + 1 = (rg rs k).length))) ∨ (trB rs k = true ∧ ((nkk (trB rs k) (rg rs k).length x + 1 = x) ∨ (x = 0 ∧ nkk (trB rs k) (rg rs k).length x + 1 = (rg rs k).length))) := by
    intro k x hk hx
    cases ht : trB rs k with
    | false =>
      refine .inl ⟨rfl, ?_⟩
      show (nxm _ x = _ ∧ _) ∨ (nxm _ x = _ ∧ _)
      exact nxm_cases hx
    | true =>
      refine .inr ⟨rfl, ?_⟩
      show pvm _ x + 1 = x ∨ (x = 0 ∧ pvm _ x + 1 = _)
      unfold pvm
      by_cases h0 : x = 0
      · refine .inr ⟨h0, ?_⟩
        rw [h0, Nat.zero_add, Nat.mod_eq_of_lt (by omega)]
        omega
      · refine .inl ?_
        rw [show x + ((rg rs k).length - 1) = (x - 1) + (rg rs k).length by omega, Nat.add_mod_right, Nat.mod_eq_of_lt (by omega)]
        omega
  constructor
  · rintro ⟨k, hk, h1, h2, h3, h4, h5⟩
    obtain ⟨x, rfl⟩ : ∃ x, a = off rs k + x := ⟨a - off rs k, by omega⟩
    obtain ⟨y, rfl⟩ : ∃ y, b = off rs k + y := ⟨b - off rs k, by omega⟩
    have hx : x < (rg rs k).length := by omega
    have hy : y < (rg rs k).length := by omega
    rw [step k x hk hx, step k y hk hy]
    have c1 := cyc k x hk hx
    have c2 := cyc k y hk hy
    have h3 := G.three k hk
    generalize nkk (trB rs k) (rg rs k).length x = X at *
    generalize nkk (trB rs k) (rg rs k).length y = Y at *
    generalize (rg rs k).length = n at *
    cases ht : trB rs k <;> rw [ht] at c1 c2 <;> simp at c1 c2 <;> omega
  · have half : ∀ a b, a < (verts rs).length → b < (verts rs).length → bnx rs a = b → ∃ k, k < rs.length ∧ off rs k ≤ a ∧ a < off rs k + (rg rs k).length ∧ off rs k ≤ b ∧ b < off rs k + (rg rs k).length ∧ (a = b + 1 ∨ b = a + 1 ∨ a + 1 = b + (rg rs k).length ∨ b + 1 = a + (rg rs k).length) := by
      intro a b ha hb h
      obtain ⟨k, x, hk, hx, rfl⟩ := num a ha
      rw [step k x hk hx] at h
      have c1 := cyc k x hk hx
      have h3 := G.three k hk
      refine ⟨k, hk, ?_⟩
      generalize nkk (trB rs k) (rg rs k).length x = X at *
      generalize (rg rs k).length = n at *
      cases ht : trB rs k <;> rw [ht] at c1 <;> simp at c1 <;> refine ⟨by omega, by omega, by omega, by omega, by omega⟩
    rintro (h | h)
    · exact half a b ha hb h
    · obtain ⟨k, hk, h1, h2, h3, h4, h5⟩ := half b a hb ha h
      exact ⟨k, hk, h3, h4, h1, h2, by omega⟩
end Go.Proofs.Ytdkaoopkbhaheaa

/- What Found needs of a mesh. -/
namespace Go.Proofs.Ytdkaoopkbhaheaa
open Go.RowKit Go.Lib
open Jor
set_option linter.unusedVariables false
set_option linter.unusedSimpArgs false

/-- The numbers beside a triangle. -/
def bs0 (T : List T3) (k : Nat) : Int := rgt (leftF T T.length) (T.getD k (0, 0, 0)).1 (T.getD k (0, 0, 0)).2.1
def bs1 (T : List T3) (k : Nat) : Int := rgt (leftF T T.length) (T.getD k (0, 0, 0)).2.1 (T.getD k (0, 0, 0)).2.2
def bs2 (T : List T3) (k : Nat) : Int := rgt (leftF T T.length) (T.getD k (0, 0, 0)).2.2 (T.getD k (0, 0, 0)).1

theorem D_same (a b : Pt) : D a b a = 0 ∧ D a b b = 0 := ⟨by unfold D; grind, by unfold D; grind⟩
theorem found_facts {rs : List (List IP)} (G : Good rs) {B : Nat} {w : World} {bM : Nat} {T : List T3} {F : Nat → Nat → Option Int} (h : MeshP B w rs bM T F) :
    (∀ i, i < (verts rs).length → ∀ r, LocI (pt (verts rs)) T (pt (verts rs) i) r → ∃ k : Nat, k < T.length ∧ r = k ∧ ((T.getD k (0, 0, 0)).1 = i ∨ (T.getD k (0, 0, 0)).2.1 = i ∨ (T.getD k (0, 0, 0)).2.2 = i)) ∧
    ∀ k, k < T.length → ∀ a b, Sd (T.getD k (0, 0, 0)) a b → ((∃ q, q < rs.length ∧ OwnK rs a b q) ∧ rgt (leftF T T.length) a b = -1) ∨ (¬ (∃ q, q < rs.length ∧ OwnK rs a b q) ∧ ∃ j : Nat, j < T.length ∧ rgt (leftF T T.length) a b = j ∧ (bs0 T j = k ∨ bs1 T j = k ∨ bs2 T j = k)) := by
  obtain ⟨_, ⟨g, c', y, bl, L, h2, h3, I⟩, hs, hm⟩ := h
  refine ⟨fun i hi r hr => ?_, fun k hk a b hsd => ?_⟩
  · have near := G.near i hi
    rcases hr with ⟨rfl, h | h⟩ | ⟨k, hk, rfl, hb, hc, _⟩
    · rw [(near_bnd _).1 near] at h; cases h
    · exfalso
      obtain ⟨t, ht, ho⟩ := G.corner hm I hi
      obtain ⟨k, hk, e⟩ := t3_in ht
      have h1 := h k hk
      obtain ⟨l0, l1, l2⟩ := tri_in hm I ht
      obtain ⟨a, b, c⟩ := t
      obtain ⟨_, _, _, _, _, l, _⟩ := I.front.tri _ _ _ (thF_some ((hm _ _ _).1 ht).1)
      unfold covT at h1
      rw [e] at h1
      have h2 := (coverB_iff (fun i hi => G.near i hi) l0 l1 l2 near).2 (by
        have z1 := D_same (toR (pt (verts rs) a)) (toR (pt (verts rs) b))
        have z2 := D_same (toR (pt (verts rs) b)) (toR (pt (verts rs) c))
        have z3 := D_same (toR (pt (verts rs) c)) (toR (pt (verts rs) a))
        have r1 := l
        rw [D_rot] at r1
        have r2 := r1
        rw [D_rot] at r2
        rcases ho with rfl | rfl | rfl
        · exact ⟨by grind, by grind, by grind⟩
        · exact ⟨by grind, by grind, by grind⟩
        · exact ⟨by grind, by grind, by grind⟩)
      rw [h2] at h1; cases h1
    · refine ⟨k, hk, rfl, ?_⟩
      have ht := t3_at hk
      unfold covT at hc
      obtain ⟨l0, l1, l2⟩ := tri_in hm I ht
      generalize T.getD k (0, 0, 0) = t at *
      obtain ⟨a, b, c⟩ := t
      obtain ⟨_, _, _, _, _, _, no⟩ := I.front.tri _ _ _ (thF_some ((hm _ _ _).1 ht).1)
      have hc' := (coverB_iff (fun i hi => G.near i hi) l0 l1 l2 near).1 hc
      simp only
      by_cases q1 : a = i
      · exact .inl q1
      by_cases q2 : b = i
      · exact .inr (.inl q2)
      by_cases q3 : c = i
      · exact .inr (.inr q3)
      exact absurd hc' (no i hi (Ne.symm q1) (Ne.symm q2) (Ne.symm q3))
  · have kk := Sd.known hm I (t3_at hk) hsd
    have ha := I.front.fa _ _ kk
    have hb := I.front.fb _ _ kk
    rw [own_iff G ha hb]
    have nb : bnx rs b ≠ a := fun e => by
      have := I.front.nb b hb
      rw [e] at this
      exact this kk
    rcases rgt_of hs hm I hk hsd with ⟨h1, h2⟩ | ⟨h1, j, hj, h2, h3⟩
    · exact .inl ⟨.inl h1, h2⟩
    · refine .inr ⟨fun h => by rcases h with h | h; exact h1 h; exact nb h, j, hj, h2, ?_⟩
      have back := rgt_back hs hm I hk hsd
      unfold bs0 bs1 bs2
      rcases h3 with ⟨e1, e2⟩ | ⟨e1, e2⟩ | ⟨e1, e2⟩
      · exact .inl (by rw [e1, e2]; exact back)
      · exact .inr (.inl (by rw [e1, e2]; exact back))
      · exact .inr (.inr (by rw [e1, e2]; exact back))
end Go.Proofs.Ytdkaoopkbhaheaa

/- Beside, what it tells. -/
namespace Go.Proofs.Ytdkaoopkbhaheaa
open Go.RowKit Go.Lib
open Jor
open scoped Classical
set_option linter.unusedVariables false
set_option linter.unusedSimpArgs false

theorem fbeside2 (B bM : Nat) (rs : List (List IP)) (T : List T3) (F : Nat → Nat → Option Int) (k : Nat) (w : World) (hT : T.length ≤ 1048576) (hk : k < T.length) (hl : ∀ t ∈ T, t.1 < 64 ∧ t.2.1 < 64 ∧ t.2.2 < 64) (hM : MeshP B w rs bM T F) :
    Calls Try.prog 38 #[.pointer (some ⟨bM, 0, none⟩), .int .i64 (k : Int)] w fun e w' => e = .returned (.tuple #[.agg #[.int .i64 (bs0 T k), .int .i64 (bs1 T k), .int .i64 (bs2 T k)], .int .i64 0]) ∧ Below w.heap.size w w' := fbeside_any B bM rs T F k w hT hk hl hM
theorem bne_true {a b : Int} (h : a ≠ b) : (a != b) = true := by simp [h]
end Go.Proofs.Ytdkaoopkbhaheaa
