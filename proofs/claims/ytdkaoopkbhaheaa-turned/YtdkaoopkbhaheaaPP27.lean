import Derived.Test.YtdkaoopkbhaheaaPN22
namespace Go.Proofs.Ytdkaoopkbhaheaa
open Go.RowKit Go.Lib
open Jor
set_option linter.unusedVariables false
set_option linter.unusedSimpArgs false
def OwnK (rs : List (List IP)) (a b k : Nat) : Prop := off rs k ≤ a ∧ a < off rs k + (rg rs k).length ∧ off rs k ≤ b ∧ b < off rs k + (rg rs k).length ∧ (a = b + 1 ∨ b = a + 1 ∨ a + 1 = b + (rg rs k).length ∨ b + 1 = a + (rg rs k).length)
def rgt (Lf : Nat → Nat → Option Int) (a b : Nat) : Int := (Lf b a).getD (-1)
theorem allocs2 (w : World) (A B : Obj) : ((w.alloc A).alloc B).heap[w.heap.size]? = some A ∧ ((w.alloc A).alloc B).heap[w.heap.size + 1]? = some B ∧ ((w.alloc A).alloc B).heap.size = w.heap.size + 1 + 1 := by
  have old : ∀ (u : World) (o : Obj) (j : Nat), j < u.heap.size → (u.alloc o).heap[j]? = u.heap[j]? := fun u o j h => ((Below.refl u.heap.size u).alloc (Nat.le_refl _) o).block j h
  have sz : ∀ (u : World) (o : Obj), (u.alloc o).heap.size = u.heap.size + 1 := fun u o => by simp
  refine ⟨?_, ?_, ?_⟩
  · rw [old _ _ _ (by rw [sz]; omega), heap_alloc_new]
  · rw [← sz w A, heap_alloc_new]
  · rw [sz, sz]
theorem allocs3 (w : World) (A B C : Obj) : (((w.alloc A).alloc B).alloc C).heap[w.heap.size]? = some A ∧ (((w.alloc A).alloc B).alloc C).heap[w.heap.size + 1]? = some B ∧ (((w.alloc A).alloc B).alloc C).heap[w.heap.size + 1 + 1]? = some C ∧ (((w.alloc A).alloc B).alloc C).heap.size = w.heap.size + 1 + 1 + 1 := by
  have old : ∀ (u : World) (o : Obj) (j : Nat), j < u.heap.size → (u.alloc o).heap[j]? = u.heap[j]? := fun u o j h => ((Below.refl u.heap.size u).alloc (Nat.le_refl _) o).block j h
  have sz : ∀ (u : World) (o : Obj), (u.alloc o).heap.size = u.heap.size + 1 := fun u o => by simp
  refine ⟨?_, ?_, ?_, ?_⟩
  · rw [old _ _ _ (by rw [sz, sz]; omega), old _ _ _ (by rw [sz]; omega), heap_alloc_new]
  · rw [old _ _ _ (by rw [sz, sz]; omega), ← sz w A, heap_alloc_new]
  · rw [← sz w A, ← sz (w.alloc A) B, heap_alloc_new]
  · rw [sz, sz, sz]
end Go.Proofs.Ytdkaoopkbhaheaa
namespace Go.Proofs.Ytdkaoopkbhaheaa
open Go.RowKit Go.Lib
open Jor
set_option linter.unusedVariables false
set_option linter.unusedSimpArgs false
def Sd (t : T3) (a b : Nat) : Prop := (t.1 = a ∧ t.2.1 = b) ∨ (t.2.1 = a ∧ t.2.2 = b) ∨ (t.2.2 = a ∧ t.1 = b)
theorem leftF_some {T : List T3} {a b : Nat} : ∀ {k : Nat} {v : Int}, leftF T k a b = some v → ∃ i : Nat, i < k ∧ v = i ∧ Sd (T.getD i (0, 0, 0)) a b := by
  intro k
  induction k with
  | zero => intro v h; cases h
  | succ k ih =>
    intro v h
    unfold leftF upd at h
    by_cases h1 : a = (T.getD k (0, 0, 0)).2.2 ∧ b = (T.getD k (0, 0, 0)).1
    · rw [if_pos h1] at h
      exact ⟨k, by omega, by cases h; rfl, .inr (.inr ⟨h1.1.symm, h1.2.symm⟩)⟩
    · rw [if_neg h1] at h
      by_cases h2 : a = (T.getD k (0, 0, 0)).2.1 ∧ b = (T.getD k (0, 0, 0)).2.2
      · rw [if_pos h2] at h
        exact ⟨k, by omega, by cases h; rfl, .inr (.inl ⟨h2.1.symm, h2.2.symm⟩)⟩
      · rw [if_neg h2] at h
        by_cases h3 : a = (T.getD k (0, 0, 0)).1 ∧ b = (T.getD k (0, 0, 0)).2.1
        · rw [if_pos h3] at h
          exact ⟨k, by omega, by cases h; rfl, .inl ⟨h3.1.symm, h3.2.symm⟩⟩
        · rw [if_neg h3] at h
          obtain ⟨i, hi, h4⟩ := ih h
          exact ⟨i, by omega, h4⟩
theorem leftF_none {T : List T3} {a b : Nat} : ∀ {k : Nat}, leftF T k a b = none → ∀ i, i < k → ¬ Sd (T.getD i (0, 0, 0)) a b := by
  intro k
  induction k with
  | zero => intro h i hi; omega
  | succ k ih =>
    intro h i hi
    unfold leftF upd at h
    by_cases h1 : a = (T.getD k (0, 0, 0)).2.2 ∧ b = (T.getD k (0, 0, 0)).1
    · rw [if_pos h1] at h; cases h
    · rw [if_neg h1] at h
      by_cases h2 : a = (T.getD k (0, 0, 0)).2.1 ∧ b = (T.getD k (0, 0, 0)).2.2
      · rw [if_pos h2] at h; cases h
      · rw [if_neg h2] at h
        by_cases h3 : a = (T.getD k (0, 0, 0)).1 ∧ b = (T.getD k (0, 0, 0)).2.1
        · rw [if_pos h3] at h; cases h
        · rw [if_neg h3] at h
          rcases Nat.lt_or_ge i k with g | g
          · exact ih h i g
          · obtain rfl : i = k := by omega
            rintro (⟨e1, e2⟩ | ⟨e1, e2⟩ | ⟨e1, e2⟩)
            · exact h3 ⟨e1.symm, e2.symm⟩
            · exact h2 ⟨e1.symm, e2.symm⟩
            · exact h1 ⟨e1.symm, e2.symm⟩
section
variable {V : Nat → IP} {n : Nat} {nx pv : Nat → Nat} {L : List (Nat × Nat)} {F : Nat → Nat → Option Int} {T : List T3}
theorem Sd.th (hm : ∀ i j u, (i, j, u) ∈ T ↔ F i j = some (u : Int) ∧ i < j ∧ i < u) (I : FInv V n nx pv L F L.length) {t : T3} (ht : t ∈ T) {a b : Nat} (h : Sd t a b) : ∃ c, thF F a b = some c ∧ (t = (a, b, c) ∧ a < b ∧ a < c ∨ t = (c, a, b) ∧ c < a ∧ c < b ∨ t = (b, c, a) ∧ b < c ∧ b < a) := by
  obtain ⟨i, j, u⟩ := t
  obtain ⟨h1, h2, h3⟩ := (hm i j u).1 ht
  have t0 := thF_some h1
  obtain ⟨_, _, _, t1, t2, _⟩ := I.front.tri _ _ _ t0
  rcases h with ⟨e1, e2⟩ | ⟨e1, e2⟩ | ⟨e1, e2⟩
  · simp only at e1 e2; subst e1 e2
    exact ⟨u, t0, .inl ⟨rfl, h2, h3⟩⟩
  · simp only at e1 e2; subst e1 e2
    exact ⟨i, t1, .inr (.inl ⟨rfl, h2, h3⟩)⟩
  · simp only at e1 e2; subst e1 e2
    exact ⟨j, t2, .inr (.inr ⟨rfl, h2, h3⟩)⟩
theorem Sd.one (hs : T.Pairwise lt3) (hm : ∀ i j u, (i, j, u) ∈ T ↔ F i j = some (u : Int) ∧ i < j ∧ i < u) (I : FInv V n nx pv L F L.length) {i j : Nat} (hi : i < T.length) (hj : j < T.length) {a b : Nat} (h1 : Sd (T.getD i (0, 0, 0)) a b) (h2 : Sd (T.getD j (0, 0, 0)) a b) : i = j := by
  obtain ⟨c, e1, o1⟩ := Sd.th hm I (t3_at hi) h1
  obtain ⟨d, e2, o2⟩ := Sd.th hm I (t3_at hj) h2
  rw [e1] at e2
  cases e2
  refine pair_inj hs hi hj ?_
  rcases o1 with ⟨o1, _, _⟩ | ⟨o1, _, _⟩ | ⟨o1, _, _⟩ <;> rcases o2 with ⟨o2, _, _⟩ | ⟨o2, _, _⟩ | ⟨o2, _, _⟩ <;> first | exact o1.trans o2.symm | (exfalso; omega)
theorem Sd.of_th (hm : ∀ i j u, (i, j, u) ∈ T ↔ F i j = some (u : Int) ∧ i < j ∧ i < u) (I : FInv V n nx pv L F L.length) {a b c : Nat} (h : thF F a b = some c) : ∃ i, i < T.length ∧ Sd (T.getD i (0, 0, 0)) a b := by
  rcases in_list hm I h with h | h | h
  · obtain ⟨i, hi, e⟩ := t3_in h
    exact ⟨i, hi, by rw [e]; exact .inl ⟨rfl, rfl⟩⟩
  · obtain ⟨i, hi, e⟩ := t3_in h
    exact ⟨i, hi, by rw [e]; exact .inr (.inr ⟨rfl, rfl⟩)⟩
  · obtain ⟨i, hi, e⟩ := t3_in h
    exact ⟨i, hi, by rw [e]; exact .inr (.inl ⟨rfl, rfl⟩)⟩
theorem Sd.known (hm : ∀ i j u, (i, j, u) ∈ T ↔ F i j = some (u : Int) ∧ i < j ∧ i < u) (I : FInv V n nx pv L F L.length) {t : T3} (ht : t ∈ T) {a b : Nat} (h : Sd t a b) : KF F a b := by
  obtain ⟨c, e1, _⟩ := Sd.th hm I ht h
  exact (I.front.tri _ _ _ e1).1
theorem rgt_of (hs : T.Pairwise lt3) (hm : ∀ i j u, (i, j, u) ∈ T ↔ F i j = some (u : Int) ∧ i < j ∧ i < u) (I : FInv V n nx pv L F L.length) {k : Nat} (hk : k < T.length) {a b : Nat} (h : Sd (T.getD k (0, 0, 0)) a b) :
    (nx a = b ∧ rgt (leftF T T.length) a b = -1) ∨ (nx a ≠ b ∧ ∃ j : Nat, j < T.length ∧ rgt (leftF T T.length) a b = j ∧ Sd (T.getD j (0, 0, 0)) b a) := by
  have kk := Sd.known hm I (t3_at hk) h
  by_cases e : nx a = b
  · refine .inl ⟨e, ?_⟩
    unfold rgt
    cases q : leftF T T.length b a with
    | none => rfl
    | some v =>
      obtain ⟨i, hi, _, hsd⟩ := leftF_some q
      have := Sd.known hm I (t3_at hi) hsd
      rw [← e] at this
      exact absurd this (I.front.nb a (I.front.fa _ _ kk))
  · refine .inr ⟨e, ?_⟩
    obtain ⟨c, hc⟩ := I.full _ _ (I.front.pair _ _ kk e)
    obtain ⟨i, hi, hsd⟩ := Sd.of_th hm I hc
    unfold rgt
    cases q : leftF T T.length b a with
    | none => exact absurd hsd (leftF_none q i hi)
    | some v =>
      obtain ⟨j, hj, rfl, hsd⟩ := leftF_some q
      exact ⟨j, hj, rfl, hsd⟩
theorem rgt_back (hs : T.Pairwise lt3) (hm : ∀ i j u, (i, j, u) ∈ T ↔ F i j = some (u : Int) ∧ i < j ∧ i < u) (I : FInv V n nx pv L F L.length) {k : Nat} (hk : k < T.length) {a b : Nat} (h : Sd (T.getD k (0, 0, 0)) a b) : rgt (leftF T T.length) b a = k := by
  unfold rgt
  cases q : leftF T T.length a b with
  | none => exact absurd h (leftF_none q k hk)
  | some v =>
    obtain ⟨j, hj, rfl, hsd⟩ := leftF_some q
    rw [Sd.one hs hm I hj hk hsd h]
    rfl
end
theorem own_iff {rs : List (List IP)} (G : Good rs) {a b : Nat} (ha : a < (verts rs).length) (hb : b < (verts rs).length) : (∃ k, k < rs.length ∧ OwnK rs a b k) ↔ bnx rs a = b ∨ bnx rs b = a := by
  have U := G.uni
  have num : ∀ i, i < (verts rs).length → ∃ k x, k < rs.length ∧ x < (rg rs k).length ∧ i = off rs k + x := fun i hi => num_of rs i hi
  have step : ∀ k x, k < rs.length → x < (rg rs k).length → bnx rs (off rs k + x) = off rs k + nkk (trB rs k) (rg rs k).length x := fun k x hk hx => U.nx k x hk hx
  have cyc : ∀ k x, k < rs.length → x < (rg rs k).length → (trB rs k = false ∧ ((nkk (trB rs k) (rg rs k).length x = x + 1 ∧ x + 1 < (rg rs k).length) ∨ (nkk (trB rs k) (rg rs k).length x = 0 ∧ x + 1 = (rg rs k).length))) ∨ (trB rs k = true ∧ ((nkk (trB rs k) (rg rs k).length x + 1 = x) ∨ (x = 0 ∧ nkk (trB rs k) (rg rs k).length x + 1 = (rg rs k).length))) := by
    intro k x hk hx
    cases ht : trB rs k with
    | false =>
      refine .inl ⟨rfl, ?_⟩
      show (nxm _ x = _ ∧ _) ∨ (nxm _ x = _ ∧ _)
      exact nxm_cases hx
    | true =>
      refine .inr ⟨rfl, ?_⟩
      show pvm _ x + 1 = x ∨ (x = 0 ∧ pvm _ x + 1 = _)
      unfold pvm
      by_cases h0 : x = 0
      · refine .inr ⟨h0, ?_⟩
        rw [h0, Nat.zero_add, Nat.mod_eq_of_lt (by omega)]
        omega
      · refine .inl ?_
        rw [show x + ((rg rs k).length - 1) = (x - 1) + (rg rs k).length by omega, Nat.add_mod_right, Nat.mod_eq_of_lt (by omega)]
        omega
  constructor
  · rintro ⟨k, hk, h1, h2, h3, h4, h5⟩
    obtain ⟨x, rfl⟩ : ∃ x, a = off rs k + x := ⟨a - off rs k, by omega⟩
    obtain ⟨y, rfl⟩ : ∃ y, b = off rs k + y := ⟨b - off rs k, by omega⟩
    have hx : x < (rg rs k).length := by omega
    have hy : y < (rg rs k).length := by omega
    rw [step k x hk hx, step k y hk hy]
    have c1 := cyc k x hk hx
    have c2 := cyc k y hk hy
    have h3 := G.three k hk
    generalize nkk (trB rs k) (rg rs k).length x = X at *
    generalize nkk (trB rs k) (rg rs k).length y = Y at *
    generalize (rg rs k).length = n at *
    cases ht : trB rs k <;> rw [ht] at c1 c2 <;> simp at c1 c2 <;> omega
  · have half : ∀ a b, a < (verts rs).length → b < (verts rs).length → bnx rs a = b → ∃ k, k < rs.length ∧ off rs k ≤ a ∧ a < off rs k + (rg rs k).length ∧ off rs k ≤ b ∧ b < off rs k + (rg rs k).length ∧ (a = b + 1 ∨ b = a + 1 ∨ a + 1 = b + (rg rs k).length ∨ b + 1 = a + (rg rs k).length) := by
      intro a b ha hb h
      obtain ⟨k, x, hk, hx, rfl⟩ := num a ha
      rw [step k x hk hx] at h
      have c1 := cyc k x hk hx
      have h3 := G.three k hk
      refine ⟨k, hk, ?_⟩
      generalize nkk (trB rs k) (rg rs k).length x = X at *
      generalize (rg rs k).length = n at *
      cases ht : trB rs k <;> rw [ht] at c1 <;> simp at c1 <;> refine ⟨by omega, by omega, by omega, by omega, by omega⟩
    rintro (h | h)
    · exact half a b ha hb h
    · obtain ⟨k, hk, h1, h2, h3, h4, h5⟩ := half b a hb ha h
      exact ⟨k, hk, h3, h4, h1, h2, by omega⟩
end Go.Proofs.Ytdkaoopkbhaheaa
