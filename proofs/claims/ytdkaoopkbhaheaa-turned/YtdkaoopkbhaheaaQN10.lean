import Derived.Test.YtdkaoopkbhaheaaPN8
namespace Go.Proofs.Ytdkaoopkbhaheaa
open Go.RowKit Go.Lib
open Jor
set_option linter.unusedVariables false
set_option linter.unusedSimpArgs false
def KF (F : Nat → Nat → Option Int) (a b : Nat) : Prop := F a b ≠ none
def thF (F : Nat → Nat → Option Int) (a b : Nat) : Option Nat := match F a b with | some v => if 0 ≤ v then some v.toNat else none | none => none
theorem thF_some {F : Nat → Nat → Option Int} {a b v : Nat} (h : F a b = some (v : Int)) : thF F a b = some v := by unfold thF; rw [h]; simp
theorem thF_uncut {F : Nat → Nat → Option Int} {a b : Nat} (h : F a b = some (-1)) : thF F a b = none := by unfold thF; rw [h]; rfl
theorem thF_none {F : Nat → Nat → Option Int} {a b : Nat} (h : F a b = none) : thF F a b = none := by unfold thF; rw [h]
theorem layF_at (F : Nat → Nat → Option Int) {a b v : Nat} (ab : a ≠ b) (va : v ≠ a) (vb : v ≠ b) (k : F a b ≠ none) (x y : Nat) :
    layF F a b v 3 x y = if x = v ∧ y = a then some (b : Int) else if F v a = none ∧ x = a ∧ y = v then some (-1) else if x = b ∧ y = v then some (a : Int) else if F b v = none ∧ x = v ∧ y = b then some (-1) else if x = a ∧ y = b then some (v : Int) else F x y := by
  have s1 : layF F a b v 1 = upd F a b v := by
    have : layF F a b v 1 = sideF F a b v := rfl
    rw [this]
    unfold sideF
    rw [if_neg]
    simpa using k
  have e1 : layF F a b v 1 b v = F b v := by rw [s1]; unfold upd; rw [if_neg (by omega)]
  have s2 : layF F a b v 2 = upd (if F b v = none then upd (upd F a b v) v b (-1) else upd F a b v) b v a := by
    have : layF F a b v 2 = sideF (layF F a b v 1) b v a := rfl
    rw [this]
    unfold sideF
    rw [e1, s1]
    cases F b v <;> rfl
  have e2 : layF F a b v 2 v a = F v a := by
    rw [s2]
    unfold upd
    rw [if_neg (by omega)]
    split
    · show (if v = v ∧ a = b then some (-1) else if v = a ∧ a = b then some (v : Int) else F v a) = F v a
      rw [if_neg (by omega), if_neg (by omega)]
    · show (if v = a ∧ a = b then some (v : Int) else F v a) = F v a
      rw [if_neg (by omega)]
  have s3 : layF F a b v 3 = upd (if F v a = none then upd (layF F a b v 2) a v (-1) else layF F a b v 2) v a b := by
    have : layF F a b v 3 = sideF (layF F a b v 2) v a b := rfl
    rw [this]
    unfold sideF
    rw [e2]
    cases F v a <;> rfl
  rw [s3, s2]
  unfold upd
  by_cases q1 : F v a = none <;> by_cases q2 : F b v = none
  · simp only [q1, q2, if_true, true_and]
  · simp only [q1, q2, if_true, if_false, true_and, false_and]
  · simp only [q1, q2, if_true, if_false, true_and, false_and]
  · simp only [q1, q2, if_false, false_and]
theorem layL_eq (F : Nat → Nat → Option Int) (L : List (Nat × Nat)) {a b v : Nat} (ab : a ≠ b) (va : v ≠ a) (vb : v ≠ b) (k : F a b ≠ none) :
    layL F L a b v 3 = L ++ (if F b v = none then [(v, b)] else []) ++ (if F v a = none then [(a, v)] else []) := by
  have s1 : layF F a b v 1 = upd F a b v := by
    have : layF F a b v 1 = sideF F a b v := rfl
    rw [this]
    unfold sideF
    rw [if_neg]
    simpa using k
  have e1 : layF F a b v 1 b v = F b v := by rw [s1]; unfold upd; rw [if_neg (by omega)]
  have s2 : layF F a b v 2 = upd (if F b v = none then upd (upd F a b v) v b (-1) else upd F a b v) b v a := by
    have : layF F a b v 2 = sideF (layF F a b v 1) b v a := rfl
    rw [this]
    unfold sideF
    rw [e1, s1]
    cases F b v <;> rfl
  have e2 : layF F a b v 2 v a = F v a := by
    rw [s2]
    unfold upd
    rw [if_neg (by omega)]
    split
    · show (if v = v ∧ a = b then some (-1) else if v = a ∧ a = b then some (v : Int) else F v a) = F v a
      rw [if_neg (by omega), if_neg (by omega)]
    · show (if v = a ∧ a = b then some (v : Int) else F v a) = F v a
      rw [if_neg (by omega)]
  have l1 : layL F L a b v 1 = L := by
    have : layL F L a b v 1 = sideL F L a b := rfl
    rw [this]
    unfold sideL
    rw [if_neg]
    simpa using k
  have l2 : layL F L a b v 2 = L ++ (if F b v = none then [(v, b)] else []) := by
    have : layL F L a b v 2 = sideL (layF F a b v 1) (layL F L a b v 1) b v := rfl
    rw [this]
    unfold sideL
    rw [e1, l1]
    cases F b v <;> simp
  have : layL F L a b v 3 = sideL (layF F a b v 2) (layL F L a b v 2) v a := rfl
  rw [this]
  unfold sideL
  rw [e2, l2]
  cases F v a <;> simp
structure FInv (V : Nat → IP) (n : Nat) (nx pv : Nat → Nat) (L : List (Nat × Nat)) (F : Nat → Nat → Option Int) (i : Nat) : Prop where
  front : Front (fun i => toR (V i)) n nx pv (KF F) (thF F)
  del : Del (fun i => toR (V i)) n (KF F) (thF F)
  vals : ∀ a b v, F a b = some v → v = -1 ∨ (0 ≤ v ∧ v < n)
  ek : ∀ e ∈ L, KF F e.1 e.2
  ke : ∀ a b, KF F a b → (a, b) ∈ L ∨ (b, a) ∈ L
  kc : ∀ a b, KF F a b → thF F a b ≠ none ∨ (a, b) ∈ L
  done : ∀ u, u < i → thF F (L.getD u (0, 0)).1 (L.getD u (0, 0)).2 ≠ none
  few : (L.length : Int) ≤ n + 2 * cuts n (thF F)
  il : i ≤ L.length
section
variable {V : Nat → IP} {n : Nat} {nx pv : Nat → Nat} {L : List (Nat × Nat)} {F : Nat → Nat → Option Int} {i : Nat}
theorem getD_in {α : Type} {l : List α} {u : Nat} {d : α} (h : u < l.length) : l.getD u d ∈ l := by
  rw [getD_elem _ _ _ h]; exact List.getElem_mem h
theorem FInv.lt (I : FInv V n nx pv L F i) : ∀ u, u < L.length → (L.getD u (0, 0)).1 < n ∧ (L.getD u (0, 0)).2 < n := fun u hu => ⟨I.front.fa _ _ (I.ek _ (getD_in hu)), I.front.fb _ _ (I.ek _ (getD_in hu))⟩
theorem FInv.ek2 (I : FInv V n nx pv L F i) : ∀ u, u < L.length → KF F (L.getD u (0, 0)).1 (L.getD u (0, 0)).2 ∨ KF F (L.getD u (0, 0)).2 (L.getD u (0, 0)).1 := fun u hu => .inl (I.ek _ (getD_in hu))
theorem mem_get {l : List (Nat × Nat)} {e : Nat × Nat} (h : e ∈ l) : ∃ u, u < l.length ∧ l.getD u (0, 0) = e := by
  obtain ⟨u, hu, he⟩ := List.getElem_of_mem h
  exact ⟨u, hu, by rw [getD_elem _ _ _ hu]; exact he⟩
theorem FInv.ke2 (I : FInv V n nx pv L F i) : ∀ a b, KF F a b → ∃ u, u < L.length ∧ (L.getD u (0, 0) = (a, b) ∨ L.getD u (0, 0) = (b, a)) := fun a b k => by
  rcases I.ke a b k with h | h
  · obtain ⟨u, hu, e⟩ := mem_get h
    exact ⟨u, hu, .inl e⟩
  · obtain ⟨u, hu, e⟩ := mem_get h
    exact ⟨u, hu, .inr e⟩
theorem FInv.skip (I : FInv V n nx pv L F i) (hi : i < L.length) {u : Int} (h : F (L.getD i (0, 0)).1 (L.getD i (0, 0)).2 = some u) (hu : u ≠ -1) : FInv V n nx pv L F (i + 1) :=
  ⟨I.front, I.del, I.vals, I.ek, I.ke, I.kc, fun q hq => by
    rcases Nat.lt_or_ge q i with g | g
    · exact I.done q g
    · have : q = i := by omega
      subst this
      unfold thF
      rw [h]
      have := I.vals _ _ _ h
      simp only
      rw [if_pos (by omega)]
      simp, I.few, by omega⟩
theorem FInv.step (near : ∀ i, i < n → nearP (V i)) (G : Bd (fun i => toR (V i)) n nx pv) (I : FInv V n nx pv L F i) (hi : i < L.length) (h : F (L.getD i (0, 0)).1 (L.getD i (0, 0)).2 = some (-1)) :
    ∃ v, bst V n (fun u => L.getD u (0, 0)) L.length (L.getD i (0, 0)).1 (L.getD i (0, 0)).2 n = some v ∧ v < n ∧
      FInv V n nx pv (layL F L (L.getD i (0, 0)).1 (L.getD i (0, 0)).2 v 3) (layF F (L.getD i (0, 0)).1 (L.getD i (0, 0)).2 v 3) (i + 1) := by
  have hm := getD_in (d := (0, 0)) hi
  have k := I.ek _ hm
  generalize he : L.getD i (0, 0) = e at *
  obtain ⟨a, b⟩ := e
  simp only at k h
  have ha := I.front.fa _ _ k
  have hb := I.front.fb _ _ k
  have B := bst_ok near I.lt I.ek2 I.ke2 ha hb n (Nat.le_refl _)
  obtain ⟨z, Cz⟩ := apex G I.front k
  cases hbst : bst V n (fun u => L.getD u (0, 0)) L.length a b n with
  | none =>
    rw [hbst] at B
    exact absurd Cz (B z Cz.lt)
  | some v =>
    rw [hbst] at B
    obtain ⟨hv, C, best⟩ := B
    refine ⟨v, rfl, hv, ?_⟩
    have va := C.va; have vb := C.vb; have ab := C.ab
    have u := thF_uncut h
    have kn : F a b ≠ none := by rw [h]; simp
    have FA := layF_at F ab va vb kn
    have LE := layL_eq F L ab va vb kn
    obtain ⟨_, nvb⟩ := corner_b G I.front k C
    obtain ⟨nav, _⟩ := corner_a G I.front k C
    have kb : F v b ≠ none → F b v ≠ none := fun g => I.front.pair _ _ g nvb
    have ka : F a v ≠ none → F v a ≠ none := fun g => I.front.pair _ _ g nav
    have KE : KF (layF F a b v 3) = K2 (KF F) a b v := by
      funext x y
      apply propext
      unfold KF K2
      rw [FA]
      by_cases c1 : x = v ∧ y = a
      · rw [if_pos c1]; simp [c1]
      · rw [if_neg c1]
        by_cases c2 : F v a = none ∧ x = a ∧ y = v
        · rw [if_pos c2]; simp [c2]
        · rw [if_neg c2]
          by_cases c3 : x = b ∧ y = v
          · rw [if_pos c3]; simp [c3]
          · rw [if_neg c3]
            by_cases c4 : F b v = none ∧ x = v ∧ y = b
            · rw [if_pos c4]; simp [c4]
            · rw [if_neg c4]
              by_cases c5 : x = a ∧ y = b
              · rw [if_pos c5]
                obtain ⟨rfl, rfl⟩ := c5
                simp [kn]
              · rw [if_neg c5]
                constructor
                · intro g; exact .inl g
                · rintro (g | g | ⟨g1, g2, g3⟩ | g | ⟨g1, g2, g3⟩)
                  · exact g
                  · exact absurd g c3
                  · exact absurd ⟨by simpa using g3, g1, g2⟩ c4
                  · exact absurd g c1
                  · exact absurd ⟨by simpa using g3, g1, g2⟩ c2
    have TE : thF (layF F a b v 3) = th2 (thF F) a b v := by
      funext x y
      unfold th2
      have e := FA x y
      by_cases c5 : x = a ∧ y = b
      · rw [if_pos c5]
        rw [if_neg (by omega), if_neg (by omega), if_neg (by omega), if_neg (by omega), if_pos c5] at e
        exact thF_some e
      · rw [if_neg c5]
        by_cases c3 : x = b ∧ y = v
        · rw [if_pos c3]
          rw [if_neg (by omega), if_neg (by omega), if_pos c3] at e
          exact thF_some e
        · rw [if_neg c3]
          by_cases c1 : x = v ∧ y = a
          · rw [if_pos c1]
            rw [if_pos c1] at e
            exact thF_some e
          · rw [if_neg c1]
            rw [if_neg c1] at e
            by_cases c2 : F v a = none ∧ x = a ∧ y = v
            · rw [if_pos c2] at e
              rw [thF_uncut e]
              have : F x y = none := by
                rw [c2.2.1, c2.2.2]
                cases q : F a v with
                | none => rfl
                | some t => exact absurd c2.1 (ka (by rw [q]; simp))
              rw [thF_none this]
            · rw [if_neg c2, if_neg c3] at e
              by_cases c4 : F b v = none ∧ x = v ∧ y = b
              · rw [if_pos c4] at e
                rw [thF_uncut e]
                have : F x y = none := by
                  rw [c4.2.1, c4.2.2]
                  cases q : F v b with
                  | none => rfl
                  | some t => exact absurd c4.1 (kb (by rw [q]; simp))
                rw [thF_none this]
              · rw [if_neg c4, if_neg c5] at e
                unfold thF
                rw [e]
    have fr := lay_front G I.front k C u
    have dl := lay_del G I.front I.del k C u (fun z Cz => best z Cz.lt Cz)
    have up : ∀ x y, thF F x y ≠ none → thF (layF F a b v 3) x y ≠ none := by
      intro x y g
      rw [TE]
      unfold th2
      split
      · simp
      · split
        · simp
        · split
          · simp
          · exact g
    have mem : ∀ e, e ∈ L → e ∈ layL F L a b v 3 := fun e g => by
      rw [LE]; simp [g]
    have pre : ∀ q, q < L.length → (layL F L a b v 3).getD q (0, 0) = L.getD q (0, 0) := fun q hq => by
      rw [LE, List.append_assoc, getD_app _ _ _ _ hq]
    refine ⟨by rw [KE, TE]; exact fr, by rw [KE, TE]; exact dl, ?_, ?_, ?_, ?_, ?_, ?_, ?_⟩
    · intro x y t g
      rw [FA] at g
      split at g
      · cases g; right; omega
      · split at g
        · cases g; left; rfl
        · split at g
          · cases g; right; omega
          · split at g
            · cases g; left; rfl
            · split at g
              · cases g; right; omega
              · exact I.vals _ _ _ g
    · intro e g
      rw [KE]
      rw [LE, List.mem_append, List.mem_append] at g
      rcases g with (g | g) | g
      · exact .inl (I.ek e g)
      · split at g
        · next q =>
          simp only [List.mem_singleton] at g
          subst g
          exact .inr (.inr (.inl ⟨rfl, rfl, by unfold KF; simp [q]⟩))
        · simp at g
      · split at g
        · next q =>
          simp only [List.mem_singleton] at g
          subst g
          exact .inr (.inr (.inr (.inr ⟨rfl, rfl, by unfold KF; simp [q]⟩)))
        · simp at g
    · intro x y g
      rw [KE] at g
      have old : ∀ x y, KF F x y → (x, y) ∈ layL F L a b v 3 ∨ (y, x) ∈ layL F L a b v 3 := fun x y g => (I.ke x y g).imp (mem _) (mem _)
      have new1 : F b v = none → (v, b) ∈ layL F L a b v 3 := fun q => by rw [LE]; simp [q]
      have new2 : F v a = none → (a, v) ∈ layL F L a b v 3 := fun q => by rw [LE]; simp [q]
      rcases g with g | ⟨rfl, rfl⟩ | ⟨rfl, rfl, g⟩ | ⟨rfl, rfl⟩ | ⟨rfl, rfl, g⟩
      · exact old x y g
      · by_cases q : F x y = none
        · exact .inr (new1 q)
        · exact old _ _ q
      · exact .inl (new1 (by simpa [KF] using g))
      · by_cases q : F x y = none
        · exact .inr (new2 q)
        · exact old _ _ q
      · exact .inl (new2 (by simpa [KF] using g))
    · intro x y g
      rw [KE] at g
      have new1 : F b v = none → (v, b) ∈ layL F L a b v 3 := fun q => by rw [LE]; simp [q]
      have new2 : F v a = none → (a, v) ∈ layL F L a b v 3 := fun q => by rw [LE]; simp [q]
      rcases g with g | ⟨rfl, rfl⟩ | ⟨rfl, rfl, g⟩ | ⟨rfl, rfl⟩ | ⟨rfl, rfl, g⟩
      · exact (I.kc x y g).imp (up _ _) (mem _)
      · left; rw [TE]; unfold th2; rw [if_neg (by omega), if_pos ⟨rfl, rfl⟩]; simp
      · exact .inr (new1 (by simpa [KF] using g))
      · left; rw [TE]; unfold th2; rw [if_neg (by omega), if_neg (by omega), if_pos ⟨rfl, rfl⟩]; simp
      · exact .inr (new2 (by simpa [KF] using g))
    · intro q hq
      rcases Nat.lt_or_ge q i with g | g
      · rw [pre q (by omega)]
        exact up _ _ (I.done q g)
      · have : q = i := by omega
        subst this
        rw [pre q hi, he, TE]
        unfold th2
        rw [if_pos ⟨rfl, rfl⟩]; simp
    · have cm := cuts_more (v := v) I.front k u
      have fw := I.few
      rw [TE, LE]
      generalize cuts n (thF F) = c1 at *
      generalize cuts n (th2 (thF F) a b v) = c2 at *
      have l1 : (if F b v = none then [(v, b)] else ([] : List (Nat × Nat))).length ≤ 1 := by split <;> simp
      have l2 : (if F v a = none then [(a, v)] else ([] : List (Nat × Nat))).length ≤ 1 := by split <;> simp
      rw [List.length_append, List.length_append]
      omega
    · rw [LE, List.length_append, List.length_append]
      omega
theorem FInv.full (I : FInv V n nx pv L F L.length) : Full (KF F) (thF F) := by
  intro a b k
  rcases I.kc a b k with h | h
  · cases q : thF F a b with
    | none => exact absurd q h
    | some v => exact ⟨v, rfl⟩
  · obtain ⟨u, hu, e⟩ := mem_get h
    have := I.done u hu
    rw [e] at this
    cases q : thF F a b with
    | none => exact absurd q this
    | some v => exact ⟨v, rfl⟩
theorem FInv.bound (I : FInv V n nx pv L F i) (hn : n ≤ 64) : L.length ≤ 10000 := by
  have h1 := I.few
  have h2 := cuts_le n (thF F)
  have h3 : (n : Int) * n ≤ 64 * 64 := by
    have : n * n ≤ 64 * 64 := Nat.mul_le_mul hn hn
    exact_mod_cast this
  omega
end
end Go.Proofs.Ytdkaoopkbhaheaa
