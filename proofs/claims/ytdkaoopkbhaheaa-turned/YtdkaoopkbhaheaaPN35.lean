import Derived.Test.YtdkaoopkbhaheaaPN19
import Derived.Test.YtdkaoopkbhaheaaQM29
import Derived.Test.YtdkaoopkbhaheaaPN22
namespace Go.Proofs.Ytdkaoopkbhaheaa
open Go.RowKit Go.Lib
open Jor
open scoped Classical
set_option linter.unusedVariables false
set_option linter.unusedSimpArgs false
set_option linter.unusedSectionVars false
theorem nkk_lt {b : Bool} {n i : Nat} (hi : i < n) : nkk b n i < n := by
  cases b
  · exact Nat.mod_lt _ (by omega)
  · exact Nat.mod_lt _ (by omega)
theorem nxm_lt {n i : Nat} (hi : i < n) : nxm n i < n := Nat.mod_lt _ (by omega)
theorem pvm_lt {n i : Nat} (hi : i < n) : pvm n i < n := Nat.mod_lt _ (by omega)
structure Trd (rs us : List (List IP)) (pi pi' : Nat → Nat) (fl : Nat → Bool) (ta ta' : Nat → Nat → Nat) : Prop where
  len : us.length = rs.length
  lt : ∀ k, k < us.length → pi k < us.length
  lt' : ∀ k, k < us.length → pi' k < us.length
  inv : ∀ k, k < us.length → pi' (pi k) = k
  inv' : ∀ k, k < us.length → pi (pi' k) = k
  zero : pi 0 = 0
  zero' : pi' 0 = 0
  rl : ∀ k, k < us.length → (rg us k).length = (rg rs (pi k)).length
  tl : ∀ k i, k < us.length → i < (rg us k).length → ta k i < (rg us k).length
  tl' : ∀ k i, k < us.length → i < (rg us k).length → ta' k i < (rg us k).length
  ti : ∀ k i, k < us.length → i < (rg us k).length → ta' k (ta k i) = i
  ti' : ∀ k i, k < us.length → i < (rg us k).length → ta k (ta' k i) = i
  at_ : ∀ k i, k < us.length → i < (rg us k).length → pt (rg us k) i = pt (rg rs (pi k)) (ta k i)
  nx : ∀ k i, k < us.length → i < (rg us k).length → ta k (nxm (rg us k).length i) = nkk (fl k) (rg us k).length (ta k i)
section
variable {rs us : List (List IP)} {pi pi' : Nat → Nat} {fl : Nat → Bool} {ta ta' : Nat → Nat → Nat}
theorem Trd.rl' (H : Trd rs us pi pi' fl ta ta') {k : Nat} (hk : k < us.length) : (rg us (pi' k)).length = (rg rs k).length := by
  rw [H.rl _ (H.lt' k hk), H.inv' k hk]
theorem Trd.symm (H : Trd rs us pi pi' fl ta ta') : Trd us rs pi' pi (fun k => fl (pi' k)) (fun k => ta' (pi' k)) (fun k => ta (pi' k)) where
  len := H.len.symm
  lt := fun k hk => by rw [← H.len] at *; exact H.lt' k hk
  lt' := fun k hk => by rw [← H.len] at *; exact H.lt k hk
  inv := fun k hk => H.inv' k (by rw [H.len]; exact hk)
  inv' := fun k hk => H.inv k (by rw [H.len]; exact hk)
  zero := H.zero'
  zero' := H.zero
  rl := fun k hk => (H.rl' (by rw [H.len]; exact hk)).symm
  tl := fun k i hk hi => by
    have hk := H.len ▸ hk
    rw [← H.rl' hk] at *; exact H.tl' _ i (H.lt' k hk) hi
  tl' := fun k i hk hi => by
    have hk := H.len ▸ hk
    rw [← H.rl' hk] at *; exact H.tl _ i (H.lt' k hk) hi
  ti := fun k i hk hi => by
    have hk := H.len ▸ hk
    rw [← H.rl' hk] at hi; exact H.ti' _ i (H.lt' k hk) hi
  ti' := fun k i hk hi => by
    have hk := H.len ▸ hk
    rw [← H.rl' hk] at hi; exact H.ti _ i (H.lt' k hk) hi
  at_ := fun k i hk hi => by
    have hk := H.len ▸ hk
    rw [← H.rl' hk] at hi
    have hj := H.tl' _ i (H.lt' k hk) hi
    rw [H.at_ _ _ (H.lt' k hk) hj, H.inv' k hk, H.ti' _ i (H.lt' k hk) hi]
  nx := fun k i hk hi => by
    have hk := H.len ▸ hk
    rw [← H.rl' hk] at *
    have hp := H.lt' k hk
    have hj := H.tl' _ i hp hi
    generalize pi' k = m at *
    have e := H.ti' m i hp hi
    cases q : fl m with
    | false =>
      have h := H.nx m (ta' m i) hp hj
      rw [q, e] at h
      show ta' m (nxm _ i) = nxm _ (ta' m i)
      rw [← H.ti m _ hp (nxm_lt hj), h]; rfl
    | true =>
      have hpv := pvm_lt hj
      have h := H.nx m (pvm (rg us m).length (ta' m i)) hp hpv
      rw [np_mod hj, q, e] at h
      show ta' m (nxm _ i) = pvm _ (ta' m i)
      have h : i = pvm (rg us m).length (ta m (pvm (rg us m).length (ta' m i))) := h
      have h2 := np_mod (H.tl m _ hp hpv)
      rw [← h] at h2
      rw [h2, H.ti m _ hp hpv]
theorem mem_verts {rs : List (List IP)} {v : IP} : v ∈ rs.flatten ↔ ∃ k i, k < rs.length ∧ i < (rg rs k).length ∧ v = pt (rg rs k) i := by
  constructor
  · intro h
    obtain ⟨m, hm, e⟩ := List.getElem_of_mem h
    obtain ⟨k, i, hk, hi, rfl⟩ := num_of rs m hm
    refine ⟨k, i, hk, hi, ?_⟩
    rw [← (pt_at rs k i hi).1]
    unfold pt
    rw [getD_elem _ _ _ hm]; exact e.symm
  · rintro ⟨k, i, hk, hi, rfl⟩
    rw [← (pt_at rs k i hi).1]
    exact pt_mem (pt_at rs k i hi).2
theorem off_sum (rs : List (List IP)) : ∀ m, m ≤ rs.length → (off rs m : Int) = sm (fun k => ((rg rs k).length : Int)) m := by
  intro m
  induction m with
  | zero => intro _; rw [off_zero]; rfl
  | succ m ih => intro h; rw [off_succ rs m (by omega), sm, ← ih (by omega)]; omega
theorem Trd.size (H : Trd rs us pi pi' fl ta ta') : us.flatten.length = rs.flatten.length := by
  have e1 := off_sum us us.length (Nat.le_refl _)
  have e2 := off_sum rs rs.length (Nat.le_refl _)
  rw [off_end] at e1 e2
  have e3 : sm (fun k => ((rg us k).length : Int)) us.length = sm (fun k => ((rg rs k).length : Int)) rs.length := by
    rw [← H.len, ← sm_perm (fun k => ((rg rs k).length : Int)) us.length pi pi' H.lt H.lt' H.inv H.inv']
    exact sm_congr fun k hk => by rw [H.rl k hk]
  omega
theorem Trd.short (H : Trd rs us pi pi' fl ta ta') (h : Short us) : Short rs := by
  obtain ⟨r, hr, h⟩ := h
  obtain ⟨k, hk, e⟩ := List.getElem_of_mem hr
  have e' : rg us k = r := by unfold rg; rw [getD_elem _ _ _ hk]; exact e
  exact ⟨rg rs (pi k), rg_mem (by rw [← H.len]; exact H.lt k hk), by rw [← H.rl k hk, e']; exact h⟩
theorem Trd.far (H : Trd rs us pi pi' fl ta ta') (h : Far us) : Far rs := by
  rcases h with h | ⟨v, hv, h⟩
  · exact .inl (by rw [← H.size]; exact h)
  · obtain ⟨k, i, hk, hi, rfl⟩ := mem_verts.1 hv
    exact .inr ⟨_, mem_verts.2 ⟨pi k, ta k i, by rw [← H.len]; exact H.lt k hk, by rw [← H.rl k hk]; exact H.tl k i hk hi, H.at_ k i hk hi⟩, h⟩
theorem off_ne {rs : List (List IP)} {k l a b : Nat} (hk : k < rs.length) (hl : l < rs.length) (ha : a < (rg rs k).length) (hb : b < (rg rs l).length) (h : off rs k + a = off rs l + b) : k = l ∧ a = b := by
  rcases Nat.lt_trichotomy k l with u | u | u
  · have := off_mono rs k l u hk; omega
  · subst u; exact ⟨rfl, by omega⟩
  · have := off_mono rs l k u hl; omega
theorem Trd.twice (H : Trd rs us pi pi' fl ta ta') (h : Twice us) : Twice rs := by
  obtain ⟨i, j, hj, hi, e⟩ := h
  obtain ⟨k, a, hk, ha, rfl⟩ := num_of us i hi
  obtain ⟨l, b, hl, hb, rfl⟩ := num_of us j (by omega)
  rw [(pt_at us k a ha).1, (pt_at us l b hb).1, H.at_ k a hk ha, H.at_ l b hl hb] at e
  have hk' : pi k < rs.length := by rw [← H.len]; exact H.lt k hk
  have hl' : pi l < rs.length := by rw [← H.len]; exact H.lt l hl
  have ha' : ta k a < (rg rs (pi k)).length := by rw [← H.rl k hk]; exact H.tl k a hk ha
  have hb' : ta l b < (rg rs (pi l)).length := by rw [← H.rl l hl]; exact H.tl l b hl hb
  have p1 := pt_at rs _ _ ha'
  have p2 := pt_at rs _ _ hb'
  rw [← p1.1, ← p2.1] at e
  rcases Nat.lt_trichotomy (off rs (pi k) + ta k a) (off rs (pi l) + ta l b) with u | u | u
  · exact ⟨_, _, u, p2.2, e.symm⟩
  · obtain ⟨e1, e2⟩ := off_ne hk' hl' ha' hb' u
    have : k = l := by rw [← H.inv k hk, e1, H.inv l hl]
    subst this
    have : a = b := by rw [← H.ti k a hk ha, e2, H.ti k b hk hb]
    subst this
    omega
  · exact ⟨_, _, u, p1.2, e⟩
structure Fre (rs : List (List IP)) : Prop where
  far : ∀ k l a b, k < rs.length → l < rs.length → a < (rg rs k).length → b < (rg rs l).length → ¬ (k = l ∧ a = b) → ¬ (k = l ∧ nxm (rg rs k).length a = b) → ¬ (k = l ∧ nxm (rg rs k).length b = a) →
    ¬ MtI (pt (rg rs k) a) (pt (rg rs k) (nxm (rg rs k).length a)) (pt (rg rs l) b) (pt (rg rs l) (nxm (rg rs l).length b))
  next : ∀ k a, k < rs.length → a < (rg rs k).length → ¬ OnI (pt (rg rs k) a) (pt (rg rs k) (nxm (rg rs k).length a)) (pt (rg rs k) (nxm (rg rs k).length (nxm (rg rs k).length a))) ∧ ¬ OnI (pt (rg rs k) (nxm (rg rs k).length (nxm (rg rs k).length a))) (pt (rg rs k) a) (pt (rg rs k) (nxm (rg rs k).length a))
theorem fre_of {rs : List (List IP)} (S : Sound rs) (hT : ¬ TouchR rs) : Fre rs where
  far := fun k l a b hk hl ha hb h0 h1 h2 => far_edges S hT hk hl ha hb (fun e => h0 (off_ne hk hl ha hb e)) h1 h2
  next := fun k a hk ha => by
    have := next_edges S hT hk ha
    have e : nxm (rg rs k).length (nxm (rg rs k).length a) = (a + 2) % (rg rs k).length := by unfold nxm; rw [Nat.mod_add_mod]
    rw [e]; exact this
theorem near_at {rs : List (List IP)} (S : Sound rs) {k i : Nat} (hi : i < (rg rs k).length) : nearP (pt (rg rs k) i) := by
  have := pt_at rs k i hi
  rw [← this.1]; exact S.near _ this.2
theorem Fre.touch {rs : List (List IP)} (S : Sound rs) (R : Fre rs) : ¬ TouchP rs := by
  rintro ⟨i, j, hj, hi, h⟩
  obtain ⟨k, a, hk, ha, rfl⟩ := num_of rs i hi
  obtain ⟨l, b, hl, hb, rfl⟩ := num_of rs j (by omega)
  have n1 := near_at S ha
  have n2 := near_at S (nxm_lt ha)
  have n3 := near_at S hb
  have n4 := near_at S (nxm_lt hb)
  unfold touchE at h
  have e1 : ed rs (off rs k + a) = (off rs k + a, off rs k + nxm (rg rs k).length a) := ed_at rs k a ha
  have e2 : ed rs (off rs l + b) = (off rs l + b, off rs l + nxm (rg rs l).length b) := ed_at rs l b hb
  rw [e1, e2] at h
  simp only at h
  rw [(pt_at rs k a ha).1, (pt_at rs l b hb).1, (pt_at rs k _ (nxm_lt ha)).1, (pt_at rs l _ (nxm_lt hb)).1] at h
  unfold touchB at h
  simp only at h
  have on : ∀ {p x y : IP}, nearP p → nearP x → nearP y → meetB p.1 p.2 p.1 p.2 x.1 x.2 y.1 y.2 = true → OnI p x y := fun hp hx hy q => by
    rw [meet_on _ _ _ hp hx hy] at q
    exact (onB_iff _ _ _ _ _ _ hp hx hy).1 q
  by_cases c1 : off rs k + nxm (rg rs k).length a = off rs l + b
  · obtain ⟨rfl, rfl⟩ := off_ne hk hl (nxm_lt ha) hb c1
    rw [if_pos rfl] at h
    unfold foldB at h
    rw [Bool.or_eq_true] at h
    obtain ⟨q1, q2⟩ := R.next k a hk ha
    rcases h with h | h
    · exact q1 (on n1 n3 n4 h)
    · exact q2 (on n4 n1 n3 h)
  · by_cases c2 : off rs l + nxm (rg rs l).length b = off rs k + a
    · obtain ⟨rfl, rfl⟩ := off_ne hl hk (nxm_lt hb) ha c2
      rw [if_neg c1, if_pos rfl] at h
      unfold foldB at h
      rw [Bool.or_eq_true] at h
      obtain ⟨q1, q2⟩ := R.next l b hl hb
      rcases h with h | h
      · exact q1 (on n3 n1 n2 h)
      · exact q2 (on n2 n3 n1 h)
    · rw [if_neg c1, if_neg c2] at h
      refine R.far k l a b hk hl ha hb (fun e => ?_) (fun e => c1 (by rw [← e.1]; exact congrArg _ e.2)) (fun e => c2 (by rw [← e.1]; exact congrArg _ e.2)) ((meetB_iff _ _ _ _ n1 n2 n3 n4).1 h)
      obtain ⟨rfl, rfl⟩ := e
      omega
theorem OnI_swap {p a b : IP} : OnI p a b ↔ OnI p b a := by
  unfold OnI Geo.On Geo.Btw Geo.D
  constructor
  · rintro ⟨h1, h2, h3⟩; exact ⟨by grind, by omega, by omega⟩
  · rintro ⟨h1, h2, h3⟩; exact ⟨by grind, by omega, by omega⟩
theorem MtI_flip (a b c d : IP) : MtI a b c d ↔ MtI a b d c := by rw [← Mt_toR, ← Mt_toR]; exact Mt_flip _ _ _ _
theorem MtI_flip' (a b c d : IP) : MtI a b c d ↔ MtI b a c d := by rw [← Mt_toR, ← Mt_toR]; exact Mt_flip' _ _ _ _
def edg (fl : Nat → Bool) (ta : Nat → Nat → Nat) (n k i : Nat) : Nat := if fl k then ta k (nxm n i) else ta k i
theorem Trd.edge (H : Trd rs us pi pi' fl ta ta') {k i : Nat} (hk : k < us.length) (hi : i < (rg us k).length) :
    edg fl ta (rg us k).length k i < (rg us k).length ∧ ((pt (rg us k) i = pt (rg rs (pi k)) (edg fl ta (rg us k).length k i) ∧ pt (rg us k) (nxm (rg us k).length i) = pt (rg rs (pi k)) (nxm (rg rs (pi k)).length (edg fl ta (rg us k).length k i))) ∨
      (pt (rg us k) (nxm (rg us k).length i) = pt (rg rs (pi k)) (edg fl ta (rg us k).length k i) ∧ pt (rg us k) i = pt (rg rs (pi k)) (nxm (rg rs (pi k)).length (edg fl ta (rg us k).length k i)))) := by
  have hn := nxm_lt hi
  have h := H.nx k i hk hi
  rw [H.at_ k i hk hi, H.at_ k _ hk hn, ← H.rl k hk]
  unfold edg
  cases q : fl k with
  | false =>
    rw [q] at h
    refine ⟨H.tl k i hk hi, .inl ⟨rfl, ?_⟩⟩
    rw [h]; rfl
  | true =>
    rw [q] at h
    refine ⟨H.tl k _ hk hn, .inr ⟨rfl, ?_⟩⟩
    have h : ta k (nxm (rg us k).length i) = pvm (rg us k).length (ta k i) := h
    rw [if_pos rfl, h, np_mod (H.tl k i hk hi)]
theorem Trd.edge_inj (H : Trd rs us pi pi' fl ta ta') {k i j : Nat} (hk : k < us.length) (hi : i < (rg us k).length) (hj : j < (rg us k).length) (h : edg fl ta (rg us k).length k i = edg fl ta (rg us k).length k j) : i = j := by
  unfold edg at h
  cases q : fl k with
  | false =>
    rw [q] at h
    rw [← H.ti k i hk hi, show ta k i = ta k j from h, H.ti k j hk hj]
  | true =>
    rw [q] at h
    have h : ta k (nxm (rg us k).length i) = ta k (nxm (rg us k).length j) := h
    have : nxm (rg us k).length i = nxm (rg us k).length j := by rw [← H.ti k _ hk (nxm_lt hi), h, H.ti k _ hk (nxm_lt hj)]
    rw [← pn_mod hi, this, pn_mod hj]
theorem Trd.edge_next (H : Trd rs us pi pi' fl ta ta') {k i j : Nat} (hk : k < us.length) (hi : i < (rg us k).length) (hj : j < (rg us k).length) (h : nxm (rg us k).length (edg fl ta (rg us k).length k i) = edg fl ta (rg us k).length k j) : nxm (rg us k).length i = j ∨ nxm (rg us k).length j = i := by
  unfold edg at h
  cases q : fl k with
  | false =>
    rw [q] at h
    have h : nxm (rg us k).length (ta k i) = ta k j := h
    have h2 := H.nx k i hk hi
    rw [q] at h2
    have h2 : ta k (nxm (rg us k).length i) = nxm (rg us k).length (ta k i) := h2
    left
    rw [← H.ti k _ hk (nxm_lt hi), h2, h, H.ti k j hk hj]
  | true =>
    rw [q] at h
    have h : nxm (rg us k).length (ta k (nxm (rg us k).length i)) = ta k (nxm (rg us k).length j) := h
    have h2 := H.nx k i hk hi
    rw [q] at h2
    have h2 : ta k (nxm (rg us k).length i) = pvm (rg us k).length (ta k i) := h2
    rw [h2, np_mod (H.tl k i hk hi)] at h
    right
    rw [← H.ti k _ hk (nxm_lt hj), ← h, H.ti k i hk hi]
theorem Trd.fre (H : Trd rs us pi pi' fl ta ta') (R : Fre rs) : Fre us where
  far := fun k l a b hk hl ha hb h0 h1 h2 m => by
    obtain ⟨ea, pa⟩ := H.edge hk ha
    obtain ⟨eb, pb⟩ := H.edge hl hb
    have hk' : pi k < rs.length := by rw [← H.len]; exact H.lt k hk
    have hl' : pi l < rs.length := by rw [← H.len]; exact H.lt l hl
    have kl : pi k = pi l → k = l := fun e => by rw [← H.inv k hk, e, H.inv l hl]
    refine R.far (pi k) (pi l) _ _ hk' hl' (by rw [← H.rl k hk]; exact ea) (by rw [← H.rl l hl]; exact eb) ?_ ?_ ?_ ?_
    · rintro ⟨e1, e2⟩
      have := kl e1
      subst this
      exact h0 ⟨rfl, H.edge_inj hk ha hb e2⟩
    · rintro ⟨e1, e2⟩
      have := kl e1
      subst this
      rw [← H.rl k hk] at e2
      rcases H.edge_next hk ha hb e2 with q | q
      · exact h1 ⟨rfl, q⟩
      · exact h2 ⟨rfl, q⟩
    · rintro ⟨e1, e2⟩
      have := kl e1
      subst this
      rw [← H.rl k hk] at e2
      rcases H.edge_next hk hb ha e2 with q | q
      · exact h2 ⟨rfl, q⟩
      · exact h1 ⟨rfl, q⟩
    · rcases pa with ⟨u1, u2⟩ | ⟨u1, u2⟩ <;> rcases pb with ⟨u3, u4⟩ | ⟨u3, u4⟩ <;> rw [← u1, ← u2, ← u3, ← u4]
      · exact m
      · exact (MtI_flip _ _ _ _).1 m
      · exact (MtI_flip' _ _ _ _).1 m
      · exact (MtI_flip' _ _ _ _).1 ((MtI_flip _ _ _ _).1 m)
  next := fun k a hk ha => by
    have hk' : pi k < rs.length := by rw [← H.len]; exact H.lt k hk
    have hn := nxm_lt ha
    have hnn := nxm_lt hn
    rw [H.at_ k a hk ha, H.at_ k _ hk hn, H.at_ k _ hk hnn, H.nx k _ hk hn, H.nx k a hk ha]
    have ht := H.tl k a hk ha
    cases q : fl k with
    | false =>
      have := R.next (pi k) (ta k a) hk' (by rw [← H.rl k hk]; exact ht)
      rw [← H.rl k hk] at this
      exact this
    | true =>
      have hp := pvm_lt ht
      have hpp := pvm_lt hp
      have := R.next (pi k) (pvm (rg us k).length (pvm (rg us k).length (ta k a))) hk' (by rw [← H.rl k hk]; exact hpp)
      rw [← H.rl k hk, np_mod hp, np_mod ht] at this
      obtain ⟨g1, g2⟩ := this
      exact ⟨fun h => g2 (OnI_swap.1 h), fun h => g1 (OnI_swap.1 h)⟩
theorem crI_flip (q a b : IP) : crI q b a = - crI q a b := by rw [← cr_toR, ← cr_toR]; exact cr_flip _ _ _
theorem windI_eq (ps : Nat → IP) (n : Nat) (q : IP) : windI ps n q = sm (fun j => crI q (ps j) (ps (nxm n j))) n := by
  unfold windI
  exact sm_congr fun j hj => by rw [Nat.mod_eq_of_lt hj]; rfl
theorem Trd.ring_sum (H : Trd rs us pi pi' fl ta ta') {k : Nat} (hk : k < us.length) (h : IP → IP → Int) (anti : ∀ a b, h b a = - h a b) :
    sm (fun i => h (pt (rg us k) i) (pt (rg us k) (nxm (rg us k).length i))) (rg us k).length = if fl k then - sm (fun i => h (pt (rg rs (pi k)) i) (pt (rg rs (pi k)) (nxm (rg rs (pi k)).length i))) (rg rs (pi k)).length else sm (fun i => h (pt (rg rs (pi k)) i) (pt (rg rs (pi k)) (nxm (rg rs (pi k)).length i))) (rg rs (pi k)).length := by
  rw [← H.rl k hk]
  have e1 : sm (fun i => h (pt (rg us k) i) (pt (rg us k) (nxm (rg us k).length i))) (rg us k).length = sm (fun i => h (pt (rg rs (pi k)) (ta k i)) (pt (rg rs (pi k)) (nkk (fl k) (rg us k).length (ta k i)))) (rg us k).length :=
    sm_congr fun i hi => by rw [H.at_ k i hk hi, H.at_ k _ hk (nxm_lt hi), H.nx k i hk hi]
  rw [e1, sm_perm (fun j => h (pt (rg rs (pi k)) j) (pt (rg rs (pi k)) (nkk (fl k) (rg us k).length j))) (rg us k).length (ta k) (ta' k) (fun i hi => H.tl k i hk hi) (fun i hi => H.tl' k i hk hi) (fun i hi => H.ti k i hk hi) (fun i hi => H.ti' k i hk hi)]
  cases q : fl k with
  | false => rfl
  | true =>
    rw [if_pos rfl, ← sm_neg, ← sm_perm (fun j => h (pt (rg rs (pi k)) j) (pt (rg rs (pi k)) (nkk true (rg us k).length j))) (rg us k).length (nxm (rg us k).length) (pvm (rg us k).length) (fun i hi => nxm_lt hi) (fun i hi => pvm_lt hi) (fun i hi => pn_mod hi) (fun i hi => np_mod hi)]
    exact sm_congr fun i hi => by
      show h (pt (rg rs (pi k)) (nxm (rg us k).length i)) (pt (rg rs (pi k)) (pvm (rg us k).length (nxm (rg us k).length i))) = _
      rw [pn_mod hi, anti]
theorem Trd.wind (H : Trd rs us pi pi' fl ta ta') {k : Nat} (hk : k < us.length) (q : IP) : windI (pt (rg us k)) (rg us k).length q = 0 ↔ windI (pt (rg rs (pi k))) (rg rs (pi k)).length q = 0 := by
  rw [windI_eq, windI_eq, H.ring_sum hk (fun a b => crI q a b) (fun a b => crI_flip _ _ _)]
  split <;> omega
theorem Fre.const {rs : List (List IP)} (S : Sound rs) (hT : ¬ TouchR rs) {k l : Nat} (hk : k < rs.length) (hl : l < rs.length) (hkl : k ≠ l) : ∀ a, a < (rg rs k).length → windI (pt (rg rs l)) (rg rs l).length (pt (rg rs k) a) = windI (pt (rg rs l)) (rg rs l).length (pt (rg rs k) 0) := by
  have R := fre_of S hT
  have inj : ∀ i j, i < (rg rs l).length → j < (rg rs l).length → pt (rg rs l) i = pt (rg rs l) j → i = j := fun i j hi hj e => by
    have p1 := pt_at rs l i hi
    have p2 := pt_at rs l j hj
    rw [← p1.1, ← p2.1] at e
    have := Classical.byContradiction fun h => S.apart _ _ p1.2 p2.2 h e
    omega
  have G := ring_bd (ring_of S hT hl) inj
  intro a
  induction a with
  | zero => intro _; rfl
  | succ a ih =>
    intro ha
    rw [← ih (by omega), ← wd_windI, ← wd_windI]
    have d := wd_diff G (toR (pt (rg rs k) (a + 1))) (toR (pt (rg rs k) a))
    rw [sm_zero] at d
    · omega
    · intro b hb
      refine df_none fun m => ?_
      have := R.far k l a b hk hl (by omega) hb (fun e => hkl e.1) (fun e => hkl e.1) (fun e => hkl e.1)
      rw [show nxm (rg rs k).length a = a + 1 from Nat.mod_eq_of_lt (by omega)] at this
      exact this ((MtI_flip' _ _ _ _).1 ((Mt_toR _ _ _ _).1 m))
theorem within_wind {rs : List (List IP)} (S : Sound rs) {k l : Nat} (hk : k < rs.length) (hl : l < rs.length) : withinR (pt (rg rs k) 0) (rg rs l) = false ↔ windI (pt (rg rs l)) (rg rs l).length (pt (rg rs k) 0) = 0 := by
  have h3 := S.three k hk
  unfold withinR
  rw [turns_wind _ _ _ (near_at S (by omega)) (fun i hi => near_at S hi)]
  simp
theorem Trd.out (H : Trd rs us pi pi' fl ta ta') (S : Sound rs) (S' : Sound us) (hT : ¬ TouchR rs) {k l : Nat} (hk : k < us.length) (hl : l < us.length) (hkl : k ≠ l) : withinR (pt (rg us k) 0) (rg us l) = withinR (pt (rg rs (pi k)) 0) (rg rs (pi l)) := by
  have hk' : pi k < rs.length := by rw [← H.len]; exact H.lt k hk
  have hl' : pi l < rs.length := by rw [← H.len]; exact H.lt l hl
  have h3 := S'.three k hk
  have key : withinR (pt (rg us k) 0) (rg us l) = false ↔ withinR (pt (rg rs (pi k)) 0) (rg rs (pi l)) = false := by
    rw [within_wind S' hk hl, within_wind S hk' hl', H.wind hl, H.at_ k 0 hk (by omega), Fre.const S hT hk' hl' (fun e => hkl (by rw [← H.inv k hk, e, H.inv l hl])) _ (by rw [← H.rl k hk]; exact H.tl k 0 hk (by omega))]
  cases h1 : withinR (pt (rg us k) 0) (rg us l) <;> cases h2 : withinR (pt (rg rs (pi k)) 0) (rg rs (pi l))
  · rfl
  · rw [key.1 h1] at h2; cases h2
  · rw [key.2 h2] at h1; cases h1
  · rfl
theorem Trd.outR (H : Trd rs us pi pi' fl ta ta') (S : Sound rs) (S' : Sound us) (hT : ¬ TouchR rs) (h : OutR us) : OutR rs := by
  obtain ⟨k, h1, hk, h⟩ := h
  refine ⟨pi k, ?_, by rw [← H.len]; exact H.lt k hk, ?_⟩
  · rcases Nat.eq_zero_or_pos (pi k) with q | q
    · have := H.inv k hk; rw [q, H.zero'] at this; omega
    · exact q
  · rw [H.out S S' hT hk (show 0 < us.length by omega) (by omega), H.zero] at h; exact h
theorem Trd.nestR (H : Trd rs us pi pi' fl ta ta') (S : Sound rs) (S' : Sound us) (hT : ¬ TouchR rs) (h : NestR us) : NestR rs := by
  obtain ⟨k, j, h1, hk, h2, hj, hne, h⟩ := h
  have p : ∀ k, 1 ≤ k → k < us.length → 1 ≤ pi k := fun k h1 hk => by
    rcases Nat.eq_zero_or_pos (pi k) with q | q
    · have := H.inv k hk; rw [q, H.zero'] at this; omega
    · exact q
  refine ⟨pi k, pi j, p k h1 hk, by rw [← H.len]; exact H.lt k hk, p j h2 hj, by rw [← H.len]; exact H.lt j hj, fun e => hne (by rw [← H.inv j hj, e, H.inv k hk]), ?_⟩
  rw [H.out S S' hT hk hj (fun e => hne e.symm)] at h; exact h
theorem Trd.chk (H : Trd rs us pi pi' fl ta ta') : chkP us = chkP rs := by
  rw [check_same, check_same]
  unfold chkR first7
  have J := H.symm
  have e1 : Many us ↔ Many rs := by unfold Many; rw [H.len]
  have e2 : Short us ↔ Short rs := ⟨H.short, J.short⟩
  have e3 : Far us ↔ Far rs := ⟨H.far, J.far⟩
  have e4 : Twice us ↔ Twice rs := ⟨H.twice, J.twice⟩
  by_cases h1 : Many rs
  · rw [if_pos (e1.2 h1), if_pos h1]
  rw [if_neg (fun h => h1 (e1.1 h)), if_neg h1]
  by_cases h2 : Short rs
  · rw [if_pos (e2.2 h2), if_pos h2]
  rw [if_neg (fun h => h2 (e2.1 h)), if_neg h2]
  by_cases h3 : Far rs
  · rw [if_pos (e3.2 h3), if_pos h3]
  rw [if_neg (fun h => h3 (e3.1 h)), if_neg h3]
  by_cases h4 : Twice rs
  · rw [if_pos (e4.2 h4), if_pos h4]
  rw [if_neg (fun h => h4 (e4.1 h)), if_neg h4]
  have S := sound h2 h3 h4
  have S' := sound (fun h => h2 (e2.1 h)) (fun h => h3 (e3.1 h)) (fun h => h4 (e4.1 h))
  have tt : ∀ {rs : List (List IP)}, Sound rs → ¬ TouchP rs → ¬ TouchR rs := fun S h => by
    rintro ⟨i, j, hj, hi, h'⟩
    exact h ⟨i, j, hj, hi, by rw [touch_same S i j hj hi]; exact h'⟩
  have e5 : TouchR us ↔ TouchR rs := by
    constructor
    · intro h
      exact Classical.byContradiction fun q => tt S' (Fre.touch S' (H.fre (fre_of S q))) h
    · intro h
      exact Classical.byContradiction fun q => tt S (Fre.touch S (J.fre (fre_of S' q))) h
  by_cases h5 : TouchR rs
  · rw [if_pos (e5.2 h5), if_pos h5]
  rw [if_neg (fun h => h5 (e5.1 h)), if_neg h5]
  have h5' : ¬ TouchR us := fun h => h5 (e5.1 h)
  have e6 : OutR us ↔ OutR rs := ⟨H.outR S S' h5, J.outR S' S h5'⟩
  have e7 : NestR us ↔ NestR rs := ⟨H.nestR S S' h5, J.nestR S' S h5'⟩
  rw [propext e6, propext e7]
end
#print axioms Trd.chk
end Go.Proofs.Ytdkaoopkbhaheaa
namespace Go.Proofs.Ytdkaoopkbhaheaa
open Go.RowKit Go.Lib
open Jor
open scoped Classical
set_option linter.unusedVariables false
set_option linter.unusedSimpArgs false
set_option linter.unusedSectionVars false
section
variable {P : Nat → Pt} {n : Nat} {nx pv nx' pv' s t : Nat → Nat} {K : Nat → Nat → Prop} {th : Nat → Nat → Option Nat}
def Kr (n : Nat) (t : Nat → Nat) (K : Nat → Nat → Prop) (a b : Nat) : Prop := a < n ∧ b < n ∧ K (t a) (t b)
def thr (n : Nat) (s t : Nat → Nat) (th : Nat → Nat → Option Nat) (a b : Nat) : Option Nat := if a < n ∧ b < n then (th (t a) (t b)).map s else none
theorem thr_some {a b v : Nat} (h : thr n s t th a b = some v) : a < n ∧ b < n ∧ ∃ v', th (t a) (t b) = some v' ∧ v = s v' := by
  unfold thr at h
  by_cases q : a < n ∧ b < n
  · rw [if_pos q] at h
    cases e : th (t a) (t b) with
    | none => rw [e] at h; simp at h
    | some v' => rw [e] at h; simp at h; exact ⟨q.1, q.2, v', rfl, h.symm⟩
  · rw [if_neg q] at h; cases h
theorem Jor.Renum.nt (R : Renum n nx pv nx' pv' s t) {i : Nat} (hi : i < n) : t (nx i) = nx' (t i) := by
  have h := R.nx (t i) (R.tl i hi)
  rw [R.st i hi] at h
  rw [← h, R.ts _ (R.nl _ (R.tl i hi))]
theorem Jor.Renum.front (R : Renum n nx pv nx' pv' s t) (G : Bd P n nx pv) (F : Front (fun i => P (s i)) n nx' pv' K th) : Front P n nx pv (Kr n t K) (thr n s t th) where
  fa := fun a b k => k.1
  fb := fun a b k => k.2.1
  ne := fun a b k e => F.ne _ _ k.2.2 (by rw [e])
  bd := fun i hi => ⟨hi, G.nl i hi, by rw [R.nt hi]; exact F.bd _ (R.tl i hi)⟩
  nb := fun i hi k => F.nb _ (R.tl i hi) (by have := k.2.2; rw [R.nt hi] at this; exact this)
  pair := fun a b k e => ⟨k.2.1, k.1, F.pair _ _ k.2.2 (fun q => e (by rw [← R.nt k.1] at q; rw [← R.st _ (G.nl a k.1), q, R.st b k.2.1]))⟩
  cross := fun a b c d k k' h1 h2 h3 h4 => by
    have inj : ∀ {x y : Nat}, x < n → y < n → x ≠ y → t x ≠ t y := fun hx hy h e => h (by rw [← R.st _ hx, e, R.st _ hy])
    have := F.cross _ _ _ _ k.2.2 k'.2.2 (inj k.1 k'.1 h1) (inj k.1 k'.2.1 h2) (inj k.2.1 k'.1 h3) (inj k.2.1 k'.2.1 h4)
    simp only [R.st _ k.1, R.st _ k.2.1, R.st _ k'.1, R.st _ k'.2.1] at this
    exact this
  off := fun a b v k hv h1 h2 => by
    have inj : ∀ {x y : Nat}, x < n → y < n → x ≠ y → t x ≠ t y := fun hx hy h e => h (by rw [← R.st _ hx, e, R.st _ hy])
    have := F.off _ _ _ k.2.2 (R.tl v hv) (inj hv k.1 h1) (inj hv k.2.1 h2)
    simp only [R.st _ k.1, R.st _ k.2.1, R.st _ hv] at this
    exact this
  ins := fun a b k => by
    have := F.ins _ _ k.2.2
    rw [R.inn _ (R.tl a k.1)] at this
    simp only [R.st _ k.1, R.st _ k.2.1] at this
    exact this
  tri := fun a b v h => by
    obtain ⟨ha, hb, v', h', rfl⟩ := thr_some h
    obtain ⟨k1, k2, k3, t2, t3, l, fr⟩ := F.tri _ _ _ h'
    have hv' := F.fb _ _ k2
    have hv := R.sl _ hv'
    have ev := R.ts _ hv'
    have inj : ∀ {x y : Nat}, x < n → y < n → x ≠ y → t x ≠ t y := fun hx hy h e => h (by rw [← R.st _ hx, e, R.st _ hy])
    refine ⟨⟨ha, hb, k1⟩, ⟨hb, hv, by rw [ev]; exact k2⟩, ⟨hv, ha, by rw [ev]; exact k3⟩, ?_, ?_, ?_, fun w hw h1 h2 h3 q => ?_⟩
    · unfold thr; rw [if_pos ⟨hb, hv⟩, ev, t2]; simp [R.st a ha]
    · unfold thr; rw [if_pos ⟨hv, ha⟩, ev, t3]; simp [R.st b hb]
    · simp only [R.st a ha, R.st b hb] at l; exact l
    · have := fr (t w) (R.tl w hw) (inj hw ha h1) (inj hw hb h2) (fun e => h3 (by rw [← R.st w hw, e]))
      simp only [R.st a ha, R.st b hb, R.st w hw] at this
      exact this q
theorem Jor.Front.congr {P' : Nat → Pt} (nl : ∀ i, i < n → nx i < n) (pl : ∀ i, i < n → pv i < n) (hP : ∀ i, i < n → P i = P' i) (F : Front P n nx pv K th) : Front P' n nx pv K th where
  fa := F.fa
  fb := F.fb
  ne := F.ne
  bd := F.bd
  nb := F.nb
  pair := F.pair
  cross := fun a b c d k k' h1 h2 h3 h4 => by
    rw [← hP _ (F.fa _ _ k), ← hP _ (F.fb _ _ k), ← hP _ (F.fa _ _ k'), ← hP _ (F.fb _ _ k')]
    exact F.cross _ _ _ _ k k' h1 h2 h3 h4
  off := fun a b v k hv h1 h2 => by
    rw [← hP _ (F.fa _ _ k), ← hP _ (F.fb _ _ k), ← hP _ hv]
    exact F.off _ _ _ k hv h1 h2
  ins := fun a b k => by
    have ha := F.fa _ _ k
    have h := F.ins _ _ k
    have e : inn P n nx pv a (P b) = inn P' n nx pv a (P' b) := by
      unfold inn wd
      rw [hP _ ha, hP _ (F.fb _ _ k), hP _ (nl a ha), hP _ (pl a ha)]
      rw [sm_congr (g := fun j => cr (P' a) (P' j) (P' (nx j))) (fun j hj => by rw [hP _ hj, hP _ (nl j hj)])]
    rw [← e]; exact h
  tri := fun a b v h => by
    obtain ⟨k1, k2, k3, t2, t3, l, fr⟩ := F.tri _ _ _ h
    have ha := F.fa _ _ k1; have hb := F.fb _ _ k1; have hv := F.fb _ _ k2
    refine ⟨k1, k2, k3, t2, t3, ?_, fun w hw h1 h2 h3 => ?_⟩
    · rw [← hP _ ha, ← hP _ hb, ← hP _ hv]; exact l
    · rw [← hP _ ha, ← hP _ hb, ← hP _ hv, ← hP _ hw]; exact fr w hw h1 h2 h3
theorem Jor.Renum.full (R : Renum n nx pv nx' pv' s t) (full : Full K th) : Full (Kr n t K) (thr n s t th) := fun a b k => by
  obtain ⟨v, hv⟩ := full _ _ k.2.2
  exact ⟨s v, by unfold thr; rw [if_pos ⟨k.1, k.2.1⟩, hv]; rfl⟩
end
section
variable {rs us : List (List IP)} {pi pi' : Nat → Nat} {fl : Nat → Bool} {ta ta' : Nat → Nat → Nat}
def sg (rs us : List (List IP)) (pi : Nat → Nat) (ta : Nat → Nat → Nat) (m : Nat) : Nat := off rs (pi (loc us m).1) + ta (loc us m).1 (loc us m).2
theorem sg_at {k i : Nat} (hk : k < us.length) (hi : i < (rg us k).length) : sg rs us pi ta (off us k + i) = off rs (pi k) + ta k i := by
  unfold sg; rw [loc_at us k i hk hi]
theorem bnx_at {rs : List (List IP)} {k i : Nat} (hk : k < rs.length) (hi : i < (rg rs k).length) : bnx rs (off rs k + i) = off rs k + nkk (trB rs k) (rg rs k).length i := by
  unfold bnx; rw [loc_at rs k i hk hi]
theorem bpv_at {rs : List (List IP)} {k i : Nat} (hk : k < rs.length) (hi : i < (rg rs k).length) : bpv rs (off rs k + i) = off rs k + nkk (!trB rs k) (rg rs k).length i := by
  unfold bpv; rw [loc_at rs k i hk hi]
  cases trB rs k <;> rfl
theorem Trd.nkk (H : Trd rs us pi pi' fl ta ta') {k i : Nat} (hk : k < us.length) (hi : i < (rg us k).length) (b : Bool) : ta k (nkk b (rg us k).length i) = nkk (b != fl k) (rg us k).length (ta k i) := by
  cases b with
  | false =>
    have := H.nx k i hk hi
    rw [show (false != fl k) = fl k by simp]
    exact this
  | true =>
    have hp := pvm_lt hi
    have h := H.nx k _ hk hp
    rw [np_mod hi] at h
    show ta k (pvm _ i) = _
    have ht := H.tl k _ hk hp
    cases q : fl k with
    | false =>
      rw [q] at h
      have h : ta k i = nxm _ (ta k (pvm (rg us k).length i)) := h
      show _ = pvm _ (ta k i)
      rw [h, pn_mod ht]
    | true =>
      rw [q] at h
      have h : ta k i = pvm _ (ta k (pvm (rg us k).length i)) := h
      show _ = nxm _ (ta k i)
      rw [h, np_mod ht]
theorem Good.area_ne (g : Good rs) {k : Nat} (hk : k < rs.length) : areaR (rg rs k).length (pt (rg rs k)) ≠ 0 := by
  have V := g.rgs
  have R := V.ring k hk
  rcases ring_area R (fun i j hi hj e => (V.inj k k i j hk hk hi hj e).2) (fun i v hi hv h1 h2 => ring_off R i v hi hv h1 h2) with ⟨_, h⟩ | ⟨_, h⟩
  · unfold areaR; omega
  · unfold areaR; omega
theorem Trd.trB (H : Trd rs us pi pi' fl ta ta') (g : Good rs) (g' : Good us) {k : Nat} (hk : k < us.length) : trB rs (pi k) = (trB us k != fl k) := by
  have hk' : pi k < rs.length := by rw [← H.len]; exact H.lt k hk
  have e0 : decide (pi k = 0) = decide (k = 0) := by
    rw [decide_eq_decide]
    constructor
    · intro q; have := H.inv k hk; rw [q, H.zero'] at this; exact this.symm
    · intro q; subst q; exact H.zero
  have hA := H.ring_sum hk crx crx_anti
  have hA : areaR (rg us k).length (pt (rg us k)) = if fl k then - areaR (rg rs (pi k)).length (pt (rg rs (pi k))) else areaR (rg rs (pi k)).length (pt (rg rs (pi k))) := hA
  unfold Go.Proofs.Ytdkaoopkbhaheaa.trB
  rw [e0, g.larea hk', g'.larea hk, hA]
  have hne := g.area_ne hk'
  generalize areaR (rg rs (pi k)).length (pt (rg rs (pi k))) = x at *
  cases fl k with
  | false => simp
  | true =>
    rw [if_pos rfl]
    have : decide (0 < -x) = !decide (0 < x) := by
      by_cases q : 0 < x
      · rw [decide_eq_true q, decide_eq_false (by omega)]; rfl
      · rw [decide_eq_false q, decide_eq_true (by omega)]; rfl
    rw [this]
    cases decide (k = 0) <;> cases decide (0 < x) <;> rfl
theorem Trd.num (H : Trd rs us pi pi' fl ta ta') {k i : Nat} (hk : k < us.length) (hi : i < (rg us k).length) : pi k < rs.length ∧ ta k i < (rg rs (pi k)).length :=
  ⟨by rw [← H.len]; exact H.lt k hk, by rw [← H.rl k hk]; exact H.tl k i hk hi⟩
theorem Trd.sl (H : Trd rs us pi pi' fl ta ta') {m : Nat} (hm : m < (verts us).length) : sg rs us pi ta m < (verts rs).length := by
  obtain ⟨k, i, hk, hi, rfl⟩ := num_of us m hm
  rw [sg_at hk hi]
  obtain ⟨h1, h2⟩ := H.num hk hi
  exact (pt_at rs _ _ h2).2
theorem Trd.ts (H : Trd rs us pi pi' fl ta ta') {m : Nat} (hm : m < (verts us).length) : sg us rs pi' (fun k => ta' (pi' k)) (sg rs us pi ta m) = m := by
  obtain ⟨k, i, hk, hi, rfl⟩ := num_of us m hm
  rw [sg_at hk hi]
  obtain ⟨h1, h2⟩ := H.num hk hi
  rw [sg_at h1 h2]
  simp only [H.inv k hk, H.ti k i hk hi]
theorem Trd.pt (H : Trd rs us pi pi' fl ta ta') {m : Nat} (hm : m < (verts us).length) : pt (verts us) m = pt (verts rs) (sg rs us pi ta m) := by
  obtain ⟨k, i, hk, hi, rfl⟩ := num_of us m hm
  rw [sg_at hk hi]
  obtain ⟨h1, h2⟩ := H.num hk hi
  unfold verts
  rw [(pt_at us k i hi).1, (pt_at rs _ _ h2).1, H.at_ k i hk hi]
theorem Trd.renum (H : Trd rs us pi pi' fl ta ta') (g : Good rs) (g' : Good us) : Renum (verts rs).length (bnx rs) (bpv rs) (bnx us) (bpv us) (sg rs us pi ta) (sg us rs pi' (fun k => ta' (pi' k))) := by
  have J := H.symm
  have e : (verts us).length = (verts rs).length := H.size
  refine ⟨fun i hi => H.sl (by omega), fun i hi => by rw [← e]; exact J.sl hi, fun i hi => H.ts (by omega), fun i hi => ?_, fun i hi => ?_, fun i hi => ?_, fun i hi => ?_, fun i hi => ?_⟩
  · obtain ⟨k, a, hk, ha, rfl⟩ := num_of rs i hi
    have hk' : k < us.length := by rw [H.len]; exact hk
    have ha' : a < (rg us (pi' k)).length := by rw [H.rl' hk']; exact ha
    rw [sg_at hk ha, sg_at (H.lt' k hk') (H.tl' _ a (H.lt' k hk') ha'), H.inv' k hk', H.ti' _ a (H.lt' k hk') ha']
  · rw [← e] at hi ⊢
    exact g'.bd.nl i hi
  · rw [← e] at hi ⊢
    exact g'.bd.pl i hi
  · obtain ⟨k, a, hk, ha, rfl⟩ := num_of us i (by show _ < (verts us).length; omega)
    obtain ⟨h1, h2⟩ := H.num hk ha
    rw [bnx_at hk ha, sg_at hk (nkk_lt ha), sg_at hk ha, bnx_at h1 h2, H.nkk hk ha, H.trB g g' hk, H.rl k hk]
  · obtain ⟨k, a, hk, ha, rfl⟩ := num_of us i (by show _ < (verts us).length; omega)
    obtain ⟨h1, h2⟩ := H.num hk ha
    rw [bpv_at hk ha, sg_at hk (nkk_lt ha), sg_at hk ha, bpv_at h1 h2, H.nkk hk ha, H.trB g g' hk, H.rl k hk]
    cases Go.Proofs.Ytdkaoopkbhaheaa.trB us k <;> cases fl k <;> rfl
theorem Trd.mesh (H : Trd rs us pi pi' fl ta ta') (g : Good rs) (g' : Good us) {L L' : List (Nat × Nat)} {F F' : Nat → Nat → Option Int} (I : FInv (Go.Proofs.Ytdkaoopkbhaheaa.pt (verts rs)) (verts rs).length (bnx rs) (bpv rs) L F L.length) (I' : FInv (Go.Proofs.Ytdkaoopkbhaheaa.pt (verts us)) (verts us).length (bnx us) (bpv us) L' F' L'.length)
    (str : ∀ a b v w, thF F a b = some v → thF F b a = some w → incI (Go.Proofs.Ytdkaoopkbhaheaa.pt (verts rs) a) (Go.Proofs.Ytdkaoopkbhaheaa.pt (verts rs) b) (Go.Proofs.Ytdkaoopkbhaheaa.pt (verts rs) v) (Go.Proofs.Ytdkaoopkbhaheaa.pt (verts rs) w) < 0) {i j u : Nat} (h : thF F i j = some u) (h1 : i < j) (h2 : i < u) :
    ∃ a b c, thF F' a b = some c ∧ Go.Proofs.Ytdkaoopkbhaheaa.pt (verts us) a = Go.Proofs.Ytdkaoopkbhaheaa.pt (verts rs) i ∧ Go.Proofs.Ytdkaoopkbhaheaa.pt (verts us) b = Go.Proofs.Ytdkaoopkbhaheaa.pt (verts rs) j ∧ Go.Proofs.Ytdkaoopkbhaheaa.pt (verts us) c = Go.Proofs.Ytdkaoopkbhaheaa.pt (verts rs) u := by
  have R := H.renum g g'
  have e : (verts us).length = (verts rs).length := H.size
  have F1 := I'.front
  have D1 := I'.del
  have U1 := I'.full
  rw [e] at F1 D1
  have hpt : ∀ m, m < (verts rs).length → toR (Go.Proofs.Ytdkaoopkbhaheaa.pt (verts us) m) = toR (Go.Proofs.Ytdkaoopkbhaheaa.pt (verts rs) (sg rs us pi ta m)) := fun m hm => by rw [H.pt (by omega)]
  have F2 : Front (fun i => toR (Go.Proofs.Ytdkaoopkbhaheaa.pt (verts rs) (sg rs us pi ta i))) (verts rs).length (bnx us) (bpv us) (KF F') (thF F') := F1.congr R.nl R.pl hpt
  have F3 := R.front g.bd F2
  have two : ∀ a b v w, thr (verts rs).length (sg rs us pi ta) (sg us rs pi' (fun k => ta' (pi' k))) (thF F') a b = some v → thr (verts rs).length (sg rs us pi ta) (sg us rs pi' (fun k => ta' (pi' k))) (thF F') b a = some w → inc (toR (Go.Proofs.Ytdkaoopkbhaheaa.pt (verts rs) a)) (toR (Go.Proofs.Ytdkaoopkbhaheaa.pt (verts rs) b)) (toR (Go.Proofs.Ytdkaoopkbhaheaa.pt (verts rs) v)) (toR (Go.Proofs.Ytdkaoopkbhaheaa.pt (verts rs) w)) ≤ 0 := by
    intro a b v w q1 q2
    obtain ⟨ha, hb, v', p1, rfl⟩ := thr_some q1
    obtain ⟨_, _, w', p2, rfl⟩ := thr_some q2
    have hv : v' < (verts rs).length := F1.fb _ _ (F1.tri _ _ _ p1).2.1
    have hw : w' < (verts rs).length := F1.fb _ _ (F1.tri _ _ _ p2).2.1
    have := D1.two _ _ _ _ p1 p2
    rw [hpt _ (R.tl a ha), hpt _ (R.tl b hb), hpt _ hv, hpt _ hw, R.st a ha, R.st b hb] at this
    exact this
  have str' : ∀ a b v w, thF F a b = some v → thF F b a = some w → inc (toR (Go.Proofs.Ytdkaoopkbhaheaa.pt (verts rs) a)) (toR (Go.Proofs.Ytdkaoopkbhaheaa.pt (verts rs) b)) (toR (Go.Proofs.Ytdkaoopkbhaheaa.pt (verts rs) v)) (toR (Go.Proofs.Ytdkaoopkbhaheaa.pt (verts rs) w)) < 0 := fun a b v w q1 q2 => by
    rw [inc_toR]; exact (neg_toR _).2 (str a b v w q1 q2)
  have q := one_mesh (P := fun i => toR (Go.Proofs.Ytdkaoopkbhaheaa.pt (verts rs) i)) g.bd I.front I.full str' F3 (R.full U1) two h h1 h2
  obtain ⟨hi, hj, u', p1, rfl⟩ := thr_some q
  have hu : u' < (verts rs).length := F1.fb _ _ (F1.tri _ _ _ p1).2.1
  refine ⟨_, _, u', p1, ?_, ?_, H.pt (by omega)⟩
  · rw [H.pt (by have := R.tl i hi; omega), R.st i hi]
  · rw [H.pt (by have := R.tl j hj; omega), R.st j hj]
end
end Go.Proofs.Ytdkaoopkbhaheaa
namespace Go.Proofs.Ytdkaoopkbhaheaa
open Go.RowKit Go.Lib
open Jor
open scoped Classical
set_option linter.unusedVariables false
set_option linter.unusedSimpArgs false
def lexB (a b : IP) : Bool := decide (a.1 < b.1) || ((a.1 == b.1) && decide (a.2 < b.2))
theorem lexB_iff (a b : IP) : lexB a b = true ↔ a.1 < b.1 ∨ (a.1 = b.1 ∧ a.2 < b.2) := by
  unfold lexB
  simp
def rot1 (t : IP × IP × IP) : IP × IP × IP := if lexB t.2.1 t.1 || lexB t.2.2 t.1 then (t.2.1, t.2.2, t.1) else t
def leastP (t : IP × IP × IP) : IP × IP × IP := rot1 (rot1 t)
theorem lex_asymm {a b : IP} (h : lexB a b = true) : lexB b a = false := by
  rw [lexB_iff] at h
  cases q : lexB b a
  · rfl
  · rw [lexB_iff] at q
    omega
theorem lex_total {a b : IP} (h : a ≠ b) : lexB a b = true ∨ lexB b a = true := by
  rw [lexB_iff, lexB_iff]
  rcases Int.lt_trichotomy a.1 b.1 with q | q | q
  · exact .inl (.inl q)
  · rcases Int.lt_trichotomy a.2 b.2 with r | r | r
    · exact .inl (.inr ⟨q, r⟩)
    · exact absurd (Prod.ext q r) h
    · exact .inr (.inr ⟨q.symm, r⟩)
  · exact .inr (.inl q)
theorem lex_trans {a b c : IP} (h1 : lexB a b = true) (h2 : lexB b c = true) : lexB a c = true := by
  rw [lexB_iff] at *
  omega
theorem least_min {a b c : IP} (h1 : lexB a b = true) (h2 : lexB a c = true) : leastP (a, b, c) = (a, b, c) ∧ leastP (b, c, a) = (a, b, c) ∧ leastP (c, a, b) = (a, b, c) := by
  have g1 := lex_asymm h1
  have g2 := lex_asymm h2
  have r0 : rot1 (a, b, c) = (a, b, c) := by unfold rot1; simp [g1, g2]
  have r2 : rot1 (c, a, b) = (a, b, c) := by unfold rot1; simp [h2]
  have r1 : rot1 (b, c, a) = (c, a, b) := by unfold rot1; simp [h1]
  unfold leastP
  exact ⟨by rw [r0, r0], by rw [r1, r2], by rw [r2, r0]⟩
theorem least_rot {a b c : IP} (h1 : a ≠ b) (h2 : b ≠ c) (h3 : c ≠ a) : leastP (b, c, a) = leastP (a, b, c) := by
  rcases lex_total h1 with q1 | q1
  · rcases lex_total h3 with q3 | q3
    · -- c ahead of a, a of b: c is the least
      obtain ⟨e1, e2, e3⟩ := least_min (a := c) (b := a) (c := b) q3 (lex_trans q3 q1)
      rw [e3, e2]
    · obtain ⟨e1, e2, e3⟩ := least_min (a := a) (b := b) (c := c) q1 q3
      rw [e1, e2]
  · rcases lex_total h2 with q2 | q2
    · obtain ⟨e1, e2, e3⟩ := least_min (a := b) (b := c) (c := a) q2 q1
      rw [e1, e3]
    · obtain ⟨e1, e2, e3⟩ := least_min (a := c) (b := a) (c := b) (lex_trans q2 q1) q2
      rw [e3, e2]
section
variable {rs us : List (List IP)} {pi pi' : Nat → Nat} {fl : Nat → Bool} {ta ta' : Nat → Nat → Nat}
theorem Trd.found (H : Trd rs us pi pi' fl ta ta') (g : Good rs) (g' : Good us) {L L' : List (Nat × Nat)} {F F' : Nat → Nat → Option Int} {T T' : List T3} (I : FInv (Go.Proofs.Ytdkaoopkbhaheaa.pt (verts rs)) (verts rs).length (bnx rs) (bpv rs) L F L.length) (I' : FInv (Go.Proofs.Ytdkaoopkbhaheaa.pt (verts us)) (verts us).length (bnx us) (bpv us) L' F' L'.length)
    (hm : ∀ i j u, (i, j, u) ∈ T ↔ F i j = some (u : Int) ∧ i < j ∧ i < u) (hm' : ∀ i j u, (i, j, u) ∈ T' ↔ F' i j = some (u : Int) ∧ i < j ∧ i < u)
    (str : ∀ a b v w, thF F a b = some v → thF F b a = some w → incI (Go.Proofs.Ytdkaoopkbhaheaa.pt (verts rs) a) (Go.Proofs.Ytdkaoopkbhaheaa.pt (verts rs) b) (Go.Proofs.Ytdkaoopkbhaheaa.pt (verts rs) v) (Go.Proofs.Ytdkaoopkbhaheaa.pt (verts rs) w) < 0) {t : T3} (ht : t ∈ T) :
    ∃ t' ∈ T', leastP (Go.Proofs.Ytdkaoopkbhaheaa.pt (verts us) t'.1, Go.Proofs.Ytdkaoopkbhaheaa.pt (verts us) t'.2.1, Go.Proofs.Ytdkaoopkbhaheaa.pt (verts us) t'.2.2) = leastP (Go.Proofs.Ytdkaoopkbhaheaa.pt (verts rs) t.1, Go.Proofs.Ytdkaoopkbhaheaa.pt (verts rs) t.2.1, Go.Proofs.Ytdkaoopkbhaheaa.pt (verts rs) t.2.2) := by
  obtain ⟨i, j, u⟩ := t
  obtain ⟨h1, h2, h3⟩ := (hm i j u).1 ht
  obtain ⟨a, b, c, h, e1, e2, e3⟩ := H.mesh g g' I I' str (thF_some h1) h2 h3
  obtain ⟨k1, k2, k3, t2, t3, l, _⟩ := I'.front.tri _ _ _ h
  have ab := I'.front.ne _ _ k1
  have bc := I'.front.ne _ _ k2
  have ca := I'.front.ne _ _ k3
  have ha := I'.front.fa _ _ k1
  have hb := I'.front.fa _ _ k2
  have hc := I'.front.fa _ _ k3
  have G := g'.bd
  have pne : ∀ {x y : Nat}, x < (verts us).length → y < (verts us).length → x ≠ y → Go.Proofs.Ytdkaoopkbhaheaa.pt (verts us) x ≠ Go.Proofs.Ytdkaoopkbhaheaa.pt (verts us) y := fun hx hy hxy e => hxy (G.inj _ _ hx hy (by rw [e]))
  have hF : ∀ x y z, thF F' x y = some z → F' x y = some (z : Int) := fun x y z q => by
    unfold thF at q
    cases w : F' x y with
    | none => rw [w] at q; simp at q
    | some v =>
      rw [w] at q
      simp only at q
      by_cases nn : 0 ≤ v
      · rw [if_pos nn] at q
        simp only [Option.some.injEq] at q
        rw [← q]; congr 1; omega
      · rw [if_neg nn] at q; cases q
  show ∃ t' ∈ T', _ = leastP (Go.Proofs.Ytdkaoopkbhaheaa.pt (verts rs) i, Go.Proofs.Ytdkaoopkbhaheaa.pt (verts rs) j, Go.Proofs.Ytdkaoopkbhaheaa.pt (verts rs) u)
  rw [← e1, ← e2, ← e3]
  have r1 := least_rot (pne ha hb ab) (pne hb hc bc) (pne hc ha ca)
  have r2 := least_rot (pne hb hc bc) (pne hc ha ca) (pne ha hb ab)
  by_cases q1 : a < b ∧ a < c
  · exact ⟨(a, b, c), (hm' _ _ _).2 ⟨hF _ _ _ h, q1.1, q1.2⟩, rfl⟩
  · by_cases q2 : b < c ∧ b < a
    · exact ⟨(b, c, a), (hm' _ _ _).2 ⟨hF _ _ _ t2, q2.1, q2.2⟩, r1⟩
    · exact ⟨(c, a, b), (hm' _ _ _).2 ⟨hF _ _ _ t3, by omega, by omega⟩, r2.trans r1⟩
end
#print axioms Trd.found
end Go.Proofs.Ytdkaoopkbhaheaa
