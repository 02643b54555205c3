import Derived.Test.YtdkaoopkbhaheaaGreatPN12
namespace Go.Proofs.YtdkaoopkbhaheaaGreat
open Go.RowKit Go.Lib
open Go.ChangeMaps (setBlock heap_setBlock_same heap_setBlock_other)
set_option linter.unusedVariables false
set_option linter.unusedSimpArgs false
theorem nodup_lt : ∀ (N : Nat) (l : List Nat), l.Nodup → (∀ x ∈ l, x < N) → l.length ≤ N := by
  intro N
  induction N with
  | zero =>
    intro l _ h
    cases l with
    | nil => simp
    | cons x l => have := h x (by simp); omega
  | succ N ih =>
    intro l nd h
    by_cases hm : N ∈ l
    · have := ih (l.erase N) (nd.erase N) (fun x hx => by
        have h1 := h x (List.mem_of_mem_erase hx)
        have h2 : x ≠ N := fun e => by
          subst e
          exact (List.Nodup.mem_erase_iff nd).1 hx |>.1 rfl
        omega)
      rw [List.length_erase_of_mem hm] at this
      omega
    · have := ih l nd (fun x hx => by
        have h1 := h x hx
        have h2 : x ≠ N := fun e => hm (e ▸ hx)
        omega)
      omega
theorem setBlock_same' {w : World} {B : Nat} {o1 : Obj} (h : w.heap[B]? = some o1) (o : Obj) : (setBlock w B o).heap[B]? = some o := by
  have := (Array.getElem?_eq_some_iff.1 h).1
  simp [setBlock, this]
theorem setBlock_other' {w : World} {B k : Nat} {o1 : Obj} (h : w.heap[B]? = some o1) (o : Obj) (hk : k ≠ B) : (setBlock w B o).heap[k]? = w.heap[k]? := by
  simp [setBlock, Array.getElem?_setIfInBounds, Ne.symm hk]
theorem ents_few {es : Array MapEntry} {c : Nat} {F : Nat → Nat → Option Int} {n : Nat} (h : Ents es c F) (hF : ∀ i j u, F i j = some u → i < n ∧ j < n) : es.size ≤ n * n := by
  have key : ∀ e ∈ es.toList, ∃ i j, e.key = ev i j ∧ i < n ∧ j < n := fun e he => by
    obtain ⟨i, j, v, h1, _, h3, _⟩ := h.ent e he
    exact ⟨i, j, h1, (hF _ _ _ h3).1, (hF _ _ _ h3).2⟩
  have code : ∃ f : Value → Nat, ∀ i j, i < n → j < n → f (ev i j) = i * n + j := by
    refine ⟨fun v => match v with | .agg c => (intOf (c.getD 0 (.bool false))).toNat * n + (intOf (c.getD 1 (.bool false))).toNat | _ => 0, fun i j _ _ => ?_⟩
    simp [ev, intOf]
  obtain ⟨f, hf⟩ := code
  have := nodup_lt (n * n) (es.toList.map (fun e => f e.key)) (by
    rw [List.nodup_iff_pairwise_ne, List.pairwise_map]
    have hk := h.keys
    rw [List.nodup_iff_pairwise_ne, List.pairwise_map] at hk
    refine List.Pairwise.imp_of_mem ?_ hk
    intro a b ha hb hab e
    obtain ⟨i, j, e1, i1, j1⟩ := key a ha
    obtain ⟨k, l, e2, k1, l1⟩ := key b hb
    rw [e1, e2, hf i j i1 j1, hf k l k1 l1] at e
    obtain ⟨_, c2, c3⟩ := Jor.code i1 j1
    obtain ⟨_, d2, d3⟩ := Jor.code k1 l1
    have q1 : i = k := by rw [← c2, e, d2]
    have q2 : j = l := by rw [← c3, e, d3]
    exact hab (by rw [e1, e2, q1, q2])) (by
    intro x hx
    obtain ⟨e, he, rfl⟩ := List.mem_map.1 hx
    obtain ⟨i, j, e1, i1, j1⟩ := key e he
    rw [e1, hf i j i1 j1]
    exact (Jor.code i1 j1).1)
  simpa using this
def leftM (es : Array MapEntry) (r : Nat) (w : World) : Nat := match w.heap[r]? with | some (.mapIter _ _ seen _) => (Go.leftOf es seen).size | _ => 0
theorem leftM_eq {es : Array MapEntry} {r : Nat} {w : World} {m : Option Nat} {a c : Nat} {seen : Array Nat} (h : w.heap[r]? = some (.mapIter m a seen c)) : leftM es r w = (Go.leftOf es seen).size := by unfold leftM; rw [h]
theorem own_from {w : World} {B : Nat} {e : TypeId} {size n : Nat} {v : Value} {xs : List Value} (h : w.ownsRow B e size v n xs) {g : Nat} (hg : v.ownBlock = some g) : B ≤ g := by
  obtain ⟨_, h2⟩ := h
  rcases h2 with ⟨h2, _⟩ | ⟨g', cp, cur, h2, h3, _⟩
  · rw [h2] at hg; cases hg
  · rw [h2] at hg
    simp only [Value.ownBlock, Option.some.injEq] at hg
    omega
structure TInv (es : Array MapEntry) (seen : Array Nat) (T : List T3) : Prop where
  src : ∀ t ∈ T, ∃ e ∈ es.toList, seen.contains e.born = true ∧ e.key = ev t.1 t.2.1 ∧ e.val = .int .i64 (t.2.2 : Int) ∧ t.1 < t.2.1 ∧ t.1 < t.2.2
  all : ∀ e ∈ es.toList, seen.contains e.born = true → ∀ i j v : Nat, e.key = ev i j → e.val = .int .i64 (v : Int) → i < j → i < v → (i, j, v) ∈ T
  nd : T.Nodup
  few : T.length + (Go.leftOf es seen).size ≤ es.size
theorem push_has (seen : Array Nat) (b x : Nat) : (seen.push b).contains x = true ↔ seen.contains x = true ∨ x = b := by simp
theorem TInv.start (es : Array MapEntry) : TInv es #[] [] :=
  ⟨fun t h => by simp at h, fun e _ h => by simp at h, List.nodup_nil, by simp [Go.leftOf]; exact Array.size_filter_le⟩
theorem TInv.take {es : Array MapEntry} {c : Nat} {F : Nat → Nat → Option Int} {seen : Array Nat} {T : List T3} (hE : Ents es c F) (I : TInv es seen T) {e : MapEntry} (he : e ∈ (Go.leftOf es seen).toList) {i j v : Nat} (hk : e.key = ev i j) (hv : e.val = .int .i64 (v : Int)) (h1 : i < j) (h2 : i < v) : TInv es (seen.push e.born) (T ++ [(i, j, v)]) := by
  obtain ⟨hm, hs⟩ := Go.mem_left he
  have uni : ∀ e' ∈ es.toList, e'.key = e.key → e' = e := fun e' he' hkk => by
    obtain ⟨a, ha, rfl⟩ := List.getElem_of_mem he'
    obtain ⟨b, hb, hbe⟩ := List.getElem_of_mem hm
    have nd := hE.keys
    have : (es.toList.map (·.key))[a]'(by simpa using ha) = (es.toList.map (·.key))[b]'(by simpa using hb) := by
      rw [List.getElem_map, List.getElem_map, hbe]; exact hkk
    have := (List.getElem_inj nd).1 this
    subst this
    exact hbe
  have unib : ∀ e' ∈ es.toList, e'.born = e.born → e' = e := fun e' he' hkk => by
    obtain ⟨a, ha, rfl⟩ := List.getElem_of_mem he'
    obtain ⟨b, hb, hbe⟩ := List.getElem_of_mem hm
    have nd := hE.born
    have : (es.toList.map (·.born))[a]'(by simpa using ha) = (es.toList.map (·.born))[b]'(by simpa using hb) := by
      rw [List.getElem_map, List.getElem_map, hbe]; exact hkk
    have := (List.getElem_inj nd).1 this
    subst this
    exact hbe
  refine ⟨?_, ?_, ?_, ?_⟩
  · intro t ht
    rw [List.mem_append, List.mem_singleton] at ht
    rcases ht with ht | rfl
    · obtain ⟨e', q1, q2, q3⟩ := I.src t ht
      exact ⟨e', q1, (push_has _ _ _).2 (.inl q2), q3⟩
    · exact ⟨e, hm, (push_has _ _ _).2 (.inr rfl), hk, hv, h1, h2⟩
  · intro e' q1 q2 i' j' v' q3 q4 q5 q6
    rw [List.mem_append, List.mem_singleton]
    rcases (push_has _ _ _).1 q2 with q2 | q2
    · exact .inl (I.all e' q1 q2 i' j' v' q3 q4 q5 q6)
    · have := unib e' q1 q2
      subst this
      right
      obtain ⟨rfl, rfl⟩ := ev_inj (q3.symm.trans hk)
      rw [hv] at q4
      simp only [Value.int.injEq, true_and] at q4
      have : v = v' := by omega
      subst this; rfl
  · rw [List.nodup_append]
    refine ⟨I.nd, by simp, fun a ha b hb => ?_⟩
    rw [List.mem_singleton] at hb
    subst hb
    rintro rfl
    obtain ⟨e', q1, q2, q3, _⟩ := I.src _ ha
    have := uni e' q1 (q3.trans hk.symm)
    subst this
    rw [hs] at q2; cases q2
  · have h3 := Go.left_shrinks es seen e he
    have h4 := I.few
    rw [List.length_append]
    simp only [List.length_singleton]
    omega
theorem TInv.skip {es : Array MapEntry} {c : Nat} {F : Nat → Nat → Option Int} {seen : Array Nat} {T : List T3} (hE : Ents es c F) (I : TInv es seen T) {e : MapEntry} (he : e ∈ (Go.leftOf es seen).toList) {i j : Nat} {u : Int} (hk : e.key = ev i j) (hv : e.val = .int .i64 u) (h1 : ¬ ((i : Int) < j ∧ (i : Int) < u)) : TInv es (seen.push e.born) T := by
  obtain ⟨hm, hs⟩ := Go.mem_left he
  have unib : ∀ e' ∈ es.toList, e'.born = e.born → e' = e := fun e' he' hkk => by
    obtain ⟨a, ha, rfl⟩ := List.getElem_of_mem he'
    obtain ⟨b, hb, hbe⟩ := List.getElem_of_mem hm
    have nd := hE.born
    have : (es.toList.map (·.born))[a]'(by simpa using ha) = (es.toList.map (·.born))[b]'(by simpa using hb) := by
      rw [List.getElem_map, List.getElem_map, hbe]; exact hkk
    have := (List.getElem_inj nd).1 this
    subst this
    exact hbe
  refine ⟨?_, ?_, I.nd, ?_⟩
  · intro t ht
    obtain ⟨e', q1, q2, q3⟩ := I.src t ht
    exact ⟨e', q1, (push_has _ _ _).2 (.inl q2), q3⟩
  · intro e' q1 q2 i' j' v' q3 q4 q5 q6
    rcases (push_has _ _ _).1 q2 with q2 | q2
    · exact I.all e' q1 q2 i' j' v' q3 q4 q5 q6
    · have := unib e' q1 q2
      subst this
      exfalso
      obtain ⟨rfl, rfl⟩ := ev_inj (q3.symm.trans hk)
      rw [hv] at q4
      simp only [Value.int.injEq, true_and] at q4
      exact h1 (by omega)
  · have h3 := Go.left_shrinks es seen e he
    have h4 := I.few
    omega
theorem TInv.mem {es : Array MapEntry} {c : Nat} {F : Nat → Nat → Option Int} {seen : Array Nat} {T : List T3} (hE : Ents es c F) (I : TInv es seen T) (h0 : (Go.leftOf es seen).size = 0) (i j v : Nat) : (i, j, v) ∈ T ↔ F i j = some (v : Int) ∧ i < j ∧ i < v := by
  constructor
  · intro h
    obtain ⟨e, q1, _, q3, q4, q5, q6⟩ := I.src _ h
    obtain ⟨u, h1, h2⟩ := hE.val q1 q3
    rw [q4] at h1
    simp only [Value.int.injEq, true_and] at h1
    exact ⟨by rw [h2, h1], q5, q6⟩
  · rintro ⟨h, h1, h2⟩
    obtain ⟨e, he, hk⟩ := hE.has i j _ h
    obtain ⟨u, g1, g2⟩ := hE.val he hk
    rw [h] at g2
    cases g2
    exact I.all e he (Go.all_seen es seen h0 e he) i j v hk g1 h1 h2
theorem own_base {w : World} {B B' : Nat} {e : TypeId} {size n : Nat} {v : Value} {xs : List Value} (h : w.ownsRow B e size v n xs) (hB : B' ≤ B) : w.ownsRow B' e size v n xs := by
  obtain ⟨h1, h2⟩ := h
  refine ⟨h1, ?_⟩
  rcases h2 with h2 | ⟨g, c, cur, rfl, h3, h4⟩
  · exact .inl h2
  · exact .inr ⟨g, c, cur, rfl, by omega, h4⟩
theorem infoT : (Tryz.prog.info? 53).map (fun i => (i.zero, i.size, i.bytes)) = some (some (.agg #[.int .i64 0, .int .i64 0, .int .i64 0]), 3, 24) := by kernel_rfl
theorem underST : Tryz.prog.underlying 50 = some (.slice 53) := by kernel_rfl
theorem three_one (a b c : Int) : ∀ u ∈ [Value.int .i64 a, .int .i64 b, .int .i64 c], u.oneCell' = true := by
  intro u hu
  simp only [List.mem_cons, List.not_mem_nil, or_false] at hu
  rcases hu with rfl | rfl | rfl <;> rfl
set_option maxRecDepth 100000 in
set_option maxHeartbeats 4000000 in
theorem triangles_any (B bc b of n cap bm : Nat) (L : List (Nat × Nat)) (F : Nat → Nat → Option Int) (v : Value) (w : World) (hn : n ≤ 1000) (hS : CutS B w bc b of n cap bm L F v) (hF : ∀ i j u, F i j = some u → i < n ∧ j < n) (hne : ∃ i j u : Nat, F i j = some (u : Int) ∧ i < j ∧ i < u) :
    Calls Tryz.prog 71 #[.pointer (some ⟨bc, 0, none⟩)] w fun e w' => ∃ y T, e = .returned y ∧ w'.ownsRow w.heap.size 53 3 y T.length (cells3 T) ∧ T.Pairwise lt3 ∧ (∀ i j u, (i, j, u) ∈ T ↔ F i j = some (u : Int) ∧ i < j ∧ i < u) ∧ RowKit.Below w.heap.size w w' := by
  obtain ⟨i0, hi0, hz0, hz1, hz2⟩ := info_parts infoT
  have c2 := hS.c2
  obtain ⟨es, clock, hb, hE⟩ := hS.map
  have hes : es.size ≤ 1000000 := by
    have h1 := ents_few hE hF
    have h2 : n * n ≤ 1000 * 1000 := Nat.mul_le_mul hn hn
    omega
  have hbl : bm < w.heap.size := (Array.getElem?_eq_some_iff.1 hb).1
  have rr := run_range_map (P := Tryz.prog) w 79 106 3 bm es clock underME hb
  go_enter Tryz.func71, Tryz.ntmps71
  go_wp2
  have hr0 : (w.alloc (.mapIter (some bm) clock #[] clock)).heap[w.heap.size]? = some (.mapIter (some bm) clock #[] clock) := heap_alloc_new _ _
  have hb0 : (w.alloc (.mapIter (some bm) clock #[] clock)).heap[bm]? = some (.map es clock) := (RowKit.Below.heap_alloc _ _ _ hbl).trans hb
  have hB0 : RowKit.Below w.heap.size w (w.alloc (.mapIter (some bm) clock #[] clock)) := (RowKit.Below.refl _ _).alloc (Nat.le_refl _) _
  have hs0 : w.heap.size + 1 ≤ (w.alloc (.mapIter (some bm) clock #[] clock)).heap.size := by simp
  have HE : Hid (Ents es clock F) := hE
  clear rr c2 hE
  go_loopw [3, 4, 5] (fun y0 _ _ wr => ∃ (T : List T3) (seen : Array Nat) (c0 : Nat) (y : Value), y = y0 ∧ clock ≤ c0 ∧ wr.heap[w.heap.size]? = some (.mapIter (some bm) clock seen c0) ∧ wr.heap[bm]? = some (.map es clock) ∧ wr.ownsRow (w.heap.size + 1) 53 3 y T.length (cells3 T) ∧ TInv es seen T ∧ RowKit.Below w.heap.size w wr ∧ w.heap.size + 1 ≤ wr.heap.size) (fun _ _ _ wr => leftM es w.heap.size wr)
  case atStart => exact ⟨[], #[], clock, _, rfl, Nat.le_refl _, hr0, hb0, World.ownsRow_nil _ _ _ _, TInv.start es, hB0, hs0⟩
  case round =>
    clear hr0 hb0 hB0 hs0
    obtain ⟨T, seen, c0, y, rfl, hc0, hr, hbr, hown, hI, hBr, hsr⟩ := hrel
    have HI : Hid (TInv es seen T) := hI
    clear hI
    rcases run_next_at (P := Tryz.prog) wr 0 w.heap.size bm clock c0 seen es clock hr hbr HE.out.fresh hc0 with ⟨h0, hrun⟩ | ⟨e, he, w1, hw1, hrun⟩
    · have HM : Hid (∀ i j u, (i, j, u) ∈ T ↔ F i j = some (u : Int) ∧ i < j ∧ i < u) := fun i j u => HI.out.mem HE.out h0 i j u
      have hpos : 0 < T.length := by
        obtain ⟨i, j, u, q⟩ := hne
        exact List.length_pos_of_mem ((HM.out i j u).2 q)
      obtain ⟨g, cp, rfl, hgb⟩ : ∃ g cp, y = .slice (some ⟨g, 0, none⟩) T.length cp ∧ w.heap.size + 1 ≤ g := by
        obtain ⟨_, h2⟩ := hown
        rcases h2 with ⟨_, h2⟩ | ⟨g, cp, cur, h2, h3, _⟩
        · omega
        · exact ⟨g, cp, h2, h3⟩
      have hfew : T.length ≤ 1048576 := by have := HI.out.few; omega
      have CS : Hid (Calls Tryz.prog 88 #[.slice (some ⟨g, 0, none⟩) T.length cp, .func (.func 89) #[] #[]] wr fun e w' => e = .returned (.tuple #[]) ∧ ∃ T', T'.Perm T ∧ T'.Pairwise lt3 ∧ w'.ownsRow (w.heap.size + 1) 53 3 (.slice (some ⟨g, 0, none⟩) T.length cp) T.length (cells3 T') ∧ w'.os = wr.os ∧ w'.tape = wr.tape ∧ w'.output = wr.output ∧ wr.heap.size ≤ w'.heap.size ∧ ∀ k, k < wr.heap.size → k ≠ g → w'.heap[k]? = wr.heap[k]?) := sort3_any _ g cp T wr hfew hown HI.out.nd
      clear hown HI hr hbr hne
      go_wp2_with (go_at_call 88; refine CS.out.mono ?_; rintro e w2 ⟨rfl, T', hp, hs, ho, q1, q2, q3, q4, q5⟩)
      go_ret
      have hl : T'.length = T.length := hp.length_eq
      refine ⟨_, T', rfl, by rw [hl]; exact own_base ho (Nat.le_succ _), hs, fun i j u => ?_, ?_⟩
      · rw [hp.mem_iff]; exact HM.out i j u
      · have := hBr.size
        exact ⟨q1.trans hBr.os, q2.trans hBr.tape, q3.trans hBr.output, by omega, fun k hk => (q5 k (by omega) (by omega)).trans (hBr.block k hk)⟩
    · obtain ⟨i, j, u, hk, hv, hFu, hi1, hj1⟩ := HE.out.ent e (Go.mem_left he).1
      have hr1 : w1.heap[w.heap.size]? = some (.mapIter (some bm) clock seen c0) := by rcases hw1 with rfl | rfl <;> exact hr
      have hnb : bm ≠ w.heap.size := by omega
      have n1 : (setBlock w1 w.heap.size (.mapIter (some bm) clock (seen.push e.born) clock)).heap[w.heap.size]? = some (.mapIter (some bm) clock (seen.push e.born) clock) := setBlock_same' hr1 _
      have n2 : (setBlock w1 w.heap.size (.mapIter (some bm) clock (seen.push e.born) clock)).heap[bm]? = some (.map es clock) := by
        rw [setBlock_other' hr1 _ hnb]
        rcases hw1 with rfl | rfl <;> exact hbr
      have n3 : ∀ k, k ≠ w.heap.size → (setBlock w1 w.heap.size (.mapIter (some bm) clock (seen.push e.born) clock)).heap[k]? = wr.heap[k]? := fun k hk => by
        rw [setBlock_other' hr1 _ hk]
        rcases hw1 with rfl | rfl <;> rfl
      have n4 : (setBlock w1 w.heap.size (.mapIter (some bm) clock (seen.push e.born) clock)).heap.size = wr.heap.size := by
        simp only [setBlock]
        rcases hw1 with rfl | rfl <;> simp
      have n5 : RowKit.Below w.heap.size w (setBlock w1 w.heap.size (.mapIter (some bm) clock (seen.push e.born) clock)) := by
        have h1 := hBr.os; have h2 := hBr.tape; have h3 := hBr.output
        refine ⟨?_, ?_, ?_, by rw [n4]; omega, fun k hk => (n3 k (by omega)).trans (hBr.block k hk)⟩
        · rcases hw1 with rfl | rfl <;> exact h1
        · rcases hw1 with rfl | rfl <;> exact h2
        · rcases hw1 with rfl | rfl <;> exact h3
      have n6 : (setBlock w1 w.heap.size (.mapIter (some bm) clock (seen.push e.born) clock)).ownsRow (w.heap.size + 1) 53 3 y T.length (cells3 T) := own_keep hown (fun g hg => n3 g (fun h => by
        obtain ⟨_, h2⟩ := hown
        rcases h2 with ⟨h2, _⟩ | ⟨g', cp, cur, h2, h3, _⟩
        · rw [h2] at hg; cases hg
        · rw [h2] at hg
          simp only [Value.ownBlock, Option.some.injEq] at hg
          omega))
      have hen := run_entry_at (P := Tryz.prog) _ w.heap.size bm clock seen es clock e n1 n2 (Go.mem_left he).1 HE.out.born
      have HM : Hid ((Go.leftOf es (seen.push e.born)).size < (Go.leftOf es seen).size) := Go.left_shrinks es seen e he
      have HT : Hid (∀ u' : Nat, u = u' → i < j → i < u' → TInv es (seen.push e.born) (T ++ [(i, j, u')])) := fun u' h h1 h2 => HI.out.take HE.out he hk (by rw [hv, h]) h1 h2
      have HK : Hid (¬ ((i : Int) < j ∧ (i : Int) < u) → TInv es (seen.push e.born) T) := fun h => HI.out.skip HE.out he hk hv h
      have hfew : T.length + 1 ≤ 1048576 := by
        have := HI.out.few
        have := Go.left_shrinks es seen e he
        omega
      have HMr : Hid (wr.heap[w.heap.size]? = some (.mapIter (some bm) clock seen c0)) := hr
      rw [hk, hv] at hrun hen
      unfold ev at hrun hen
      clear HI hk hv hFu he hr hbr hown hr1 hw1 n3 hBr
      generalize hN : setBlock w1 w.heap.size (.mapIter (some bm) clock (seen.push e.born) clock) = Wn at *
      generalize seen.push e.born = sn at *
      clear hN
      have e0 : (Wn.alloc (.cells #[.int .i64 (i : Int), .int .i64 (j : Int)] 106)).cell? ⟨Wn.heap.size, 0, none⟩ = some (.int .i64 (i : Int)) := by simp [go_sem]
      have e1 : (Wn.alloc (.cells #[.int .i64 (i : Int), .int .i64 (j : Int)] 106)).cell? ⟨Wn.heap.size, 1, none⟩ = some (.int .i64 (j : Int)) := by simp [go_sem]
      have hbA : RowKit.Below Wn.heap.size Wn (Wn.alloc (.cells #[.int .i64 (i : Int), .int .i64 (j : Int)] 106)) := (RowKit.Below.refl _ _).alloc (Nat.le_refl _) _
      have m1 := (hbA.block w.heap.size (by omega)).trans n1
      have m2 := (hbA.block bm (by omega)).trans n2
      have m5 : RowKit.Below w.heap.size w (Wn.alloc (.cells #[.int .i64 (i : Int), .int .i64 (j : Int)] 106)) := n5.alloc (by omega) _
      have m6 := n6.alloc (.cells #[.int .i64 (i : Int), .int .i64 (j : Int)] 106)
      have ms : (Wn.alloc (.cells #[.int .i64 (i : Int), .int .i64 (j : Int)] 106)).heap.size = wr.heap.size + 1 := by simp [n4]
      rw [n4] at e0 e1
      clear n1 n2 n5 n6 hbA
      generalize hWe : Wn.alloc (.cells #[.int .i64 (i : Int), .int .i64 (j : Int)] 106) = We at *
      by_cases h1 : (i : Int) < (j : Int)
      · by_cases h2 : (i : Int) < u
        · obtain ⟨u', rfl⟩ : ∃ u' : Nat, u = (u' : Int) := ⟨u.toNat, by omega⟩
          have HT2 : Hid (TInv es sn (T ++ [(i, j, u')])) := HT.out u' rfl (by omega) (by omega)
          clear HT HK
          have hA2 : Hid (T.length + 1 ≤ maxLen) := by show _ ≤ _; unfold maxLen; omega
          have hsz : w.heap.size + 1 ≤ (We.alloc (.cells #[.int .i64 (i : Int), .int .i64 (j : Int), .int .i64 (u' : Int)] 53)).heap.size := by simp; omega
          go_wp2_with (at_builtin; refine wpList_append_lies _ rfl _ _ 50 rfl (w.heap.size + 1) 53 i0 _ 3 24 underST hi0 hz0 hz1 hz2 rfl (by decide) _ _ _ rfl (m6.alloc _) ⟨_, 0, none⟩ 1 1 _ rfl rfl (World.news_of_block (by rw [← ms]; exact heap_alloc_new _ _)) (three_one _ _ _) (by decide) hA2.out (by omega) hsz _ rfl ?_; intro g cp w3 hown3 hgrow3 hat3 hlt3)
          have k1 : w3.heap[w.heap.size]? = some (.mapIter (some bm) clock sn clock) := by
            rw [hgrow3.block w.heap.size (by simp; omega) (fun h => by have := own_from m6 h.symm; omega), RowKit.Below.heap_alloc _ _ _ (by omega)]; exact m1
          have k2 : w3.heap[bm]? = some (.map es clock) := by
            rw [hgrow3.block bm (by simp; omega) (fun h => by have := own_from m6 h.symm; omega), RowKit.Below.heap_alloc _ _ _ (by omega)]; exact m2
          have k5 : RowKit.Below w.heap.size w w3 := (m5.alloc (by omega) _).grown hgrow3 (by omega) (fun k e => by have := own_from m6 e; omega)
          have k6 := hgrow3.size
          go_roundw
          case rel => exact ⟨T ++ [(i, j, u')], sn, clock, _, rfl, Nat.le_refl _, k1, k2, by rw [cells3_snoc, List.length_append]; exact hown3, HT2.out, k5, by simp at k6; omega⟩
          case measure => rw [leftM_eq k1, leftM_eq HMr.out]; exact HM.out
        · have HT2 : Hid (TInv es sn T) := HK.out (by omega)
          clear HT HK
          go_wp2
          go_roundw
          case rel => exact ⟨T, sn, clock, _, rfl, Nat.le_refl _, m1, m2, m6, HT2.out, m5, by omega⟩
          case measure => rw [leftM_eq m1, leftM_eq HMr.out]; exact HM.out
      · have HT2 : Hid (TInv es sn T) := HK.out (by omega)
        clear HT HK
        go_wp2
        go_roundw
        case rel => exact ⟨T, sn, clock, _, rfl, Nat.le_refl _, m1, m2, m6, HT2.out, m5, by omega⟩
        case measure => rw [leftM_eq m1, leftM_eq HMr.out]; exact HM.out
end Go.Proofs.YtdkaoopkbhaheaaGreat
