import Derived.Test.YtdkaoopkbhaheaaPN12
namespace Go.Proofs.Ytdkaoopkbhaheaa
open Go.RowKit Go.Lib
open Go.ChangeMaps (setBlock heap_setBlock_same heap_setBlock_other)
set_option linter.unusedVariables false
set_option linter.unusedSimpArgs false
theorem nodup_lt : ∀ (N : Nat) (l : List Nat), l.Nodup → (∀ x ∈ l, x < N) → l.length ≤ N := by
  intro N
  induction N with
  | zero =>
    intro l _ h
    cases l with
    | nil => simp
    | cons x l => have := h x (by simp); omega
  | succ N ih =>
    intro l nd h
    by_cases hm : N ∈ l
    · have := ih (l.erase N) (nd.erase N) (fun x hx => by
        have h1 := h x (List.mem_of_mem_erase hx)
        have h2 : x ≠ N := fun e => by
          subst e
          exact (List.Nodup.mem_erase_iff nd).1 hx |>.1 rfl
        omega)
      rw [List.length_erase_of_mem hm] at this
      omega
    · have := ih l nd (fun x hx => by
        have h1 := h x hx
        have h2 : x ≠ N := fun e => hm (e ▸ hx)
        omega)
      omega
theorem setBlock_same' {w : World} {B : Nat} {o1 : Obj} (h : w.heap[B]? = some o1) (o : Obj) : (setBlock w B o).heap[B]? = some o := by
  have := (Array.getElem?_eq_some_iff.1 h).1
  simp [setBlock, this]
theorem setBlock_other' {w : World} {B k : Nat} {o1 : Obj} (h : w.heap[B]? = some o1) (o : Obj) (hk : k ≠ B) : (setBlock w B o).heap[k]? = w.heap[k]? := by
  simp [setBlock, Array.getElem?_setIfInBounds, Ne.symm hk]
theorem ents_few {es : Array MapEntry} {c : Nat} {F : Nat → Nat → Option Int} {n : Nat} (h : Ents es c F) (hF : ∀ i j u, F i j = some u → i < n ∧ j < n) : es.size ≤ n * n := by
  have key : ∀ e ∈ es.toList, ∃ i j, e.key = ev i j ∧ i < n ∧ j < n := fun e he => by
    obtain ⟨i, j, v, h1, _, h3, _⟩ := h.ent e he
    exact ⟨i, j, h1, (hF _ _ _ h3).1, (hF _ _ _ h3).2⟩
  have code : ∃ f : Value → Nat, ∀ i j, i < n → j < n → f (ev i j) = i * n + j := by
    refine ⟨fun v => match v with | .agg c => (intOf (c.getD 0 (.bool false))).toNat * n + (intOf (c.getD 1 (.bool false))).toNat | _ => 0, fun i j _ _ => ?_⟩
    simp [ev, intOf]
  obtain ⟨f, hf⟩ := code
  have := nodup_lt (n * n) (es.toList.map (fun e => f e.key)) (by
    rw [List.nodup_iff_pairwise_ne, List.pairwise_map]
    have hk := h.keys
    rw [List.nodup_iff_pairwise_ne, List.pairwise_map] at hk
    refine List.Pairwise.imp_of_mem ?_ hk
    intro a b ha hb hab e
    obtain ⟨i, j, e1, i1, j1⟩ := key a ha
    obtain ⟨k, l, e2, k1, l1⟩ := key b hb
    rw [e1, e2, hf i j i1 j1, hf k l k1 l1] at e
    obtain ⟨_, c2, c3⟩ := Jor.code i1 j1
    obtain ⟨_, d2, d3⟩ := Jor.code k1 l1
    have q1 : i = k := by rw [← c2, e, d2]
    have q2 : j = l := by rw [← c3, e, d3]
    exact hab (by rw [e1, e2, q1, q2])) (by
    intro x hx
    obtain ⟨e, he, rfl⟩ := List.mem_map.1 hx
    obtain ⟨i, j, e1, i1, j1⟩ := key e he
    rw [e1, hf i j i1 j1]
    exact (Jor.code i1 j1).1)
  simpa using this
def leftM (es : Array MapEntry) (r : Nat) (w : World) : Nat := match w.heap[r]? with | some (.mapIter _ _ seen _) => (Go.leftOf es seen).size | _ => 0
theorem leftM_eq {es : Array MapEntry} {r : Nat} {w : World} {m : Option Nat} {a c : Nat} {seen : Array Nat} (h : w.heap[r]? = some (.mapIter m a seen c)) : leftM es r w = (Go.leftOf es seen).size := by unfold leftM; rw [h]
theorem own_from {w : World} {B : Nat} {e : TypeId} {size n : Nat} {v : Value} {xs : List Value} (h : w.ownsRow B e size v n xs) {g : Nat} (hg : v.ownBlock = some g) : B ≤ g := by
  obtain ⟨_, h2⟩ := h
  rcases h2 with ⟨h2, _⟩ | ⟨g', cp, cur, h2, h3, _⟩
  · rw [h2] at hg; cases hg
  · rw [h2] at hg
    simp only [Value.ownBlock, Option.some.injEq] at hg
    omega
structure TInv (es : Array MapEntry) (seen : Array Nat) (T : List T3) : Prop where
  src : ∀ t ∈ T, ∃ e ∈ es.toList, seen.contains e.born = true ∧ e.key = ev t.1 t.2.1 ∧ e.val = .int .i64 (t.2.2 : Int) ∧ t.1 < t.2.1 ∧ t.1 < t.2.2
  all : ∀ e ∈ es.toList, seen.contains e.born = true → ∀ i j v : Nat, e.key = ev i j → e.val = .int .i64 (v : Int) → i < j → i < v → (i, j, v) ∈ T
  nd : T.Nodup
  few : T.length + (Go.leftOf es seen).size ≤ es.size
theorem push_has (seen : Array Nat) (b x : Nat) : (seen.push b).contains x = true ↔ seen.contains x = true ∨ x = b := by simp
theorem TInv.start (es : Array MapEntry) : TInv es #[] [] :=
  ⟨fun t h => by simp at h, fun e _ h => by simp at h, List.nodup_nil, by simp [Go.leftOf]; exact Array.size_filter_le⟩
theorem TInv.take {es : Array MapEntry} {c : Nat} {F : Nat → Nat → Option Int} {seen : Array Nat} {T : List T3} (hE : Ents es c F) (I : TInv es seen T) {e : MapEntry} (he : e ∈ (Go.leftOf es seen).toList) {i j v : Nat} (hk : e.key = ev i j) (hv : e.val = .int .i64 (v : Int)) (h1 : i < j) (h2 : i < v) : TInv es (seen.push e.born) (T ++ [(i, j, v)]) := by
  obtain ⟨hm, hs⟩ := Go.mem_left he
  have uni : ∀ e' ∈ es.toList, e'.key = e.key → e' = e := fun e' he' hkk => by
    obtain ⟨a, ha, rfl⟩ := List.getElem_of_mem he'
    obtain ⟨b, hb, hbe⟩ := List.getElem_of_mem hm
    have nd := hE.keys
    have : (es.toList.map (·.key))[a]'(by simpa using ha) = (es.toList.map (·.key))[b]'(by simpa using hb) := by
      rw [List.getElem_map, List.getElem_map, hbe]; exact hkk
    have := (List.getElem_inj nd).1 this
    subst this
    exact hbe
  have unib : ∀ e' ∈ es.toList, e'.born = e.born → e' = e := fun e' he' hkk => by
    obtain ⟨a, ha, rfl⟩ := List.getElem_of_mem he'
    obtain ⟨b, hb, hbe⟩ := List.getElem_of_mem hm
    have nd := hE.born
    have : (es.toList.map (·.born))[a]'(by simpa using ha) = (es.toList.map (·.born))[b]'(by simpa using hb) := by
      rw [List.getElem_map, List.getElem_map, hbe]; exact hkk
    have := (List.getElem_inj nd).1 this
    subst this
    exact hbe
  refine ⟨?_, ?_, ?_, ?_⟩
  · intro t ht
    rw [List.mem_append, List.mem_singleton] at ht
    rcases ht with ht | rfl
    · obtain ⟨e', q1, q2, q3⟩ := I.src t ht
      exact ⟨e', q1, (push_has _ _ _).2 (.inl q2), q3⟩
    · exact ⟨e, hm, (push_has _ _ _).2 (.inr rfl), hk, hv, h1, h2⟩
  · intro e' q1 q2 i' j' v' q3 q4 q5 q6
    rw [List.mem_append, List.mem_singleton]
    rcases (push_has _ _ _).1 q2 with q2 | q2
    · exact .inl (I.all e' q1 q2 i' j' v' q3 q4 q5 q6)
    · have := unib e' q1 q2
      subst this
      right
      obtain ⟨rfl, rfl⟩ := ev_inj (q3.symm.trans hk)
      rw [hv] at q4
      simp only [Value.int.injEq, true_and] at q4
      have : v = v' := by omega
      subst this; rfl
  · rw [List.nodup_append]
    refine ⟨I.nd, by simp, fun a ha b hb => ?_⟩
    rw [List.mem_singleton] at hb
    subst hb
    rintro rfl
    obtain ⟨e', q1, q2, q3, _⟩ := I.src _ ha
    have := uni e' q1 (q3.trans hk.symm)
    subst this
    rw [hs] at q2; cases q2
  · have h3 := Go.left_shrinks es seen e he
    have h4 := I.few
    rw [List.length_append]
    simp only [List.length_singleton]
    omega
theorem TInv.skip {es : Array MapEntry} {c : Nat} {F : Nat → Nat → Option Int} {seen : Array Nat} {T : List T3} (hE : Ents es c F) (I : TInv es seen T) {e : MapEntry} (he : e ∈ (Go.leftOf es seen).toList) {i j : Nat} {u : Int} (hk : e.key = ev i j) (hv : e.val = .int .i64 u) (h1 : ¬ ((i : Int) < j ∧ (i : Int) < u)) : TInv es (seen.push e.born) T := by
  obtain ⟨hm, hs⟩ := Go.mem_left he
  have unib : ∀ e' ∈ es.toList, e'.born = e.born → e' = e := fun e' he' hkk => by
    obtain ⟨a, ha, rfl⟩ := List.getElem_of_mem he'
    obtain ⟨b, hb, hbe⟩ := List.getElem_of_mem hm
    have nd := hE.born
    have : (es.toList.map (·.born))[a]'(by simpa using ha) = (es.toList.map (·.born))[b]'(by simpa using hb) := by
      rw [List.getElem_map, List.getElem_map, hbe]; exact hkk
    have := (List.getElem_inj nd).1 this
    subst this
    exact hbe
  refine ⟨?_, ?_, I.nd, ?_⟩
  · intro t ht
    obtain ⟨e', q1, q2, q3⟩ := I.src t ht
    exact ⟨e', q1, (push_has _ _ _).2 (.inl q2), q3⟩
  · intro e' q1 q2 i' j' v' q3 q4 q5 q6
    rcases (push_has _ _ _).1 q2 with q2 | q2
    · exact I.all e' q1 q2 i' j' v' q3 q4 q5 q6
    · have := unib e' q1 q2
      subst this
      exfalso
      obtain ⟨rfl, rfl⟩ := ev_inj (q3.symm.trans hk)
      rw [hv] at q4
      simp only [Value.int.injEq, true_and] at q4
      exact h1 (by omega)
  · have h3 := Go.left_shrinks es seen e he
    have h4 := I.few
    omega
theorem TInv.mem {es : Array MapEntry} {c : Nat} {F : Nat → Nat → Option Int} {seen : Array Nat} {T : List T3} (hE : Ents es c F) (I : TInv es seen T) (h0 : (Go.leftOf es seen).size = 0) (i j v : Nat) : (i, j, v) ∈ T ↔ F i j = some (v : Int) ∧ i < j ∧ i < v := by
  constructor
  · intro h
    obtain ⟨e, q1, _, q3, q4, q5, q6⟩ := I.src _ h
    obtain ⟨u, h1, h2⟩ := hE.val q1 q3
    rw [q4] at h1
    simp only [Value.int.injEq, true_and] at h1
    exact ⟨by rw [h2, h1], q5, q6⟩
  · rintro ⟨h, h1, h2⟩
    obtain ⟨e, he, hk⟩ := hE.has i j _ h
    obtain ⟨u, g1, g2⟩ := hE.val he hk
    rw [h] at g2
    cases g2
    exact I.all e he (Go.all_seen es seen h0 e he) i j v hk g1 h1 h2
theorem own_base {w : World} {B B' : Nat} {e : TypeId} {size n : Nat} {v : Value} {xs : List Value} (h : w.ownsRow B e size v n xs) (hB : B' ≤ B) : w.ownsRow B' e size v n xs := by
  obtain ⟨h1, h2⟩ := h
  refine ⟨h1, ?_⟩
  rcases h2 with h2 | ⟨g, c, cur, rfl, h3, h4⟩
  · exact .inl h2
  · exact .inr ⟨g, c, cur, rfl, by omega, h4⟩
theorem infoT : (Try.prog.info? 57).map (fun i => (i.zero, i.size, i.bytes)) = some (some (.agg #[.int .i64 0, .int .i64 0, .int .i64 0]), 3, 24) := by kernel_rfl
theorem underST : Try.prog.underlying 52 = some (.slice 57) := by kernel_rfl
theorem three_one (a b c : Int) : ∀ u ∈ [Value.int .i64 a, .int .i64 b, .int .i64 c], u.oneCell' = true := by
  intro u hu
  simp only [List.mem_cons, List.not_mem_nil, or_false] at hu
  rcases hu with rfl | rfl | rfl <;> rfl
set_option maxRecDepth 100000 in
set_option maxHeartbeats 4000000 in
theorem triangles_any (B bc b of n cap bm : Nat) (L : List (Nat × Nat)) (F : Nat → Nat → Option Int) (v : Value) (w : World) (hn : n ≤ 1000) (hS : CutS B w bc b of n cap bm L F v) (hF : ∀ i j u, F i j = some u → i < n ∧ j < n) (hne : ∃ i j u : Nat, F i j = some (u : Int) ∧ i < j ∧ i < u) :
    Calls Try.prog 96 #[.pointer (some ⟨bc, 0, none⟩)] w fun e w' => ∃ y T, e = .returned y ∧ w'.ownsRow w.heap.size 57 3 y T.length (cells3 T) ∧ T.Pairwise lt3 ∧ (∀ i j u, (i, j, u) ∈ T ↔ F i j = some (u : Int) ∧ i < j ∧ i < u) ∧ RowKit.Below w.heap.size w w' := by
  obtain ⟨i0, hi0, hz0, hz1, hz2⟩ := info_parts infoT
  have c2 := hS.c2
  obtain ⟨es, clock, hb, hE⟩ := hS.map
  have hes : es.size ≤ 1000000 := by
    have h1 := ents_few hE hF
    have h2 : n * n ≤ 1000 * 1000 := Nat.mul_le_mul hn hn
    omega
  have hbl : bm < w.heap.size := (Array.getElem?_eq_some_iff.1 hb).1
  have rr := run_range_map (P := Try.prog) w 94 120 3 bm es clock underME hb
  go_enter Try.func96, Try.ntmps96
  go_wp2
  have hr0 : (w.alloc (.mapIter (some bm) clock #[] clock)).heap[w.heap.size]? = some (.mapIter (some bm) clock #[] clock) := heap_alloc_new _ _
  have hb0 : (w.alloc (.mapIter (some bm) clock #[] clock)).heap[bm]? = some (.map es clock) := (RowKit.Below.heap_alloc _ _ _ hbl).trans hb
  have hB0 : RowKit.Below w.heap.size w (w.alloc (.mapIter (some bm) clock #[] clock)) := (RowKit.Below.refl _ _).alloc (Nat.le_refl _) _
  have hs0 : w.heap.size + 1 ≤ (w.alloc (.mapIter (some bm) clock #[] clock)).heap.size := by simp
  have HE : Hid (Ents es clock F) := hE
  clear rr c2 hE
  go_loopw [3, 4, 5] (fun y0 _ _ wr => ∃ (T : List T3) (seen : Array Nat) (c0 : Nat) (y : Value), y = y0 ∧ clock ≤ c0 ∧ wr.heap[w.heap.size]? = some (.mapIter (some bm) clock seen c0) ∧ wr.heap[bm]? = some (.map es clock) ∧ wr.ownsRow (w.heap.size + 1) 57 3 y T.length (cells3 T) ∧ TInv es seen T ∧ RowKit.Below w.heap.size w wr ∧ w.heap.size + 1 ≤ wr.heap.size) (fun _ _ _ wr => leftM es w.heap.size wr)
  case atStart => exact ⟨[], #[], clock, _, rfl, Nat.le_refl _, hr0, hb0, World.ownsRow_nil _ _ _ _, TInv.start es, hB0, hs0⟩
  case round =>
    clear hr0 hb0 hB0 hs0
    obtain ⟨T, seen, c0, y, rfl, hc0, hr, hbr, hown, hI, hBr, hsr⟩ := hrel
    have HI : Hid (TInv es seen T) := hI
    clear hI
    rcases run_next_at (P := Try.prog) wr 0 w.heap.size bm clock c0 seen es clock hr hbr HE.out.fresh hc0 with ⟨h0, hrun⟩ | ⟨e, he, w1, hw1, hrun⟩
    · have HM : Hid (∀ i j u, (i, j, u) ∈ T ↔ F i j = some (u : Int) ∧ i < j ∧ i < u) := fun i j u => HI.out.mem HE.out h0 i j u
      have hpos : 0 < T.length := by
        obtain ⟨i, j, u, q⟩ := hne
        exact List.length_pos_of_mem ((HM.out i j u).2 q)
      obtain ⟨g, cp, rfl, hgb⟩ : ∃ g cp, y = .slice (some ⟨g, 0, none⟩) T.length cp ∧ w.heap.size + 1 ≤ g := by
        obtain ⟨_, h2⟩ := hown
        rcases h2 with ⟨_, h2⟩ | ⟨g, cp, cur, h2, h3, _⟩
        · omega
        · exact ⟨g, cp, h2, h3⟩
      have hfew : T.length ≤ 1048576 := by have := HI.out.few; omega
      have CS : Hid (Calls Try.prog 108 #[.slice (some ⟨g, 0, none⟩) T.length cp, .func (.func 109) #[] #[]] wr fun e w' => e = .returned (.tuple #[]) ∧ ∃ T', T'.Perm T ∧ T'.Pairwise lt3 ∧ w'.ownsRow (w.heap.size + 1) 57 3 (.slice (some ⟨g, 0, none⟩) T.length cp) T.length (cells3 T') ∧ w'.os = wr.os ∧ w'.tape = wr.tape ∧ w'.output = wr.output ∧ wr.heap.size ≤ w'.heap.size ∧ ∀ k, k < wr.heap.size → k ≠ g → w'.heap[k]? = wr.heap[k]?) := sort3_any _ g cp T wr hfew hown HI.out.nd
      clear hown HI hr hbr hne
      go_wp2_with (go_at_call 108; refine CS.out.mono ?_; rintro e w2 ⟨rfl, T', hp, hs, ho, q1, q2, q3, q4, q5⟩)
      go_ret
      have hl : T'.length = T.length := hp.length_eq
      refine ⟨_, T', rfl, by rw [hl]; exact own_base ho (Nat.le_succ _), hs, fun i j u => ?_, ?_⟩
      · rw [hp.mem_iff]; exact HM.out i j u
      · have := hBr.size
        exact ⟨q1.trans hBr.os, q2.trans hBr.tape, q3.trans hBr.output, by omega, fun k hk => (q5 k (by omega) (by omega)).trans (hBr.block k hk)⟩
    · obtain ⟨i, j, u, hk, hv, hFu, hi1, hj1⟩ := HE.out.ent e (Go.mem_left he).1
      have hr1 : w1.heap[w.heap.size]? = some (.mapIter (some bm) clock seen c0) := by rcases hw1 with rfl | rfl <;> exact hr
      have hnb : bm ≠ w.heap.size := by omega
      have n1 : (setBlock w1 w.heap.size (.mapIter (some bm) clock (seen.push e.born) clock)).heap[w.heap.size]? = some (.mapIter (some bm) clock (seen.push e.born) clock) := setBlock_same' hr1 _
      have n2 : (setBlock w1 w.heap.size (.mapIter (some bm) clock (seen.push e.born) clock)).heap[bm]? = some (.map es clock) := by
        rw [setBlock_other' hr1 _ hnb]
        rcases hw1 with rfl | rfl <;> exact hbr
      have n3 : ∀ k, k ≠ w.heap.size → (setBlock w1 w.heap.size (.mapIter (some bm) clock (seen.push e.born) clock)).heap[k]? = wr.heap[k]? := fun k hk => by
        rw [setBlock_other' hr1 _ hk]
        rcases hw1 with rfl | rfl <;> rfl
      have n4 : (setBlock w1 w.heap.size (.mapIter (some bm) clock (seen.push e.born) clock)).heap.size = wr.heap.size := by
        simp only [setBlock]
        rcases hw1 with rfl | rfl <;> simp
      have n5 : RowKit.Below w.heap.size w (setBlock w1 w.heap.size (.mapIter (some bm) clock (seen.push e.born) clock)) := by
        have h1 := hBr.os; have h2 := hBr.tape; have h3 := hBr.output
        refine ⟨?_, ?_, ?_, by rw [n4]; omega, fun k hk => (n3 k (by omega)).trans (hBr.block k hk)⟩
        · rcases hw1 with rfl | rfl <;> exact h1
        · rcases hw1 with rfl | rfl <;> exact h2
        · rcases hw1 with rfl | rfl <;> exact h3
      have n6 : (setBlock w1 w.heap.size (.mapIter (some bm) clock (seen.push e.born) clock)).ownsRow (w.heap.size + 1) 57 3 y T.length (cells3 T) := own_keep hown (fun g hg => n3 g (fun h => by
        obtain ⟨_, h2⟩ := hown
        rcases h2 with ⟨h2, _⟩ | ⟨g', cp, cur, h2, h3, _⟩
        · rw [h2] at hg; cases hg
        · rw [h2] at hg
          simp only [Value.ownBlock, Option.some.injEq] at hg
          omega))
      have hen := run_entry_at (P := Try.prog) _ w.heap.size bm clock seen es clock e n1 n2 (Go.mem_left he).1 HE.out.born
      have HM : Hid ((Go.leftOf es (seen.push e.born)).size < (Go.leftOf es seen).size) := Go.left_shrinks es seen e he
      have HT : Hid (∀ u' : Nat, u = u' → i < j → i < u' → TInv es (seen.push e.born) (T ++ [(i, j, u')])) := fun u' h h1 h2 => HI.out.take HE.out he hk (by rw [hv, h]) h1 h2
      have HK : Hid (¬ ((i : Int) < j ∧ (i : Int) < u) → TInv es (seen.push e.born) T) := fun h => HI.out.skip HE.out he hk hv h
      have hfew : T.length + 1 ≤ 1048576 := by
        have := HI.out.few
        have := Go.left_shrinks es seen e he
        omega
      have HMr : Hid (wr.heap[w.heap.size]? = some (.mapIter (some bm) clock seen c0)) := hr
      rw [hk, hv] at hrun hen
      unfold ev at hrun hen
      clear HI hk hv hFu he hr hbr hown hr1 hw1 n3 hBr
      generalize hN : setBlock w1 w.heap.size (.mapIter (some bm) clock (seen.push e.born) clock) = Wn at *
      generalize seen.push e.born = sn at *
      clear hN
      have e0 : (Wn.alloc (.cells #[.int .i64 (i : Int), .int .i64 (j : Int)] 120)).cell? ⟨Wn.heap.size, 0, none⟩ = some (.int .i64 (i : Int)) := by simp [go_sem]
      have e1 : (Wn.alloc (.cells #[.int .i64 (i : Int), .int .i64 (j : Int)] 120)).cell? ⟨Wn.heap.size, 1, none⟩ = some (.int .i64 (j : Int)) := by simp [go_sem]
      have hbA : RowKit.Below Wn.heap.size Wn (Wn.alloc (.cells #[.int .i64 (i : Int), .int .i64 (j : Int)] 120)) := (RowKit.Below.refl _ _).alloc (Nat.le_refl _) _
      have m1 := (hbA.block w.heap.size (by omega)).trans n1
      have m2 := (hbA.block bm (by omega)).trans n2
      have m5 : RowKit.Below w.heap.size w (Wn.alloc (.cells #[.int .i64 (i : Int), .int .i64 (j : Int)] 120)) := n5.alloc (by omega) _
      have m6 := n6.alloc (.cells #[.int .i64 (i : Int), .int .i64 (j : Int)] 120)
      have ms : (Wn.alloc (.cells #[.int .i64 (i : Int), .int .i64 (j : Int)] 120)).heap.size = wr.heap.size + 1 := by simp [n4]
      rw [n4] at e0 e1
      clear n1 n2 n5 n6 hbA
      generalize hWe : Wn.alloc (.cells #[.int .i64 (i : Int), .int .i64 (j : Int)] 120) = We at *
      by_cases h1 : (i : Int) < (j : Int)
      · by_cases h2 : (i : Int) < u
        · obtain ⟨u', rfl⟩ : ∃ u' : Nat, u = (u' : Int) := ⟨u.toNat, by omega⟩
          have HT2 : Hid (TInv es sn (T ++ [(i, j, u')])) := HT.out u' rfl (by omega) (by omega)
          clear HT HK
          have hA2 : Hid (T.length + 1 ≤ maxLen) := by show _ ≤ _; unfold maxLen; omega
          have hsz : w.heap.size + 1 ≤ (We.alloc (.cells #[.int .i64 (i : Int), .int .i64 (j : Int), .int .i64 (u' : Int)] 57)).heap.size := by simp; omega
          go_wp2_with (at_builtin; refine wpList_append_lies _ rfl _ _ 52 rfl (w.heap.size + 1) 57 i0 _ 3 24 underST hi0 hz0 hz1 hz2 rfl (by decide) _ _ _ rfl (m6.alloc _) ⟨_, 0, none⟩ 1 1 _ rfl rfl (World.news_of_block (by rw [← ms]; exact heap_alloc_new _ _)) (three_one _ _ _) (by decide) hA2.out (by omega) hsz _ rfl ?_; intro g cp w3 hown3 hgrow3 hat3 hlt3)
          have k1 : w3.heap[w.heap.size]? = some (.mapIter (some bm) clock sn clock) := by
            rw [hgrow3.block w.heap.size (by simp; omega) (fun h => by have := own_from m6 h.symm; omega), RowKit.Below.heap_alloc _ _ _ (by omega)]; exact m1
          have k2 : w3.heap[bm]? = some (.map es clock) := by
            rw [hgrow3.block bm (by simp; omega) (fun h => by have := own_from m6 h.symm; omega), RowKit.Below.heap_alloc _ _ _ (by omega)]; exact m2
          have k5 : RowKit.Below w.heap.size w w3 := (m5.alloc (by omega) _).grown hgrow3 (by omega) (fun k e => by have := own_from m6 e; omega)
          have k6 := hgrow3.size
          go_roundw
          case rel => exact ⟨T ++ [(i, j, u')], sn, clock, _, rfl, Nat.le_refl _, k1, k2, by rw [cells3_snoc, List.length_append]; exact hown3, HT2.out, k5, by simp at k6; omega⟩
          case measure => rw [leftM_eq k1, leftM_eq HMr.out]; exact HM.out
        · have HT2 : Hid (TInv es sn T) := HK.out (by omega)
          clear HT HK
          go_wp2
          go_roundw
          case rel => exact ⟨T, sn, clock, _, rfl, Nat.le_refl _, m1, m2, m6, HT2.out, m5, by omega⟩
          case measure => rw [leftM_eq m1, leftM_eq HMr.out]; exact HM.out
      · have HT2 : Hid (TInv es sn T) := HK.out (by omega)
        clear HT HK
        go_wp2
        go_roundw
        case rel => exact ⟨T, sn, clock, _, rfl, Nat.le_refl _, m1, m2, m6, HT2.out, m5, by omega⟩
        case measure => rw [leftM_eq m1, leftM_eq HMr.out]; exact HM.out
end Go.Proofs.Ytdkaoopkbhaheaa
namespace Go.Proofs.Ytdkaoopkbhaheaa
open Go.RowKit Go.Lib
open Jor
open Go.ChangeMaps (setBlock)
set_option linter.unusedVariables false
set_option linter.unusedSimpArgs false
theorem thF_val {F : Nat → Nat → Option Int} {a b v : Nat} (h : thF F a b = some v) : F a b = some (v : Int) := by
  unfold thF at h
  cases e : F a b with
  | none => rw [e] at h; cases h
  | some t =>
    rw [e] at h
    simp only at h
    split at h
    · cases h
      congr 1
      omega
    · cases h
theorem FInv.some {V : Nat → IP} {n : Nat} {nx pv : Nat → Nat} {L : List (Nat × Nat)} {F : Nat → Nat → Option Int} (I : FInv V n nx pv L F L.length) (hn : 0 < n) : ∃ i j u : Nat, F i j = some (u : Int) ∧ i < j ∧ i < u := by
  obtain ⟨v, hv⟩ := I.full _ _ (I.front.bd 0 hn)
  obtain ⟨k1, k2, k3, t1, t2, _⟩ := I.front.tri _ _ _ hv
  have n1 := I.front.ne _ _ k1; have n2 := I.front.ne _ _ k2; have n3 := I.front.ne _ _ k3
  generalize nx 0 = b at *
  exact ⟨0, b, v, thF_val hv, by omega, by omega⟩
def opF (bl : List (Nat × Nat)) : Nat → Nat → Nat → Option Int
  | 0 => fun _ _ => none
  | k + 1 => upd (opF bl k) (bl.getD k (0, 0)).1 (bl.getD k (0, 0)).2 (-1)
theorem own_edges {w : World} {B : Nat} {v : Value} {L : List (Nat × Nat)} (hpos : 0 < L.length) (h : w.ownsRow B 120 2 v L.length (cellsA L)) : ∃ g c, v = .slice (some ⟨g, 0, none⟩) L.length c ∧ EdAt w g 0 L.length (fun u => L.getD u (0, 0)) := by
  obtain ⟨_, h2⟩ := h
  rcases h2 with ⟨_, h2⟩ | ⟨g, c, cur, rfl, _, h4, h5, _, h7, h8⟩
  · omega
  · refine ⟨g, c, rfl, fun i hi => ?_⟩
    obtain ⟨q1, q2⟩ := cellsA_get L i hi
    have rd : ∀ t x, t < L.length * 2 → (cellsA L)[t]? = some x → cur[t]? = some x := fun t x ht hx => by
      rw [← h8, List.getElem?_take, if_pos ht] at hx
      simpa using hx
    refine ⟨?_, ?_⟩
    · simp [World.cell?, h4, rd _ _ (by omega) q1]
    · simp [World.cell?, h4, rd _ _ (by omega) q2]
set_option maxRecDepth 100000 in
set_option maxHeartbeats 4000000 in
theorem cutAll_any (b of n cap bb ob mc : Nat) (V : Nat → IP) (nx pv : Nat → Nat) (bl : List (Nat × Nat)) (w : World) (hn : n ≤ 64) (hpos : 0 < n) (near : ∀ i, i < n → nearP (V i)) (G : Bd (fun i => toR (V i)) n nx pv) (hbn : ∀ u, u < bl.length → (bl.getD u (0, 0)).1 < n ∧ (bl.getD u (0, 0)).2 < n)
    (hI : FInv V n nx pv bl (opF bl bl.length) 0) (hp : PtsAt w b of n V) (he : EdAt w bb ob bl.length (fun u => bl.getD u (0, 0))) :
    Calls Try.prog 74 #[gv b of n cap, .slice (some ⟨bb, ob, none⟩) bl.length mc] w fun e w' => ∃ y T F L, e = .returned y ∧ w'.ownsRow w.heap.size 57 3 y T.length (cells3 T) ∧ T.Pairwise lt3 ∧ (∀ i j u, (i, j, u) ∈ T ↔ F i j = some (u : Int) ∧ i < j ∧ i < u) ∧ FInv V n nx pv L F L.length ∧ Below w.heap.size w w' := by
  have hmm := @run_makeMap Try.prog
  have hm0 := hI.bound hn
  unfold Go.Proofs.Ytdkaoopkbhaheaa.gv
  go_enter Try.func74, Try.ntmps74
  go_wp2
  have hS0 : CutS w.heap.size (((w.alloc (.cells #[.slice (some ⟨b, of, none⟩) n cap] 93)).alloc (.map #[] 0)).alloc (.cells #[.slice (some ⟨b, of, none⟩) n cap, .slice none 0 0, .map (some (w.heap.size + 1))] 134)) (w.heap.size + 1 + 1) b of n cap (w.heap.size + 1) (bl.take 0) (opF bl 0) (.slice none 0 0) := by
    refine ⟨by omega, by omega, ?_, World.ownsRow_nil _ _ _ _, ?_⟩
    · have := heap_alloc_new ((w.alloc (.cells #[.slice (some ⟨b, of, none⟩) n cap] 93)).alloc (.map #[] 0)) (.cells #[.slice (some ⟨b, of, none⟩) n cap, .slice none 0 0, .map (some (w.heap.size + 1))] 134)
      simpa using this
    · have h1 := MapIs.new (w.alloc (.cells #[.slice (some ⟨b, of, none⟩) n cap] 93))
      simp only [World.size_alloc] at h1
      exact h1.block (Below.heap_alloc _ _ _ (by simp))
  have b0 : Below w.heap.size w (((w.alloc (.cells #[.slice (some ⟨b, of, none⟩) n cap] 93)).alloc (.map #[] 0)).alloc (.cells #[.slice (some ⟨b, of, none⟩) n cap, .slice none 0 0, .map (some (w.heap.size + 1))] 134)) := (((Below.refl _ _).alloc (Nat.le_refl _) _).alloc (by simp) _).alloc (by simp; omega) _
  generalize (((w.alloc (.cells #[.slice (some ⟨b, of, none⟩) n cap] 93)).alloc (.map #[] 0)).alloc (.cells #[.slice (some ⟨b, of, none⟩) n cap, .slice none 0 0, .map (some (w.heap.size + 1))] 134)) = W0 at *
  have HI : Hid (FInv V n nx pv bl (opF bl bl.length) 0) := hI
  have HBN : Hid (∀ u, u < bl.length → (bl.getD u (0, 0)).1 < n ∧ (bl.getD u (0, 0)).2 < n) := hbn
  have HN : Hid (∀ i, i < n → nearP (V i)) := near
  have HPOS : Hid (0 < n) := hpos
  have HG : Hid (Bd (fun i => toR (V i)) n nx pv) := G
  have HP : Hid (PtsAt w b of n V) := hp
  have HD : Hid (EdAt w bb ob bl.length (fun u => bl.getD u (0, 0))) := he
  clear hI hbn near G hp he
  go_loopw [7, 15] (fun _ c wr => ∃ k : Nat, k ≤ bl.length ∧ c = .int .i64 k ∧ (∃ v, CutS w.heap.size wr (w.heap.size + 1 + 1) b of n cap (w.heap.size + 1) (bl.take k) (opF bl k) v) ∧ Below w.heap.size w wr) (fun _ c _ => bl.length - (intOf c).toNat)
  case atStart => exact ⟨0, by omega, rfl, ⟨_, hS0⟩, b0⟩
  case round =>
    clear hS0 b0
    obtain ⟨k, hk, rfl, ⟨v, hSr⟩, hbr⟩ := hrel
    by_cases hlt : k < bl.length
    · have c0 := cell_later hbr (HD.out k hlt).1
      have c1 := cell_later hbr (HD.out k hlt).2
      have k0 : (0 : Int) ≤ (k : Int) := by omega
      have kn : (k : Int) < (bl.length : Int) := by omega
      have hb1 := HBN.out k hlt
      have OF : Hid (opF bl (k + 1) = upd (opF bl k) (bl.getD k (0, 0)).1 (bl.getD k (0, 0)).2 (-1)) := rfl
      have TL : Hid (bl.take (k + 1) = bl.take k ++ [((bl.getD k (0, 0)).1, (bl.getD k (0, 0)).2)]) := take_snoc _ _ (0, 0) hlt
      have hlen : (bl.take k).length + 1 ≤ 1048576 := by simp; omega
      have hsz := hbr.size
      have CO : Hid (∀ x, Below wr.heap.size wr x → Calls Try.prog 93 #[.pointer (some ⟨w.heap.size + 1 + 1, 0, none⟩), ev (bl.getD k (0, 0)).1 (bl.getD k (0, 0)).2] x fun e w' => e = .returned (.tuple #[]) ∧ (∃ v', CutS w.heap.size w' (w.heap.size + 1 + 1) b of n cap (w.heap.size + 1) (bl.take (k + 1)) (opF bl (k + 1)) v') ∧ Below w.heap.size w w') := fun x hx => by
        have hxs := hx.size
        refine (open_any w.heap.size (w.heap.size + 1 + 1) b of n cap (w.heap.size + 1) _ _ (bl.take k) (opF bl k) v x (by omega) (by omega) (by omega) hlen (hSr.later hx)).mono ?_
        rintro e w' ⟨rfl, h1, h2, _⟩
        rw [OF.out, TL.out]
        exact ⟨rfl, h1, (hbr.trans (hx.mono (by omega))).trans h2⟩
      clear hSr
      unfold ev at CO
      generalize (bl.getD k (0, 0)).1 = e1 at *
      generalize (bl.getD k (0, 0)).2 = e2 at *
      go_wp2_with (go_at_call 93; refine (CO.out _ ((Below.refl _ _).alloc (Nat.le_refl _) _)).mono ?_; rintro e w2 ⟨rfl, hS2, hb2⟩)
      go_roundw
      case rel => exact ⟨k + 1, by omega, by go_num, hS2, hb2⟩
      case measure => simp [intOf]; omega
    · have : k = bl.length := by omega
      subst this
      have TL : bl.take bl.length = bl := List.take_length
      rw [TL] at hSr
      clear TL
      have HS1 : Hid (CutS w.heap.size wr (w.heap.size + 1 + 1) b of n cap (w.heap.size + 1) bl (opF bl bl.length) v) := hSr
      have hbr1 := hbr
      clear hSr hbr
      go_wp2
      go_loopw [8, 9] (fun c _ wr => ∃ (i : Nat) (L : List (Nat × Nat)) (F : Nat → Nat → Option Int) (v : Value), c = .int .i64 i ∧ CutS w.heap.size wr (w.heap.size + 1 + 1) b of n cap (w.heap.size + 1) L F v ∧ FInv V n nx pv L F i ∧ Below w.heap.size w wr) (fun c _ _ => 10001 - (intOf c).toNat)
      case atStart => exact ⟨0, bl, _, _, rfl, HS1.out, HI.out, hbr1⟩
      case round =>
        clear HS1 HI hbr1 hk hlt
        rename_i wr0
        obtain ⟨i, L, F, v, rfl, hS, hIv, hbr⟩ := hrel
        have HIV : Hid (FInv V n nx pv L F i) := hIv
        have hbd := hIv.bound hn
        have hil := hIv.il
        have hsz := hbr.size
        have hs1 := hS.c1
        have hs2 := hS.c2
        have HC : Hid (CutS w.heap.size wr (w.heap.size + 1 + 1) b of n cap (w.heap.size + 1) L F v) := hS
        clear hIv hS
        by_cases hlt : i < L.length
        · obtain ⟨g, cg, rfl, hE⟩ := own_edges (by omega) HC.out.row
          have c0 := (hE i hlt).1
          have c1 := (hE i hlt).2
          simp only [Nat.zero_add] at c0 c1
          have i0 : (0 : Int) ≤ (i : Int) := by omega
          have iL : (i : Int) < (L.length : Int) := by omega
          have hlt2 := HIV.out.lt i hlt
          have kk := HIV.out.ek _ (getD_in (d := (0, 0)) hlt)
          have HE : Hid (EdAt wr g 0 L.length (fun u => L.getD u (0, 0))) := hE
          have HL : Hid (∀ u, u < L.length → (L.getD u (0, 0)).1 < n ∧ (L.getD u (0, 0)).2 < n) := HIV.out.lt
          have HST : Hid (F (L.getD i (0, 0)).1 (L.getD i (0, 0)).2 = some (-1) → ∃ x, bst V n (fun u => L.getD u (0, 0)) L.length (L.getD i (0, 0)).1 (L.getD i (0, 0)).2 n = some x ∧ x < n ∧ FInv V n nx pv (layL F L (L.getD i (0, 0)).1 (L.getD i (0, 0)).2 x 3) (layF F (L.getD i (0, 0)).1 (L.getD i (0, 0)).2 x 3) (i + 1)) := fun h => HIV.out.step HN.out HG.out hlt h
          have HSK : Hid (∀ u : Int, F (L.getD i (0, 0)).1 (L.getD i (0, 0)).2 = some u → u ≠ -1 → FInv V n nx pv L F (i + 1)) := fun u h h2 => HIV.out.skip hlt h h2
          clear hE
          generalize he1 : (L.getD i (0, 0)).1 = e1 at *
          generalize he2 : (L.getD i (0, 0)).2 = e2 at *
          clear he1 he2
          cases hF : F e1 e2 with
          | none => exact absurd hF kk
          | some u =>
            have hbA : Below wr.heap.size wr (wr.alloc (.cells #[.int .i64 (e1 : Int), .int .i64 (e2 : Int)] 120)) := (Below.refl _ _).alloc (Nat.le_refl _) _
            have lk := look1_yes (w := (wr.alloc (.cells #[.int .i64 (e1 : Int), .int .i64 (e2 : Int)] 120))) (HC.out.later hbA).map (by omega) (by omega) hF
            unfold ev at lk
            have q2 := cell_later hbA hs2
            have x0 : (wr.alloc (.cells #[.int .i64 (e1 : Int), .int .i64 (e2 : Int)] 120)).cell? ⟨wr.heap.size, 0, none⟩ = some (.int .i64 (e1 : Int)) := by simp [go_sem]
            have x1 : (wr.alloc (.cells #[.int .i64 (e1 : Int), .int .i64 (e2 : Int)] 120)).cell? ⟨wr.heap.size, 1, none⟩ = some (.int .i64 (e2 : Int)) := by simp [go_sem]
            by_cases hu : u = -1
            · subst hu
              obtain ⟨x, hb, hxn, hInew⟩ := HST.out hF
              have HNEW : Hid (FInv V n nx pv (layL F L e1 e2 x 3) (layF F e1 e2 x 3) (i + 1)) := hInew
              have CB : Hid (∀ z, Below wr.heap.size wr z → Calls Try.prog 95 #[.pointer (some ⟨w.heap.size + 1 + 1, 0, none⟩), ev e1 e2] z fun e w' => e = .returned (.int .i64 (x : Int)) ∧ Below z.heap.size z w') := fun z hz => by
                have := best_any (w.heap.size + 1 + 1) b of n cap e1 e2 g 0 L.length cg (w.heap.size + 1) V (fun u => L.getD u (0, 0)) z (by omega) (by omega) hlt2.1 hlt2.2 HL.out ⟨(HC.out.later hz).c0, (HC.out.later hz).c1, (HC.out.later hz).c2⟩ (PtsAt.later (hbr.trans (hz.mono (by omega))) HP.out) (EdAt.later hz HE.out)
                rw [hb] at this
                exact this
              have CL : Hid (∀ z, Below wr.heap.size wr z → Calls Try.prog 94 #[.pointer (some ⟨w.heap.size + 1 + 1, 0, none⟩), tv e1 e2 x] z fun e w' => e = .returned (.tuple #[]) ∧ (∃ v', CutS w.heap.size w' (w.heap.size + 1 + 1) b of n cap (w.heap.size + 1) (layL F L e1 e2 x 3) (layF F e1 e2 x 3) v') ∧ Below w.heap.size w w') := fun z hz => by
                have hzs := hz.size
                refine (lay_any w.heap.size (w.heap.size + 1 + 1) b of n cap (w.heap.size + 1) e1 e2 x L F _ z (by omega) (by omega) (by omega) (by omega) (by omega) (HC.out.later hz)).mono ?_
                rintro e w' ⟨rfl, h1, h2⟩
                exact ⟨rfl, h1, (hbr.trans (hz.mono (by omega))).trans h2⟩
              unfold ev at CB
              unfold tv at CL
              have HBA : Hid (Below wr.heap.size wr (wr.alloc (.cells #[.int .i64 (e1 : Int), .int .i64 (e2 : Int)] 120)).drew) := hbA.drew
              have x0d : (wr.alloc (.cells #[.int .i64 (e1 : Int), .int .i64 (e2 : Int)] 120)).drew.cell? ⟨wr.heap.size, 0, none⟩ = some (.int .i64 (e1 : Int)) := x0
              have x1d : (wr.alloc (.cells #[.int .i64 (e1 : Int), .int .i64 (e2 : Int)] 120)).drew.cell? ⟨wr.heap.size, 1, none⟩ = some (.int .i64 (e2 : Int)) := x1
              clear HST HSK hInew hF kk hb HIV HC HL HE hbA
              go_wp2
              refine wp_region_U (fun w' => w'.cell? ⟨wr.heap.size, 0, none⟩ = some (.int .i64 (e1 : Int)) ∧ w'.cell? ⟨wr.heap.size, 1, none⟩ = some (.int .i64 (e2 : Int))) [7] (by kernel_rfl) ?_
              intro hs0
              refine anyU_take (i := 0) (v := .pointer (some ⟨wr.heap.size, 0, none⟩)) (f := 8) rfl (by kernel_rfl) (by kernel_rfl) (by kernel_rfl) (by kernel_rfl) (fun _ _ _ h => h) hs0 ⟨x0d, x1d⟩ ⟨by rfl, ?y0⟩ ?r0
              case y0 => intro w' hw'; (try obtain ⟨y0, y1⟩ := hw'); go_simp
              case r0 =>
              intro hs1
              simp only [Act.put, List.setIfInBounds_toArray, List.set_cons_zero, List.set_cons_succ, List.getElem_toArray, List.getElem_cons_succ, List.getElem_cons_zero]
              refine anyU_take (i := 1) (v := .int .i64 (e1 : Int)) (f := 8) rfl (by kernel_rfl) (by kernel_rfl) (by kernel_rfl) (by kernel_rfl) (fun _ _ _ h => h) hs1 ⟨x0d, x1d⟩ ⟨by rfl, ?y1⟩ ?r1
              case y1 => intro w' hw'; (try obtain ⟨y0, y1⟩ := hw'); go_simp
              case r1 =>
              intro hs2
              simp only [Act.put, List.setIfInBounds_toArray, List.set_cons_zero, List.set_cons_succ, List.getElem_toArray, List.getElem_cons_succ, List.getElem_cons_zero]
              refine anyU_take (i := 2) (v := .pointer (some ⟨wr.heap.size, 1, none⟩)) (f := 8) rfl (by kernel_rfl) (by kernel_rfl) (by kernel_rfl) (by kernel_rfl) (fun _ _ _ h => h) hs2 ⟨x0d, x1d⟩ ⟨by rfl, ?y2⟩ ?r2
              case y2 => intro w' hw'; (try obtain ⟨y0, y1⟩ := hw'); go_simp
              case r2 =>
              intro hs3
              simp only [Act.put, List.setIfInBounds_toArray, List.set_cons_zero, List.set_cons_succ, List.getElem_toArray, List.getElem_cons_succ, List.getElem_cons_zero]
              refine anyU_take (i := 3) (v := .int .i64 (e2 : Int)) (f := 8) rfl (by kernel_rfl) (by kernel_rfl) (by kernel_rfl) (by kernel_rfl) (fun _ _ _ h => h) hs3 ⟨x0d, x1d⟩ ⟨by rfl, ?y3⟩ ?r3
              case y3 => intro w' hw'; (try obtain ⟨y0, y1⟩ := hw'); go_simp
              case r3 =>
              intro hs4
              simp only [Act.put, List.setIfInBounds_toArray, List.set_cons_zero, List.set_cons_succ, List.getElem_toArray, List.getElem_cons_succ, List.getElem_cons_zero]
              refine anyU_take (i := 4) (v := .agg #[.int .i64 (e1 : Int), .int .i64 (e2 : Int)]) (f := 8) rfl (by kernel_rfl) (by kernel_rfl) (by kernel_rfl) (by kernel_rfl) (fun _ _ _ h => h) hs4 ⟨x0d, x1d⟩ ⟨by rfl, ?y4⟩ ?r4
              case y4 => intro w' hw'; (try obtain ⟨y0, y1⟩ := hw'); go_simp
              case r4 =>
              intro hs5
              simp only [Act.put, List.setIfInBounds_toArray, List.set_cons_zero, List.set_cons_succ, List.getElem_toArray, List.getElem_cons_succ, List.getElem_cons_zero]
              refine anyU_one (i := 5) (by kernel_rfl) ?_
              refine wpOp_run rfl (by rfl) ?_
              go_simp
              refine (CB.out _ HBA.out).mono ?_
              rintro e w2 ⟨rfl, hb2⟩
              refine ⟨⟨cell_later hb2 x0d, cell_later hb2 x1d⟩, ?_⟩
              have HB2 : Hid (Below wr.heap.size wr w2) := below_then HBA.out hb2
              have z0 := cell_later hb2 x0d
              have z1 := cell_later hb2 x1d
              try simp only [Act.put, List.setIfInBounds_toArray, List.set_cons_zero, List.set_cons_succ, List.getElem_toArray, List.getElem_cons_succ, List.getElem_cons_zero]
              refine anyU_one (i := 6) (by kernel_rfl) ?_
              refine wpOp_run rfl (by rfl) ?_
              go_simp
              try refine ⟨⟨z0, z1⟩, ?_⟩
              refine anyU_one (i := 7) (by kernel_rfl) ?_
              refine wpOp_run rfl (by rfl) ?_
              go_simp
              refine (CL.out _ HB2.out).mono ?_
              rintro e w3 ⟨rfl, ⟨v3, hS3⟩, hb3⟩
              have HS3 : Hid (CutS w.heap.size w3 (w.heap.size + 1 + 1) b of n cap (w.heap.size + 1) (layL F L e1 e2 x 3) (layF F e1 e2 x 3) v3) := hS3
              clear hS3
              try refine ⟨fun h => (by cases h), ?_⟩
              refine anyU_end (by kernel_rfl) ?_
              go_wp2
              go_roundw
              case rel => exact ⟨i + 1, _, _, _, by go_num, HS3.out, HNEW.out, hb3⟩
              case measure => simp [intOf]; omega
            · have HI2 : Hid (FInv V n nx pv L F (i + 1)) := HSK.out u hF hu
              have hu2 : (u == -1) = false := beq_eq_false_iff_ne.2 hu
              have HCA : Hid (CutS w.heap.size (wr.alloc (.cells #[.int .i64 (e1 : Int), .int .i64 (e2 : Int)] 120)) (w.heap.size + 1 + 1) b of n cap (w.heap.size + 1) L F (.slice (some ⟨g, 0, none⟩) L.length cg)) := HC.out.later hbA
              have hbB : Below w.heap.size w (wr.alloc (.cells #[.int .i64 (e1 : Int), .int .i64 (e2 : Int)] 120)) := hbr.alloc (by omega) _
              clear HST HSK hF kk HIV HC
              go_wp2
              go_roundw
              case rel => exact ⟨i + 1, L, F, _, by go_num, HCA.out, HI2.out, hbB⟩
              case measure => simp [intOf]; omega
        · have : i = L.length := by omega
          subst this
          have hLp : 0 < L.length := by rcases HIV.out.ke _ _ (HIV.out.front.bd 0 HPOS.out) with h | h <;> exact List.length_pos_of_mem h
          obtain ⟨g, cg, rfl, _⟩ := own_edges hLp HC.out.row
          have CT : Hid (Calls Try.prog 96 #[.pointer (some ⟨w.heap.size + 1 + 1, 0, none⟩)] wr fun e w' => ∃ y T, e = .returned y ∧ w'.ownsRow wr.heap.size 57 3 y T.length (cells3 T) ∧ T.Pairwise lt3 ∧ (∀ i j u, (i, j, u) ∈ T ↔ F i j = some (u : Int) ∧ i < j ∧ i < u) ∧ Below wr.heap.size wr w') := triangles_any w.heap.size _ b of n cap _ L F _ wr (by omega) HC.out (fun i j u h => ⟨HIV.out.front.fa i j (by unfold KF; rw [h]; simp), HIV.out.front.fb i j (by unfold KF; rw [h]; simp)⟩) (HIV.out.some HPOS.out)
          clear HC
          go_wp2_with (go_at_call 96; refine CT.out.mono ?_; rintro e w2 ⟨y, T, rfl, ho, hp, hm, hb2⟩; have HM : Hid (∀ i j u, (i, j, u) ∈ T ↔ F i j = some (u : Int) ∧ i < j ∧ i < u) := hm; clear hm)
          go_ret
          exact ⟨y, T, F, L, rfl, own_base ho hsz, hp, HM.out, HIV.out, hbr.trans (hb2.mono hsz)⟩
end Go.Proofs.Ytdkaoopkbhaheaa
