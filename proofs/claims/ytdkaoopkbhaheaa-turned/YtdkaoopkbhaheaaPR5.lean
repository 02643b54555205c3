import Derived.Test.YtdkaoopkbhaheaaPF11
import Derived.Test.YtdkaoopkbhaheaaRows
import Derived.ProofKit
import Derived.OpenShut
import Derived.Carry
import Derived.JoinedCond
import Derived.Deep.SlicePairs
import Derived.Test.YtdkaoopkbhaheaaPN22
import Derived.SizedLaws
namespace Go.Proofs.Ytdkaoopkbhaheaa.ringsArg
open Go.ChangeShapes Go.WideShapes Go.ChangeAt Go.RowKit Go.Deep
open Jor
theorem own : ownKnob Try.prog.godebug = none := by kernel_rfl
theorem laidOut : laidOutB Try.prog = true := by kernel_rfl
theorem cellsP : Try.prog.cellsOf 25 = 2 := by kernel_rfl
theorem cellsI : Try.prog.cellsOf 3 = 1 := by kernel_rfl
theorem cellsR : Try.prog.cellsOf 50 = 1 := by kernel_rfl
theorem underR : Try.prog.underlying 34 = some (.slice 50) := by kernel_rfl
theorem bulk_one {H : Type} (d : DataW H) : 1 ≤ Rows.uptoBulk d := by
  cases d with
  | lit l => cases l <;> simp [Rows.uptoBulk]
  | _ => simp [Rows.uptoBulk]
theorem bulk_length {H : Type} (l : List (DataW H)) : l.length ≤ Rows.uptoBulkAll l := by
  induction l with
  | nil => simp
  | cons x r ih => have := bulk_one x; simp only [Rows.uptoBulkAll, List.length_cons]; omega
theorem bulk_sum {H : Type} (D : Nat → DataW H) (R : Nat → List IP) (m : Nat) (h : ∀ k, k < m → (R k).length + 1 ≤ Rows.uptoBulk (D k)) : ∀ l : List Nat, (∀ k ∈ l, k < m) → (l.map R).flatten.length + l.length ≤ Rows.uptoBulkAll (l.map D) := by
  intro l
  induction l with
  | nil => intro _; exact Nat.zero_le _
  | cons k r ih =>
    intro hl
    have h1 := h k (hl k (List.mem_cons_self ..))
    have h2 := ih fun j hj => hl j (List.mem_cons_of_mem _ hj)
    simp only [List.map_cons, List.flatten_cons, List.length_append, List.length_cons, Rows.uptoBulkAll]
    omega
theorem spotless {W : World} {a : Addr} {v : Value} (h : W.cell? a = some v) : a = ⟨a.block, a.off, none⟩ := by
  obtain ⟨b, o, s⟩ := a
  cases s with
  | none => rfl
  | some s =>
    unfold World.cell? at h
    split at h <;> simp at h
theorem pt_map (f : Nat → IP) (n i : Nat) (h : i < n) : pt ((List.range n).map f) i = f i := by
  unfold pt
  rw [getD_elem _ _ _ (by simpa using h)]
  simp
theorem rg_map (f : Nat → List IP) (n i : Nat) (h : i < n) : rg ((List.range n).map f) i = f i := by
  unfold rg
  rw [getD_elem _ _ _ (by simpa using h)]
  simp
set_option maxRecDepth 100000 in
theorem ring_open {H : Type} {enc : TypeId × Value → H} {W : World} {sp : Nat → Bool} {n : Nat} {V : Value} {D : DataW H} {Pl : List MemPlace}
    (h : DataW.trod enc Try.prog W 0 sp true n 50 [V] = some (D, Pl)) :
    ∃ q : Option Addr × Nat × List IP, V = .slice q.1 q.2.2.length q.2.1 ∧ Pts W q.1 q.2.2.length (pt q.2.2) ∧ q.2.2.length + 1 ≤ Rows.uptoBulk D := by
  rcases open_slice_pairs underSQ Try.underlying25 cellsP rfl rfl cellsI cellsI h with ⟨e, e2⟩ | ⟨a, len, cap, m, k, V0, V1, D0, D1, P0, P1, e, _, hl, _, hm, ex, hc⟩
  · cases e
    exact ⟨(none, 0, []), rfl, .inl rfl, bulk_one _⟩
  · cases e
    have hlm : len ≤ m := by rw [hm]; split <;> omega
    have each : ∀ i, i < len → ∃ p : IP, W.cell? (a.add (i * 2)) = some (.int .i64 p.1) ∧ W.cell? (a.add (i * 2 + 1)) = some (.int .i64 p.2) := by
      intro i hi
      obtain ⟨c0, c1, t0, t1⟩ := hc i (by omega)
      obtain ⟨x, e0, _⟩ := DataW.trod_int Try.underlying3 t0
      obtain ⟨y, e1, _⟩ := DataW.trod_int Try.underlying3 t1
      have e0 : V0 i = .int .i64 x := by simpa using e0
      have e1 : V1 i = .int .i64 y := by simpa using e1
      exact ⟨(x, y), by rw [c0, e0], by rw [c1, e1]⟩
    obtain ⟨p, hp⟩ := choose_lt each
    refine ⟨(some a, cap, (List.range len).map p), by simp, ?_, ?_⟩
    · simp only [List.length_map, List.length_range]
      by_cases h0 : len = 0
      · exact .inl h0
      · have hz := (hp 0 (by omega)).1
        have ea : a = ⟨a.block, a.off, none⟩ := spotless (a := a) (v := .int .i64 (p 0).1) (by simpa [Addr.add] using hz)
        refine .inr ⟨a.block, a.off, by rw [← ea], fun i hi => ?_⟩
        rw [pt_map p len i hi]
        have := hp i hi
        rw [ea, addr_add, addr_add, ← Nat.add_assoc] at this
        exact this
    · simp only [Prod.mk.injEq] at ex
      rw [ex.1]
      simp only [Rows.uptoBulk, List.length_map, List.length_range]
      have := bulk_length ((List.range len).map fun i => DataW.agg [D0 i, D1 i])
      simp only [List.length_map, List.length_range] at this
      omega
set_option maxRecDepth 100000 in
theorem rings_open {H : Type} {enc : TypeId × Value → H} {W : World} {r : Reach} {b0 : Nat} {v : Value} {d : DataW H} {p : List MemPlace} {sp : Nat → Bool}
    (hv : Value.okWide Try.prog W r b0 34 v) (h : DataW.Trod enc Try.prog W 0 sp true 34 v d p) (hsp : ∀ b, sp b = true) :
    ∃ (a : Option Addr) (cap : Nat) (A : Nat → Option Addr) (C : Nat → Nat) (rs : List (List IP)), v = .slice a rs.length cap ∧ RingsL W a A C rs ∧ rs.length ≤ cap ∧ cap ≤ Rows.uptoBulk d ∧ (verts rs).length ≤ Rows.uptoBulk d := by
  obtain ⟨a0, l0, c0, rfl⟩ := okWide_slice underR hv
  obtain ⟨fuel, hf⟩ := h
  rcases open_slice1 underR cellsR hf with ⟨e, _⟩ | ⟨a, len, cap, m, n, V, D, Pl, e, _, hl, _, hm, ex, hc⟩
  · simp [Value.cells] at e
    obtain ⟨rfl, rfl, rfl⟩ := e
    exact ⟨none, 0, fun _ => none, fun _ => 0, [], rfl, .inl rfl, Nat.zero_le _, Nat.zero_le _, Nat.zero_le _⟩
  · simp [Value.cells] at e
    obtain ⟨rfl, rfl, rfl⟩ := e
    have hmc : m = c0 := by rw [hm, hsp]; simp
    have hlm : l0 ≤ m := by omega
    obtain ⟨q, hq⟩ := choose_lt (n := l0) fun k hk => ring_open (hc k (by omega)).2
    have hsum := bulk_sum D (fun k => (q k).2.2) l0 (fun k hk => (hq k hk).2.2) (List.range l0) (fun k hk => List.mem_range.1 hk)
    have hd : Rows.uptoBulkAll ((List.range l0).map D) ≤ Rows.uptoBulk d := by
      simp only [Prod.mk.injEq] at ex
      rw [ex.1]
      simp only [Rows.uptoBulk]
      omega
    have hcb : c0 ≤ Rows.uptoBulk d := by
      simp only [Prod.mk.injEq] at ex
      rw [ex.1]
      simp only [Rows.uptoBulk]
      have g1 := bulk_length ((List.range l0).map D)
      have g2 := bulk_length ((List.range (m - l0)).map fun j => D (l0 + j))
      simp only [List.length_map, List.length_range] at g1 g2
      omega
    rw [List.length_range] at hsum
    refine ⟨some a, c0, fun k => (q k).1, fun k => (q k).2.1, (List.range l0).map fun k => (q k).2.2, by simp, ?_, ?_, hcb, ?_⟩
    · unfold RingsL
      rw [List.length_map, List.length_range]
      by_cases h0 : l0 = 0
      · exact .inl h0
      · have hz := (hc 0 (by omega)).1
        have ea : a = ⟨a.block, a.off, none⟩ := spotless (a := a) (v := V 0) (by simpa [Addr.add] using hz)
        refine .inr ⟨a.block, a.off, by rw [← ea], fun k hk => ?_⟩
        have g := hq k hk
        have c := (hc k (by omega)).1
        have er := rg_map (fun k => (q k).2.2) l0 k hk
        dsimp only
        rw [er]
        rw [ea, addr_add, g.1] at c
        exact ⟨c, g.2.1⟩
    · rw [List.length_map, List.length_range]; omega
    · show ((List.range l0).map fun k => (q k).2.2).flatten.length ≤ _
      omega
end Go.Proofs.Ytdkaoopkbhaheaa.ringsArg
namespace Go.Proofs.Ytdkaoopkbhaheaa.ringsArg
open Go.ChangeShapes Go.WideShapes Go.ChangeAt Go.RowKit Go.Deep
open Jor
theorem wf_i64 {x : Int} (h : (Lit.int .i64 x).wf = true) : -9223372036854775808 ≤ x ∧ x ≤ 9223372036854775807 := bounds_i64 h
theorem ints_open {H : Type} {enc : TypeId × Value → H} {W : World} {sp : Nat → Bool} {a : Option Addr} {len cap : Nat} {d : DataW H} {p : List MemPlace}
    (h : DataW.Trod enc Try.prog W 0 sp true 59 (.slice a len cap) d p) : ∃ Z, Ints W a len Z ∧ len ≤ cap ∧ cap ≤ 9223372036854775807 := by
  obtain ⟨fuel, hf⟩ := h
  rcases open_ints Try.underlying59 Try.underlying3 (by kernel_rfl) hf with ⟨hcs, _⟩ | ⟨x, l, c, zs, hcs, _, hl, hm, hz, _, hcell, hwz⟩
  · simp [Value.cells] at hcs
    obtain ⟨rfl, rfl, rfl⟩ := hcs
    exact ⟨fun _ => 0, .inl rfl, by omega, by omega⟩
  · simp [Value.cells] at hcs
    obtain ⟨rfl, rfl, rfl⟩ := hcs
    have hz' : len ≤ zs.length := by rw [hz]; split <;> omega
    refine ⟨fun i => zs.getD i 0, ?_, hl, by unfold maxLen at hm; omega⟩
    rcases Nat.eq_zero_or_pos len with q | q
    · exact .inl q
    · have h0 := hcell 0 (by omega)
      have sp0 := spotless h0
      obtain ⟨b, o, s⟩ := x
      have es : s = none := by
        cases s with
        | none => rfl
        | some s =>
          unfold World.cell? Addr.add at h0
          split at h0 <;> simp at h0
      subst es
      refine .inr ⟨b, o, rfl, fun i hi => ⟨?_, ?_⟩⟩
      · have := hcell i (by omega)
        have e : (⟨b, o, none⟩ : Addr).add i = ⟨b, o + i, none⟩ := by
          unfold Addr.add
          split
          · next h => rw [h]; rfl
          · rfl
        rw [e] at this
        exact this
      have hi' : i < zs.length := by omega
      have := wf_i64 (hwz _ (List.getElem_mem hi'))
      show _ ≤ zs.getD i 0 ∧ zs.getD i 0 ≤ _
      rw [getD_elem _ _ _ hi']
      exact this
end Go.Proofs.Ytdkaoopkbhaheaa.ringsArg
namespace Go.Proofs.Ytdkaoopkbhaheaa.ringsArg
open Go.ChangeShapes Go.WideShapes Go.ChangeAt Go.RowKit Go.Deep
open Jor
theorem bytesP : Try.prog.bytesOf 25 = 16 := by kernel_rfl
theorem bytesR : Try.prog.bytesOf 50 = 24 := by kernel_rfl
theorem weights_in {H : Type} {P : Program} {e : TypeId} {x : DataW H} {n : Nat} (hn : n ∈ x.weights P e) : ∀ {l : List (DataW H)}, x ∈ l → n ∈ DataW.weightsAll P e l := by
  intro l
  induction l with
  | nil => intro h; cases h
  | cons y r ih =>
    intro h
    simp only [DataW.weightsAll, List.mem_append]
    rcases List.mem_cons.1 h with rfl | h
    · exact .inl hn
    · exact .inr (ih h)
set_option maxRecDepth 100000 in
theorem ring_open_w {H : Type} {enc : TypeId × Value → H} {W : World} {sp : Nat → Bool} {n : Nat} {V : Value} {D : DataW H} {Pl : List MemPlace}
    (h : DataW.trod enc Try.prog W 0 sp true n 50 [V] = some (D, Pl)) (hw : ∀ x ∈ D.weights Try.prog 50, x ≤ reachBytes) :
    ∃ q : Option Addr × Nat × List IP, V = .slice q.1 q.2.2.length q.2.1 ∧ Pts W q.1 q.2.2.length (pt q.2.2) ∧ q.2.2.length ≤ 8796093022208 := by
  rcases open_slice_pairs underSQ Try.underlying25 cellsP rfl rfl cellsI cellsI h with ⟨e, e2⟩ | ⟨a, len, cap, m, k, V0, V1, D0, D1, P0, P1, e, _, hl, _, hm, ex, hc⟩
  · cases e
    exact ⟨(none, 0, []), rfl, .inl rfl, Nat.zero_le _⟩
  · cases e
    have hlm : len ≤ m := by rw [hm]; split <;> omega
    have each : ∀ i, i < len → ∃ p : IP, W.cell? (a.add (i * 2)) = some (.int .i64 p.1) ∧ W.cell? (a.add (i * 2 + 1)) = some (.int .i64 p.2) := by
      intro i hi
      obtain ⟨c0, c1, t0, t1⟩ := hc i (by omega)
      obtain ⟨x, e0, _⟩ := DataW.trod_int Try.underlying3 t0
      obtain ⟨y, e1, _⟩ := DataW.trod_int Try.underlying3 t1
      have e0 : V0 i = .int .i64 x := by simpa using e0
      have e1 : V1 i = .int .i64 y := by simpa using e1
      exact ⟨(x, y), by rw [c0, e0], by rw [c1, e1]⟩
    obtain ⟨p, hp⟩ := choose_lt each
    refine ⟨(some a, cap, (List.range len).map p), by simp, ?_, ?_⟩
    · simp only [List.length_map, List.length_range]
      by_cases h0 : len = 0
      · exact .inl h0
      · have hz := (hp 0 (by omega)).1
        have ea : a = ⟨a.block, a.off, none⟩ := spotless (a := a) (v := .int .i64 (p 0).1) (by simpa [Addr.add] using hz)
        refine .inr ⟨a.block, a.off, by rw [← ea], fun i hi => ?_⟩
        rw [pt_map p len i hi]
        have := hp i hi
        rw [ea, addr_add, addr_add, ← Nat.add_assoc] at this
        exact this
    · simp only [Prod.mk.injEq] at ex
      rw [ex.1] at hw
      simp only [DataW.weights, underSQ, bytesP, List.length_map, List.length_range, List.mem_cons] at hw
      have := hw _ (.inl rfl)
      unfold reachBytes at this
      simp only [List.length_map, List.length_range]
      omega
set_option maxRecDepth 100000 in
theorem rings_open_w {H : Type} {enc : TypeId × Value → H} {W : World} {r : Reach} {b0 : Nat} {v : Value} {d : DataW H} {p : List MemPlace} {sp : Nat → Bool}
    (hv : Value.okWide Try.prog W r b0 34 v) (h : DataW.Trod enc Try.prog W 0 sp true 34 v d p) (hsp : ∀ b, sp b = true) (hw : ∀ x ∈ d.weights Try.prog 34, x ≤ reachBytes) :
    ∃ (a : Option Addr) (cap : Nat) (A : Nat → Option Addr) (C : Nat → Nat) (rs : List (List IP)), v = .slice a rs.length cap ∧ RingsL W a A C rs ∧ rs.length ≤ cap ∧ cap ≤ 5864062014805 ∧ ∀ k, (rg rs k).length ≤ 8796093022208 := by
  obtain ⟨a0, l0, c0, rfl⟩ := okWide_slice underR hv
  obtain ⟨fuel, hf⟩ := h
  rcases open_slice1 underR cellsR hf with ⟨e, _⟩ | ⟨a, len, cap, m, n, V, D, Pl, e, _, hl, _, hm, ex, hc⟩
  · simp [Value.cells] at e
    obtain ⟨rfl, rfl, rfl⟩ := e
    exact ⟨none, 0, fun _ => none, fun _ => 0, [], rfl, .inl rfl, Nat.zero_le _, Nat.zero_le _, fun k => Nat.zero_le _⟩
  · simp [Value.cells] at e
    obtain ⟨rfl, rfl, rfl⟩ := e
    have hmc : m = c0 := by rw [hm, hsp]; simp
    have hlm : l0 ≤ m := by omega
    simp only [Prod.mk.injEq] at ex
    rw [ex.1] at hw
    simp only [DataW.weights, underR, bytesR, List.length_map, List.length_range, List.mem_cons, List.mem_append] at hw
    have hcb : c0 ≤ 5864062014805 := by
      have := hw _ (.inl rfl)
      unfold reachBytes at this
      omega
    obtain ⟨q, hq⟩ := choose_lt (n := l0) fun k hk => ring_open_w (hc k (by omega)).2 fun x hx => hw x (.inr (.inl (weights_in hx (List.mem_map.2 ⟨k, List.mem_range.2 hk, rfl⟩))))
    refine ⟨some a, c0, fun k => (q k).1, fun k => (q k).2.1, (List.range l0).map fun k => (q k).2.2, by simp, ?_, ?_, hcb, ?_⟩
    · unfold RingsL
      rw [List.length_map, List.length_range]
      by_cases h0 : l0 = 0
      · exact .inl h0
      · have hz := (hc 0 (by omega)).1
        have ea : a = ⟨a.block, a.off, none⟩ := spotless (a := a) (v := V 0) (by simpa [Addr.add] using hz)
        refine .inr ⟨a.block, a.off, by rw [← ea], fun k hk => ?_⟩
        have g := hq k hk
        have c := (hc k (by omega)).1
        have er := rg_map (fun k => (q k).2.2) l0 k hk
        dsimp only
        rw [er]
        rw [ea, addr_add, g.1] at c
        exact ⟨c, g.2.1⟩
    · rw [List.length_map, List.length_range]; omega
    · intro k
      by_cases hk : k < l0
      · rw [rg_map (fun k => (q k).2.2) l0 k hk]
        exact (hq k hk).2.2
      · have : rg ((List.range l0).map fun k => (q k).2.2) k = [] := by
          unfold rg
          rw [List.getD_eq_getElem?_getD, List.getElem?_eq_none (by simp; omega)]; rfl
        rw [this]
        exact Nat.zero_le _
theorem weights_first {H : Type} {ts : List TypeId} {ds : List (DataW H)} {t : TypeId} {d : DataW H} (h : (DataW.weightsEach Try.prog (t :: ts) (d :: ds)).all (· ≤ reachBytes) = true) : ∀ x ∈ d.weights Try.prog t, x ≤ reachBytes := fun x hx =>
  of_decide_eq_true (List.all_eq_true.1 h _ (DataW.weights_mem_each (j := 0) (ts := t :: ts) (ds := d :: ds) rfl rfl x hx))
end Go.Proofs.Ytdkaoopkbhaheaa.ringsArg
