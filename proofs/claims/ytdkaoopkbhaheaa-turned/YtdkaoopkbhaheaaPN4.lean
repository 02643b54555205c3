import Derived.Test.YtdkaoopkbhaheaaPN2
import Derived.Test.YtdkaoopkbhaheaaPF9
import Derived.Maps.RangeRun
namespace Go.Proofs.Ytdkaoopkbhaheaa
open Go.RowKit Go.Lib
open Jor
open Go.ChangeMaps (setBlock heap_setBlock_same heap_setBlock_other)
open Go.ChangeShapes Go.WideShapes Go.ChangeAt Go.Joins
set_option linter.unusedVariables false
set_option linter.unusedSimpArgs false
theorem rowE : (120 : TypeId) < Try.prog.types.size := of_decide_eq_true (by kernel_rfl)
theorem cellsE : Try.prog.cellsOf 120 = 2 := by kernel_rfl
theorem cells1I : Try.prog.cellsOf 3 = 1 := by kernel_rfl
theorem deepE : Try.prog.keyTypeAt (Try.prog.types.size + 1) 120 = true := by kernel_rfl
theorem wideE : (match Try.prog.underlying 120 with | some (.array _ _) | some (.struct _) => true | _ => false) = true := by rw [Try.underlying120]
set_option maxRecDepth 100000 in
theorem lawE : WideMaps.KeyLaw Try.prog 120 := deep_law_laid laidQ (m := 2) (by omega) rowE (by kernel_rfl) wideE
theorem formedE {c0 c1 : Value} : (Value.agg #[c0, c1]).formed Try.prog 120 = true := by simp [Value.formed, Try.underlying120, cellsE, cells1I]
theorem underME : Try.prog.underlying 94 = some (.map 120 3) := by kernel_rfl
theorem ev_inj {i j k l : Nat} (h : ev i j = ev k l) : i = k ∧ j = l := by
  unfold ev at h
  simp only [Value.agg.injEq, Array.mk.injEq, List.cons.injEq, Value.int.injEq, true_and, and_true] at h
  omega
set_option maxRecDepth 100000 in
theorem key_ev {i j : Nat} (hi : i ≤ 1048576) (hj : j ≤ 1048576) : ∃ l, keyOf Try.prog 120 (ev i j) = some l := by
  have wa : (Lit.int .i64 (i : Int)).wf = true := WalkArith.wf_i64 (by omega)
  have wb : (Lit.int .i64 (j : Int)).wf = true := WalkArith.wf_i64 (by omega)
  have T : DataW.Trod (H := Unit) (fun _ => ()) Try.prog default 0 (fun _ => true) true 120 (.agg #[.int .i64 (i : Int), .int .i64 (j : Int)]) (.agg [.lit (.int .i64 (i : Int)), .lit (.int .i64 (j : Int))]) [] := by
    have r2 : List.range 2 = [0, 1] := rfl
    refine ⟨2, ?_⟩
    unfold DataW.trod
    rw [Try.underlying120]
    simp [r2, cellsE, cells1I, Value.cells, DataW.trod, Try.underlying3, wa, wb]
  exact ⟨_, (keyOf_asKey deepE wideE formedE T).1⟩
structure Ents (es : Array MapEntry) (c : Nat) (F : Nat → Nat → Option Int) : Prop where
  ent : ∀ e ∈ es.toList, ∃ i j v, e.key = ev i j ∧ e.val = .int .i64 v ∧ F i j = some v ∧ i ≤ 1048576 ∧ j ≤ 1048576
  has : ∀ i j v, F i j = some v → ∃ e ∈ es.toList, e.key = ev i j
  born : (es.toList.map (·.born)).Nodup
  fresh : ∀ e ∈ es.toList, e.born < c
  keys : (es.toList.map (·.key)).Nodup
def MapIs (w : World) (B : Nat) (F : Nat → Nat → Option Int) : Prop := ∃ es c, w.heap[B]? = some (.map es c) ∧ Ents es c F
def upd (F : Nat → Nat → Option Int) (i j : Nat) (v : Int) : Nat → Nat → Option Int := fun k l => if k = i ∧ l = j then some v else F k l
theorem Ents.keyed {es : Array MapEntry} {c : Nat} {F : Nat → Nat → Option Int} (h : Ents es c F) : ∀ e ∈ es.toList, ∃ l, keyOf Try.prog 120 e.key = some l := fun e he => by
  obtain ⟨i, j, v, h1, _, _, h4, h5⟩ := h.ent e he
  rw [h1]; exact key_ev h4 h5
theorem Ents.val {es : Array MapEntry} {c : Nat} {F : Nat → Nat → Option Int} (h : Ents es c F) {e : MapEntry} (he : e ∈ es.toList) {i j : Nat} (hk : e.key = ev i j) : ∃ v, e.val = .int .i64 v ∧ F i j = some v := by
  obtain ⟨i', j', v, h1, h2, h3, _⟩ := h.ent e he
  obtain ⟨rfl, rfl⟩ := ev_inj (hk.symm.trans h1)
  exact ⟨v, h2, h3⟩
theorem Ents.none_of {es : Array MapEntry} {c : Nat} {F : Nat → Nat → Option Int} (h : Ents es c F) {i j : Nat} (hF : F i j = none) : ∀ e ∈ es.toList, e.key ≠ ev i j := fun e he hk => by
  obtain ⟨v, _, h2⟩ := h.val he hk
  rw [hF] at h2; cases h2
theorem Ents.empty : Ents #[] 0 (fun _ _ => none) := ⟨fun e he => (by simp at he), fun _ _ _ h => (by cases h), List.nodup_nil, fun e he => (by simp at he), List.nodup_nil⟩
section
variable {w : World} {B : Nat} {F : Nat → Nat → Option Int}
theorem look2_no (hM : MapIs w B F) {i j : Nat} (hi : i ≤ 1048576) (hj : j ≤ 1048576) (hF : F i j = none) :
    (Instr.lookup 94 (.map (some B)) (ev i j) true).run Try.prog w = .ok (.tuple #[.int .i64 0, .bool false]) w := by
  obtain ⟨es, c, hb, hE⟩ := hM
  obtain ⟨l, hl⟩ := key_ev hi hj
  rcases lawE.find w hl es.toList hE.keyed with ⟨h1, _⟩ | ⟨k, e, h1, h2, h3⟩
  · simp [Instr.lookup, run_underlying underME, MapKept.run_getObj_map hb, lawE.check w _ hl, h1, zeroQ, Result.andThen]
  · exact absurd h3 (hE.none_of hF e (List.mem_of_getElem? h2))
theorem look2_yes (hM : MapIs w B F) {i j : Nat} (hi : i ≤ 1048576) (hj : j ≤ 1048576) {v : Int} (hF : F i j = some v) :
    (Instr.lookup 94 (.map (some B)) (ev i j) true).run Try.prog w = .ok (.tuple #[.int .i64 v, .bool true]) w := by
  obtain ⟨es, c, hb, hE⟩ := hM
  obtain ⟨l, hl⟩ := key_ev hi hj
  rcases lawE.find w hl es.toList hE.keyed with ⟨h1, h2⟩ | ⟨k, e, h1, h2, h3⟩
  · obtain ⟨e, he, h3⟩ := hE.has i j v hF
    exact absurd h3 (h2 e he)
  · obtain ⟨u, hu, hu2⟩ := hE.val (List.mem_of_getElem? h2) h3
    rw [hF] at hu2
    cases hu2
    simp [Instr.lookup, run_underlying underME, MapKept.run_getObj_map hb, lawE.check w _ hl, h1, hu, Result.andThen]
theorem look1_yes (hM : MapIs w B F) {i j : Nat} (hi : i ≤ 1048576) (hj : j ≤ 1048576) {v : Int} (hF : F i j = some v) :
    (Instr.lookup 94 (.map (some B)) (ev i j) false).run Try.prog w = .ok (.int .i64 v) w := by
  obtain ⟨es, c, hb, hE⟩ := hM
  obtain ⟨l, hl⟩ := key_ev hi hj
  rcases lawE.find w hl es.toList hE.keyed with ⟨h1, h2⟩ | ⟨k, e, h1, h2, h3⟩
  · obtain ⟨e, he, h3⟩ := hE.has i j v hF
    exact absurd h3 (h2 e he)
  · obtain ⟨u, hu, hu2⟩ := hE.val (List.mem_of_getElem? h2) h3
    rw [hF] at hu2
    cases hu2
    simp [Instr.lookup, run_underlying underME, MapKept.run_getObj_map hb, lawE.check w _ hl, h1, hu, Result.andThen]
theorem map_set (hM : MapIs w B F) {i j : Nat} (hi : i ≤ 1048576) (hj : j ≤ 1048576) (v : Int) :
    ∃ o, (Instr.mapUpdate 94 (.map (some B)) (ev i j) (.int .i64 v)).run Try.prog w = .ok () (setBlock w B o) ∧ MapIs (setBlock w B o) B (upd F i j v) := by
  obtain ⟨es, c, hb, hE⟩ := hM
  obtain ⟨l, hl⟩ := key_ev hi hj
  rcases lawE.find w hl es.toList hE.keyed with ⟨h1, h2⟩ | ⟨k, e, h1, h2, h3⟩
  · refine ⟨.map (es.push ⟨ev i j, .int .i64 v, c⟩) (c + 1), ?_, _, _, heap_setBlock_same hb _, ?_⟩
    · simp [Instr.mapUpdate, run_underlying underME, MapKept.run_getObj_map hb, lawE.check w _ hl, h1, MapKept.run_setObj_map _ hb, Result.andThen, setBlock]
    · have tl : (es.push (⟨ev i j, .int .i64 v, c⟩ : MapEntry)).toList = es.toList ++ [⟨ev i j, .int .i64 v, c⟩] := by simp
      refine ⟨fun e he => ?_, fun a b u h => ?_, ?_, fun e he => ?_, ?_⟩
      · rw [tl, List.mem_append, List.mem_singleton] at he
        rcases he with he | rfl
        · obtain ⟨a, b, u, q1, q2, q3, q4, q5⟩ := hE.ent e he
          refine ⟨a, b, u, q1, q2, ?_, q4, q5⟩
          unfold upd
          rw [if_neg]
          · exact q3
          · rintro ⟨rfl, rfl⟩
            exact h2 e he q1
        · exact ⟨i, j, v, rfl, rfl, by unfold upd; rw [if_pos ⟨rfl, rfl⟩], hi, hj⟩
      · rw [tl]
        unfold upd at h
        split at h
        · rename_i hab
          obtain ⟨rfl, rfl⟩ := hab
          exact ⟨_, List.mem_append_right _ (List.mem_singleton.2 rfl), rfl⟩
        · obtain ⟨e, he, q⟩ := hE.has a b u h
          exact ⟨e, List.mem_append_left _ he, q⟩
      · rw [tl, List.map_append, List.nodup_append]
        refine ⟨hE.born, by simp, fun a ha b hb2 => ?_⟩
        simp only [List.map_cons, List.map_nil, List.mem_singleton] at hb2
        obtain ⟨e, he, rfl⟩ := List.mem_map.1 ha
        have := hE.fresh e he
        omega
      · rw [tl, List.mem_append, List.mem_singleton] at he
        rcases he with he | rfl
        · have := hE.fresh e he
          omega
        · exact Nat.lt_succ_self _
      · rw [tl, List.map_append, List.nodup_append]
        refine ⟨hE.keys, by simp, fun a ha b hb2 => ?_⟩
        simp only [List.map_cons, List.map_nil, List.mem_singleton] at hb2
        obtain ⟨e, he, rfl⟩ := List.mem_map.1 ha
        rw [hb2]
        exact h2 e he
  · have hj2 : es[k]? = some e := by simpa using h2
    refine ⟨.map (es.modify k fun e => { e with key := ev i j, val := .int .i64 v }) c, ?_, _, _, heap_setBlock_same hb _, ?_⟩
    · simp [Instr.mapUpdate, run_underlying underME, MapKept.run_getObj_map hb, lawE.check w _ hl, h1, hj2, h3, lawE.stays w hl, MapKept.run_setObj_map _ hb, Result.andThen, setBlock]
    · have tl : (es.modify k fun e => { e with key := ev i j, val := .int .i64 v }).toList = es.toList.set k ⟨ev i j, .int .i64 v, e.born⟩ := by
        rw [Array.toList_modify, ChangeMaps.modify_eq_set _ _ _ _ h2]
      have hkl : k < es.toList.length := (List.getElem?_eq_some_iff.1 h2).1
      have hek : es.toList[k] = e := (List.getElem?_eq_some_iff.1 h2).2
      have mb : (es.toList.set k ⟨ev i j, .int .i64 v, e.born⟩).map (·.born) = es.toList.map (·.born) := by
        rw [List.map_set]
        have hself := List.set_getElem_self (show k < (es.toList.map (·.born)).length by simpa using hkl)
        conv => rhs; rw [← hself]
        simp [hek]
      have mk : (es.toList.set k ⟨ev i j, .int .i64 v, e.born⟩).map (·.key) = es.toList.map (·.key) := by
        rw [List.map_set]
        have hself := List.set_getElem_self (show k < (es.toList.map (·.key)).length by simpa using hkl)
        conv => rhs; rw [← hself]
        simp [hek, h3]
      have mem : ∀ x ∈ es.toList.set k ⟨ev i j, .int .i64 v, e.born⟩, x = ⟨ev i j, .int .i64 v, e.born⟩ ∨ x ∈ es.toList ∧ x.key ≠ ev i j := by
        intro x hx
        obtain ⟨q, hq, rfl⟩ := List.getElem_of_mem hx
        rw [List.length_set] at hq
        by_cases hqk : k = q
        · left; subst hqk; simp
        · right
          rw [List.getElem_set_ne hqk]
          refine ⟨List.getElem_mem _, fun h => hqk ?_⟩
          have hnd := hE.keys
          have a1 : (es.toList.map (·.key))[k]'(by simpa using hkl) = ev i j := by simp [hek, h3]
          have a2 : (es.toList.map (·.key))[q]'(by simpa using hq) = ev i j := by rw [List.getElem_map]; exact h
          exact (List.getElem_inj hnd).1 (a1.trans a2.symm)
      refine ⟨fun x hx => ?_, fun a b u h => ?_, ?_, fun x hx => ?_, ?_⟩
      · rw [tl] at hx
        rcases mem x hx with rfl | ⟨hx2, hne⟩
        · exact ⟨i, j, v, rfl, rfl, by unfold upd; rw [if_pos ⟨rfl, rfl⟩], hi, hj⟩
        · obtain ⟨a, b, u, q1, q2, q3, q4, q5⟩ := hE.ent x hx2
          refine ⟨a, b, u, q1, q2, ?_, q4, q5⟩
          unfold upd
          rw [if_neg]
          · exact q3
          · rintro ⟨rfl, rfl⟩
            exact hne q1
      · rw [tl]
        unfold upd at h
        split at h
        · rename_i hab
          obtain ⟨rfl, rfl⟩ := hab
          exact ⟨⟨ev a b, .int .i64 v, e.born⟩, List.mem_of_getElem? (i := k) (by rw [List.getElem?_set_self hkl]), rfl⟩
        · rename_i hab
          obtain ⟨x, hx, q⟩ := hE.has a b u h
          obtain ⟨y, hy, rfl⟩ := List.getElem_of_mem hx
          refine ⟨es.toList[y], List.mem_of_getElem? (i := y) ?_, q⟩
          rw [List.getElem?_set_ne, List.getElem?_eq_getElem hy]
          rintro rfl
          rw [hek, h3] at q
          obtain ⟨rfl, rfl⟩ := ev_inj q
          exact hab ⟨rfl, rfl⟩
      · rw [tl, mb]; exact hE.born
      · rw [tl] at hx
        rcases mem x hx with rfl | ⟨hx2, _⟩
        · exact hE.fresh e (List.mem_of_getElem? h2)
        · exact hE.fresh x hx2
      · rw [tl, mk]; exact hE.keys
end
theorem MapIs.block {w w' : World} {B : Nat} {F : Nat → Nat → Option Int} (h : MapIs w B F) (hb : w'.heap[B]? = w.heap[B]?) : MapIs w' B F := by
  obtain ⟨es, c, h1, h2⟩ := h
  exact ⟨es, c, hb.trans h1, h2⟩
theorem MapIs.lt {w : World} {B : Nat} {F : Nat → Nat → Option Int} (h : MapIs w B F) : B < w.heap.size := by
  obtain ⟨es, c, h1, _⟩ := h
  exact (Array.getElem?_eq_some_iff.1 h1).1
theorem MapIs.later {w w' : World} {B : Nat} {F : Nat → Nat → Option Int} (hb : Below w.heap.size w w') (h : MapIs w B F) : MapIs w' B F := h.block (hb.block _ h.lt)
theorem MapIs.new (w : World) : MapIs (w.alloc (.map #[] 0)) w.heap.size (fun _ _ => none) := ⟨_, _, heap_alloc_new _ _, Ents.empty⟩
end Go.Proofs.Ytdkaoopkbhaheaa
namespace Go.Proofs.Ytdkaoopkbhaheaa
open Go.RowKit Go.Lib
open Jor
set_option linter.unusedVariables false
set_option linter.unusedSimpArgs false
def leftB (V : Nat → IP) (i j v : Nat) : Bool := decide (0 < turnW (V i).1 (V i).2 (V j).1 (V j).2 (V v).1 (V v).2)
def nearerB (V : Nat → IP) (i j v o : Nat) : Bool := decide (0 < circleW (V i).1 (V i).2 (V j).1 (V j).2 (V o).1 (V o).2 (V v).1 (V v).2)
def bst (V : Nat → IP) (n : Nat) (E : Nat → Nat × Nat) (m i j : Nat) : Nat → Option Nat
  | 0 => none
  | q + 1 => match bst V n E m i j q with
    | none => if leftB V i j q && clearB V n E m i j q then some q else none
    | some u => if leftB V i j q && (nearerB V i j q u && clearB V n E m i j q) then some q else some u
def bi : Option Nat → Int | none => -1 | some u => u
theorem bst_lt (V : Nat → IP) (n : Nat) (E : Nat → Nat × Nat) (m i j : Nat) : ∀ q u, bst V n E m i j q = some u → u < q := by
  intro q
  induction q with
  | zero => intro u h; cases h
  | succ q ih =>
    intro u h
    unfold bst at h
    split at h
    · split at h
      · cases h; omega
      · cases h
    · next x hx =>
      split at h
      · cases h; omega
      · cases h; have := ih u hx; omega
set_option maxRecDepth 100000 in
set_option maxHeartbeats 4000000 in
theorem best_any (bc b of n cap i j be oe m ce bm : Nat) (V : Nat → IP) (E : Nat → Nat × Nat) (w : World) (hn : n ≤ 1048576) (hm : m ≤ 1048576) (hi : i < n) (hj : j < n) (hE : ∀ u, u < m → (E u).1 < n ∧ (E u).2 < n) (hc : CutAt w bc b of n cap be oe m ce bm) (hp : PtsAt w b of n V) (he : EdAt w be oe m E) :
    Calls Try.prog 95 #[.pointer (some ⟨bc, 0, none⟩), ev i j] w fun e w' => e = .returned (.int .i64 (bi (bst V n E m i j n))) ∧ Below w.heap.size w w' := by
  have hs : Below w.heap.size w (w.alloc (.cells #[.int .i64 (i : Int), .int .i64 (j : Int)] 120)) := (Below.refl _ _).alloc (Nat.le_refl _) _
  have hc0 := CutAt.later hs hc
  have p0 := hc0.pts
  have hs2 : Below (w.alloc (.cells #[.int .i64 (i : Int), .int .i64 (j : Int)] 120)).heap.size (w.alloc (.cells #[.int .i64 (i : Int), .int .i64 (j : Int)] 120)) ((w.alloc (.cells #[.int .i64 (i : Int), .int .i64 (j : Int)] 120)).alloc (.cells #[.slice none 0 0, .int .i64 0, .int .i64 0] 151)) := (Below.refl _ _).alloc (Nat.le_refl _) _
  have p1 := cell_later hs2 p0
  have x0 : (w.alloc (.cells #[.int .i64 (i : Int), .int .i64 (j : Int)] 120)).cell? ⟨w.heap.size, 0, none⟩ = some (.int .i64 (i : Int)) := by simp [go_sem]
  have x1 : (w.alloc (.cells #[.int .i64 (i : Int), .int .i64 (j : Int)] 120)).cell? ⟨w.heap.size, 1, none⟩ = some (.int .i64 (j : Int)) := by simp [go_sem]
  unfold ev
  go_enter Try.func95, Try.ntmps95
  go_wp2
  go_region
  have hb0 : Below w.heap.size w ((w.alloc (.cells #[.int .i64 (i : Int), .int .i64 (j : Int)] 120)).alloc (.cells #[.slice (some ⟨b, of, none⟩) n cap, .int .i64 (i : Int), .int .i64 (j : Int)] 151)).drew := (((Below.refl _ _).alloc (Nat.le_refl _) _).alloc (by simp) _).drew
  have t0 : ((w.alloc (.cells #[.int .i64 (i : Int), .int .i64 (j : Int)] 120)).alloc (.cells #[.slice (some ⟨b, of, none⟩) n cap, .int .i64 (i : Int), .int .i64 (j : Int)] 151)).drew.cell? ⟨w.heap.size + 1, 0, none⟩ = some (.slice (some ⟨b, of, none⟩) n cap) := by simp [go_sem]
  have t1 : ((w.alloc (.cells #[.int .i64 (i : Int), .int .i64 (j : Int)] 120)).alloc (.cells #[.slice (some ⟨b, of, none⟩) n cap, .int .i64 (i : Int), .int .i64 (j : Int)] 151)).drew.cell? ⟨w.heap.size + 1, 1, none⟩ = some (.int .i64 (i : Int)) := by simp [go_sem]
  have t2 : ((w.alloc (.cells #[.int .i64 (i : Int), .int .i64 (j : Int)] 120)).alloc (.cells #[.slice (some ⟨b, of, none⟩) n cap, .int .i64 (i : Int), .int .i64 (j : Int)] 151)).drew.cell? ⟨w.heap.size + 1, 2, none⟩ = some (.int .i64 (j : Int)) := by simp [go_sem]
  have t3 : ((w.alloc (.cells #[.int .i64 (i : Int), .int .i64 (j : Int)] 120)).alloc (.cells #[.slice (some ⟨b, of, none⟩) n cap, .int .i64 (i : Int), .int .i64 (j : Int)] 151)).drew.cell? ⟨w.heap.size, 0, none⟩ = some (.int .i64 (i : Int)) := by simp [go_sem]
  have t4 : ((w.alloc (.cells #[.int .i64 (i : Int), .int .i64 (j : Int)] 120)).alloc (.cells #[.slice (some ⟨b, of, none⟩) n cap, .int .i64 (i : Int), .int .i64 (j : Int)] 151)).drew.cell? ⟨w.heap.size, 1, none⟩ = some (.int .i64 (j : Int)) := by simp [go_sem]
  generalize hW : ((w.alloc (.cells #[.int .i64 (i : Int), .int .i64 (j : Int)] 120)).alloc (.cells #[.slice (some ⟨b, of, none⟩) n cap, .int .i64 (i : Int), .int .i64 (j : Int)] 151)).drew = W at *
  have c0 := cell_later hb0 hc.pts
  have HC : Hid (CutAt W bc b of n cap be oe m ce bm) := CutAt.later hb0 hc
  have HP : Hid (PtsAt W b of n V) := PtsAt.later hb0 hp
  have HD : Hid (EdAt W be oe m E) := EdAt.later hb0 he
  have HE : Hid (∀ u, u < m → (E u).1 < n ∧ (E u).2 < n) := hE
  clear hW hc0 p0 p1 x0 x1 hs hs2 hp he hE hc
  go_wp2
  go_loopw [6, 7, 20] (fun y _ c wr => ∃ q : Nat, q ≤ n ∧ c = .int .i64 q ∧ y = .int .i64 (bi (bst V n E m i j q)) ∧ Below W.heap.size W wr) (fun _ _ c _ => n - (intOf c).toNat)
  case atStart => exact ⟨0, by omega, rfl, rfl, Below.refl _ _⟩
  case round =>
    obtain ⟨q, hq, rfl, rfl, hbr⟩ := hrel
    by_cases hlt : q < n
    · have t0' := cell_later hbr t0
      have t1' := cell_later hbr t1
      have t2' := cell_later hbr t2
      have t3' := cell_later hbr t3
      have t4' := cell_later hbr t4
      have c0' := cell_later hbr c0
      have q0 : (0 : Int) ≤ (q : Int) := by omega
      have qm : (q : Int) < (n : Int) := by omega
      have CL : Hid (∀ x, Below wr.heap.size wr x → Calls Try.prog 105 #[egv b of n cap i j, .int .i64 (q : Int)] x fun e w' => e = .returned (.bool (leftB V i j q)) ∧ Below x.heap.size x w') := fun x hx => left_any b of n cap i j q V x hn hi hj hlt (PtsAt.later hx (PtsAt.later hbr HP.out))
      have CN : Hid (∀ x o, o < n → Below wr.heap.size wr x → Calls Try.prog 106 #[egv b of n cap i j, .int .i64 (q : Int), .int .i64 (o : Int)] x fun e w' => e = .returned (.bool (nearerB V i j q o)) ∧ Below x.heap.size x w') := fun x o ho hx => nearer_any b of n cap i j q o V x hn hi hj hlt ho (PtsAt.later hx (PtsAt.later hbr HP.out))
      have CC : Hid (∀ x, Below wr.heap.size wr x → Calls Try.prog 107 #[.pointer (some ⟨bc, 0, none⟩), tv i j q] x fun e w' => e = .returned (.bool (clearB V n E m i j q)) ∧ Below x.heap.size x w') := fun x hx => clear_any bc b of n cap i j q be oe m ce bm V E x hn hm hi hj hlt HE.out (CutAt.later hx (CutAt.later hbr HC.out)) (PtsAt.later hx (PtsAt.later hbr HP.out)) (EdAt.later hx (EdAt.later hbr HD.out))
      unfold egv at CL CN
      unfold tv at CC
      have BS : Hid (bst V n E m i j (q + 1) = match bst V n E m i j q with
        | none => if leftB V i j q && clearB V n E m i j q then some q else none
        | some u => if leftB V i j q && (nearerB V i j q u && clearB V n E m i j q) then some q else some u) := rfl
      have BL : Hid (∀ u, bst V n E m i j q = some u → u < n) := fun u h => by have := bst_lt V n E m i j q u h; omega
      clear t0 t1 t2 t3 t4 c0
      generalize bst V n E m i j q = bo at *
      cases h1 : leftB V i j q
      · rw [h1] at CL BS
        cases bo with
        | none =>
          go_wp2_with (first | (go_at_call 105; refine (CL.out _ (Below.refl _ _)).mono ?_; rintro e w2 ⟨rfl, hbL⟩; have u0 := cell_later hbL t0'; have u1 := cell_later hbL t1'; have u2 := cell_later hbL t2'; have u3 := cell_later hbL t3'; have u4 := cell_later hbL t4'))
          go_roundw
          case rel => exact ⟨q + 1, by omega, by go_num, by rw [BS.out]; rfl, below_then hbr hbL⟩
          case measure => simp [intOf]; omega
        | some u =>
          simp only [bi]
          go_wp2_with (first | (go_at_call 105; refine (CL.out _ (Below.refl _ _)).mono ?_; rintro e w2 ⟨rfl, hbL⟩; have u0 := cell_later hbL t0'; have u1 := cell_later hbL t1'; have u2 := cell_later hbL t2'; have u3 := cell_later hbL t3'; have u4 := cell_later hbL t4'))
          go_roundw
          case rel => exact ⟨q + 1, by omega, by go_num, by rw [BS.out]; rfl, below_then hbr hbL⟩
          case measure => simp [intOf]; omega
      · rw [h1] at CL BS
        cases bo with
        | none =>
          simp only [bi]
          cases h2 : clearB V n E m i j q
          · rw [h2] at CC BS
            go_wp2_with (first | (go_at_call 105; refine (CL.out _ (Below.refl _ _)).mono ?_; rintro e w2 ⟨rfl, hbL⟩; have u0 := cell_later hbL t0'; have u1 := cell_later hbL t1'; have u2 := cell_later hbL t2'; have u3 := cell_later hbL t3'; have u4 := cell_later hbL t4') | (go_at_call 107; refine (CC.out _ (by first | exact hbN | exact hbL)).mono ?_; rintro e w4 ⟨rfl, hbC'⟩; have hbC := below_then (by first | exact hbN | exact hbL) hbC'; clear hbC'))
            go_roundw
            case rel => exact ⟨q + 1, by omega, by go_num, by rw [BS.out]; rfl, below_then hbr hbC⟩
            case measure => simp [intOf]; omega
          · rw [h2] at CC BS
            go_wp2_with (first | (go_at_call 105; refine (CL.out _ (Below.refl _ _)).mono ?_; rintro e w2 ⟨rfl, hbL⟩; have u0 := cell_later hbL t0'; have u1 := cell_later hbL t1'; have u2 := cell_later hbL t2'; have u3 := cell_later hbL t3'; have u4 := cell_later hbL t4') | (go_at_call 107; refine (CC.out _ (by first | exact hbN | exact hbL)).mono ?_; rintro e w4 ⟨rfl, hbC'⟩; have hbC := below_then (by first | exact hbN | exact hbL) hbC'; clear hbC'))
            go_roundw
            case rel => exact ⟨q + 1, by omega, by go_num, by rw [BS.out]; rfl, below_then hbr hbC⟩
            case measure => simp [intOf]; omega
        | some u =>
          simp only [bi]
          have hu : ((u : Int) == -1) = false := beq_eq_false_iff_ne.2 (by omega)
          have hun : u < n := BL.out u rfl
          change Hid (bst V n E m i j (q + 1) = if (true && (nearerB V i j q u && clearB V n E m i j q)) = true then some q else some u) at BS
          cases h2 : nearerB V i j q u
          · have CN' : Hid (∀ x, Below wr.heap.size wr x → Calls Try.prog 106 #[.agg #[.slice (some ⟨b, of, none⟩) n cap, .int .i64 (i : Int), .int .i64 (j : Int)], .int .i64 (q : Int), .int .i64 (u : Int)] x fun e w' => e = .returned (.bool false) ∧ Below x.heap.size x w') := fun x hx => by rw [← h2]; exact CN.out x u hun hx
            rw [h2] at BS
            go_wp2_with (first | (go_at_call 105; refine (CL.out _ (Below.refl _ _)).mono ?_; rintro e w2 ⟨rfl, hbL⟩; have u0 := cell_later hbL t0'; have u1 := cell_later hbL t1'; have u2 := cell_later hbL t2'; have u3 := cell_later hbL t3'; have u4 := cell_later hbL t4') | (go_at_call 106; refine (CN'.out _ hbL).mono ?_; rintro e w3 ⟨rfl, hbN'⟩; have hbN := below_then hbL hbN'; clear hbN'; have y3 := cell_later hbN t3'; have y4 := cell_later hbN t4'))
            go_roundw
            case rel => exact ⟨q + 1, by omega, by go_num, by rw [BS.out]; rfl, below_then hbr hbN⟩
            case measure => simp [intOf]; omega
          · have CN' : Hid (∀ x, Below wr.heap.size wr x → Calls Try.prog 106 #[.agg #[.slice (some ⟨b, of, none⟩) n cap, .int .i64 (i : Int), .int .i64 (j : Int)], .int .i64 (q : Int), .int .i64 (u : Int)] x fun e w' => e = .returned (.bool true) ∧ Below x.heap.size x w') := fun x hx => by rw [← h2]; exact CN.out x u hun hx
            rw [h2] at BS
            cases h3 : clearB V n E m i j q
            · rw [h3] at CC BS
              go_wp2_with (first | (go_at_call 105; refine (CL.out _ (Below.refl _ _)).mono ?_; rintro e w2 ⟨rfl, hbL⟩; have u0 := cell_later hbL t0'; have u1 := cell_later hbL t1'; have u2 := cell_later hbL t2'; have u3 := cell_later hbL t3'; have u4 := cell_later hbL t4') | (go_at_call 106; refine (CN'.out _ hbL).mono ?_; rintro e w3 ⟨rfl, hbN'⟩; have hbN := below_then hbL hbN'; clear hbN'; have y3 := cell_later hbN t3'; have y4 := cell_later hbN t4') | (go_at_call 107; refine (CC.out _ (by first | exact hbN | exact hbL)).mono ?_; rintro e w4 ⟨rfl, hbC'⟩; have hbC := below_then (by first | exact hbN | exact hbL) hbC'; clear hbC'))
              go_roundw
              case rel => exact ⟨q + 1, by omega, by go_num, by rw [BS.out]; rfl, below_then hbr hbC⟩
              case measure => simp [intOf]; omega
            · rw [h3] at CC BS
              go_wp2_with (first | (go_at_call 105; refine (CL.out _ (Below.refl _ _)).mono ?_; rintro e w2 ⟨rfl, hbL⟩; have u0 := cell_later hbL t0'; have u1 := cell_later hbL t1'; have u2 := cell_later hbL t2'; have u3 := cell_later hbL t3'; have u4 := cell_later hbL t4') | (go_at_call 106; refine (CN'.out _ hbL).mono ?_; rintro e w3 ⟨rfl, hbN'⟩; have hbN := below_then hbL hbN'; clear hbN'; have y3 := cell_later hbN t3'; have y4 := cell_later hbN t4') | (go_at_call 107; refine (CC.out _ (by first | exact hbN | exact hbL)).mono ?_; rintro e w4 ⟨rfl, hbC'⟩; have hbC := below_then (by first | exact hbN | exact hbL) hbC'; clear hbC'))
              go_roundw
              case rel => exact ⟨q + 1, by omega, by go_num, by rw [BS.out]; rfl, below_then hbr hbC⟩
              case measure => simp [intOf]; omega
    · have : q = n := by omega
      subst this
      go_wp2
      go_ret
      exact ⟨rfl, below_then hb0 hbr⟩
end Go.Proofs.Ytdkaoopkbhaheaa
