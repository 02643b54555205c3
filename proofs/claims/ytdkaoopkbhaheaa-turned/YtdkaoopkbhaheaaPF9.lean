import Derived.Test.YtdkaoopkbhaheaaPF1
import Derived.WideKeyEntry
import Derived.DeepKeys4
import Derived.MapViews
import Derived.OpenShut
import Derived.Carry
import Derived.ProofKit
import Derived.Lib.SmallJoins
import Derived.Test.YtdkaoopkbhaheaaQF5
namespace Go.Proofs.Ytdkaoopkbhaheaa
open Go.RowKit Go.Lib
open Jor
open Go.ChangeMaps (setBlock heap_setBlock_same heap_setBlock_other)
open Go.ChangeShapes Go.WideShapes Go.ChangeAt Go.Joins
set_option linter.unusedVariables false
set_option linter.unusedSimpArgs false
theorem laidQ : laidOutB Try.prog = true := by kernel_rfl
theorem rowQ : (25 : TypeId) < Try.prog.types.size := of_decide_eq_true (by kernel_rfl)
theorem cellsQ : Try.prog.cellsOf 25 = 2 := by kernel_rfl
theorem deepQ : Try.prog.keyTypeAt (Try.prog.types.size + 1) 25 = true := by kernel_rfl
theorem wideQ : (match Try.prog.underlying 25 with | some (.array _ _) | some (.struct _) => true | _ => false) = true := by rw [Try.underlying25]
set_option maxRecDepth 100000 in
theorem lawQ : WideMaps.KeyLaw Try.prog 25 := deep_law_laid laidQ (m := 2) (by omega) rowQ (by kernel_rfl) wideQ
theorem formedQ {c0 c1 : Value} : (Value.agg #[c0, c1]).formed Try.prog 25 = true := by simp [Value.formed, Try.underlying25, cellsQ]
theorem zeroQ (w : World) : (zeroValue 3).run Try.prog w = .ok (.int .i64 0) w := by kernel_rfl
theorem underM : Try.prog.underlying 145 = some (.map 25 3) := by kernel_rfl
def kv (p : IP) : Value := .agg #[.int .i64 p.1, .int .i64 p.2]
theorem kv_inj {p q : IP} (h : kv p = kv q) : p = q := by
  unfold kv at h
  simp only [Value.agg.injEq, Array.mk.injEq, List.cons.injEq, Value.int.injEq, true_and, and_true] at h
  exact Prod.ext h.1 h.2
theorem wf_near {p : IP} (h : nearP p) : (Lit.int .i64 p.1).wf = true ∧ (Lit.int .i64 p.2).wf = true := by
  have := near_bd h
  exact ⟨WalkArith.wf_i64 (by omega), WalkArith.wf_i64 (by omega)⟩
set_option maxRecDepth 100000 in
theorem key_near {p : IP} (h : nearP p) : ∃ l, keyOf Try.prog 25 (kv p) = some l := by
  obtain ⟨wa, wb⟩ := wf_near h
  have T : DataW.Trod (H := Unit) (fun _ => ()) Try.prog default 0 (fun _ => true) true 25 (.agg #[.int .i64 p.1, .int .i64 p.2]) (.agg [.lit (.int .i64 p.1), .lit (.int .i64 p.2)]) [] :=
    shut_agg2 (y0 := (.lit (.int .i64 p.1), [])) (y1 := (.lit (.int .i64 p.2), [])) Try.underlying25 (by kernel_rfl) cellsQ ⟨1, by simp [DataW.trod, Try.underlying3, wa]⟩ ⟨1, by simp [DataW.trod, Try.underlying3, wb]⟩
  exact ⟨_, (keyOf_asKey deepQ wideQ formedQ T).1⟩
def ents (V : Nat → IP) (k : Nat) : List MapEntry := (List.range k).map fun i => ⟨kv (V i), .int .i64 1, i⟩
theorem ents_succ (V : Nat → IP) (k : Nat) : ents V (k + 1) = ents V k ++ [⟨kv (V k), .int .i64 1, k⟩] := by simp [ents, List.range_succ]
theorem ents_length (V : Nat → IP) (k : Nat) : (ents V k).length = k := by simp [ents]
theorem ents_get (V : Nat → IP) (k j : Nat) (h : j < k) : (ents V k)[j]? = some ⟨kv (V j), .int .i64 1, j⟩ := by simp [ents, h]
theorem ents_mem (V : Nat → IP) (k : Nat) {e : MapEntry} (h : e ∈ ents V k) : ∃ j, j < k ∧ e = ⟨kv (V j), .int .i64 1, j⟩ := by
  simp only [ents, List.mem_map, List.mem_range] at h
  obtain ⟨j, hj, rfl⟩ := h
  exact ⟨j, hj, rfl⟩
theorem ents_born (V : Nat → IP) (k : Nat) : ((ents V k).map (·.born)).Nodup := by
  have : (ents V k).map (·.born) = List.range k := by simp [ents, Function.comp_def]
  rw [this]; exact List.nodup_range
section
variable {w : World} {B : Nat} {es : Array MapEntry} {c : Nat}
theorem look_no (hb : w.heap[B]? = some (.map es c)) (hk : ∀ e ∈ es.toList, ∃ l, keyOf Try.prog 25 e.key = some l) {x : IP} (hx : nearP x) (hno : ∀ e ∈ es.toList, e.key ≠ kv x) :
    (Instr.lookup 145 (.map (some B)) (kv x) false).run Try.prog w = .ok (.int .i64 0) w := by
  obtain ⟨l, hl⟩ := key_near hx
  rcases lawQ.find w hl es.toList hk with ⟨h1, _⟩ | ⟨j, e, h1, h2, h3⟩
  · simp [Instr.lookup, run_underlying underM, MapKept.run_getObj_map hb, lawQ.check w _ hl, h1, zeroQ, Result.andThen]
  · exact absurd h3 (hno e (List.mem_of_getElem? h2))
theorem look_yes (hb : w.heap[B]? = some (.map es c)) (hk : ∀ e ∈ es.toList, ∃ l, keyOf Try.prog 25 e.key = some l) {x : IP} (hx : nearP x) {v : Value} (hyes : ∃ e ∈ es.toList, e.key = kv x) (hall : ∀ e ∈ es.toList, e.key = kv x → e.val = v) :
    (Instr.lookup 145 (.map (some B)) (kv x) false).run Try.prog w = .ok v w := by
  obtain ⟨l, hl⟩ := key_near hx
  rcases lawQ.find w hl es.toList hk with ⟨h1, h2⟩ | ⟨j, e, h1, h2, h3⟩
  · obtain ⟨e, he, h3⟩ := hyes
    exact absurd h3 (h2 e he)
  · have := hall e (List.mem_of_getElem? h2) h3
    simp [Instr.lookup, run_underlying underM, MapKept.run_getObj_map hb, lawQ.check w _ hl, h1, this, Result.andThen]
theorem entry_no (hb : w.heap[B]? = some (.map es c)) (hk : ∀ e ∈ es.toList, ∃ l, keyOf Try.prog 25 e.key = some l) {x : IP} (hx : nearP x) (hno : ∀ e ∈ es.toList, e.key ≠ kv x) :
    (Instr.mapEntry 145 (.map (some B)) (kv x)).run Try.prog w = .ok (.tuple #[.int .i64 0, .int .i64 (c : Int)]) (setBlock w B (.map (es.push ⟨kv x, .int .i64 0, c⟩) (c + 1))) := by
  obtain ⟨l, hl⟩ := key_near hx
  rcases lawQ.find w hl es.toList hk with ⟨h1, _⟩ | ⟨j, e, h1, h2, h3⟩
  · simp [Instr.mapEntry, run_underlying underM, MapKept.run_getObj_map hb, lawQ.check w _ hl, h1, zeroQ, MapKept.run_setObj_map _ hb, Result.andThen, setBlock, goInt]
  · exact absurd h3 (hno e (List.mem_of_getElem? h2))
theorem entry_yes (hb : w.heap[B]? = some (.map es c)) (hk : ∀ e ∈ es.toList, ∃ l, keyOf Try.prog 25 e.key = some l) {x : IP} (hx : nearP x) (hyes : ∃ e ∈ es.toList, e.key = kv x) :
    ∃ (j : Nat) (e : MapEntry), es.toList[j]? = some e ∧ e.key = kv x ∧ (Instr.mapEntry 145 (.map (some B)) (kv x)).run Try.prog w = .ok (.tuple #[e.val, .int .i64 (e.born : Int)]) (setBlock w B (.map es c)) := by
  obtain ⟨l, hl⟩ := key_near hx
  rcases lawQ.find w hl es.toList hk with ⟨h1, h2⟩ | ⟨j, e, h1, h2, h3⟩
  · obtain ⟨e, he, h3⟩ := hyes
    exact absurd h3 (h2 e he)
  · have hj : es[j]? = some e := by simpa using h2
    have hsame : es.modify j (fun e => { e with key := kv x }) = es := by
      apply Array.ext'
      rw [Array.toList_modify, ChangeMaps.modify_eq_set _ _ _ _ h2]
      have : ({ e with key := kv x } : MapEntry) = e := by rw [← h3]
      rw [this]
      exact WideElems.set_self _ _ _ h2
    refine ⟨j, e, h2, h3, ?_⟩
    simp [Instr.mapEntry, run_underlying underM, MapKept.run_getObj_map hb, lawQ.check w _ hl, h1, hj, h3, lawQ.stays w hl, hsame, MapKept.run_setObj_map _ hb, Result.andThen, setBlock, goInt]
theorem store_at (hb : w.heap[B]? = some (.map es c)) (hn : (es.toList.map (·.born)).Nodup) {j : Nat} {e : MapEntry} (hj : es.toList[j]? = some e) (v : Value) (t : TypeId) :
    (Instr.entryStore t (.map (some B)) (.int .i64 (e.born : Int)) v).run Try.prog w = .ok () (setBlock w B (.map (es.modify j fun e => { e with val := v }) c)) := by
  have hidx : es.findIdx? (fun x => ((x.born : Nat) : Int) == ((e.born : Nat) : Int)) = some j := by
    rw [WideElems.findIdx_arr]
    exact WideElems.findIdx_born hn hj
  simp [Instr.entryStore, MapKept.run_getObj_map hb, asInt, asIntOf, hidx, MapKept.run_setObj_map _ hb, Result.andThen, setBlock]
end
theorem ents_keys {V : Nat → IP} {k : Nat} (h : ∀ i, i < k → nearP (V i)) : ∀ e ∈ (ents V k).toArray.toList, ∃ l, keyOf Try.prog 25 e.key = some l := by
  intro e he
  obtain ⟨j, hj, rfl⟩ := ents_mem V k (by simpa using he)
  exact key_near (h j hj)
theorem round_new {w : World} {B k : Nat} {V : Nat → IP} (hb : w.heap[B]? = some (.map (ents V k).toArray k)) (hv : ∀ i, i ≤ k → nearP (V i)) (hno : ∀ i, i < k → V k ≠ V i) :
    ∃ w1 w2, (Instr.lookup 145 (.map (some B)) (kv (V k)) false).run Try.prog w = .ok (.int .i64 0) w ∧ (Instr.mapEntry 145 (.map (some B)) (kv (V k))).run Try.prog w = .ok (.tuple #[.int .i64 0, .int .i64 (k : Int)]) w1 ∧
      (Instr.lookup 145 (.map (some B)) (kv (V k)) false).run Try.prog w1 = .ok (.int .i64 0) w1 ∧ (Instr.entryStore 145 (.map (some B)) (.int .i64 (k : Int)) (.int .i64 1)).run Try.prog w1 = .ok () w2 ∧
      (Instr.lookup 145 (.map (some B)) (kv (V k)) false).run Try.prog w2 = .ok (.int .i64 1) w2 ∧ w2.heap[B]? = some (.map (ents V (k + 1)).toArray (k + 1)) ∧ (∀ i, i ≠ B → w2.heap[i]? = w.heap[i]?) ∧ w2.heap.size = w.heap.size ∧ w2.os = w.os ∧ w2.tape = w.tape ∧ w2.output = w.output := by
  have hK := ents_keys (V := V) (k := k) (fun i hi => hv i (by omega))
  have hN : ∀ e ∈ (ents V k).toArray.toList, e.key ≠ kv (V k) := by
    intro e he h
    obtain ⟨j, hj, rfl⟩ := ents_mem V k (by simpa using he)
    exact hno j hj (kv_inj h).symm
  have x := hv k (Nat.le_refl _)
  have e1 := entry_no hb hK x hN
  have hb1 := heap_setBlock_same hb (.map ((ents V k).toArray.push ⟨kv (V k), .int .i64 0, k⟩) (k + 1))
  have tl : ((ents V k).toArray.push (⟨kv (V k), .int .i64 0, k⟩ : MapEntry)).toList = ents V k ++ [⟨kv (V k), .int .i64 0, k⟩] := by simp
  have hK1 : ∀ e ∈ ((ents V k).toArray.push (⟨kv (V k), .int .i64 0, k⟩ : MapEntry)).toList, ∃ l, keyOf Try.prog 25 e.key = some l := by
    intro e he
    rw [tl, List.mem_append, List.mem_singleton] at he
    rcases he with he | rfl
    · exact hK e (by simpa using he)
    · exact key_near x
  have l1 := look_yes hb1 hK1 x (v := .int .i64 0) ⟨_, by rw [tl]; exact List.mem_append_right _ (List.mem_singleton.2 rfl), rfl⟩ (by
    intro e he h
    rw [tl, List.mem_append, List.mem_singleton] at he
    rcases he with he | rfl
    · exact absurd h (hN e (by simpa using he))
    · rfl)
  have gk : ((ents V k).toArray.push (⟨kv (V k), .int .i64 0, k⟩ : MapEntry)).toList[k]? = some ⟨kv (V k), .int .i64 0, k⟩ := by
    rw [tl, List.getElem?_append_right (by rw [ents_length]; omega), ents_length]; simp
  have nd : (((ents V k).toArray.push (⟨kv (V k), .int .i64 0, k⟩ : MapEntry)).toList.map (·.born)).Nodup := by
    rw [tl]
    have := ents_born (fun i => V i) (k + 1)
    rw [ents_succ] at this
    simpa using this
  have s1 := store_at hb1 nd gk (.int .i64 1) 145
  have hm : (((ents V k).toArray.push (⟨kv (V k), .int .i64 0, k⟩ : MapEntry)).modify k fun e => { e with val := .int .i64 1 }) = (ents V (k + 1)).toArray := by
    apply Array.ext'
    rw [Array.toList_modify, tl]
    have := WideElems.modify_last (fun e : MapEntry => { e with val := .int .i64 1 }) ⟨kv (V k), .int .i64 0, k⟩ (ents V k)
    rw [ents_length] at this
    rw [this, ents_succ]
  rw [hm] at s1
  have hb2 := heap_setBlock_same hb1 (.map (ents V (k + 1)).toArray (k + 1))
  have hK2 := ents_keys (V := V) (k := k + 1) (fun i hi => hv i (by omega))
  have l2 := look_yes hb2 hK2 x (v := .int .i64 1) ⟨⟨kv (V k), .int .i64 1, k⟩, by simp [ents_succ], rfl⟩ (by
    intro e he _
    obtain ⟨j, hj, rfl⟩ := ents_mem V (k + 1) (by simpa using he)
    rfl)
  refine ⟨_, _, look_no hb hK x hN, e1, l1, s1, l2, hb2, fun i hi => ?_, by simp [setBlock], rfl, rfl, rfl⟩
  rw [heap_setBlock_other hb1 _ hi, heap_setBlock_other hb _ hi]
theorem round_old {w : World} {B k : Nat} {V : Nat → IP} (hb : w.heap[B]? = some (.map (ents V k).toArray k)) (hv : ∀ i, i ≤ k → nearP (V i)) {j0 : Nat} (hj0 : j0 < k) (he0 : V k = V j0) (hd : ∀ i j, i < k → j < k → V i = V j → i = j) :
    ∃ w1 w2 st, (Instr.lookup 145 (.map (some B)) (kv (V k)) false).run Try.prog w = .ok (.int .i64 1) w ∧ (Instr.mapEntry 145 (.map (some B)) (kv (V k))).run Try.prog w = .ok (.tuple #[.int .i64 1, .int .i64 st]) w1 ∧
      (Instr.lookup 145 (.map (some B)) (kv (V k)) false).run Try.prog w1 = .ok (.int .i64 1) w1 ∧ (Instr.entryStore 145 (.map (some B)) (.int .i64 st) (.int .i64 2)).run Try.prog w1 = .ok () w2 ∧
      (Instr.lookup 145 (.map (some B)) (kv (V k)) false).run Try.prog w2 = .ok (.int .i64 2) w2 ∧ (∀ i, i ≠ B → w2.heap[i]? = w.heap[i]?) ∧ w2.heap.size = w.heap.size ∧ w2.os = w.os ∧ w2.tape = w.tape ∧ w2.output = w.output := by
  have hK := ents_keys (V := V) (k := k) (fun i hi => hv i (by omega))
  have x := hv k (Nat.le_refl _)
  have hY : ∃ e ∈ (ents V k).toArray.toList, e.key = kv (V k) := ⟨⟨kv (V j0), .int .i64 1, j0⟩, by simpa using List.mem_of_getElem? (ents_get V k j0 hj0), by rw [he0]⟩
  have hA : ∀ e ∈ (ents V k).toArray.toList, e.key = kv (V k) → e.val = .int .i64 1 := by
    intro e he _
    obtain ⟨j, hj, rfl⟩ := ents_mem V k (by simpa using he)
    rfl
  obtain ⟨j, e, hj, hek, e1⟩ := entry_yes hb hK x hY
  have hj' : (ents V k)[j]? = some e := by simpa using hj
  have hjk : j < k := by
    have := (List.getElem?_eq_some_iff.1 hj').1
    rwa [ents_length] at this
  obtain rfl : e = ⟨kv (V j), .int .i64 1, j⟩ := by rw [ents_get V k j hjk] at hj'; exact (Option.some.inj hj').symm
  have hb1 := heap_setBlock_same hb (.map (ents V k).toArray k)
  have s1 := store_at hb1 (by simpa using ents_born V k) hj (.int .i64 2) 145
  have hb2 := heap_setBlock_same hb1 (.map ((ents V k).toArray.modify j fun e => { e with val := .int .i64 2 }) k)
  have tl : ((ents V k).toArray.modify j fun e => { e with val := .int .i64 2 }).toList = (ents V k).set j ⟨kv (V j), .int .i64 2, j⟩ := by
    rw [Array.toList_modify, ChangeMaps.modify_eq_set _ _ _ _ hj']
  have hmem : ∀ e ∈ (ents V k).set j ⟨kv (V j), .int .i64 2, j⟩, e = ⟨kv (V j), .int .i64 2, j⟩ ∨ ∃ i, i < k ∧ i ≠ j ∧ e = ⟨kv (V i), .int .i64 1, i⟩ := by
    intro e he
    obtain ⟨i, hi, rfl⟩ := List.getElem_of_mem he
    rw [List.length_set, ents_length] at hi
    by_cases hij : j = i
    · left; subst hij; simp
    · right
      refine ⟨i, hi, fun h => hij h.symm, ?_⟩
      rw [List.getElem_set_ne hij]
      have := ents_get V k i hi
      rw [List.getElem?_eq_getElem (by rw [ents_length]; exact hi)] at this
      exact Option.some.inj this
  have l2 := look_yes hb2 (by
      intro e he
      rw [tl] at he
      rcases hmem e he with rfl | ⟨i, hi, _, rfl⟩
      · exact key_near (hv j (by omega))
      · exact key_near (hv i (by omega))) x (v := .int .i64 2) (by
      rw [tl]
      exact ⟨⟨kv (V j), .int .i64 2, j⟩, List.mem_of_getElem? (i := j) (by rw [List.getElem?_set_self (by rw [ents_length]; exact hjk)]), hek⟩) (by
      intro e he h
      rw [tl] at he
      rcases hmem e he with rfl | ⟨i, hi, hne, rfl⟩
      · rfl
      · exact absurd (hd i j hi hjk ((kv_inj h).trans (kv_inj hek).symm)) hne)
  refine ⟨_, _, _, look_yes hb hK x hY hA, e1, look_yes hb1 hK x hY hA, s1, l2, fun i hi => ?_, by simp [setBlock], rfl, rfl, rfl⟩
  rw [heap_setBlock_other hb1 _ hi, heap_setBlock_other hb _ hi]
end Go.Proofs.Ytdkaoopkbhaheaa
namespace Go.Proofs.Ytdkaoopkbhaheaa
open Go.RowKit Go.Lib
open Jor
open scoped Classical
set_option linter.unusedVariables false
set_option linter.unusedSimpArgs false
theorem cell_map {w : World} {B b o : Nat} {v : Value} {es : Array MapEntry} {c : Nat} (hb : w.heap[B]? = some (.map es c)) (h : w.cell? ⟨b, o, none⟩ = some v) : b ≠ B := by
  rintro rfl
  simp [World.cell?, hb] at h
theorem twice_yes {rs : List (List IP)} {i j : Nat} (hj : j < i) (hi : i < (verts rs).length) (h : pt (verts rs) i = pt (verts rs) j) : Twice rs := ⟨i, j, hj, hi, h⟩
set_option maxRecDepth 100000 in
set_option maxHeartbeats 4000000 in
theorem noneTwice_any (a : Option Addr) (cap : Nat) (A : Nat → Option Addr) (C : Nat → Nat) (rs : List (List IP)) (w : World) (hn : rs.length ≤ 8) (hm : 1 ≤ rs.length) (h3 : ∀ k, k < rs.length → 3 ≤ (rg rs k).length) (hsz : (verts rs).length ≤ 64) (hnear : ∀ i, i < (verts rs).length → nearP (pt (verts rs) i)) (hp : RingsL w a A C rs) :
    Calls Try.prog 88 #[.slice a rs.length cap] w fun e w' => e = .returned (.bool (bl (¬ Twice rs))) ∧ Below w.heap.size w w' := by
  have H3 : Hid (∀ k, k < rs.length → 3 ≤ (rg rs k).length) := h3
  have HN : Hid (∀ i, i < (verts rs).length → nearP (pt (verts rs) i)) := hnear
  have hpos : 0 < (verts rs).length := by
    have := rg_le rs 0
    have := h3 0 (by omega)
    omega
  have hmm := @run_makeMap Try.prog
  have hbM : Below w.heap.size w (w.alloc (.map #[] 0)) := (Below.refl _ _).alloc (Nat.le_refl _) _
  have hBM : (w.alloc (.map #[] 0)).heap[w.heap.size]? = some (.map #[] 0) := heap_alloc_new _ _
  clear h3 hnear
  go_enter Try.func88, Try.ntmps88
  go_wp2_with (go_at_call 73; refine (vertices_any _ _ _ _ _ _ (by omega) (Rings.later hbM hp) (fun k hk => Nat.lt_of_lt_of_le (by decide) (H3.out k hk)) hpos (by omega)).mono ?_; rintro e w1 ⟨a1, cv, rfl, hP, hb1⟩)
  have hB1 : w1.heap[w.heap.size]? = some (.map #[] 0) := (hb1.block _ (by simp)).trans hBM
  have hw1 : Below w.heap.size w w1 := hbM.trans (hb1.mono hbM.size)
  have hs1 : w.heap.size < w1.heap.size := (Array.getElem?_eq_some_iff.1 hB1).1
  obtain ⟨bv, ov, rfl, hV⟩ : ∃ bv ov, a1 = some ⟨bv, ov, none⟩ ∧ ∀ i, i < (verts rs).length → w1.cell? ⟨bv, ov + i * 2, none⟩ = some (.int .i64 (pt (verts rs) i).1) ∧ w1.cell? ⟨bv, ov + i * 2 + 1, none⟩ = some (.int .i64 (pt (verts rs) i).2) := by
    rcases hP with h | ⟨bv, ov, e, hh⟩
    · omega
    · exact ⟨bv, ov, e, hh⟩
  have hbv : bv ≠ w.heap.size := cell_map hB1 (hV 0 hpos).1
  have hbl : bv < w1.heap.size := World.block_lt_of_cell? _ _ (hV 0 hpos).1
  have HV : Hid (∀ i, i < (verts rs).length → w1.cell? ⟨bv, ov + i * 2, none⟩ = some (.int .i64 (pt (verts rs) i).1) ∧ w1.cell? ⟨bv, ov + i * 2 + 1, none⟩ = some (.int .i64 (pt (verts rs) i).2)) := hV
  clear hV hP hb1 hBM hbM
  go_loopw [5, 10] (fun _ i wr => ∃ k : Nat, k ≤ (verts rs).length ∧ i = .int .i64 k ∧ (∀ i j, j < i → i < k → pt (verts rs) i ≠ pt (verts rs) j) ∧ wr.heap[w.heap.size]? = some (.map (ents (pt (verts rs)) k).toArray k) ∧ KeptBut w1.heap.size w.heap.size w1 wr ∧ Below w.heap.size w wr) (fun _ i _ => (verts rs).length - (intOf i).toNat)
  case atStart => exact ⟨0, Nat.zero_le _, rfl, fun i j _ h => absurd h (by omega), hB1, KeptBut.refl _ _ _, hw1⟩
  case round =>
    obtain ⟨k, hk, rfl, hall, hBr, hKr, hbr⟩ := hrel
    have HA : Hid (∀ i j, j < i → i < k → pt (verts rs) i ≠ pt (verts rs) j) := hall
    clear hall
    by_cases hlt : k < (verts rs).length
    · have c1 : wr.cell? ⟨bv, ov + k * 2, none⟩ = some (.int .i64 (pt (verts rs) k).1) := (hKr.cell (p := ⟨bv, ov + k * 2, none⟩) hbl hbv).trans (HV.out k hlt).1
      have c2 : wr.cell? ⟨bv, ov + k * 2 + 1, none⟩ = some (.int .i64 (pt (verts rs) k).2) := (hKr.cell (p := ⟨bv, ov + k * 2 + 1, none⟩) hbl hbv).trans (HV.out k hlt).2
      have hk0 : (0 : Int) ≤ (k : Int) := by omega
      have hkn : (k : Int) < ((verts rs).length : Int) := by omega
      have hsr : w.heap.size < wr.heap.size := (Array.getElem?_eq_some_iff.1 hBr).1
      -- the world in which the map is turned
      have hW0 : (wr.alloc (.cells #[.int .i64 (pt (verts rs) k).1, .int .i64 (pt (verts rs) k).2] 25)).drew.heap[w.heap.size]? = some (.map (ents (pt (verts rs)) k).toArray k) := (Below.heap_alloc _ _ _ hsr).trans hBr
      have hx0 : (wr.alloc (.cells #[.int .i64 (pt (verts rs) k).1, .int .i64 (pt (verts rs) k).2] 25)).drew.cell? ⟨wr.heap.size, 0, none⟩ = some (.int .i64 (pt (verts rs) k).1) := by simp [go_sem]
      have hx1 : (wr.alloc (.cells #[.int .i64 (pt (verts rs) k).1, .int .i64 (pt (verts rs) k).2] 25)).drew.cell? ⟨wr.heap.size, 1, none⟩ = some (.int .i64 (pt (verts rs) k).2) := by simp [go_sem]
      have hA0 : Below w.heap.size w (wr.alloc (.cells #[.int .i64 (pt (verts rs) k).1, .int .i64 (pt (verts rs) k).2] 25)).drew := (hbr.alloc hbr.size _).drew
      have hK0 : KeptBut w1.heap.size w.heap.size w1 (wr.alloc (.cells #[.int .i64 (pt (verts rs) k).1, .int .i64 (pt (verts rs) k).2] 25)).drew := hKr.trans (KeptBut.of_below (((Below.refl _ wr).alloc (Nat.le_refl _) _).drew) hKr.size)
      have hs0 : (wr.alloc (.cells #[.int .i64 (pt (verts rs) k).1, .int .i64 (pt (verts rs) k).2] 25)).drew.heap.size = wr.heap.size + 1 := by simp
      have nearK : ∀ i, i ≤ k → nearP (pt (verts rs) i) := fun i hi => HN.out i (by omega)
      by_cases hold : ∃ j, j < k ∧ pt (verts rs) k = pt (verts rs) j
      · obtain ⟨j, hj, hej⟩ := hold
        have HR : Hid (bl (¬ Twice rs) = false) := bl_false (fun h => h (twice_yes hj hlt hej))
        obtain ⟨v1, v2, st, r1, r2, r3, r4, r5, r6, r7, r8, r9, r10⟩ := round_old hW0 nearK hj hej (fun i j hi hj h => by
          rcases Nat.lt_trichotomy i j with u | u | u
          · exact absurd h.symm (HA.out j i u hj)
          · exact u
          · exact absurd h (HA.out i j u hi))
        have z0 : v2.cell? ⟨wr.heap.size, 0, none⟩ = some (.int .i64 (pt (verts rs) k).1) := (World.cell?_of_block (a := ⟨wr.heap.size, 0, none⟩) (r6 _ (by simp; omega))).trans hx0
        have z1 : v2.cell? ⟨wr.heap.size, 1, none⟩ = some (.int .i64 (pt (verts rs) k).2) := (World.cell?_of_block (a := ⟨wr.heap.size, 1, none⟩) (r6 _ (by simp; omega))).trans hx1
        have hB2 : Below w.heap.size w v2 := hA0.trans ⟨r8, r9, r10, by omega, fun i hi => r6 i (by omega)⟩
        unfold kv at r1 r2 r3 r5
        clear r6 r8 r9 r10 hW0 hA0 hK0 hej
        generalize (pt (verts rs) k).1 = x at *
        generalize (pt (verts rs) k).2 = y at *
        go_wp2
        go_region
        all_goals
          go_wp2
          go_ret
          exact ⟨retb HR.out, hB2⟩
      · have hnew : ∀ i, i < k → pt (verts rs) k ≠ pt (verts rs) i := fun i hi h => hold ⟨i, hi, h⟩
        clear hold
        have HNW : Hid (∀ i, i < k → pt (verts rs) k ≠ pt (verts rs) i) := hnew
        obtain ⟨v1, v2, r1, r2, r3, r4, r5, rb, r6, r7, r8, r9, r10⟩ := round_new hW0 nearK hnew
        have z0 : v2.cell? ⟨wr.heap.size, 0, none⟩ = some (.int .i64 (pt (verts rs) k).1) := (World.cell?_of_block (a := ⟨wr.heap.size, 0, none⟩) (r6 _ (by simp; omega))).trans hx0
        have z1 : v2.cell? ⟨wr.heap.size, 1, none⟩ = some (.int .i64 (pt (verts rs) k).2) := (World.cell?_of_block (a := ⟨wr.heap.size, 1, none⟩) (r6 _ (by simp; omega))).trans hx1
        have hB2 : Below w.heap.size w v2 := hA0.trans ⟨r8, r9, r10, by omega, fun i hi => r6 i (by omega)⟩
        have hK2 : KeptBut w1.heap.size w.heap.size w1 v2 := hK0.trans ⟨by omega, fun i _ hi => r6 i hi⟩
        have HRB : Hid (v2.heap[w.heap.size]? = some (.map (ents (pt (verts rs)) (k + 1)).toArray (k + 1))) := rb
        unfold kv at r1 r2 r3 r5
        clear r6 r8 r9 r10 hW0 hA0 hK0 hnew rb nearK
        generalize (pt (verts rs) k).1 = x at *
        generalize (pt (verts rs) k).2 = y at *
        go_wp2
        go_region
        all_goals
          go_wp2
          go_roundw
          case rel =>
            refine ⟨k + 1, by omega, by go_num, fun i j h1 h2 => ?_, HRB.out, hK2, hB2⟩
            rcases Nat.lt_or_ge i k with h | h
            · exact HA.out i j h1 h
            · have e : i = k := by omega
              subst e
              exact HNW.out j h1
          case measure => simp [intOf]; omega
    · have : k = (verts rs).length := by omega
      subst this
      have HR : Hid (bl (¬ Twice rs) = true) := bl_true (twice_no fun i j h1 h2 => HA.out i j h1 h2)
      clear HA
      go_wp2
      go_ret
      exact ⟨retb HR.out, hbr⟩
end Go.Proofs.Ytdkaoopkbhaheaa
