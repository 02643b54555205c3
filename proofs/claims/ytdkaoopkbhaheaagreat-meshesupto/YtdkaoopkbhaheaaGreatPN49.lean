import Derived.Test.YtdkaoopkbhaheaaGreatPH1
import Derived.Test.YtdkaoopkbhaheaaGreatPR1
import Derived.Test.YtdkaoopkbhaheaaGreatPN0
import Derived.Deep.DeepCutAuto
import Derived.Test.YtdkaoopkbhaheaaGreatZ0
set_option maxHeartbeats 8000000
namespace Go.Proofs.YtdkaoopkbhaheaaGreat
open Go.RowKit Go.Lib
open Jor
set_option linter.unusedVariables false
set_option linter.unusedSimpArgs false
def kk (k : Int × Int × Int) (n : Nat) : List Value := (List.replicate n [Value.int .i64 k.1, .int .i64 k.2.1, .int .i64 k.2.2]).flatten
theorem kk_length (k : Int × Int × Int) (n : Nat) : (kk k n).length = n * 3 := by
 unfold kk
 induction n with
 | zero => rfl
 | succ n ih => rw [List.replicate_succ, List.flatten_cons, List.length_append, ih]; simp; omega
theorem kk_add (k : Int × Int × Int) (n m : Nat) : kk k (n + m) = kk k n ++ kk k m := by
 unfold kk
 rw [<- List.flatten_append, List.replicate_append_replicate]
theorem kk_one (k : Int × Int × Int) (n : Nat) : ∀ u ∈ kk k n, u.oneCell' = true := by
 intro u hu
 unfold kk at hu
 rw [List.mem_flatten] at hu
 obtain ⟨l, hl, hu⟩ := hu
 rw [List.mem_replicate] at hl
 rw [hl.2] at hu
 simp at hu
 rcases hu with rfl | rfl | rfl <;> rfl
theorem kk_take (k : Int × Int × Int) {n r : Nat} (h : r <= n) (l : List Value) : (kk k n ++ l).take (r * 3) = kk k r := by
 obtain ⟨m, rfl⟩ : ∃ m, n = r + m := ⟨n - r, by omega⟩
 rw [kk_add, List.append_assoc, <- kk_length k r]
 exact List.take_left
theorem kk_get (k : Int × Int × Int) {n i : Nat} (h : i < n) : (kk k n)[i * 3]? = some (.int .i64 k.1) /\ (kk k n)[i * 3 + 1]? = some (.int .i64 k.2.1) /\ (kk k n)[i * 3 + 2]? = some (.int .i64 k.2.2) := by
 obtain ⟨m, rfl⟩ : ∃ m, n = i + (1 + m) := ⟨n - i - 1, by omega⟩
 have e : kk k 1 = [.int .i64 k.1, .int .i64 k.2.1, .int .i64 k.2.2] := rfl
 have l := kk_length k i
 rw [kk_add, kk_add, e]
 refine ⟨?_, ?_, ?_⟩ <;> rw [List.getElem?_append_right (by omega), l]
 ·rw [Nat.sub_self]; rfl
 ·rw [show i * 3 + 1 - i * 3 = 1 by omega]; rfl
 ·rw [show i * 3 + 2 - i * 3 = 2 by omega]; rfl
def KR (w : World) (k : Int × Int × Int) (u : Value) (r : Nat) : Prop := w.ownsRow 0 53 3 u r (kk k r)
structure Mo (b : Nat) (k : Int × Int × Int) (w w' : World) : Prop where
 os : w'.os = w.os
 tape : w'.tape = w.tape
 output : w'.output = w.output
 size : w.heap.size <= w'.heap.size
 block : ∀ q, q < w.heap.size -> q ≠ b -> w'.heap[q]? = w.heap[q]?
 kr : ∀ u r, KR w k u r -> KR w' k u r
theorem Mo.refl (b : Nat) (k : Int × Int × Int) (w : World) : Mo b k w w := ⟨rfl, rfl, rfl, Nat.le_refl _, fun _ _ _ => rfl, fun _ _ h => h⟩
theorem Mo.trans {b : Nat} {k : Int × Int × Int} {w w1 w2 : World} (h : Mo b k w w1) (g : Mo b k w1 w2) : Mo b k w w2 :=
 ⟨g.os.trans h.os, g.tape.trans h.tape, g.output.trans h.output, Nat.le_trans h.size g.size, fun q hq n => (g.block q (Nat.lt_of_lt_of_le hq h.size) n).trans (h.block q hq n), fun u r x => g.kr u r (h.kr u r x)⟩
theorem KR.kept {w w' : World} {k : Int × Int × Int} {u : Value} {r : Nat} (h : KR w k u r) (hb : ∀ q, q < w.heap.size -> w'.heap[q]? = w.heap[q]?) : KR w' k u r := by
 refine ⟨h.1, ?_⟩
 rcases h.2 with hn | ⟨g, cap, cur, e, h0, hg, rest⟩
 ·exact .inl hn
 ·exact .inr ⟨g, cap, cur, e, h0, (hb g (Array.getElem?_eq_some_iff.1 hg).1).trans hg, rest⟩
theorem Mo.below {b : Nat} {k : Int × Int × Int} {w w' : World} (h : Below w.heap.size w w') : Mo b k w w' :=
 ⟨h.os, h.tape, h.output, h.size, fun q hq _ => h.block q hq, fun u r x => x.kept h.block⟩
theorem underT : Tryz.prog.underlying 50 = some (.slice 53) := by kernel_rfl
theorem infoT3 : (Tryz.prog.info? 53).map (fun i => (i.zero, i.size, i.bytes)) = some (some (.agg #[.int .i64 0, .int .i64 0, .int .i64 0]), 3, 24) := by kernel_rfl
theorem under_TT : Tryz.prog.underlying 60 = some (.slice 50) := by kernel_rfl
theorem infoTT : (Tryz.prog.info? 50).map (fun i => (i.zero, i.size, i.bytes)) = some (some (.slice none 0 0), 1, 24) := by kernel_rfl
theorem krow_append {w : World} {b n m c q cq : Nat} {k : Int × Int × Int} (ty : TypeId) (hl : KR w k (.slice (some ⟨b, 0, none⟩) n c) n) (hm : 0 < m) (hb : n + m <= 1073741824)
  (hq : w.heap[q]? = some (.cells (kk k m).toArray 53 (0, 0))) :
  ∃ g cap w', (Builtin.append_ #[50, 50] ty #[.slice (some ⟨b, 0, none⟩) n c, .slice (some ⟨q, 0, none⟩) m cq]).run Tryz.prog w = .ok (.slice (some ⟨g, 0, none⟩) (n + m) cap) w' /\
   KR w' k (.slice (some ⟨g, 0, none⟩) (n + m) cap) (n + m) /\ Mo b k w w' /\ (g = b \/ w.heap.size <= g) := by
 obtain ⟨i0, hi, hz0, hz1, hz2⟩ := info_parts infoT3
 have hnews : ∀ j u, (kk k m)[j]? = some u -> w.cell? ((⟨q, 0, none⟩ : Addr).add j) = some u := by
  intro j u hu
  have e : (⟨q, 0, none⟩ : Addr).add j = ⟨q, j, none⟩ := by unfold Addr.add; split <;> simp_all
  rw [e]
  simp [World.cell?, hq, hu]
 have hlen : (kk k m).length = m * i0.size := by rw [hz1, kk_length]
 rcases hl.2 with ⟨h, _⟩ | ⟨g, cap, cur, h, _, hg, hnc, hcm, hcs, htake⟩
 ·cases h
 simp only [Value.slice.injEq, Option.some.injEq, Addr.mk.injEq, and_true, true_and] at h
 obtain ⟨rfl, rfl⟩ := h
 by_cases hroom : n + m <= c
 ·have hfit : n * i0.size + (kk k m).length <= cur.size := by rw [hz1, kk_length, hcs]; omega
  have hr := run_append_room (P := Tryz.prog) w 50 ty 53 i0 underT hi b n c cur hg ⟨q, 0, none⟩ m cq (kk k m) hlen hnews (kk_one k m) hroom hfit
  rw [hz1, htake, kk_length] at hr
  have hcur : cur.toList = kk k n ++ cur.toList.drop (n * 3) := by rw [<- htake]; exact (List.take_append_drop _ _).symm
  have hsz : (kk k n ++ kk k m ++ cur.toList.drop (n * 3 + m * 3)).length = c * 3 := by
   simp only [List.length_append, kk_length, List.length_drop, Array.length_toList]
   omega
  refine ⟨b, c, _, hr, ⟨kk_length _ _, .inr ⟨b, c, _, rfl, Nat.zero_le _, setRow_heap w b cur _ _ _ hg, hroom, hcm, by simpa using hsz, ?_⟩⟩, ⟨rfl, rfl, rfl, by simp, fun q _ hne => setRow_other w b q _ hne, ?_⟩, .inl rfl⟩
  ·show (kk k n ++ kk k m ++ _).take _ = _
   rw [<- kk_add]
   exact kk_take k (Nat.le_refl _) _
  ·intro u r hu
   refine ⟨hu.1, ?_⟩
   rcases hu.2 with hn | ⟨g', cap', cur', e, h0, hg', hr1, hr2, hr3, hr4⟩
   ·exact .inl hn
   ·by_cases e2 : g' = b
    ·subst e2
     rw [hg] at hg'
     cases hg'
     refine .inr ⟨g', cap', _, e, h0, setRow_heap w g' cur _ _ _ hg, hr1, hr2, by rw [<- hr3, hcs]; simpa using hsz, ?_⟩
     show (kk k n ++ kk k m ++ _).take _ = _
     rw [<- kk_add]
     by_cases hle : r <= n + m
     ·exact kk_take k hle _
     ·obtain ⟨d, rfl⟩ : ∃ d, r = n + m + d := ⟨r - (n + m), by omega⟩
      have e3 : (cur.toList.drop ((n + m) * 3)).take (d * 3) = kk k d := by
       have h5 := congrArg (List.drop ((n + m) * 3)) hr4
       rw [List.drop_take, kk_add, <- kk_length k (n + m), List.drop_left, kk_length] at h5
       rw [show (n + m + d) * 3 - (n + m) * 3 = d * 3 by omega] at h5
       exact h5
      rw [show n * 3 + m * 3 = (n + m) * 3 by omega, kk_add k (n + m) d, <- e3, show (n + m + d) * 3 = (kk k (n + m)).length + d * 3 by rw [kk_length]; omega, List.take_append]
      simp [kk_length, List.take_of_length_le]
    ·exact .inr ⟨g', cap', cur', e, h0, (setRow_other w b g' _ e2).trans hg', hr1, hr2, hr3, hr4⟩
 ·have holds := World.ownsRow.cells hl (g := b) rfl
  have hr := run_append_grow (P := Tryz.prog) w 50 ty 53 i0 _ underT hi hz0 ⟨b, 0, none⟩ n c (kk k n) (by rw [hz1, kk_length]) holds ⟨q, 0, none⟩ m cq (kk k m) hlen hnews (by omega) (by omega) (growslice_fits (by omega) (by rw [hz2]; omega))
  have hge := grownCap_ge w (n + m) c 53
  have hcm' : grownCap w (n + m) c 53 <= maxLen := grownCap_le_maxLen w (n + m) c 53 (by unfold maxLen; omega)
  have hb2 : Below w.heap.size w (w.drew.alloc (.cells ((kk k n).toArray ++ (kk k m).toArray ++ Builtin.zeroCells (Value.agg #[.int .i64 0, .int .i64 0, .int .i64 0]).cells (grownCap w (n + m) c 53 - (n + m))) 53)) := (Below.refl _ _).drew.alloc (Nat.le_refl _) _
  refine ⟨w.heap.size, _, _, hr, ⟨kk_length _ _, .inr ⟨w.heap.size, _, _, rfl, Nat.zero_le _, heap_alloc_new w.drew _, hge, hcm', ?_, ?_⟩⟩, Mo.below hb2, .inr (Nat.le_refl _)⟩
  ·simp only [Array.size_append, List.size_toArray, size_zeroCells, kk_length]
   show n * 3 + m * 3 + (grownCap w (n + m) c 53 - (n + m)) * 3 = _
   omega
  ·simp only [Array.toList_append]
   rw [<- kk_add]
   exact kk_take k (Nat.le_refl _) _
end Go.Proofs.YtdkaoopkbhaheaaGreat
namespace Go.Proofs.YtdkaoopkbhaheaaGreat
open Go.RowKit Go.Lib
open Jor
set_option linter.unusedVariables false
set_option linter.unusedSimpArgs false
def kfill (k : Int × Int × Int) (i : Nat) (xs : List Value) : List Value := kk k i ++ xs.drop (i * 3)
theorem kfill_length (k : Int × Int × Int) {i n : Nat} {xs : List Value} (h : xs.length = n * 3) (hi : i <= n) : (kfill k i xs).length = n * 3 := by
 unfold kfill
 rw [List.length_append, kk_length, List.length_drop, h]; omega
theorem kfill_zero (k : Int × Int × Int) (xs : List Value) : kfill k 0 xs = xs := by unfold kfill; simp [kk]
theorem kfill_end (k : Int × Int × Int) {n : Nat} {xs : List Value} (h : xs.length = n * 3) : kfill k n xs = kk k n := by
 unfold kfill
 rw [List.drop_eq_nil_of_le (by omega), List.append_nil]
theorem kfill_set (k : Int × Int × Int) {i n : Nat} {xs : List Value} (h : xs.length = n * 3) (hi : i < n) : (((kfill k i xs).set (i * 3) (.int .i64 k.1)).set (i * 3 + 1) (.int .i64 k.2.1)).set (i * 3 + 2) (.int .i64 k.2.2) = kfill k (i + 1) xs := by
 have hl := kk_length k i
 obtain ⟨u, v, z, r, hr⟩ : ∃ u v z r, xs.drop (i * 3) = u :: v :: z :: r := by
  have : 3 <= (xs.drop (i * 3)).length := by rw [List.length_drop, h]; omega
  match hx : xs.drop (i * 3), this with
  | u :: v :: z :: r, _ => exact ⟨u, v, z, r, rfl⟩
 have hr2 : xs.drop ((i + 1) * 3) = r := by
  rw [show (i + 1) * 3 = i * 3 + 3 by omega, <- List.drop_drop, hr]; rfl
 unfold kfill
 rw [hr, hr2, kk_add]
 rw [List.set_append_right _ _ (by omega), List.set_append_right _ _ (by omega), List.set_append_right _ _ (by omega), hl, show i * 3 - i * 3 = 0 by omega, show i * 3 + 1 - i * 3 = 1 by omega, show i * 3 + 2 - i * 3 = 2 by omega, List.append_assoc]
 rfl
section
variable {P : Program} {ops : Array Oper} {Q : Exit -> Act -> World -> Prop} {md : Region.Mode} {S : World -> Prop} {T : List Nat}
theorem anyU_upto (I : Array Bool -> Act -> World -> Prop) (fin : Array Bool -> Bool)
  (hstep : ∀ ls a w, I ls a w -> fin ls = false -> ∀ i, i ∈ Region.ready md ops ls -> wpOp P ops Q i (fun a' w' => (T.contains i = false -> S w') /\ I (ls.setIfInBounds i true) a' w') a w)
  (hsome : ∀ ls a w, I ls a w -> fin ls = false -> Region.ready md ops ls ≠ [])
  (hend : ∀ fuel ls a w, I ls a w -> fin ls = true -> todo ops.size ls <= fuel -> anyU P md ops Q S T fuel ls a w) :
  ∀ fuel ls a w, todo ops.size ls <= fuel -> I ls a w -> anyU P md ops Q S T fuel ls a w := by
 intro fuel
 have mem : ∀ ls i, i ∈ Region.ready md ops ls -> i < ops.size /\ ls.getD i true = false := by
  intro ls i hi
  unfold Region.ready at hi
  rw [List.mem_filter, List.mem_range, Bool.and_eq_true, Bool.not_eq_true'] at hi
  exact ⟨hi.1, hi.2.1⟩
 induction fuel with
 | zero =>
  intro ls a w hm hI
  cases hf : fin ls with
  | true => exact hend 0 ls a w hI hf hm
  | false =>
   exfalso
   have hn := hsome ls a w hI hf
   cases h : Region.ready md ops ls with
   | nil => exact hn h
   | cons x xs =>
    obtain ⟨h1, h2⟩ := mem ls x (by rw [h]; exact List.mem_cons_self ..)
    have := todo_less h1 h2
    omega
 | succ fuel ih =>
  intro ls a w hm hI
  cases hf : fin ls with
  | true => exact hend (fuel + 1) ls a w hI hf hm
  | false =>
   refine ⟨fun h => absurd h (hsome ls a w hI hf), fun i hi => ?_⟩
   obtain ⟨h1, h2⟩ := mem ls i hi
   have := todo_less h1 h2
   exact wpOp_mono (fun a' w' h' => ⟨h'.1, ih _ a' w' (by omega) h'.2⟩) (hstep ls a w hI hf i hi)
end
theorem wp_krow {o : Oper} {a : Act} {K : Act -> World -> Prop} {Q : Exit -> Act -> World -> Prop} {w : World} {b n m c q cq : Nat} {k : Int × Int × Int} (s x : Operand)
  (ho : o.op = .call { callee := .builtin .append, args := #[s, x], argTypes := #[50, 50] }) (hs : a.eval s = .slice (some ⟨b, 0, none⟩) n c) (hx : a.eval x = .slice (some ⟨q, 0, none⟩) m cq)
  (hl : KR w k (.slice (some ⟨b, 0, none⟩) n c) n) (hm : 0 < m) (hb : n + m <= 1073741824) (hq : w.heap[q]? = some (.cells (kk k m).toArray 53 (0, 0)))
  (h : ∀ g cap w', KR w' k (.slice (some ⟨g, 0, none⟩) (n + m) cap) (n + m) -> Mo b k w w' -> (g = b \/ w.heap.size <= g) -> K (a.put o.dst (.slice (some ⟨g, 0, none⟩) (n + m) cap)) w') : o.wp Tryz.prog a w K Q := by
 obtain ⟨g, cap, w', hr, h1, h2, h3⟩ := krow_append (cq := cq) o.type hl hm hb hq
 unfold Oper.wp execOp
 simp only [ho, resolve, invoke, builtin, Sem.run_bind, Sem.run_pure, Result.andThen_ok, List.map_toArray, List.map_cons, List.map_nil, hs, hx, hr]
 exact h g cap w' h1 h2 h3
def Ap (W w' : World) (k : Int × Int × Int) (n m b : Nat) (u : Value) : Prop := ∃ g cap, u = .slice (some ⟨g, 0, none⟩) (n + m) cap /\ KR w' k u (n + m) /\ (g = b \/ W.heap.size <= g)
def Bu (W w' : World) (k : Int × Int × Int) (m : Nat) (u : Value) : Prop := ∃ q, u = .slice (some ⟨q, 0, none⟩) m m /\ W.heap.size <= q /\ w'.heap[q]? = some (.cells (kk k m).toArray 53 (0, 0))
theorem Ap.mono {W w' w2 : World} {k : Int × Int × Int} {n m b b2 : Nat} {u : Value} (h : Ap W w' k n m b u) (g : Mo b2 k w' w2) : Ap W w2 k n m b u := by
 obtain ⟨q, cap, e, h1, h2⟩ := h
 exact ⟨q, cap, e, g.kr _ _ h1, h2⟩
theorem Bu.mono {W w' w2 : World} {k : Int × Int × Int} {m b : Nat} {u : Value} (h : Bu W w' k m u) (hb : b < W.heap.size) (g : Mo b k w' w2) : Bu W w2 k m u := by
 obtain ⟨q, e, h1, h2⟩ := h
 exact ⟨q, e, h1, (g.block q (Array.getElem?_eq_some_iff.1 h2).1 (by omega)).trans h2⟩
theorem four_slices (a b c d : Option Addr) (l1 c1 l2 c2 l3 c3 l4 c4 : Nat) : ∀ u ∈ [Value.slice a l1 c1, .slice b l2 c2, .slice c l3 c3, .slice d l4 c4], u.oneCell' = true := by
 intro u hu
 simp at hu
 rcases hu with rfl | rfl | rfl | rfl <;> rfl
structure KI (b : Nat) (k : Int × Int × Int) (W w' : World) (n : Nat) (d8 d9 d13 d14 d19 d20 : Bool) (s35 s36 s40 s41 s46 s47 : Value) : Prop where
 mo : Mo b k W w'
 a1 : d8 = true -> Bu W w' k 1 s35
 a2 : d9 = true -> Ap W w' k n 1 b s36
 b1 : d13 = true -> Bu W w' k 2 s40
 b2 : d14 = true -> Ap W w' k n 2 b s41
 c1 : d19 = true -> Bu W w' k 3 s46
 c2 : d20 = true -> Ap W w' k n 3 b s47
theorem KI.mono {b : Nat} {k : Int × Int × Int} {W w' w2 : World} {n : Nat} {d8 d9 d13 d14 d19 d20 : Bool} {s35 s36 s40 s41 s46 s47 : Value} (h : KI b k W w' n d8 d9 d13 d14 d19 d20 s35 s36 s40 s41 s46 s47) (hb : b < W.heap.size) (g : Mo b k w' w2) : KI b k W w2 n d8 d9 d13 d14 d19 d20 s35 s36 s40 s41 s46 s47 :=
 ⟨h.mo.trans g, fun e => (h.a1 e).mono hb g, fun e => (h.a2 e).mono g, fun e => (h.b1 e).mono hb g, fun e => (h.b2 e).mono g, fun e => (h.c1 e).mono hb g, fun e => (h.c2 e).mono g⟩
def KeepP (w w' : World) (x b nl n B : Nat) (own : Int) (f0 f2 f3 f4 lv l : Value) (LS : List Value) : Prop := ∃ lv' u1 u2 u3,
 w'.heap[x]? = some (.cells #[f0, .int .i64 own, f2, f3, f4, lv'] 62) /\ w'.ownsRow B 50 1 lv' (nl + 4) (LS ++ [l, u1, u2, u3]) /\ (lv'.ownBlock = lv.ownBlock \/ ∃ g, lv'.ownBlock = some g /\ w.heap.size <= g) /\
 KR w' (-1 - (nl : Int), own, 0) l n /\ Ap w w' (-1 - (nl : Int), own, 0) n 1 b u1 /\ Ap w w' (-1 - (nl : Int), own, 0) n 2 b u2 /\ Ap w w' (-1 - (nl : Int), own, 0) n 3 b u3 /\
 w'.os = w.os /\ w'.tape = w.tape /\ w'.output = w.output /\ w.heap.size <= w'.heap.size /\ ∀ q, q < w.heap.size -> q ≠ x -> q ≠ b -> some q ≠ lv.ownBlock -> w'.heap[q]? = w.heap[q]?
theorem KR.grow {w1 w2 : World} {k : Int × Int × Int} {u lv : Value} {r B nl : Nat} {LS : List Value} (h : KR w1 k u r) (hL : w1.ownsRow B 50 1 lv nl LS) (hg : w1.grownBy w2 lv.ownBlock) : KR w2 k u r := by
 cases hu : u.ownBlock with
 | none => exact World.ownsRow.kept h hg (.inl hu)
 | some q => exact World.ownsRow.kept h hg (.inr fun e => rows_ne hL h (by decide) (q := q) (by rw [<- e, hu]) hu)
theorem KR.put {w1 : World} {k : Int × Int × Int} {u v : Value} {r x : Nat} {cs : Array Value} (h : KR w1 k u r) (hx : w1.heap[x]? = some (.cells cs 62)) (j : Nat) : KR (w1.setCell ⟨x, j, none⟩ v) k u r := by
 cases hu : u.ownBlock with
 | none => exact World.ownsRow.kept h (grown_set w1 x j v) (.inl hu)
 | some q =>
  refine World.ownsRow.kept h (grown_set w1 x j v) (.inr fun e => ?_)
  have e2 : q = x := by rw [hu] at e; cases e; rfl
  subst e2
  rcases h.2 with ⟨h, _⟩ | ⟨g, c, cur, h, _, h2, _⟩
  ·rw [h] at hu; cases hu
  ·rw [h] at hu; cases hu; rw [hx] at h2; cases h2
theorem keep_end {w WK wr w' w2 : World} {x b nl n B g cp : Nat} {own : Int} {f0 f2 f3 f4 lv l u1 u2 u3 : Value} {LS : List Value} {o : Obj} (xl : x < w.heap.size) (bl : b < w.heap.size) (hxb : x ≠ b)
  (HLB : ∀ g, lv.ownBlock = some g -> g ≠ b /\ g ≠ x /\ g < w.heap.size) (HX : w.heap[x]? = some (.cells #[f0, .int .i64 own, f2, f3, f4, lv] 62)) (bK : Below w.heap.size w WK) (hgr : WK.grownBy wr (some b)) (mo : Mo b (-1 - (nl : Int), own, 0) wr w')
  (kl : KR w' (-1 - (nl : Int), own, 0) l n) (a1 : Ap wr w' (-1 - (nl : Int), own, 0) n 1 b u1) (a2 : Ap wr w' (-1 - (nl : Int), own, 0) n 2 b u2) (a3 : Ap wr w' (-1 - (nl : Int), own, 0) n 3 b u3)
  (hL : (w'.alloc o).ownsRow B 50 1 lv nl LS) (hgrow : (w'.alloc o).grownBy w2 lv.ownBlock) (hown : w2.ownsRow B 50 1 (.slice (some ⟨g, 0, none⟩) (nl + 4) cp) (nl + 4) (LS ++ [l, u1, u2, u3])) (hat : lv.ownBlock = some g \/ g = (w'.alloc o).heap.size) :
  KeepP w (w2.setCell ⟨x, 5, none⟩ (.slice (some ⟨g, 0, none⟩) (nl + 4) cp)) x b nl n B own f0 f2 f3 f4 lv l LS := by
 have s1 := bK.size
 have s2 := hgr.size
 have s3 := mo.size
 have s4 : w'.heap.size <= w2.heap.size := by have := hgrow.size; simp at this; omega
 have kept : ∀ q, q < w.heap.size -> q ≠ b -> some q ≠ lv.ownBlock -> w2.heap[q]? = w.heap[q]? := fun q hq h1 h2 => by
  rw [hgrow.block q (by simp; omega) h2, Below.heap_alloc _ _ _ (by omega), mo.block q (by omega) h1, hgr.block q (by omega) (fun e => h1 (by cases e; rfl)), bK.block q hq]
 have hx2 : w2.heap[x]? = some (.cells #[f0, .int .i64 own, f2, f3, f4, lv] 62) := (kept x xl hxb (fun e => (HLB x e.symm).2.1 rfl)).trans HX
 have all : ∀ {u : Value} {r : Nat}, KR w' (-1 - (nl : Int), own, 0) u r -> KR (w2.setCell ⟨x, 5, none⟩ (.slice (some ⟨g, 0, none⟩) (nl + 4) cp)) (-1 - (nl : Int), own, 0) u r := fun h =>
  ((KR.kept h (fun q hq => Below.heap_alloc w' o q hq)).grow hL hgrow).put hx2 5
 have app : ∀ {m : Nat} {u : Value}, Ap wr w' (-1 - (nl : Int), own, 0) n m b u -> Ap w (w2.setCell ⟨x, 5, none⟩ (.slice (some ⟨g, 0, none⟩) (nl + 4) cp)) (-1 - (nl : Int), own, 0) n m b u := fun ⟨q, cap, e, h1, h2⟩ => ⟨q, cap, e, all h1, by omega⟩
 have gx : g ≠ x := by
  rcases hat with h | h
  ·exact (HLB g h).2.1
  ·simp at h; omega
 refine ⟨_, u1, u2, u3, ?_, hown.kept (grown_set w2 x 5 _) (.inr fun e => gx (by simpa [Value.ownBlock] using e)), ?_, all kl, app a1, app a2, app a3, ?_, ?_, ?_, ?_, ?_⟩
 ·rw [heap_setCell_same w2 x 5 _ _ _ hx2]; rfl
 ·rcases hat with h | h
  ·exact .inl (by rw [h]; rfl)
  ·exact .inr ⟨g, rfl, by simp at h; omega⟩
 ·exact hgrow.os.trans (mo.os.trans (hgr.os.trans bK.os))
 ·exact hgrow.tape.trans (mo.tape.trans (hgr.tape.trans bK.tape))
 ·exact hgrow.output.trans (mo.output.trans (hgr.output.trans bK.output))
 ·simp; omega
 ·intro q hq h1 h2 h3
  rw [Below.heap_setCell _ _ _ q h1]
  exact kept q hq h2 h3
set_option maxRecDepth 100000 in
theorem keep_any (x b n c nl B : Nat) (own : Int) (f0 f2 f3 f4 lv : Value) (LS XS : List Value) (w : World) (hn0 : 0 < n) (hn : n <= 1048576) (hnl : nl <= 1073741824)
  (hx : w.heap[x]? = some (.cells #[f0, .int .i64 own, f2, f3, f4, lv] 62)) (hL : w.ownsRow B 50 1 lv nl LS) (hXS : w.ownsRow 0 53 3 (.slice (some ⟨b, 0, none⟩) n c) n XS) (hB : B <= w.heap.size) :
  Calls Tryz.prog 22 #[.pointer (some ⟨x, 0, none⟩), .slice (some ⟨b, 0, none⟩) n c] w fun e w' => e = .returned (.tuple #[]) /\ KeepP w w' x b nl n B own f0 f2 f3 f4 lv (.slice (some ⟨b, 0, none⟩) n c) LS := by
 obtain ⟨la, lc, rfl⟩ : ∃ a c, lv = .slice a nl c := by
  rcases hL.2 with ⟨h, h2⟩ | ⟨g, c, cur, h, _⟩
  ·subst h2; exact ⟨_, _, h⟩
  ·exact ⟨_, _, h⟩
 have x1 : w.cell? ⟨x, 1, none⟩ = some (.int .i64 own) := by simp [World.cell?, hx]
 have x5 : w.cell? ⟨x, 5, none⟩ = some (.slice la nl lc) := by simp [World.cell?, hx]
 have bl := (hXS.lt b rfl).2
 have xl : x < w.heap.size := (Array.getElem?_eq_some_iff.1 hx).1
 have hxb : x ≠ b := fun e => by
  subst e
  rcases hXS.2 with ⟨h, _⟩ | ⟨g, c, cur, h, _, h2, _⟩
  ·cases h
  ·cases h; rw [hx] at h2; cases h2
 have HLB : Hid (∀ g, (Value.slice la nl lc).ownBlock = some g -> g ≠ b /\ g ≠ x /\ g < w.heap.size) := fun g hg => by
  refine ⟨fun e => rows_ne hL hXS (by decide) (q := b) (by rw [hg, e]) rfl, fun e => ?_, (hL.lt g hg).2⟩
  subst e
  rcases hL.2 with ⟨h, _⟩ | ⟨g', c, cur, h, _, h2, _⟩
  ·rw [h] at hg; cases hg
  ·rw [h] at hg; cases hg; rw [hx] at h2; cases h2
 have HX : Hid (w.heap[x]? = some (.cells #[f0, .int .i64 own, f2, f3, f4, .slice la nl lc] 62)) := hx
 have HL : Hid (w.ownsRow B 50 1 (.slice la nl lc) nl LS) := hL
 have HXS : Hid (w.ownsRow 0 53 3 (.slice (some ⟨b, 0, none⟩) n c) n XS) := hXS
 have HXL : Hid (XS.length = n * 3) := hXS.1
 clear hx hL hXS
 go_enter Tryz.func22, Tryz.ntmps22
 go_upto_region 0 with fail
 refine wp_region_U (fun w' => w'.cell? ⟨x, 1, none⟩ = some (.int .i64 own) /\ w'.cell? ⟨x, 5, none⟩ = some (.slice la nl lc)) [] (by kernel_rfl) ?_
 intro hs0
 refine anyU_take (i := 0) (v := .pointer (some ⟨x, 0, none⟩)) (f := 13) rfl (by kernel_rfl) (by kernel_rfl) (by kernel_rfl) (by kernel_rfl) (fun _ _ _ h => h) hs0 ⟨x1, x5⟩ ⟨by rfl, ?y0⟩ ?r0
 case y0 => intro w' hw'; obtain ⟨z0, z1⟩ := hw'; go_simp
 case r0 =>
 intro hs1
 simp only [Act.put, zA, zB, zC, zD, zE, zF]
 refine anyU_take (i := 1) (v := .pointer (some ⟨x, 0, none⟩)) (f := 13) rfl (by kernel_rfl) (by kernel_rfl) (by kernel_rfl) (by kernel_rfl) (fun _ _ _ h => h) hs1 ⟨x1, x5⟩ ⟨by rfl, ?y1⟩ ?r1
 case y1 => intro w' hw'; obtain ⟨z0, z1⟩ := hw'; go_simp
 case r1 =>
 intro hs2
 simp only [Act.put, zA, zB, zC, zD, zE, zF]
 refine anyU_take (i := 2) (v := .pointer (some ⟨x, 5, none⟩)) (f := 13) rfl (by kernel_rfl) (by kernel_rfl) (by kernel_rfl) (by kernel_rfl) (fun _ _ _ h => h) hs2 ⟨x1, x5⟩ ⟨by rfl, ?y2⟩ ?r2
 case y2 => intro w' hw'; obtain ⟨z0, z1⟩ := hw'; go_simp
 case r2 =>
 intro hs3
 simp only [Act.put, zA, zB, zC, zD, zE, zF]
 refine anyU_take (i := 3) (v := .slice la nl lc) (f := 13) rfl (by kernel_rfl) (by kernel_rfl) (by kernel_rfl) (by kernel_rfl) (fun _ _ _ h => h) hs3 ⟨x1, x5⟩ ⟨by rfl, ?y3⟩ ?r3
 case y3 => intro w' hw'; obtain ⟨z0, z1⟩ := hw'; go_simp
 case r3 =>
 intro hs4
 simp only [Act.put, zA, zB, zC, zD, zE, zF]
 refine anyU_take (i := 4) (v := .int .i64 (nl : Int)) (f := 13) rfl (by kernel_rfl) (by kernel_rfl) (by kernel_rfl) (by kernel_rfl) (fun _ _ _ h => h) hs4 ⟨x1, x5⟩ ⟨by rfl, ?y4⟩ ?r4
 case y4 => intro w' hw'; obtain ⟨z0, z1⟩ := hw'; go_simp
 case r4 =>
 intro hs5
 simp only [Act.put, zA, zB, zC, zD, zE, zF]
 refine anyU_take (i := 5) (v := .int .i64 (-1 - (nl : Int))) (f := 13) rfl (by kernel_rfl) (by kernel_rfl) (by kernel_rfl) (by kernel_rfl) (fun _ _ _ h => h) hs5 ⟨x1, x5⟩ ⟨by rfl, ?y5⟩ ?r5
 case y5 => intro w' hw'; obtain ⟨z0, z1⟩ := hw'; go_simp; try (rw [wrap_i64, wrap64_in _ (by omega) (by omega)])
 case r5 =>
 intro hs6
 simp only [Act.put, zA, zB, zC, zD, zE, zF]
 refine anyU_take (i := 6) (v := .pointer (some ⟨x, 0, none⟩)) (f := 13) rfl (by kernel_rfl) (by kernel_rfl) (by kernel_rfl) (by kernel_rfl) (fun _ _ _ h => h) hs6 ⟨x1, x5⟩ ⟨by rfl, ?y6⟩ ?r6
 case y6 => intro w' hw'; obtain ⟨z0, z1⟩ := hw'; go_simp
 case r6 =>
 intro hs7
 simp only [Act.put, zA, zB, zC, zD, zE, zF]
 refine anyU_take (i := 7) (v := .pointer (some ⟨x, 0, none⟩)) (f := 13) rfl (by kernel_rfl) (by kernel_rfl) (by kernel_rfl) (by kernel_rfl) (fun _ _ _ h => h) hs7 ⟨x1, x5⟩ ⟨by rfl, ?y7⟩ ?r7
 case y7 => intro w' hw'; obtain ⟨z0, z1⟩ := hw'; go_simp
 case r7 =>
 intro hs8
 simp only [Act.put, zA, zB, zC, zD, zE, zF]
 refine anyU_take (i := 8) (v := .pointer (some ⟨x, 1, none⟩)) (f := 13) rfl (by kernel_rfl) (by kernel_rfl) (by kernel_rfl) (by kernel_rfl) (fun _ _ _ h => h) hs8 ⟨x1, x5⟩ ⟨by rfl, ?y8⟩ ?r8
 case y8 => intro w' hw'; obtain ⟨z0, z1⟩ := hw'; go_simp
 case r8 =>
 intro hs9
 simp only [Act.put, zA, zB, zC, zD, zE, zF]
 refine anyU_take (i := 9) (v := .int .i64 own) (f := 13) rfl (by kernel_rfl) (by kernel_rfl) (by kernel_rfl) (by kernel_rfl) (fun _ _ _ h => h) hs9 ⟨x1, x5⟩ ⟨by rfl, ?y9⟩ ?r9
 case y9 => intro w' hw'; obtain ⟨z0, z1⟩ := hw'; go_simp
 case r9 =>
 intro hs10
 simp only [Act.put, zA, zB, zC, zD, zE, zF]
 refine anyU_take (i := 10) (v := .agg #[.int .i64 (-1 - (nl : Int)), .int .i64 own, .int .i64 0]) (f := 13) rfl (by kernel_rfl) (by kernel_rfl) (by kernel_rfl) (by kernel_rfl) (fun _ _ _ h => h) hs10 ⟨x1, x5⟩ ⟨by rfl, ?y10⟩ ?r10
 case y10 => intro w' hw'; obtain ⟨z0, z1⟩ := hw'; go_simp
 case r10 =>
 intro hs11
 simp only [Act.put, zA, zB, zC, zD, zE, zF]
 have xD1 : w.drew.cell? ⟨x, 1, none⟩ = some (.int .i64 own) := x1
 have xD5 : w.drew.cell? ⟨x, 5, none⟩ = some (.slice la nl lc) := x5
 have bA : Below w.heap.size w (w.alloc (.cells #[.int .i64 0, .int .i64 0, .int .i64 0] 53)).drew := ((Below.refl _ _).alloc (Nat.le_refl _) _).drew
 have yA1 := cell_later bA x1
 have yA5 := cell_later bA x5
 have BK : (w.alloc (.cells #[.int .i64 0, .int .i64 0, .int .i64 0] 53)).drew.heap[w.heap.size]? = some (.cells #[.int .i64 0, .int .i64 0, .int .i64 0] 53) := heap_alloc_new w _
 refine anyU_one (i := 11) (by kernel_rfl) ?_
 refine wpOp_run rfl (by rfl) ?_
 go_simp
 try refine ⟨⟨yA1, yA5⟩, ?_⟩
 try simp only [Act.put, zA, zB, zC, zD, zE, zF]
 generalize hWA : (w.alloc (.cells #[.int .i64 0, .int .i64 0, .int .i64 0] 53)).drew = WA at *
 have k0 : WA.cell? ⟨w.heap.size, 0, none⟩ = some (.int .i64 0) := by simp [World.cell?, BK]
 have k1 : WA.cell? ⟨w.heap.size, 1, none⟩ = some (.int .i64 0) := by simp [World.cell?, BK]
 have k2 : WA.cell? ⟨w.heap.size, 2, none⟩ = some (.int .i64 0) := by simp [World.cell?, BK]
 have q0 : WA.frozen? ⟨w.heap.size, 0, none⟩ = false := by simp [World.frozen?, BK]
 have q1 : WA.frozen? ⟨w.heap.size, 1, none⟩ = false := by simp [World.frozen?, BK]
 have q2 : WA.frozen? ⟨w.heap.size, 2, none⟩ = false := by simp [World.frozen?, BK]
 have BK3 : (((WA.setCell ⟨w.heap.size, 0, none⟩ (.int .i64 (-1 - (nl : Int)))).setCell ⟨w.heap.size, 1, none⟩ (.int .i64 own)).setCell ⟨w.heap.size, 2, none⟩ (.int .i64 0)).heap[w.heap.size]? = some (.cells #[.int .i64 (-1 - (nl : Int)), .int .i64 own, .int .i64 0] 53) := by
  have h1 := heap_setCell_same WA w.heap.size 0 _ _ (.int .i64 (-1 - (nl : Int))) BK
  have h2 := heap_setCell_same _ w.heap.size 1 _ _ (.int .i64 own) h1
  have h3 := heap_setCell_same _ w.heap.size 2 _ _ (.int .i64 0) h2
  rw [h3]; rfl
 have bK : Below w.heap.size w (((WA.setCell ⟨w.heap.size, 0, none⟩ (.int .i64 (-1 - (nl : Int)))).setCell ⟨w.heap.size, 1, none⟩ (.int .i64 own)).setCell ⟨w.heap.size, 2, none⟩ (.int .i64 0)) :=
  ⟨bA.os, bA.tape, bA.output, by have := bA.size; simpa using this, fun q hq => by rw [Below.heap_setCell _ _ _ q (Nat.ne_of_lt hq), Below.heap_setCell _ _ _ q (Nat.ne_of_lt hq), Below.heap_setCell _ _ _ q (Nat.ne_of_lt hq)]; exact bA.block q hq⟩
 have yK1 := cell_later bK x1
 have yK5 := cell_later bK x5
 refine anyU_one (i := 12) (by kernel_rfl) ?_
 refine wpOp_run rfl (by rfl) ?_
 go_simp
 try refine ⟨⟨yK1, yK5⟩, ?_⟩
 refine anyU_end (by kernel_rfl) ?_
 clear yA1 yA5 k0 k1 k2 q0 q1 q2 BK bA xD1 xD5 hs0 hs1 hs2 hs3 hs4 hs5 hs6 hs7 hs8 hs9 hs10 hs11 x1
 generalize (((WA.setCell ⟨w.heap.size, 0, none⟩ (.int .i64 (-1 - (nl : Int)))).setCell ⟨w.heap.size, 1, none⟩ (.int .i64 own)).setCell ⟨w.heap.size, 2, none⟩ (.int .i64 0)) = WK at *
 clear hWA WA
 have hszK : w.heap.size < WK.heap.size := (Array.getElem?_eq_some_iff.1 BK3).1
 go_wp2
 go_loopw [5] (fun y wq => ∃ i : Nat, i <= n /\ y = .int .i64 i /\ wq.ownsRow 0 53 3 (.slice (some ⟨b, 0, none⟩) n c) n (kfill (-1 - (nl : Int), own, 0) i XS) /\ WK.grownBy wq (some b)) (fun y _ => n - (intOf y).toNat)
 case atStart => exact ⟨0, Nat.zero_le _, rfl, by rw [kfill_zero]; exact HXS.out.kept ⟨bK.os, bK.tape, bK.output, bK.size, fun q hq _ => bK.block q hq⟩ (row := none) (.inr (by simp [Value.ownBlock])), ⟨rfl, rfl, rfl, Nat.le_refl _, fun _ _ _ => rfl⟩⟩
 case round =>
  obtain ⟨i, hi, rfl, hown, hgr⟩ := hrel
  by_cases hlt : i < n
  ·have i0 : (0 : Int) <= (i : Int) := by omega
   have il : (i : Int) < (n : Int) := by omega
   have hkl := kfill_length (-1 - (nl : Int), own, 0) HXL.out (Nat.le_of_lt hlt)
   have BKr : wr.heap[w.heap.size]? = some (.cells #[.int .i64 (-1 - (nl : Int)), .int .i64 own, .int .i64 0] 53) := (hgr.block _ hszK (by simp; omega)).trans BK3
   have k0 : wr.cell? ⟨w.heap.size, 0, none⟩ = some (.int .i64 (-1 - (nl : Int))) := by simp [World.cell?, BKr]
   have k1 : wr.cell? ⟨w.heap.size, 1, none⟩ = some (.int .i64 own) := by simp [World.cell?, BKr]
   have k2 : wr.cell? ⟨w.heap.size, 2, none⟩ = some (.int .i64 0) := by simp [World.cell?, BKr]
   obtain ⟨v0, e0⟩ : ∃ v, wr.cell? ⟨b, i * 3, none⟩ = some v := ⟨_, (hown.cellAt (i * 3) (by omega)).trans (List.getElem?_eq_getElem (by omega))⟩
   obtain ⟨v1, e1⟩ : ∃ v, wr.cell? ⟨b, i * 3 + 1, none⟩ = some v := ⟨_, (hown.cellAt (i * 3 + 1) (by omega)).trans (List.getElem?_eq_getElem (by omega))⟩
   obtain ⟨v2, e2⟩ : ∃ v, wr.cell? ⟨b, i * 3 + 2, none⟩ = some v := ⟨_, (hown.cellAt (i * 3 + 2) (by omega)).trans (List.getElem?_eq_getElem (by omega))⟩
   have g0 := hown.frozenAt (i * 3)
   have g1 := hown.frozenAt (i * 3 + 1)
   have g2 := hown.frozenAt (i * 3 + 2)
   obtain ⟨o1, s1⟩ := hown.stored (i * 3) (.int .i64 (-1 - (nl : Int)))
   obtain ⟨o2, s2⟩ := o1.stored (i * 3 + 1) (.int .i64 own)
   obtain ⟨o3, s3⟩ := o2.stored (i * 3 + 2) (.int .i64 0)
   have hset := kfill_set (-1 - (nl : Int), own, 0) HXL.out hlt
   simp only at hset
   rw [hset] at o3
   have gr3 : WK.grownBy (((wr.setCell ⟨b, i * 3, none⟩ (.int .i64 (-1 - (nl : Int)))).setCell ⟨b, i * 3 + 1, none⟩ (.int .i64 own)).setCell ⟨b, i * 3 + 2, none⟩ (.int .i64 0)) (some b) := ⟨hgr.os, hgr.tape, hgr.output, by have := hgr.size; simpa using this, fun q hq hne => (((s3.block q (by have := hgr.size; simp; omega) hne).trans (s2.block q (by have := hgr.size; simp; omega) hne)).trans (s1.block q (by have := hgr.size; omega) hne)).trans (hgr.block q hq hne)⟩
   have HO3 : Hid ((((wr.setCell ⟨b, i * 3, none⟩ (.int .i64 (-1 - (nl : Int)))).setCell ⟨b, i * 3 + 1, none⟩ (.int .i64 own)).setCell ⟨b, i * 3 + 2, none⟩ (.int .i64 0)).ownsRow 0 53 3 (.slice (some ⟨b, 0, none⟩) n c) n (kfill (-1 - (nl : Int), own, 0) (i + 1) XS)) := o3
   clear o1 o2 o3 s1 s2 s3 hset hkl hown
   go_wp2
   go_roundw
   case rel => exact ⟨i + 1, by omega, by go_num, HO3.out, gr3⟩
   case measure => simp [intOf]; omega
  ·have hin : i = n := by omega
   subst hin
   rw [kfill_end _ HXL.out] at hown
   have KL : Hid (KR wr (-1 - (nl : Int), own, 0) (.slice (some ⟨b, 0, none⟩) i c) i) := hown
   have BKr : wr.heap[w.heap.size]? = some (.cells #[.int .i64 (-1 - (nl : Int)), .int .i64 own, .int .i64 0] 53) := (hgr.block _ hszK (by simp; omega)).trans BK3
   clear hown
   have hgr' : Hid (WK.grownBy wr (some b)) := hgr
   have KX : Hid (wr.heap[x]? = some (.cells #[f0, .int .i64 own, f2, f3, f4, .slice la nl lc] 62)) := ((hgr.block x (by omega) (by simp; omega)).trans (bK.block x xl)).trans HX.out
   have SH : Hid (∀ w', Mo b (-1 - (nl : Int), own, 0) wr w' -> w'.cell? ⟨x, 5, none⟩ = some (.slice la nl lc) /\ w'.cell? ⟨w.heap.size, 0, none⟩ = some (.int .i64 (-1 - (nl : Int))) /\ w'.cell? ⟨w.heap.size, 1, none⟩ = some (.int .i64 own) /\ w'.cell? ⟨w.heap.size, 2, none⟩ = some (.int .i64 0)) := fun w' m => by
    have hs := hgr'.out.size
    have e1 := (m.block x (by omega) hxb).trans KX.out
    have e2 := (m.block w.heap.size (by omega) (by omega)).trans BKr
    exact ⟨by simp [World.cell?, e1], by simp [World.cell?, e2], by simp [World.cell?, e2], by simp [World.cell?, e2]⟩
   obtain ⟨SD0, SD1, SD2, SD3⟩ := SH.out wr.drew (Mo.below (Below.refl _ _).drew)
   obtain ⟨j0, hj0, hy0, hy1, hy2⟩ := info_parts infoTT
   have hA2 : Hid (nl + 4 <= maxLen) := by show _ <= _; unfold maxLen; omega
   clear yK1 yK5 x5 hgr BKr
   go_wp2
   refine wp_region_U (fun w' => w'.cell? ⟨x, 5, none⟩ = some (.slice la nl lc) /\ w'.cell? ⟨w.heap.size, 0, none⟩ = some (.int .i64 (-1 - (nl : Int))) /\ w'.cell? ⟨w.heap.size, 1, none⟩ = some (.int .i64 own) /\ w'.cell? ⟨w.heap.size, 2, none⟩ = some (.int .i64 0)) [25] (by kernel_rfl) ?_
   intro hs0
   refine anyU_take (i := 0) (v := .pointer (some ⟨x, 0, none⟩)) (f := 27) rfl (by kernel_rfl) (by kernel_rfl) (by kernel_rfl) (by kernel_rfl) (fun _ _ _ h => h) hs0 ⟨SD0, SD1, SD2, SD3⟩ ⟨by rfl, ?y0⟩ ?r0
   case y0 => intro w' hw'; obtain ⟨z0, z1, z2, z3⟩ := hw'; go_simp
   case r0 =>
   intro hs1
   simp only [Act.put, zA, zB, zC, zD, zE, zF]
   refine anyU_take (i := 1) (v := .pointer (some ⟨x, 0, none⟩)) (f := 27) rfl (by kernel_rfl) (by kernel_rfl) (by kernel_rfl) (by kernel_rfl) (fun _ _ _ h => h) hs1 ⟨SD0, SD1, SD2, SD3⟩ ⟨by rfl, ?y1⟩ ?r1
   case y1 => intro w' hw'; obtain ⟨z0, z1, z2, z3⟩ := hw'; go_simp
   case r1 =>
   intro hs2
   simp only [Act.put, zA, zB, zC, zD, zE, zF]
   refine anyU_take (i := 2) (v := .pointer (some ⟨x, 0, none⟩)) (f := 27) rfl (by kernel_rfl) (by kernel_rfl) (by kernel_rfl) (by kernel_rfl) (fun _ _ _ h => h) hs2 ⟨SD0, SD1, SD2, SD3⟩ ⟨by rfl, ?y2⟩ ?r2
   case y2 => intro w' hw'; obtain ⟨z0, z1, z2, z3⟩ := hw'; go_simp
   case r2 =>
   intro hs3
   simp only [Act.put, zA, zB, zC, zD, zE, zF]
   refine anyU_take (i := 3) (v := .pointer (some ⟨x, 5, none⟩)) (f := 27) rfl (by kernel_rfl) (by kernel_rfl) (by kernel_rfl) (by kernel_rfl) (fun _ _ _ h => h) hs3 ⟨SD0, SD1, SD2, SD3⟩ ⟨by rfl, ?y3⟩ ?r3
   case y3 => intro w' hw'; obtain ⟨z0, z1, z2, z3⟩ := hw'; go_simp
   case r3 =>
   intro hs4
   simp only [Act.put, zA, zB, zC, zD, zE, zF]
   refine anyU_take (i := 4) (v := .slice la nl lc) (f := 27) rfl (by kernel_rfl) (by kernel_rfl) (by kernel_rfl) (by kernel_rfl) (fun _ _ _ h => h) hs4 ⟨SD0, SD1, SD2, SD3⟩ ⟨by rfl, ?y4⟩ ?r4
   case y4 => intro w' hw'; obtain ⟨z0, z1, z2, z3⟩ := hw'; go_simp
   case r4 =>
   intro hs5
   simp only [Act.put, zA, zB, zC, zD, zE, zF]
   refine anyU_take (i := 5) (v := .slice (some ⟨b, 0, none⟩) i c) (f := 27) rfl (by kernel_rfl) (by kernel_rfl) (by kernel_rfl) (by kernel_rfl) (fun _ _ _ h => h) hs5 ⟨SD0, SD1, SD2, SD3⟩ ⟨by rfl, ?y5⟩ ?r5
   case y5 => intro w' hw'; obtain ⟨z0, z1, z2, z3⟩ := hw'; go_simp
   case r5 =>
   intro hs6
   simp only [Act.put, zA, zB, zC, zD, zE, zF]
   refine anyU_take (i := 6) (v := .slice (some ⟨b, 0, none⟩) i c) (f := 27) rfl (by kernel_rfl) (by kernel_rfl) (by kernel_rfl) (by kernel_rfl) (fun _ _ _ h => h) hs6 ⟨SD0, SD1, SD2, SD3⟩ ⟨by rfl, ?y6⟩ ?r6
   case y6 => intro w' hw'; obtain ⟨z0, z1, z2, z3⟩ := hw'; go_simp
   case r6 =>
   intro hs7
   simp only [Act.put, zA, zB, zC, zD, zE, zF]
   refine anyU_take (i := 7) (v := .agg #[.int .i64 (-1 - (nl : Int)), .int .i64 own, .int .i64 0]) (f := 27) rfl (by kernel_rfl) (by kernel_rfl) (by kernel_rfl) (by kernel_rfl) (fun _ _ _ h => h) hs7 ⟨SD0, SD1, SD2, SD3⟩ ⟨by rfl, ?y7⟩ ?r7
   case y7 => intro w' hw'; obtain ⟨z0, z1, z2, z3⟩ := hw'; go_simp
   case r7 =>
   intro hs8
   simp only [Act.put, zA, zB, zC, zD, zE, zF]
   refine anyU_take (i := 10) (v := .slice (some ⟨b, 0, none⟩) i c) (f := 27) rfl (by kernel_rfl) (by kernel_rfl) (by kernel_rfl) (by kernel_rfl) (fun _ _ _ h => h) hs8 ⟨SD0, SD1, SD2, SD3⟩ ⟨by rfl, ?y10⟩ ?r10
   case y10 => intro w' hw'; obtain ⟨z0, z1, z2, z3⟩ := hw'; go_simp
   case r10 =>
   intro hs9
   simp only [Act.put, zA, zB, zC, zD, zE, zF]
   refine anyU_take (i := 11) (v := .agg #[.int .i64 (-1 - (nl : Int)), .int .i64 own, .int .i64 0]) (f := 27) rfl (by kernel_rfl) (by kernel_rfl) (by kernel_rfl) (by kernel_rfl) (fun _ _ _ h => h) hs9 ⟨SD0, SD1, SD2, SD3⟩ ⟨by rfl, ?y11⟩ ?r11
   case y11 => intro w' hw'; obtain ⟨z0, z1, z2, z3⟩ := hw'; go_simp
   case r11 =>
   intro hs10
   simp only [Act.put, zA, zB, zC, zD, zE, zF]
   refine anyU_take (i := 12) (v := .agg #[.int .i64 (-1 - (nl : Int)), .int .i64 own, .int .i64 0]) (f := 27) rfl (by kernel_rfl) (by kernel_rfl) (by kernel_rfl) (by kernel_rfl) (fun _ _ _ h => h) hs10 ⟨SD0, SD1, SD2, SD3⟩ ⟨by rfl, ?y12⟩ ?r12
   case y12 => intro w' hw'; obtain ⟨z0, z1, z2, z3⟩ := hw'; go_simp
   case r12 =>
   intro hs11
   simp only [Act.put, zA, zB, zC, zD, zE, zF]
   refine anyU_take (i := 15) (v := .slice (some ⟨b, 0, none⟩) i c) (f := 27) rfl (by kernel_rfl) (by kernel_rfl) (by kernel_rfl) (by kernel_rfl) (fun _ _ _ h => h) hs11 ⟨SD0, SD1, SD2, SD3⟩ ⟨by rfl, ?y15⟩ ?r15
   case y15 => intro w' hw'; obtain ⟨z0, z1, z2, z3⟩ := hw'; go_simp
   case r15 =>
   intro hs12
   simp only [Act.put, zA, zB, zC, zD, zE, zF]
   refine anyU_take (i := 16) (v := .agg #[.int .i64 (-1 - (nl : Int)), .int .i64 own, .int .i64 0]) (f := 27) rfl (by kernel_rfl) (by kernel_rfl) (by kernel_rfl) (by kernel_rfl) (fun _ _ _ h => h) hs12 ⟨SD0, SD1, SD2, SD3⟩ ⟨by rfl, ?y16⟩ ?r16
   case y16 => intro w' hw'; obtain ⟨z0, z1, z2, z3⟩ := hw'; go_simp
   case r16 =>
   intro hs13
   simp only [Act.put, zA, zB, zC, zD, zE, zF]
   refine anyU_take (i := 17) (v := .agg #[.int .i64 (-1 - (nl : Int)), .int .i64 own, .int .i64 0]) (f := 27) rfl (by kernel_rfl) (by kernel_rfl) (by kernel_rfl) (by kernel_rfl) (fun _ _ _ h => h) hs13 ⟨SD0, SD1, SD2, SD3⟩ ⟨by rfl, ?y17⟩ ?r17
   case y17 => intro w' hw'; obtain ⟨z0, z1, z2, z3⟩ := hw'; go_simp
   case r17 =>
   intro hs14
   simp only [Act.put, zA, zB, zC, zD, zE, zF]
   refine anyU_take (i := 18) (v := .agg #[.int .i64 (-1 - (nl : Int)), .int .i64 own, .int .i64 0]) (f := 27) rfl (by kernel_rfl) (by kernel_rfl) (by kernel_rfl) (by kernel_rfl) (fun _ _ _ h => h) hs14 ⟨SD0, SD1, SD2, SD3⟩ ⟨by rfl, ?y18⟩ ?r18
   case y18 => intro w' hw'; obtain ⟨z0, z1, z2, z3⟩ := hw'; go_simp
   case r18 =>
   intro hs15
   simp only [Act.put, zA, zB, zC, zD, zE, zF]
   refine anyU_upto (fun ls a w' => ∃ d8 d9 d13 d14 d19 d20 s35 s36 s40 s41 s46 s47, ls = #[true, true, true, true, true, true, true, true, d8, d9, true, true, true, d13, d14, true, true, true, true, d19, d20, false, false, false, false, false] /\ a = { tmps := #[.pointer (some ⟨x, 0, none⟩), .slice (some ⟨b, 0, none⟩) i c, undef, undef, .pointer (some ⟨w.heap.size, 0, none⟩), .int .i64 (i : Int), .pointer (some ⟨x, 0, none⟩), .pointer (some ⟨x, 0, none⟩), .pointer (some ⟨x, 5, none⟩), .slice la nl lc, .int .i64 (nl : Int), .int .i64 (-1 - (nl : Int)), .pointer (some ⟨x, 0, none⟩), .pointer (some ⟨x, 0, none⟩), .pointer (some ⟨x, 1, none⟩), .int .i64 own, .agg #[.int .i64 (-1 - (nl : Int)), .int .i64 own, .int .i64 0], .int .i64 (i : Int), .slice (some ⟨b, 0, none⟩) i c, .int .i64 (i : Int), .bool false, u21, u22, u23, u24, u25, u26, .pointer (some ⟨x, 0, none⟩), .pointer (some ⟨x, 0, none⟩), .pointer (some ⟨x, 0, none⟩), .pointer (some ⟨x, 5, none⟩), .slice la nl lc, .slice (some ⟨b, 0, none⟩) i c, .slice (some ⟨b, 0, none⟩) i c, .agg #[.int .i64 (-1 - (nl : Int)), .int .i64 own, .int .i64 0], s35, s36, .slice (some ⟨b, 0, none⟩) i c, .agg #[.int .i64 (-1 - (nl : Int)), .int .i64 own, .int .i64 0], .agg #[.int .i64 (-1 - (nl : Int)), .int .i64 own, .int .i64 0], s40, s41, .slice (some ⟨b, 0, none⟩) i c, .agg #[.int .i64 (-1 - (nl : Int)), .int .i64 own, .int .i64 0], .agg #[.int .i64 (-1 - (nl : Int)), .int .i64 own, .int .i64 0], .agg #[.int .i64 (-1 - (nl : Int)), .int .i64 own, .int .i64 0], s46, s47, undef, undef, undef, undef], defers := [] } /\ ((d9 = true -> d8 = true) /\ (d14 = true -> d13 = true) /\ (d20 = true -> d19 = true)) /\ KI b (-1 - (nl : Int), own, 0) wr w' i d8 d9 d13 d14 d19 d20 s35 s36 s40 s41 s46 s47) (fun ls => ls.getD 9 false && ls.getD 14 false && ls.getD 20 false) ?_ ?_ ?_ _ _ _ _ (by decide) ⟨false, false, false, false, false, false, undef, undef, undef, undef, undef, undef, by rfl, by rfl, ⟨fun h => (by cases h), fun h => (by cases h), fun h => (by cases h)⟩, ⟨Mo.below (Below.refl _ _).drew, fun h => (by cases h), fun h => (by cases h), fun h => (by cases h), fun h => (by cases h), fun h => (by cases h), fun h => (by cases h)⟩⟩
   ·rintro ls a w' ⟨d8, d9, d13, d14, d19, d20, s35, s36, s40, s41, s46, s47, rfl, rfl, ⟨im1, im2, im3⟩, I⟩ hf i' hi'
    have key : (i' = 8 /\ d8 = false) \/ (i' = 9 /\ d8 = true /\ d9 = false) \/ (i' = 13 /\ d13 = false) \/ (i' = 14 /\ d13 = true /\ d14 = false) \/ (i' = 19 /\ d19 = false) \/ (i' = 20 /\ d19 = true /\ d20 = false) := by
     have k0 : ((i' == 8 && !d8) || (i' == 9 && (d8 && !d9)) || (i' == 13 && !d13) || (i' == 14 && (d13 && !d14)) || (i' == 19 && !d19) || (i' == 20 && (d19 && !d20))) = true := by
      refine (List.all_eq_true (p := fun i' => ((i' == 8 && !d8) || (i' == 9 && (d8 && !d9)) || (i' == 13 && !d13) || (i' == 14 && (d13 && !d14)) || (i' == 19 && !d19) || (i' == 20 && (d19 && !d20))))).1 ?_ i' hi'
      clear I hi' im1 im2 im3
      revert d8 d9 d13 d14 d19 d20
      decide +kernel
     simp only [Bool.or_eq_true, Bool.and_eq_true, beq_iff_eq, Bool.not_eq_true'] at k0
     rcases k0 with ((((h | h) | h) | h) | h) | h
     ·exact .inl h
     ·exact .inr (.inl ⟨h.1, h.2.1, h.2.2⟩)
     ·exact .inr (.inr (.inl h))
     ·exact .inr (.inr (.inr (.inl ⟨h.1, h.2.1, h.2.2⟩)))
     ·exact .inr (.inr (.inr (.inr (.inl h))))
     ·exact .inr (.inr (.inr (.inr (.inr ⟨h.1, h.2.1, h.2.2⟩))))
    have hlw : b < wr.heap.size := by have := hgr'.out.size; omega
    obtain ⟨z0, z1, z2, z3⟩ := SH.out w' I.mo
    clear hi' hf
    rcases key with ⟨rfl, rfl⟩ | ⟨rfl, rfl, rfl⟩ | ⟨rfl, rfl⟩ | ⟨rfl, rfl, rfl⟩ | ⟨rfl, rfl⟩ | ⟨rfl, rfl, rfl⟩
    ·have g : Mo b (-1 - (nl : Int), own, 0) w' (w'.alloc (.cells #[.int .i64 (-1 - (nl : Int)), .int .i64 own, .int .i64 0] 53)) := Mo.below ((Below.refl _ _).alloc (Nat.le_refl _) _)
     have I2 := I.mono hlw g
     have HB : Hid ((w'.alloc (.cells #[.int .i64 (-1 - (nl : Int)), .int .i64 own, .int .i64 0] 53)).heap[w'.heap.size]? = some (.cells (kk (-1 - (nl : Int), own, 0) 1).toArray 53 (0, 0))) := heap_alloc_new _ _
     have HS : Hid (wr.heap.size <= w'.heap.size) := I.mo.size
     have HZ := SH.out _ I2.mo
     refine wpOp_step rfl (fun K hK => ?_)
     go_simp
     refine hK _ _ ⟨fun _ => HZ, ?_⟩
     exact ⟨true, d9, d13, d14, d19, d20, (.slice (some ⟨w'.heap.size, 0, none⟩) 1 1), s36, s40, s41, s46, s47, rfl, rfl, ⟨fun _ => rfl, im2, im3⟩, ⟨I2.mo, fun _ => ⟨w'.heap.size, rfl, HS.out, HB.out⟩, I2.a2, I2.b1, I2.b2, I2.c1, I2.c2⟩⟩
    ·obtain ⟨q, rfl, hq1, hq2⟩ := I.a1 rfl
     refine wpOp_run rfl (by rfl) ?_
     refine wp_krow (k := (-1 - (nl : Int), own, 0)) (.tmp 33) (.tmp 35) rfl rfl rfl (I.mo.kr _ _ KL.out) (by decide) (by omega) hq2 ?_
     intro g cap w2 h1 h2 h3
     have I2 := I.mono hlw h2
     have hs := I.mo.size
     refine ⟨fun _ => SH.out _ I2.mo, ?_⟩
     exact ⟨true, true, d13, d14, d19, d20, _, _, s40, s41, s46, s47, rfl, rfl, ⟨fun _ => rfl, im2, im3⟩, ⟨I2.mo, I2.a1, fun _ => ⟨g, cap, rfl, h1, by omega⟩, I2.b1, I2.b2, I2.c1, I2.c2⟩⟩
    ·have g : Mo b (-1 - (nl : Int), own, 0) w' (w'.alloc (.cells #[.int .i64 (-1 - (nl : Int)), .int .i64 own, .int .i64 0, .int .i64 (-1 - (nl : Int)), .int .i64 own, .int .i64 0] 53)) := Mo.below ((Below.refl _ _).alloc (Nat.le_refl _) _)
     have I2 := I.mono hlw g
     have HB : Hid ((w'.alloc (.cells #[.int .i64 (-1 - (nl : Int)), .int .i64 own, .int .i64 0, .int .i64 (-1 - (nl : Int)), .int .i64 own, .int .i64 0] 53)).heap[w'.heap.size]? = some (.cells (kk (-1 - (nl : Int), own, 0) 2).toArray 53 (0, 0))) := heap_alloc_new _ _
     have HS : Hid (wr.heap.size <= w'.heap.size) := I.mo.size
     have HZ := SH.out _ I2.mo
     refine wpOp_step rfl (fun K hK => ?_)
     go_simp
     refine hK _ _ ⟨fun _ => HZ, ?_⟩
     exact ⟨d8, d9, true, d14, d19, d20, s35, s36, (.slice (some ⟨w'.heap.size, 0, none⟩) 2 2), s41, s46, s47, rfl, rfl, ⟨im1, fun _ => rfl, im3⟩, ⟨I2.mo, I2.a1, I2.a2, fun _ => ⟨w'.heap.size, rfl, HS.out, HB.out⟩, I2.b2, I2.c1, I2.c2⟩⟩
    ·obtain ⟨q, rfl, hq1, hq2⟩ := I.b1 rfl
     refine wpOp_run rfl (by rfl) ?_
     refine wp_krow (k := (-1 - (nl : Int), own, 0)) (.tmp 37) (.tmp 40) rfl rfl rfl (I.mo.kr _ _ KL.out) (by decide) (by omega) hq2 ?_
     intro g cap w2 h1 h2 h3
     have I2 := I.mono hlw h2
     have hs := I.mo.size
     refine ⟨fun _ => SH.out _ I2.mo, ?_⟩
     exact ⟨d8, d9, true, true, d19, d20, s35, s36, _, _, s46, s47, rfl, rfl, ⟨im1, fun _ => rfl, im3⟩, ⟨I2.mo, I2.a1, I2.a2, I2.b1, fun _ => ⟨g, cap, rfl, h1, by omega⟩, I2.c1, I2.c2⟩⟩
    ·have g : Mo b (-1 - (nl : Int), own, 0) w' (w'.alloc (.cells #[.int .i64 (-1 - (nl : Int)), .int .i64 own, .int .i64 0, .int .i64 (-1 - (nl : Int)), .int .i64 own, .int .i64 0, .int .i64 (-1 - (nl : Int)), .int .i64 own, .int .i64 0] 53)) := Mo.below ((Below.refl _ _).alloc (Nat.le_refl _) _)
     have I2 := I.mono hlw g
     have HB : Hid ((w'.alloc (.cells #[.int .i64 (-1 - (nl : Int)), .int .i64 own, .int .i64 0, .int .i64 (-1 - (nl : Int)), .int .i64 own, .int .i64 0, .int .i64 (-1 - (nl : Int)), .int .i64 own, .int .i64 0] 53)).heap[w'.heap.size]? = some (.cells (kk (-1 - (nl : Int), own, 0) 3).toArray 53 (0, 0))) := heap_alloc_new _ _
     have HS : Hid (wr.heap.size <= w'.heap.size) := I.mo.size
     have HZ := SH.out _ I2.mo
     refine wpOp_step rfl (fun K hK => ?_)
     go_simp
     refine hK _ _ ⟨fun _ => HZ, ?_⟩
     exact ⟨d8, d9, d13, d14, true, d20, s35, s36, s40, s41, (.slice (some ⟨w'.heap.size, 0, none⟩) 3 3), s47, rfl, rfl, ⟨im1, im2, fun _ => rfl⟩, ⟨I2.mo, I2.a1, I2.a2, I2.b1, I2.b2, fun _ => ⟨w'.heap.size, rfl, HS.out, HB.out⟩, I2.c2⟩⟩
    ·obtain ⟨q, rfl, hq1, hq2⟩ := I.c1 rfl
     refine wpOp_run rfl (by rfl) ?_
     refine wp_krow (k := (-1 - (nl : Int), own, 0)) (.tmp 42) (.tmp 46) rfl rfl rfl (I.mo.kr _ _ KL.out) (by decide) (by omega) hq2 ?_
     intro g cap w2 h1 h2 h3
     have I2 := I.mono hlw h2
     have hs := I.mo.size
     refine ⟨fun _ => SH.out _ I2.mo, ?_⟩
     exact ⟨d8, d9, d13, d14, true, true, s35, s36, s40, s41, _, _, rfl, rfl, ⟨im1, im2, fun _ => rfl⟩, ⟨I2.mo, I2.a1, I2.a2, I2.b1, I2.b2, I2.c1, fun _ => ⟨g, cap, rfl, h1, by omega⟩⟩⟩
   ·rintro ls a w' ⟨d8, d9, d13, d14, d19, d20, s35, s36, s40, s41, s46, s47, rfl, rfl, im, I⟩ hf
    clear I im
    revert hf
    revert d8 d9 d13 d14 d19 d20
    decide +kernel
   ·rintro fuel ls a w' ⟨d8, d9, d13, d14, d19, d20, s35, s36, s40, s41, s46, s47, rfl, rfl, ⟨im1, im2, im3⟩, I⟩ hf hfu
    have key : d9 = true /\ d14 = true /\ d20 = true := by
     have h0 : (d9 && d14 && d20) = true := hf
     simp only [Bool.and_eq_true] at h0
     exact ⟨h0.1.1, h0.1.2, h0.2⟩
    obtain ⟨rfl, rfl, rfl⟩ := key
    obtain rfl := im1 rfl
    obtain rfl := im2 rfl
    obtain rfl := im3 rfl
    obtain ⟨f, rfl⟩ : ∃ f, fuel = f + 5 := ⟨fuel - 5, by have : 5 <= fuel := Nat.le_trans (by decide) hfu; omega⟩
    obtain ⟨q1, e1, rfl, g1, g2⟩ := I.a2 rfl
    obtain ⟨q2, e2, rfl, g3, g4⟩ := I.b2 rfl
    obtain ⟨q3, e3, rfl, g5, g6⟩ := I.c2 rfl
    have hlv : w'.ownsRow B 50 1 (.slice la nl lc) nl LS := by
     have k1 := HL.out.kept (w' := WK) ⟨bK.os, bK.tape, bK.output, bK.size, fun q hq _ => bK.block q hq⟩ (row := none) (by cases hv : (Value.slice la nl lc).ownBlock <;> simp)
     have k2 := k1.kept hgr'.out (by
      cases hv : (Value.slice la nl lc).ownBlock with
      | none => exact .inl rfl
      | some g => exact .inr (fun e => (HLB.out g hv).1 (by cases e; rfl)))
     exact k2.kept (w' := w') (row := some b) ⟨I.mo.os, I.mo.tape, I.mo.output, I.mo.size, fun q hq hne => I.mo.block q hq (fun e => hne (by rw [e]))⟩ (by
      cases hv : (Value.slice la nl lc).ownBlock with
      | none => exact .inl rfl
      | some g => exact .inr (fun e => (HLB.out g hv).1 (by cases e; rfl)))
    have moA : Mo b (-1 - (nl : Int), own, 0) wr (w'.alloc (.cells #[(.slice (some ⟨b, 0, none⟩) i c), .slice (some ⟨q1, 0, none⟩) (i + 1) e1, .slice (some ⟨q2, 0, none⟩) (i + 2) e2, .slice (some ⟨q3, 0, none⟩) (i + 3) e3] 50)) := I.mo.trans (Mo.below ((Below.refl _ _).alloc (Nat.le_refl _) _))
    have hLA := hlv.alloc (.cells #[(.slice (some ⟨b, 0, none⟩) i c), .slice (some ⟨q1, 0, none⟩) (i + 1) e1, .slice (some ⟨q2, 0, none⟩) (i + 2) e2, .slice (some ⟨q3, 0, none⟩) (i + 3) e3] 50)
    have hblk := heap_alloc_new w' (.cells #[(.slice (some ⟨b, 0, none⟩) i c), .slice (some ⟨q1, 0, none⟩) (i + 1) e1, .slice (some ⟨q2, 0, none⟩) (i + 2) e2, .slice (some ⟨q3, 0, none⟩) (i + 3) e3] 50)
    have zA := SH.out _ moA
    have hsA : B <= (w'.alloc (.cells #[(.slice (some ⟨b, 0, none⟩) i c), .slice (some ⟨q1, 0, none⟩) (i + 1) e1, .slice (some ⟨q2, 0, none⟩) (i + 2) e2, .slice (some ⟨q3, 0, none⟩) (i + 3) e3] 50)).heap.size := by have := I.mo.size; have := hgr'.out.size; have := bK.size; simp; omega
    have HLA : Hid ((w'.alloc (.cells #[(.slice (some ⟨b, 0, none⟩) i c), .slice (some ⟨q1, 0, none⟩) (i + 1) e1, .slice (some ⟨q2, 0, none⟩) (i + 2) e2, .slice (some ⟨q3, 0, none⟩) (i + 3) e3] 50)).ownsRow B 50 1 (.slice la nl lc) nl LS) := hLA
    have HBLK : Hid ((w'.alloc (.cells #[(.slice (some ⟨b, 0, none⟩) i c), .slice (some ⟨q1, 0, none⟩) (i + 1) e1, .slice (some ⟨q2, 0, none⟩) (i + 2) e2, .slice (some ⟨q3, 0, none⟩) (i + 3) e3] 50)).heap[w'.heap.size]? = some (.cells #[(.slice (some ⟨b, 0, none⟩) i c), .slice (some ⟨q1, 0, none⟩) (i + 1) e1, .slice (some ⟨q2, 0, none⟩) (i + 2) e2, .slice (some ⟨q3, 0, none⟩) (i + 3) e3] 50)) := hblk
    have END : Hid (∀ g cp w2, (w'.alloc (.cells #[(.slice (some ⟨b, 0, none⟩) i c), .slice (some ⟨q1, 0, none⟩) (i + 1) e1, .slice (some ⟨q2, 0, none⟩) (i + 2) e2, .slice (some ⟨q3, 0, none⟩) (i + 3) e3] 50)).grownBy w2 (Value.slice la nl lc).ownBlock -> w2.ownsRow B 50 1 (.slice (some ⟨g, 0, none⟩) (nl + 4) cp) (nl + 4) (LS ++ [(.slice (some ⟨b, 0, none⟩) i c), .slice (some ⟨q1, 0, none⟩) (i + 1) e1, .slice (some ⟨q2, 0, none⟩) (i + 2) e2, .slice (some ⟨q3, 0, none⟩) (i + 3) e3]) -> ((Value.slice la nl lc).ownBlock = some g \/ g = (w'.alloc (.cells #[(.slice (some ⟨b, 0, none⟩) i c), .slice (some ⟨q1, 0, none⟩) (i + 1) e1, .slice (some ⟨q2, 0, none⟩) (i + 2) e2, .slice (some ⟨q3, 0, none⟩) (i + 3) e3] 50)).heap.size) -> KeepP w (w2.setCell ⟨x, 5, none⟩ (.slice (some ⟨g, 0, none⟩) (nl + 4) cp)) x b nl i B own f0 f2 f3 f4 (.slice la nl lc) (.slice (some ⟨b, 0, none⟩) i c) LS /\ w2.cell? ⟨x, 5, none⟩ = some (.slice la nl lc) /\ w2.frozen? ⟨x, 5, none⟩ = false /\ w2.cell? ⟨w.heap.size, 0, none⟩ = some (.int .i64 (-1 - (nl : Int))) /\ w2.cell? ⟨w.heap.size, 1, none⟩ = some (.int .i64 own) /\ w2.cell? ⟨w.heap.size, 2, none⟩ = some (.int .i64 0)) := fun g cp w2 hg ho ha => by
     have hsw := I.mo.size
     have hsr := hgr'.out.size
     have nx : some x ≠ (Value.slice la nl lc).ownBlock := fun e => (HLB.out x e.symm).2.1 rfl
     have nk : some w.heap.size ≠ (Value.slice la nl lc).ownBlock := fun e => by have := (HLB.out w.heap.size e.symm).2.2; omega
     have bx := hg.block x (by simp; omega) nx
     have bk := hg.block w.heap.size (by simp; omega) nk
     have bx2 : w2.heap[x]? = some (.cells #[f0, .int .i64 own, f2, f3, f4, .slice la nl lc] 62) := bx.trans ((moA.block x (by omega) hxb).trans KX.out)
     refine ⟨keep_end xl bl hxb HLB.out HX.out bK hgr'.out I.mo (I.mo.kr _ _ KL.out) (I.a2 rfl) (I.b2 rfl) (I.c2 rfl) HLA.out hg ho ha, by simp [World.cell?, bx2], by simp [World.frozen?, bx2], ?_, ?_, ?_⟩
     ·exact (World.cell?_of_block (a := ⟨w.heap.size, 0, none⟩) bk).trans zA.2.1
     ·exact (World.cell?_of_block (a := ⟨w.heap.size, 1, none⟩) bk).trans zA.2.2.1
     ·exact (World.cell?_of_block (a := ⟨w.heap.size, 2, none⟩) bk).trans zA.2.2.2
    clear hLA hblk hlv SD0 SD1 SD2 SD3 g1 g2 g3 g4 g5 g6 moA I HL
    refine anyU_one (i := 21) (by kernel_rfl) ?_
    refine wpOp_run rfl (by rfl) ?_
    go_simp
    try refine ⟨fun _ => zA, ?_⟩
    try refine ⟨zA, ?_⟩
    generalize hWB : (w'.alloc (.cells #[(.slice (some ⟨b, 0, none⟩) i c), .slice (some ⟨q1, 0, none⟩) (i + 1) e1, .slice (some ⟨q2, 0, none⟩) (i + 2) e2, .slice (some ⟨q3, 0, none⟩) (i + 3) e3] 50)) = WB at *
    refine anyU_one (i := 22) (by kernel_rfl) ?_
    refine wpOp_run rfl (by rfl) ?_
    refine wp_append_lies _ (.tmp 31) (.tmp 48) 60 rfl B 50 j0 _ 1 24 under_TT hj0 hy0 hy1 hy2 rfl (by decide) _ _ _ rfl HLA.out ⟨_, 0, none⟩ 4 4 _ rfl rfl (World.news_of_block HBLK.out) (four_slices _ _ _ _ _ _ _ _ _ _ _ _) (by decide) hA2.out (by omega) hsA _ rfl ?_
    intro g cp w2 hown2 hgrow2 hat2 hlt2
    obtain ⟨KP, y5, yf, y0, y1, y2⟩ := END.out g cp w2 hgrow2 hown2 hat2
    have HKP : Hid (KeepP w (w2.setCell ⟨x, 5, none⟩ (.slice (some ⟨g, 0, none⟩) (nl + 4) cp)) x b nl i B own f0 f2 f3 f4 (.slice la nl lc) (.slice (some ⟨b, 0, none⟩) i c) LS) := KP
    refine ⟨fun _ => ⟨y5, y0, y1, y2⟩, ?_⟩
    try simp only [Act.put, zA, zB, zC, zD, zE, zF]
    clear KP hgrow2 hown2 hat2 hlt2 END HLA HBLK zA
    refine anyU_one (i := 23) (by kernel_rfl) ?_
    refine wpOp_run rfl (by rfl) ?_
    go_simp
    try refine ⟨fun _ => ⟨y5, y0, y1, y2⟩, ?_⟩
    try refine ⟨⟨y5, y0, y1, y2⟩, ?_⟩
    refine anyU_one (i := 24) (by kernel_rfl) ?_
    refine wpOp_run rfl (by rfl) ?_
    go_simp
    try refine ⟨fun _ => ⟨y5, y0, y1, y2⟩, ?_⟩
    try refine ⟨⟨y5, y0, y1, y2⟩, ?_⟩
    refine anyU_one (i := 25) (by kernel_rfl) ?_
    refine wpOp_run rfl (by rfl) ?_
    go_simp
    try refine ⟨fun h => (by cases h), ?_⟩
    refine anyU_end (by kernel_rfl) ?_
    go_wp2
    go_end0
    exact ⟨rfl, HKP.out⟩
end Go.Proofs.YtdkaoopkbhaheaaGreat
