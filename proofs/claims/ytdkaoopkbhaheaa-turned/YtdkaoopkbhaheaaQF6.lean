import Derived.Test.YtdkaoopkbhaheaaQF5
import Derived.Test.YtdkaoopkbhaheaaPK1
namespace Go.Proofs.Ytdkaoopkbhaheaa
open Go.RowKit Go.Lib Go.Shelf
open Jor
set_option linter.unusedVariables false
set_option linter.unusedSimpArgs false
attribute [local go_sem] Oper.semAt_some
def Box2 (W : World) (B : Nat) (p : IP) : Prop := W.heap[B]? = some (.cells #[.int .i64 p.1, .int .i64 p.2] 25)
theorem Box2.c0 {W : World} {B : Nat} {p : IP} (h : Box2 W B p) : W.cell? ⟨B, 0, none⟩ = some (.int .i64 p.1) := by simp [World.cell?, show W.heap[B]? = _ from h]
theorem Box2.c1 {W : World} {B : Nat} {p : IP} (h : Box2 W B p) : W.cell? ⟨B, 1, none⟩ = some (.int .i64 p.2) := by simp [World.cell?, show W.heap[B]? = _ from h]
theorem Box2.lt {W : World} {B : Nat} {p : IP} (h : Box2 W B p) : B < W.heap.size := (Array.getElem?_eq_some_iff.1 h).1
theorem Box2.kept {W W' : World} {row : Option Nat} {B : Nat} {p : IP} (h : Box2 W B p) (hg : W.grownBy W' row) (hr : ∀ r, row = some r → ∃ o : Obj, W.heap[r]? = some o ∧ o.isCells = false) : Box2 W' B p := by
  refine (hg.block B h.lt (fun e => ?_)).trans h
  obtain ⟨o, ho, hc⟩ := hr B e.symm
  rw [show W.heap[B]? = _ from h] at ho
  cases ho; cases hc
theorem Box2.later {W W' : World} {B : Nat} {p : IP} (h : Box2 W B p) (hb : Below W.heap.size W W') : Box2 W' B p := (hb.block B h.lt).trans h
theorem Box2.two (W : World) (p q : IP) : Box2 ((W.alloc (.cells #[.int .i64 p.1, .int .i64 p.2] 25)).alloc (.cells #[.int .i64 q.1, .int .i64 q.2] 25)) W.heap.size p ∧ Box2 ((W.alloc (.cells #[.int .i64 p.1, .int .i64 p.2] 25)).alloc (.cells #[.int .i64 q.1, .int .i64 q.2] 25)) (W.heap.size + 1) q := by
  refine ⟨(Below.heap_alloc _ _ _ (by simp)).trans (heap_alloc_new W _), ?_⟩
  have := heap_alloc_new (W.alloc (.cells #[.int .i64 p.1, .int .i64 p.2] 25)) (.cells #[.int .i64 q.1, .int .i64 q.2] 25)
  rw [World.size_alloc] at this
  exact this
theorem ownFrom_size {β : Type} (B m : Nat) : OwnFrom B (fun (_ : β) W => m ≤ W.heap.size) := fun _ _ _ _ hs hg _ => Nat.le_trans hs hg.size
def sumS : List (IP × IP) → Int := List.foldl (fun s x => wrap64 (s + wrap64 (wrap64 (x.1.1 * x.2.2) - wrap64 (x.1.2 * x.2.1)))) 0
theorem sumS_snoc (pre : List (IP × IP)) (x : IP × IP) : sumS (pre ++ [x]) = wrap64 (sumS pre + wrap64 (wrap64 (x.1.1 * x.2.2) - wrap64 (x.1.2 * x.2.1))) := by simp [sumS]
theorem sumS_sides (r : List IP) : ∀ k, sumS (sidesTo r k) = lsum r k := by
  intro k
  induction k with
  | zero => rfl
  | succ k ih => rw [sidesTo_succ, sumS_snoc, ih]; rfl
set_option maxRecDepth 100000 in
set_option maxHeartbeats 4000000 in
theorem leftArea_any (b of cap : Nat) (r : List IP) (w : World) (hreach : r.length ≤ 1048576) (hpos : 0 < r.length)
    (hp : ∀ j, j < r.length → w.cell? ⟨b, of + j * 2, none⟩ = some (.int .i64 (pt r j).1) ∧ w.cell? ⟨b, of + j * 2 + 1, none⟩ = some (.int .i64 (pt r j).2)) :
    Calls Try.prog 84 #[.slice (some ⟨b, of, none⟩) r.length cap] w fun e w' => e = .returned (.int .i64 (lsum r r.length)) ∧ Below w.heap.size w w' := by
  have hbl : b < w.heap.size := World.block_lt_of_cell? _ _ (hp 0 hpos).1
  refine (callsIn_wide (n := 6)).1 ?_
  refine callsIn_of_wp_marks Try.func84 rfl trivial ?_ rfl
  simp only [Try.ntmps84, List.size_toArray, List.length_cons, List.length_nil, Nat.reduceAdd, Nat.reduceSub, Array.replicate_succ, Array.replicate_zero, List.push_toArray, List.append_toArray, List.nil_append, List.cons_append]
  gi_wp2_with (refine ⟨trivial, ?_⟩; gi_at_call 101; refine (sides_in Fence.wide _ trivial rfl _ _ _ _).mono ?_; rintro e w' ⟨rfl, rfl⟩)
  have bS := (Boxed.new w 3 (.int .i64 0)).alloc (.cells #[.slice (some ⟨b, of, none⟩) r.length cap] 50)
  have bR := Boxed.new (w.alloc (.cells #[.int .i64 0] 3)) 50 (.slice (some ⟨b, of, none⟩) r.length cap)
  simp only [World.size_alloc] at bR
  have hB0 : Below w.heap.size w ((w.alloc (.cells #[.int .i64 0] 3)).alloc (.cells #[.slice (some ⟨b, of, none⟩) r.length cap] 50)) := ((Below.refl _ w).alloc (Nat.le_refl _) _).alloc (by simp) _
  have hsz : ((w.alloc (.cells #[.int .i64 0] 3)).alloc (.cells #[.slice (some ⟨b, of, none⟩) r.length cap] 50)).heap.size = w.heap.size + 2 := by simp
  obtain ⟨W0, hW0⟩ : ∃ W0, (w.alloc (.cells #[.int .i64 0] 3)).alloc (.cells #[.slice (some ⟨b, of, none⟩) r.length cap] 50) = W0 := ⟨_, rfl⟩
  rw [hW0] at bS bR hB0 hsz ⊢
  clear hW0
  refine wpIn_rangeFunc_ownH rfl (by omega) (gf := 111) (lb := #[.pointer (some ⟨w.heap.size + 1, 0, none⟩)]) rfl trivial (enters_of Try.func111 (by kernel_rfl) rfl)
    (sides_stops Fence.wide 5 trivial rfl (by omega) (w.heap.size + 1) (w.heap.size + 2) b of cap r hreach W0 w.heap.size (by omega) (by omega) (by omega) (by omega) (by omega) bR.cell (fun j hj => ⟨cell_later hB0 (hp j hj).1, cell_later hB0 (hp j hj).2⟩))
    KeptBut.trans (keptBut_b (by omega)) (Below.refl _ _) (fun _ => rfl)
    (fun pre W => (Boxed W w.heap.size 3 (.int .i64 (sumS pre)) ∧ w.heap.size + 2 ≤ W.heap.size) ∧ Below w.heap.size w W)
    (fun _ _ _ => False)
    (OwnFrom.and (OwnFrom.and (Own.from (boxed_own _ _ _) _) (ownFrom_size _ _)) (ownFrom_below (Nat.le_refl _) (by omega)))
    (fun _ _ _ _ _ hs _ _ => hs)
    ⟨⟨bS, by omega⟩, hB0⟩
    (fun x a' W => ∃ Ba Bb, w.heap.size < Ba ∧ w.heap.size < Bb ∧ Box2 W Ba x.1 ∧ Box2 W Bb x.2 ∧ a' = { tmps := #[.slice (some ⟨b, of, none⟩) r.length cap, undef, .int .i64 0, .pointer (some ⟨w.heap.size, 0, none⟩), .pointer (some ⟨Ba, 0, none⟩), .pointer (some ⟨Bb, 0, none⟩), .slice (some ⟨b, of, none⟩) r.length cap, .func (.func 111) #[] #[.pointer (some ⟨w.heap.size + 1, 0, none⟩)], .agg #[.int .i64 x.1.1, .int .i64 x.1.2], .agg #[.int .i64 x.2.1, .int .i64 x.2.2], undef, undef, undef, undef, undef, undef, undef, undef, undef, undef, undef, undef, undef, undef], defers := [] })
    (fun x a' _ X Y row hs hg hr => by
      obtain ⟨Ba, Bb, h1, h2, h3, h4, h5⟩ := hs
      exact ⟨Ba, Bb, h1, h2, h3.kept hg (fun r e => (hr r e).2), h4.kept hg (fun r e => (hr r e).2), h5⟩)
    ?assign ?body ?done ?stop
  case assign =>
    rintro l pre x W K ⟨⟨bS1, hz1⟩, hB1⟩ hK
    gi_wp2
    exact hK _ _ (((KeepsOthers.alloc _ _).trans (KeepsOthers.alloc _ _)).from _) (KeptBut.of_below (((Below.refl W.heap.size W).alloc (Nat.le_refl _) _).alloc (by simp) _) hz1) ⟨⟨(bS1.alloc _).alloc _, by simp; omega⟩, (hB1.alloc hB1.size _).alloc (by have := hB1.size; simp; omega) _⟩ ⟨W.heap.size, W.heap.size + 1, bS1.lt, by have := bS1.lt; omega, (Box2.two W x.1 x.2).1, (Box2.two W x.1 x.2).2, rfl⟩
  case body =>
    rintro l pre x a' W hl ⟨rr, hr⟩ ⟨⟨bS1, hz1⟩, hB1⟩ ⟨Ba, Bb, hBa, hBb, xa, xb, rfl⟩ hlt
    have cS := bS1.cell
    have fS := bS1.frozen
    have a0 := xa.c0
    have a1 := xa.c1
    have b0 := xb.c0
    have b1 := xb.c1
    gi_wp2
    exact ⟨(KeepsOthers.setCell _ _ _).from _, KeptBut.setCell _ _ _, ⟨by rw [sumS_snoc]; exact bS1.set _, by simp; omega⟩, hB1.setCell (p := ⟨w.heap.size, 0, none⟩) (Nat.le_refl _) _⟩
  case done =>
    rintro D ys W hD rfl ⟨⟨bS1, hz1⟩, hB1⟩ hK
    have cS := bS1.cell
    gi_wp2
    refine ⟨by simp, .inl ⟨_, _, rfl, run_takeDeferred hK, ?_⟩⟩
    exact ⟨_, results_tmp rfl _ _ _, by rw [← sumS_sides]; rfl, hB1.trans (belowK_b (w := w) (Nat.le_refl _) W D _ _ (by omega) hK rfl rfl)⟩
  case stop =>
    rintro D c pre W _ _ h _
    exact h.elim
set_option maxHeartbeats 1000000 in
theorem ringArea_any (b of cap : Nat) (r : List IP) (w : World) (hreach : r.length ≤ 1048576) (hpos : 0 < r.length)
    (hp : ∀ j, j < r.length → w.cell? ⟨b, of + j * 2, none⟩ = some (.int .i64 (pt r j).1) ∧ w.cell? ⟨b, of + j * 2 + 1, none⟩ = some (.int .i64 (pt r j).2)) :
    Calls Try.prog 71 #[.slice (some ⟨b, of, none⟩) r.length cap] w fun e w' => e = .returned (.int .i64 (pabs (lsum r r.length))) ∧ Below w.heap.size w w' := by
  have PA : Hid (pabs (lsum r r.length) = max (lsum r r.length) (wrap64 (-(lsum r r.length)))) := rfl
  by_cases hmx : lsum r r.length < wrap64 (-(lsum r r.length))
  all_goals
    go_enter Try.func71, Try.ntmps71
    go_wp2_with (go_at_call 84; refine (leftArea_any _ _ _ _ _ hreach hpos hp).mono ?_; rintro e w1 ⟨rfl, hb1⟩)
    all_goals
      go_ret
      exact ⟨ret2 (by rw [PA.out]; omega), hb1⟩
def oddS (p : IP) : List (IP × IP) → Bool := List.foldl (fun o x => if crossedB p x.1 x.2 then !o else o) false
def offS (p : IP) (l : List (IP × IP)) : Bool := l.all fun x => !meetB p.1 p.2 p.1 p.2 x.1.1 x.1.2 x.2.1 x.2.2
theorem oddS_snoc (p : IP) (pre : List (IP × IP)) (x : IP × IP) : oddS p (pre ++ [x]) = if crossedB p x.1 x.2 then !oddS p pre else oddS p pre := by simp [oddS]
theorem offS_snoc (p : IP) (pre : List (IP × IP)) (x : IP × IP) : offS p (pre ++ [x]) = (offS p pre && !meetB p.1 p.2 p.1 p.2 x.1.1 x.1.2 x.2.1 x.2.2) := by simp [offS]
theorem oddS_sides (p : IP) (r : List IP) : ∀ k, oddS p (sidesTo r k) = (crs p r k % 2 == 1) := by
  intro k
  induction k with
  | zero => rfl
  | succ k ih =>
    rw [sidesTo_succ, oddS_snoc, ih, crs]
    cases crossedB p (pt r k) (pt r ((k + 1) % r.length))
    · simp
    · rcases Nat.mod_two_eq_zero_or_one (crs p r k) with h | h
      · simp [h]; omega
      · simp [h]; omega
theorem offS_sides (p : IP) (r : List IP) (k : Nat) : offS p (sidesTo r k) = (List.range k).all (offE p r) := by
  unfold offS sidesTo
  rw [List.all_map]
  rfl
theorem within_off {p : IP} {r : List IP} {k : Nat} (hk : k < r.length) (h : offS p (sidesTo r (k + 1)) = false) : withinP p r = false := by
  rw [offS_sides] at h
  have : (List.range r.length).all (offE p r) = false := by
    rw [List.all_eq_false] at h ⊢
    obtain ⟨x, hx, h⟩ := h
    exact ⟨x, List.mem_range.2 (by have := List.mem_range.1 hx; omega), h⟩
  unfold withinP; rw [this]; rfl
theorem within_on {p : IP} {r : List IP} (h : offS p (sidesTo r r.length) = true) : withinP p r = oddS p (sidesTo r r.length) := by
  rw [oddS_sides]
  rw [offS_sides] at h
  unfold withinP; rw [h, Bool.true_and]
theorem KeepsOthers.of_below {W W' : World} (h : Below W.heap.size W W') : KeepsOthers W W' := ⟨h.size, fun k o hk _ => (h.block k (Array.getElem?_eq_some_iff.1 hk).1).trans hk⟩
theorem box_later {W W' : World} {B : Nat} {t : TypeId} {v : Value} (h : Boxed W B t v) (hb : Below W.heap.size W W') : Boxed W' B t v := (hb.block B h.lt).trans h
set_option maxRecDepth 100000 in
set_option maxHeartbeats 8000000 in
theorem withinP_any (p : IP) (b of cap : Nat) (r : List IP) (w : World) (hreach : r.length ≤ 1048576) (hpos : 0 < r.length)
    (hp : ∀ j, j < r.length → w.cell? ⟨b, of + j * 2, none⟩ = some (.int .i64 (pt r j).1) ∧ w.cell? ⟨b, of + j * 2 + 1, none⟩ = some (.int .i64 (pt r j).2)) :
    Calls Try.prog 103 #[.agg #[.int .i64 p.1, .int .i64 p.2], .slice (some ⟨b, of, none⟩) r.length cap] w fun e w' => e = .returned (.bool (withinP p r)) ∧ Below w.heap.size w w' := by
  have hbl : b < w.heap.size := World.block_lt_of_cell? _ _ (hp 0 hpos).1
  refine (callsIn_wide (n := 6)).1 ?_
  refine callsIn_of_wp_marks Try.func103 rfl trivial ?_ rfl
  simp only [Try.ntmps103, List.size_toArray, List.length_cons, List.length_nil, Nat.reduceAdd, Nat.reduceSub, Array.replicate_succ, Array.replicate_zero, List.push_toArray, List.append_toArray, List.nil_append, List.cons_append]
  gi_wp2_with (refine ⟨trivial, ?_⟩; gi_at_call 101; refine (sides_in Fence.wide _ trivial rfl _ _ _ _).mono ?_; rintro e w' ⟨rfl, rfl⟩)
  obtain ⟨W0, hW0⟩ : ∃ W0, (((w.alloc (.cells #[.int .i64 p.1, .int .i64 p.2] 25)).alloc (.cells #[.bool false] 4)).alloc (.cells #[.bool false] 4)).alloc (.cells #[.slice (some ⟨b, of, none⟩) r.length cap] 50) = W0 := ⟨_, rfl⟩
  have hsz : W0.heap.size = w.heap.size + 4 := by rw [← hW0]; simp
  have hB0 : Below w.heap.size w W0 := by
    rw [← hW0]
    exact ((((Below.refl _ w).alloc (Nat.le_refl _) _).alloc (by simp) _).alloc (by simp; omega) _).alloc (by simp; omega) _
  have bP : Box2 W0 w.heap.size p := by
    rw [← hW0]
    exact (((Below.heap_alloc _ _ _ (by simp; omega)).trans (Below.heap_alloc _ _ _ (by simp; omega))).trans (Below.heap_alloc _ _ _ (by simp))).trans (heap_alloc_new w _)
  have bQ : Boxed W0 (w.heap.size + 1) 4 (.bool false) := by
    rw [← hW0]
    have := ((Boxed.new (w.alloc (.cells #[.int .i64 p.1, .int .i64 p.2] 25)) 4 (.bool false)).alloc (.cells #[.bool false] 4)).alloc (.cells #[.slice (some ⟨b, of, none⟩) r.length cap] 50)
    simpa only [World.size_alloc] using this
  have bO : Boxed W0 (w.heap.size + 2) 4 (.bool false) := by
    rw [← hW0]
    have := (Boxed.new ((w.alloc (.cells #[.int .i64 p.1, .int .i64 p.2] 25)).alloc (.cells #[.bool false] 4)) 4 (.bool false)).alloc (.cells #[.slice (some ⟨b, of, none⟩) r.length cap] 50)
    simpa only [World.size_alloc, Nat.add_assoc] using this
  have bR : Boxed W0 (w.heap.size + 3) 50 (.slice (some ⟨b, of, none⟩) r.length cap) := by
    rw [← hW0]
    have := Boxed.new (((w.alloc (.cells #[.int .i64 p.1, .int .i64 p.2] 25)).alloc (.cells #[.bool false] 4)).alloc (.cells #[.bool false] 4)) 50 (.slice (some ⟨b, of, none⟩) r.length cap)
    simpa only [World.size_alloc, Nat.add_assoc] using this
  rw [hW0]
  clear hW0
  have bQ' : Boxed W0 (w.heap.size + 1) 4 (.bool false) := bQ
  refine wpIn_rangeFunc_ownH rfl (by omega) (gf := 111) (lb := #[.pointer (some ⟨w.heap.size + 1 + 1 + 1, 0, none⟩)]) rfl trivial (enters_of Try.func111 (by kernel_rfl) rfl)
    (sides_stops Fence.wide 5 trivial rfl (by omega) (w.heap.size + 3) (w.heap.size + 4) b of cap r hreach W0 (w.heap.size + 2) (by omega) (by omega) (by omega) (by omega) (by omega) bR.cell (fun j hj => ⟨cell_later hB0 (hp j hj).1, cell_later hB0 (hp j hj).2⟩))
    KeptBut.trans (keptBut_b (by omega)) (Below.refl _ _) (fun _ => rfl)
    (fun pre W => ((Box2 W w.heap.size p ∧ Boxed W (w.heap.size + 1) 4 (.bool false)) ∧ (Boxed W (w.heap.size + 2) 4 (.bool (oddS p pre)) ∧ offS p pre = true ∧ w.heap.size + 4 ≤ W.heap.size)) ∧ Below w.heap.size w W)
    (fun c pre W => ((c = .ret ∧ offS p pre = false) ∧ Boxed W (w.heap.size + 1) 4 (.bool false)) ∧ Below w.heap.size w W)
    (OwnFrom.and (OwnFrom.and (OwnFrom.and (fun _ X Y row hs hg hr => Box2.kept hs hg (fun r e => (hr r e).2)) (Own.from (boxed_own _ _ _) _)) (OwnFrom.and (Own.from (boxed_own _ _ _) _) (OwnFrom.and (ownFrom_pure _ _) (ownFrom_size _ _)))) (ownFrom_below (Nat.le_refl _) (by omega)))
    (fun c => OwnFrom.and (OwnFrom.and (ownFrom_pure _ _) (Own.from (boxed_own _ _ _) _)) (ownFrom_below (Nat.le_refl _) (by omega)))
    ⟨⟨⟨bP, bQ⟩, bO, rfl, by omega⟩, hB0⟩
    (fun x a' W => ∃ Ba Bb, w.heap.size + 3 < Ba ∧ w.heap.size + 3 < Bb ∧ Box2 W Ba x.1 ∧ Box2 W Bb x.2 ∧ a' = { tmps := #[.agg #[.int .i64 p.1, .int .i64 p.2], .slice (some ⟨b, of, none⟩) r.length cap, .pointer (some ⟨w.heap.size, 0, none⟩), undef, .pointer (some ⟨w.heap.size + 1, 0, none⟩), .pointer (some ⟨w.heap.size + 2, 0, none⟩), .pointer (some ⟨Ba, 0, none⟩), .pointer (some ⟨Bb, 0, none⟩), .slice (some ⟨b, of, none⟩) r.length cap, .func (.func 111) #[] #[.pointer (some ⟨w.heap.size + 3, 0, none⟩)], .agg #[.int .i64 x.1.1, .int .i64 x.1.2], .agg #[.int .i64 x.2.1, .int .i64 x.2.2], undef, undef, undef, undef, undef, undef, undef, undef, undef, undef, undef, undef], defers := [] })
    (fun x a' _ X Y row hs hg hr => by
      obtain ⟨Ba, Bb, h1, h2, h3, h4, h5⟩ := hs
      exact ⟨Ba, Bb, h1, h2, h3.kept hg (fun r e => (hr r e).2), h4.kept hg (fun r e => (hr r e).2), h5⟩)
    ?assign ?body ?done ?stop
  case assign =>
    rintro l pre x W K ⟨⟨⟨iP, iQ⟩, iO, iF, hz1⟩, hB1⟩ hK
    have hbt : Below W.heap.size W ((W.alloc (.cells #[.int .i64 x.1.1, .int .i64 x.1.2] 25)).alloc (.cells #[.int .i64 x.2.1, .int .i64 x.2.2] 25)) := ((Below.refl W.heap.size W).alloc (Nat.le_refl _) _).alloc (by simp) _
    gi_wp2
    exact hK _ _ (((KeepsOthers.alloc _ _).trans (KeepsOthers.alloc _ _)).from _) (KeptBut.of_below hbt hz1) ⟨⟨⟨iP.later hbt, box_later iQ hbt⟩, box_later iO hbt, iF, by simp; omega⟩, (hB1.alloc hB1.size _).alloc (by have := hB1.size; simp; omega) _⟩ ⟨W.heap.size, W.heap.size + 1, by omega, by omega, (Box2.two W x.1 x.2).1, (Box2.two W x.1 x.2).2, rfl⟩
  case body =>
    rintro l pre x a' W hl ⟨rr, hr⟩ ⟨⟨⟨iP, iQ⟩, iO, iF, hz1⟩, hB1⟩ ⟨Ba, Bb, hBa, hBb, xa, xb, rfl⟩ hlt
    have p0 := iP.c0
    have p1 := iP.c1
    have a0 := xa.c0
    have a1 := xa.c1
    have b0 := xb.c0
    have b1 := xb.c1
    cases hm : meetB p.1 p.2 p.1 p.2 x.1.1 x.1.2 x.2.1 x.2.2
    · cases hcr : crossedB (p.1, p.2) (x.1.1, x.1.2) (x.2.1, x.2.2)
      · gi_wp2_with (first | (refine ⟨trivial, ?_⟩; gi_at_call 47; refine (CallsIn.inRound l (callsIn_wide.2 (planeMeet_any _ _ _ _ _ _ _ _ _))).mono ?_; rintro e w1 ⟨rfl, hb1⟩; rw [hm]; have p0' := cell_later hb1 p0; have p1' := cell_later hb1 p1; have a0' := cell_later hb1 a0; have a1' := cell_later hb1 a1; have b0' := cell_later hb1 b0; have b1' := cell_later hb1 b1) | (refine ⟨trivial, ?_⟩; gi_at_call 113; refine (CallsIn.inRound l (callsIn_wide.2 (crossed_any _ _ _ _ _ _ _))).mono ?_; rintro e w2 ⟨rfl, hb2⟩; rw [hcr]; have hbw := below_then hb1 hb2; have iO2 := box_later iO hbw; have oc := iO2.cell; have of' := iO2.frozen))
        exact ⟨(KeepsOthers.of_below hbw).from _, KeptBut.of_below hbw hz1, ⟨⟨⟨iP.later hbw, box_later iQ hbw⟩, by rw [oddS_snoc, show crossedB p x.1 x.2 = false from hcr]; exact iO2, by rw [offS_snoc, hm, iF]; rfl, Nat.le_trans hz1 hbw.size⟩, hB1.trans (hbw.mono hB1.size)⟩⟩
      · gi_wp2_with (first | (refine ⟨trivial, ?_⟩; gi_at_call 47; refine (CallsIn.inRound l (callsIn_wide.2 (planeMeet_any _ _ _ _ _ _ _ _ _))).mono ?_; rintro e w1 ⟨rfl, hb1⟩; rw [hm]; have p0' := cell_later hb1 p0; have p1' := cell_later hb1 p1; have a0' := cell_later hb1 a0; have a1' := cell_later hb1 a1; have b0' := cell_later hb1 b0; have b1' := cell_later hb1 b1) | (refine ⟨trivial, ?_⟩; gi_at_call 113; refine (CallsIn.inRound l (callsIn_wide.2 (crossed_any _ _ _ _ _ _ _))).mono ?_; rintro e w2 ⟨rfl, hb2⟩; rw [hcr]; have hbw := below_then hb1 hb2; have iO2 := box_later iO hbw; have oc := iO2.cell; have of' := iO2.frozen))
        have kp : KeptBut (w.heap.size + 4) (w.heap.size + 2) W (w2.setCell ⟨w.heap.size + 2, 0, none⟩ (.bool (!oddS p pre))) := (KeptBut.of_below hbw hz1).trans (KeptBut.setCell _ _ _)
        have ne1 : w.heap.size ≠ w.heap.size + 2 := by omega
        have ne2 : w.heap.size + 1 ≠ w.heap.size + 2 := by omega
        refine ⟨((KeepsOthers.of_below hbw).trans (KeepsOthers.setCell _ _ _)).from _, kp, ⟨⟨⟨(kp.block _ (by omega) ne1).trans iP, (kp.block _ (by omega) ne2).trans iQ⟩, ?_, by rw [offS_snoc, hm, iF]; rfl, Nat.le_trans hz1 kp.size⟩, (hB1.trans (hbw.mono hB1.size)).setCell (p := ⟨w.heap.size + 2, 0, none⟩) (by simp) _⟩⟩
        rw [oddS_snoc, show crossedB p x.1 x.2 = true from hcr]; exact iO2.set _
    · gi_wp2_with (refine ⟨trivial, ?_⟩; gi_at_call 47; refine (CallsIn.inRound l (callsIn_wide.2 (planeMeet_any _ _ _ _ _ _ _ _ _))).mono ?_; rintro e w1 ⟨rfl, hb1⟩; rw [hm]; have iQ1 := box_later iQ hb1; have qc := iQ1.cell; have qf := iQ1.frozen)
      exact ⟨((KeepsOthers.of_below hb1).trans (KeepsOthers.setCell _ _ _)).from _, ⟨⟨rfl, by rw [offS_snoc, hm]; simp⟩, iQ1.set _⟩, (hB1.trans (hb1.mono hB1.size)).setCell (p := ⟨w.heap.size + 1, 0, none⟩) (by simp) _⟩
  case done =>
    rintro D ys W hD rfl ⟨⟨⟨iP, iQ⟩, iO, iF, hz1⟩, hB1⟩ hK
    have oc : W.cell? ⟨w.heap.size + 1 + 1, 0, none⟩ = some (.bool (oddS p (sidesTo r r.length))) := iO.cell
    have qc := iQ.cell
    have qf := iQ.frozen
    gi_wp2
    have hK' := (KeepsOthers.setCell W ⟨w.heap.size + 1, 0, none⟩ (.bool (oddS p (sidesTo r r.length)))).same D _ hK rfl
    refine ⟨by simp, .inl ⟨_, _, rfl, run_takeDeferred hK', ?_⟩⟩
    have hc5 := cell_kept (World.cell?_setCell_same' W ⟨w.heap.size + 1, 0, none⟩ (.bool (oddS p (sidesTo r r.length))) (by rw [qc]; rfl)) (grownBy_putObj' _ D (.deferred none)) (fun r e => by cases e; exact ⟨_, hK', rfl⟩)
    refine ⟨.bool (oddS p (sidesTo r r.length)), ?_, by rw [within_on iF], (hB1.setCell (p := ⟨w.heap.size + 1, 0, none⟩) (by simp) _).trans (belowK_b (w := w) (Nat.le_refl _) _ D _ _ (by omega) hK' rfl rfl)⟩
    simp [results, Try.results103, go_sem, hc5]
  case stop =>
    rintro D c pre W hD ⟨k, hk, rfl⟩ ⟨⟨⟨rfl, hoff⟩, iQ⟩, hB1⟩ hK
    have qc := iQ.cell
    gi_wp2
    refine ⟨by simp, .inl ⟨_, _, rfl, run_takeDeferred hK, ?_⟩⟩
    have hc5 := cell_kept qc (grownBy_putObj' _ D (.deferred none)) (fun r e => by cases e; exact ⟨_, hK, rfl⟩)
    refine ⟨.bool false, ?_, by rw [within_off hk hoff], hB1.trans (belowK_b (w := w) (Nat.le_refl _) W D _ _ (by omega) hK rfl rfl)⟩
    simp [results, Try.results103, go_sem, hc5]
end Go.Proofs.Ytdkaoopkbhaheaa
