import Derived.Test.YtdkaoopkbhaheaaPN22
namespace Go.Proofs.Ytdkaoopkbhaheaa
open Go.RowKit Go.Lib
open Jor
set_option linter.unusedVariables false
set_option linter.unusedSimpArgs false
def pickI (c n : Int) : Int := (if c < 0 then -(c + 1) else c).tmod n
set_option maxHeartbeats 1000000 in
theorem pick_any (c n : Int) (w : World) (hc : -9223372036854775808 ≤ c ∧ c ≤ 9223372036854775807) (hn : 0 < n) (hn2 : n ≤ 9223372036854775807) :
    Calls Try.prog 33 #[.int .i64 c, .int .i64 n] w fun e w' => e = .returned (.int .i64 (pickI c n)) ∧ w' = w := by
  have n0 : (n == 0) = false := by rw [beq_eq_false_iff_ne]; omega
  have n1 : ¬ n = 0 := by omega
  by_cases h : c < 0
  · have hw1 : wrap64 (c + 1) = c + 1 := wrap64_in _ (by omega) (by omega)
    have hw2 : wrap64 (-(c + 1)) = -(c + 1) := wrap64_in _ (by omega) (by omega)
    have e : pickI c n = -((c + 1).tmod n) := by unfold pickI; rw [if_pos h, Int.neg_tmod]
    rw [e]
    go_enter Try.func33, Try.ntmps33
    go_wp2
    go_ret
    exact ⟨rfl, rfl⟩
  · have e : pickI c n = c % n := by unfold pickI; rw [if_neg h, Int.tmod_eq_emod_of_nonneg (by omega)]
    rw [e]
    go_enter Try.func33, Try.ntmps33
    go_wp2
    go_ret
    exact ⟨rfl, rfl⟩
theorem pick_in (c : Int) : 0 ≤ pickI c 1000000 ∧ pickI c 1000000 < 1000000 := by
  unfold pickI
  split
  · rw [Int.tmod_eq_emod_of_nonneg (by omega)]; omega
  · rw [Int.tmod_eq_emod_of_nonneg (by omega)]; omega
structure Two (B : Nat) (w : World) (e : TypeId) (size : Nat) (v1 v2 : Value) (n1 n2 : Nat) (xs1 xs2 : List Value) : Prop where
  o1 : w.ownsRow B e size v1 n1 xs1
  o2 : w.ownsRow B e size v2 n2 xs2
  ne : ∀ g, v1.ownBlock = some g → v2.ownBlock ≠ some g
section
variable {B : Nat} {w w' : World} {e : TypeId} {size : Nat} {v1 v2 : Value} {n1 n2 : Nat} {xs1 xs2 : List Value}
theorem own_in {w : World} {v : Value} {n : Nat} {xs : List Value} (h : w.ownsRow B e size v n xs) {g : Nat} (hg : v.ownBlock = some g) : g < w.heap.size := by
  obtain ⟨cur, hc⟩ := own_at h hg
  exact (Array.getElem?_eq_some_iff.1 hc).1
theorem Two.keep (h : Two B w e size v1 v2 n1 n2 xs1 xs2) (hk : ∀ g, (v1.ownBlock = some g ∨ v2.ownBlock = some g) → w'.heap[g]? = w.heap[g]?) : Two B w' e size v1 v2 n1 n2 xs1 xs2 :=
  ⟨own_keep h.o1 (fun g hg => hk g (.inl hg)), own_keep h.o2 (fun g hg => hk g (.inr hg)), h.ne⟩
theorem Two.swap (h : Two B w e size v1 v2 n1 n2 xs1 xs2) : Two B w e size v2 v1 n2 n1 xs2 xs1 := ⟨h.o2, h.o1, fun g hg hg' => h.ne g hg' hg⟩
theorem Two.grow (h : Two B w e size v1 v2 n1 n2 xs1 xs2) (hg : w.grownBy w' v1.ownBlock) {g cap n : Nat} {xs : List Value} (ho : w'.ownsRow B e size (.slice (some ⟨g, 0, none⟩) n cap) n xs) (hat : v1.ownBlock = some g ∨ g = w.heap.size) : Two B w' e size (.slice (some ⟨g, 0, none⟩) n cap) v2 n n2 xs xs2 := by
  refine ⟨ho, h.o2.kept hg ?_, fun g' hg' hg2 => ?_⟩
  · cases q : v2.ownBlock with
    | none => exact .inl rfl
    | some g2 => exact .inr (fun e => h.ne g2 e.symm q)
  · simp only [Value.ownBlock, Option.some.injEq] at hg'
    subst hg'
    rcases hat with q | q
    · exact h.ne _ q hg2
    · have := own_in h.o2 hg2
      omega
end
end Go.Proofs.Ytdkaoopkbhaheaa
namespace Go.Proofs.Ytdkaoopkbhaheaa
open Go.RowKit Go.Lib
open Jor
open scoped Classical
set_option linter.unusedVariables false
set_option linter.unusedSimpArgs false
theorem infoR : (Try.prog.info? 50).map (fun i => (i.zero, i.size, i.bytes)) = some (some (.slice none 0 0), 1, 24) := by kernel_rfl
theorem underR : Try.prog.underlying 34 = some (.slice 50) := by kernel_rfl
theorem own_far {B B' : Nat} {w w' : World} {x v : Value} {n m : Nat} {xs ys : List Value} (h : w.ownsRow B 25 2 x n xs) (o : w.ownsRow B' 50 1 v m ys) {o' : Obj} (hg : (w.alloc o').grownBy w' v.ownBlock) : w'.ownsRow B 25 2 x n xs := by
  refine (h.alloc o').kept hg ?_
  cases q : x.ownBlock with
  | none => exact .inl rfl
  | some g =>
    refine .inr (fun e => ?_)
    obtain ⟨c1, h1⟩ := own_at h q
    obtain ⟨c2, h2⟩ := own_at o e.symm
    rw [h1] at h2
    simp at h2
def Rg (B : Nat) (w : World) (S : List Value) (rs : List (List IP)) : Prop := ∀ j, j < S.length → ∃ x, S[j]? = some x ∧ w.ownsRow B 25 2 x (rg rs j).length (cells2 (rg rs j))
theorem Rg.snoc {B : Nat} {w : World} {S : List Value} {rs : List (List IP)} (h : Rg B w S rs) {x : Value} (hx : w.ownsRow B 25 2 x (rg rs S.length).length (cells2 (rg rs S.length))) : Rg B w (S ++ [x]) rs := by
  intro j hj
  rw [List.length_append, List.length_singleton] at hj
  by_cases q : j < S.length
  · obtain ⟨y, h1, h2⟩ := h j q
    exact ⟨y, by rw [List.getElem?_append_left q]; exact h1, h2⟩
  · have : j = S.length := by omega
    subst this
    exact ⟨x, by simp, hx⟩
theorem Rg.keep {B : Nat} {w w' : World} {S : List Value} {rs : List (List IP)} (h : Rg B w S rs) (hk : ∀ x n xs, w.ownsRow B 25 2 x n xs → w'.ownsRow B 25 2 x n xs) : Rg B w' S rs := fun j hj => by
  obtain ⟨x, h1, h2⟩ := h j hj
  exact ⟨x, h1, hk _ _ _ h2⟩
theorem own_lat {B : Nat} {w w' : World} {e : TypeId} {size n : Nat} {v : Value} {xs : List Value} (h : w.ownsRow B e size v n xs) (hb : Below w.heap.size w w') : w'.ownsRow B e size v n xs :=
  own_keep h (fun g hg => hb.block g (own_in h hg))
theorem own_lower {B B' : Nat} {w : World} {e : TypeId} {size n : Nat} {v : Value} {xs : List Value} (h : w.ownsRow B e size v n xs) (hb : B' ≤ B) : w.ownsRow B' e size v n xs := by
  refine ⟨h.1, ?_⟩
  rcases h.2 with h2 | ⟨g, c, cur, h1, h3, h4⟩
  · exact .inl h2
  · exact .inr ⟨g, c, cur, h1, by omega, h4⟩
structure Mv (B : Nat) (w : World) (v1 v2 : Value) (S1 S2 : List Value) (r1 r2 : List (List IP)) : Prop where
  two : Two B w 50 1 v1 v2 S1.length S2.length S1 S2
  g1 : Rg B w S1 r1
  g2 : Rg B w S2 r2
theorem Mv.later {B : Nat} {w w' : World} {v1 v2 : Value} {S1 S2 : List Value} {r1 r2 : List (List IP)} (h : Mv B w v1 v2 S1 S2 r1 r2) (hb : Below w.heap.size w w') : Mv B w' v1 v2 S1 S2 r1 r2 :=
  ⟨h.two.keep (fun g hg => hb.block g (by rcases hg with q | q; exact own_in h.two.o1 q; exact own_in h.two.o2 q)), h.g1.keep (fun x n xs o => own_lat o hb), h.g2.keep (fun x n xs o => own_lat o hb)⟩
theorem Mv.swap {B : Nat} {w : World} {v1 v2 : Value} {S1 S2 : List Value} {r1 r2 : List (List IP)} (h : Mv B w v1 v2 S1 S2 r1 r2) : Mv B w v2 v1 S2 S1 r2 r1 := ⟨h.two.swap, h.g2, h.g1⟩
theorem Two.alloc {B : Nat} {w : World} {e : TypeId} {size : Nat} {v1 v2 : Value} {n1 n2 : Nat} {xs1 xs2 : List Value} (h : Two B w e size v1 v2 n1 n2 xs1 xs2) (o : Obj) : Two B (w.alloc o) e size v1 v2 n1 n2 xs1 xs2 := ⟨h.o1.alloc o, h.o2.alloc o, h.ne⟩
theorem Mv.push {B : Nat} {w : World} {v1 v2 : Value} {S1 S2 : List Value} {r1 r2 : List (List IP)} (h : Mv B w v1 v2 S1 S2 r1 r2) {x : Value} (hx : w.ownsRow B 25 2 x (rg r1 S1.length).length (cells2 (rg r1 S1.length))) {o : Obj} {w' : World} {g cap : Nat}
    (hg : (w.alloc o).grownBy w' v1.ownBlock) (ho : w'.ownsRow B 50 1 (.slice (some ⟨g, 0, none⟩) (S1.length + 1) cap) (S1.length + 1) (S1 ++ [x])) (hat : v1.ownBlock = some g ∨ g = (w.alloc o).heap.size) :
    Mv B w' (.slice (some ⟨g, 0, none⟩) (S1.length + 1) cap) v2 (S1 ++ [x]) S2 r1 r2 := by
  have e : (S1 ++ [x]).length = S1.length + 1 := by simp
  have far : ∀ y n xs, w.ownsRow B 25 2 y n xs → w'.ownsRow B 25 2 y n xs := fun y n xs oy => own_far oy h.two.o1 hg
  refine ⟨?_, (h.g1.keep far).snoc (far _ _ _ hx), h.g2.keep far⟩
  rw [e]
  exact (h.two.alloc o).grow hg ho hat
theorem rings_of {B : Nat} {w : World} {v : Value} {S : List Value} {rs : List (List IP)} (e : S.length = rs.length) (h : w.ownsRow B 50 1 v S.length S) (hg : Rg B w S rs) :
    ∃ a cap A C, v = .slice a rs.length cap ∧ rs.length ≤ cap ∧ cap ≤ 9223372036854775807 ∧ RingsL w a A C rs := by
  have hP : ∀ j, ∃ ac : Option Addr × Nat, j < S.length → S[j]? = some (.slice ac.1 (rg rs j).length ac.2) ∧ Pts w ac.1 (rg rs j).length (pt (rg rs j)) := fun j => by
    by_cases q : j < S.length
    · obtain ⟨x, h1, h2⟩ := hg j q
      obtain ⟨a, c, rfl, hp⟩ := pts_of_own h2
      exact ⟨(a, c), fun _ => ⟨h1, hp⟩⟩
    · exact ⟨(none, 0), fun h => absurd h q⟩
  obtain ⟨f, hf⟩ := Classical.axiomOfChoice hP
  have h0 := h
  rcases h.2 with ⟨rfl, hn⟩ | ⟨g, cap, cur, rfl, _, _, hc, hm, _⟩
  · refine ⟨none, 0, fun _ => none, fun _ => 0, by rw [← e, hn], by omega, by omega, .inl (by rw [← e, hn])⟩
  · refine ⟨_, cap, fun j => (f j).1, fun j => (f j).2, by rw [← e], by omega, by unfold maxLen at hm; omega, .inr ⟨g, 0, rfl, fun k hk => ?_⟩⟩
    have hk' : k < rs.length := hk
    obtain ⟨q1, q2⟩ := hf k (by omega)
    refine ⟨?_, q2⟩
    rw [Nat.zero_add]
    exact (h0.cellAt k (by omega)).trans q1
theorem Mv.start (B : Nat) (w : World) (r1 r2 : List (List IP)) : Mv B w (.slice none 0 0) (.slice none 0 0) [] [] r1 r2 :=
  ⟨⟨World.ownsRow_nil _ _ _ _, World.ownsRow_nil _ _ _ _, fun g hg => by cases hg⟩, fun j hj => by simp at hj, fun j hj => by simp at hj⟩
end Go.Proofs.Ytdkaoopkbhaheaa
