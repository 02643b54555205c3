import Derived.Test.YtdkaoopkbhaheaaGreatPP27
import Derived.Test.YtdkaoopkbhaheaaGreatPN22
import Derived.Test.YtdkaoopkbhaheaaGreatQA7
import Derived.Deep.DeepCutAuto
set_option maxHeartbeats 8000000
namespace Go.Proofs.YtdkaoopkbhaheaaGreat
open Go.RowKit Go.Lib
open Jor
open scoped Classical
set_option linter.unusedVariables false
theorem incI_rot2 (a b v w : IP) : incI a b v w = incI b v a w := by unfold incI DI Geo.D; grind
def Sd3 (t : T3) (a b c : Nat) : Prop := t = (a, b, c) \/ t = (c, a, b) \/ t = (b, c, a)
theorem Sd3.sd {t : T3} {a b c : Nat} (h : Sd3 t a b c) : Sd t a b := by
 rcases h with rfl | rfl | rfl
 ·exact .inl ⟨rfl, rfl⟩
 ·exact .inr (.inl ⟨rfl, rfl⟩)
 ·exact .inr (.inr ⟨rfl, rfl⟩)
def LeftP (T : List T3) (a b : Nat) (r s : Int) : Prop := (r = -1 /\ s = -1 /\ ∀ i, i < T.length -> ¬ Sd (T.getD i (0, 0, 0)) a b) \/ ∃ i c : Nat, i < T.length /\ Sd3 (T.getD i (0, 0, 0)) a b c /\ r = i /\ s = c
theorem twiceW_near {a b c : IP} (ha : nearP a) (hb : nearP b) (hc : nearP c) : twiceW a.1 a.2 b.1 b.2 c.1 c.2 = DI a b c := by
 have ha := near_bd ha
 have hb := near_bd hb
 have hc := near_bd hc
 unfold twiceW DI Geo.D
 rw [wrap64_in (b.2 - c.2) (by omega) (by omega), wrap64_in (c.2 - a.2) (by omega) (by omega), wrap64_in (a.2 - b.2) (by omega) (by omega)]
 have k1 := mul_bd a.1 (b.2 - c.2) 1048576 2097152 (by omega) (by omega) (by omega)
 have k2 := mul_bd b.1 (c.2 - a.2) 1048576 2097152 (by omega) (by omega) (by omega)
 have k3 := mul_bd c.1 (a.2 - b.2) 1048576 2097152 (by omega) (by omega) (by omega)
 rw [wrap64_in (a.1 * (b.2 - c.2)) (by omega) (by omega), wrap64_in (b.1 * (c.2 - a.2)) (by omega) (by omega), wrap64_in (c.1 * (a.2 - b.2)) (by omega) (by omega),
  wrap64_in (a.1 * (b.2 - c.2) + b.1 * (c.2 - a.2)) (by omega) (by omega), wrap64_in _ (by omega) (by omega)]
 grind
theorem not_far_good {rs : List (List IP)} (G : Good rs) : ¬ Far rs := by
 rintro (h | ⟨p, hp, h⟩)
 ·exact absurd G.few (by show ¬ rs.flatten.length <= 64; omega)
 ·obtain ⟨i, hi, e⟩ := List.getElem_of_mem hp
  refine h ?_
  have := G.near i hi
  unfold pt at this
  rw [show (verts rs).getD i (0, 0) = (verts rs)[i]'hi from getD_elem _ _ _ hi] at this
  rw [<- e]; exact this
section
variable {rs : List (List IP)} {L : List (Nat × Nat)} {F : Nat -> Nat -> Option Int} {T : List T3}
theorem Sd3.th (hm : ∀ i j u, (i, j, u) ∈ T ↔ F i j = some (u : Int) /\ i < j /\ i < u) (I : FInv (pt (verts rs)) (verts rs).length (bnx rs) (bpv rs) L F L.length) {t : T3} (ht : t ∈ T) {a b c : Nat} (h : Sd3 t a b c) : thF F a b = some c := by
 obtain ⟨d, hd, e⟩ := Sd.th hm I ht h.sd
 have ne := I.front.tri _ _ _ hd
 have n1 := I.front.ne _ _ ne.1
 have n2 := I.front.ne _ _ ne.2.1
 have n3 := I.front.ne _ _ ne.2.2.1
 rw [hd]
 unfold Sd3 at h
 rcases e with ⟨rfl, _, _⟩ | ⟨rfl, _, _⟩ | ⟨rfl, _, _⟩ <;> simp only [Prod.mk.injEq] at h <;> (congr 1; omega)
theorem LeftP.rgt (hs : T.Pairwise lt3) (hm : ∀ i j u, (i, j, u) ∈ T ↔ F i j = some (u : Int) /\ i < j /\ i < u) (I : FInv (pt (verts rs)) (verts rs).length (bnx rs) (bpv rs) L F L.length) {a b : Nat} {r s : Int} (h : LeftP T b a r s) : r = rgt (leftF T T.length) a b := by
 unfold Go.Proofs.YtdkaoopkbhaheaaGreat.rgt
 rcases h with ⟨rfl, _, no⟩ | ⟨i, c, hi, s3, rfl, _⟩
 ·cases q : leftF T T.length b a with
  | none => rfl
  | some v =>
   obtain ⟨i, hi, _, sd⟩ := leftF_some q
   exact absurd sd (no i hi)
 ·cases q : leftF T T.length b a with
  | none => exact absurd s3.sd (leftF_none q i hi)
  | some v =>
   obtain ⟨j, hj, e, sd⟩ := leftF_some q
   rw [e, Sd.one hs hm I hi hj s3.sd sd]; rfl
theorem edge_one (G : Good rs) (hs : T.Pairwise lt3) (hm : ∀ i j u, (i, j, u) ∈ T ↔ F i j = some (u : Int) /\ i < j /\ i < u) (I : FInv (pt (verts rs)) (verts rs).length (bnx rs) (bpv rs) L F L.length) {a b : Nat} (ha : a < (verts rs).length) (hb : b < (verts rs).length) (e : bnx rs a = b \/ bnx rs b = a)
  {l c r d : Int} (hl : LeftP T a b l c) (hr : LeftP T b a r d) : -1 <= l /\ -1 <= r /\ (0 <= l /\ r = -1 \/ l = -1 /\ 0 <= r) := by
 have key : ∀ {a b : Nat} {l c r d : Int}, a < (verts rs).length -> bnx rs a = b -> LeftP T a b l c -> LeftP T b a r d -> 0 <= l /\ r = -1 := by
  intro a b l c r d ha e hl hr
  subst e
  have k := I.front.bd a ha
  obtain ⟨v, hv⟩ := I.full _ _ k
  obtain ⟨i, hi, si⟩ := Sd.of_th hm I hv
  refine ⟨?_, ?_⟩
  ·rcases hl with ⟨_, _, no⟩ | ⟨i, _, _, _, rfl, _⟩
   ·exact absurd si (no i hi)
   ·omega
  ·rcases hr with ⟨h, _⟩ | ⟨j, _, hj, sj, _⟩
   ·exact h
   ·exact absurd (Sd.known hm I (t3_at hj) sj.sd) (I.front.nb a ha)
 rcases e with e | e
 ·have := key ha e hl hr
  exact ⟨by omega, by omega, .inl this⟩
 ·have := key hb e hr hl
  exact ⟨by omega, by omega, .inr ⟨this.2, this.1⟩⟩
theorem side_own (hs : T.Pairwise lt3) (hm : ∀ i j u, (i, j, u) ∈ T ↔ F i j = some (u : Int) /\ i < j /\ i < u) (I : FInv (pt (verts rs)) (verts rs).length (bnx rs) (bpv rs) L F L.length) {a b i : Nat} (hi : i < T.length) (sd : Sd (T.getD i (0, 0, 0)) a b) {l c : Int} (hl : LeftP T a b l c) : l = i := by
 rcases hl with ⟨_, _, no⟩ | ⟨j, _, hj, sj, rfl, _⟩
 ·exact absurd sd (no i hi)
 ·rw [Sd.one hs hm I hj hi sj.sd sd]
theorem side_far (G : Good rs) (hs : T.Pairwise lt3) (hm : ∀ i j u, (i, j, u) ∈ T ↔ F i j = some (u : Int) /\ i < j /\ i < u) (I : FInv (pt (verts rs)) (verts rs).length (bnx rs) (bpv rs) L F L.length) {a b i : Nat} (hi : i < T.length) (sd : Sd (T.getD i (0, 0, 0)) a b) (nb : ¬ (bnx rs a = b \/ bnx rs b = a)) {r s : Int} (hr : LeftP T b a r s) :
  0 <= r /\ ∃ d : Nat, s = d /\ d < (verts rs).length /\ refCircle (pt (verts rs) (T.getD i (0, 0, 0)).1).1 (pt (verts rs) (T.getD i (0, 0, 0)).1).2 (pt (verts rs) (T.getD i (0, 0, 0)).2.1).1 (pt (verts rs) (T.getD i (0, 0, 0)).2.1).2 (pt (verts rs) (T.getD i (0, 0, 0)).2.2).1 (pt (verts rs) (T.getD i (0, 0, 0)).2.2).2 (pt (verts rs) d).1 (pt (verts rs) d).2 <= 0 := by
 have k := Sd.known hm I (t3_at hi) sd
 have k2 := I.front.pair _ _ k (fun e => nb (.inl e))
 obtain ⟨v, hv⟩ := I.full _ _ k2
 obtain ⟨j, hj, sj⟩ := Sd.of_th hm I hv
 rcases hr with ⟨_, _, no⟩ | ⟨m, d, hm', sm', rfl, rfl⟩
 ·exact absurd sj (no j hj)
 obtain ⟨c, hc, tc⟩ := Sd.th hm I (t3_at hi) sd
 have hd := sm'.th hm I (t3_at hm')
 obtain ⟨q1, q2, q3, _, _, _, _⟩ := I.front.tri _ _ _ hc
 obtain ⟨p1, p2, p3, _, _, _, _⟩ := I.front.tri _ _ _ hd
 have la := I.front.fa _ _ q1; have lb := I.front.fb _ _ q1; have lc := I.front.fb _ _ q2; have ld := I.front.fb _ _ p2
 have le := I.del.two _ _ _ _ hc hd
 rw [inc_toR] at le
 have le := (le_toR _ 0).1 le
 refine ⟨by omega, d, rfl, ld, ?_⟩
 have fin : ∀ x : Int, x <= 0 -> sgn x <= 0 := fun x hx => by have := sgn_cases x; omega
 rcases tc with ⟨q, _⟩ | ⟨q, _⟩ | ⟨q, _⟩ <;> rw [q] <;> simp only
 ·rw [<- circle_same _ _ _ _ _ _ _ _ (G.near _ la) (G.near _ lb) (G.near _ lc) (G.near _ ld), circleW_eq _ _ _ _ (G.near _ la) (G.near _ lb) (G.near _ lc) (G.near _ ld)]
  exact fin _ le
 ·rw [<- circle_same _ _ _ _ _ _ _ _ (G.near _ lc) (G.near _ la) (G.near _ lb) (G.near _ ld), circleW_eq _ _ _ _ (G.near _ lc) (G.near _ la) (G.near _ lb) (G.near _ ld), incI_rot2]
  exact fin _ le
 ·rw [<- circle_same _ _ _ _ _ _ _ _ (G.near _ lb) (G.near _ lc) (G.near _ la) (G.near _ ld), circleW_eq _ _ _ _ (G.near _ lb) (G.near _ lc) (G.near _ la) (G.near _ ld), <- incI_rot2]
  exact fin _ le
theorem formed_facts (G : Good rs) (hs : T.Pairwise lt3) (hm : ∀ i j u, (i, j, u) ∈ T ↔ F i j = some (u : Int) /\ i < j /\ i < u) (I : FInv (pt (verts rs)) (verts rs).length (bnx rs) (bpv rs) L F L.length) :
  ∃ S : Nat -> Int, S 0 = 0 /\ S T.length = asum (fun k => (rg rs k).length) (fun k => pt (rg rs k)) rs.length /\ ∀ k, k < T.length ->
   wrap64 (S k + twiceW (pt (verts rs) (T.getD k (0, 0, 0)).1).1 (pt (verts rs) (T.getD k (0, 0, 0)).1).2 (pt (verts rs) (T.getD k (0, 0, 0)).2.1).1 (pt (verts rs) (T.getD k (0, 0, 0)).2.1).2 (pt (verts rs) (T.getD k (0, 0, 0)).2.2).1 (pt (verts rs) (T.getD k (0, 0, 0)).2.2).2) = S (k + 1) /\
   0 < twiceW (pt (verts rs) (T.getD k (0, 0, 0)).1).1 (pt (verts rs) (T.getD k (0, 0, 0)).1).2 (pt (verts rs) (T.getD k (0, 0, 0)).2.1).1 (pt (verts rs) (T.getD k (0, 0, 0)).2.1).2 (pt (verts rs) (T.getD k (0, 0, 0)).2.2).1 (pt (verts rs) (T.getD k (0, 0, 0)).2.2).2 := by
 refine ⟨fun k => sm (fun i => DI (pt (verts rs) (T.getD i (0, 0, 0)).1) (pt (verts rs) (T.getD i (0, 0, 0)).2.1) (pt (verts rs) (T.getD i (0, 0, 0)).2.2)) k, rfl, ?_, fun k hk => ?_⟩
 ·show sm _ T.length = _
  rw [G.areas hs hm I]
  exact (area_same rs G.eight (not_far_good G) rs.length (Nat.le_refl _)).1
 ·have p1 := tri_pos hm I (t3_at hk)
  have p2 := tri_in hm I (t3_at hk)
  obtain ⟨_, c1, c2⟩ := twice_in (G.near _ p2.1) (G.near _ p2.2.1) (G.near _ p2.2.2)
  rw [twiceW_near (G.near _ p2.1) (G.near _ p2.2.1) (G.near _ p2.2.2)]
  refine ⟨?_, p1⟩
  have low : ∀ m, m <= T.length -> 0 <= sm (fun i => DI (pt (verts rs) (T.getD i (0, 0, 0)).1) (pt (verts rs) (T.getD i (0, 0, 0)).2.1) (pt (verts rs) (T.getD i (0, 0, 0)).2.2)) m /\ sm (fun i => DI (pt (verts rs) (T.getD i (0, 0, 0)).1) (pt (verts rs) (T.getD i (0, 0, 0)).2.1) (pt (verts rs) (T.getD i (0, 0, 0)).2.2)) m <= 17592186044416 * (m : Int) := by
   intro m
   induction m with
   | zero => intro _; exact ⟨Int.le_refl _, Int.le_refl _⟩
   | succ m ih =>
    intro hm'
    obtain ⟨h1, h2⟩ := ih (by omega)
    have q1 := tri_pos hm I (t3_at (show m < T.length by omega))
    have q2 := tri_in hm I (t3_at (show m < T.length by omega))
    obtain ⟨_, d1, d2⟩ := twice_in (G.near _ q2.1) (G.near _ q2.2.1) (G.near _ q2.2.2)
    rw [sm]
    refine ⟨by omega, by omega⟩
  have hc := G.count hs hm I
  have h64 := G.few
  have h8 := G.eight
  obtain ⟨l1, l2⟩ := low k (by omega)
  show wrap64 (sm _ k + _) = sm _ (k + 1)
  rw [sm, wrap64_in _ (by omega) (by omega)]
theorem rise_at (hs : T.Pairwise lt3) {k : Nat} (hk : k + 1 < T.length) : lt3 (T.getD k (0, 0, 0)) (T.getD (k + 1) (0, 0, 0)) := by
 rw [getD_elem _ _ _ (by omega), getD_elem _ _ _ hk]
 exact List.pairwise_iff_getElem.1 hs k (k + 1) (by omega) hk (by omega)
theorem tri_shape (hm : ∀ i j u, (i, j, u) ∈ T ↔ F i j = some (u : Int) /\ i < j /\ i < u) {k : Nat} (hk : k < T.length) : (T.getD k (0, 0, 0)).1 < (T.getD k (0, 0, 0)).2.1 /\ (T.getD k (0, 0, 0)).1 < (T.getD k (0, 0, 0)).2.2 := ((hm _ _ _).1 (t3_at hk)).2
end
end Go.Proofs.YtdkaoopkbhaheaaGreat
namespace Go.Proofs.YtdkaoopkbhaheaaGreat
open Go.RowKit Go.Lib
open Jor
open scoped Classical
set_option linter.unusedVariables false
set_option linter.unusedSimpArgs false
def sdAt (T : List T3) (q : Nat) : T3 := let t := T.getD (q / 3) (0, 0, 0); if q % 3 = 0 then t else if q % 3 = 1 then (t.2.1, t.2.2, t.1) else (t.2.2, t.1, t.2.1)
theorem sdAt_0 (T : List T3) (k : Nat) : sdAt T (3 * k) = T.getD k (0, 0, 0) := by
 unfold sdAt
 rw [show 3 * k / 3 = k by omega, show 3 * k % 3 = 0 by omega]; rfl
theorem sdAt_1 (T : List T3) (k : Nat) : sdAt T (3 * k + 1) = ((T.getD k (0, 0, 0)).2.1, (T.getD k (0, 0, 0)).2.2, (T.getD k (0, 0, 0)).1) := by
 unfold sdAt
 rw [show (3 * k + 1) / 3 = k by omega, show (3 * k + 1) % 3 = 1 by omega]; rfl
theorem sdAt_2 (T : List T3) (k : Nat) : sdAt T (3 * k + 2) = ((T.getD k (0, 0, 0)).2.2, (T.getD k (0, 0, 0)).1, (T.getD k (0, 0, 0)).2.1) := by
 unfold sdAt
 rw [show (3 * k + 2) / 3 = k by omega, show (3 * k + 2) % 3 = 2 by omega]; rfl
theorem sdAt_sd3 (T : List T3) (q : Nat) : Sd3 (T.getD (q / 3) (0, 0, 0)) (sdAt T q).1 (sdAt T q).2.1 (sdAt T q).2.2 := by
 unfold sdAt
 by_cases h0 : q % 3 = 0
 ·simp only [h0, if_true]; exact .inl rfl
 by_cases h1 : q % 3 = 1
 ·simp only [h0, h1, if_true, if_false]; exact .inr (.inl rfl)
 ·simp only [h0, h1, if_false]; exact .inr (.inr rfl)
def Once (T : List T3) : Prop := ∀ p q, p < q -> q < 3 * T.length -> (sdAt T p).1 = (sdAt T q).1 -> (sdAt T p).2.1 = (sdAt T q).2.1 -> False
def LeftQ (T : List T3) (q a b : Nat) (r s : Int) : Prop := (r = -1 /\ s = -1 /\ ∀ p, p < q -> ¬ ((sdAt T p).1 = a /\ (sdAt T p).2.1 = b)) \/ ∃ p, p < q /\ (sdAt T p).1 = a /\ (sdAt T p).2.1 = b /\ r = ((p / 3 : Nat) : Int) /\ s = ((sdAt T p).2.2 : Int)
theorem LeftQ.none {T : List T3} {q a b : Nat} {r s : Int} (h : LeftQ T q a b r s) (n : ¬ ((sdAt T q).1 = a /\ (sdAt T q).2.1 = b)) : LeftQ T (q + 1) a b r s := by
 rcases h with ⟨rfl, rfl, h⟩ | ⟨p, hp, h⟩
 ·refine .inl ⟨rfl, rfl, fun p hp => ?_⟩
  by_cases e : p = q
  ·subst e; exact n
  ·exact h p (by omega)
 ·exact .inr ⟨p, by omega, h⟩
theorem LeftQ.first {T : List T3} (on : Once T) {q a b : Nat} {r s : Int} (h : LeftQ T q a b r s) (hq : q < 3 * T.length) (ea : (sdAt T q).1 = a) (eb : (sdAt T q).2.1 = b) : r = -1 := by
 rcases h with ⟨rfl, _⟩ | ⟨p, hp, h1, h2, _⟩
 ·rfl
 ·exact (on p q hp hq (h1.trans ea.symm) (h2.trans eb.symm)).elim
theorem LeftQ.hit {T : List T3} {q a b : Nat} (ea : (sdAt T q).1 = a) (eb : (sdAt T q).2.1 = b) : LeftQ T (q + 1) a b ((q / 3 : Nat) : Int) ((sdAt T q).2.2 : Int) := .inr ⟨q, by omega, ea, eb, rfl, rfl⟩
theorem LeftQ.step {T : List T3} (on : Once T) {k m a b u v z : Nat} {r s : Int} (hm : m < 3) (hk : k < T.length) (S : sdAt T (3 * k + m) = (u, v, z)) (h : LeftQ T (3 * k + m) a b r s) :
  (u = a /\ v = b -> r = -1 /\ LeftQ T (3 * k + (m + 1)) a b k z) /\ (¬ (u = a /\ v = b) -> LeftQ T (3 * k + (m + 1)) a b r s) := by
 refine ⟨fun ⟨e1, e2⟩ => ?_, fun n => ?_⟩
 ·have h1 : (sdAt T (3 * k + m)).1 = a := by rw [S]; exact e1
  have h2 : (sdAt T (3 * k + m)).2.1 = b := by rw [S]; exact e2
  refine ⟨h.first on (by omega) h1 h2, ?_⟩
  have := LeftQ.hit h1 h2
  rw [S, show (3 * k + m) / 3 = k by omega] at this
  exact this
 ·exact h.none (by rw [S]; exact n)
theorem LeftQ.left {T : List T3} {a b : Nat} {r s : Int} (h : LeftQ T (3 * T.length) a b r s) : LeftP T a b r s := by
 rcases h with ⟨rfl, rfl, h⟩ | ⟨p, hp, h1, h2, h3, h4⟩
 ·refine .inl ⟨rfl, rfl, fun i hi sd => ?_⟩
  rcases sd with ⟨e1, e2⟩ | ⟨e1, e2⟩ | ⟨e1, e2⟩
  ·exact h (3 * i) (by omega) (by rw [sdAt_0]; exact ⟨e1, e2⟩)
  ·exact h (3 * i + 1) (by omega) (by rw [sdAt_1]; exact ⟨e1, e2⟩)
  ·exact h (3 * i + 2) (by omega) (by rw [sdAt_2]; exact ⟨e1, e2⟩)
 ·refine .inr ⟨p / 3, (sdAt T p).2.2, by omega, ?_, h3, h4⟩
  have := sdAt_sd3 T p
  rw [h1, h2] at this
  exact this
def lfQ (T : List T3) (a b : Nat) : Nat -> Int × Int
 | 0 => (-1, -1)
 | q + 1 => if (sdAt T q).1 = a /\ (sdAt T q).2.1 = b then (((q / 3 : Nat) : Int), ((sdAt T q).2.2 : Int)) else lfQ T a b q
def lfv (T : List T3) (a b : Nat) : Int × Int := lfQ T a b (3 * T.length)
theorem lfQ_ok (T : List T3) (a b : Nat) : ∀ q, LeftQ T q a b (lfQ T a b q).1 (lfQ T a b q).2 := by
 intro q
 induction q with
 | zero => exact .inl ⟨rfl, rfl, fun p hp => by omega⟩
 | succ q ih =>
  rw [lfQ]
  by_cases h : (sdAt T q).1 = a /\ (sdAt T q).2.1 = b
  ·rw [if_pos h]; exact LeftQ.hit h.1 h.2
  ·rw [if_neg h]; exact ih.none h
theorem lfv_ok (T : List T3) (a b : Nat) : LeftP T a b (lfv T a b).1 (lfv T a b).2 := (lfQ_ok T a b _).left
theorem LeftQ.same {T : List T3} (on : Once T) {a b : Nat} {r s r' s' : Int} (h : LeftQ T (3 * T.length) a b r s) (h' : LeftQ T (3 * T.length) a b r' s') : r = r' /\ s = s' := by
 rcases h with ⟨rfl, rfl, h⟩ | ⟨p, hp, h1, h2, h3, h4⟩
 ·rcases h' with ⟨rfl, rfl, _⟩ | ⟨p, hp, h1, h2, _⟩
  ·exact ⟨rfl, rfl⟩
  ·exact absurd ⟨h1, h2⟩ (h p hp)
 ·rcases h' with ⟨_, _, h⟩ | ⟨p', hp', h1', h2', h3', h4'⟩
  ·exact absurd ⟨h1, h2⟩ (h p hp)
  ·have : p = p' := by
    rcases Nat.lt_trichotomy p p' with q | q | q
    ·exact (on p p' q hp' (h1.trans h1'.symm) (h2.trans h2'.symm)).elim
    ·exact q
    ·exact (on p' p q hp (h1'.trans h1.symm) (h2'.trans h2.symm)).elim
   subst this
   exact ⟨h3.trans h3'.symm, h4.trans h4'.symm⟩
theorem once_of {rs : List (List IP)} {L : List (Nat × Nat)} {F : Nat -> Nat -> Option Int} {T : List T3} (hs : T.Pairwise lt3) (hm : ∀ i j u, (i, j, u) ∈ T ↔ F i j = some (u : Int) /\ i < j /\ i < u) (I : FInv (pt (verts rs)) (verts rs).length (bnx rs) (bpv rs) L F L.length) : Once T := by
 intro p q hpq hq e1 e2
 have sp := sdAt_sd3 T p
 have sq := sdAt_sd3 T q
 rw [e1, e2] at sp
 have e := Sd.one hs hm I (show p / 3 < T.length by omega) (show q / 3 < T.length by omega) sp.sd sq.sd
 have tp := tri_shape hm (show q / 3 < T.length by omega)
 have hk := hm _ _ _ |>.1 (t3_at (show q / 3 < T.length by omega))
 have n2 : (T.getD (q / 3) (0, 0, 0)).2.1 ≠ (T.getD (q / 3) (0, 0, 0)).2.2 := by
  obtain ⟨_, k2, _⟩ := I.front.tri _ _ _ (thF_some hk.1)
  exact I.front.ne _ _ k2
 unfold sdAt at e1 e2
 rw [e] at e1 e2
 generalize T.getD (q / 3) (0, 0, 0) = t at *
 obtain ⟨x, y, z⟩ := t
 simp only at e1 e2 tp n2
 have a0 : p % 3 = 0 \/ p % 3 = 1 \/ p % 3 = 2 := by omega
 have b0 : q % 3 = 0 \/ q % 3 = 1 \/ q % 3 = 2 := by omega
 rcases a0 with a0 | a0 | a0 <;> rcases b0 with b0 | b0 | b0 <;> simp [a0, b0] at e1 e2 <;> omega
set_option maxRecDepth 100000 in
theorem rises_any (p0 p1 p2 q0 q1 q2 : Nat) (w : World) (h : lt3 (p0, p1, p2) (q0, q1, q2)) :
  Calls Tryz.prog 44 #[.agg #[.int .i64 (p0 : Int), .int .i64 (p1 : Int), .int .i64 (p2 : Int)], .agg #[.int .i64 (q0 : Int), .int .i64 (q1 : Int), .int .i64 (q2 : Int)]] w fun e w' => e = .returned (.bool true) /\ Below w.heap.size w w' := by
 go_enter Tryz.func44, Tryz.ntmps44
 obtain ⟨W, hW⟩ : ∃ W, W = (w.alloc (.cells #[.int .i64 (p0 : Int), .int .i64 (p1 : Int), .int .i64 (p2 : Int)] 53)).alloc (.cells #[.int .i64 (q0 : Int), .int .i64 (q1 : Int), .int .i64 (q2 : Int)] 53) := ⟨_, rfl⟩
 obtain ⟨B1, B2, B3⟩ := allocs2 w (.cells #[.int .i64 (p0 : Int), .int .i64 (p1 : Int), .int .i64 (p2 : Int)] 53) (.cells #[.int .i64 (q0 : Int), .int .i64 (q1 : Int), .int .i64 (q2 : Int)] 53)
 have hb : Below w.heap.size w W := by rw [hW]; exact ((Below.refl _ _).alloc (Nat.le_refl _) _).alloc (by simp) _
 rw [<- hW] at B1 B2
 have c0 : W.cell? ⟨w.heap.size, 0, none⟩ = some (.int .i64 (p0 : Int)) := by simp [World.cell?, B1]
 have c1 : W.cell? ⟨w.heap.size, 1, none⟩ = some (.int .i64 (p1 : Int)) := by simp [World.cell?, B1]
 have c2 : W.cell? ⟨w.heap.size, 2, none⟩ = some (.int .i64 (p2 : Int)) := by simp [World.cell?, B1]
 have d0 : W.cell? ⟨w.heap.size + 1, 0, none⟩ = some (.int .i64 (q0 : Int)) := by simp [World.cell?, B2]
 have d1 : W.cell? ⟨w.heap.size + 1, 1, none⟩ = some (.int .i64 (q1 : Int)) := by simp [World.cell?, B2]
 have d2 : W.cell? ⟨w.heap.size + 1, 2, none⟩ = some (.int .i64 (q2 : Int)) := by simp [World.cell?, B2]
 clear B1 B2 B3
 go_wp2
 rw [<- hW]
 clear hW
 go_loopw [5] (fun y wq => ∃ m : Nat, m <= 2 /\ y = .int .i64 m /\ (0 < m -> p0 = q0) /\ (1 < m -> p1 = q1) /\ Below W.heap.size W wq) (fun y _ => 3 - (intOf y).toNat)
 case atStart => exact ⟨0, by omega, rfl, fun h => by omega, fun h => by omega, Below.refl _ _⟩
 case round =>
  obtain ⟨m, hm, rfl, h0, h1, hbq⟩ := hrel
  have c0 := cell_later hbq c0
  have c1 := cell_later hbq c1
  have c2 := cell_later hbq c2
  have d0 := cell_later hbq d0
  have d1 := cell_later hbq d1
  have d2 := cell_later hbq d2
  have hb2 := below_then hb hbq
  unfold lt3 at h
  simp only at h
  rcases (show m = 0 \/ m = 1 \/ m = 2 by omega) with rfl | rfl | rfl
  ·clear h0 h1
   by_cases e : p0 = q0
   ·have e' : (p0 : Int) = (q0 : Int) := by omega
    go_upto_region 4 with fail
    refine wp_region_cls (R := Below wr.heap.size wr) (by kernel_rfl) (by kernel_rfl) (Below.refl _ _).drew ?_
    have inst : Nonempty (Cls (Below wr.heap.size wr)) := ⟨⟨wr, Below.refl _ _⟩⟩
    have cg0 := fun x => Cls.cell (W := wr) x c0
    have cg1 := fun x => Cls.cell (W := wr) x d0
    repeat (first | go_big_quiet_step (fail) | quiet_step (fail))
    refine wpQuiet_nil ?_
    intro w4 hw'
    obtain ⟨xq, hxq⟩ := hw'
    have hb4 := xq.ok
    rw [<- hxq] at hb4
    clear hxq xq inst cg0 cg1
    go_wp2
    go_roundw
    case rel => exact ⟨1, by omega, by go_num, fun _ => e, fun h => by omega, below_then hbq hb4⟩
    case measure => simp [intOf]
   ·have e' : ¬ (p0 : Int) = (q0 : Int) := by omega
    have l : (p0 : Int) < (q0 : Int) := by omega
    go_upto_region 4 with fail
    refine wp_region_cls (R := Below wr.heap.size wr) (by kernel_rfl) (by kernel_rfl) (Below.refl _ _).drew ?_
    have inst : Nonempty (Cls (Below wr.heap.size wr)) := ⟨⟨wr, Below.refl _ _⟩⟩
    have cg0 := fun x => Cls.cell (W := wr) x c0
    have cg1 := fun x => Cls.cell (W := wr) x d0
    repeat (first | go_big_quiet_step (fail) | quiet_step (fail))
    refine wpQuiet_nil ?_
    intro w4 hw'
    obtain ⟨xq, hxq⟩ := hw'
    have hb4 := xq.ok
    rw [<- hxq] at hb4
    clear hxq xq inst cg0 cg1
    have c0 := cell_later hb4 c0
    have d0 := cell_later hb4 d0
    go_upto_region 5 with fail
    refine wp_region_cls (R := Below w4.heap.size w4) (by kernel_rfl) (by kernel_rfl) (Below.refl _ _).drew ?_
    have inst : Nonempty (Cls (Below w4.heap.size w4)) := ⟨⟨w4, Below.refl _ _⟩⟩
    have cg0 := fun x => Cls.cell (W := w4) x c0
    have cg1 := fun x => Cls.cell (W := w4) x d0
    repeat (first | go_big_quiet_step (fail) | quiet_step (fail))
    refine wpQuiet_nil ?_
    intro w5 hw'
    obtain ⟨xq, hxq⟩ := hw'
    have hb5 := xq.ok
    rw [<- hxq] at hb5
    clear hxq xq inst cg0 cg1
    go_wp2
    go_ret
    exact ⟨by simp, below_then (below_then hb2 hb4) hb5⟩
  ·have h0 := h0 (by omega)
   clear h1
   by_cases e : p1 = q1
   ·have e' : (p1 : Int) = (q1 : Int) := by omega
    go_upto_region 4 with fail
    refine wp_region_cls (R := Below wr.heap.size wr) (by kernel_rfl) (by kernel_rfl) (Below.refl _ _).drew ?_
    have inst : Nonempty (Cls (Below wr.heap.size wr)) := ⟨⟨wr, Below.refl _ _⟩⟩
    have cg0 := fun x => Cls.cell (W := wr) x c1
    have cg1 := fun x => Cls.cell (W := wr) x d1
    repeat (first | go_big_quiet_step (fail) | quiet_step (fail))
    refine wpQuiet_nil ?_
    intro w4 hw'
    obtain ⟨xq, hxq⟩ := hw'
    have hb4 := xq.ok
    rw [<- hxq] at hb4
    clear hxq xq inst cg0 cg1
    go_wp2
    go_roundw
    case rel => exact ⟨2, by omega, by go_num, fun _ => h0, fun h => e, below_then hbq hb4⟩
    case measure => simp [intOf]
   ·have e' : ¬ (p1 : Int) = (q1 : Int) := by omega
    have l : (p1 : Int) < (q1 : Int) := by omega
    go_upto_region 4 with fail
    refine wp_region_cls (R := Below wr.heap.size wr) (by kernel_rfl) (by kernel_rfl) (Below.refl _ _).drew ?_
    have inst : Nonempty (Cls (Below wr.heap.size wr)) := ⟨⟨wr, Below.refl _ _⟩⟩
    have cg0 := fun x => Cls.cell (W := wr) x c1
    have cg1 := fun x => Cls.cell (W := wr) x d1
    repeat (first | go_big_quiet_step (fail) | quiet_step (fail))
    refine wpQuiet_nil ?_
    intro w4 hw'
    obtain ⟨xq, hxq⟩ := hw'
    have hb4 := xq.ok
    rw [<- hxq] at hb4
    clear hxq xq inst cg0 cg1
    have c1 := cell_later hb4 c1
    have d1 := cell_later hb4 d1
    go_upto_region 5 with fail
    refine wp_region_cls (R := Below w4.heap.size w4) (by kernel_rfl) (by kernel_rfl) (Below.refl _ _).drew ?_
    have inst : Nonempty (Cls (Below w4.heap.size w4)) := ⟨⟨w4, Below.refl _ _⟩⟩
    have cg0 := fun x => Cls.cell (W := w4) x c1
    have cg1 := fun x => Cls.cell (W := w4) x d1
    repeat (first | go_big_quiet_step (fail) | quiet_step (fail))
    refine wpQuiet_nil ?_
    intro w5 hw'
    obtain ⟨xq, hxq⟩ := hw'
    have hb5 := xq.ok
    rw [<- hxq] at hb5
    clear hxq xq inst cg0 cg1
    go_wp2
    go_ret
    exact ⟨by simp, below_then (below_then hb2 hb4) hb5⟩
  ·have h0 := h0 (by omega)
   have h1 := h1 (by omega)
   have e' : ¬ (p2 : Int) = (q2 : Int) := by omega
   have l : (p2 : Int) < (q2 : Int) := by omega
   go_upto_region 4 with fail
   refine wp_region_cls (R := Below wr.heap.size wr) (by kernel_rfl) (by kernel_rfl) (Below.refl _ _).drew ?_
   have inst : Nonempty (Cls (Below wr.heap.size wr)) := ⟨⟨wr, Below.refl _ _⟩⟩
   have cg0 := fun x => Cls.cell (W := wr) x c2
   have cg1 := fun x => Cls.cell (W := wr) x d2
   repeat (first | go_big_quiet_step (fail) | quiet_step (fail))
   refine wpQuiet_nil ?_
   intro w4 hw'
   obtain ⟨xq, hxq⟩ := hw'
   have hb4 := xq.ok
   rw [<- hxq] at hb4
   clear hxq xq inst cg0 cg1
   have c2 := cell_later hb4 c2
   have d2 := cell_later hb4 d2
   go_upto_region 5 with fail
   refine wp_region_cls (R := Below w4.heap.size w4) (by kernel_rfl) (by kernel_rfl) (Below.refl _ _).drew ?_
   have inst : Nonempty (Cls (Below w4.heap.size w4)) := ⟨⟨w4, Below.refl _ _⟩⟩
   have cg0 := fun x => Cls.cell (W := w4) x c2
   have cg1 := fun x => Cls.cell (W := w4) x d2
   repeat (first | go_big_quiet_step (fail) | quiet_step (fail))
   refine wpQuiet_nil ?_
   intro w5 hw'
   obtain ⟨xq, hxq⟩ := hw'
   have hb5 := xq.ok
   rw [<- hxq] at hb5
   clear hxq xq inst cg0 cg1
   go_wp2
   go_ret
   exact ⟨by simp, below_then (below_then hb2 hb4) hb5⟩
set_option maxRecDepth 100000 in
theorem xleft_any (x bt ct : Nat) (T : List T3) (a b : Nat) (w : World) (hT : T.length <= 1048576) (on : Once T) (x4 : w.cell? ⟨x, 4, none⟩ = some (.slice (some ⟨bt, 0, none⟩) T.length ct)) (ht : TriAt w bt T) :
  Calls Tryz.prog 26 #[.pointer (some ⟨x, 0, none⟩), .int .i64 (a : Int), .int .i64 (b : Int)] w fun e w' => e = .returned (.tuple #[.int .i64 (lfv T a b).1, .int .i64 (lfv T a b).2]) /\ Below w.heap.size w w' := by
 have HT : Hid (TriAt w bt T) := ht
 have ON : Hid (Once T) := on
 clear ht on
 go_enter Tryz.func26, Tryz.ntmps26
 go_wp2
 go_loopw [8, 9, 10, 11] (fun at_ th x _ wr => ∃ (k : Nat) (r s : Int), k <= T.length /\ x = .int .i64 k /\ at_ = .int .i64 r /\ th = .int .i64 s /\ LeftQ T (3 * k) a b r s /\ wr = w) (fun _ _ x _ _ => T.length - (intOf x).toNat)
 case atStart => exact ⟨0, -1, -1, Nat.zero_le _, rfl, rfl, rfl, .inl ⟨rfl, rfl, fun p hp => by omega⟩, rfl⟩
 case round =>
  obtain ⟨k, r, s, hk, rfl, rfl, rfl, hq, rfl⟩ := hrel
  have HQ : Hid (LeftQ T (3 * k) a b r s) := hq
  clear hq
  by_cases hlt : k < T.length
  ·obtain ⟨t0, t1, t2⟩ := HT.out k hlt
   have k0 : (0 : Int) <= (k : Int) := by omega
   have kn : (k : Int) < (T.length : Int) := by omega
   have S0 : Hid (sdAt T (3 * k) = ((T.getD k (0, 0, 0)).1, (T.getD k (0, 0, 0)).2.1, (T.getD k (0, 0, 0)).2.2)) := sdAt_0 T k
   have S1 : Hid (sdAt T (3 * k + 1) = ((T.getD k (0, 0, 0)).2.1, (T.getD k (0, 0, 0)).2.2, (T.getD k (0, 0, 0)).1)) := sdAt_1 T k
   have S2 : Hid (sdAt T (3 * k + 2) = ((T.getD k (0, 0, 0)).2.2, (T.getD k (0, 0, 0)).1, (T.getD k (0, 0, 0)).2.1)) := sdAt_2 T k
   generalize (T.getD k (0, 0, 0)).1 = p0 at *
   generalize (T.getD k (0, 0, 0)).2.1 = p1 at *
   generalize (T.getD k (0, 0, 0)).2.2 = p2 at *
   go_wp2
   go_loopw [8, 9, 11] (fun at_ th y wq => ∃ (m : Nat) (r s : Int), m <= 3 /\ y = .int .i64 m /\ at_ = .int .i64 r /\ th = .int .i64 s /\ LeftQ T (3 * k + m) a b r s /\ wq = wr) (fun _ _ y _ => 3 - (intOf y).toNat)
   case atStart => exact ⟨0, r, s, by omega, rfl, rfl, rfl, HQ.out, by first | rfl | trivial⟩
   case round =>
    obtain ⟨m, r, s, hm, rfl, rfl, rfl, hq, rfl⟩ := hrel
    clear HQ
    have HQ : Hid (LeftQ T (3 * k + m) a b r s) := hq
    clear hq
    rcases (show m = 0 \/ m = 1 \/ m = 2 \/ m = 3 by omega) with rfl | rfl | rfl | rfl
    ·obtain ⟨hA, hB⟩ := LeftQ.step ON.out (m := 0) (by decide) hlt S0.out HQ.out
     by_cases h1 : p0 = a
     ·by_cases h2 : p1 = b
      ·obtain ⟨rfl, hn⟩ := hA ⟨h1, h2⟩
       have HN : Hid (LeftQ T (3 * k + 1) a b k p2) := hn
       have e1 : (p0 : Int) = (a : Int) := by omega
       have e2 : (p1 : Int) = (b : Int) := by omega
       clear hn hA hB HQ
       go_wp2
       go_roundw
       case rel => exact ⟨1, _, _, by omega, by go_num, rfl, rfl, HN.out, by first | rfl | trivial⟩
       case measure => simp [intOf]
      ·have HN : Hid (LeftQ T (3 * k + 1) a b r s) := hB (fun h => h2 h.2)
       have e1 : (p0 : Int) = (a : Int) := by omega
       have e2 : ¬ (p1 : Int) = (b : Int) := by omega
       clear hA hB HQ
       go_wp2
       go_roundw
       case rel => exact ⟨1, _, _, by omega, by go_num, rfl, rfl, HN.out, by first | rfl | trivial⟩
       case measure => simp [intOf]
     ·have HN : Hid (LeftQ T (3 * k + 1) a b r s) := hB (fun h => h1 h.1)
      have e1 : ¬ (p0 : Int) = (a : Int) := by omega
      clear hA hB HQ
      go_wp2
      go_roundw
      case rel => exact ⟨1, _, _, by omega, by go_num, rfl, rfl, HN.out, by first | rfl | trivial⟩
      case measure => simp [intOf]
    ·obtain ⟨hA, hB⟩ := LeftQ.step ON.out (m := 1) (by decide) hlt S1.out HQ.out
     by_cases h1 : p1 = a
     ·by_cases h2 : p2 = b
      ·obtain ⟨rfl, hn⟩ := hA ⟨h1, h2⟩
       have HN : Hid (LeftQ T (3 * k + 2) a b k p0) := hn
       have e1 : (p1 : Int) = (a : Int) := by omega
       have e2 : (p2 : Int) = (b : Int) := by omega
       clear hn hA hB HQ
       go_wp2
       go_roundw
       case rel => exact ⟨2, _, _, by omega, by go_num, rfl, rfl, HN.out, by first | rfl | trivial⟩
       case measure => simp [intOf]
      ·have HN : Hid (LeftQ T (3 * k + 2) a b r s) := hB (fun h => h2 h.2)
       have e1 : (p1 : Int) = (a : Int) := by omega
       have e2 : ¬ (p2 : Int) = (b : Int) := by omega
       clear hA hB HQ
       go_wp2
       go_roundw
       case rel => exact ⟨2, _, _, by omega, by go_num, rfl, rfl, HN.out, by first | rfl | trivial⟩
       case measure => simp [intOf]
     ·have HN : Hid (LeftQ T (3 * k + 2) a b r s) := hB (fun h => h1 h.1)
      have e1 : ¬ (p1 : Int) = (a : Int) := by omega
      clear hA hB HQ
      go_wp2
      go_roundw
      case rel => exact ⟨2, _, _, by omega, by go_num, rfl, rfl, HN.out, by first | rfl | trivial⟩
      case measure => simp [intOf]
    ·obtain ⟨hA, hB⟩ := LeftQ.step ON.out (m := 2) (by decide) hlt S2.out HQ.out
     by_cases h1 : p2 = a
     ·by_cases h2 : p0 = b
      ·obtain ⟨rfl, hn⟩ := hA ⟨h1, h2⟩
       have HN : Hid (LeftQ T (3 * k + 3) a b k p1) := hn
       have e1 : (p2 : Int) = (a : Int) := by omega
       have e2 : (p0 : Int) = (b : Int) := by omega
       clear hn hA hB HQ
       go_wp2
       go_roundw
       case rel => exact ⟨3, _, _, by omega, by go_num, rfl, rfl, HN.out, by first | rfl | trivial⟩
       case measure => simp [intOf]
      ·have HN : Hid (LeftQ T (3 * k + 3) a b r s) := hB (fun h => h2 h.2)
       have e1 : (p2 : Int) = (a : Int) := by omega
       have e2 : ¬ (p0 : Int) = (b : Int) := by omega
       clear hA hB HQ
       go_wp2
       go_roundw
       case rel => exact ⟨3, _, _, by omega, by go_num, rfl, rfl, HN.out, by first | rfl | trivial⟩
       case measure => simp [intOf]
     ·have HN : Hid (LeftQ T (3 * k + 3) a b r s) := hB (fun h => h1 h.1)
      have e1 : ¬ (p2 : Int) = (a : Int) := by omega
      clear hA hB HQ
      go_wp2
      go_roundw
      case rel => exact ⟨3, _, _, by omega, by go_num, rfl, rfl, HN.out, by first | rfl | trivial⟩
      case measure => simp [intOf]
    ·go_wp2
     go_roundw
     case rel => exact ⟨k + 1, r, s, by omega, by go_num, rfl, rfl, HQ.out, by first | rfl | trivial⟩
     case measure => simp [intOf]; omega
  ·have : k = T.length := by omega
   subst this
   obtain ⟨e1, e2⟩ := HQ.out.same ON.out (lfQ_ok T a b _)
   go_wp2
   go_ret2
   refine ⟨?_, Below.refl _ _⟩
   rw [e1, e2]; rfl
end Go.Proofs.YtdkaoopkbhaheaaGreat
