import Derived.Test.YtdkaoopkbhaheaaPN35
import Derived.Test.YtdkaoopkbhaheaaPN29
namespace Go.Proofs.Ytdkaoopkbhaheaa
open Go.RowKit Go.Lib
open Jor
open scoped Classical
set_option linter.unusedVariables false
set_option linter.unusedSimpArgs false
def crc (V : Nat → IP) (t : T3) (x : Nat) : Int := circleW (V t.1).1 (V t.1).2 (V t.2.1).1 (V t.2.1).2 (V t.2.2).1 (V t.2.2).2 (V x).1 (V x).2
def SideOK (rs : List (List IP)) (T : List T3) (i a b : Nat) : Prop := ¬ (bnx rs a = b ∨ bnx rs b = a) → ∀ n : Nat, rgt (leftF T T.length) a b = (n : Int) → n < T.length → ∀ x, (x = (T.getD n (0, 0, 0)).1 ∨ x = (T.getD n (0, 0, 0)).2.1 ∨ x = (T.getD n (0, 0, 0)).2.2) → x ≠ (T.getD i (0, 0, 0)).1 → x ≠ (T.getD i (0, 0, 0)).2.1 → x ≠ (T.getD i (0, 0, 0)).2.2 → crc (pt (verts rs)) (T.getD i (0, 0, 0)) x ≠ 0
theorem incI_rot (a b v w : IP) : incI a b v w = incI b v a w := by unfold incI DI Geo.D; grind
theorem strict_of {rs : List (List IP)} (G : Good rs) {L : List (Nat × Nat)} {F : Nat → Nat → Option Int} {T : List T3} (hs : T.Pairwise lt3) (hm : ∀ i j u, (i, j, u) ∈ T ↔ F i j = some (u : Int) ∧ i < j ∧ i < u) (I : FInv (pt (verts rs)) (verts rs).length (bnx rs) (bpv rs) L F L.length)
    (ok : ∀ i, i < T.length → ∀ a b, Sd (T.getD i (0, 0, 0)) a b → SideOK rs T i a b) :
    ∀ a b v w, thF F a b = some v → thF F b a = some w → incI (pt (verts rs) a) (pt (verts rs) b) (pt (verts rs) v) (pt (verts rs) w) < 0 := by
  intro a b v w h h'
  obtain ⟨k1, k2, k3, t2, t3, l, _⟩ := I.front.tri _ _ _ h
  obtain ⟨q1, q2, q3, _, _, l', _⟩ := I.front.tri _ _ _ h'
  have ha := I.front.fa _ _ k1; have hb := I.front.fb _ _ k1; have hv := I.front.fb _ _ k2; have hw := I.front.fb _ _ q2
  have le := I.del.two _ _ _ _ h h'
  rw [inc_toR] at le
  have le := (le_toR _ 0).1 le
  obtain ⟨i, hi, si⟩ := Sd.of_th hm I h
  obtain ⟨j, hj, sj⟩ := Sd.of_th hm I h'
  have rj := rgt_back hs hm I hj sj
  have nb : ¬ (bnx rs a = b ∨ bnx rs b = a) := by
    rintro (e | e)
    · exact I.front.nb a ha (by rw [e]; exact q1)
    · exact I.front.nb b hb (by rw [e]; exact k1)
  obtain ⟨c, hc, tc⟩ := Sd.th hm I (t3_at hi) si
  rw [h] at hc; cases hc
  obtain ⟨d, hd, td⟩ := Sd.th hm I (t3_at hj) sj
  rw [h'] at hd; cases hd
  have wb := I.front.ne _ _ q3
  have wa := I.front.ne _ _ q2
  have wv : w ≠ v := fun e => by
    subst e
    rw [D_flip] at l'
    grind
  have key := ok i hi a b si nb j rj hj w (by
    rcases td with ⟨e, _⟩ | ⟨e, _⟩ | ⟨e, _⟩ <;> rw [e] <;> simp)
    (by rcases tc with ⟨e, _⟩ | ⟨e, _⟩ | ⟨e, _⟩ <;> rw [e] <;> simp <;> omega)
    (by rcases tc with ⟨e, _⟩ | ⟨e, _⟩ | ⟨e, _⟩ <;> rw [e] <;> simp <;> omega)
    (by rcases tc with ⟨e, _⟩ | ⟨e, _⟩ | ⟨e, _⟩ <;> rw [e] <;> simp <;> omega)
  have nz : incI (pt (verts rs) a) (pt (verts rs) b) (pt (verts rs) v) (pt (verts rs) w) ≠ 0 := by
    intro e
    apply key
    unfold crc
    rcases tc with ⟨q, _⟩ | ⟨q, _⟩ | ⟨q, _⟩ <;> rw [q] <;> simp only
    · rw [circleW_eq _ _ _ _ (G.near _ ha) (G.near _ hb) (G.near _ hv) (G.near _ hw), e]; rfl
    · rw [circleW_eq _ _ _ _ (G.near _ hv) (G.near _ ha) (G.near _ hb) (G.near _ hw), incI_rot, e]; rfl
    · rw [circleW_eq _ _ _ _ (G.near _ hb) (G.near _ hv) (G.near _ ha) (G.near _ hw), ← incI_rot, e]; rfl
  omega
end Go.Proofs.Ytdkaoopkbhaheaa
