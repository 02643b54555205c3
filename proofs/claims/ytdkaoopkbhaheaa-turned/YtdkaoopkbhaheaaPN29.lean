import Derived.Test.YtdkaoopkbhaheaaPP27
import Derived.Test.YtdkaoopkbhaheaaPN25
import Derived.Test.YtdkaoopkbhaheaaPN22
namespace Go.Proofs.Ytdkaoopkbhaheaa
open Go.RowKit Go.Lib
open Jor
set_option linter.unusedVariables false
set_option linter.unusedSimpArgs false
def bs0 (T : List T3) (k : Nat) : Int := rgt (leftF T T.length) (T.getD k (0, 0, 0)).1 (T.getD k (0, 0, 0)).2.1
def bs1 (T : List T3) (k : Nat) : Int := rgt (leftF T T.length) (T.getD k (0, 0, 0)).2.1 (T.getD k (0, 0, 0)).2.2
def bs2 (T : List T3) (k : Nat) : Int := rgt (leftF T T.length) (T.getD k (0, 0, 0)).2.2 (T.getD k (0, 0, 0)).1
theorem D_same (a b : Pt) : D a b a = 0 ∧ D a b b = 0 := ⟨by unfold D; grind, by unfold D; grind⟩
theorem found_facts {rs : List (List IP)} (G : Good rs) {B : Nat} {w : World} {bM : Nat} {T : List T3} {F : Nat → Nat → Option Int} (h : MeshP B w rs bM T F) :
    (∀ i, i < (verts rs).length → ∀ r, LocI (pt (verts rs)) T (pt (verts rs) i) r → ∃ k : Nat, k < T.length ∧ r = k ∧ ((T.getD k (0, 0, 0)).1 = i ∨ (T.getD k (0, 0, 0)).2.1 = i ∨ (T.getD k (0, 0, 0)).2.2 = i)) ∧
    ∀ k, k < T.length → ∀ a b, Sd (T.getD k (0, 0, 0)) a b → ((∃ q, q < rs.length ∧ OwnK rs a b q) ∧ rgt (leftF T T.length) a b = -1) ∨ (¬ (∃ q, q < rs.length ∧ OwnK rs a b q) ∧ ∃ j : Nat, j < T.length ∧ rgt (leftF T T.length) a b = j ∧ (bs0 T j = k ∨ bs1 T j = k ∨ bs2 T j = k)) := by
  obtain ⟨_, ⟨g, c', y, bl, L, h2, h3, I⟩, hs, hm⟩ := h
  refine ⟨fun i hi r hr => ?_, fun k hk a b hsd => ?_⟩
  · have near := G.near i hi
    rcases hr with ⟨rfl, h | h⟩ | ⟨k, hk, rfl, hb, hc, _⟩
    · rw [(near_bnd _).1 near] at h; cases h
    · exfalso
      obtain ⟨t, ht, ho⟩ := G.corner hm I hi
      obtain ⟨k, hk, e⟩ := t3_in ht
      have h1 := h k hk
      obtain ⟨l0, l1, l2⟩ := tri_in hm I ht
      obtain ⟨a, b, c⟩ := t
      obtain ⟨_, _, _, _, _, l, _⟩ := I.front.tri _ _ _ (thF_some ((hm _ _ _).1 ht).1)
      unfold covT at h1
      rw [e] at h1
      have h2 := (coverB_iff (fun i hi => G.near i hi) l0 l1 l2 near).2 (by
        have z1 := D_same (toR (pt (verts rs) a)) (toR (pt (verts rs) b))
        have z2 := D_same (toR (pt (verts rs) b)) (toR (pt (verts rs) c))
        have z3 := D_same (toR (pt (verts rs) c)) (toR (pt (verts rs) a))
        have r1 := l
        rw [D_rot] at r1
        have r2 := r1
        rw [D_rot] at r2
        rcases ho with rfl | rfl | rfl
        · exact ⟨by grind, by grind, by grind⟩
        · exact ⟨by grind, by grind, by grind⟩
        · exact ⟨by grind, by grind, by grind⟩)
      rw [h2] at h1; cases h1
    · refine ⟨k, hk, rfl, ?_⟩
      have ht := t3_at hk
      unfold covT at hc
      obtain ⟨l0, l1, l2⟩ := tri_in hm I ht
      generalize T.getD k (0, 0, 0) = t at *
      obtain ⟨a, b, c⟩ := t
      obtain ⟨_, _, _, _, _, _, no⟩ := I.front.tri _ _ _ (thF_some ((hm _ _ _).1 ht).1)
      have hc' := (coverB_iff (fun i hi => G.near i hi) l0 l1 l2 near).1 hc
      simp only
      by_cases q1 : a = i
      · exact .inl q1
      by_cases q2 : b = i
      · exact .inr (.inl q2)
      by_cases q3 : c = i
      · exact .inr (.inr q3)
      exact absurd hc' (no i hi (Ne.symm q1) (Ne.symm q2) (Ne.symm q3))
  · have kk := Sd.known hm I (t3_at hk) hsd
    have ha := I.front.fa _ _ kk
    have hb := I.front.fb _ _ kk
    rw [own_iff G ha hb]
    have nb : bnx rs b ≠ a := fun e => by
      have := I.front.nb b hb
      rw [e] at this
      exact this kk
    rcases rgt_of hs hm I hk hsd with ⟨h1, h2⟩ | ⟨h1, j, hj, h2, h3⟩
    · exact .inl ⟨.inl h1, h2⟩
    · refine .inr ⟨fun h => by rcases h with h | h; exact h1 h; exact nb h, j, hj, h2, ?_⟩
      have back := rgt_back hs hm I hk hsd
      unfold bs0 bs1 bs2
      rcases h3 with ⟨e1, e2⟩ | ⟨e1, e2⟩ | ⟨e1, e2⟩
      · exact .inl (by rw [e1, e2]; exact back)
      · exact .inr (.inl (by rw [e1, e2]; exact back))
      · exact .inr (.inr (by rw [e1, e2]; exact back))
end Go.Proofs.Ytdkaoopkbhaheaa
namespace Go.Proofs.Ytdkaoopkbhaheaa
open Go.RowKit Go.Lib
open Jor
open scoped Classical
set_option linter.unusedVariables false
set_option linter.unusedSimpArgs false
theorem fbeside2 (B bM : Nat) (rs : List (List IP)) (T : List T3) (F : Nat → Nat → Option Int) (k : Nat) (w : World) (hT : T.length ≤ 1048576) (hk : k < T.length) (hl : ∀ t ∈ T, t.1 < 64 ∧ t.2.1 < 64 ∧ t.2.2 < 64) (hM : MeshP B w rs bM T F) :
    Calls Try.prog 38 #[.pointer (some ⟨bM, 0, none⟩), .int .i64 (k : Int)] w fun e w' => e = .returned (.tuple #[.agg #[.int .i64 (bs0 T k), .int .i64 (bs1 T k), .int .i64 (bs2 T k)], .int .i64 0]) ∧ Below w.heap.size w w' := fbeside_any B bM rs T F k w hT hk hl hM
theorem bne_true {a b : Int} (h : a ≠ b) : (a != b) = true := by simp [h]
end Go.Proofs.Ytdkaoopkbhaheaa
