import Derived.Deep.RegionHeld3
import Derived.WalkKit
namespace Go.Proofs.Ytdkaoopkbhaheaa
section
variable {P : Program} {ops : Array Oper} {Q : Exit → Act → World → Prop} {md : Region.Mode}
theorem wpAny_states {σ : Type} (lst : σ → Array Bool) (next : σ → List (Nat × σ)) (μ : σ → Nat) (I : σ → Act → World → Prop)
    (hr : ∀ s, Region.ready md ops (lst s) = (next s).map Prod.fst)
    (hl : ∀ s, ∀ x ∈ next s, (lst s).setIfInBounds x.1 true = lst x.2)
    (hμ : ∀ s, ∀ x ∈ next s, μ x.2 < μ s)
    (hstep : ∀ s a w, I s a w → ∀ x ∈ next s, wpOp P ops Q x.1 (I x.2) a w)
    (hend : ∀ s a w, I s a w → next s = [] → Q .normal a w) :
    ∀ fuel s a w, μ s ≤ fuel → I s a w → wpAny P md ops Q fuel (lst s) a w := by
  intro fuel
  induction fuel with
  | zero =>
    intro s a w hm hI
    have hn : next s = [] := by
      cases h : next s with
      | nil => rfl
      | cons x xs => have := hμ s x (by rw [h]; exact List.mem_cons_self ..); omega
    exact ⟨by rw [hr, hn]; rfl, hend s a w hI hn⟩
  | succ fuel ih =>
    intro s a w hm hI
    refine ⟨fun h => hend s a w hI ?_, fun i hi => ?_⟩
    · rw [hr] at h
      exact List.map_eq_nil_iff.1 h
    · rw [hr] at hi
      obtain ⟨x, hx, rfl⟩ := List.mem_map.1 hi
      rw [hl s x hx]
      refine wpOp_mono (fun a' w' h' => ih x.2 a' w' ?_ h') (hstep s a w hI x hx)
      have := hμ s x hx
      omega
theorem wp_region_states {id : Nat} {σ : Type} (lst : σ → Array Bool) (next : σ → List (Nat × σ)) (μ : σ → Nat) (I : σ → Act → World → Prop) (s0 : σ) {a : Act} {w : World}
    (hm : P.follows .mixedOrders = true)
    (h0 : lst s0 = Array.replicate ops.size false)
    (hz : μ s0 ≤ ops.size)
    (hr : ∀ s, Region.ready .any ops (lst s) = (next s).map Prod.fst)
    (hl : ∀ s, ∀ x ∈ next s, (lst s).setIfInBounds x.1 true = lst x.2)
    (hμ : ∀ s, ∀ x ∈ next s, μ x.2 < μ s)
    (hI : I s0 a w.drew)
    (hstep : ∀ s a w, I s a w → ∀ x ∈ next s, wpOp P ops Q x.1 (I x.2) a w)
    (hend : ∀ s a w, I s a w → next s = [] → Q .normal a w) : (Code.region id ops true).wp P Q a w := by
  refine wp_region_any hm ?_
  rw [← h0]
  exact wpAny_states lst next μ I hr hl hμ hstep hend ops.size s0 a _ hz hI
theorem wpAnyH_states {S : World → Prop} {σ : Type} (lst : σ → Array Bool) (next : σ → List (Nat × σ)) (μ : σ → Nat) (I : σ → Act → World → Prop)
    (hr : ∀ s, Region.ready md ops (lst s) = (next s).map Prod.fst)
    (hl : ∀ s, ∀ x ∈ next s, (lst s).setIfInBounds x.1 true = lst x.2)
    (hμ : ∀ s, ∀ x ∈ next s, μ x.2 < μ s)
    (hstep : ∀ s a w, I s a w → ∀ x ∈ next s, wpOp P ops Q x.1 (fun a' w' => S w' ∧ I x.2 a' w') a w)
    (hend : ∀ s a w, I s a w → next s = [] → Q .normal a w) :
    ∀ fuel s a w, μ s ≤ fuel → I s a w → wpAnyH P md ops Q S fuel (lst s) a w := by
  intro fuel
  induction fuel with
  | zero =>
    intro s a w hm hI
    have hn : next s = [] := by
      cases h : next s with
      | nil => rfl
      | cons x xs => have := hμ s x (by rw [h]; exact List.mem_cons_self ..); omega
    exact ⟨by rw [hr, hn]; rfl, hend s a w hI hn⟩
  | succ fuel ih =>
    intro s a w hm hI
    refine ⟨fun h => hend s a w hI ?_, fun i hi => ?_⟩
    · rw [hr] at h
      exact List.map_eq_nil_iff.1 h
    · rw [hr] at hi
      obtain ⟨x, hx, rfl⟩ := List.mem_map.1 hi
      rw [hl s x hx]
      refine wpOp_mono (fun a' w' h' => ⟨h'.1, ih x.2 a' w' ?_ h'.2⟩) (hstep s a w hI x hx)
      have := hμ s x hx
      omega
end
end Go.Proofs.Ytdkaoopkbhaheaa
