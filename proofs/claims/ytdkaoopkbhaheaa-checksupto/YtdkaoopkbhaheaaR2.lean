/- A region that draws its order: operations that yield in every world of a kind S may be taken first, as long as S holds; those that yield in every world, at any time. -/
import Derived.Test.YtdkaoopkbhaheaaR1
namespace Go.Proofs.Ytdkaoopkbhaheaa

section
variable {P : Program} {ops : Array Oper} {Q : Exit → Act → World → Prop} {md : Region.Mode} {S Sy : World → Prop} {T : List Nat}

/-- Every order, S holding behind each operation that is not among T. -/
def anyU (P : Program) (md : Region.Mode) (ops : Array Oper) (Q : Exit → Act → World → Prop) (S : World → Prop) (T : List Nat) : Nat → Array Bool → Act → World → Prop
  | 0, listed, a, w => Region.ready md ops listed = [] ∧ Q .normal a w
  | fuel + 1, listed, a, w => (Region.ready md ops listed = [] → Q .normal a w) ∧
    ∀ i ∈ Region.ready md ops listed, wpOp P ops Q i (fun a' w' => (T.contains i = false → S w') ∧ anyU P md ops Q S T fuel (listed.setIfInBounds i true) a' w') a w

theorem anyU_any : ∀ (fuel : Nat) (listed : Array Bool) (a : Act) (w : World), anyU P md ops Q S T fuel listed a w → wpAny P md ops Q fuel listed a w
  | 0, _, _, _, h => h
  | fuel + 1, _, _, _, h => ⟨h.1, fun i hi => wpOp_mono (fun a' w' h' => anyU_any fuel _ a' w' h'.2) (h.2 i hi)⟩

def YieldsU (P : Program) (ops : Array Oper) (S : World → Prop) (o : Oper) (v : Value) (a : Act) : Prop :=
  Region.wanted o (yielded ops a.tmps) = true ∧ ∀ w, S w → (execOp a.eval o).run P w = .ok (.value v) w

theorem YieldsU.op {i : Nat} {o : Oper} {v : Value} {a : Act} (hi : ops[i]? = some o) (hy : YieldsU P ops Sy o v a) {K : Act → World → Prop} {w : World} (hw : Sy w) (h : K (a.put o.dst v) w) : wpOp P ops Q i K a w := by
  unfold wpOp
  simp only [hi, hy.1, if_true]
  refine .inl ?_
  unfold Oper.wp
  rw [hy.2 w hw]
  exact h
theorem YieldsU.other {oi oj : Oper} {v : Value} {a : Act} (hs : ∀ cs b, oi.op ≠ .select cs b) (h3 : ∀ d, oj.dst = some d → d ∉ oi.looksAt ops) (hy : YieldsU P ops Sy oi v a) (u : Value) : YieldsU P ops Sy oi v (a.put oj.dst u) := by
  refine ⟨?_, fun w hw => ?_⟩
  · rw [wanted_put oi a oj.dst u h3]; exact hy.1
  · rw [execOp_put oi hs a oj.dst u h3]; exact hy.2 w hw
theorem YieldsU.deferred {oi : Oper} {v : Value} {a : Act} (hy : YieldsU P ops Sy oi v a) (d : List Deferred) : YieldsU P ops Sy oi v { a with defers := d } := hy

theorem opU_put {j : Nat} {oi oj : Oper} {v : Value} (hj : ops[j]? = some oj) (hap : oi.apart ops oj = true) (hsi : ∀ cs b, oi.op ≠ .select cs b) (hsj : ∀ cs b, oj.op ≠ .select cs b)
    (hQ : ∀ c a w, Q (.panic c) (a.put oi.dst v) w → Q (.panic c) a w) {K : Act → World → Prop} {a : Act} {w : World} (hy : YieldsU P ops Sy oi v a) (h : wpOp P ops Q j K (a.put oi.dst v) w) :
    wpOp P ops Q j (fun a' w' => YieldsU P ops Sy oi v a' ∧ K (a'.put oi.dst v) w') a w := by
  obtain ⟨h1, h2, h3⟩ := Oper.apart_spec hap
  have put : ∀ (b : Act) (u : Value) (x : World), YieldsU P ops Sy oi v b → K ((b.put oi.dst v).put oj.dst u) x → YieldsU P ops Sy oi v (b.put oj.dst u) ∧ K ((b.put oj.dst u).put oi.dst v) x := fun b u x hb hk =>
    ⟨hb.other hsi h3 u, by rw [← Act.put_comm b v u h2]; exact hk⟩
  unfold wpOp at *
  simp only [hj] at *
  rw [wanted_put oj a oi.dst v h1] at h
  by_cases hw : Region.wanted oj (yielded ops a.tmps) = true
  · rw [if_pos hw] at h ⊢
    rcases h with h | ⟨h4, h5⟩
    · refine .inl ?_
      unfold Oper.wp at *
      rw [execOp_put oj hsj a oi.dst v h1] at h
      generalize (execOp a.eval oj).run P w = r at *
      cases r with
      | ok x w' =>
        cases x <;> simp only [Oper.upon] at h ⊢
        case value u => exact put a u _ hy h
        case skip => exact put a undef _ hy h
        case defer d =>
          refine put { a with defers := d :: a.defers } undef _ (hy.deferred _) ?_
          rw [← Act.put_defers]; exact h
        case enter f args =>
          refine Calls.mono h fun e w'' he => ?_
          cases e with
          | returned u => exact put a u _ hy he
          | panicked c => exact hQ _ _ _ he
          | outgrown => exact he
        case row row args => exact Rows.mono h fun u w'' he => put a u _ hy he
      | halt x w' =>
        cases x <;> simp only [Oper.upon] at h ⊢
        case panic u => exact hQ _ _ _ h
    · refine .inr ⟨?_, h5⟩
      unfold Oper.asks at *
      rw [execOp_put oj hsj a oi.dst v h1] at h4
      exact h4
  · rw [if_neg hw] at h ⊢
    exact put a undef _ hy h

/-- 'hjT': what comes up ahead of i leaves a world in which i yields. -/
theorem anyU_first {i : Nat} {oi : Oper} {v : Value} (hi : ops[i]? = some oi) (hs : Region.noSelect ops = true) (hQ : ∀ c a w, Q (.panic c) (a.put oi.dst v) w → Q (.panic c) a w) (hiT : T.contains i = true → ∀ w, Sy w → True) (hSS : ∀ w, S w → Sy w)
    (f : Nat) (hii : (∀ w, Sy w → S w) ∨ ((∀ w, Sy w) ∧ T.contains i = true)) :
    ∀ (fuel : Nat) (listed : Array Bool) (a : Act) (w : World), Shut md ops listed → ((∀ w, Sy w) ∨ ∀ j, T.contains j = true → reachB md ops f i j = true ∨ listed.getD j false = true) → (∀ j oj, ops[j]? = some oj → j ≠ i → listed.getD j true = false → (∀ e ∈ oj.after, Region.binds md e = true → e.on ≠ i) → oi.apart ops oj = true) →
      i ∈ Region.ready md ops listed → Sy w → YieldsU P ops Sy oi v a → anyU P md ops Q S T fuel (listed.setIfInBounds i true) (a.put oi.dst v) w → anyU P md ops Q S T (fuel + 1) listed a w := by
  have own : ∀ w, Sy w → (T.contains i = false → S w) := fun w hw hc => by
    rcases hii with h | ⟨_, h⟩
    · exact h w hw
    · rw [h] at hc; cases hc
  intro fuel
  induction fuel with
  | zero =>
    intro listed a w _ _ _ hr hw hy H
    refine ⟨fun h => (by rw [h] at hr; cases hr), fun j hj => ?_⟩
    by_cases hji : j = i
    · subst hji; exact hy.op hi hw ⟨own w hw, H⟩
    · have := ready_mono hj hji
      rw [H.1] at this; cases this
  | succ fuel ih =>
    intro listed a w hc hjT hfree hr hw hy H
    refine ⟨fun h => (by rw [h] at hr; cases hr), fun j hj => ?_⟩
    by_cases hji : j = i
    · subst hji; exact hy.op hi hw ⟨own w hw, H⟩
    · have h1 := H.2 j (ready_mono hj hji)
      obtain ⟨hjun, oj, hoj, hall⟩ := mem_ready.1 hj
      have g0 := (mem_ready.1 hr).1
      have hiun : ¬ listed.getD i false = true := fun g1 => by
        rcases Nat.lt_or_ge i listed.size with h' | h'
        · simp [h'] at g0 g1; rw [g0] at g1; cases g1
        · simp [Array.getElem?_eq_none h'] at g1
      have hnot : ∀ e ∈ oj.after, Region.binds md e = true → e.on ≠ i := fun e he hb heq => hiun (heq ▸ hall e he hb)
      have h2 := opU_put hoj (hfree j oj hoj hji hjun hnot) (fun cs b => Region.noSelect_spec hs i oi cs b hi) (fun cs b => Region.noSelect_spec hs j oj cs b hoj) hQ hy h1
      have hri : i ∈ Region.ready md ops (listed.setIfInBounds j true) := ready_mono hr (Ne.symm hji)
      have hfree' : ∀ k ok, ops[k]? = some ok → k ≠ i → (listed.setIfInBounds j true).getD k true = false → (∀ e ∈ ok.after, Region.binds md e = true → e.on ≠ i) → oi.apart ops ok = true := fun k ok hk hki hun hno => by
        refine hfree k ok hk hki ?_ hno
        by_cases hjk : j = k
        · subst hjk; exact hjun
        · rw [getD_set_ne true hjk] at hun; exact hun
      refine wpOp_mono (fun a' w' h3 => ?_) h2
      have hw' : Sy w' := by
        rcases hjT with h | h
        · exact h w'
        · refine hSS w' (h3.2.1 ?_)
          cases hx : T.contains j with
          | false => rfl
          | true =>
            rcases h j hx with h4 | h4
            · refine absurd (reach_listed hc i f j h4 (fun o ho e he hb => ?_)) hiun
              rw [hoj] at ho; cases ho
              exact hall e he hb
            · rcases Nat.lt_or_ge j listed.size with h' | h'
              · simp [h'] at hjun h4; rw [hjun] at h4; cases h4
              · simp [Array.getElem?_eq_none h'] at h4
      have hjT' : (∀ w, Sy w) ∨ ∀ k, T.contains k = true → reachB md ops f i k = true ∨ (listed.setIfInBounds j true).getD k false = true := by
        rcases hjT with h | h
        · exact .inl h
        · exact .inr fun k hk => (h k hk).imp id (fun h5 => getD_set_true h5)
      refine ⟨h3.2.1, ih (listed.setIfInBounds j true) a' w' (hc.next hj) hjT' hfree' hri hw' h3.1 ?_⟩
      rw [Array.setIfInBounds_comm _ _ hji]
      exact h3.2.2

/-- TAKE FIRST AN OPERATION THAT YIELDS WHERE S HOLDS. -/
theorem anyU_take {i : Nat} {oi : Oper} {v : Value} {f fuel : Nat} {listed : Array Bool} {a : Act} {w : World} (hi : ops[i]? = some oi) (hs : Region.noSelect ops = true) (hf : Region.free md ops listed i = true) (hr : (Region.ready md ops listed).contains i = true)
    (hT : (T.all fun j => reachB md ops f i j || listed.getD j false) = true) (hQ : ∀ c a w, Q (.panic c) (a.put oi.dst v) w → Q (.panic c) a w) (hc : Shut md ops listed) (hw : S w) (hy : YieldsU P ops S oi v a)
    (h : Shut md ops (listed.setIfInBounds i true) → anyU P md ops Q S T fuel (listed.setIfInBounds i true) (a.put oi.dst v) w) : anyU P md ops Q S T (fuel + 1) listed a w := by
  have hr' : i ∈ Region.ready md ops listed := by simpa using hr
  exact anyU_first (Sy := S) hi hs hQ (fun _ _ _ => trivial) (fun _ h => h) f (.inl fun _ h => h) fuel listed a w hc (.inr fun j hj => by simpa using List.all_eq_true.1 hT j (by simpa using hj)) (Region.free_spec hi hf) hr' hw hy (h (hc.next hr'))
/-- TAKE FIRST AN OPERATION AMONG T THAT YIELDS IN EVERY WORLD. -/
theorem anyU_takeA {i : Nat} {oi : Oper} {v : Value} {fuel : Nat} {listed : Array Bool} {a : Act} {w : World} (hi : ops[i]? = some oi) (hs : Region.noSelect ops = true) (hf : Region.free md ops listed i = true) (hr : (Region.ready md ops listed).contains i = true)
    (hT : T.contains i = true) (hQ : ∀ c a w, Q (.panic c) (a.put oi.dst v) w → Q (.panic c) a w) (hc : Shut md ops listed) (hy : YieldsU P ops (fun _ => True) oi v a)
    (h : Shut md ops (listed.setIfInBounds i true) → anyU P md ops Q S T fuel (listed.setIfInBounds i true) (a.put oi.dst v) w) : anyU P md ops Q S T (fuel + 1) listed a w := by
  have hr' : i ∈ Region.ready md ops listed := by simpa using hr
  exact anyU_first (Sy := fun _ => True) hi hs hQ (fun _ _ _ => trivial) (fun _ _ => trivial) 0 (.inr ⟨fun _ => trivial, hT⟩) fuel listed a w hc (.inl fun _ => trivial) (Region.free_spec hi hf) hr' trivial hy (h (hc.next hr'))
theorem anyU_one {i fuel : Nat} {listed : Array Bool} {a : Act} {w : World} (hr : Region.ready md ops listed = [i])
    (h : wpOp P ops Q i (fun a' w' => (T.contains i = false → S w') ∧ anyU P md ops Q S T fuel (listed.setIfInBounds i true) a' w') a w) : anyU P md ops Q S T (fuel + 1) listed a w :=
  ⟨fun h' => (by rw [hr] at h'; cases h'), fun j hj => (by rw [hr, List.mem_singleton] at hj; subst hj; exact h)⟩
theorem anyU_end {fuel : Nat} {listed : Array Bool} {a : Act} {w : World} (hr : Region.ready md ops listed = []) (h : Q .normal a w) : anyU P md ops Q S T fuel listed a w := by
  cases fuel with
  | zero => exact ⟨hr, h⟩
  | succ fuel => exact ⟨fun _ => h, fun i hi => (by rw [hr] at hi; cases hi)⟩
/-- One operation, run. -/
theorem wpOp_run {i : Nat} {o : Oper} {K : Act → World → Prop} {a : Act} {w : World} (hi : ops[i]? = some o) (hw : Region.wanted o (yielded ops a.tmps) = true) (h : o.wp P a w K Q) : wpOp P ops Q i K a w := by
  unfold wpOp
  simp only [hi, hw, if_true]
  exact .inl h
theorem wp_region_U (S : World → Prop) (T : List Nat) {id : Nat} {a : Act} {w : World} (hm : P.follows .mixedOrders = true)
    (h : Shut .any ops (Array.replicate ops.size false) → anyU P .any ops Q S T ops.size (Array.replicate ops.size false) a w.drew) : (Code.region id ops true).wp P Q a w :=
  wp_region_any hm (anyU_any _ _ _ _ (h (shut_none _ _ _)))
end
end Go.Proofs.Ytdkaoopkbhaheaa
