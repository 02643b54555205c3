import Derived.OrdersIn
import Derived.WalkKit
namespace Go.Proofs.Ytdkaoopkbhaheaa
section
variable {F : Fence} {n : Nat} {P : Program} {ops : Array Oper} {Q : Exit → Act → World → Prop} {md : Region.Mode} {S : World → Prop} {T : List Nat}
def anyS (F : Fence) (n : Nat) (P : Program) (md : Region.Mode) (ops : Array Oper) (Q : Exit → Act → World → Prop) (S : World → Prop) (T : List Nat) : Nat → Array Bool → Act → World → Prop
  | 0, listed, a, w => Region.ready md ops listed = [] ∧ Q .normal a w
  | fuel + 1, listed, a, w => (Region.ready md ops listed = [] → Q .normal a w) ∧
    ∀ i ∈ Region.ready md ops listed, wpOpIn F n P ops Q i (fun a' w' => (T.contains i = false → S w') ∧ anyS F n P md ops Q S T fuel (listed.setIfInBounds i true) a' w') a w
theorem anyS_any : ∀ (fuel : Nat) (listed : Array Bool) (a : Act) (w : World), anyS F n P md ops Q S T fuel listed a w → wpAnyIn F n P md ops Q fuel listed a w
  | 0, _, _, _, h => h
  | fuel + 1, _, _, _, h => ⟨h.1, fun i hi => wpOpIn_mono (fun a' w' h' => anyS_any fuel _ a' w' h'.2) (h.2 i hi)⟩
def YieldsS (P : Program) (ops : Array Oper) (S : World → Prop) (o : Oper) (v : Value) (a : Act) : Prop :=
  Region.wanted o (yielded ops a.tmps) = true ∧ (∀ w, S w → (execOp a.eval o).run P w = .ok (.value v) w) ∧ ∀ w, o.about P w a.eval = none
theorem YieldsS.op {i : Nat} {o : Oper} {v : Value} {a : Act} (hro : F.round = none) (hi : ops[i]? = some o) (hy : YieldsS P ops S o v a) {K : Act → World → Prop} {w : World} (hw : S w) (h : K (a.put o.dst v) w) : wpOpIn F n P ops Q i K a w := by
  unfold wpOpIn
  have hab : ∀ f, o.about P w a.eval = some f → F.fn f := fun f hf => by rw [hy.2.2 w] at hf; cases hf
  simp only [hi, hy.1, if_true, Oper.wpIn, hro, Oper.semAt_none, hy.2.1 w hw, Oper.uponIn]
  exact ⟨hab, h⟩
theorem YieldsS.other {oi oj : Oper} {v : Value} {a : Act} (hs : ∀ cs b, oi.op ≠ .select cs b) (h3 : ∀ d, oj.dst = some d → d ∉ oi.looksAt ops) (hy : YieldsS P ops S oi v a) (u : Value) : YieldsS P ops S oi v (a.put oj.dst u) := by
  refine ⟨?_, fun w hw => ?_, fun w => ?_⟩
  · rw [wanted_put oi a oj.dst u h3]; exact hy.1
  · rw [execOp_put oi hs a oj.dst u h3]; exact hy.2.1 w hw
  · rw [about_put oi w a oj.dst u h3]; exact hy.2.2 w
theorem YieldsS.deferred {oi : Oper} {v : Value} {a : Act} (hy : YieldsS P ops S oi v a) (d : List Deferred) : YieldsS P ops S oi v { a with defers := d } := hy
theorem op_put {j : Nat} {oi oj : Oper} {v : Value} (hro : F.round = none) (hj : ops[j]? = some oj) (hap : oi.apart ops oj = true) (hsi : ∀ cs b, oi.op ≠ .select cs b) (hsj : ∀ cs b, oj.op ≠ .select cs b)
    (hQ : ∀ c a w, Q (.panic c) (a.put oi.dst v) w → Q (.panic c) a w) {K : Act → World → Prop} {a : Act} {w : World} (hy : YieldsS P ops S oi v a) (h : wpOpIn F n P ops Q j K (a.put oi.dst v) w) :
    wpOpIn F n P ops Q j (fun a' w' => YieldsS P ops S oi v a' ∧ K (a'.put oi.dst v) w') a w := by
  obtain ⟨h1, h2, h3⟩ := Oper.apart_spec hap
  have put : ∀ (b : Act) (u : Value) (x : World), YieldsS P ops S oi v b → K ((b.put oi.dst v).put oj.dst u) x → YieldsS P ops S oi v (b.put oj.dst u) ∧ K ((b.put oj.dst u).put oi.dst v) x := fun b u x hb hk =>
    ⟨hb.other hsi h3 u, by rw [← Act.put_comm b v u h2]; exact hk⟩
  unfold wpOpIn at *
  simp only [hj] at *
  rw [wanted_put oj a oi.dst v h1, about_put oj w a oi.dst v h1] at h
  by_cases hw : Region.wanted oj (yielded ops a.tmps) = true
  · rw [if_pos hw] at h ⊢
    unfold Oper.wpIn at *
    rw [about_put oj w a oi.dst v h1, hro, Oper.semAt_none, execOp_put oj hsj a oi.dst v h1] at h
    rw [hro, Oper.semAt_none]
    refine ⟨h.1, ?_⟩
    replace h := h.2
    generalize (execOp a.eval oj).run P w = r at *
    cases r with
    | ok x w' =>
      cases x <;> simp only [Oper.uponIn] at h ⊢
      case value u => exact put a u _ hy h
      case skip => exact put a undef _ hy h
      case defer d =>
        refine put { a with defers := d :: a.defers } undef _ (hy.deferred _) ?_
        rw [← Act.put_defers]; exact h
      case enter f args =>
        refine ⟨h.1, CallsIn.mono h.2 fun e w'' he => ?_⟩
        cases e with
        | returned u => exact put a u _ hy he
        | panicked c => exact hQ _ _ _ he
        | outgrown => exact he
      case row row args => exact ⟨h.1, RowsIn.mono h.2 fun u w'' he => put a u _ hy he⟩
      case round l f tmps assign body =>
        refine ⟨h.1, RoundIn.mono h.2 fun e w'' he => ?_⟩
        cases e with
        | returned u => exact put a u _ hy he
        | panicked c => exact hQ _ _ _ he
        | outgrown => exact he
    | halt x w' =>
      cases x <;> simp only [Oper.uponIn] at h ⊢
      case panic u => exact hQ _ _ _ h
  · rw [if_neg hw] at h ⊢
    exact ⟨h.1, put a undef _ hy h.2⟩
def reachB (md : Region.Mode) (ops : Array Oper) : Nat → Nat → Nat → Bool
  | 0, _, _ => false
  | f + 1, i, j => match ops[j]? with
    | none => false
    | some o => o.after.any fun e => Region.binds md e && (e.on == i || reachB md ops f i e.on)
def Shut (md : Region.Mode) (ops : Array Oper) (listed : Array Bool) : Prop := ∀ k o, ops[k]? = some o → listed.getD k false = true → ∀ e ∈ o.after, Region.binds md e = true → listed.getD e.on false = true
theorem reach_listed {listed : Array Bool} (hc : Shut md ops listed) (i : Nat) : ∀ f j, reachB md ops f i j = true → (∀ o, ops[j]? = some o → ∀ e ∈ o.after, Region.binds md e = true → listed.getD e.on false = true) → listed.getD i false = true := by
  intro f
  induction f with
  | zero => intro j h; cases h
  | succ f ih =>
    intro j h hj
    unfold reachB at h
    cases ho : ops[j]? with
    | none => rw [ho] at h; cases h
    | some o =>
      rw [ho] at h
      simp only [Array.any_eq_true] at h
      obtain ⟨x, hx, h⟩ := h
      rw [Bool.and_eq_true, Bool.or_eq_true, beq_iff_eq] at h
      have hl := hj o ho _ (Array.getElem_mem hx) h.1
      rcases h.2 with h2 | h2
      · rw [h2] at hl; exact hl
      · exact ih _ h2 (fun o' ho' e he hb => hc _ o' ho' hl e he hb)
theorem Shut.next {listed : Array Bool} (hc : Shut md ops listed) {j : Nat} (hj : j ∈ Region.ready md ops listed) : Shut md ops (listed.setIfInBounds j true) := by
  obtain ⟨_, oj, hoj, hall⟩ := mem_ready.1 hj
  intro k o ho hk e he hb
  apply getD_set_true
  by_cases hjk : j = k
  · subst hjk
    rw [ho] at hoj; cases hoj
    exact hall e he hb
  · rw [getD_set_ne false hjk] at hk
    exact hc k o ho hk e he hb
theorem anyS_first {i : Nat} {oi : Oper} {v : Value} {f : Nat} (hro : F.round = none) (hi : ops[i]? = some oi) (hs : Region.noSelect ops = true) (hQ : ∀ c a w, Q (.panic c) (a.put oi.dst v) w → Q (.panic c) a w) (hT : T.all (reachB md ops f i) = true) :
    ∀ (fuel : Nat) (listed : Array Bool) (a : Act) (w : World), Shut md ops listed → (∀ j oj, ops[j]? = some oj → j ≠ i → listed.getD j true = false → (∀ e ∈ oj.after, Region.binds md e = true → e.on ≠ i) → oi.apart ops oj = true) →
      i ∈ Region.ready md ops listed → S w → YieldsS P ops S oi v a → anyS F n P md ops Q S T fuel (listed.setIfInBounds i true) (a.put oi.dst v) w → anyS F n P md ops Q S T (fuel + 1) listed a w := by
  intro fuel
  induction fuel with
  | zero =>
    intro listed a w _ _ hr hw hy H
    refine ⟨fun h => (by rw [h] at hr; cases hr), fun j hj => ?_⟩
    by_cases hji : j = i
    · subst hji; exact hy.op hro hi hw ⟨fun _ => hw, H⟩
    · have := ready_mono hj hji
      rw [H.1] at this; cases this
  | succ fuel ih =>
    intro listed a w hc hfree hr hw hy H
    refine ⟨fun h => (by rw [h] at hr; cases hr), fun j hj => ?_⟩
    by_cases hji : j = i
    · subst hji; exact hy.op hro hi hw ⟨fun _ => hw, H⟩
    · have h1 := H.2 j (ready_mono hj hji)
      obtain ⟨hjun, oj, hoj, hall⟩ := mem_ready.1 hj
      have g0 := (mem_ready.1 hr).1
      have hiun : ¬ listed.getD i false = true := fun g1 => by
        rcases Nat.lt_or_ge i listed.size with h' | h'
        · simp [h'] at g0 g1; rw [g0] at g1; cases g1
        · simp [Array.getElem?_eq_none h'] at g1
      have hnot : ∀ e ∈ oj.after, Region.binds md e = true → e.on ≠ i := fun e he hb heq => hiun (heq ▸ hall e he hb)
      have hjT : T.contains j = false := by
        cases hx : T.contains j with
        | false => rfl
        | true =>
          refine absurd (reach_listed hc i f j (List.all_eq_true.1 hT j (by simpa using hx)) (fun o ho e he hb => ?_)) hiun
          rw [hoj] at ho; cases ho
          exact hall e he hb
      have h2 := op_put hro hoj (hfree j oj hoj hji hjun hnot) (fun cs b => Region.noSelect_spec hs i oi cs b hi) (fun cs b => Region.noSelect_spec hs j oj cs b hoj) hQ hy h1
      have hri : i ∈ Region.ready md ops (listed.setIfInBounds j true) := ready_mono hr (Ne.symm hji)
      have hfree' : ∀ k ok, ops[k]? = some ok → k ≠ i → (listed.setIfInBounds j true).getD k true = false → (∀ e ∈ ok.after, Region.binds md e = true → e.on ≠ i) → oi.apart ops ok = true := fun k ok hk hki hun hno => by
        refine hfree k ok hk hki ?_ hno
        by_cases hjk : j = k
        · subst hjk; exact hjun
        · rw [getD_set_ne true hjk] at hun; exact hun
      refine wpOpIn_mono (fun a' w' h3 => ?_) h2
      have hw' := h3.2.1 hjT
      refine ⟨fun _ => hw', ih (listed.setIfInBounds j true) a' w' (hc.next hj) hfree' hri hw' h3.1 ?_⟩
      rw [Array.setIfInBounds_comm _ _ hji]
      exact h3.2.2
theorem anyS_take {i : Nat} {oi : Oper} {v : Value} {f fuel : Nat} {listed : Array Bool} {a : Act} {w : World} (hro : F.round = none) (hi : ops[i]? = some oi) (hs : Region.noSelect ops = true) (hf : Region.free md ops listed i = true) (hr : (Region.ready md ops listed).contains i = true)
    (hT : T.all (reachB md ops f i) = true) (hQ : ∀ c a w, Q (.panic c) (a.put oi.dst v) w → Q (.panic c) a w) (hc : Shut md ops listed) (hw : S w) (hy : YieldsS P ops S oi v a)
    (h : Shut md ops (listed.setIfInBounds i true) → anyS F n P md ops Q S T fuel (listed.setIfInBounds i true) (a.put oi.dst v) w) : anyS F n P md ops Q S T (fuel + 1) listed a w := by
  have hr' : i ∈ Region.ready md ops listed := by simpa using hr
  exact anyS_first hro hi hs hQ hT fuel listed a w hc (Region.free_spec hi hf) hr' hw hy (h (hc.next hr'))
theorem anyS_one {i fuel : Nat} {listed : Array Bool} {a : Act} {w : World} (hr : Region.ready md ops listed = [i])
    (h : wpOpIn F n P ops Q i (fun a' w' => (T.contains i = false → S w') ∧ anyS F n P md ops Q S T fuel (listed.setIfInBounds i true) a' w') a w) : anyS F n P md ops Q S T (fuel + 1) listed a w :=
  ⟨fun h' => (by rw [hr] at h'; cases h'), fun j hj => (by rw [hr, List.mem_singleton] at hj; subst hj; exact h)⟩
theorem anyS_end {fuel : Nat} {listed : Array Bool} {a : Act} {w : World} (hr : Region.ready md ops listed = []) (h : Q .normal a w) : anyS F n P md ops Q S T fuel listed a w := by
  cases fuel with
  | zero => exact ⟨hr, h⟩
  | succ fuel => exact ⟨fun _ => h, fun i hi => (by rw [hr] at hi; cases hi)⟩
theorem shut_none (md : Region.Mode) (ops : Array Oper) (m : Nat) : Shut md ops (Array.replicate m false) := by
  intro k o _ hk
  rcases Nat.lt_or_ge k m with h | h
  · simp [h] at hk
  · rw [Array.getD_eq_getD_getElem?, Array.getElem?_eq_none (by simpa using h)] at hk; cases hk
theorem wpIn_region_S (T : List Nat) {id : Nat} {a : Act} {w : World} (hm : P.follows .mixedOrders = true)
    (h : Shut .any ops (Array.replicate ops.size false) → anyS F n P .any ops Q (fun x => x = w.drew) T ops.size (Array.replicate ops.size false) a w.drew) : (Code.region id ops true).wpIn F n P Q a w :=
  wpIn_region_any hm (anyS_any _ _ _ _ (h (shut_none _ _ _)))
end
end Go.Proofs.Ytdkaoopkbhaheaa
namespace Go.Proofs.Ytdkaoopkbhaheaa
section
variable {P : Program} {ops : Array Oper} {Q : Exit → Act → World → Prop} {md : Region.Mode} {S Sy : World → Prop} {T : List Nat}
def anyU (P : Program) (md : Region.Mode) (ops : Array Oper) (Q : Exit → Act → World → Prop) (S : World → Prop) (T : List Nat) : Nat → Array Bool → Act → World → Prop
  | 0, listed, a, w => Region.ready md ops listed = [] ∧ Q .normal a w
  | fuel + 1, listed, a, w => (Region.ready md ops listed = [] → Q .normal a w) ∧
    ∀ i ∈ Region.ready md ops listed, wpOp P ops Q i (fun a' w' => (T.contains i = false → S w') ∧ anyU P md ops Q S T fuel (listed.setIfInBounds i true) a' w') a w
theorem anyU_any : ∀ (fuel : Nat) (listed : Array Bool) (a : Act) (w : World), anyU P md ops Q S T fuel listed a w → wpAny P md ops Q fuel listed a w
  | 0, _, _, _, h => h
  | fuel + 1, _, _, _, h => ⟨h.1, fun i hi => wpOp_mono (fun a' w' h' => anyU_any fuel _ a' w' h'.2) (h.2 i hi)⟩
def YieldsU (P : Program) (ops : Array Oper) (S : World → Prop) (o : Oper) (v : Value) (a : Act) : Prop :=
  Region.wanted o (yielded ops a.tmps) = true ∧ ∀ w, S w → (execOp a.eval o).run P w = .ok (.value v) w
theorem YieldsU.op {i : Nat} {o : Oper} {v : Value} {a : Act} (hi : ops[i]? = some o) (hy : YieldsU P ops Sy o v a) {K : Act → World → Prop} {w : World} (hw : Sy w) (h : K (a.put o.dst v) w) : wpOp P ops Q i K a w := by
  unfold wpOp
  simp only [hi, hy.1, if_true]
  refine .inl ?_
  unfold Oper.wp
  rw [hy.2 w hw]
  exact h
theorem YieldsU.other {oi oj : Oper} {v : Value} {a : Act} (hs : ∀ cs b, oi.op ≠ .select cs b) (h3 : ∀ d, oj.dst = some d → d ∉ oi.looksAt ops) (hy : YieldsU P ops Sy oi v a) (u : Value) : YieldsU P ops Sy oi v (a.put oj.dst u) := by
  refine ⟨?_, fun w hw => ?_⟩
  · rw [wanted_put oi a oj.dst u h3]; exact hy.1
  · rw [execOp_put oi hs a oj.dst u h3]; exact hy.2 w hw
theorem YieldsU.deferred {oi : Oper} {v : Value} {a : Act} (hy : YieldsU P ops Sy oi v a) (d : List Deferred) : YieldsU P ops Sy oi v { a with defers := d } := hy
theorem opU_put {j : Nat} {oi oj : Oper} {v : Value} (hj : ops[j]? = some oj) (hap : oi.apart ops oj = true) (hsi : ∀ cs b, oi.op ≠ .select cs b) (hsj : ∀ cs b, oj.op ≠ .select cs b)
    (hQ : ∀ c a w, Q (.panic c) (a.put oi.dst v) w → Q (.panic c) a w) {K : Act → World → Prop} {a : Act} {w : World} (hy : YieldsU P ops Sy oi v a) (h : wpOp P ops Q j K (a.put oi.dst v) w) :
    wpOp P ops Q j (fun a' w' => YieldsU P ops Sy oi v a' ∧ K (a'.put oi.dst v) w') a w := by
  obtain ⟨h1, h2, h3⟩ := Oper.apart_spec hap
  have put : ∀ (b : Act) (u : Value) (x : World), YieldsU P ops Sy oi v b → K ((b.put oi.dst v).put oj.dst u) x → YieldsU P ops Sy oi v (b.put oj.dst u) ∧ K ((b.put oj.dst u).put oi.dst v) x := fun b u x hb hk =>
    ⟨hb.other hsi h3 u, by rw [← Act.put_comm b v u h2]; exact hk⟩
  unfold wpOp at *
  simp only [hj] at *
  rw [wanted_put oj a oi.dst v h1] at h
  by_cases hw : Region.wanted oj (yielded ops a.tmps) = true
  · rw [if_pos hw] at h ⊢
    rcases h with h | ⟨h4, h5⟩
    · refine .inl ?_
      unfold Oper.wp at *
      rw [execOp_put oj hsj a oi.dst v h1] at h
      generalize (execOp a.eval oj).run P w = r at *
      cases r with
      | ok x w' =>
        cases x <;> simp only [Oper.upon] at h ⊢
        case value u => exact put a u _ hy h
        case skip => exact put a undef _ hy h
        case defer d =>
          refine put { a with defers := d :: a.defers } undef _ (hy.deferred _) ?_
          rw [← Act.put_defers]; exact h
        case enter f args =>
          refine Calls.mono h fun e w'' he => ?_
          cases e with
          | returned u => exact put a u _ hy he
          | panicked c => exact hQ _ _ _ he
          | outgrown => exact he
        case row row args => exact Rows.mono h fun u w'' he => put a u _ hy he
      | halt x w' =>
        cases x <;> simp only [Oper.upon] at h ⊢
        case panic u => exact hQ _ _ _ h
    · refine .inr ⟨?_, h5⟩
      unfold Oper.asks at *
      rw [execOp_put oj hsj a oi.dst v h1] at h4
      exact h4
  · rw [if_neg hw] at h ⊢
    exact put a undef _ hy h
theorem anyU_first {i : Nat} {oi : Oper} {v : Value} (hi : ops[i]? = some oi) (hs : Region.noSelect ops = true) (hQ : ∀ c a w, Q (.panic c) (a.put oi.dst v) w → Q (.panic c) a w) (hiT : T.contains i = true → ∀ w, Sy w → True) (hSS : ∀ w, S w → Sy w)
    (f : Nat) (hii : (∀ w, Sy w → S w) ∨ ((∀ w, Sy w) ∧ T.contains i = true)) :
    ∀ (fuel : Nat) (listed : Array Bool) (a : Act) (w : World), Shut md ops listed → ((∀ w, Sy w) ∨ ∀ j, T.contains j = true → reachB md ops f i j = true ∨ listed.getD j false = true) → (∀ j oj, ops[j]? = some oj → j ≠ i → listed.getD j true = false → (∀ e ∈ oj.after, Region.binds md e = true → e.on ≠ i) → oi.apart ops oj = true) →
      i ∈ Region.ready md ops listed → Sy w → YieldsU P ops Sy oi v a → anyU P md ops Q S T fuel (listed.setIfInBounds i true) (a.put oi.dst v) w → anyU P md ops Q S T (fuel + 1) listed a w := by
  have own : ∀ w, Sy w → (T.contains i = false → S w) := fun w hw hc => by
    rcases hii with h | ⟨_, h⟩
    · exact h w hw
    · rw [h] at hc; cases hc
  intro fuel
  induction fuel with
  | zero =>
    intro listed a w _ _ _ hr hw hy H
    refine ⟨fun h => (by rw [h] at hr; cases hr), fun j hj => ?_⟩
    by_cases hji : j = i
    · subst hji; exact hy.op hi hw ⟨own w hw, H⟩
    · have := ready_mono hj hji
      rw [H.1] at this; cases this
  | succ fuel ih =>
    intro listed a w hc hjT hfree hr hw hy H
    refine ⟨fun h => (by rw [h] at hr; cases hr), fun j hj => ?_⟩
    by_cases hji : j = i
    · subst hji; exact hy.op hi hw ⟨own w hw, H⟩
    · have h1 := H.2 j (ready_mono hj hji)
      obtain ⟨hjun, oj, hoj, hall⟩ := mem_ready.1 hj
      have g0 := (mem_ready.1 hr).1
      have hiun : ¬ listed.getD i false = true := fun g1 => by
        rcases Nat.lt_or_ge i listed.size with h' | h'
        · simp [h'] at g0 g1; rw [g0] at g1; cases g1
        · simp [Array.getElem?_eq_none h'] at g1
      have hnot : ∀ e ∈ oj.after, Region.binds md e = true → e.on ≠ i := fun e he hb heq => hiun (heq ▸ hall e he hb)
      have h2 := opU_put hoj (hfree j oj hoj hji hjun hnot) (fun cs b => Region.noSelect_spec hs i oi cs b hi) (fun cs b => Region.noSelect_spec hs j oj cs b hoj) hQ hy h1
      have hri : i ∈ Region.ready md ops (listed.setIfInBounds j true) := ready_mono hr (Ne.symm hji)
      have hfree' : ∀ k ok, ops[k]? = some ok → k ≠ i → (listed.setIfInBounds j true).getD k true = false → (∀ e ∈ ok.after, Region.binds md e = true → e.on ≠ i) → oi.apart ops ok = true := fun k ok hk hki hun hno => by
        refine hfree k ok hk hki ?_ hno
        by_cases hjk : j = k
        · subst hjk; exact hjun
        · rw [getD_set_ne true hjk] at hun; exact hun
      refine wpOp_mono (fun a' w' h3 => ?_) h2
      have hw' : Sy w' := by
        rcases hjT with h | h
        · exact h w'
        · refine hSS w' (h3.2.1 ?_)
          cases hx : T.contains j with
          | false => rfl
          | true =>
            rcases h j hx with h4 | h4
            · refine absurd (reach_listed hc i f j h4 (fun o ho e he hb => ?_)) hiun
              rw [hoj] at ho; cases ho
              exact hall e he hb
            · rcases Nat.lt_or_ge j listed.size with h' | h'
              · simp [h'] at hjun h4; rw [hjun] at h4; cases h4
              · simp [Array.getElem?_eq_none h'] at h4
      have hjT' : (∀ w, Sy w) ∨ ∀ k, T.contains k = true → reachB md ops f i k = true ∨ (listed.setIfInBounds j true).getD k false = true := by
        rcases hjT with h | h
        · exact .inl h
        · exact .inr fun k hk => (h k hk).imp id (fun h5 => getD_set_true h5)
      refine ⟨h3.2.1, ih (listed.setIfInBounds j true) a' w' (hc.next hj) hjT' hfree' hri hw' h3.1 ?_⟩
      rw [Array.setIfInBounds_comm _ _ hji]
      exact h3.2.2
theorem anyU_take {i : Nat} {oi : Oper} {v : Value} {f fuel : Nat} {listed : Array Bool} {a : Act} {w : World} (hi : ops[i]? = some oi) (hs : Region.noSelect ops = true) (hf : Region.free md ops listed i = true) (hr : (Region.ready md ops listed).contains i = true)
    (hT : (T.all fun j => reachB md ops f i j || listed.getD j false) = true) (hQ : ∀ c a w, Q (.panic c) (a.put oi.dst v) w → Q (.panic c) a w) (hc : Shut md ops listed) (hw : S w) (hy : YieldsU P ops S oi v a)
    (h : Shut md ops (listed.setIfInBounds i true) → anyU P md ops Q S T fuel (listed.setIfInBounds i true) (a.put oi.dst v) w) : anyU P md ops Q S T (fuel + 1) listed a w := by
  have hr' : i ∈ Region.ready md ops listed := by simpa using hr
  exact anyU_first (Sy := S) hi hs hQ (fun _ _ _ => trivial) (fun _ h => h) f (.inl fun _ h => h) fuel listed a w hc (.inr fun j hj => by simpa using List.all_eq_true.1 hT j (by simpa using hj)) (Region.free_spec hi hf) hr' hw hy (h (hc.next hr'))
theorem anyU_takeA {i : Nat} {oi : Oper} {v : Value} {fuel : Nat} {listed : Array Bool} {a : Act} {w : World} (hi : ops[i]? = some oi) (hs : Region.noSelect ops = true) (hf : Region.free md ops listed i = true) (hr : (Region.ready md ops listed).contains i = true)
    (hT : T.contains i = true) (hQ : ∀ c a w, Q (.panic c) (a.put oi.dst v) w → Q (.panic c) a w) (hc : Shut md ops listed) (hy : YieldsU P ops (fun _ => True) oi v a)
    (h : Shut md ops (listed.setIfInBounds i true) → anyU P md ops Q S T fuel (listed.setIfInBounds i true) (a.put oi.dst v) w) : anyU P md ops Q S T (fuel + 1) listed a w := by
  have hr' : i ∈ Region.ready md ops listed := by simpa using hr
  exact anyU_first (Sy := fun _ => True) hi hs hQ (fun _ _ _ => trivial) (fun _ _ => trivial) 0 (.inr ⟨fun _ => trivial, hT⟩) fuel listed a w hc (.inl fun _ => trivial) (Region.free_spec hi hf) hr' trivial hy (h (hc.next hr'))
theorem anyU_one {i fuel : Nat} {listed : Array Bool} {a : Act} {w : World} (hr : Region.ready md ops listed = [i])
    (h : wpOp P ops Q i (fun a' w' => (T.contains i = false → S w') ∧ anyU P md ops Q S T fuel (listed.setIfInBounds i true) a' w') a w) : anyU P md ops Q S T (fuel + 1) listed a w :=
  ⟨fun h' => (by rw [hr] at h'; cases h'), fun j hj => (by rw [hr, List.mem_singleton] at hj; subst hj; exact h)⟩
theorem anyU_end {fuel : Nat} {listed : Array Bool} {a : Act} {w : World} (hr : Region.ready md ops listed = []) (h : Q .normal a w) : anyU P md ops Q S T fuel listed a w := by
  cases fuel with
  | zero => exact ⟨hr, h⟩
  | succ fuel => exact ⟨fun _ => h, fun i hi => (by rw [hr] at hi; cases hi)⟩
theorem wpOp_run {i : Nat} {o : Oper} {K : Act → World → Prop} {a : Act} {w : World} (hi : ops[i]? = some o) (hw : Region.wanted o (yielded ops a.tmps) = true) (h : o.wp P a w K Q) : wpOp P ops Q i K a w := by
  unfold wpOp
  simp only [hi, hw, if_true]
  exact .inl h
theorem wp_region_U (S : World → Prop) (T : List Nat) {id : Nat} {a : Act} {w : World} (hm : P.follows .mixedOrders = true)
    (h : Shut .any ops (Array.replicate ops.size false) → anyU P .any ops Q S T ops.size (Array.replicate ops.size false) a w.drew) : (Code.region id ops true).wp P Q a w :=
  wp_region_any hm (anyU_any _ _ _ _ (h (shut_none _ _ _)))
end
end Go.Proofs.Ytdkaoopkbhaheaa
namespace Go.Proofs.Ytdkaoopkbhaheaa
open Go.RowKit
set_option linter.unusedVariables false
theorem countP_less {α : Type} (p q : α → Bool) (l : List α) (h : ∀ x ∈ l, p x = true → q x = true) {y : α} (hy : y ∈ l) (hp : p y = false) (hq : q y = true) : l.countP p < l.countP q := by
  induction l with
  | nil => simp at hy
  | cons a l ih =>
    have hl : l.countP p ≤ l.countP q := List.countP_mono_left fun x hx => h x (List.mem_cons_of_mem _ hx)
    rw [List.countP_cons, List.countP_cons]
    rcases List.mem_cons.1 hy with e | e
    · subst e
      rw [hp, hq]
      simp
      omega
    · have := ih (fun x hx => h x (List.mem_cons_of_mem _ hx)) e
      have ha := h a List.mem_cons_self
      cases hpa : p a
      · simp
        split <;> omega
      · rw [ha hpa]
        simp
        omega
section
variable {P : Program} {ops : Array Oper} {Q : Exit → Act → World → Prop} {md : Region.Mode} {S : World → Prop} {T : List Nat}
def todo (n : Nat) (ls : Array Bool) : Nat := (List.range n).countP fun i => !ls.getD i true
theorem todo_less {n i : Nat} {ls : Array Bool} (hi : i < n) (h : ls.getD i true = false) : todo n (ls.setIfInBounds i true) < todo n ls := by
  have hs : i < ls.size := by
    rcases Nat.lt_or_ge i ls.size with g | g
    · exact g
    · rw [Array.getD_eq_getD_getElem?, Array.getElem?_eq_none g] at h
      simp at h
  unfold todo
  refine countP_less _ _ _ (fun x _ hx => ?_) (List.mem_range.2 hi) ?_ ?_
  · simp only [Bool.not_eq_true', Array.getD_eq_getD_getElem?, Array.getElem?_setIfInBounds] at hx ⊢
    by_cases e : i = x
    · subst e
      rw [if_pos rfl, if_pos hs] at hx
      simp at hx
    · rw [if_neg e] at hx; exact hx
  · simp [hs]
  · rw [h]; rfl
theorem anyU_flags (I : Array Bool → Act → World → Prop)
    (hstep : ∀ ls a w, I ls a w → ∀ i, i ∈ Region.ready md ops ls → wpOp P ops Q i (fun a' w' => (T.contains i = false → S w') ∧ I (ls.setIfInBounds i true) a' w') a w)
    (hend : ∀ ls a w, I ls a w → Region.ready md ops ls = [] → Q .normal a w) :
    ∀ fuel ls a w, todo ops.size ls ≤ fuel → I ls a w → anyU P md ops Q S T fuel ls a w := by
  intro fuel
  have mem : ∀ ls i, i ∈ Region.ready md ops ls → i < ops.size ∧ ls.getD i true = false := by
    intro ls i hi
    unfold Region.ready at hi
    rw [List.mem_filter, List.mem_range, Bool.and_eq_true, Bool.not_eq_true'] at hi
    exact ⟨hi.1, hi.2.1⟩
  induction fuel with
  | zero =>
    intro ls a w hm hI
    have hn : Region.ready md ops ls = [] := by
      cases h : Region.ready md ops ls with
      | nil => rfl
      | cons x xs =>
        obtain ⟨h1, h2⟩ := mem ls x (by rw [h]; exact List.mem_cons_self ..)
        have := todo_less h1 h2
        omega
    exact ⟨hn, hend ls a w hI hn⟩
  | succ fuel ih =>
    intro ls a w hm hI
    refine ⟨fun h => hend ls a w hI h, fun i hi => ?_⟩
    obtain ⟨h1, h2⟩ := mem ls i hi
    have := todo_less h1 h2
    exact wpOp_mono (fun a' w' h' => ⟨h'.1, ih _ a' w' (by omega) h'.2⟩) (hstep ls a w hI i hi)
end
end Go.Proofs.Ytdkaoopkbhaheaa
