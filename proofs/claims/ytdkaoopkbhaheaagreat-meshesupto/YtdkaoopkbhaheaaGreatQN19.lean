import Derived.Test.YtdkaoopkbhaheaaGreatQN16
import Derived.Test.YtdkaoopkbhaheaaGreatPN17
import Derived.Test.YtdkaoopkbhaheaaGreatPK1
namespace Go.Proofs.YtdkaoopkbhaheaaGreat
open Go.RowKit Go.Lib
open Jor
open scoped Classical
set_option linter.unusedVariables false
set_option linter.unusedSimpArgs false
structure Good (rs : List (List IP)) : Prop where
  one : 1 ≤ rs.length
  eight : rs.length ≤ 8
  three : ∀ k, k < rs.length → 3 ≤ (rg rs k).length
  few : (verts rs).length ≤ 64
  near : ∀ i, i < (verts rs).length → nearP (pt (verts rs) i)
  twice : ¬ Twice rs
  touch : ¬ TouchR rs
  out : ¬ OutR rs
  nest : ¬ NestR rs
theorem good_of {rs : List (List IP)} (h : chkP rs = 0) : Good rs := by
  rw [check_same] at h
  unfold chkR first7 at h
  have g1 : ¬ Many rs := fun g => by rw [if_pos g] at h; omega
  rw [if_neg g1] at h
  have g2 : ¬ Short rs := fun g => by rw [if_pos g] at h; omega
  rw [if_neg g2] at h
  have g3 : ¬ Far rs := fun g => by rw [if_pos g] at h; omega
  rw [if_neg g3] at h
  have g4 : ¬ Twice rs := fun g => by rw [if_pos g] at h; omega
  rw [if_neg g4] at h
  have g5 : ¬ TouchR rs := fun g => by rw [if_pos g] at h; omega
  rw [if_neg g5] at h
  have g6 : ¬ OutR rs := fun g => by rw [if_pos g] at h; omega
  rw [if_neg g6] at h
  have g7 : ¬ NestR rs := fun g => by rw [if_pos g] at h; omega
  obtain ⟨a1, a2, a3⟩ := fine_of g1 g2
  obtain ⟨b1, b2⟩ := near_of g3
  exact ⟨a1, a2, a3, b1, b2, g4, g5, g6, g7⟩
theorem Good.sound {rs : List (List IP)} (g : Good rs) : Sound rs :=
  ⟨g.three, g.near, fun i j hi hj hne e => by
    rcases Nat.lt_or_gt_of_ne hne with h | h
    · exact g.twice ⟨j, i, h, hj, e.symm⟩
    · exact g.twice ⟨i, j, h, hi, e⟩⟩
def loc : List (List IP) → Nat → Nat × Nat
  | [], i => (0, i)
  | r :: rs, i => if i < r.length then (0, i) else ((loc rs (i - r.length)).1 + 1, (loc rs (i - r.length)).2)
theorem loc_at (rs : List (List IP)) : ∀ k a, k < rs.length → a < (rg rs k).length → loc rs (off rs k + a) = (k, a) := by
  induction rs with
  | nil => intro k a h; simp at h
  | cons r rs ih =>
    intro k a hk ha
    match k with
    | 0 =>
      have : a < r.length := by simpa [rg] using ha
      have eo : off (r :: rs) 0 + a = a := Nat.zero_add a
      have ls : ∀ i, loc (r :: rs) i = if i < r.length then (0, i) else ((loc rs (i - r.length)).1 + 1, (loc rs (i - r.length)).2) := fun _ => rfl
      rw [eo, ls, if_pos this]
    | k + 1 =>
      have e : rg (r :: rs) (k + 1) = rg rs k := by simp [rg]
      rw [e] at ha
      have := ih k a (by simpa using hk) ha
      have eo : off (r :: rs) (k + 1) + a = r.length + off rs k + a := rfl
      have ls : ∀ i, loc (r :: rs) i = if i < r.length then (0, i) else ((loc rs (i - r.length)).1 + 1, (loc rs (i - r.length)).2) := fun _ => rfl
      rw [eo, ls, if_neg (by omega), show r.length + off rs k + a - r.length = off rs k + a by omega, this]
def bnx (rs : List (List IP)) (i : Nat) : Nat := off rs (loc rs i).1 + nkk (trB rs (loc rs i).1) (rg rs (loc rs i).1).length (loc rs i).2
def bpv (rs : List (List IP)) (i : Nat) : Nat := off rs (loc rs i).1 + pkk (trB rs (loc rs i).1) (rg rs (loc rs i).1).length (loc rs i).2
section
variable {rs : List (List IP)}
theorem Good.rgs (g : Good rs) : Rgs rs.length (fun k => (rg rs k).length) (off rs) (fun k => pt (rg rs k)) := by
  have S := g.sound
  have nearr : ∀ m, m < rs.length → ∀ i, i < (rg rs m).length → nearP (pt (rg rs m) i) := fun m hm i hi => by
    have := pt_at rs m i hi
    rw [← this.1]; exact S.near _ this.2
  refine ⟨g.one, off_zero rs, fun k hk => off_succ rs k hk, fun k hk => ring_of S g.touch hk, ?_, ?_, ?_, ?_⟩
  · intro k l a b hk hl ha hb e
    have p1 := pt_at rs k a ha
    have p2 := pt_at rs l b hb
    rw [← p1.1, ← p2.1] at e
    have : off rs k + a = off rs l + b := Classical.byContradiction fun h => S.apart _ _ p1.2 p2.2 h e
    rcases Nat.lt_trichotomy k l with u | u | u
    · have := off_mono rs k l u hk; omega
    · subst u; exact ⟨rfl, by omega⟩
    · have := off_mono rs l k u hl; omega
  · intro k l a b hk hl hkl ha hb
    exact far_edges S g.touch hk hl ha hb (fun e => by
      rcases Nat.lt_or_gt_of_ne hkl with u | u
      · have := off_mono rs k l u hk; omega
      · have := off_mono rs l k u hl; omega) (fun e => hkl e.1) (fun e => hkl e.1)
  · intro k h1 hk h0
    refine g.out ⟨k, h1, hk, ?_⟩
    have h3 := g.three k hk
    have h30 := g.three 0 (by omega)
    unfold withinR
    rw [turns_wind _ _ _ (nearr k hk 0 (by omega)) (nearr 0 (by omega))]
    rw [h0]; rfl
  · intro k l h1 hk h2 hl hkl
    refine Classical.byContradiction fun h0 => g.nest ⟨k, l, h1, hk, h2, hl, Ne.symm hkl, ?_⟩
    have h3 := g.three k hk
    unfold withinR
    rw [turns_wind _ _ _ (nearr k hk 0 (by omega)) (nearr l hl)]
    simpa using h0
theorem Good.larea (g : Good rs) {k : Nat} (hk : k < rs.length) : lsum (rg rs k) (rg rs k).length = areaR (rg rs k).length (pt (rg rs k)) := by
  have hn : ∀ i, i < (rg rs k).length → nearP (pt (rg rs k) i) := fun i hi => by
    have := pt_at rs k i hi
    rw [← this.1]; exact g.near _ this.2
  have h64 : (rg rs k).length ≤ 64 := by have := rg_le rs k; have := g.few; omega
  have key : ∀ m, m ≤ (rg rs k).length → lsum (rg rs k) m = sm (fun i => crx (pt (rg rs k) i) (pt (rg rs k) (nxm (rg rs k).length i))) m := by
    intro m
    induction m with
    | zero => intro _; rfl
    | succ m ih =>
      intro hm
      have n1 := near_bd (hn m (by omega))
      have n2 := near_bd (hn ((m + 1) % (rg rs k).length) (Nat.mod_lt _ (by omega)))
      have m1 := mul_bd (pt (rg rs k) m).1 (pt (rg rs k) ((m + 1) % (rg rs k).length)).2 1048576 1048576 (by omega) (by omega) (by omega)
      have m2 := mul_bd (pt (rg rs k) m).2 (pt (rg rs k) ((m + 1) % (rg rs k).length)).1 1048576 1048576 (by omega) (by omega) (by omega)
      obtain ⟨_, b1, b2⟩ := lsum_same (rg rs k) h64 hn m (by omega)
      rw [lsum, sm, ← ih (by omega), wrap64_in ((pt (rg rs k) m).1 * _) (by omega) (by omega), wrap64_in ((pt (rg rs k) m).2 * _) (by omega) (by omega), wrap64_in (_ - _) (by omega) (by omega), wrap64_in _ (by omega) (by omega)]
      rfl
  exact key _ (Nat.le_refl _)
theorem Good.trn (g : Good rs) : Trn rs.length (fun k => (rg rs k).length) (fun k => pt (rg rs k)) (trB rs) := by
  refine ⟨?_, fun k h1 hk => ?_⟩
  · rw [← g.larea (k := 0) (by have := g.one; omega)]
    unfold trB
    by_cases h : 0 < lsum (rg rs 0) (rg rs 0).length <;> simp [h]
  · rw [← g.larea hk]
    unfold trB
    have : k ≠ 0 := by omega
    by_cases h : 0 < lsum (rg rs k) (rg rs k).length <;> simp [h, this]
theorem Good.uni (g : Good rs) : Uni rs.length (fun k => (rg rs k).length) (off rs) (fun k => pt (rg rs k)) (trB rs) (pt (verts rs)) (bnx rs) (bpv rs) := by
  refine ⟨fun k a hk ha => (pt_at rs k a ha).1, fun k a hk ha => ?_, fun k a hk ha => ?_⟩
  · unfold bnx; rw [loc_at rs k a hk ha]
  · unfold bpv; rw [loc_at rs k a hk ha]
theorem Good.bd (g : Good rs) : Bd (fun i => toR (pt (verts rs) i)) (verts rs).length (bnx rs) (bpv rs) := by
  have := uni_bd g.rgs g.uni
  rw [off_end'] at this
  exact this
theorem Good.left (g : Good rs) : ∀ i, i < (verts rs).length → inn (fun i => toR (pt (verts rs) i)) (verts rs).length (bnx rs) (bpv rs) i (toR (pt (verts rs) (bnx rs i))) = 1 := by
  have := uni_left g.rgs g.trn g.uni
  rw [off_end'] at this
  exact this
theorem Good.offv (g : Good rs) : ∀ i v, i < (verts rs).length → v < (verts rs).length → v ≠ i → v ≠ bnx rs i → ¬ On (toR (pt (verts rs) v)) (toR (pt (verts rs) i)) (toR (pt (verts rs) (bnx rs i))) := by
  have := uni_off g.rgs g.uni
  rw [off_end'] at this
  exact this
theorem Good.pos (g : Good rs) : 0 < (verts rs).length := by
  have := rg_le rs 0
  have := g.three 0 (by have := g.one; omega)
  omega
theorem bordL_get (g : Good rs) : ∀ m, m ≤ rs.length → ∀ k a, k < rs.length → a < (rg rs k).length → (bordL rs m).getD (off rs k + a) (0, 0) = if k < m ∧ trB rs k = true then (off rs k + nxm (rg rs k).length a, off rs k + a) else (off rs k + a, off rs k + nxm (rg rs k).length a) := by
  intro m
  induction m with
  | zero =>
    intro _ k a hk ha
    rw [if_neg (by omega)]
    exact ed_at rs k a ha
  | succ m ih =>
    intro hm k a hk ha
    have ih := ih (by omega) k a hk ha
    simp only [bordL]
    have hl := bordL_length rs m
    have hlim := off_le' rs (m + 1) (by omega)
    have hs := off_succ rs m (by omega)
    by_cases t : trB rs m = true
    · rw [if_pos t, turnL_get _ _ _ _ (by omega), ih]
      by_cases e : k = m
      · subst e
        rw [if_pos (by omega), if_neg (by omega), if_pos ⟨by omega, t⟩]; rfl
      · have : ¬ (off rs m ≤ off rs k + a ∧ off rs k + a < off rs m + (rg rs m).length) := by
          rcases Nat.lt_or_gt_of_ne e with u | u
          · have := off_mono rs k m u hk; omega
          · have := off_mono rs m k u (by omega); omega
        rw [if_neg this]
        by_cases q : k < m ∧ trB rs k = true
        · rw [if_pos q, if_pos ⟨by omega, q.2⟩]
        · rw [if_neg q, if_neg (fun h => q ⟨by omega, h.2⟩)]
    · rw [if_neg t, ih]
      by_cases e : k = m
      · subst e
        rw [if_neg (by omega), if_neg (fun h => t h.2)]
      · by_cases q : k < m ∧ trB rs k = true
        · rw [if_pos q, if_pos ⟨by omega, q.2⟩]
        · rw [if_neg q, if_neg (fun h => q ⟨by omega, h.2⟩)]
theorem mem_bord (g : Good rs) (x y : Nat) : (x, y) ∈ bordL rs rs.length ↔ x < (verts rs).length ∧ bnx rs x = y := by
  have V := g.rgs
  have U := g.uni
  have hl := bordL_length rs rs.length
  have num : ∀ i, i < (verts rs).length → ∃ k a, k < rs.length ∧ a < (rg rs k).length ∧ i = off rs k + a := fun i hi => num_of rs i hi
  have B := fun k (hk : k < rs.length) => V.bd false hk
  constructor
  · intro h
    obtain ⟨u, hu, e⟩ := mem_get h
    rw [hl] at hu
    obtain ⟨k, a, hk, ha, rfl⟩ := num u hu
    rw [bordL_get g _ (Nat.le_refl _) k a hk ha] at e
    have ha2 := (B k hk).nl a ha
    simp only [nkk] at ha2
    by_cases t : trB rs k = true
    · rw [if_pos ⟨hk, t⟩] at e
      simp only [Prod.mk.injEq] at e
      obtain ⟨rfl, rfl⟩ := e
      refine ⟨(pt_at rs k _ ha2).2, ?_⟩
      rw [U.nx k _ hk ha2, t]
      simp only [nkk]
      rw [pn_mod ha]
    · rw [if_neg (fun h => t h.2)] at e
      simp only [Prod.mk.injEq] at e
      obtain ⟨rfl, rfl⟩ := e
      refine ⟨(pt_at rs k _ ha).2, ?_⟩
      rw [U.nx k _ hk ha]
      cases q : trB rs k
      · rfl
      · exact absurd q t
  · rintro ⟨hx, rfl⟩
    obtain ⟨k, a, hk, ha, rfl⟩ := num x hx
    have get : ∀ u, u < (verts rs).length → (bordL rs rs.length).getD u (0, 0) ∈ bordL rs rs.length := fun u hu => getD_in (by omega)
    by_cases t : trB rs k = true
    · have pa := (B k hk).pl a ha
      simp only [pkk] at pa
      have := get _ (pt_at rs k _ pa).2
      rw [bordL_get g _ (Nat.le_refl _) k _ hk pa, if_pos ⟨hk, t⟩, np_mod ha] at this
      rw [U.nx k _ hk ha, t]
      exact this
    · have := get _ (pt_at rs k _ ha).2
      rw [bordL_get g _ (Nat.le_refl _) k _ hk ha, if_neg (fun h => t h.2)] at this
      rw [U.nx k _ hk ha]
      cases q : trB rs k
      · exact this
      · exact absurd q t
theorem opF_at (bl : List (Nat × Nat)) : ∀ k a b, k ≤ bl.length → opF bl k a b = if (a, b) ∈ bl.take k then some (-1) else none := by
  intro k
  induction k with
  | zero => intro a b _; simp [opF]
  | succ k ih =>
    intro a b hk
    have ts := take_snoc bl k (0, 0) (by omega)
    simp only [opF, upd]
    rw [ts, ih a b (by omega)]
    by_cases q : a = (bl.getD k (0, 0)).1 ∧ b = (bl.getD k (0, 0)).2
    · rw [if_pos q, if_pos]
      rw [List.mem_append, List.mem_singleton]
      right; rw [q.1, q.2]
    · rw [if_neg q]
      by_cases m : (a, b) ∈ bl.take k
      · rw [if_pos m, if_pos (List.mem_append_left _ m)]
      · rw [if_neg m, if_neg]
        rw [List.mem_append, List.mem_singleton]
        rintro (h | h)
        · exact m h
        · exact q (by rw [← h]; exact ⟨rfl, rfl⟩)
theorem Good.start (g : Good rs) : FInv (pt (verts rs)) (verts rs).length (bnx rs) (bpv rs) (bordL rs rs.length) (opF (bordL rs rs.length) (bordL rs rs.length).length) 0 := by
  have A : ∀ a b, opF (bordL rs rs.length) (bordL rs rs.length).length a b = if (a, b) ∈ bordL rs rs.length then some (-1) else none := fun a b => by
    rw [opF_at _ _ a b (Nat.le_refl _), List.take_length]
  generalize hF : opF (bordL rs rs.length) (bordL rs rs.length).length = F at *
  have KE : KF F = fun a b => a < (verts rs).length ∧ bnx rs a = b := by
    funext a b
    apply propext
    unfold KF
    rw [A, ← mem_bord g]
    by_cases h : (a, b) ∈ bordL rs rs.length
    · simp [h]
    · simp [h]
  have TE : thF F = fun _ _ => none := by
    funext a b
    have := A a b
    by_cases h : (a, b) ∈ bordL rs rs.length
    · rw [if_pos h] at this; exact thF_uncut this
    · rw [if_neg h] at this; exact thF_none this
  refine ⟨?_, ?_, ?_, ?_, ?_, ?_, fun u h => by omega, ?_, Nat.zero_le _⟩
  · rw [KE, TE]; exact Jor.start g.bd g.offv g.left
  · rw [KE, TE]; exact del_start g.bd
  · intro a b v h
    rw [A] at h
    split at h
    · cases h; exact .inl rfl
    · cases h
  · intro e he
    rw [KE]; exact (mem_bord g e.1 e.2).1 he
  · intro a b k
    rw [KE] at k
    exact .inl ((mem_bord g a b).2 k)
  · intro a b k
    rw [KE] at k
    exact .inr ((mem_bord g a b).2 k)
  · rw [bordL_length]
    have : 0 ≤ cuts (verts rs).length (thF F) := by
      unfold cuts
      have h := sm_le (f := fun _ => 0) (g := fun i => match thF F (i / (verts rs).length) (i % (verts rs).length) with | some _ => (1 : Int) | none => 0) (n := (verts rs).length * (verts rs).length) (fun k _ => by split <;> omega)
      rw [sm_zero _ _ (fun _ _ => rfl)] at h
      exact h
    omega
end
end Go.Proofs.YtdkaoopkbhaheaaGreat
