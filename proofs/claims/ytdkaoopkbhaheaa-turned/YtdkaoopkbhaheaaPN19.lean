import Derived.Test.YtdkaoopkbhaheaaPN15
import Derived.Test.YtdkaoopkbhaheaaPN17
import Derived.Test.YtdkaoopkbhaheaaPK1
import Derived.Test.YtdkaoopkbhaheaaPR1
import Derived.Test.YtdkaoopkbhaheaaPF11
namespace Go.Proofs.Ytdkaoopkbhaheaa
open Go.RowKit Go.Lib
open Jor
open scoped Classical
set_option linter.unusedVariables false
set_option linter.unusedSimpArgs false
structure Good (rs : List (List IP)) : Prop where
  one : 1 ≤ rs.length
  eight : rs.length ≤ 8
  three : ∀ k, k < rs.length → 3 ≤ (rg rs k).length
  few : (verts rs).length ≤ 64
  near : ∀ i, i < (verts rs).length → nearP (pt (verts rs) i)
  twice : ¬ Twice rs
  touch : ¬ TouchR rs
  out : ¬ OutR rs
  nest : ¬ NestR rs
theorem good_of {rs : List (List IP)} (h : chkP rs = 0) : Good rs := by
  rw [check_same] at h
  unfold chkR first7 at h
  have g1 : ¬ Many rs := fun g => by rw [if_pos g] at h; omega
  rw [if_neg g1] at h
  have g2 : ¬ Short rs := fun g => by rw [if_pos g] at h; omega
  rw [if_neg g2] at h
  have g3 : ¬ Far rs := fun g => by rw [if_pos g] at h; omega
  rw [if_neg g3] at h
  have g4 : ¬ Twice rs := fun g => by rw [if_pos g] at h; omega
  rw [if_neg g4] at h
  have g5 : ¬ TouchR rs := fun g => by rw [if_pos g] at h; omega
  rw [if_neg g5] at h
  have g6 : ¬ OutR rs := fun g => by rw [if_pos g] at h; omega
  rw [if_neg g6] at h
  have g7 : ¬ NestR rs := fun g => by rw [if_pos g] at h; omega
  obtain ⟨a1, a2, a3⟩ := fine_of g1 g2
  obtain ⟨b1, b2⟩ := near_of g3
  exact ⟨a1, a2, a3, b1, b2, g4, g5, g6, g7⟩
theorem Good.sound {rs : List (List IP)} (g : Good rs) : Sound rs :=
  ⟨g.three, g.near, fun i j hi hj hne e => by
    rcases Nat.lt_or_gt_of_ne hne with h | h
    · exact g.twice ⟨j, i, h, hj, e.symm⟩
    · exact g.twice ⟨i, j, h, hi, e⟩⟩
def loc : List (List IP) → Nat → Nat × Nat
  | [], i => (0, i)
  | r :: rs, i => if i < r.length then (0, i) else ((loc rs (i - r.length)).1 + 1, (loc rs (i - r.length)).2)
theorem loc_at (rs : List (List IP)) : ∀ k a, k < rs.length → a < (rg rs k).length → loc rs (off rs k + a) = (k, a) := by
  induction rs with
  | nil => intro k a h; simp at h
  | cons r rs ih =>
    intro k a hk ha
    match k with
    | 0 =>
      have : a < r.length := by simpa [rg] using ha
      have eo : off (r :: rs) 0 + a = a := Nat.zero_add a
      have ls : ∀ i, loc (r :: rs) i = if i < r.length then (0, i) else ((loc rs (i - r.length)).1 + 1, (loc rs (i - r.length)).2) := fun _ => rfl
      rw [eo, ls, if_pos this]
    | k + 1 =>
      have e : rg (r :: rs) (k + 1) = rg rs k := by simp [rg]
      rw [e] at ha
      have := ih k a (by simpa using hk) ha
      have eo : off (r :: rs) (k + 1) + a = r.length + off rs k + a := rfl
      have ls : ∀ i, loc (r :: rs) i = if i < r.length then (0, i) else ((loc rs (i - r.length)).1 + 1, (loc rs (i - r.length)).2) := fun _ => rfl
      rw [eo, ls, if_neg (by omega), show r.length + off rs k + a - r.length = off rs k + a by omega, this]
def bnx (rs : List (List IP)) (i : Nat) : Nat := off rs (loc rs i).1 + nkk (trB rs (loc rs i).1) (rg rs (loc rs i).1).length (loc rs i).2
def bpv (rs : List (List IP)) (i : Nat) : Nat := off rs (loc rs i).1 + pkk (trB rs (loc rs i).1) (rg rs (loc rs i).1).length (loc rs i).2
section
variable {rs : List (List IP)}
theorem Good.rgs (g : Good rs) : Rgs rs.length (fun k => (rg rs k).length) (off rs) (fun k => pt (rg rs k)) := by
  have S := g.sound
  have nearr : ∀ m, m < rs.length → ∀ i, i < (rg rs m).length → nearP (pt (rg rs m) i) := fun m hm i hi => by
    have := pt_at rs m i hi
    rw [← this.1]; exact S.near _ this.2
  refine ⟨g.one, off_zero rs, fun k hk => off_succ rs k hk, fun k hk => ring_of S g.touch hk, ?_, ?_, ?_, ?_⟩
  · intro k l a b hk hl ha hb e
    have p1 := pt_at rs k a ha
    have p2 := pt_at rs l b hb
    rw [← p1.1, ← p2.1] at e
    have : off rs k + a = off rs l + b := Classical.byContradiction fun h => S.apart _ _ p1.2 p2.2 h e
    rcases Nat.lt_trichotomy k l with u | u | u
    · have := off_mono rs k l u hk; omega
    · subst u; exact ⟨rfl, by omega⟩
    · have := off_mono rs l k u hl; omega
  · intro k l a b hk hl hkl ha hb
    exact far_edges S g.touch hk hl ha hb (fun e => by
      rcases Nat.lt_or_gt_of_ne hkl with u | u
      · have := off_mono rs k l u hk; omega
      · have := off_mono rs l k u hl; omega) (fun e => hkl e.1) (fun e => hkl e.1)
  · intro k h1 hk h0
    refine g.out ⟨k, h1, hk, ?_⟩
    have h3 := g.three k hk
    have h30 := g.three 0 (by omega)
    unfold withinR
    rw [turns_wind _ _ _ (nearr k hk 0 (by omega)) (nearr 0 (by omega))]
    rw [h0]; rfl
  · intro k l h1 hk h2 hl hkl
    refine Classical.byContradiction fun h0 => g.nest ⟨k, l, h1, hk, h2, hl, Ne.symm hkl, ?_⟩
    have h3 := g.three k hk
    unfold withinR
    rw [turns_wind _ _ _ (nearr k hk 0 (by omega)) (nearr l hl)]
    simpa using h0
theorem Good.larea (g : Good rs) {k : Nat} (hk : k < rs.length) : lsum (rg rs k) (rg rs k).length = areaR (rg rs k).length (pt (rg rs k)) := by
  have hn : ∀ i, i < (rg rs k).length → nearP (pt (rg rs k) i) := fun i hi => by
    have := pt_at rs k i hi
    rw [← this.1]; exact g.near _ this.2
  have h64 : (rg rs k).length ≤ 64 := by have := rg_le rs k; have := g.few; omega
  have key : ∀ m, m ≤ (rg rs k).length → lsum (rg rs k) m = sm (fun i => crx (pt (rg rs k) i) (pt (rg rs k) (nxm (rg rs k).length i))) m := by
    intro m
    induction m with
    | zero => intro _; rfl
    | succ m ih =>
      intro hm
      have n1 := near_bd (hn m (by omega))
      have n2 := near_bd (hn ((m + 1) % (rg rs k).length) (Nat.mod_lt _ (by omega)))
      have m1 := mul_bd (pt (rg rs k) m).1 (pt (rg rs k) ((m + 1) % (rg rs k).length)).2 1048576 1048576 (by omega) (by omega) (by omega)
      have m2 := mul_bd (pt (rg rs k) m).2 (pt (rg rs k) ((m + 1) % (rg rs k).length)).1 1048576 1048576 (by omega) (by omega) (by omega)
      obtain ⟨_, b1, b2⟩ := lsum_same (rg rs k) h64 hn m (by omega)
      rw [lsum, sm, ← ih (by omega), wrap64_in ((pt (rg rs k) m).1 * _) (by omega) (by omega), wrap64_in ((pt (rg rs k) m).2 * _) (by omega) (by omega), wrap64_in (_ - _) (by omega) (by omega), wrap64_in _ (by omega) (by omega)]
      rfl
  exact key _ (Nat.le_refl _)
theorem Good.trn (g : Good rs) : Trn rs.length (fun k => (rg rs k).length) (fun k => pt (rg rs k)) (trB rs) := by
  refine ⟨?_, fun k h1 hk => ?_⟩
  · rw [← g.larea (k := 0) (by have := g.one; omega)]
    unfold trB
    by_cases h : 0 < lsum (rg rs 0) (rg rs 0).length <;> simp [h]
  · rw [← g.larea hk]
    unfold trB
    have : k ≠ 0 := by omega
    by_cases h : 0 < lsum (rg rs k) (rg rs k).length <;> simp [h, this]
theorem Good.uni (g : Good rs) : Uni rs.length (fun k => (rg rs k).length) (off rs) (fun k => pt (rg rs k)) (trB rs) (pt (verts rs)) (bnx rs) (bpv rs) := by
  refine ⟨fun k a hk ha => (pt_at rs k a ha).1, fun k a hk ha => ?_, fun k a hk ha => ?_⟩
  · unfold bnx; rw [loc_at rs k a hk ha]
  · unfold bpv; rw [loc_at rs k a hk ha]
theorem Good.bd (g : Good rs) : Bd (fun i => toR (pt (verts rs) i)) (verts rs).length (bnx rs) (bpv rs) := by
  have := uni_bd g.rgs g.uni
  rw [off_end'] at this
  exact this
theorem Good.left (g : Good rs) : ∀ i, i < (verts rs).length → inn (fun i => toR (pt (verts rs) i)) (verts rs).length (bnx rs) (bpv rs) i (toR (pt (verts rs) (bnx rs i))) = 1 := by
  have := uni_left g.rgs g.trn g.uni
  rw [off_end'] at this
  exact this
theorem Good.offv (g : Good rs) : ∀ i v, i < (verts rs).length → v < (verts rs).length → v ≠ i → v ≠ bnx rs i → ¬ On (toR (pt (verts rs) v)) (toR (pt (verts rs) i)) (toR (pt (verts rs) (bnx rs i))) := by
  have := uni_off g.rgs g.uni
  rw [off_end'] at this
  exact this
theorem Good.pos (g : Good rs) : 0 < (verts rs).length := by
  have := rg_le rs 0
  have := g.three 0 (by have := g.one; omega)
  omega
theorem bordL_get (g : Good rs) : ∀ m, m ≤ rs.length → ∀ k a, k < rs.length → a < (rg rs k).length → (bordL rs m).getD (off rs k + a) (0, 0) = if k < m ∧ trB rs k = true then (off rs k + nxm (rg rs k).length a, off rs k + a) else (off rs k + a, off rs k + nxm (rg rs k).length a) := by
  intro m
  induction m with
  | zero =>
    intro _ k a hk ha
    rw [if_neg (by omega)]
    exact ed_at rs k a ha
  | succ m ih =>
    intro hm k a hk ha
    have ih := ih (by omega) k a hk ha
    simp only [bordL]
    have hl := bordL_length rs m
    have hlim := off_le' rs (m + 1) (by omega)
    have hs := off_succ rs m (by omega)
    by_cases t : trB rs m = true
    · rw [if_pos t, turnL_get _ _ _ _ (by omega), ih]
      by_cases e : k = m
      · subst e
        rw [if_pos (by omega), if_neg (by omega), if_pos ⟨by omega, t⟩]; rfl
      · have : ¬ (off rs m ≤ off rs k + a ∧ off rs k + a < off rs m + (rg rs m).length) := by
          rcases Nat.lt_or_gt_of_ne e with u | u
          · have := off_mono rs k m u hk; omega
          · have := off_mono rs m k u (by omega); omega
        rw [if_neg this]
        by_cases q : k < m ∧ trB rs k = true
        · rw [if_pos q, if_pos ⟨by omega, q.2⟩]
        · rw [if_neg q, if_neg (fun h => q ⟨by omega, h.2⟩)]
    · rw [if_neg t, ih]
      by_cases e : k = m
      · subst e
        rw [if_neg (by omega), if_neg (fun h => t h.2)]
      · by_cases q : k < m ∧ trB rs k = true
        · rw [if_pos q, if_pos ⟨by omega, q.2⟩]
        · rw [if_neg q, if_neg (fun h => q ⟨by omega, h.2⟩)]
theorem mem_bord (g : Good rs) (x y : Nat) : (x, y) ∈ bordL rs rs.length ↔ x < (verts rs).length ∧ bnx rs x = y := by
  have V := g.rgs
  have U := g.uni
  have hl := bordL_length rs rs.length
  have num : ∀ i, i < (verts rs).length → ∃ k a, k < rs.length ∧ a < (rg rs k).length ∧ i = off rs k + a := fun i hi => num_of rs i hi
  have B := fun k (hk : k < rs.length) => V.bd false hk
  constructor
  · intro h
    obtain ⟨u, hu, e⟩ := mem_get h
    rw [hl] at hu
    obtain ⟨k, a, hk, ha, rfl⟩ := num u hu
    rw [bordL_get g _ (Nat.le_refl _) k a hk ha] at e
    have ha2 := (B k hk).nl a ha
    simp only [nkk] at ha2
    by_cases t : trB rs k = true
    · rw [if_pos ⟨hk, t⟩] at e
      simp only [Prod.mk.injEq] at e
      obtain ⟨rfl, rfl⟩ := e
      refine ⟨(pt_at rs k _ ha2).2, ?_⟩
      rw [U.nx k _ hk ha2, t]
      simp only [nkk]
      rw [pn_mod ha]
    · rw [if_neg (fun h => t h.2)] at e
      simp only [Prod.mk.injEq] at e
      obtain ⟨rfl, rfl⟩ := e
      refine ⟨(pt_at rs k _ ha).2, ?_⟩
      rw [U.nx k _ hk ha]
      cases q : trB rs k
      · rfl
      · exact absurd q t
  · rintro ⟨hx, rfl⟩
    obtain ⟨k, a, hk, ha, rfl⟩ := num x hx
    have get : ∀ u, u < (verts rs).length → (bordL rs rs.length).getD u (0, 0) ∈ bordL rs rs.length := fun u hu => getD_in (by omega)
    by_cases t : trB rs k = true
    · have pa := (B k hk).pl a ha
      simp only [pkk] at pa
      have := get _ (pt_at rs k _ pa).2
      rw [bordL_get g _ (Nat.le_refl _) k _ hk pa, if_pos ⟨hk, t⟩, np_mod ha] at this
      rw [U.nx k _ hk ha, t]
      exact this
    · have := get _ (pt_at rs k _ ha).2
      rw [bordL_get g _ (Nat.le_refl _) k _ hk ha, if_neg (fun h => t h.2)] at this
      rw [U.nx k _ hk ha]
      cases q : trB rs k
      · exact this
      · exact absurd q t
theorem opF_at (bl : List (Nat × Nat)) : ∀ k a b, k ≤ bl.length → opF bl k a b = if (a, b) ∈ bl.take k then some (-1) else none := by
  intro k
  induction k with
  | zero => intro a b _; simp [opF]
  | succ k ih =>
    intro a b hk
    have ts := take_snoc bl k (0, 0) (by omega)
    simp only [opF, upd]
    rw [ts, ih a b (by omega)]
    by_cases q : a = (bl.getD k (0, 0)).1 ∧ b = (bl.getD k (0, 0)).2
    · rw [if_pos q, if_pos]
      rw [List.mem_append, List.mem_singleton]
      right; rw [q.1, q.2]
    · rw [if_neg q]
      by_cases m : (a, b) ∈ bl.take k
      · rw [if_pos m, if_pos (List.mem_append_left _ m)]
      · rw [if_neg m, if_neg]
        rw [List.mem_append, List.mem_singleton]
        rintro (h | h)
        · exact m h
        · exact q (by rw [← h]; exact ⟨rfl, rfl⟩)
theorem Good.start (g : Good rs) : FInv (pt (verts rs)) (verts rs).length (bnx rs) (bpv rs) (bordL rs rs.length) (opF (bordL rs rs.length) (bordL rs rs.length).length) 0 := by
  have A : ∀ a b, opF (bordL rs rs.length) (bordL rs rs.length).length a b = if (a, b) ∈ bordL rs rs.length then some (-1) else none := fun a b => by
    rw [opF_at _ _ a b (Nat.le_refl _), List.take_length]
  generalize hF : opF (bordL rs rs.length) (bordL rs rs.length).length = F at *
  have KE : KF F = fun a b => a < (verts rs).length ∧ bnx rs a = b := by
    funext a b
    apply propext
    unfold KF
    rw [A, ← mem_bord g]
    by_cases h : (a, b) ∈ bordL rs rs.length
    · simp [h]
    · simp [h]
  have TE : thF F = fun _ _ => none := by
    funext a b
    have := A a b
    by_cases h : (a, b) ∈ bordL rs rs.length
    · rw [if_pos h] at this; exact thF_uncut this
    · rw [if_neg h] at this; exact thF_none this
  refine ⟨?_, ?_, ?_, ?_, ?_, ?_, fun u h => by omega, ?_, Nat.zero_le _⟩
  · rw [KE, TE]; exact Jor.start g.bd g.offv g.left
  · rw [KE, TE]; exact del_start g.bd
  · intro a b v h
    rw [A] at h
    split at h
    · cases h; exact .inl rfl
    · cases h
  · intro e he
    rw [KE]; exact (mem_bord g e.1 e.2).1 he
  · intro a b k
    rw [KE] at k
    exact .inl ((mem_bord g a b).2 k)
  · intro a b k
    rw [KE] at k
    exact .inr ((mem_bord g a b).2 k)
  · rw [bordL_length]
    have : 0 ≤ cuts (verts rs).length (thF F) := by
      unfold cuts
      have h := sm_le (f := fun _ => 0) (g := fun i => match thF F (i / (verts rs).length) (i % (verts rs).length) with | some _ => (1 : Int) | none => 0) (n := (verts rs).length * (verts rs).length) (fun k _ => by split <;> omega)
      rw [sm_zero _ _ (fun _ _ => rfl)] at h
      exact h
    omega
end
end Go.Proofs.Ytdkaoopkbhaheaa
namespace Go.Proofs.Ytdkaoopkbhaheaa
open Go.RowKit Go.Lib
open Jor
open Go.ChangeMaps (setBlock)
set_option linter.unusedVariables false
set_option linter.unusedSimpArgs false
set_option maxRecDepth 100000 in
set_option maxHeartbeats 1000000 in
theorem vertices2_any (a : Option Addr) (cap : Nat) (A : Nat → Option Addr) (C : Nat → Nat) (rs : List (List IP)) (w : World) (hn : rs.length ≤ 1048576) (hp : RingsL w a A C rs) (h3 : ∀ k, k < rs.length → 0 < (rg rs k).length) (hpos : 0 < (verts rs).length) (hsz : (verts rs).length ≤ 1048576) :
    Calls Try.prog 73 #[.slice a rs.length cap] w fun e w' => ∃ g c', e = .returned (.slice (some ⟨g, 0, none⟩) (verts rs).length c') ∧ w.heap.size ≤ g ∧ PtsAt w' g 0 (verts rs).length (pt (verts rs)) ∧ Below w.heap.size w w' := by
  go_enter Try.func73, Try.ntmps73
  go_wp2_with (go_at_call 92; refine (concat_any _ _ _ _ _ _ hn hp h3 hpos hsz).mono ?_; rintro e w1 ⟨v, rfl, hown, hb1⟩)
  go_ret
  have hv : ∃ g c', v = .slice (some ⟨g, 0, none⟩) (verts rs).length c' ∧ w.heap.size ≤ g := by
    obtain ⟨_, h2⟩ := hown
    rcases h2 with ⟨_, h2⟩ | ⟨g, c, cur, h2, h3, _⟩
    · have : (verts rs).length = 0 := h2
      omega
    · exact ⟨g, c, h2, h3⟩
  obtain ⟨g, c', rfl, hg⟩ := hv
  obtain ⟨a1, c1, e, hP⟩ := own_verts hown
  simp only [Value.slice.injEq] at e
  obtain ⟨rfl, _, rfl⟩ := e
  refine ⟨g, c', rfl, hg, ?_, hb1⟩
  rcases hP with h | ⟨b, o, e, hh⟩
  · omega
  · cases e
    exact hh
def leftF (T : List T3) : Nat → Nat → Nat → Option Int
  | 0 => fun _ _ => none
  | k + 1 => upd (upd (upd (leftF T k) (T.getD k (0, 0, 0)).1 (T.getD k (0, 0, 0)).2.1 k) (T.getD k (0, 0, 0)).2.1 (T.getD k (0, 0, 0)).2.2 k) (T.getD k (0, 0, 0)).2.2 (T.getD k (0, 0, 0)).1 k
structure MeshAt (base : Nat) (w : World) (rs : List (List IP)) (T : List T3) (mv : Value) (g c' : Nat) (y : Value) (bl : Nat) : Prop where
  val : mv = .agg #[.slice (some ⟨g, 0, none⟩) (verts rs).length c', y, .map (some bl)]
  gb : base ≤ g
  pts : PtsAt w g 0 (verts rs).length (pt (verts rs))
  row : w.ownsRow base 57 3 y T.length (cells3 T)
  lb : base ≤ bl
  map : MapIs w bl (leftF T T.length)
structure NewI (w w' : World) (rs : List (List IP)) (gg pw : Value) (B : Nat) (b3 b4 b5 b6 b7 b8 : Bool) (s4 s15 s16 s17 s18 : Value) : Prop where
  below : Below B w w'
  size : B ≤ w'.heap.size
  bord : b3 = true → b4 = false → ∃ gb cb, s15 = .slice (some ⟨gb, 0, none⟩) (verts rs).length cb ∧ w'.ownsRow B 120 2 s15 (verts rs).length (cellsA (bordL rs rs.length))
  tris : b4 = true → ∃ T F L, w'.ownsRow B 57 3 s16 T.length (cells3 T) ∧ T.Pairwise lt3 ∧ (∀ i j u, (i, j, u) ∈ T ↔ F i j = some (u : Int) ∧ i < j ∧ i < u) ∧ FInv (pt (verts rs)) (verts rs).length (bnx rs) (bpv rs) L F L.length
  map : b5 = true → ∃ bm, B ≤ bm ∧ s17 = .map (some bm) ∧ MapIs w' bm (fun _ _ => none)
  built : b6 = true → b4 = true ∧ b5 = true ∧ s18 = .agg #[gg, s16, s17]
  box : b7 = true → ∃ bM, B ≤ bM ∧ s4 = .pointer (some ⟨bM, 0, none⟩) ∧ w'.heap[bM]? = some (.cells (if b8 then #[gg, s16, s17] else #[.slice none 0 0, .slice none 0 0, .map none]) 96)
  last : b8 = true → b6 = true ∧ b7 = true
section
variable {w w' w2 : World} {rs : List (List IP)} {gg pw : Value} {B : Nat} {b3 b4 b5 b6 b7 b8 : Bool} {s4 s15 s16 s17 s18 : Value}
theorem NewI.later (h : NewI w w' rs gg pw B b3 b4 b5 b6 b7 b8 s4 s15 s16 s17 s18) (hb : Below w'.heap.size w' w2) : NewI w w2 rs gg pw B b3 b4 b5 b6 b7 b8 s4 s15 s16 s17 s18 where
  below := h.below.trans (hb.mono h.size)
  size := Nat.le_trans h.size hb.size
  bord := fun a b => by
    obtain ⟨gb, cb, e, o⟩ := h.bord a b
    exact ⟨gb, cb, e, own_later o hb⟩
  tris := fun a => by
    obtain ⟨T, F, L, o, q⟩ := h.tris a
    exact ⟨T, F, L, own_later o hb, q⟩
  map := fun a => by
    obtain ⟨bm, q1, q2, q3⟩ := h.map a
    exact ⟨bm, q1, q2, q3.later hb⟩
  built := h.built
  box := fun a => by
    obtain ⟨bM, q1, q2, q3⟩ := h.box a
    exact ⟨bM, q1, q2, (hb.block _ (Array.getElem?_eq_some_iff.1 q3).1).trans q3⟩
  last := h.last
end
def leftS (F : Nat → Nat → Option Int) (p0 p1 p2 k : Nat) : Nat → Nat → Nat → Option Int
  | 0 => F
  | m + 1 => upd (leftS F p0 p1 p2 k m) (sd1 p0 p1 p2 m) (sd2 p0 p1 p2 m) k
theorem cells3_at (T : List T3) : ∀ i, i < T.length → (cells3 T)[i * 3]? = some (.int .i64 ((T.getD i (0, 0, 0)).1 : Int)) ∧ (cells3 T)[i * 3 + 1]? = some (.int .i64 ((T.getD i (0, 0, 0)).2.1 : Int)) ∧ (cells3 T)[i * 3 + 2]? = some (.int .i64 ((T.getD i (0, 0, 0)).2.2 : Int)) := by
  induction T with
  | nil => intro i h; simp at h
  | cons p l ih =>
    intro i h
    match i with
    | 0 => simp [cells3, enc3]
    | i + 1 =>
      have := ih i (by simpa using h)
      rw [show (i + 1) * 3 = i * 3 + 1 + 1 + 1 by omega]
      simpa [cells3, enc3] using this
theorem tri_cells {w : World} {B g c : Nat} {T : List T3} (h : w.ownsRow B 57 3 (.slice (some ⟨g, 0, none⟩) T.length c) T.length (cells3 T)) : ∀ i, i < T.length → w.cell? ⟨g, i * 3, none⟩ = some (.int .i64 ((T.getD i (0, 0, 0)).1 : Int)) ∧ w.cell? ⟨g, i * 3 + 1, none⟩ = some (.int .i64 ((T.getD i (0, 0, 0)).2.1 : Int)) ∧ w.cell? ⟨g, i * 3 + 2, none⟩ = some (.int .i64 ((T.getD i (0, 0, 0)).2.2 : Int)) := fun i hi => by
  obtain ⟨q1, q2, q3⟩ := cells3_at T i hi
  exact ⟨(h.cellAt _ (by omega)).trans q1, (h.cellAt _ (by omega)).trans q2, (h.cellAt _ (by omega)).trans q3⟩
section
variable {V : Nat → IP} {n : Nat} {nx pv : Nat → Nat} {L : List (Nat × Nat)} {F : Nat → Nat → Option Int} {T : List T3}
theorem tri_in (hm : ∀ i j u, (i, j, u) ∈ T ↔ F i j = some (u : Int) ∧ i < j ∧ i < u) (I : FInv V n nx pv L F L.length) {t : T3} (ht : t ∈ T) : t.1 < n ∧ t.2.1 < n ∧ t.2.2 < n := by
  obtain ⟨i, j, u⟩ := t
  obtain ⟨h1, _⟩ := (hm i j u).1 ht
  have k : KF F i j := by unfold KF; rw [h1]; simp
  have := I.vals _ _ _ h1
  exact ⟨I.front.fa _ _ k, I.front.fb _ _ k, by simp only; omega⟩
theorem tri_small (hm : ∀ i j u, (i, j, u) ∈ T ↔ F i j = some (u : Int) ∧ i < j ∧ i < u) (I : FInv V n nx pv L F L.length) (hn : n ≤ 64) : ∀ i, i < T.length → (T.getD i (0, 0, 0)).1 < 64 ∧ (T.getD i (0, 0, 0)).2.1 < 64 ∧ (T.getD i (0, 0, 0)).2.2 < 64 := fun i hi => by
  have := tri_in hm I (getD_in (d := (0, 0, 0)) hi)
  omega
theorem tri_few (hp : T.Pairwise lt3) (hm : ∀ i j u, (i, j, u) ∈ T ↔ F i j = some (u : Int) ∧ i < j ∧ i < u) (I : FInv V n nx pv L F L.length) (hn : n ≤ 64) : T.length ≤ 1048576 := by
  have nd := nodup_lt (64 * 64 * 64) (T.map fun t => t.1 * 4096 + t.2.1 * 64 + t.2.2) (by
    rw [List.nodup_iff_pairwise_ne, List.pairwise_map]
    refine List.Pairwise.imp_of_mem ?_ hp
    intro a b ha hb hab e
    have h1 := tri_in hm I ha
    have h2 := tri_in hm I hb
    unfold lt3 at hab
    omega) (by
    intro x hx
    obtain ⟨t, ht, rfl⟩ := List.mem_map.1 hx
    have := tri_in hm I ht
    omega)
  simp at nd
  omega
end
theorem cut_of {rs : List (List IP)} (G : Good rs) {g c' gb cb B : Nat} {w' : World} (hp : PtsAt w' g 0 (verts rs).length (pt (verts rs))) (ho : w'.ownsRow B 120 2 (.slice (some ⟨gb, 0, none⟩) (verts rs).length cb) (verts rs).length (cellsA (bordL rs rs.length))) :
    Calls Try.prog 74 #[.agg #[.slice (some ⟨g, 0, none⟩) (verts rs).length c'], .slice (some ⟨gb, 0, none⟩) (verts rs).length cb] w' fun e w2 => ∃ y T F L, e = .returned y ∧ w2.ownsRow w'.heap.size 57 3 y T.length (cells3 T) ∧ T.Pairwise lt3 ∧ (∀ i j u, (i, j, u) ∈ T ↔ F i j = some (u : Int) ∧ i < j ∧ i < u) ∧ FInv (pt (verts rs)) (verts rs).length (bnx rs) (bpv rs) L F L.length ∧ Below w'.heap.size w' w2 := by
  have hl := bordL_length rs rs.length
  have h4 := G.pos
  have ho2 : w'.ownsRow B 120 2 (.slice (some ⟨gb, 0, none⟩) (verts rs).length cb) (bordL rs rs.length).length (cellsA (bordL rs rs.length)) := by rw [hl]; exact ho
  obtain ⟨g2, c2, e2, hE⟩ := own_edges (by rw [hl]; exact h4) ho2
  simp only [Value.slice.injEq, Option.some.injEq, Addr.mk.injEq, and_true] at e2
  obtain ⟨rfl, _, rfl⟩ := e2
  have CC := cutAll_any g 0 (verts rs).length c' gb 0 cb (pt (verts rs)) (bnx rs) (bpv rs) (bordL rs rs.length) w' G.few h4 G.near G.bd (fun u hu => ⟨(G.start.lt u hu).1, (G.start.lt u hu).2⟩) G.start hp hE
  unfold Go.Proofs.Ytdkaoopkbhaheaa.gv at CC
  rw [hl] at CC
  exact CC
set_option maxRecDepth 100000 in
set_option maxHeartbeats 4000000 in
theorem mnew_any (b of cap : Nat) (A : Nat → Option Addr) (C : Nat → Nat) (rs : List (List IP)) (w : World) (G : Good rs) (hp : RingsL w (some ⟨b, of, none⟩) A C rs) :
    Calls Try.prog 57 #[.slice (some ⟨b, of, none⟩) rs.length cap] w fun e w' => ∃ mv g c' y bl T F L, e = .returned mv ∧ MeshAt w.heap.size w' rs T mv g c' y bl ∧ T.Pairwise lt3 ∧ (∀ i j u, (i, j, u) ∈ T ↔ F i j = some (u : Int) ∧ i < j ∧ i < u) ∧ FInv (pt (verts rs)) (verts rs).length (bnx rs) (bpv rs) L F L.length ∧ Below w.heap.size w w' := by
  have HP : Hid (RingsL w (some ⟨b, of, none⟩) A C rs) := hp
  have HG : Hid (Good rs) := G
  have h1 := G.one; have h2 := G.eight; have h3 := G.few; have h4 := G.pos
  have H3 : Hid (∀ k, k < rs.length → 3 ≤ (rg rs k).length) := G.three
  have hmm := @run_makeMap Try.prog
  clear hp G
  have hb0 : Below w.heap.size w (w.alloc (.cells #[.slice none 0 0, .slice none 0 0, .map none] 96)) := (Below.refl _ _).alloc (Nat.le_refl _) _
  go_enter Try.func57, Try.ntmps57
  go_wp2_with (go_at_call 73; refine (vertices2_any _ _ _ _ _ _ (by omega) (Rings.later hb0 HP.out) (fun k hk => Nat.lt_of_lt_of_le (by decide) (H3.out k hk)) h4 (by omega)).mono ?_; rintro e w1 ⟨g, c', rfl, hg, hP1, hb1⟩)
  have hbA : Below w.heap.size w (w1.alloc (.cells #[.slice (some ⟨g, 0, none⟩) (verts rs).length c'] 93)) := (hb0.trans (hb1.mono (by simp))).alloc (by have := hb1.size; simp at this; omega) _
  have hbG : Below w1.heap.size w1 (w1.alloc (.cells #[.slice (some ⟨g, 0, none⟩) (verts rs).length c'] 93)) := (Below.refl _ _).alloc (Nat.le_refl _) _
  have HPT : Hid (PtsAt (w1.alloc (.cells #[.slice (some ⟨g, 0, none⟩) (verts rs).length c'] 93)) g 0 (verts rs).length (pt (verts rs))) := PtsAt.later hbG hP1
  have x0 : (w1.alloc (.cells #[.slice (some ⟨g, 0, none⟩) (verts rs).length c'] 93)).cell? ⟨w1.heap.size, 0, none⟩ = some (Value.slice (some ⟨g, 0, none⟩) (verts rs).length c') := by simp [go_sem]
  have hsA := hbA.size
  have hgl : g < (w1.alloc (.cells #[.slice (some ⟨g, 0, none⟩) (verts rs).length c'] 93)).heap.size := World.block_lt_of_cell? _ _ (HPT.out 0 h4).1
  have hgw : w.heap.size + 1 ≤ g := by simpa using hg
  have hRA : (w1.alloc (.cells #[.slice (some ⟨g, 0, none⟩) (verts rs).length c'] 93)).heap[w.heap.size]? = some (.cells #[.slice none 0 0, .slice none 0 0, .map none] 96) := by
    have hs1 := hb1.size
    simp only [World.size_alloc] at hs1
    rw [Below.heap_alloc _ _ _ (by omega), hb1.block _ (by simp)]
    exact heap_alloc_new _ _
  clear hb0 hb1 hP1 hbG hg
  generalize hWA : (w1.alloc (.cells #[.slice (some ⟨g, 0, none⟩) (verts rs).length c'] 93)) = WA at *
  have x0d : WA.drew.cell? ⟨w1.heap.size, 0, none⟩ = some (Value.slice (some ⟨g, 0, none⟩) (verts rs).length c') := x0
  have hbD : Below w.heap.size w WA.drew := hbA.drew
  refine wp_region_U (fun w' => w'.cell? ⟨w1.heap.size, 0, none⟩ = some (Value.slice (some ⟨g, 0, none⟩) (verts rs).length c')) [6, 8] (by kernel_rfl) ?_
  intro hs0
  refine anyU_take (i := 0) (v := .agg #[(Value.slice (some ⟨g, 0, none⟩) (verts rs).length c')]) (f := 9) rfl (by kernel_rfl) (by kernel_rfl) (by kernel_rfl) (by kernel_rfl) (fun _ _ _ h => h) hs0 x0d ⟨by rfl, ?y0⟩ ?r0
  case y0 => intro w' y0; go_simp
  case r0 =>
  intro hs1
  simp only [Act.put, List.setIfInBounds_toArray, List.set_cons_zero, List.set_cons_succ, List.getElem_toArray, List.getElem_cons_succ, List.getElem_cons_zero]
  refine anyU_take (i := 1) (v := .agg #[(Value.slice (some ⟨g, 0, none⟩) (verts rs).length c')]) (f := 9) rfl (by kernel_rfl) (by kernel_rfl) (by kernel_rfl) (by kernel_rfl) (fun _ _ _ h => h) hs1 x0d ⟨by rfl, ?y1⟩ ?r1
  case y1 => intro w' y0; go_simp
  case r1 =>
  intro hs2
  simp only [Act.put, List.setIfInBounds_toArray, List.set_cons_zero, List.set_cons_succ, List.getElem_toArray, List.getElem_cons_succ, List.getElem_cons_zero]
  refine anyU_take (i := 2) (v := .slice (some ⟨b, of, none⟩) rs.length cap) (f := 9) rfl (by kernel_rfl) (by kernel_rfl) (by kernel_rfl) (by kernel_rfl) (fun _ _ _ h => h) hs2 x0d ⟨by rfl, ?y2⟩ ?r2
  case y2 => intro w' y0; go_simp
  case r2 =>
  intro hs3
  simp only [Act.put, List.setIfInBounds_toArray, List.set_cons_zero, List.set_cons_succ, List.getElem_toArray, List.getElem_cons_succ, List.getElem_cons_zero]
  refine anyU_flags (fun ls a w' => ∃ b3 b4 b5 b6 b7 b8 s4 s15 s16 s17 s18, ls = #[true, true, true, b3, b4, b5, b6, b7, b8] ∧ a = { tmps := #[.slice (some ⟨b, of, none⟩) rs.length cap, undef, .pointer (some ⟨w.heap.size, 0, none⟩), .pointer (some ⟨w1.heap.size, 0, none⟩), s4, undef, undef, undef, undef, .slice (some ⟨b, of, none⟩) rs.length cap, (Value.slice (some ⟨g, 0, none⟩) (verts rs).length c'), .agg #[(Value.slice (some ⟨g, 0, none⟩) (verts rs).length c')], .agg #[(Value.slice (some ⟨g, 0, none⟩) (verts rs).length c')], .agg #[(Value.slice (some ⟨g, 0, none⟩) (verts rs).length c')], .slice (some ⟨b, of, none⟩) rs.length cap, s15, s16, s17, s18, undef, undef, undef, undef, undef, undef, undef, undef, undef, undef, undef, undef, undef, undef, undef, undef, undef, undef, undef, undef], defers := [] } ∧ NewI WA w' rs (Value.slice (some ⟨g, 0, none⟩) (verts rs).length c') undef WA.heap.size b3 b4 b5 b6 b7 b8 s4 s15 s16 s17 s18) ?_ ?_ _ _ _ _ (by decide) ⟨false, false, false, false, false, false, undef, undef, undef, undef, undef, by rfl, by rfl, ⟨(Below.refl _ _).drew, Nat.le_refl _, fun h => (by cases h), fun h => (by cases h), fun h => (by cases h), fun h => (by cases h), fun h => (by cases h), fun h => (by cases h)⟩⟩
  · rintro ls a w' ⟨b3, b4, b5, b6, b7, b8, s4, s15, s16, s17, s18, rfl, rfl, I⟩ i hi
    have key : (i = 3 ∧ b3 = false) ∨ (i = 4 ∧ b3 = true ∧ b4 = false) ∨ (i = 5 ∧ b5 = false) ∨ (i = 6 ∧ b4 = true ∧ b5 = true ∧ b6 = false) ∨ (i = 7 ∧ b7 = false) ∨ (i = 8 ∧ b6 = true ∧ b7 = true ∧ b8 = false) := by
      have k0 : ((i == 3 && !b3) || (i == 4 && (b3 && !b4)) || (i == 5 && !b5) || (i == 6 && (b4 && b5 && !b6)) || (i == 7 && !b7) || (i == 8 && (b6 && b7 && !b8))) = true := by
        refine (List.all_eq_true (p := fun i => ((i == 3 && !b3) || (i == 4 && (b3 && !b4)) || (i == 5 && !b5) || (i == 6 && (b4 && b5 && !b6)) || (i == 7 && !b7) || (i == 8 && (b6 && b7 && !b8))))).1 ?_ i hi
        clear I hi
        revert b3 b4 b5 b6 b7 b8
        decide +kernel
      simp only [Bool.or_eq_true, Bool.and_eq_true, beq_iff_eq, Bool.not_eq_true'] at k0
      rcases k0 with ((((h | h) | h) | h) | h) | h
      · exact .inl h
      · exact .inr (.inl ⟨h.1, h.2.1, h.2.2⟩)
      · exact .inr (.inr (.inl h))
      · exact .inr (.inr (.inr (.inl ⟨h.1, h.2.1.1, h.2.1.2, h.2.2⟩)))
      · exact .inr (.inr (.inr (.inr (.inl h))))
      · exact .inr (.inr (.inr (.inr (.inr ⟨h.1, h.2.1.1, h.2.1.2, h.2.2⟩))))
    have hbw : Below w.heap.size w w' := hbA.trans (I.below.mono hsA)
    have hlw1 : w1.heap.size < WA.heap.size := World.block_lt_of_cell? _ _ x0
    have xc : w'.cell? ⟨w1.heap.size, 0, none⟩ = some (Value.slice (some ⟨g, 0, none⟩) (verts rs).length c') := (I.below.cell (p := ⟨w1.heap.size, 0, none⟩) hlw1).trans x0
    have hsz := I.size
    clear hi
    rcases key with ⟨rfl, rfl⟩ | ⟨rfl, rfl, rfl⟩ | ⟨rfl, rfl⟩ | ⟨rfl, rfl, rfl, rfl⟩ | ⟨rfl, rfl⟩ | ⟨rfl, rfl, rfl, rfl⟩
    · refine wpOp_step rfl (fun K hK => ?_)
      go_simp
      refine (border_any b of cap A C rs w' h2 h1 H3.out (by omega) (Rings.later hbw HP.out)).mono ?_
      rintro e w2 ⟨gb, cb, rfl, ho, hb⟩
      have I2 := I.later hb
      refine hK _ _ ⟨fun _ => cell_later hb xc, ?_⟩
      exact ⟨true, b4, b5, b6, b7, b8, s4, _, s16, s17, s18, rfl, rfl, ⟨I2.below, I2.size, fun _ _ => ⟨gb, cb, rfl, own_base ho hsz⟩, I2.tris, I2.map, I2.built, I2.box, I2.last⟩⟩
    · obtain ⟨gb, cb, rfl, ho⟩ := I.bord rfl rfl
      have hp' : PtsAt w' g 0 (verts rs).length (pt (verts rs)) := fun i hi => ⟨(I.below.cell (p := ⟨g, 0 + i * 2, none⟩) hgl).trans (HPT.out i hi).1, (I.below.cell (p := ⟨g, 0 + i * 2 + 1, none⟩) hgl).trans (HPT.out i hi).2⟩
      have HCC : Hid (Calls Try.prog 74 #[.agg #[(Value.slice (some ⟨g, 0, none⟩) (verts rs).length c')], .slice (some ⟨gb, 0, none⟩) (verts rs).length cb] w' fun e w2 => ∃ y T F L, e = .returned y ∧ w2.ownsRow w'.heap.size 57 3 y T.length (cells3 T) ∧ T.Pairwise lt3 ∧ (∀ i j u, (i, j, u) ∈ T ↔ F i j = some (u : Int) ∧ i < j ∧ i < u) ∧ FInv (pt (verts rs)) (verts rs).length (bnx rs) (bpv rs) L F L.length ∧ Below w'.heap.size w' w2) := cut_of HG.out hp' ho
      have HI : Hid (NewI WA w' rs (Value.slice (some ⟨g, 0, none⟩) (verts rs).length c') undef WA.heap.size true false b5 b6 b7 b8 s4 (.slice (some ⟨gb, 0, none⟩) (verts rs).length cb) s16 s17 s18) := I
      clear hp' ho I
      refine wpOp_step rfl (fun K hK => ?_)
      go_simp
      refine HCC.out.mono ?_
      rintro e w2 ⟨y, T, F, L, rfl, hoT, q1, q2, q3, hb⟩
      have I2 := HI.out.later hb
      refine hK _ _ ⟨fun _ => cell_later hb xc, ?_⟩
      exact ⟨true, true, b5, b6, b7, b8, s4, _, y, s17, s18, rfl, rfl, ⟨I2.below, I2.size, fun _ h => (by cases h), fun _ => ⟨T, F, L, own_base hoT hsz, q1, q2, q3⟩, I2.map, fun h => (by have := (I2.built h).1; cases this), fun h => (by
        obtain ⟨bM, z1, z2, z3⟩ := I2.box h
        cases b8 with
        | false => exact ⟨bM, z1, z2, z3⟩
        | true => have := (I2.built (I2.last rfl).1).1; cases this), I2.last⟩⟩
    · refine wpOp_step rfl (fun K hK => ?_)
      go_simp
      have hb : Below w'.heap.size w' (w'.alloc (.map #[] 0)) := (Below.refl _ _).alloc (Nat.le_refl _) _
      have I2 := I.later hb
      refine hK _ _ ⟨fun _ => cell_later hb xc, ?_⟩
      exact ⟨b3, b4, true, b6, b7, b8, s4, s15, s16, _, s18, rfl, rfl, ⟨I2.below, I2.size, I2.bord, I2.tris, fun _ => ⟨w'.heap.size, hsz, rfl, MapIs.new w'⟩, fun h => (by have := (I2.built h).2.1; cases this), fun h => (by
        obtain ⟨bM, z1, z2, z3⟩ := I2.box h
        cases b8 with
        | false => exact ⟨bM, z1, z2, z3⟩
        | true => have := (I2.built (I2.last rfl).1).2.1; cases this), I2.last⟩⟩
    · obtain ⟨T, F, L, oT, q1, q2, q3⟩ := I.tris rfl
      obtain ⟨bm, y1, rfl, y3⟩ := I.map rfl
      obtain ⟨gT, cT, rfl⟩ : ∃ gT cT, s16 = .slice (some ⟨gT, 0, none⟩) T.length cT := by
        obtain ⟨i, j, u, hu⟩ := q3.some h4
        have hpos := List.length_pos_of_mem ((q2 i j u).2 hu)
        obtain ⟨_, h2⟩ := oT
        rcases h2 with ⟨_, h2⟩ | ⟨gT, cT, cur, h2, _⟩
        · omega
        · exact ⟨gT, cT, h2⟩
      clear oT q1 q2 q3 y3
      refine wpOp_step rfl (fun K hK => ?_)
      go_simp
      refine hK _ _ ⟨fun _ => xc, ?_⟩
      exact ⟨b3, true, true, true, b7, b8, s4, s15, _, _, _, rfl, rfl, ⟨I.below, I.size, I.bord, I.tris, I.map, fun _ => ⟨rfl, rfl, rfl⟩, I.box, fun h => (by have := (I.last h).1; cases this)⟩⟩
    · refine wpOp_step rfl (fun K hK => ?_)
      go_simp
      have hb : Below w'.heap.size w' (w'.alloc (.cells #[.slice none 0 0, .slice none 0 0, .map none] 96)) := (Below.refl _ _).alloc (Nat.le_refl _) _
      have I2 := I.later hb
      refine hK _ _ ⟨fun _ => cell_later hb xc, ?_⟩
      refine ⟨b3, b4, b5, b6, true, b8, _, s15, s16, s17, s18, rfl, rfl, ⟨I2.below, I2.size, I2.bord, I2.tris, I2.map, I2.built, fun _ => ⟨w'.heap.size, hsz, rfl, ?_⟩, fun h => (by have := (I2.last h).2; cases this)⟩⟩
      cases b8 with
      | false => exact heap_alloc_new _ _
      | true => have := (I.last rfl).2; cases this
    · obtain ⟨e4, e5, rfl⟩ := I.built rfl
      obtain ⟨bM, z1, rfl, z3⟩ := I.box rfl
      subst e4
      subst e5
      obtain ⟨T, F, L, oT, q1, q2, q3⟩ := I.tris rfl
      obtain ⟨bm, y1, rfl, y3⟩ := I.map rfl
      obtain ⟨gT, cT, rfl⟩ : ∃ gT cT, s16 = .slice (some ⟨gT, 0, none⟩) T.length cT := by
        obtain ⟨i, j, u, hu⟩ := q3.some h4
        have hpos := List.length_pos_of_mem ((q2 i j u).2 hu)
        obtain ⟨_, h2⟩ := oT
        rcases h2 with ⟨_, h2⟩ | ⟨gT, cT, cur, h2, _⟩
        · omega
        · exact ⟨gT, cT, h2⟩
      have ngT : gT ≠ bM := by
        rintro rfl
        obtain ⟨cur, hc⟩ := own_at oT rfl
        rw [z3] at hc
        simp at hc
      have nbm : bm ≠ bM := by
        rintro rfl
        obtain ⟨es, c, hm, _⟩ := y3
        rw [z3] at hm; cases hm
      simp only [Bool.false_eq_true, if_false] at z3
      have c0 : w'.cell? ⟨bM, 0, none⟩ = some (.slice none 0 0) := by simp [World.cell?, z3]
      have c1 : w'.cell? ⟨bM, 1, none⟩ = some (.slice none 0 0) := by simp [World.cell?, z3]
      have c2 : w'.cell? ⟨bM, 2, none⟩ = some (.map none) := by simp [World.cell?, z3]
      have f0 : ∀ o, w'.frozen? ⟨bM, o, none⟩ = false := fun o => by simp [World.frozen?, z3]
      refine wpOp_step rfl (fun K hK => ?_)
      go_simp
      have zb : (((w'.setCell ⟨bM, 0, none⟩ (Value.slice (some ⟨g, 0, none⟩) (verts rs).length c')).setCell ⟨bM, 1, none⟩ (.slice (some ⟨gT, 0, none⟩) T.length cT)).setCell ⟨bM, 2, none⟩ (.map (some bm))).heap[bM]? = some (.cells #[(Value.slice (some ⟨g, 0, none⟩) (verts rs).length c'), .slice (some ⟨gT, 0, none⟩) T.length cT, .map (some bm)] 96) := by
        simp [World.setCell, Array.getElem?_modify, z3]
      have zo : ∀ k, k ≠ bM → (((w'.setCell ⟨bM, 0, none⟩ (Value.slice (some ⟨g, 0, none⟩) (verts rs).length c')).setCell ⟨bM, 1, none⟩ (.slice (some ⟨gT, 0, none⟩) T.length cT)).setCell ⟨bM, 2, none⟩ (.map (some bm))).heap[k]? = w'.heap[k]? := fun k hk => by
        rw [Below.heap_setCell _ _ _ _ hk, Below.heap_setCell _ _ _ _ hk, Below.heap_setCell _ _ _ _ hk]
      have zs : (((w'.setCell ⟨bM, 0, none⟩ (Value.slice (some ⟨g, 0, none⟩) (verts rs).length c')).setCell ⟨bM, 1, none⟩ (.slice (some ⟨gT, 0, none⟩) T.length cT)).setCell ⟨bM, 2, none⟩ (.map (some bm))).heap.size = w'.heap.size := by simp
      refine hK _ _ ⟨fun h => (by cases h), ?_⟩
      refine ⟨b3, true, true, true, true, true, _, s15, _, _, _, rfl, rfl, ⟨?_, by rw [zs]; exact hsz, fun _ h => (by cases h), fun _ => ⟨T, F, L, own_keep oT (fun k hk => zo k (by cases hk; exact ngT)), q1, q2, q3⟩, fun _ => ⟨bm, y1, rfl, y3.block (zo bm nbm)⟩, fun _ => ⟨rfl, rfl, rfl⟩, fun _ => ⟨bM, z1, rfl, by simpa using zb⟩, fun _ => ⟨rfl, rfl⟩⟩⟩
      exact ((I.below.setCell z1 _).setCell z1 _).setCell z1 _
  · rintro ls a w' ⟨b3, b4, b5, b6, b7, b8, s4, s15, s16, s17, s18, rfl, rfl, I⟩ hr
    have key : b3 = true ∧ b4 = true ∧ b5 = true ∧ b6 = true ∧ b7 = true ∧ b8 = true := by
      clear I
      revert hr
      revert b3 b4 b5 b6 b7 b8
      decide +kernel
    obtain ⟨rfl, rfl, rfl, rfl, rfl, rfl⟩ := key
    clear hr
    obtain ⟨_, _, rfl⟩ := I.built rfl
    obtain ⟨bM, z1, rfl, z3⟩ := I.box rfl
    obtain ⟨T, F, L, oT, q1, q2, q3⟩ := I.tris rfl
    obtain ⟨bm, y1, rfl, y3⟩ := I.map rfl
    obtain ⟨gT, cT, rfl⟩ : ∃ gT cT, s16 = .slice (some ⟨gT, 0, none⟩) T.length cT := by
      obtain ⟨i, j, u, hu⟩ := q3.some h4
      have hpos := List.length_pos_of_mem ((q2 i j u).2 hu)
      obtain ⟨_, h2⟩ := oT
      rcases h2 with ⟨_, h2⟩ | ⟨gT, cT, cur, h2, _⟩
      · omega
      · exact ⟨gT, cT, h2⟩
    simp only [if_true] at z3
    have Ib := I.below
    have Is := I.size
    clear I x0d hbD
    have hbw : Below w.heap.size w w' := hbA.trans (Ib.mono hsA)
    have hp' : PtsAt w' g 0 (verts rs).length (pt (verts rs)) := fun i hi => ⟨(Ib.cell (p := ⟨g, 0 + i * 2, none⟩) hgl).trans (HPT.out i hi).1, (Ib.cell (p := ⟨g, 0 + i * 2 + 1, none⟩) hgl).trans (HPT.out i hi).2⟩
    have HQ : Hid (T.Pairwise lt3 ∧ (∀ i j u, (i, j, u) ∈ T ↔ F i j = some (u : Int) ∧ i < j ∧ i < u) ∧ FInv (pt (verts rs)) (verts rs).length (bnx rs) (bpv rs) L F L.length) := ⟨q1, q2, q3⟩
    clear q1 q2 q3
    have c0 : w'.cell? ⟨bM, 0, none⟩ = some (Value.slice (some ⟨g, 0, none⟩) (verts rs).length c') := by simp [World.cell?, z3]
    have c1 : w'.cell? ⟨bM, 1, none⟩ = some (.slice (some ⟨gT, 0, none⟩) T.length cT) := by simp [World.cell?, z3]
    have c2 : w'.cell? ⟨bM, 2, none⟩ = some (.map (some bm)) := by simp [World.cell?, z3]
    have HM0 : Hid (MapIs w' bm (leftF T 0)) := y3
    have tc := tri_cells oT
    have HTC : Hid (∀ i, i < T.length → w'.cell? ⟨gT, i * 3, none⟩ = some (.int .i64 ((T.getD i (0, 0, 0)).1 : Int)) ∧ w'.cell? ⟨gT, i * 3 + 1, none⟩ = some (.int .i64 ((T.getD i (0, 0, 0)).2.1 : Int)) ∧ w'.cell? ⟨gT, i * 3 + 2, none⟩ = some (.int .i64 ((T.getD i (0, 0, 0)).2.2 : Int))) := tc
    have hTb : T.length ≤ 1048576 := tri_few HQ.out.1 HQ.out.2.1 HQ.out.2.2 h3
    have HTN : Hid (∀ i, i < T.length → (T.getD i (0, 0, 0)).1 < 64 ∧ (T.getD i (0, 0, 0)).2.1 < 64 ∧ (T.getD i (0, 0, 0)).2.2 < 64) := tri_small HQ.out.2.1 HQ.out.2.2 h3
    have hbmw : bm < w'.heap.size := y3.lt
    have ngm : gT ≠ bm := by
      rintro rfl
      obtain ⟨cur, hc⟩ := own_at oT rfl
      obtain ⟨es, c, hm, _⟩ := y3
      rw [hm] at hc; cases hc
    have nMm : bM ≠ bm := by
      rintro rfl
      obtain ⟨es, c, hm, _⟩ := y3
      rw [z3] at hm; cases hm
    have ngg : g ≠ bm := by omega
    have hgTl : gT < w'.heap.size := by
      obtain ⟨cur, hc⟩ := own_at oT rfl
      exact (Array.getElem?_eq_some_iff.1 hc).1
    have hMl : bM < w'.heap.size := (Array.getElem?_eq_some_iff.1 z3).1
    have HO : Hid (w'.ownsRow WA.heap.size 57 3 (.slice (some ⟨gT, 0, none⟩) T.length cT) T.length (cells3 T)) := oT
    have HPP : Hid (PtsAt w' g 0 (verts rs).length (pt (verts rs))) := hp'
    clear tc oT y3 hp'
    go_wp2
    go_loopw [5, 6, 8, 22, 29] (fun _ _ _ x _ wr => ∃ k : Nat, k ≤ T.length ∧ x = .int .i64 k ∧ MapIs wr bm (leftF T k) ∧ Below w.heap.size w wr ∧ w'.heap.size ≤ wr.heap.size ∧ ∀ j, j < w'.heap.size → j ≠ bm → wr.heap[j]? = w'.heap[j]?) (fun _ _ _ x _ _ => T.length - (intOf x).toNat)
    case atStart => exact ⟨0, by omega, rfl, HM0.out, hbw, Nat.le_refl _, fun _ _ _ => rfl⟩
    case round =>
      clear HM0 c0 c1 c2
      obtain ⟨k, hk, rfl, hMr, hbr, hsr, hkr⟩ := hrel
      have HK : Hid (∀ j, j < w'.heap.size → j ≠ bm → wr.heap[j]? = w'.heap[j]?) := hkr
      have cb : wr.heap[bM]? = some (.cells #[(Value.slice (some ⟨g, 0, none⟩) (verts rs).length c'), .slice (some ⟨gT, 0, none⟩) T.length cT, .map (some bm)] 96) := (hkr bM hMl nMm).trans z3
      clear hkr
      by_cases hlt : k < T.length
      · obtain ⟨t0, t1, t2⟩ := HTC.out k hlt
        obtain ⟨l0, l1, l2⟩ := HTN.out k hlt
        have eg := HK.out gT hgTl ngm
        have r0 := (World.cell?_of_block (a := ⟨gT, k * 3, none⟩) eg).trans t0
        have r1 := (World.cell?_of_block (a := ⟨gT, k * 3 + 1, none⟩) eg).trans t1
        have r2 := (World.cell?_of_block (a := ⟨gT, k * 3 + 2, none⟩) eg).trans t2
        have k0 : (0 : Int) ≤ (k : Int) := by omega
        have kn : (k : Int) < (T.length : Int) := by omega
        have LF : Hid (leftF T (k + 1) = leftS (leftF T k) (T.getD k (0, 0, 0)).1 (T.getD k (0, 0, 0)).2.1 (T.getD k (0, 0, 0)).2.2 k 3) := rfl
        clear t0 t1 t2
        generalize (T.getD k (0, 0, 0)).1 = p0 at *
        generalize (T.getD k (0, 0, 0)).2.1 = p1 at *
        generalize (T.getD k (0, 0, 0)).2.2 = p2 at *
        generalize leftF T k = Fk at *
        have x0 : (wr.alloc (.cells #[.int .i64 (p0 : Int), .int .i64 (p1 : Int), .int .i64 (p2 : Int)] 57)).cell? ⟨wr.heap.size, 0, none⟩ = some (.int .i64 (p0 : Int)) := by simp [go_sem]
        have x1 : (wr.alloc (.cells #[.int .i64 (p0 : Int), .int .i64 (p1 : Int), .int .i64 (p2 : Int)] 57)).cell? ⟨wr.heap.size, 1, none⟩ = some (.int .i64 (p1 : Int)) := by simp [go_sem]
        have x2 : (wr.alloc (.cells #[.int .i64 (p0 : Int), .int .i64 (p1 : Int), .int .i64 (p2 : Int)] 57)).cell? ⟨wr.heap.size, 2, none⟩ = some (.int .i64 (p2 : Int)) := by simp [go_sem]
        go_wp2_with (go_at_call 76; refine (sides_any p0 p1 p2 _).mono ?_; rintro e w2 ⟨rfl, hb2⟩)
        have hb2' : Below wr.heap.size wr w2 := below_then ((Below.refl _ _).alloc (Nat.le_refl _) _) hb2
        have hM2 := hMr.later hb2'
        have hB2 : Below w.heap.size w w2 := hbr.trans (hb2'.mono hbr.size)
        have hs2 : w'.heap.size ≤ w2.heap.size := Nat.le_trans hsr hb2'.size
        have HK2 : Hid (∀ j, j < w'.heap.size → j ≠ bm → w2.heap[j]? = w'.heap[j]?) := fun j h1 h2 => (hb2'.block j (by omega)).trans (HK.out j h1 h2)
        clear x0 x1 x2 hb2 hb2' hMr hbr hsr HK cb r0 r1 r2 eg
        go_loopw [8, 29] (fun _ x wq => ∃ m : Nat, m ≤ 3 ∧ x = .int .i64 m ∧ MapIs wq bm (leftS Fk p0 p1 p2 k m) ∧ Below w.heap.size w wq ∧ w'.heap.size ≤ wq.heap.size ∧ ∀ j, j < w'.heap.size → j ≠ bm → wq.heap[j]? = w'.heap[j]?) (fun _ x _ => 3 - (intOf x).toNat)
        case atStart => exact ⟨0, by omega, rfl, hM2, hB2, hs2, HK2.out⟩
        case round =>
          clear hM2 hB2 hs2 HK2
          rename_i wr0
          obtain ⟨m, hm, rfl, hMr, hbr, hsr, hkr⟩ := hrel
          have HK : Hid (∀ j, j < w'.heap.size → j ≠ bm → wr.heap[j]? = w'.heap[j]?) := hkr
          have cb : wr.heap[bM]? = some (.cells #[(Value.slice (some ⟨g, 0, none⟩) (verts rs).length c'), .slice (some ⟨gT, 0, none⟩) T.length cT, .map (some bm)] 96) := (hkr bM hMl nMm).trans z3
          clear hkr
          by_cases hlt3 : m < 3
          · have IX : Hid (m = 0 ∨ m = 1 ∨ m = 2) := by
              show m = 0 ∨ m = 1 ∨ m = 2
              omega
            have hd1 : sd1 p0 p1 p2 m ≤ 1048576 := by unfold sd1; split; omega; split <;> omega
            have hd2 : sd2 p0 p1 p2 m ≤ 1048576 := by unfold sd2; split; omega; split <;> omega
            have LS : Hid (leftS Fk p0 p1 p2 k (m + 1) = upd (leftS Fk p0 p1 p2 k m) (sd1 p0 p1 p2 m) (sd2 p0 p1 p2 m) k) := rfl
            obtain ⟨ix0, ix1, ix2⟩ := index6 (.int .i64 (p0 : Int)) (.int .i64 (p1 : Int)) (.int .i64 (p1 : Int)) (.int .i64 (p2 : Int)) (.int .i64 (p2 : Int)) (.int .i64 (p0 : Int))
            have hbe : Below wr.heap.size wr (wr.alloc (.cells #[.int .i64 (sd1 p0 p1 p2 m : Int), .int .i64 (sd2 p0 p1 p2 m : Int)] 120)) := (Below.refl _ _).alloc (Nat.le_refl _) _
            obtain ⟨o, hrun, hMn⟩ := map_set (hMr.later hbe) hd1 hd2 (k : Int)
            have hbm2 : bm < (wr.alloc (.cells #[.int .i64 (sd1 p0 p1 p2 m : Int), .int .i64 (sd2 p0 p1 p2 m : Int)] 120)).heap.size := (hMr.later hbe).lt
            obtain ⟨ob, hob⟩ : ∃ ob, (wr.alloc (.cells #[.int .i64 (sd1 p0 p1 p2 m : Int), .int .i64 (sd2 p0 p1 p2 m : Int)] 120)).heap[bm]? = some ob := ⟨_, Array.getElem?_eq_getElem hbm2⟩
            have e0 : (wr.alloc (.cells #[.int .i64 (sd1 p0 p1 p2 m : Int), .int .i64 (sd2 p0 p1 p2 m : Int)] 120)).cell? ⟨wr.heap.size, 0, none⟩ = some (.int .i64 (sd1 p0 p1 p2 m : Int)) := by simp [go_sem]
            have e1 : (wr.alloc (.cells #[.int .i64 (sd1 p0 p1 p2 m : Int), .int .i64 (sd2 p0 p1 p2 m : Int)] 120)).cell? ⟨wr.heap.size, 1, none⟩ = some (.int .i64 (sd2 p0 p1 p2 m : Int)) := by simp [go_sem]
            have cbe := (hbe.block bM (by omega)).trans cb
            have c2e : (wr.alloc (.cells #[.int .i64 (sd1 p0 p1 p2 m : Int), .int .i64 (sd2 p0 p1 p2 m : Int)] 120)).cell? ⟨bM, 2, none⟩ = some (.map (some bm)) := by simp [World.cell?, cbe]
            have kb : Below w.heap.size w (setBlock (wr.alloc (.cells #[.int .i64 (sd1 p0 p1 p2 m : Int), .int .i64 (sd2 p0 p1 p2 m : Int)] 120)) bm o) := by
              have h1 := hbr.alloc hbr.size (.cells #[.int .i64 (sd1 p0 p1 p2 m : Int), .int .i64 (sd2 p0 p1 p2 m : Int)] 120)
              exact ⟨h1.os, h1.tape, h1.output, by have := h1.size; simpa [setBlock] using this, fun j hj => (setBlock_other' hob _ (by omega)).trans (h1.block j hj)⟩
            have kk : Hid (∀ j, j < w'.heap.size → j ≠ bm → (setBlock (wr.alloc (.cells #[.int .i64 (sd1 p0 p1 p2 m : Int), .int .i64 (sd2 p0 p1 p2 m : Int)] 120)) bm o).heap[j]? = w'.heap[j]?) := fun j h1 h2 => (setBlock_other' hob _ h2).trans ((hbe.block j (by omega)).trans (HK.out j h1 h2))
            have ks : w'.heap.size ≤ (setBlock (wr.alloc (.cells #[.int .i64 (sd1 p0 p1 p2 m : Int), .int .i64 (sd2 p0 p1 p2 m : Int)] 120)) bm o).heap.size := by simp [setBlock]; omega
            rw [← LS.out] at hMn
            have HMN : Hid (MapIs (setBlock (wr.alloc (.cells #[.int .i64 (sd1 p0 p1 p2 m : Int), .int .i64 (sd2 p0 p1 p2 m : Int)] 120)) bm o) bm (leftS Fk p0 p1 p2 k (m + 1))) := hMn
            unfold ev at hrun
            clear LS hMn hMr cb HK hbe hob cbe
            generalize hWf : setBlock (wr.alloc (.cells #[.int .i64 (sd1 p0 p1 p2 m : Int), .int .i64 (sd2 p0 p1 p2 m : Int)] 120)) bm o = Wf at *
            clear hWf
            rcases IX.out with rfl | rfl | rfl
            all_goals
              simp only [sd1, sd2, if_true, if_false, Nat.succ_ne_zero, Nat.reduceEqDiff, Nat.reduceAdd, Nat.reduceMod] at hrun e0 e1 c2e
              go_wp2
              go_roundw
              case rel =>
                refine ⟨_, ?_, ?_, HMN.out, kb, ks, kk.out⟩
                · omega
                · rfl
              case measure => simp [intOf]
          · have : m = 3 := by omega
            subst this
            rw [← LF.out] at hMr
            clear LF
            go_wp2
            go_roundw
            case rel => exact ⟨k + 1, by omega, by go_num, hMr, hbr, hsr, HK.out⟩
            case measure => simp [intOf]; omega
      · have : k = T.length := by omega
        subst this
        have d0 : wr.cell? ⟨bM, 0, none⟩ = some (Value.slice (some ⟨g, 0, none⟩) (verts rs).length c') := by simp [World.cell?, cb]
        have d1 : wr.cell? ⟨bM, 1, none⟩ = some (.slice (some ⟨gT, 0, none⟩) T.length cT) := by simp [World.cell?, cb]
        have d2 : wr.cell? ⟨bM, 2, none⟩ = some (.map (some bm)) := by simp [World.cell?, cb]
        have hRl : w.heap.size < WA.heap.size := (Array.getElem?_eq_some_iff.1 hRA).1
        have hRr : wr.heap[w.heap.size]? = some (.cells #[.slice none 0 0, .slice none 0 0, .map none] 96) := (HK.out _ (by omega) (by omega)).trans ((Ib.block _ hRl).trans hRA)
        have e0 : wr.cell? ⟨w.heap.size, 0, none⟩ = some (.slice none 0 0) := by simp [World.cell?, hRr]
        have e1 : wr.cell? ⟨w.heap.size, 1, none⟩ = some (.slice none 0 0) := by simp [World.cell?, hRr]
        have e2 : wr.cell? ⟨w.heap.size, 2, none⟩ = some (.map none) := by simp [World.cell?, hRr]
        have f0 : wr.frozen? ⟨w.heap.size, 0, none⟩ = false := by simp [World.frozen?, hRr]
        have f1 : wr.frozen? ⟨w.heap.size, 1, none⟩ = false := by simp [World.frozen?, hRr]
        have f2 : wr.frozen? ⟨w.heap.size, 2, none⟩ = false := by simp [World.frozen?, hRr]
        have HZ : Hid (∀ j, j ≠ w.heap.size → (((wr.setCell ⟨w.heap.size, 0, none⟩ (Value.slice (some ⟨g, 0, none⟩) (verts rs).length c')).setCell ⟨w.heap.size, 1, none⟩ (.slice (some ⟨gT, 0, none⟩) T.length cT)).setCell ⟨w.heap.size, 2, none⟩ (.map (some bm))).heap[j]? = wr.heap[j]?) := fun j hj => by
          rw [Below.heap_setCell _ _ _ _ hj, Below.heap_setCell _ _ _ _ hj, Below.heap_setCell _ _ _ _ hj]
        have HBZ : Hid (Below w.heap.size w (((wr.setCell ⟨w.heap.size, 0, none⟩ (Value.slice (some ⟨g, 0, none⟩) (verts rs).length c')).setCell ⟨w.heap.size, 1, none⟩ (.slice (some ⟨gT, 0, none⟩) T.length cT)).setCell ⟨w.heap.size, 2, none⟩ (.map (some bm)))) := ((hbr.setCell (Nat.le_refl _) _).setCell (Nat.le_refl _) _).setCell (Nat.le_refl _) _
        have zb : Hid ((((wr.setCell ⟨w.heap.size, 0, none⟩ (Value.slice (some ⟨g, 0, none⟩) (verts rs).length c')).setCell ⟨w.heap.size, 1, none⟩ (.slice (some ⟨gT, 0, none⟩) T.length cT)).setCell ⟨w.heap.size, 2, none⟩ (.map (some bm))).heap[w.heap.size]? = some (.cells #[(Value.slice (some ⟨g, 0, none⟩) (verts rs).length c'), .slice (some ⟨gT, 0, none⟩) T.length cT, .map (some bm)] 96)) := by
          simp [Hid, World.setCell, Array.getElem?_modify, hRr]
        clear hRr cb
        go_wp2
        generalize hWz : (((wr.setCell ⟨w.heap.size, 0, none⟩ (Value.slice (some ⟨g, 0, none⟩) (verts rs).length c')).setCell ⟨w.heap.size, 1, none⟩ (.slice (some ⟨gT, 0, none⟩) T.length cT)).setCell ⟨w.heap.size, 2, none⟩ (.map (some bm))) = Wz at *
        clear hWz
        have z0 : Wz.cell? ⟨w.heap.size, 0, none⟩ = some (Value.slice (some ⟨g, 0, none⟩) (verts rs).length c') := by simp [World.cell?, zb.out]
        have z1' : Wz.cell? ⟨w.heap.size, 1, none⟩ = some (.slice (some ⟨gT, 0, none⟩) T.length cT) := by simp [World.cell?, zb.out]
        have z2 : Wz.cell? ⟨w.heap.size, 2, none⟩ = some (.map (some bm)) := by simp [World.cell?, zb.out]
        refine bodyPost_ret (v := .agg #[(Value.slice (some ⟨g, 0, none⟩) (verts rs).length c'), .slice (some ⟨gT, 0, none⟩) T.length cT, .map (some bm)]) (by simp [results, Try.results57, go_sem, z0, z1', z2]) rfl ?_
        have same : ∀ j, j < w'.heap.size → j ≠ bm → j ≠ w.heap.size → Wz.heap[j]? = w'.heap[j]? := fun j h1 h2 h3 => (HZ.out j h3).trans (HK.out j h1 h2)
        refine ⟨_, g, c', _, bm, T, F, L, rfl, ⟨rfl, by omega, fun i hi => ?_, own_base (own_keep HO.out (fun j hj => ?_)) hsA, by omega, hMr.block (HZ.out bm (by omega))⟩, HQ.out.1, HQ.out.2.1, HQ.out.2.2, HBZ.out⟩
        · have := same g (by omega) ngg (by omega)
          exact ⟨(World.cell?_of_block (a := ⟨g, 0 + i * 2, none⟩) this).trans (HPP.out i hi).1, (World.cell?_of_block (a := ⟨g, 0 + i * 2 + 1, none⟩) this).trans (HPP.out i hi).2⟩
        · have hg' := own_from HO.out hj
          simp only [Value.ownBlock, Option.some.injEq] at hj
          subst hj
          exact same gT hgTl ngm (by omega)
end Go.Proofs.Ytdkaoopkbhaheaa
namespace Go.Proofs.Ytdkaoopkbhaheaa
open Go.RowKit Go.Lib
open Jor
open scoped Classical
set_option linter.unusedVariables false
set_option linter.unusedSimpArgs false
theorem chk_nil : chkP [] = 1 := chkP1 (by unfold Many; simp)
set_option maxRecDepth 100000 in
set_option maxHeartbeats 4000000 in
theorem pcheck_nil (a : Option Addr) (cap : Nat) (w : World) :
    Calls Try.prog 50 #[.slice a 0 cap] w fun e w' => e = .returned (.int .i64 1) ∧ Below w.heap.size w w' := by
  go_enter Try.func50, Try.ntmps50
  go_wp2_with (go_at_call 72; refine (tests_any _).mono ?_; rintro e w1 ⟨rfl, hT, hb1⟩)
  have HT : Hid (Table w1 w.heap.size) := hT
  clear hT
  go_loopw [4, 7] (fun _ i wr => i = .int .i64 0 ∧ wr = w1) (fun _ i _ => 7 - (intOf i).toNat)
  case atStart => exact ⟨rfl, rfl⟩
  case round =>
    obtain ⟨rfl, rfl⟩ := hrel
    obtain ⟨s, t0, t1, t2⟩ := HT.out.1
    simp only [Nat.reduceAdd] at t0 t1 t2
    have hA : Below w.heap.size w (wr.alloc (.cells #[.string s, .int .i64 1, .func (.func 85) #[] #[]] 114)) := hb1.alloc hb1.size _
    go_wp2_with (go_at_call 85; refine Calls.mono (ringsAllowed_any _ _ ([] : List (List IP)) _ (by simp)) ?_; rintro e w5 ⟨rfl, hw5⟩; rw [bl_false (fun h => h (show Many ([] : List (List IP)) by unfold Many; simp))])
    subst hw5
    go_wp2
    go_ret
    exact ⟨rfl, hA⟩
set_option maxHeartbeats 1000000 in
theorem fcheck2 (a : Option Addr) (cap : Nat) (A : Nat → Option Addr) (C : Nat → Nat) (rs : List (List IP)) (w : World) (hcap : rs.length ≤ cap) (hcm : cap ≤ 9223372036854775807) (hn : rs.length ≤ 1048576) (hsz : (verts rs).length ≤ 1048576) (hp : RingsL w a A C rs) :
    Calls Try.prog 22 #[.slice a rs.length cap] w fun e w' => e = .returned (.int .i64 (chkP rs)) ∧ Below w.heap.size w w' := by
  have hp0 := hp
  rcases hp with h | ⟨b, of, rfl, _⟩
  · obtain rfl : rs = [] := List.eq_nil_of_length_eq_zero h
    rw [chk_nil]
    go_enter Try.func22, Try.ntmps22
    go_wp2_with (go_at_call 50; refine (pcheck_nil _ _ _).mono ?_; rintro e w1 ⟨rfl, hb1⟩)
    go_ret
    exact ⟨rfl, hb1⟩
  · exact fcheck_any b of cap A C rs w hcap hcm hn hsz hp0
set_option maxHeartbeats 1000000 in
theorem farea2 (a : Option Addr) (cap : Nat) (A : Nat → Option Addr) (C : Nat → Nat) (rs : List (List IP)) (w : World) (hcap : rs.length ≤ cap) (hcm : cap ≤ 9223372036854775807) (hn : rs.length ≤ 1048576) (hsz : (verts rs).length ≤ 1048576) (hp : RingsL w a A C rs) :
    Calls Try.prog 21 #[.slice a rs.length cap] w fun e w' => e = .returned (.tuple #[.int .i64 (areaP rs), .int .i64 (chkP rs)]) ∧ Below w.heap.size w w' := by
  have hp0 := hp
  rcases hp with h | ⟨b, of, rfl, _⟩
  · obtain rfl : rs = [] := List.eq_nil_of_length_eq_zero h
    have HA : areaP [] = 0 := if_neg (by rw [chk_nil]; decide)
    rw [chk_nil, HA]
    have FC := fcheck2 a cap A C [] w hcap hcm hn hsz hp0
    rw [chk_nil] at FC
    go_enter Try.func21, Try.ntmps21
    go_wp2_with (go_at_call 22; refine Calls.mono FC ?_; rintro e w1 ⟨rfl, hb1⟩)
    go_ret2
    exact ⟨rfl, hb1⟩
  · exact farea_any b of cap A C rs w hcap hcm hn hsz hp0
set_option maxHeartbeats 1000000 in
theorem fnew_bad (a : Option Addr) (cap : Nat) (A : Nat → Option Addr) (C : Nat → Nat) (rs : List (List IP)) (w : World) (hcap : rs.length ≤ cap) (hcm : cap ≤ 9223372036854775807) (hn : rs.length ≤ 1048576) (hsz : (verts rs).length ≤ 1048576) (hp : RingsL w a A C rs) (hz : chkP rs ≠ 0) :
    Calls Try.prog 28 #[.slice a rs.length cap] w fun e w' => e = .returned (.tuple #[.pointer none, .int .i64 (chkP rs)]) ∧ Below w.heap.size w w' := by
  have hz' : (chkP rs == 0) = false := by rw [beq_eq_false_iff_ne]; exact hz
  go_enter Try.func28, Try.ntmps28
  go_wp2_with (go_at_call 22; refine (fcheck2 _ _ _ _ _ _ hcap hcm hn hsz hp).mono ?_; rintro e w1 ⟨rfl, hb1⟩)
  go_ret2
  exact ⟨rfl, hb1⟩
structure MeshP (base : Nat) (w : World) (rs : List (List IP)) (bM : Nat) (T : List T3) (F : Nat → Nat → Option Int) : Prop where
  bb : base ≤ bM
  at_ : ∃ g c' y bl L, w.heap[bM]? = some (.cells #[.slice (some ⟨g, 0, none⟩) (verts rs).length c', y, .map (some bl)] 99) ∧ MeshAt base w rs T (.agg #[.slice (some ⟨g, 0, none⟩) (verts rs).length c', y, .map (some bl)]) g c' y bl ∧ FInv (pt (verts rs)) (verts rs).length (bnx rs) (bpv rs) L F L.length
  sorted : T.Pairwise lt3
  mem : ∀ i j u, (i, j, u) ∈ T ↔ F i j = some (u : Int) ∧ i < j ∧ i < u
theorem MeshAt.later {base : Nat} {w w' : World} {rs : List (List IP)} {T : List T3} {mv : Value} {g c' : Nat} {y : Value} {bl : Nat} (h : MeshAt base w rs T mv g c' y bl) (hb : Below w.heap.size w w') : MeshAt base w' rs T mv g c' y bl :=
  ⟨h.val, h.gb, PtsAt.later hb h.pts, own_later h.row hb, h.lb, h.map.later hb⟩
theorem MeshAt.base {b0 base : Nat} {w : World} {rs : List (List IP)} {T : List T3} {mv : Value} {g c' : Nat} {y : Value} {bl : Nat} (h : MeshAt base w rs T mv g c' y bl) (hb : b0 ≤ base) : MeshAt b0 w rs T mv g c' y bl :=
  ⟨h.val, Nat.le_trans hb h.gb, h.pts, own_base h.row hb, Nat.le_trans hb h.lb, h.map⟩
theorem MeshP.later {base : Nat} {w w' : World} {rs : List (List IP)} {bM : Nat} {T : List T3} {F : Nat → Nat → Option Int} (h : MeshP base w rs bM T F) (hb : Below w.heap.size w w') : MeshP base w' rs bM T F := by
  obtain ⟨h1, ⟨g, c', y, bl, L, h2, h3, h4⟩, h5, h6⟩ := h
  exact ⟨h1, ⟨g, c', y, bl, L, (hb.block _ (Array.getElem?_eq_some_iff.1 h2).1).trans h2, h3.later hb, h4⟩, h5, h6⟩
set_option maxHeartbeats 1000000 in
theorem fnew_good (b of cap : Nat) (A : Nat → Option Addr) (C : Nat → Nat) (rs : List (List IP)) (w : World) (hcap : rs.length ≤ cap) (hcm : cap ≤ 9223372036854775807) (hn : rs.length ≤ 1048576) (hsz : (verts rs).length ≤ 1048576) (hp : RingsL w (some ⟨b, of, none⟩) A C rs) (hz : chkP rs = 0) :
    Calls Try.prog 28 #[.slice (some ⟨b, of, none⟩) rs.length cap] w fun e w' => ∃ bM T F, e = .returned (.tuple #[.pointer (some ⟨bM, 0, none⟩), .int .i64 0]) ∧ MeshP w.heap.size w' rs bM T F ∧ Below w.heap.size w w' := by
  have G := good_of hz
  have HG : Hid (Good rs) := G
  clear G
  go_enter Try.func28, Try.ntmps28
  go_wp2_with (first | (go_at_call 22; refine (fcheck_any _ _ _ _ _ _ _ hcap hcm hn hsz hp).mono ?_; rintro e w1 ⟨rfl, hb1⟩; rw [hz]) | (go_at_call 57; refine (mnew_any _ _ _ _ _ _ _ HG.out (Rings.later hb1 hp)).mono ?_; rintro e w2 ⟨mv, g, c', y, bl, T, F, L, rfl, hM, q1, q2, q3, hb2⟩; obtain rfl := hM.val))
  have hbz : Below w2.heap.size w2 (w2.alloc (.cells #[.slice (some ⟨g, 0, none⟩) (verts rs).length c', y, .map (some bl)] 99)) := (Below.refl _ _).alloc (Nat.le_refl _) _
  have hb12 := below_then hb1 hb2
  have HM2 := (hM.base hb1.size).later hbz
  go_ret2
  exact ⟨_, T, F, rfl, ⟨hb12.size, ⟨g, c', y, bl, L, heap_alloc_new _ _, HM2, q3⟩, q1, q2⟩, below_then hb12 hbz⟩
def TriAt (w : World) (b : Nat) (T : List T3) : Prop := ∀ i, i < T.length → w.cell? ⟨b, i * 3, none⟩ = some (.int .i64 ((T.getD i (0, 0, 0)).1 : Int)) ∧ w.cell? ⟨b, i * 3 + 1, none⟩ = some (.int .i64 ((T.getD i (0, 0, 0)).2.1 : Int)) ∧ w.cell? ⟨b, i * 3 + 2, none⟩ = some (.int .i64 ((T.getD i (0, 0, 0)).2.2 : Int))
theorem cells3_one (T : List T3) : ∀ u ∈ cells3 T, u.oneCell' = true := by
  intro u hu
  unfold cells3 at hu
  obtain ⟨t, _, ht⟩ := List.mem_flatMap.1 hu
  unfold enc3 at ht
  simp only [List.mem_cons, List.not_mem_nil, or_false] at ht
  rcases ht with rfl | rfl | rfl <;> rfl
set_option maxRecDepth 100000 in
set_option maxHeartbeats 1000000 in
theorem clone3_any (B : Nat) (g c : Nat) (T : List T3) (w : World) (h0 : 0 < T.length) (hT : T.length ≤ 1048576) (ho : w.ownsRow B 57 3 (.slice (some ⟨g, 0, none⟩) T.length c) T.length (cells3 T)) :
    Calls Try.prog 77 #[.slice (some ⟨g, 0, none⟩) T.length c] w fun e w' => ∃ b c2, e = .returned (.slice (some ⟨b, 0, none⟩) T.length c2) ∧ w.heap.size ≤ b ∧ TriAt w' b T ∧ Below w.heap.size w w' := by
  have hnil := run_eql_slice_nil (P := Try.prog) w 52 57 (some ⟨g, 0, none⟩) T.length c 0 0 underST
  obtain ⟨i0, hi0, hz0, hz1, hz2⟩ := info_parts infoT
  have hb0 : Below w.heap.size w (w.alloc (.cells #[] 57)) := (Below.refl _ _).alloc (Nat.le_refl _) _
  have HO : Hid ((w.alloc (.cells #[] 57)).ownsRow w.heap.size 57 3 (.slice (some ⟨w.heap.size, 0, none⟩) 0 0) 0 []) := ⟨rfl, .inr ⟨w.heap.size, 0, #[], rfl, Nat.le_refl _, heap_alloc_new _ _, Nat.le_refl _, by unfold maxLen; omega, rfl, rfl⟩⟩
  have HN : Hid (∀ j u, (cells3 T)[j]? = some u → (w.alloc (.cells #[] 57)).cell? ((⟨g, 0, none⟩ : Addr).add j) = some u) := fun j u hu => by
    have hj : j < T.length * 3 := by
      have := (List.getElem?_eq_some_iff.1 hu).1
      rwa [cells3_length] at this
    have h1 := (own_later ho hb0).cellAt j hj
    rw [hu] at h1
    rw [addr_add, Nat.zero_add]; exact h1
  simp only [Option.isNone] at hnil
  go_enter Try.func77, Try.ntmps77
  go_wp2_with (at_builtin; refine wpList_append_own _ rfl _ _ 52 rfl w.heap.size 57 i0 _ 3 24 underST hi0 hz0 hz1 hz2 rfl (by decide) _ _ _ rfl HO.out ⟨g, 0, none⟩ T.length c (cells3 T) rfl (cells3_length _) HN.out (cells3_one _) (by unfold maxLen; omega) (by omega) hb0.size ?_; intro v' w1 hown1 hgrow1 _)
  go_ret
  rw [Nat.zero_add, List.nil_append] at hown1
  have hbz : Below w.heap.size w w1 := hb0.grown hgrow1 hb0.size (fun j hj => by cases hj; exact Nat.le_refl _)
  obtain ⟨b, c2, rfl, hbb⟩ : ∃ b c2, v' = .slice (some ⟨b, 0, none⟩) T.length c2 ∧ w.heap.size ≤ b := by
    rcases hown1.2 with ⟨_, h⟩ | ⟨b, c2, _, h, h2, _⟩
    · omega
    · exact ⟨b, c2, h, h2⟩
  exact ⟨b, c2, rfl, hbb, tri_cells hown1, hbz⟩
set_option maxHeartbeats 1000000 in
theorem mtri_any (B : Nat) (g c' bl : Nat) (y : Value) (rs : List (List IP)) (T : List T3) (w : World) (h0 : 0 < T.length) (hT : T.length ≤ 1048576) (hM : MeshAt B w rs T (.agg #[.slice (some ⟨g, 0, none⟩) (verts rs).length c', y, .map (some bl)]) g c' y bl) :
    Calls Try.prog 58 #[.agg #[.slice (some ⟨g, 0, none⟩) (verts rs).length c', y, .map (some bl)]] w fun e w' => ∃ b c2, e = .returned (.slice (some ⟨b, 0, none⟩) T.length c2) ∧ w.heap.size ≤ b ∧ TriAt w' b T ∧ Below w.heap.size w w' := by
  have ho := hM.row
  obtain ⟨gT, cT, rfl⟩ : ∃ gT cT, y = .slice (some ⟨gT, 0, none⟩) T.length cT := by
    rcases ho.2 with ⟨_, h⟩ | ⟨b, c2, _, h, h2, _⟩
    · omega
    · exact ⟨b, c2, h⟩
  clear hM
  have hb0 : Below w.heap.size w (w.alloc (.cells #[.slice (some ⟨g, 0, none⟩) (verts rs).length c', .slice (some ⟨gT, 0, none⟩) T.length cT, .map (some bl)] 96)) := (Below.refl _ _).alloc (Nat.le_refl _) _
  have HO : Hid ((w.alloc (.cells #[.slice (some ⟨g, 0, none⟩) (verts rs).length c', .slice (some ⟨gT, 0, none⟩) T.length cT, .map (some bl)] 96)).ownsRow B 57 3 (.slice (some ⟨gT, 0, none⟩) T.length cT) T.length (cells3 T)) := own_later ho hb0
  clear ho
  go_enter Try.func58, Try.ntmps58
  go_wp2_with (go_at_call 77; refine (clone3_any B _ _ _ _ h0 hT HO.out).mono ?_; rintro e w1 ⟨b, c2, rfl, h1, h2, h3⟩)
  go_ret
  exact ⟨b, c2, rfl, Nat.le_trans hb0.size h1, h2, below_then hb0 h3⟩
set_option maxHeartbeats 1000000 in
theorem ftri_any (B : Nat) (bM : Nat) (rs : List (List IP)) (T : List T3) (F : Nat → Nat → Option Int) (w : World) (h0 : 0 < T.length) (hT : T.length ≤ 1048576) (hM : MeshP B w rs bM T F) :
    Calls Try.prog 30 #[.pointer (some ⟨bM, 0, none⟩)] w fun e w' => ∃ b c2, e = .returned (.slice (some ⟨b, 0, none⟩) T.length c2) ∧ w.heap.size ≤ b ∧ TriAt w' b T ∧ Below w.heap.size w w' := by
  obtain ⟨_, ⟨g, c', y, bl, L, h2, h3, h4⟩, h5, h6⟩ := hM
  have H3 : Hid (MeshAt B w rs T (.agg #[.slice (some ⟨g, 0, none⟩) (verts rs).length c', y, .map (some bl)]) g c' y bl) := h3
  clear h3 h4 h5 h6
  have c0 : w.cell? ⟨bM, 0, none⟩ = some (Value.slice (some ⟨g, 0, none⟩) (verts rs).length c') := by simp [World.cell?, h2]
  have c1 : w.cell? ⟨bM, 1, none⟩ = some y := by simp [World.cell?, h2]
  have c2 : w.cell? ⟨bM, 2, none⟩ = some (.map (some bl)) := by simp [World.cell?, h2]
  clear h2
  go_enter Try.func30, Try.ntmps30
  go_wp2_with (go_at_call 58; refine (mtri_any B _ _ _ _ _ _ _ h0 hT H3.out).mono ?_; rintro e w1 ⟨b, c2, rfl, h1, h2, h3⟩)
  go_ret
  exact ⟨b, c2, rfl, h1, h2, h3⟩
end Go.Proofs.Ytdkaoopkbhaheaa
namespace Go.Proofs.Ytdkaoopkbhaheaa
open Go.RowKit Go.Lib
open Jor
open scoped Classical
set_option linter.unusedVariables false
set_option linter.unusedSimpArgs false
theorem off_wide {rs : List (List IP)} (hr : ∀ k, (rg rs k).length ≤ 8796093022208) : ∀ k, k ≤ rs.length → off rs k ≤ k * 8796093022208 := by
  intro k
  induction k with
  | zero => intro _; rw [off_zero]; exact Nat.zero_le _
  | succ k ih =>
    intro h
    rw [off_succ rs k (by omega)]
    have := ih (by omega)
    have := hr k
    omega
set_option maxRecDepth 100000 in
set_option maxHeartbeats 1000000 in
theorem noneShort_wide (a : Option Addr) (cap : Nat) (A : Nat → Option Addr) (C : Nat → Nat) (rs : List (List IP)) (w : World) (hn : rs.length ≤ 8) (hr : ∀ k, (rg rs k).length ≤ 8796093022208) (hp : RingsL w a A C rs) :
    Calls Try.prog 86 #[.slice a rs.length cap] w fun e w' => e = .returned (.bool (bl (¬ Short rs))) ∧ w' = w := by
  have HR : Hid (∀ k, (rg rs k).length ≤ 8796093022208) := hr
  clear hr
  go_enter Try.func86, Try.ntmps86
  go_wp2
  go_loopw [4, 7] (fun _ i wr => ∃ k : Nat, k ≤ rs.length ∧ i = .int .i64 k ∧ (∀ j, j < k → 3 ≤ (rg rs j).length) ∧ w = wr) (fun _ i _ => rs.length - (intOf i).toNat)
  case atStart => exact ⟨0, Nat.zero_le _, rfl, fun j h => absurd h (by omega), rfl⟩
  case round =>
    obtain ⟨k, hk, rfl, hall, rfl⟩ := hrel
    by_cases hlt : k < rs.length
    · rcases hp with h0 | ⟨b, of, rfl, hcell⟩
      · omega
      obtain ⟨hc0, hpk⟩ := hcell k hlt
      have hle := HR.out k
      have HA : Hid (∀ j, j < k → 3 ≤ (rg rs j).length) := hall
      have HC : Hid (∀ j, j < k + 1 → j < k ∨ j = k) := fun j h => by omega
      clear hall hcell hpk
      have hk0 : (0 : Int) ≤ (k : Int) := by omega
      have hkn : (k : Int) < (rs.length : Int) := by omega
      by_cases hs : (rg rs k).length < 3
      · have HS : Hid (bl (¬ Short rs) = false) := bl_false (fun h => h (short_at hlt hs))
        go_wp2
        go_ret
        exact ⟨retb HS.out, rfl⟩
      · go_wp2
        go_roundw
        case rel =>
          refine ⟨k + 1, by omega, by go_num, fun j hj => ?_, by first | rfl | trivial⟩
          rcases HC.out j hj with h | h
          · exact HA.out j h
          · rw [h]; omega
        case measure => simp [intOf]; omega
    · have : k = rs.length := by omega
      subst this
      have HS : Hid (bl (¬ Short rs) = true) := bl_true (not_short hall)
      clear hall
      go_wp2
      go_ret
      exact ⟨retb HS.out, rfl⟩
set_option maxRecDepth 100000 in
set_option maxHeartbeats 4000000 in
theorem inRange_large (a : Option Addr) (cap : Nat) (A : Nat → Option Addr) (C : Nat → Nat) (rs : List (List IP)) (w : World) (hn : rs.length ≤ 8) (hr : ∀ k, (rg rs k).length ≤ 8796093022208) (hbig : 64 < (verts rs).length) (hp : RingsL w a A C rs) :
    Calls Try.prog 87 #[.slice a rs.length cap] w fun e w' => e = .returned (.bool (bl (¬ Far rs))) ∧ Below w.heap.size w w' := by
  have HR : Hid (∀ k, (rg rs k).length ≤ 8796093022208) := hr
  have HO8 : Hid (∀ k, k ≤ rs.length → off rs k ≤ k * 8796093022208) := off_wide hr
  have HF : Hid (bl (¬ Far rs) = false) := bl_false (fun h => h (.inl hbig))
  clear hr
  go_enter Try.func87, Try.ntmps87
  go_wp2
  go_loopw [3, 5, 10] (fun s _ i wr => ∃ k : Nat, k ≤ rs.length ∧ i = .int .i64 k ∧ s = .int .i64 (off rs k) ∧ w = wr) (fun _ _ i _ => rs.length - (intOf i).toNat)
  case atStart => exact ⟨0, Nat.zero_le _, rfl, by rw [off_zero]; rfl, rfl⟩
  case round =>
    obtain ⟨k, hk, rfl, rfl, rfl⟩ := hrel
    by_cases hlt : k < rs.length
    · rcases hp with h0 | ⟨b, of, rfl, hcell⟩
      · omega
      obtain ⟨hc0, hpk⟩ := hcell k hlt
      have hoff := off_succ rs k hlt
      have HO : Hid (off rs (k + 1) = off rs k + (rg rs k).length) := hoff
      have hb1 : off rs k ≤ 70368744177664 := by have := HO8.out k (by omega); omega
      have hb2 : (rg rs k).length ≤ 8796093022208 := HR.out k
      clear hoff hcell hpk
      have hk0 : (0 : Int) ≤ (k : Int) := by omega
      have hkn : (k : Int) < (rs.length : Int) := by omega
      go_wp2
      go_roundw
      case rel => exact ⟨k + 1, by omega, by go_num, by rw [HO.out]; go_num, by first | rfl | trivial⟩
      case measure => simp [intOf]; omega
    · have : k = rs.length := by omega
      subst this
      have hb1 := HO8.out rs.length (Nat.le_refl _)
      rw [off_end'] at hb1 ⊢
      have hb1' : (verts rs).length ≤ 70368744177664 := by omega
      have h64 : (64 : Int) < ((verts rs).length : Int) := by omega
      clear hb1
      go_wp2
      go_ret
      exact ⟨retb HF.out, Below.refl _ _⟩
theorem called_wide (b of cap : Nat) (A : Nat → Option Addr) (C : Nat → Nat) (rs : List (List IP)) (w : World) (hcap : rs.length ≤ cap) (hcm : cap ≤ 9223372036854775807) (hn : rs.length ≤ 8796093022208) (hr : ∀ k, (rg rs k).length ≤ 8796093022208) (hp : RingsL w (some ⟨b, of, none⟩) A C rs) : Called b of cap rs w := by
  by_cases hs : (verts rs).length ≤ 64
  · by_cases hm : rs.length ≤ 8
    · exact called b of cap A C rs w hcap hcm (by omega) (by omega) hp
    · have HM : Many rs := .inr (by omega)
      exact ⟨fun W hW => (ringsAllowed_any _ _ _ _ hn).mono fun e w' h => ⟨h.1, h.2 ▸ Below.refl _ _⟩,
        fun g => absurd HM g, fun g => absurd HM g, fun g => absurd HM g, fun g => absurd HM g, fun g => absurd HM g, fun g => absurd HM g⟩
  · have HF : Far rs := .inl (show 64 < (verts rs).length by omega)
    refine ⟨fun W hW => (ringsAllowed_any _ _ _ _ hn).mono fun e w' h => ⟨h.1, h.2 ▸ Below.refl _ _⟩, fun g1 W hW => ?_, fun g1 g2 W hW => ?_,
      fun _ _ g => absurd HF g, fun _ _ g => absurd HF g, fun _ _ g => absurd HF g, fun _ _ g => absurd HF g⟩
    · unfold Many at g1
      exact (noneShort_wide _ _ _ _ _ _ (by omega) hr (Rings.later hW hp)).mono fun e w' h => ⟨h.1, h.2 ▸ Below.refl _ _⟩
    · unfold Many at g1
      exact inRange_large _ _ _ _ _ _ (by omega) hr (by omega) (Rings.later hW hp)
set_option maxHeartbeats 1000000 in
theorem fcheck3 (a : Option Addr) (cap : Nat) (A : Nat → Option Addr) (C : Nat → Nat) (rs : List (List IP)) (w : World) (hcap : rs.length ≤ cap) (hcm : cap ≤ 9223372036854775807) (hn : rs.length ≤ 8796093022208) (hr : ∀ k, (rg rs k).length ≤ 8796093022208) (hp : RingsL w a A C rs) :
    Calls Try.prog 22 #[.slice a rs.length cap] w fun e w' => e = .returned (.int .i64 (chkP rs)) ∧ Below w.heap.size w w' := by
  have hp0 := hp
  rcases hp with h | ⟨b, of, rfl, _⟩
  · obtain rfl : rs = [] := List.eq_nil_of_length_eq_zero h
    exact fcheck2 a cap A C [] w hcap hcm (by simp) (by simp [verts]) hp0
  · have hC := called_wide b of cap A C rs w hcap hcm hn hr hp0
    clear hr
    go_enter Try.func22, Try.ntmps22
    go_wp2_with (go_at_call 50; refine (pcheck_of _ _ _ _ _ hn hC).mono ?_; rintro e w1 ⟨rfl, hb1⟩)
    go_ret
    exact ⟨rfl, hb1⟩
set_option maxHeartbeats 1000000 in
theorem farea3_bad (a : Option Addr) (cap : Nat) (A : Nat → Option Addr) (C : Nat → Nat) (rs : List (List IP)) (w : World) (hcap : rs.length ≤ cap) (hcm : cap ≤ 9223372036854775807) (hn : rs.length ≤ 8796093022208) (hr : ∀ k, (rg rs k).length ≤ 8796093022208) (hp : RingsL w a A C rs) (hz : chkP rs ≠ 0) :
    Calls Try.prog 21 #[.slice a rs.length cap] w fun e w' => e = .returned (.tuple #[.int .i64 0, .int .i64 (chkP rs)]) ∧ Below w.heap.size w w' := by
  have hz' : (chkP rs == 0) = false := by rw [beq_eq_false_iff_ne]; exact hz
  have FC := fcheck3 a cap A C rs w hcap hcm hn hr hp
  clear hr
  go_enter Try.func21, Try.ntmps21
  go_wp2_with (go_at_call 22; refine Calls.mono FC ?_; rintro e w1 ⟨rfl, hb1⟩)
  go_ret2
  exact ⟨rfl, hb1⟩
theorem wide_good {rs : List (List IP)} (hz : chkP rs = 0) : rs.length ≤ 1048576 ∧ (verts rs).length ≤ 1048576 := by
  have G := good_of hz
  have h1 := G.eight
  have h2 := G.few
  exact ⟨by omega, by omega⟩
theorem farea3 (a : Option Addr) (cap : Nat) (A : Nat → Option Addr) (C : Nat → Nat) (rs : List (List IP)) (w : World) (hcap : rs.length ≤ cap) (hcm : cap ≤ 9223372036854775807) (hn : rs.length ≤ 8796093022208) (hr : ∀ k, (rg rs k).length ≤ 8796093022208) (hp : RingsL w a A C rs) :
    Calls Try.prog 21 #[.slice a rs.length cap] w fun e w' => e = .returned (.tuple #[.int .i64 (areaP rs), .int .i64 (chkP rs)]) ∧ Below w.heap.size w w' := by
  by_cases hz : chkP rs = 0
  · exact farea2 a cap A C rs w hcap hcm (wide_good hz).1 (wide_good hz).2 hp
  · rw [show areaP rs = 0 from if_neg hz]
    exact farea3_bad a cap A C rs w hcap hcm hn hr hp hz
set_option maxHeartbeats 1000000 in
theorem fnew3_bad (a : Option Addr) (cap : Nat) (A : Nat → Option Addr) (C : Nat → Nat) (rs : List (List IP)) (w : World) (hcap : rs.length ≤ cap) (hcm : cap ≤ 9223372036854775807) (hn : rs.length ≤ 8796093022208) (hr : ∀ k, (rg rs k).length ≤ 8796093022208) (hp : RingsL w a A C rs) (hz : chkP rs ≠ 0) :
    Calls Try.prog 28 #[.slice a rs.length cap] w fun e w' => e = .returned (.tuple #[.pointer none, .int .i64 (chkP rs)]) ∧ Below w.heap.size w w' := by
  have hz' : (chkP rs == 0) = false := by rw [beq_eq_false_iff_ne]; exact hz
  have FC := fcheck3 a cap A C rs w hcap hcm hn hr hp
  clear hr
  go_enter Try.func28, Try.ntmps28
  go_wp2_with (go_at_call 22; refine Calls.mono FC ?_; rintro e w1 ⟨rfl, hb1⟩)
  go_ret2
  exact ⟨rfl, hb1⟩
end Go.Proofs.Ytdkaoopkbhaheaa
