/- Lists of points in memory; the document's Points. -/
import Derived.Test.YtdkaoopkbhaheaaK2
import Derived.OwnWalk
import Derived.Laws.OwnMore
namespace Go.Proofs.Ytdkaoopkbhaheaa
open Go.RowKit
open Jor
set_option linter.unusedVariables false
set_option linter.unusedSimpArgs false

/-- A list's cells, two a point. -/
def cells2 (l : List IP) : List Value := l.flatMap fun p => [.int .i64 p.1, .int .i64 p.2]
theorem cells2_length (l : List IP) : (cells2 l).length = l.length * 2 := by
  induction l with
  | nil => rfl
  | cons p l ih => simp [cells2] at *; omega
theorem cells2_append (l m : List IP) : cells2 (l ++ m) = cells2 l ++ cells2 m := by simp [cells2]
theorem cells2_get (l : List IP) : ∀ i, i < l.length → (cells2 l)[i * 2]? = some (.int .i64 (pt l i).1) ∧ (cells2 l)[i * 2 + 1]? = some (.int .i64 (pt l i).2) := by
  induction l with
  | nil => intro i h; simp at h
  | cons p l ih =>
    intro i h
    match i with
    | 0 => simp [cells2, pt]
    | i + 1 =>
      have := ih i (by simpa using h)
      rw [show (i + 1) * 2 = i * 2 + 1 + 1 by omega]
      simpa [cells2, pt] using this
theorem cells2_one (l : List IP) : ∀ u ∈ cells2 l, u.oneCell' = true := by
  intro u hu
  simp only [cells2, List.mem_flatMap, List.mem_cons, List.not_mem_nil, or_false] at hu
  obtain ⟨p, _, rfl | rfl⟩ := hu <;> rfl
theorem addr_add (b o j : Nat) : (⟨b, o, none⟩ : Addr).add j = ⟨b, o + j, none⟩ := by unfold Addr.add; split <;> simp_all
/-- The cells of a list of points that lies in memory. -/
theorem Pts.cells {w : World} {a : Addr} {l : List IP} (h : Pts w (some a) l.length (pt l)) : ∀ j u, (cells2 l)[j]? = some u → w.cell? (a.add j) = some u := by
  intro j u hj
  have hlt : j < l.length * 2 := by
    have := (List.getElem?_eq_some_iff.1 hj).1
    rwa [cells2_length] at this
  rcases h with h | ⟨b, off, e, hc⟩
  · omega
  · cases e
    have hi : j / 2 < l.length := by omega
    have g := cells2_get l (j / 2) hi
    have c := hc (j / 2) hi
    rcases Nat.mod_two_eq_zero_or_one j with h2 | h2
    · rw [show j = j / 2 * 2 by omega, g.1] at hj
      cases hj
      have := c.1
      rw [addr_add]
      rw [show off + j = off + j / 2 * 2 by omega]; exact this
    · rw [show j = j / 2 * 2 + 1 by omega, g.2] at hj
      cases hj
      have := c.2
      rw [addr_add]
      rw [show off + j = off + j / 2 * 2 + 1 by omega]; exact this
/-- A row of one's own, read as points. -/
theorem pts_of_own {w : World} {base : Nat} {e : TypeId} {v : Value} {l : List IP} (h : w.ownsRow base e 2 v l.length (cells2 l)) : ∃ a c, v = .slice a l.length c ∧ Pts w a l.length (pt l) := by
  have h0 := h
  rcases h.2 with ⟨rfl, hn⟩ | ⟨g, cap, cur, rfl, _⟩
  · exact ⟨none, 0, by rw [hn], .inl hn⟩
  · refine ⟨_, _, rfl, .inr ⟨g, 0, rfl, fun i hi => ?_⟩⟩
    have g1 := cells2_get l i hi
    have k1 := h0.cellAt (i * 2) (by omega)
    have k2 := h0.cellAt (i * 2 + 1) (by omega)
    rw [g1.1] at k1
    rw [g1.2] at k2
    rw [Nat.zero_add]
    exact ⟨k1, k2⟩

theorem take_flatten (rs : List (List IP)) (k : Nat) (h : k < rs.length) : (rs.take (k + 1)).flatten = (rs.take k).flatten ++ rg rs k := by
  rw [List.take_add_one, List.flatten_append]
  unfold rg
  rw [getD_elem _ _ _ h, List.getElem?_eq_getElem h]; simp
theorem take_flatten_le (rs : List (List IP)) (k : Nat) : (rs.take k).flatten.length ≤ rs.flatten.length := by
  have : rs.flatten = (rs.take k).flatten ++ (rs.drop k).flatten := by rw [← List.flatten_append, List.take_append_drop]
  rw [this]; simp

theorem infoP : (Try.prog.info? 23).map (fun i => (i.zero, i.size, i.bytes)) = some (some (.agg #[.int .i64 0, .int .i64 0]), 2, 16) := by kernel_rfl
theorem underSP : Try.prog.underlying 72 = some (.slice 23) := by kernel_rfl

/-- Rings in memory, as lists. -/
def RingsL (w : World) (a : Option Addr) (A : Nat → Option Addr) (C : Nat → Nat) (rs : List (List IP)) : Prop := Rings w a rs.length A (fun k => (rg rs k).length) C (fun k => pt (rg rs k))

set_option maxRecDepth 100000 in
set_option maxHeartbeats 4000000 in
theorem points_any (a : Option Addr) (cap : Nat) (A : Nat → Option Addr) (C : Nat → Nat) (rs : List (List IP)) (w : World) (hn : rs.length ≤ 1048576) (hp : RingsL w a A C rs) (h3 : ∀ k, k < rs.length → 0 < (rg rs k).length) (hsz : rs.flatten.length ≤ 1048576) :
    Calls Try.prog 52 #[.slice a rs.length cap] w fun e w' => ∃ v, e = .returned v ∧ w'.ownsRow w.heap.size 23 2 v rs.flatten.length (cells2 rs.flatten) ∧ Below w.heap.size w w' := by
  obtain ⟨i0, hi, hz0, hz1, hz2⟩ := info_parts infoP
  go_enter Try.func52, Try.ntmps52
  go_wp2
  go_loopw [3, 4] (fun v i wr => ∃ k : Nat, k ≤ rs.length ∧ i = .int .i64 k ∧ wr.ownsRow w.heap.size 23 2 v (rs.take k).flatten.length (cells2 (rs.take k).flatten) ∧ Below w.heap.size w wr) (fun _ i _ => rs.length - (intOf i).toNat)
  case atStart => exact ⟨0, Nat.zero_le _, rfl, World.ownsRow_nil _ _ _ _, Below.refl _ _⟩
  case round =>
    obtain ⟨k, hk, rfl, hown, hb⟩ := hrel
    by_cases hlt : k < rs.length
    · rcases hp with h0 | ⟨b, off, rfl, hcell⟩
      · omega
      obtain ⟨hc0, hpk⟩ := hcell k hlt
      have hc1 := cell_later hb hc0
      have hpk1 := Pts.later hb hpk
      have hpos := h3 k hlt
      have hle := take_flatten_le rs (k + 1)
      have hfl := take_flatten rs k hlt
      have hll : (rs.take (k + 1)).flatten.length = (rs.take k).flatten.length + (rg rs k).length := by rw [hfl, List.length_append]
      obtain ⟨ak, hak⟩ : ∃ ak, A k = some ak := by
        rcases hpk with h | ⟨b', off', e, _⟩
        · have h' : (rg rs k).length = 0 := h
          omega
        · exact ⟨_, e⟩
      rw [hak] at hc1 hpk1
      have hk0 : (0 : Int) ≤ (k : Int) := by omega
      have hkn : (k : Int) < (rs.length : Int) := by omega
      have HF : Hid (cells2 (rs.take (k + 1)).flatten = cells2 (rs.take k).flatten ++ cells2 (rg rs k) ∧ (rs.take (k + 1)).flatten.length = (rs.take k).flatten.length + (rg rs k).length) := ⟨by rw [hfl, cells2_append], hll⟩
      clear hfl hpk hc0
      go_wp2_with (at_builtin; refine wpList_append_own _ rfl _ _ 72 rfl w.heap.size 23 i0 _ 2 16 underSP hi hz0 hz1 hz2 rfl (by decide) _ _ _ rfl hown ak (rg rs k).length (C k) (cells2 (rg rs k)) rfl (cells2_length _) (Pts.cells hpk1) (cells2_one _) (by unfold maxLen; omega) (by omega) hb.size ?_; intro v' w1 hown1 hgrow1 _)
      go_roundw
      case rel =>
        refine ⟨k + 1, by omega, by go_num, ?_, hb.grown hgrow1 hb.size (fun j hj => ?_)⟩
        · rw [HF.out.1, HF.out.2]; exact hown1
        · rcases hown.2 with ⟨rfl, _⟩ | ⟨g, cap', cur, rfl, hg, _⟩
          · cases hj
          · cases hj; exact hg
      case measure => simp [intOf]; omega
    · have : k = rs.length := by omega
      subst this
      rw [List.take_length] at hown
      go_wp2
      go_ret
      exact ⟨_, rfl, hown, hb⟩
end Go.Proofs.Ytdkaoopkbhaheaa
