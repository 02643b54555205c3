import Derived.Test.YtdkaoopkbhaheaaPK1
import Derived.OwnWalk
import Derived.Laws.OwnMore
import Derived.Deep.AppendLies
namespace Go.Proofs.Ytdkaoopkbhaheaa
open Go.RowKit
open Jor
set_option linter.unusedVariables false
set_option linter.unusedSimpArgs false
def cells2 (l : List IP) : List Value := l.flatMap fun p => [.int .i64 p.1, .int .i64 p.2]
theorem cells2_length (l : List IP) : (cells2 l).length = l.length * 2 := by
  induction l with
  | nil => rfl
  | cons p l ih => simp [cells2] at *; omega
theorem cells2_append (l m : List IP) : cells2 (l ++ m) = cells2 l ++ cells2 m := by simp [cells2]
theorem cells2_get (l : List IP) : ∀ i, i < l.length → (cells2 l)[i * 2]? = some (.int .i64 (pt l i).1) ∧ (cells2 l)[i * 2 + 1]? = some (.int .i64 (pt l i).2) := by
  induction l with
  | nil => intro i h; simp at h
  | cons p l ih =>
    intro i h
    match i with
    | 0 => simp [cells2, pt]
    | i + 1 =>
      have := ih i (by simpa using h)
      rw [show (i + 1) * 2 = i * 2 + 1 + 1 by omega]
      simpa [cells2, pt] using this
theorem cells2_one (l : List IP) : ∀ u ∈ cells2 l, u.oneCell' = true := by
  intro u hu
  simp only [cells2, List.mem_flatMap, List.mem_cons, List.not_mem_nil, or_false] at hu
  obtain ⟨p, _, rfl | rfl⟩ := hu <;> rfl
theorem addr_add (b o j : Nat) : (⟨b, o, none⟩ : Addr).add j = ⟨b, o + j, none⟩ := by unfold Addr.add; split <;> simp_all
theorem Pts.cells {w : World} {a : Addr} {l : List IP} (h : Pts w (some a) l.length (pt l)) : ∀ j u, (cells2 l)[j]? = some u → w.cell? (a.add j) = some u := by
  intro j u hj
  have hlt : j < l.length * 2 := by
    have := (List.getElem?_eq_some_iff.1 hj).1
    rwa [cells2_length] at this
  rcases h with h | ⟨b, off, e, hc⟩
  · omega
  · cases e
    have hi : j / 2 < l.length := by omega
    have g := cells2_get l (j / 2) hi
    have c := hc (j / 2) hi
    rcases Nat.mod_two_eq_zero_or_one j with h2 | h2
    · rw [show j = j / 2 * 2 by omega, g.1] at hj
      cases hj
      have := c.1
      rw [addr_add]
      rw [show off + j = off + j / 2 * 2 by omega]; exact this
    · rw [show j = j / 2 * 2 + 1 by omega, g.2] at hj
      cases hj
      have := c.2
      rw [addr_add]
      rw [show off + j = off + j / 2 * 2 + 1 by omega]; exact this
theorem pts_of_own {w : World} {base : Nat} {e : TypeId} {v : Value} {l : List IP} (h : w.ownsRow base e 2 v l.length (cells2 l)) : ∃ a c, v = .slice a l.length c ∧ Pts w a l.length (pt l) := by
  have h0 := h
  rcases h.2 with ⟨rfl, hn⟩ | ⟨g, cap, cur, rfl, _⟩
  · exact ⟨none, 0, by rw [hn], .inl hn⟩
  · refine ⟨_, _, rfl, .inr ⟨g, 0, rfl, fun i hi => ?_⟩⟩
    have g1 := cells2_get l i hi
    have k1 := h0.cellAt (i * 2) (by omega)
    have k2 := h0.cellAt (i * 2 + 1) (by omega)
    rw [g1.1] at k1
    rw [g1.2] at k2
    rw [Nat.zero_add]
    exact ⟨k1, k2⟩
theorem take_flatten (rs : List (List IP)) (k : Nat) (h : k < rs.length) : (rs.take (k + 1)).flatten = (rs.take k).flatten ++ rg rs k := by
  rw [List.take_add_one, List.flatten_append]
  unfold rg
  rw [getD_elem _ _ _ h, List.getElem?_eq_getElem h]; simp
theorem take_flatten_le (rs : List (List IP)) (k : Nat) : (rs.take k).flatten.length ≤ rs.flatten.length := by
  have : rs.flatten = (rs.take k).flatten ++ (rs.drop k).flatten := by rw [← List.flatten_append, List.take_append_drop]
  rw [this]; simp
theorem infoP : (Try.prog.info? 23).map (fun i => (i.zero, i.size, i.bytes)) = some (some (.agg #[.int .i64 0, .int .i64 0]), 2, 16) := by kernel_rfl
theorem underSP : Try.prog.underlying 72 = some (.slice 23) := by kernel_rfl
def RingsL (w : World) (a : Option Addr) (A : Nat → Option Addr) (C : Nat → Nat) (rs : List (List IP)) : Prop := Rings w a rs.length A (fun k => (rg rs k).length) C (fun k => pt (rg rs k))
set_option maxRecDepth 100000 in
set_option maxHeartbeats 4000000 in
theorem points_any (a : Option Addr) (cap : Nat) (A : Nat → Option Addr) (C : Nat → Nat) (rs : List (List IP)) (w : World) (hn : rs.length ≤ 1048576) (hp : RingsL w a A C rs) (h3 : ∀ k, k < rs.length → 0 < (rg rs k).length) (hsz : rs.flatten.length ≤ 1048576) :
    Calls Try.prog 52 #[.slice a rs.length cap] w fun e w' => ∃ v, e = .returned v ∧ w'.ownsRow w.heap.size 23 2 v rs.flatten.length (cells2 rs.flatten) ∧ Below w.heap.size w w' := by
  obtain ⟨i0, hi, hz0, hz1, hz2⟩ := info_parts infoP
  go_enter Try.func52, Try.ntmps52
  go_wp2
  go_loopw [3, 4] (fun v i wr => ∃ k : Nat, k ≤ rs.length ∧ i = .int .i64 k ∧ wr.ownsRow w.heap.size 23 2 v (rs.take k).flatten.length (cells2 (rs.take k).flatten) ∧ Below w.heap.size w wr) (fun _ i _ => rs.length - (intOf i).toNat)
  case atStart => exact ⟨0, Nat.zero_le _, rfl, World.ownsRow_nil _ _ _ _, Below.refl _ _⟩
  case round =>
    obtain ⟨k, hk, rfl, hown, hb⟩ := hrel
    by_cases hlt : k < rs.length
    · rcases hp with h0 | ⟨b, off, rfl, hcell⟩
      · omega
      obtain ⟨hc0, hpk⟩ := hcell k hlt
      have hc1 := cell_later hb hc0
      have hpk1 := Pts.later hb hpk
      have hpos := h3 k hlt
      have hle := take_flatten_le rs (k + 1)
      have hfl := take_flatten rs k hlt
      have hll : (rs.take (k + 1)).flatten.length = (rs.take k).flatten.length + (rg rs k).length := by rw [hfl, List.length_append]
      obtain ⟨ak, hak⟩ : ∃ ak, A k = some ak := by
        rcases hpk with h | ⟨b', off', e, _⟩
        · have h' : (rg rs k).length = 0 := h
          omega
        · exact ⟨_, e⟩
      rw [hak] at hc1 hpk1
      have hk0 : (0 : Int) ≤ (k : Int) := by omega
      have hkn : (k : Int) < (rs.length : Int) := by omega
      have HF : Hid (cells2 (rs.take (k + 1)).flatten = cells2 (rs.take k).flatten ++ cells2 (rg rs k) ∧ (rs.take (k + 1)).flatten.length = (rs.take k).flatten.length + (rg rs k).length) := ⟨by rw [hfl, cells2_append], hll⟩
      clear hfl hpk hc0
      go_wp2_with (at_builtin; refine wpList_append_own _ rfl _ _ 72 rfl w.heap.size 23 i0 _ 2 16 underSP hi hz0 hz1 hz2 rfl (by decide) _ _ _ rfl hown ak (rg rs k).length (C k) (cells2 (rg rs k)) rfl (cells2_length _) (Pts.cells hpk1) (cells2_one _) (by unfold maxLen; omega) (by omega) hb.size ?_; intro v' w1 hown1 hgrow1 _)
      go_roundw
      case rel =>
        refine ⟨k + 1, by omega, by go_num, ?_, hb.grown hgrow1 hb.size (fun j hj => ?_)⟩
        · rw [HF.out.1, HF.out.2]; exact hown1
        · rcases hown.2 with ⟨rfl, _⟩ | ⟨g, cap', cur, rfl, hg, _⟩
          · cases hj
          · cases hj; exact hg
      case measure => simp [intOf]; omega
    · have : k = rs.length := by omega
      subst this
      rw [List.take_length] at hown
      go_wp2
      go_ret
      exact ⟨_, rfl, hown, hb⟩
end Go.Proofs.Ytdkaoopkbhaheaa
namespace Go.Proofs.Ytdkaoopkbhaheaa
open Go.RowKit
open Jor
set_option linter.unusedVariables false
set_option linter.unusedSimpArgs false
theorem own_ge {w : World} {base : Nat} {e : TypeId} {size : Nat} {v : Value} {n : Nat} {xs : List Value} (h : w.ownsRow base e size v n xs) : ∀ j, v.ownBlock = some j → base ≤ j := by
  intro j hj
  rcases h.2 with ⟨rfl, _⟩ | ⟨g, cap', cur, rfl, hg, _⟩
  · cases hj
  · cases hj; exact hg
theorem off_succ (rs : List (List IP)) : ∀ k, k < rs.length → off rs (k + 1) = off rs k + (rg rs k).length := by
  induction rs with
  | nil => intro k h; simp at h
  | cons r rs ih =>
    intro k h
    match k with
    | 0 => simp [off, rg]; cases rs <;> rfl
    | k + 1 =>
      have := ih k (by simpa using h)
      have e : rg (r :: rs) (k + 1) = rg rs k := by simp [rg]
      rw [e]; simp only [off]; omega
theorem off_zero (rs : List (List IP)) : off rs 0 = 0 := by cases rs <;> rfl
theorem off_end (rs : List (List IP)) : off rs rs.length = rs.flatten.length := by
  induction rs with
  | nil => rfl
  | cons r rs ih => simp only [List.length_cons, off, ih, List.flatten_cons, List.length_append]
def eds3 : Nat → Nat → List (List IP) → List (Nat × Nat × Nat)
  | _, _, [] => []
  | k, f, r :: rs => (List.range r.length).map (fun i => (f + i, f + (i + 1) % r.length, k)) ++ eds3 (k + 1) (f + r.length) rs
theorem eds3_length (rs : List (List IP)) : ∀ k f, (eds3 k f rs).length = rs.flatten.length := by
  induction rs with
  | nil => intro k f; rfl
  | cons r rs ih => intro k f; simp [eds3, ih]
theorem eds3_at (rs : List (List IP)) : ∀ k0 f k i, i < (rg rs k).length → (eds3 k0 f rs).getD (off rs k + i) (0, 0, 0) = (f + off rs k + i, f + off rs k + (i + 1) % (rg rs k).length, k0 + k) := by
  induction rs with
  | nil => intro k0 f k i h; simp [rg] at h
  | cons r rs ih =>
    intro k0 f k i h
    match k with
    | 0 =>
      simp only [rg, List.getD_cons_zero] at h
      simp only [off, eds3, rg, List.getD_cons_zero, Nat.zero_add, Nat.add_zero]
      rw [getD_app _ _ _ _ (by simpa using h)]
      rw [getD_elem _ _ _ (by simpa using h)]
      simp
    | k + 1 =>
      have h' : i < (rg rs k).length := by simpa [rg] using h
      have e : rg (r :: rs) (k + 1) = rg rs k := by simp [rg]
      rw [e]
      simp only [off, eds3]
      rw [getD_app_r _ _ _ _ (by simp; omega)]
      simp only [List.length_map, List.length_range]
      rw [show r.length + off rs k + i - r.length = off rs k + i by omega, ih _ _ _ _ h']
      simp only [Prod.mk.injEq]
      omega
theorem take_snoc {α : Type} (l : List α) (m : Nat) (d : α) (h : m < l.length) : l.take (m + 1) = l.take m ++ [l.getD m d] := by
  rw [List.take_add_one, getD_elem _ _ _ h, List.getElem?_eq_getElem h]; rfl
def cell7 (V : List IP) (e : Nat × Nat × Nat) : List Value := [.int .i64 (e.1 : Int), .int .i64 (e.2.1 : Int), .int .i64 (e.2.2 : Int), .int .i64 (pt V e.1).1, .int .i64 (pt V e.1).2, .int .i64 (pt V e.2.1).1, .int .i64 (pt V e.2.1).2]
def cells7 (V : List IP) (l : List (Nat × Nat × Nat)) : List Value := l.flatMap (cell7 V)
theorem cells7_length (V : List IP) (l : List (Nat × Nat × Nat)) : (cells7 V l).length = l.length * 7 := by
  induction l with
  | nil => rfl
  | cons p l ih => simp [cells7, cell7] at *; omega
theorem cells7_get (V : List IP) (l : List (Nat × Nat × Nat)) : ∀ i c, i < l.length → c < 7 → (cells7 V l)[i * 7 + c]? = (cell7 V (l.getD i (0, 0, 0)))[c]? := by
  induction l with
  | nil => intro i c h; simp at h
  | cons p l ih =>
    intro i c h hc
    match i with
    | 0 =>
      show (cell7 V p ++ cells7 V l)[0 * 7 + c]? = _
      rw [List.getElem?_append_left (by simp [cell7]; omega)]; simp
    | i + 1 =>
      have := ih i c (by simpa using h) hc
      show (cell7 V p ++ cells7 V l)[(i + 1) * 7 + c]? = _
      rw [List.getElem?_append_right (by simp [cell7]; omega), show (i + 1) * 7 + c - (cell7 V p).length = i * 7 + c by simp [cell7]; omega, this]
      simp
theorem cells7_snoc (V : List IP) (l : List (Nat × Nat × Nat)) (e : Nat × Nat × Nat) : cells7 V (l ++ [e]) = cells7 V l ++ cell7 V e := by simp [cells7]
theorem cell7_one (V : List IP) (e : Nat × Nat × Nat) : ∀ u ∈ cell7 V e, u.oneCell' = true := by
  intro u hu
  simp only [cell7, List.mem_cons, List.not_mem_nil, or_false] at hu
  rcases hu with rfl | rfl | rfl | rfl | rfl | rfl | rfl <;> rfl
theorem size_da {w wr : World} (h : Below w.heap.size w wr) (o : Obj) : w.heap.size ≤ (wr.drew.alloc o).heap.size := by
  have := h.size
  simp; omega
theorem below_app {w wr : World} (hb : Below w.heap.size w wr) {o : Obj} {w1 : World} {v : Value} {e : TypeId} {size n : Nat} {xs : List Value} (hown : wr.ownsRow w.heap.size e size v n xs) (hg : (wr.drew.alloc o).grownBy w1 v.ownBlock) : Below w.heap.size w w1 :=
  (hb.drew.alloc hb.size o).grown hg (size_da hb o) (own_ge hown)
theorem seven_one (a b c d e f g : Int) : ∀ u ∈ [Value.int .i64 a, .int .i64 b, .int .i64 c, .int .i64 d, .int .i64 e, .int .i64 f, .int .i64 g], u.oneCell' = true := by
  intro u hu
  simp only [List.mem_cons, List.not_mem_nil, or_false] at hu
  rcases hu with rfl | rfl | rfl | rfl | rfl | rfl | rfl <;> rfl
theorem infoE : (Try.prog.info? 89).map (fun i => (i.zero, i.size, i.bytes)) = some (some (.agg #[.int .i64 0, .int .i64 0, .int .i64 0, .int .i64 0, .int .i64 0, .int .i64 0, .int .i64 0]), 7, 56) := by kernel_rfl
theorem underSE : Try.prog.underlying 85 = some (.slice 89) := by kernel_rfl
set_option maxRecDepth 100000 in
set_option maxHeartbeats 4000000 in
theorem edges_any (a : Option Addr) (cap : Nat) (A : Nat → Option Addr) (C : Nat → Nat) (rs : List (List IP)) (w : World) (hn : rs.length ≤ 1048576) (hp : RingsL w a A C rs) (hsz : rs.flatten.length ≤ 1048576) :
    Calls Try.prog 53 #[.slice a rs.length cap] w fun e w' => ∃ v, e = .returned v ∧ w'.ownsRow w.heap.size 89 7 v rs.flatten.length (cells7 rs.flatten (eds3 0 0 rs)) ∧ Below w.heap.size w w' := by
  obtain ⟨i0, hi, hz0, hz1, hz2⟩ := info_parts infoE
  go_enter Try.func53, Try.ntmps53
  go_wp2
  go_loopw [3, 4, 5, 6, 7, 8] (fun v f i _ _ _ wr => ∃ k : Nat, k ≤ rs.length ∧ i = .int .i64 k ∧ f = .int .i64 (off rs k) ∧ wr.ownsRow w.heap.size 89 7 v (off rs k) (cells7 rs.flatten ((eds3 0 0 rs).take (off rs k))) ∧ Below w.heap.size w wr) (fun _ _ i _ _ _ _ => rs.length - (intOf i).toNat)
  case atStart =>
    refine ⟨0, Nat.zero_le _, rfl, by rw [off_zero]; rfl, ?_, Below.refl _ _⟩
    rw [off_zero]; exact World.ownsRow_nil _ _ _ _
  case round =>
    obtain ⟨k, hk, rfl, rfl, hown, hb⟩ := hrel
    by_cases hlt : k < rs.length
    · rcases hp with h0 | ⟨b, of, rfl, hcell⟩
      · omega
      obtain ⟨hc0, hpk⟩ := hcell k hlt
      have hoff := off_succ rs k hlt
      have hlim : off rs (k + 1) ≤ rs.flatten.length := by
        have := off_mono rs k rs.length hlt hlt
        rw [off_end] at this; omega
      have hk0 : (0 : Int) ≤ (k : Int) := by omega
      have hkn : (k : Int) < (rs.length : Int) := by omega
      have hc1 := cell_later hb hc0
      have HO : Hid (off rs (k + 1) = off rs k + (rg rs k).length) := hoff
      clear hoff
      generalize hF : off rs k = F at *
      have HF : Hid (off rs k = F) := hF
      clear hF
      go_wp2
      go_loopw [3, 7, 8] (fun v i _ wq => ∃ j : Nat, j ≤ (rg rs k).length ∧ i = .int .i64 j ∧ wq.ownsRow w.heap.size 89 7 v (F + j) (cells7 rs.flatten ((eds3 0 0 rs).take (F + j))) ∧ Below w.heap.size w wq) (fun _ i _ _ => (rg rs k).length - (intOf i).toNat)
      case atStart => exact ⟨0, Nat.zero_le _, rfl, hown, hb⟩
      case round =>
        clear hc1 hown hb
        obtain ⟨i, hi', rfl, hown, hb⟩ := hrel
        have hc1 := cell_later hb hc0
        by_cases hil : i < (rg rs k).length
        · rcases hpk with h0 | ⟨b', off', hA, hps⟩
          · have h' : (rg rs k).length = 0 := h0
            omega
          rw [hA] at hc1
          have hj : (i + 1) % (rg rs k).length < (rg rs k).length := Nat.mod_lt _ (by omega)
          have c1 := cell_later hb (hps i hil).1
          have c2 := cell_later hb (hps i hil).2
          have c3 := cell_later hb (hps _ hj).1
          have c4 := cell_later hb (hps _ hj).2
          have E := eds3_at rs 0 0 k i hil
          rw [HF.out, Nat.zero_add, Nat.zero_add] at E
          have v1 := (pt_at rs k i hil).1
          have v2 := (pt_at rs k _ hj).1
          rw [HF.out] at v1 v2
          have T : (eds3 0 0 rs).take (F + i + 1) = (eds3 0 0 rs).take (F + i) ++ [(F + i, F + (i + 1) % (rg rs k).length, k)] := by
            rw [take_snoc _ _ (0, 0, 0) (by rw [eds3_length]; have := HO.out; omega), E]
          have HT : Hid (cells7 rs.flatten ((eds3 0 0 rs).take (F + i + 1)) = cells7 rs.flatten ((eds3 0 0 rs).take (F + i)) ++ [.int .i64 ((F + i : Nat) : Int), .int .i64 ((F + (i + 1) % (rg rs k).length : Nat) : Int), .int .i64 (k : Int), .int .i64 (pt (rg rs k) i).1, .int .i64 (pt (rg rs k) i).2, .int .i64 (pt (rg rs k) ((i + 1) % (rg rs k).length)).1, .int .i64 (pt (rg rs k) ((i + 1) % (rg rs k).length)).2]) := by
            show _ = _
            rw [T, cells7_snoc]
            simp only [cell7, v1, v2]
          have hmod : ((i : Int) + 1).tmod ((rg rs k).length : Int) = (((i + 1) % (rg rs k).length : Nat) : Int) := by
            rw [Int.tmod_eq_emod_of_nonneg (by omega), Int.natCast_emod]; rfl
          have hl0 : ¬ (rg rs k).length = 0 := by omega
          have hl1 : (((rg rs k).length : Int) == 0) = false := by rw [beq_eq_false_iff_ne]; omega
          have hlen := HO.out
          clear E v1 v2 T
          have h0a := hc0
          rw [hA] at h0a
          have h1a := (hps i hil).1
          have h2a := (hps i hil).2
          have h3a := (hps _ hj).1
          have h4a := (hps _ hj).2
          generalize (i + 1) % (rg rs k).length = j at *
          generalize (pt (rg rs k) i).1 = x1 at *
          generalize (pt (rg rs k) i).2 = y1 at *
          generalize (pt (rg rs k) j).1 = x2 at *
          generalize (pt (rg rs k) j).2 = y2 at *
          have hi0 : (0 : Int) ≤ (i : Int) := by omega
          have hil' : (i : Int) < ((rg rs k).length : Int) := by omega
          have hj0 : (0 : Int) ≤ (j : Int) := by omega
          have hjn : (j : Int) < ((rg rs k).length : Int) := by omega
          have e1 := World.new_ne _ _ hc1
          have e2 := World.new_ne _ _ c1
          have e3 := World.new_ne _ _ c3
          go_wp2
          go_region_held3 (fun w' => w'.cell? ⟨b, of + k, none⟩ = some (.slice (some ⟨b', off', none⟩) (rg rs k).length (C k)) ∧ w'.cell? ⟨b', off' + i * 2, none⟩ = some (.int .i64 x1) ∧ w'.cell? ⟨b', off' + i * 2 + 1, none⟩ = some (.int .i64 y1) ∧ w'.cell? ⟨b', off' + j * 2, none⟩ = some (.int .i64 x2) ∧ w'.cell? ⟨b', off' + j * 2 + 1, none⟩ = some (.int .i64 y2)) (first | exact ⟨cell_later hbN h0a, cell_later hbN h1a, cell_later hbN h2a, cell_later hbN h3a, cell_later hbN h4a⟩ | go_keep)
            (first | (refine step_append_lies _ rfl (.tmp 29) (.tmp 52) 85 rfl w.heap.size 89 i0 _ 7 56 underSE hi hz0 hz1 hz2 rfl (by decide) _ _ _ rfl (hown.drew.alloc _) ⟨_, 0, none⟩ 1 1 _ rfl rfl (World.news_of_block (heap_alloc_new _ _)) (seven_one _ _ _ _ _ _ _) (by decide) (by unfold maxLen; omega) (by omega) (size_da hb _) _ rfl ?_; intro g cap w1 hown1 hgrow1 hat hlt1; have hbN := below_app hb hown hgrow1))
          go_split_ands
          go_wp2
          go_roundw
          case rel =>
            have e1 : ((F + i : Nat) : Int) = IntKind.i64.wrap ((F : Int) + (i : Int)) := by rw [wrap_i64, wrap64_in _ (by omega) (by omega)]; omega
            have e2 : ((F + j : Nat) : Int) = IntKind.i64.wrap ((F : Int) + (j : Int)) := by rw [wrap_i64, wrap64_in _ (by omega) (by omega)]; omega
            have e3 := HT.out
            rw [e1, e2] at e3
            rw [← e3] at hown1
            refine ⟨i + 1, by omega, by go_num, ?_⟩
            first | exact hown1 | exact ⟨hown1, hbN⟩
          case measure => simp [intOf]; omega
        · have : i = (rg rs k).length := by omega
          subst this
          have hlen := HO.out
          go_wp2
          go_roundw
          case rel =>
            refine ⟨k + 1, by omega, by go_num, ?_, ?_, hb⟩
            · rw [HO.out]; go_num
            · rw [HO.out]; exact hown
          case measure => simp [intOf]; omega
    · have : k = rs.length := by omega
      subst this
      rw [off_end, ← eds3_length rs 0 0, List.take_length, eds3_length] at hown
      go_wp2
      go_ret
      exact ⟨_, rfl, hown, hb⟩
end Go.Proofs.Ytdkaoopkbhaheaa
namespace Go.Proofs.Ytdkaoopkbhaheaa
open Go.RowKit
open Jor
open scoped Classical
set_option linter.unusedVariables false
set_option linter.unusedSimpArgs false
theorem ret2 {k : IntKind} {a b : Int} (h : a = b) : Ending.returned (.int k b) = .returned (.int k a) := by rw [h]
def szR [∀ p : Prop, Decidable p] (rs : List (List IP)) : Int := first7 (Many rs) (Short rs) (Far rs) False False False False
theorem sz_many {rs : List (List IP)} (h : Many rs) : szR rs = 1 := by unfold szR first7; rw [if_pos h]
theorem sz_short {rs : List (List IP)} (h : ¬ Many rs) (h2 : Short rs) : szR rs = 2 := by unfold szR first7; rw [if_neg h, if_pos h2]
theorem sz_far {rs : List (List IP)} (h : ¬ Many rs) (h2 : ¬ Short rs) (h3 : Far rs) : szR rs = 3 := by unfold szR first7; rw [if_neg h, if_neg h2, if_pos h3]
theorem sz_ok {rs : List (List IP)} (h : ¬ Many rs) (h2 : ¬ Short rs) (h3 : ¬ Far rs) : szR rs = 0 := by unfold szR first7; rw [if_neg h, if_neg h2, if_neg h3]; simp
theorem near_in (p : IP) : nearP p ↔ inB p.1 (-1048576) 1048576 = true ∧ inB p.2 (-1048576) 1048576 = true := by
  unfold nearP nearB inB
  simp only [decide_eq_true_eq]
  omega
theorem not_short {rs : List (List IP)} (h : ∀ k, k < rs.length → 3 ≤ (rg rs k).length) : ¬ Short rs := by
  rintro ⟨r, hr, hl⟩
  obtain ⟨k, hk, rfl⟩ := List.getElem_of_mem hr
  have := h k hk
  unfold rg at this
  rw [getD_elem _ _ _ hk] at this
  omega
theorem short_at {rs : List (List IP)} {k : Nat} (hk : k < rs.length) (h : (rg rs k).length < 3) : Short rs := ⟨_, rg_mem hk, h⟩
theorem not_far {rs : List (List IP)} (h : rs.flatten.length ≤ 64) (h2 : ∀ i, i < rs.flatten.length → nearP (pt rs.flatten i)) : ¬ Far rs := by
  rintro (hf | ⟨v, hv, hn⟩)
  · omega
  · obtain ⟨k, hk, rfl⟩ := List.getElem_of_mem hv
    have := h2 k hk
    unfold pt at this
    rw [getD_elem _ _ _ hk] at this
    exact hn this
theorem off_le (rs : List (List IP)) (k : Nat) (h : k ≤ rs.length) : off rs k ≤ rs.flatten.length := by
  rcases Nat.lt_or_ge k rs.length with h1 | h1
  · have := off_mono rs k rs.length h1 h1
    rw [off_end] at this; omega
  · rw [show k = rs.length by omega, off_end]; omega
def verts (rs : List (List IP)) : List IP := rs.flatten
theorem off_end' (rs : List (List IP)) : off rs rs.length = (verts rs).length := off_end rs
theorem own_verts {w : World} {base : Nat} {e : TypeId} {v : Value} {rs : List (List IP)} (h : w.ownsRow base e 2 v rs.flatten.length (cells2 rs.flatten)) : ∃ a c, v = .slice a (verts rs).length c ∧ Pts w a (verts rs).length (pt (verts rs)) := pts_of_own h
theorem off_le' (rs : List (List IP)) (k : Nat) (h : k ≤ rs.length) : off rs k ≤ (verts rs).length := off_le rs k h
set_option maxRecDepth 100000 in
set_option maxHeartbeats 4000000 in
theorem sizes_any (a : Option Addr) (cap : Nat) (A : Nat → Option Addr) (C : Nat → Nat) (rs : List (List IP)) (w : World) (hn : rs.length ≤ 1048576) (hp : RingsL w a A C rs) (hsz : (verts rs).length ≤ 1048576) :
    Calls Try.prog 51 #[.slice a rs.length cap] w fun e w' => e = .returned (.int .i64 (szR rs)) ∧ Below w.heap.size w w' := by
  by_cases hm : Many rs
  · rw [sz_many hm]
    by_cases h1 : (rs.length : Int) < 1
    · go_enter Try.func51, Try.ntmps51
      go_wp2
      go_ret
      exact ⟨rfl, Below.refl _ _⟩
    · have h2 : (8 : Int) < (rs.length : Int) := by unfold Many at hm; omega
      go_enter Try.func51, Try.ntmps51
      go_wp2
      go_ret
      exact ⟨rfl, Below.refl _ _⟩
  have h1 : ¬ (rs.length : Int) < 1 := by unfold Many at hm; omega
  have h2 : ¬ (8 : Int) < (rs.length : Int) := by unfold Many at hm; omega
  have HM : Hid (¬ Many rs) := hm
  clear hm
  go_enter Try.func51, Try.ntmps51
  go_wp2
  go_loopw [3, 4] (fun s i wr => ∃ k : Nat, k ≤ rs.length ∧ i = .int .i64 k ∧ s = .int .i64 (off rs k) ∧ (∀ j, j < k → 3 ≤ (rg rs j).length) ∧ wr = w) (fun _ i _ => rs.length - (intOf i).toNat)
  case atStart => exact ⟨0, Nat.zero_le _, rfl, by rw [off_zero]; rfl, fun j h => absurd h (by omega), rfl⟩
  case round =>
    obtain ⟨k, hk, rfl, rfl, hall, rfl⟩ := hrel
    by_cases hlt : k < rs.length
    · have hp0 := hp
      rcases hp with h0 | ⟨b, of, rfl, hcell⟩
      · omega
      obtain ⟨hc0, hpk⟩ := hcell k hlt
      have hoff := off_succ rs k hlt
      have hlim := off_le' rs (k + 1) (by omega)
      have HA : Hid (∀ j, j < k → 3 ≤ (rg rs j).length) := hall
      clear hall hp0 hcell hpk
      have hk0 : (0 : Int) ≤ (k : Int) := by omega
      have hkn : (k : Int) < (rs.length : Int) := by omega
      by_cases hs : (rg rs k).length < 3
      · have HS : Hid (szR rs = 2) := sz_short HM.out (short_at hlt hs)
        go_wp2
        go_ret
        exact ⟨ret2 HS.out, Below.refl _ _⟩
      · have HO : Hid (off rs (k + 1) = off rs k + (rg rs k).length) := hoff
        have hb2 : off rs k + (rg rs k).length ≤ 1048576 := by omega
        clear hoff
        go_wp2
        go_roundw
        case rel =>
          refine ⟨k + 1, by omega, by go_num, ?_, fun j hj => ?_, by first | rfl | trivial⟩
          · rw [HO.out]
            go_num
          · rcases Nat.lt_or_ge j k with h | h
            · exact HA.out j h
            · rw [show j = k by omega]; omega
        case measure => simp [intOf]; omega
    · have : k = rs.length := by omega
      subst this
      have HS : Hid (¬ Short rs) := not_short hall
      have h3 : ∀ k, k < rs.length → 0 < (rg rs k).length := fun k hk => by have := hall k hk; omega
      rw [off_end']
      clear hall
      go_wp2_with (go_at_call 52; refine (points_any _ _ _ _ _ _ hn hp h3 hsz).mono ?_; rintro e w1 ⟨v, rfl, hown, hb1⟩; obtain ⟨a', c', rfl, hP⟩ := own_verts hown)
      go_loopw [6] (fun i wr => ∃ k : Nat, k ≤ (verts rs).length ∧ i = .int .i64 k ∧ (∀ j, j < k → nearP (pt (verts rs) j)) ∧ wr = w1) (fun i _ => (verts rs).length - (intOf i).toNat)
      case atStart => exact ⟨0, Nat.zero_le _, rfl, fun j h => absurd h (by omega), rfl⟩
      case round =>
        obtain ⟨k, hk, rfl, hall, rfl⟩ := hrel
        by_cases hlt : k < (verts rs).length
        · rcases hP with h0 | ⟨b, of, rfl, hcell⟩
          · omega
          obtain ⟨c1, c2⟩ := hcell k hlt
          have HA : Hid (∀ j, j < k → nearP (pt (verts rs) j)) := hall
          have NI : Hid (nearP (pt (verts rs) k) ↔ inB (pt (verts rs) k).1 (-1048576) 1048576 = true ∧ inB (pt (verts rs) k).2 (-1048576) 1048576 = true) := near_in _
          have FA : Hid (¬ nearP (pt (verts rs) k) → szR rs = 3) := fun h => sz_far HM.out HS.out (.inr ⟨_, pt_mem hlt, h⟩)
          have Pk : Hid (∀ j, j < k + 1 → j < k ∨ j = k) := fun j h => by omega
          clear hall hcell
          have hk0 : (0 : Int) ≤ (k : Int) := by omega
          have hkn : (k : Int) < ((verts rs).length : Int) := by omega
          generalize hV : pt (verts rs) k = V at *
          obtain ⟨x, y⟩ := V
          have HV : Hid (pt (verts rs) k = (x, y)) := hV
          clear hV
          simp only at c1 c2
          cases h1 : inB x (-1048576) 1048576
          · have HR : Hid (szR rs = 3) := FA.out (fun h => by have := (NI.out.1 h).1; rw [h1] at this; cases this)
            go_wp2_with (go_at_call 70; refine (in_any _ _ _ _).mono ?_; rintro e w2 ⟨rfl, hw2⟩; rw [hw2, h1]; clear hw2 w2)
            go_ret
            exact ⟨ret2 HR.out, hb1⟩
          · cases h2 : inB y (-1048576) 1048576
            · have HR : Hid (szR rs = 3) := FA.out (fun h => by have := (NI.out.1 h).2; rw [h2] at this; cases this)
              go_wp2_with (go_at_call 70; refine (in_any _ _ _ _).mono ?_; rintro e w2 ⟨rfl, hw2⟩; rw [hw2]; first | rw [h1] | rw [h2]; clear hw2 w2)
              go_ret
              exact ⟨ret2 HR.out, hb1⟩
            · go_wp2_with (go_at_call 70; refine (in_any _ _ _ _).mono ?_; rintro e w2 ⟨rfl, hw2⟩; rw [hw2]; first | rw [h1] | rw [h2]; clear hw2 w2)
              go_roundw
              case rel =>
                refine ⟨k + 1, by omega, by go_num, fun j hj => ?_, by first | rfl | trivial⟩
                rcases Pk.out j hj with h | h
                · exact HA.out j h
                · rw [h, HV.out]; exact NI.out.2 ⟨h1, h2⟩
              case measure => simp [intOf]; omega
        · have : k = (verts rs).length := by omega
          subst this
          by_cases h64 : (64 : Int) < ((verts rs).length : Int)
          · have HR : Hid (szR rs = 3) := sz_far HM.out HS.out (.inl (show 64 < (verts rs).length by omega))
            go_wp2
            go_ret
            exact ⟨ret2 HR.out, hb1⟩
          · have HR : Hid (szR rs = 0) := sz_ok HM.out HS.out (not_far (show (verts rs).length ≤ 64 by omega) hall)
            clear hall
            go_wp2
            go_ret
            exact ⟨ret2 HR.out, hb1⟩
end Go.Proofs.Ytdkaoopkbhaheaa
