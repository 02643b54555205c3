/- The document's Edges. -/
import Derived.Test.YtdkaoopkbhaheaaB7
import Derived.Deep.AppendLies
namespace Go.Proofs.Ytdkaoopkbhaheaa
open Go.RowKit
open Jor
set_option linter.unusedVariables false
set_option linter.unusedSimpArgs false

theorem own_ge {w : World} {base : Nat} {e : TypeId} {size : Nat} {v : Value} {n : Nat} {xs : List Value} (h : w.ownsRow base e size v n xs) : ∀ j, v.ownBlock = some j → base ≤ j := by
  intro j hj
  rcases h.2 with ⟨rfl, _⟩ | ⟨g, cap', cur, rfl, hg, _⟩
  · cases hj
  · cases hj; exact hg
theorem off_succ (rs : List (List IP)) : ∀ k, k < rs.length → off rs (k + 1) = off rs k + (rg rs k).length := by
  induction rs with
  | nil => intro k h; simp at h
  | cons r rs ih =>
    intro k h
    match k with
    | 0 => simp [off, rg]; cases rs <;> rfl
    | k + 1 =>
      have := ih k (by simpa using h)
      have e : rg (r :: rs) (k + 1) = rg rs k := by simp [rg]
      rw [e]; simp only [off]; omega
theorem off_zero (rs : List (List IP)) : off rs 0 = 0 := by cases rs <;> rfl
theorem off_end (rs : List (List IP)) : off rs rs.length = rs.flatten.length := by
  induction rs with
  | nil => rfl
  | cons r rs ih => simp only [List.length_cons, off, ih, List.flatten_cons, List.length_append]

/-- The edges with their rings' numbers. -/
def eds3 : Nat → Nat → List (List IP) → List (Nat × Nat × Nat)
  | _, _, [] => []
  | k, f, r :: rs => (List.range r.length).map (fun i => (f + i, f + (i + 1) % r.length, k)) ++ eds3 (k + 1) (f + r.length) rs
theorem eds3_length (rs : List (List IP)) : ∀ k f, (eds3 k f rs).length = rs.flatten.length := by
  induction rs with
  | nil => intro k f; rfl
  | cons r rs ih => intro k f; simp [eds3, ih]
theorem eds3_at (rs : List (List IP)) : ∀ k0 f k i, i < (rg rs k).length → (eds3 k0 f rs).getD (off rs k + i) (0, 0, 0) = (f + off rs k + i, f + off rs k + (i + 1) % (rg rs k).length, k0 + k) := by
  induction rs with
  | nil => intro k0 f k i h; simp [rg] at h
  | cons r rs ih =>
    intro k0 f k i h
    match k with
    | 0 =>
      simp only [rg, List.getD_cons_zero] at h
      simp only [off, eds3, rg, List.getD_cons_zero, Nat.zero_add, Nat.add_zero]
      rw [getD_app _ _ _ _ (by simpa using h)]
      rw [getD_elem _ _ _ (by simpa using h)]
      simp
    | k + 1 =>
      have h' : i < (rg rs k).length := by simpa [rg] using h
      have e : rg (r :: rs) (k + 1) = rg rs k := by simp [rg]
      rw [e]
      simp only [off, eds3]
      rw [getD_app_r _ _ _ _ (by simp; omega)]
      simp only [List.length_map, List.length_range]
      rw [show r.length + off rs k + i - r.length = off rs k + i by omega, ih _ _ _ _ h']
      simp only [Prod.mk.injEq]
      omega
theorem take_snoc {α : Type} (l : List α) (m : Nat) (d : α) (h : m < l.length) : l.take (m + 1) = l.take m ++ [l.getD m d] := by
  rw [List.take_add_one, getD_elem _ _ _ h, List.getElem?_eq_getElem h]; rfl

/-- Seven cells an edge. -/
def cell7 (V : List IP) (e : Nat × Nat × Nat) : List Value := [.int .i64 (e.1 : Int), .int .i64 (e.2.1 : Int), .int .i64 (e.2.2 : Int), .int .i64 (pt V e.1).1, .int .i64 (pt V e.1).2, .int .i64 (pt V e.2.1).1, .int .i64 (pt V e.2.1).2]
def cells7 (V : List IP) (l : List (Nat × Nat × Nat)) : List Value := l.flatMap (cell7 V)
theorem cells7_length (V : List IP) (l : List (Nat × Nat × Nat)) : (cells7 V l).length = l.length * 7 := by
  induction l with
  | nil => rfl
  | cons p l ih => simp [cells7, cell7] at *; omega
theorem cells7_get (V : List IP) (l : List (Nat × Nat × Nat)) : ∀ i c, i < l.length → c < 7 → (cells7 V l)[i * 7 + c]? = (cell7 V (l.getD i (0, 0, 0)))[c]? := by
  induction l with
  | nil => intro i c h; simp at h
  | cons p l ih =>
    intro i c h hc
    match i with
    | 0 =>
      show (cell7 V p ++ cells7 V l)[0 * 7 + c]? = _
      rw [List.getElem?_append_left (by simp [cell7]; omega)]; simp
    | i + 1 =>
      have := ih i c (by simpa using h) hc
      show (cell7 V p ++ cells7 V l)[(i + 1) * 7 + c]? = _
      rw [List.getElem?_append_right (by simp [cell7]; omega), show (i + 1) * 7 + c - (cell7 V p).length = i * 7 + c by simp [cell7]; omega, this]
      simp
theorem cells7_snoc (V : List IP) (l : List (Nat × Nat × Nat)) (e : Nat × Nat × Nat) : cells7 V (l ++ [e]) = cells7 V l ++ cell7 V e := by simp [cells7]
theorem cell7_one (V : List IP) (e : Nat × Nat × Nat) : ∀ u ∈ cell7 V e, u.oneCell' = true := by
  intro u hu
  simp only [cell7, List.mem_cons, List.not_mem_nil, or_false] at hu
  rcases hu with rfl | rfl | rfl | rfl | rfl | rfl | rfl <;> rfl

theorem size_da {w wr : World} (h : Below w.heap.size w wr) (o : Obj) : w.heap.size ≤ (wr.drew.alloc o).heap.size := by
  have := h.size
  simp; omega
theorem below_app {w wr : World} (hb : Below w.heap.size w wr) {o : Obj} {w1 : World} {v : Value} {e : TypeId} {size n : Nat} {xs : List Value} (hown : wr.ownsRow w.heap.size e size v n xs) (hg : (wr.drew.alloc o).grownBy w1 v.ownBlock) : Below w.heap.size w w1 :=
  (hb.drew.alloc hb.size o).grown hg (size_da hb o) (own_ge hown)
theorem seven_one (a b c d e f g : Int) : ∀ u ∈ [Value.int .i64 a, .int .i64 b, .int .i64 c, .int .i64 d, .int .i64 e, .int .i64 f, .int .i64 g], u.oneCell' = true := by
  intro u hu
  simp only [List.mem_cons, List.not_mem_nil, or_false] at hu
  rcases hu with rfl | rfl | rfl | rfl | rfl | rfl | rfl <;> rfl
theorem infoE : (Try.prog.info? 89).map (fun i => (i.zero, i.size, i.bytes)) = some (some (.agg #[.int .i64 0, .int .i64 0, .int .i64 0, .int .i64 0, .int .i64 0, .int .i64 0, .int .i64 0]), 7, 56) := by kernel_rfl
theorem underSE : Try.prog.underlying 85 = some (.slice 89) := by kernel_rfl

set_option maxRecDepth 100000 in
set_option maxHeartbeats 4000000 in
theorem edges_any (a : Option Addr) (cap : Nat) (A : Nat → Option Addr) (C : Nat → Nat) (rs : List (List IP)) (w : World) (hn : rs.length ≤ 1048576) (hp : RingsL w a A C rs) (hsz : rs.flatten.length ≤ 1048576) :
    Calls Try.prog 53 #[.slice a rs.length cap] w fun e w' => ∃ v, e = .returned v ∧ w'.ownsRow w.heap.size 89 7 v rs.flatten.length (cells7 rs.flatten (eds3 0 0 rs)) ∧ Below w.heap.size w w' := by
  obtain ⟨i0, hi, hz0, hz1, hz2⟩ := info_parts infoE
  go_enter Try.func53, Try.ntmps53
  go_wp2
  go_loopw [3, 4, 5, 6, 7, 8] (fun v f i _ _ _ wr => ∃ k : Nat, k ≤ rs.length ∧ i = .int .i64 k ∧ f = .int .i64 (off rs k) ∧ wr.ownsRow w.heap.size 89 7 v (off rs k) (cells7 rs.flatten ((eds3 0 0 rs).take (off rs k))) ∧ Below w.heap.size w wr) (fun _ _ i _ _ _ _ => rs.length - (intOf i).toNat)
  case atStart =>
    refine ⟨0, Nat.zero_le _, rfl, by rw [off_zero]; rfl, ?_, Below.refl _ _⟩
    rw [off_zero]; exact World.ownsRow_nil _ _ _ _
  case round =>
    obtain ⟨k, hk, rfl, rfl, hown, hb⟩ := hrel
    by_cases hlt : k < rs.length
    · rcases hp with h0 | ⟨b, of, rfl, hcell⟩
      · omega
      obtain ⟨hc0, hpk⟩ := hcell k hlt
      have hoff := off_succ rs k hlt
      have hlim : off rs (k + 1) ≤ rs.flatten.length := by
        have := off_mono rs k rs.length hlt hlt
        rw [off_end] at this; omega
      have hk0 : (0 : Int) ≤ (k : Int) := by omega
      have hkn : (k : Int) < (rs.length : Int) := by omega
      have hc1 := cell_later hb hc0
      have HO : Hid (off rs (k + 1) = off rs k + (rg rs k).length) := hoff
      clear hoff
      generalize hF : off rs k = F at *
      have HF : Hid (off rs k = F) := hF
      clear hF
      go_wp2
      go_loopw [3, 7, 8] (fun v i _ wq => ∃ j : Nat, j ≤ (rg rs k).length ∧ i = .int .i64 j ∧ wq.ownsRow w.heap.size 89 7 v (F + j) (cells7 rs.flatten ((eds3 0 0 rs).take (F + j))) ∧ Below w.heap.size w wq) (fun _ i _ _ => (rg rs k).length - (intOf i).toNat)
      case atStart => exact ⟨0, Nat.zero_le _, rfl, hown, hb⟩
      case round =>
        clear hc1 hown hb
        obtain ⟨i, hi', rfl, hown, hb⟩ := hrel
        have hc1 := cell_later hb hc0
        by_cases hil : i < (rg rs k).length
        · rcases hpk with h0 | ⟨b', off', hA, hps⟩
          · have h' : (rg rs k).length = 0 := h0
            omega
          rw [hA] at hc1
          have hj : (i + 1) % (rg rs k).length < (rg rs k).length := Nat.mod_lt _ (by omega)
          have c1 := cell_later hb (hps i hil).1
          have c2 := cell_later hb (hps i hil).2
          have c3 := cell_later hb (hps _ hj).1
          have c4 := cell_later hb (hps _ hj).2
          have E := eds3_at rs 0 0 k i hil
          rw [HF.out, Nat.zero_add, Nat.zero_add] at E
          have v1 := (pt_at rs k i hil).1
          have v2 := (pt_at rs k _ hj).1
          rw [HF.out] at v1 v2
          have T : (eds3 0 0 rs).take (F + i + 1) = (eds3 0 0 rs).take (F + i) ++ [(F + i, F + (i + 1) % (rg rs k).length, k)] := by
            rw [take_snoc _ _ (0, 0, 0) (by rw [eds3_length]; have := HO.out; omega), E]
          have HT : Hid (cells7 rs.flatten ((eds3 0 0 rs).take (F + i + 1)) = cells7 rs.flatten ((eds3 0 0 rs).take (F + i)) ++ [.int .i64 ((F + i : Nat) : Int), .int .i64 ((F + (i + 1) % (rg rs k).length : Nat) : Int), .int .i64 (k : Int), .int .i64 (pt (rg rs k) i).1, .int .i64 (pt (rg rs k) i).2, .int .i64 (pt (rg rs k) ((i + 1) % (rg rs k).length)).1, .int .i64 (pt (rg rs k) ((i + 1) % (rg rs k).length)).2]) := by
            show _ = _
            rw [T, cells7_snoc]
            simp only [cell7, v1, v2]
          have hmod : ((i : Int) + 1).tmod ((rg rs k).length : Int) = (((i + 1) % (rg rs k).length : Nat) : Int) := by
            rw [Int.tmod_eq_emod_of_nonneg (by omega), Int.natCast_emod]; rfl
          have hl0 : ¬ (rg rs k).length = 0 := by omega
          have hl1 : (((rg rs k).length : Int) == 0) = false := by rw [beq_eq_false_iff_ne]; omega
          have hlen := HO.out
          clear E v1 v2 T
          have h0a := hc0
          rw [hA] at h0a
          have h1a := (hps i hil).1
          have h2a := (hps i hil).2
          have h3a := (hps _ hj).1
          have h4a := (hps _ hj).2
          generalize (i + 1) % (rg rs k).length = j at *
          generalize (pt (rg rs k) i).1 = x1 at *
          generalize (pt (rg rs k) i).2 = y1 at *
          generalize (pt (rg rs k) j).1 = x2 at *
          generalize (pt (rg rs k) j).2 = y2 at *
          have hi0 : (0 : Int) ≤ (i : Int) := by omega
          have hil' : (i : Int) < ((rg rs k).length : Int) := by omega
          have hj0 : (0 : Int) ≤ (j : Int) := by omega
          have hjn : (j : Int) < ((rg rs k).length : Int) := by omega
          have e1 := World.new_ne _ _ hc1
          have e2 := World.new_ne _ _ c1
          have e3 := World.new_ne _ _ c3
          go_wp2
          go_region_held3 (fun w' => w'.cell? ⟨b, of + k, none⟩ = some (.slice (some ⟨b', off', none⟩) (rg rs k).length (C k)) ∧ w'.cell? ⟨b', off' + i * 2, none⟩ = some (.int .i64 x1) ∧ w'.cell? ⟨b', off' + i * 2 + 1, none⟩ = some (.int .i64 y1) ∧ w'.cell? ⟨b', off' + j * 2, none⟩ = some (.int .i64 x2) ∧ w'.cell? ⟨b', off' + j * 2 + 1, none⟩ = some (.int .i64 y2)) (first | exact ⟨cell_later hbN h0a, cell_later hbN h1a, cell_later hbN h2a, cell_later hbN h3a, cell_later hbN h4a⟩ | go_keep)
            (first | (refine step_append_lies _ rfl (.tmp 29) (.tmp 52) 85 rfl w.heap.size 89 i0 _ 7 56 underSE hi hz0 hz1 hz2 rfl (by decide) _ _ _ rfl (hown.drew.alloc _) ⟨_, 0, none⟩ 1 1 _ rfl rfl (World.news_of_block (heap_alloc_new _ _)) (seven_one _ _ _ _ _ _ _) (by decide) (by unfold maxLen; omega) (by omega) (size_da hb _) _ rfl ?_; intro g cap w1 hown1 hgrow1 hat hlt1; have hbN := below_app hb hown hgrow1))
          go_split_ands
          go_wp2
          go_roundw
          case rel =>
            have e1 : ((F + i : Nat) : Int) = IntKind.i64.wrap ((F : Int) + (i : Int)) := by rw [wrap_i64, wrap64_in _ (by omega) (by omega)]; omega
            have e2 : ((F + j : Nat) : Int) = IntKind.i64.wrap ((F : Int) + (j : Int)) := by rw [wrap_i64, wrap64_in _ (by omega) (by omega)]; omega
            have e3 := HT.out
            rw [e1, e2] at e3
            rw [← e3] at hown1
            refine ⟨i + 1, by omega, by go_num, ?_⟩
            first | exact hown1 | exact ⟨hown1, hbN⟩
          case measure => simp [intOf]; omega
        · have : i = (rg rs k).length := by omega
          subst this
          have hlen := HO.out
          go_wp2
          go_roundw
          case rel =>
            refine ⟨k + 1, by omega, by go_num, ?_, ?_, hb⟩
            · rw [HO.out]; go_num
            · rw [HO.out]; exact hown
          case measure => simp [intOf]; omega
    · have : k = rs.length := by omega
      subst this
      rw [off_end, ← eds3_length rs 0 0, List.take_length, eds3_length] at hown
      go_wp2
      go_ret
      exact ⟨_, rfl, hown, hb⟩
end Go.Proofs.Ytdkaoopkbhaheaa
