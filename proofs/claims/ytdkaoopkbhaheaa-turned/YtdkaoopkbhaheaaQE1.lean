import Derived.Test.YtdkaoopkbhaheaaPB7
namespace Go.Proofs.Ytdkaoopkbhaheaa
open Go.RowKit
open Jor
open scoped Classical
set_option linter.unusedVariables false
set_option linter.unusedSimpArgs false
theorem chk_sz {rs : List (List IP)} (h : szR rs ≠ 0) : chkR rs = szR rs := by
  unfold szR chkR first7 at *
  by_cases h1 : Many rs
  · rw [if_pos h1, if_pos h1]
  by_cases h2 : Short rs
  · rw [if_neg h1, if_pos h2, if_neg h1, if_pos h2]
  by_cases h3 : Far rs
  · rw [if_neg h1, if_neg h2, if_pos h3, if_neg h1, if_neg h2, if_pos h3]
  rw [if_neg h1, if_neg h2, if_neg h3] at h
  simp at h
structure Fine (rs : List (List IP)) : Prop where
  many : ¬ Many rs
  short : ¬ Short rs
  far : ¬ Far rs
theorem sz_zero {rs : List (List IP)} (h : szR rs = 0) : Fine rs := by
  unfold szR first7 at h
  by_cases h1 : Many rs
  · rw [if_pos h1] at h; omega
  by_cases h2 : Short rs
  · rw [if_neg h1, if_pos h2] at h; omega
  by_cases h3 : Far rs
  · rw [if_neg h1, if_neg h2, if_pos h3] at h; omega
  exact ⟨h1, h2, h3⟩
theorem chk4 {rs : List (List IP)} (F : Fine rs) (h : Twice rs) : chkR rs = 4 := by
  unfold chkR first7; rw [if_neg F.many, if_neg F.short, if_neg F.far, if_pos h]
theorem chk5 {rs : List (List IP)} (F : Fine rs) (h : ¬ Twice rs) (h5 : TouchR rs) : chkR rs = 5 := by
  unfold chkR first7; rw [if_neg F.many, if_neg F.short, if_neg F.far, if_neg h, if_pos h5]
theorem chk6 {rs : List (List IP)} (F : Fine rs) (h : ¬ Twice rs) (h5 : ¬ TouchR rs) (h6 : OutR rs) : chkR rs = 6 := by
  unfold chkR first7; rw [if_neg F.many, if_neg F.short, if_neg F.far, if_neg h, if_neg h5, if_pos h6]
theorem chk7 {rs : List (List IP)} (F : Fine rs) (h : ¬ Twice rs) (h5 : ¬ TouchR rs) (h6 : ¬ OutR rs) (h7 : NestR rs) : chkR rs = 7 := by
  unfold chkR first7; rw [if_neg F.many, if_neg F.short, if_neg F.far, if_neg h, if_neg h5, if_neg h6, if_pos h7]
theorem chk0 {rs : List (List IP)} (F : Fine rs) (h : ¬ Twice rs) (h5 : ¬ TouchR rs) (h6 : ¬ OutR rs) (h7 : ¬ NestR rs) : chkR rs = 0 := by
  unfold chkR first7; rw [if_neg F.many, if_neg F.short, if_neg F.far, if_neg h, if_neg h5, if_neg h6, if_neg h7]
theorem Fine.three {rs : List (List IP)} (F : Fine rs) : ∀ k, k < rs.length → 3 ≤ (rg rs k).length := fun k hk => by
  by_cases h : 3 ≤ (rg rs k).length
  · exact h
  · exact absurd (short_at hk (by omega)) F.short
theorem Fine.few {rs : List (List IP)} (F : Fine rs) : 1 ≤ rs.length ∧ rs.length ≤ 8 ∧ (verts rs).length ≤ 64 := by
  have h1 := F.many
  have h2 := F.far
  unfold Many at h1
  refine ⟨by omega, by omega, ?_⟩
  rcases Nat.lt_or_ge 64 (verts rs).length with h | h
  · exact absurd (.inl h) h2
  · exact h
theorem rg_few (rs : List (List IP)) (k : Nat) (h : (rg rs k).length = 0 ∨ (rg rs k).length ≤ (verts rs).length) : (rg rs k).length ≤ (verts rs).length := by omega
theorem rg_le (rs : List (List IP)) (k : Nat) : (rg rs k).length ≤ (verts rs).length := by
  rcases Nat.eq_zero_or_pos (rg rs k).length with h | h
  · omega
  · have := (pt_at rs k ((rg rs k).length - 1) (by omega)).2
    show (rg rs k).length ≤ rs.flatten.length
    omega
def Eds (w : World) (a : Option Addr) (rs : List (List IP)) : Prop :=
  ∃ b of, a = some ⟨b, of, none⟩ ∧ ∃ K : Nat → Int, ∀ i, i < (verts rs).length →
    w.cell? ⟨b, of + i * 7, none⟩ = some (.int .i64 (ed rs i).1) ∧ w.cell? ⟨b, of + i * 7 + 1, none⟩ = some (.int .i64 (ed rs i).2) ∧ w.cell? ⟨b, of + i * 7 + 2, none⟩ = some (.int .i64 (K i)) ∧
    w.cell? ⟨b, of + i * 7 + 3, none⟩ = some (.int .i64 (pt (verts rs) (ed rs i).1).1) ∧ w.cell? ⟨b, of + i * 7 + 4, none⟩ = some (.int .i64 (pt (verts rs) (ed rs i).1).2) ∧
    w.cell? ⟨b, of + i * 7 + 5, none⟩ = some (.int .i64 (pt (verts rs) (ed rs i).2).1) ∧ w.cell? ⟨b, of + i * 7 + 6, none⟩ = some (.int .i64 (pt (verts rs) (ed rs i).2).2)
theorem eds3_ed (rs : List (List IP)) (i : Nat) (h : i < (verts rs).length) : ((eds3 0 0 rs).getD i (0, 0, 0)).1 = (ed rs i).1 ∧ ((eds3 0 0 rs).getD i (0, 0, 0)).2.1 = (ed rs i).2 := by
  obtain ⟨k, j, hk, hj, rfl⟩ := num_of rs i h
  rw [ed_at rs k j hj, eds3_at rs 0 0 k j hj]
  simp
theorem own_eds {w : World} {base : Nat} {e : TypeId} {v : Value} {rs : List (List IP)} (hpos : 0 < (verts rs).length) (h : w.ownsRow base e 7 v rs.flatten.length (cells7 rs.flatten (eds3 0 0 rs))) : ∃ a c, v = .slice a (verts rs).length c ∧ Eds w a rs := by
  have h0 := h
  rcases h.2 with ⟨rfl, hn⟩ | ⟨g, cap, cur, rfl, _⟩
  · have : (verts rs).length = 0 := hn
    omega
  · refine ⟨_, _, rfl, g, 0, rfl, fun i => (((eds3 0 0 rs).getD i (0, 0, 0)).2.2 : Int), fun i hi => ?_⟩
    have hl : i < (eds3 0 0 rs).length := by rw [eds3_length]; exact hi
    have hi' : i < rs.flatten.length := hi
    have key : ∀ c u, c < 7 → (cell7 rs.flatten ((eds3 0 0 rs).getD i (0, 0, 0)))[c]? = some u → w.cell? ⟨g, i * 7 + c, none⟩ = some u := by
      intro c u hc hu
      have := h0.cellAt (i * 7 + c) (by omega)
      rw [this, cells7_get _ _ i c hl hc]; exact hu
    obtain ⟨e1, e2⟩ := eds3_ed rs i hi
    have v1 : ∀ m, pt (verts rs) m = pt rs.flatten m := fun _ => rfl
    rw [← e1, ← e2]
    simp only [v1, Nat.zero_add]
    exact ⟨key 0 _ (by omega) rfl, key 1 _ (by omega) rfl, key 2 _ (by omega) rfl, key 3 _ (by omega) rfl, key 4 _ (by omega) rfl, key 5 _ (by omega) rfl, key 6 _ (by omega) rfl⟩
theorem twice_no {rs : List (List IP)} (h : ∀ i j, j < i → i < (verts rs).length → pt (verts rs) i ≠ pt (verts rs) j) : ¬ Twice rs := by
  rintro ⟨i, j, h1, h2, h3⟩
  exact h i j h1 h2 h3
theorem touch_no {rs : List (List IP)} (h : ∀ i j, j < i → i < (verts rs).length → badE rs i j = false) : ¬ TouchR rs := by
  rintro ⟨i, j, h1, h2, h3⟩
  have := h i j h1 h2
  rw [h3] at this; cases this
theorem pt_eq {p q : IP} (h1 : p.1 = q.1) (h2 : p.2 = q.2) : p = q := Prod.ext h1 h2
set_option maxRecDepth 100000 in
set_option maxHeartbeats 8000000 in
theorem refCheck_any (a : Option Addr) (cap : Nat) (A : Nat → Option Addr) (C : Nat → Nat) (rs : List (List IP)) (w : World) (hn : rs.length ≤ 1048576) (hp : RingsL w a A C rs) (hsz : (verts rs).length ≤ 1048576) :
    Calls Try.prog 24 #[.slice a rs.length cap] w fun e w' => e = .returned (.int .i64 (chkR rs)) ∧ Below w.heap.size w w' := by
  by_cases hz : szR rs = 0
  case neg =>
    have HZ : Hid (chkR rs = szR rs) := chk_sz hz
    have hz' : (szR rs == 0) = false := by rw [beq_eq_false_iff_ne]; exact hz
    go_enter Try.func24, Try.ntmps24
    go_wp2_with (go_at_call 51; refine (sizes_any _ _ _ _ _ _ hn hp hsz).mono ?_; rintro e w1 ⟨rfl, hb1⟩)
    go_ret
    exact ⟨ret2 HZ.out, hb1⟩
  case pos =>
  have F := sz_zero hz
  have three := F.three
  obtain ⟨f1, f2, f3⟩ := F.few
  have HF : Hid (Fine rs) := F
  have H3 : Hid (∀ k, k < rs.length → 3 ≤ (rg rs k).length) := three
  have hpos : 0 < (verts rs).length := by
    have := rg_le rs 0
    have := three 0 (by omega)
    omega
  clear three F
  go_enter Try.func24, Try.ntmps24
  go_wp2_with (first | (go_at_call 51; refine (sizes_any _ _ _ _ _ _ hn hp hsz).mono ?_; rintro e w1 ⟨rfl, hb1⟩; rw [hz]; have hp1 := Rings.later hb1 hp) | (go_at_call 52; refine (points_any _ _ _ _ _ _ hn hp1 (fun k hk => Nat.lt_of_lt_of_le (by decide) (H3.out k hk)) hsz).mono ?_; rintro e w2 ⟨v, rfl, hown, hb2'⟩; obtain ⟨a', c', rfl, hP⟩ := own_verts hown; have hb2 := below_then hb1 hb2'))
  clear hown
  have hp2 := Rings.later hb2 hp
  clear hb2' hp1 hb1
  go_loopw [5, 6] (fun x _ wr => ∃ i : Nat, i ≤ (verts rs).length ∧ x = .int .i64 i ∧ (∀ i' j, j < i' → i' < i → pt (verts rs) i' ≠ pt (verts rs) j) ∧ Below w2.heap.size w2 wr) (fun x _ _ => (verts rs).length - (intOf x).toNat)
  case atStart => exact ⟨0, Nat.zero_le _, rfl, fun i' j _ h => absurd h (by omega), Below.refl _ _⟩
  case round =>
    obtain ⟨i, hi, rfl, hall, hbr⟩ := hrel
    have HA : Hid (∀ i' j, j < i' → i' < i → pt (verts rs) i' ≠ pt (verts rs) j) := hall
    clear hall
    by_cases hlt : i < (verts rs).length
    · have hin : (i : Int) < ((verts rs).length : Int) := by omega
      have hi0 : (0 : Int) ≤ (i : Int) := by omega
      go_wp2
      go_loopw [6] (fun x wq => ∃ j : Nat, j ≤ i ∧ x = .int .i64 j ∧ (∀ j', j' < j → pt (verts rs) i ≠ pt (verts rs) j') ∧ Below w2.heap.size w2 wq) (fun x _ => i - (intOf x).toNat)
      case atStart => exact ⟨0, Nat.zero_le _, rfl, fun j h => absurd h (by omega), hbr⟩
      case round =>
        obtain ⟨j, hj, rfl, hall, hbq⟩ := hrel
        have HB : Hid (∀ j', j' < j → pt (verts rs) i ≠ pt (verts rs) j') := hall
        clear hall hbr
        by_cases hjl : j < i
        · rcases hP with h0 | ⟨b, of, rfl, hcell⟩
          · omega
          have c1 := cell_later hbq (hcell i hlt).1
          have c2 := cell_later hbq (hcell i hlt).2
          have c3 := cell_later hbq (hcell j (by omega)).1
          have c4 := cell_later hbq (hcell j (by omega)).2
          have T4 : Hid (pt (verts rs) i = pt (verts rs) j → chkR rs = 4) := fun h => chk4 HF.out ⟨i, j, hjl, hlt, h⟩
          have NE : Hid (¬ (pt (verts rs) i).1 = (pt (verts rs) j).1 ∨ ¬ (pt (verts rs) i).2 = (pt (verts rs) j).2 → pt (verts rs) i ≠ pt (verts rs) j) := fun h e => by rw [e] at h; rcases h with h | h <;> exact h rfl
          have EQ : Hid ((pt (verts rs) i).1 = (pt (verts rs) j).1 → (pt (verts rs) i).2 = (pt (verts rs) j).2 → chkR rs = 4) := fun h1 h2 => T4.out (pt_eq h1 h2)
          have hj0 : (0 : Int) ≤ (j : Int) := by omega
          have hji : (j : Int) < (i : Int) := by omega
          have hjn : (j : Int) < ((verts rs).length : Int) := by omega
          clear hcell T4
          have HB' : Hid (∀ j', j' < j + 1 → j' < j ∨ j' = j) := fun j' h => by omega
          generalize (pt (verts rs) i).1 = x1 at *
          generalize (pt (verts rs) i).2 = y1 at *
          generalize (pt (verts rs) j).1 = x2 at *
          generalize (pt (verts rs) j).2 = y2 at *
          by_cases u1 : x1 = x2
          · by_cases u2 : y1 = y2
            · have R := EQ.out u1 u2
              have HR : Hid (chkR rs = 4) := R
              clear R EQ NE
              subst u1 u2
              go_wp2
              go_region_held3 (fun w' => w'.cell? ⟨b, of + i * 2, none⟩ = some (.int .i64 x1) ∧ w'.cell? ⟨b, of + i * 2 + 1, none⟩ = some (.int .i64 y1) ∧ w'.cell? ⟨b, of + j * 2, none⟩ = some (.int .i64 x1) ∧ w'.cell? ⟨b, of + j * 2 + 1, none⟩ = some (.int .i64 y1)) (go_keep) (fail)
              go_split_ands
              go_wp2
              go_ret
              exact ⟨ret2 HR.out, below_then hb2 hbq.drew⟩
            · have HN := NE.out (.inr u2)
              have HN' : Hid (pt (verts rs) i ≠ pt (verts rs) j) := HN
              clear HN EQ NE
              have u2' : (y1 == y2) = false := by rw [beq_eq_false_iff_ne]; exact u2
              subst u1
              go_wp2
              go_region_held3 (fun w' => w'.cell? ⟨b, of + i * 2, none⟩ = some (.int .i64 x1) ∧ w'.cell? ⟨b, of + i * 2 + 1, none⟩ = some (.int .i64 y1) ∧ w'.cell? ⟨b, of + j * 2, none⟩ = some (.int .i64 x1) ∧ w'.cell? ⟨b, of + j * 2 + 1, none⟩ = some (.int .i64 y2)) (go_keep) (fail)
              go_split_ands
              go_wp2
              go_roundw
              case rel =>
                refine ⟨j + 1, by omega, by go_num, fun j' hj' => ?_, hbq.drew⟩
                rcases HB'.out j' hj' with h | h
                · exact HB.out j' h
                · rw [h]; exact HN'.out
              case measure => simp [intOf]; omega
          · have HN := NE.out (.inl u1)
            have HN' : Hid (pt (verts rs) i ≠ pt (verts rs) j) := HN
            clear HN EQ NE
            have u1' : (x1 == x2) = false := by rw [beq_eq_false_iff_ne]; exact u1
            go_wp2
            go_region_held3 (fun w' => w'.cell? ⟨b, of + i * 2, none⟩ = some (.int .i64 x1) ∧ w'.cell? ⟨b, of + i * 2 + 1, none⟩ = some (.int .i64 y1) ∧ w'.cell? ⟨b, of + j * 2, none⟩ = some (.int .i64 x2) ∧ w'.cell? ⟨b, of + j * 2 + 1, none⟩ = some (.int .i64 y2)) (go_keep) (fail)
            go_split_ands
            go_wp2
            go_roundw
            case rel =>
              refine ⟨j + 1, by omega, by go_num, fun j' hj' => ?_, hbq.drew⟩
              rcases HB'.out j' hj' with h | h
              · exact HB.out j' h
              · rw [h]; exact HN'.out
            case measure => simp [intOf]; omega
        · have : j = i := by omega
          subst this
          go_wp2
          go_roundw
          case rel =>
            refine ⟨j + 1, by omega, by go_num, fun i' j' h1 h2 => ?_, hbq⟩
            rcases Nat.lt_or_ge i' j with h | h
            · exact HA.out i' j' h1 h
            · rw [show i' = j by omega]; exact HB.out j' (by omega)
          case measure => simp [intOf]; omega
    · have : i = (verts rs).length := by omega
      subst this
      have HT : Hid (¬ Twice rs) := twice_no fun i j h1 h2 => HA.out i j h1 h2
      clear HA
      have hp3 := Rings.later hbr hp2
      go_wp2_with (go_at_call 53; refine (edges_any _ _ _ _ _ _ hn hp3 hsz).mono ?_; rintro e w3 ⟨v, rfl, hown, hb3'⟩; obtain ⟨a3, c3, rfl, hE⟩ := own_eds hpos hown; have hb3 := below_then (below_then hb2 hbr) hb3')
      clear hown hb3'
      have hp4 := Rings.later hb3 hp
      clear hp3 hp2 hP hbr hb2
      go_loopw [8, 9, 10] (fun x _ _ wr => ∃ i : Nat, i ≤ (verts rs).length ∧ x = .int .i64 i ∧ (∀ i' j, j < i' → i' < i → badE rs i' j = false) ∧ Below w3.heap.size w3 wr) (fun x _ _ _ => (verts rs).length - (intOf x).toNat)
      case atStart => exact ⟨0, Nat.zero_le _, rfl, fun i' j _ h => absurd h (by omega), Below.refl _ _⟩
      case round =>
        obtain ⟨i, hi, rfl, hall, hbr⟩ := hrel
        have HA : Hid (∀ i' j, j < i' → i' < i → badE rs i' j = false) := hall
        clear hall
        by_cases hlt : i < (verts rs).length
        · have hin : (i : Int) < ((verts rs).length : Int) := by omega
          have hi0 : (0 : Int) ≤ (i : Int) := by omega
          go_wp2
          go_loopw [9, 10] (fun x _ wq => ∃ j : Nat, j ≤ i ∧ x = .int .i64 j ∧ (∀ j', j' < j → badE rs i j' = false) ∧ Below w3.heap.size w3 wq) (fun x _ _ => i - (intOf x).toNat)
          case atStart => exact ⟨0, Nat.zero_le _, rfl, fun j h => absurd h (by omega), hbr⟩
          case round =>
            obtain ⟨j, hj, rfl, hall, hbq⟩ := hrel
            have HB : Hid (∀ j', j' < j → badE rs i j' = false) := hall
            clear hall hbr
            by_cases hjl : j < i
            · obtain ⟨b, of, rfl, K, hcell⟩ := hE
              obtain ⟨c1, c2, c3', c4, c5, c6, c7⟩ := hcell i hlt
              obtain ⟨d1, d2, d3, d4, d5, d6, d7⟩ := hcell j (by omega)
              have T5 : Hid (badE rs i j = true → chkR rs = 5) := fun h => chk5 HF.out HT.out ⟨i, j, hjl, hlt, h⟩
              have hj0 : (0 : Int) ≤ (j : Int) := by omega
              have hji : (j : Int) < (i : Int) := by omega
              have hjn : (j : Int) < ((verts rs).length : Int) := by omega
              have HB' : Hid (∀ j', j' < j + 1 → j' < j ∨ j' = j) := fun j' h => by omega
              have BE : badE rs i j = badB (ed rs i).1 (ed rs i).2 (pt (verts rs) (ed rs i).1).1 (pt (verts rs) (ed rs i).1).2 (pt (verts rs) (ed rs i).2).1 (pt (verts rs) (ed rs i).2).2 (ed rs j).1 (ed rs j).2 (pt (verts rs) (ed rs j).1).1 (pt (verts rs) (ed rs j).1).2 (pt (verts rs) (ed rs j).2).1 (pt (verts rs) (ed rs j).2).2 := rfl
              clear hcell
              generalize (((ed rs i).1 : Nat) : Int) = eA at *
              generalize (((ed rs i).2 : Nat) : Int) = eB at *
              generalize (((ed rs j).1 : Nat) : Int) = fA at *
              generalize (((ed rs j).2 : Nat) : Int) = fB at *
              generalize (pt (verts rs) (ed rs i).1).1 = ePx at *
              generalize (pt (verts rs) (ed rs i).1).2 = ePy at *
              generalize (pt (verts rs) (ed rs i).2).1 = eQx at *
              generalize (pt (verts rs) (ed rs i).2).2 = eQy at *
              generalize (pt (verts rs) (ed rs j).1).1 = fPx at *
              generalize (pt (verts rs) (ed rs j).1).2 = fPy at *
              generalize (pt (verts rs) (ed rs j).2).1 = fQx at *
              generalize (pt (verts rs) (ed rs j).2).2 = fQy at *
              generalize K i = Ki at *
              generalize K j = Kj at *
              have BE' : Hid (badE rs i j = badB eA eB ePx ePy eQx eQy fA fB fPx fPy fQx fQy) := BE
              clear BE
              go_wp2_with fail
              refine wp_region_cls (R := Below wr.heap.size wr) (by kernel_rfl) (by kernel_rfl) (Below.refl _ _).drew ?_
              have inst : Nonempty (Cls (Below wr.heap.size wr)) := ⟨⟨wr, Below.refl _ _⟩⟩
              have g1 := fun x => Cls.cell (W := wr) x (cell_later hbq c1)
              have g2 := fun x => Cls.cell (W := wr) x (cell_later hbq c2)
              have g3 := fun x => Cls.cell (W := wr) x (cell_later hbq c3')
              have g4 := fun x => Cls.cell (W := wr) x (cell_later hbq c4)
              have g5 := fun x => Cls.cell (W := wr) x (cell_later hbq c5)
              have g6 := fun x => Cls.cell (W := wr) x (cell_later hbq c6)
              have g7 := fun x => Cls.cell (W := wr) x (cell_later hbq c7)
              have k1 := fun x => Cls.cell (W := wr) x (cell_later hbq d1)
              have k2 := fun x => Cls.cell (W := wr) x (cell_later hbq d2)
              have k3 := fun x => Cls.cell (W := wr) x (cell_later hbq d3)
              have k4 := fun x => Cls.cell (W := wr) x (cell_later hbq d4)
              have k5 := fun x => Cls.cell (W := wr) x (cell_later hbq d5)
              have k6 := fun x => Cls.cell (W := wr) x (cell_later hbq d6)
              have k7 := fun x => Cls.cell (W := wr) x (cell_later hbq d7)
              repeat (first | go_big_quiet_step ((first | (go_at_call 54; exact Cls.calls _ (bad_any _ _ _ _ _ _ _ _ _ _ _ _ _ _ _)))) | quiet_step ((first | (go_at_call 54; exact Cls.calls _ (bad_any _ _ _ _ _ _ _ _ _ _ _ _ _ _ _)))))
              refine wpQuiet_nil ?_
              intro w4 hw'
              obtain ⟨x, hx⟩ := hw'
              have hb4 := x.ok
              rw [← hx] at hb4
              clear hx x g1 g2 g3 g4 g5 g6 g7 k1 k2 k3 k4 k5 k6 k7 inst c1 c2 c3' c4 c5 c6 c7 d1 d2 d3 d4 d5 d6 d7
              have hb5 := below_then hbq hb4
              cases hbad : badB eA eB ePx ePy eQx eQy fA fB fPx fPy fQx fQy
              · have HN : Hid (badE rs i j = false) := BE'.out.trans hbad
                go_wp2
                go_roundw
                case rel =>
                  refine ⟨j + 1, by omega, by go_num, fun j' hj' => ?_, hb5⟩
                  rcases HB'.out j' hj' with h | h
                  · exact HB.out j' h
                  · rw [h]; exact HN.out
                case measure => simp [intOf]; omega
              · have HR : Hid (chkR rs = 5) := T5.out (BE'.out.trans hbad)
                go_wp2
                go_ret
                exact ⟨ret2 HR.out, below_then hb3 hb5⟩
            · have : j = i := by omega
              subst this
              go_wp2
              go_roundw
              case rel =>
                refine ⟨j + 1, by omega, by go_num, fun i' j' h1 h2 => ?_, hbq⟩
                rcases Nat.lt_or_ge i' j with h | h
                · exact HA.out i' j' h1 h
                · rw [show i' = j by omega]; exact HB.out j' (by omega)
              case measure => simp [intOf]; omega
        · have : i = (verts rs).length := by omega
          subst this
          have HU : Hid (¬ TouchR rs) := touch_no fun i j h1 h2 => HA.out i j h1 h2
          clear HA
          go_wp2
          go_loopw [11, 12] (fun x _ wr => ∃ k : Nat, 1 ≤ k ∧ k ≤ rs.length ∧ x = .int .i64 k ∧ (∀ k', 1 ≤ k' → k' < k → withinR (pt (rg rs k') 0) (rg rs 0) = true) ∧ Below w3.heap.size w3 wr) (fun x _ _ => rs.length - (intOf x).toNat)
          case atStart => exact ⟨1, Nat.le_refl _, f1, rfl, fun k h h' => absurd h' (by omega), hbr⟩
          case round =>
            clear hbr
            obtain ⟨k, hk1, hk, rfl, hall, hbr⟩ := hrel
            have HA : Hid (∀ k', 1 ≤ k' → k' < k → withinR (pt (rg rs k') 0) (rg rs 0) = true) := hall
            clear hall
            by_cases hlt : k < rs.length
            · have hp5 := Rings.later hbr hp4
              rcases hp5 with h0 | ⟨b, of, rfl, hcell⟩
              · omega
              obtain ⟨hck, hpk⟩ := hcell k hlt
              obtain ⟨hc0, hp0⟩ := hcell 0 (by omega)
              have l0 := H3.out 0 (by omega)
              have lk := H3.out k hlt
              have m0 : (rg rs 0).length ≤ maxLen := by have := rg_le rs 0; unfold maxLen; omega
              obtain ⟨bk, ok, hA, hps⟩ : ∃ bk ok, A k = some ⟨bk, ok, none⟩ ∧ ∀ i, i < (rg rs k).length → wr.cell? ⟨bk, ok + i * 2, none⟩ = some (.int .i64 (pt (rg rs k) i).1) ∧ wr.cell? ⟨bk, ok + i * 2 + 1, none⟩ = some (.int .i64 (pt (rg rs k) i).2) := by
                rcases hpk with h | ⟨bk, ok, e, hh⟩
                · have h' : (rg rs k).length = 0 := h
                  omega
                · exact ⟨bk, ok, e, hh⟩
              have q1 := (hps 0 (by omega)).1
              have q2 := (hps 0 (by omega)).2
              rw [Nat.zero_mul, Nat.add_zero] at q1 q2
              have q0 : wr.cell? ⟨b, of, none⟩ = some (.slice (A 0) (rg rs 0).length (C 0)) := hc0
              rw [hA] at hck
              have T6 : Hid (withinR (pt (rg rs k) 0) (rg rs 0) = false → chkR rs = 6) := fun h => chk6 HF.out HT.out HU.out ⟨k, hk1, hlt, h⟩
              have WE : Hid (withinR (pt (rg rs k) 0) (rg rs 0) = (turns (wrap64 (4 * (pt (rg rs k) 0).1)) (wrap64 (4 * (pt (rg rs k) 0).2)) (rg rs 0).length (pt (rg rs 0)) (rg rs 0).length != 0)) := rfl
              have HB' : Hid (∀ k', 1 ≤ k' → k' < k + 1 → k' < k ∨ k' = k) := fun k' _ h => by omega
              clear hcell hps hpk hc0
              generalize (pt (rg rs k) 0).1 = px at *
              generalize (pt (rg rs k) 0).2 = py at *
              have hk0 : (0 : Int) ≤ (k : Int) := by omega
              have hkn : (k : Int) < (rs.length : Int) := by omega
              have hn0 : (0 : Int) < (rs.length : Int) := by omega
              have hl0 : (0 : Int) < ((rg rs k).length : Int) := by omega
              go_wp2_with fail
              refine wp_region_cls (R := Below wr.heap.size wr) (by kernel_rfl) (by kernel_rfl) (Below.refl _ _).drew ?_
              have inst : Nonempty (Cls (Below wr.heap.size wr)) := ⟨⟨wr, Below.refl _ _⟩⟩
              have g1 := fun x => Cls.cell (W := wr) x hck
              have g2 := fun x => Cls.cell (W := wr) x q0
              have g3 := fun x => Cls.cell (W := wr) x q1
              have g4 := fun x => Cls.cell (W := wr) x q2
              repeat (first | go_big_quiet_step ((first | (go_at_call 56; exact Cls.calls _ (four_any _ _ _)) | (go_at_call 55; exact Cls.calls _ (within_any _ _ _ _ _ _ _ m0 (Pts.later (Cls.ok _) hp0))))) | quiet_step ((first | (go_at_call 56; exact Cls.calls _ (four_any _ _ _)) | (go_at_call 55; exact Cls.calls _ (within_any _ _ _ _ _ _ _ m0 (Pts.later (Cls.ok _) hp0))))))
              refine wpQuiet_nil ?_
              intro w4 hw'
              obtain ⟨x, hx⟩ := hw'
              have hb4 := x.ok
              rw [← hx] at hb4
              clear hx x g1 g2 g3 g4 inst hck q0 q1 q2 hp0
              have hb5 := below_then hbr hb4
              cases hw : (turns (wrap64 (4 * px)) (wrap64 (4 * py)) (rg rs 0).length (pt (rg rs 0)) (rg rs 0).length != 0)
              · have HR : Hid (chkR rs = 6) := T6.out (WE.out.trans hw)
                go_wp2
                go_ret
                exact ⟨ret2 HR.out, below_then hb3 hb5⟩
              · have HN : Hid (withinR (pt (rg rs k) 0) (rg rs 0) = true) := WE.out.trans hw
                go_wp2
                go_roundw
                case rel =>
                  refine ⟨k + 1, by omega, by omega, by go_num, fun k' h1 h2 => ?_, hb5⟩
                  rcases HB'.out k' h1 h2 with h | h
                  · exact HA.out k' h1 h
                  · rw [h]; exact HN.out
                case measure => simp [intOf]; omega
            · have : k = rs.length := by omega
              subst this
              have HO : Hid (¬ OutR rs) := by
                rintro ⟨k, h1, h2, h3⟩
                rw [HA.out k h1 h2] at h3; cases h3
              clear HA
              go_wp2
              go_loopw [13, 14, 15] (fun x _ _ wr => ∃ k : Nat, 1 ≤ k ∧ k ≤ rs.length ∧ x = .int .i64 k ∧ (∀ k' j, 1 ≤ k' → k' < k → 1 ≤ j → j < rs.length → j ≠ k' → withinR (pt (rg rs k') 0) (rg rs j) = false) ∧ Below w3.heap.size w3 wr) (fun x _ _ _ => rs.length - (intOf x).toNat)
              case atStart => exact ⟨1, Nat.le_refl _, f1, rfl, fun k j h h' => absurd h' (by omega), hbr⟩
              case round =>
                clear hbr
                obtain ⟨k, hk1, hk, rfl, hall, hbr⟩ := hrel
                have HA : Hid (∀ k' j, 1 ≤ k' → k' < k → 1 ≤ j → j < rs.length → j ≠ k' → withinR (pt (rg rs k') 0) (rg rs j) = false) := hall
                clear hall
                by_cases hlt : k < rs.length
                · have hk0 : (0 : Int) ≤ (k : Int) := by omega
                  have hkn : (k : Int) < (rs.length : Int) := by omega
                  go_wp2
                  go_loopw [14, 15] (fun x _ wq => ∃ j : Nat, 1 ≤ j ∧ j ≤ rs.length ∧ x = .int .i64 j ∧ (∀ j', 1 ≤ j' → j' < j → j' ≠ k → withinR (pt (rg rs k) 0) (rg rs j') = false) ∧ Below w3.heap.size w3 wq) (fun x _ _ => rs.length - (intOf x).toNat)
                  case atStart => exact ⟨1, Nat.le_refl _, f1, rfl, fun j h h' => absurd h' (by omega), hbr⟩
                  case round =>
                    clear hbr
                    obtain ⟨j, hj1, hj, rfl, hall, hbq⟩ := hrel
                    have HB : Hid (∀ j', 1 ≤ j' → j' < j → j' ≠ k → withinR (pt (rg rs k) 0) (rg rs j') = false) := hall
                    clear hall
                    by_cases hjl : j < rs.length
                    · have HB' : Hid (∀ j', 1 ≤ j' → j' < j + 1 → j' < j ∨ j' = j) := fun j' _ h => by omega
                      by_cases hjk : j = k
                      · have HJ : Hid (j = k) := hjk
                        subst hjk
                        go_wp2_with fail
                        refine wp_region_cls (R := Below wr.heap.size wr) (by kernel_rfl) (by kernel_rfl) (Below.refl _ _).drew ?_
                        have inst : Nonempty (Cls (Below wr.heap.size wr)) := ⟨⟨wr, Below.refl _ _⟩⟩
                        repeat (first | go_big_quiet_step (fail) | quiet_step (fail))
                        refine wpQuiet_nil ?_
                        intro w4 hw'
                        obtain ⟨x, hx⟩ := hw'
                        have hb4 := x.ok
                        rw [← hx] at hb4
                        clear hx x inst
                        have hb5 := below_then hbq hb4
                        go_wp2
                        go_roundw
                        case rel =>
                          refine ⟨j + 1, by omega, by omega, by go_num, fun j' h1 h2 h3 => ?_, hb5⟩
                          rcases HB'.out j' h1 h2 with h | h
                          · exact HB.out j' h1 h h3
                          · exact absurd h h3
                        case measure => simp [intOf]; omega
                      · have hp5 := Rings.later hbq hp4
                        rcases hp5 with h0 | ⟨b, of, rfl, hcell⟩
                        · omega
                        obtain ⟨hck, hpk⟩ := hcell k hlt
                        replace hck : wr.cell? ⟨b, of + k, none⟩ = some (.slice (A k) (rg rs k).length (C k)) := hck
                        obtain ⟨hcj, hpj⟩ := hcell j hjl
                        have lk := H3.out k hlt
                        have mj : (rg rs j).length ≤ maxLen := by have := rg_le rs j; unfold maxLen; omega
                        obtain ⟨bk, ok, hA, hps⟩ : ∃ bk ok, A k = some ⟨bk, ok, none⟩ ∧ ∀ i, i < (rg rs k).length → wr.cell? ⟨bk, ok + i * 2, none⟩ = some (.int .i64 (pt (rg rs k) i).1) ∧ wr.cell? ⟨bk, ok + i * 2 + 1, none⟩ = some (.int .i64 (pt (rg rs k) i).2) := by
                          rcases hpk with h | ⟨bk, ok, e, hh⟩
                          · have h' : (rg rs k).length = 0 := h
                            omega
                          · exact ⟨bk, ok, e, hh⟩
                        have q1 := (hps 0 (by omega)).1
                        have q2 := (hps 0 (by omega)).2
                        rw [Nat.zero_mul, Nat.add_zero] at q1 q2
                        rw [hA] at hck
                        have T7 : Hid (withinR (pt (rg rs k) 0) (rg rs j) = true → chkR rs = 7) := fun h => chk7 HF.out HT.out HU.out HO.out ⟨k, j, hk1, hlt, hj1, hjl, hjk, h⟩
                        have WE : Hid (withinR (pt (rg rs k) 0) (rg rs j) = (turns (wrap64 (4 * (pt (rg rs k) 0).1)) (wrap64 (4 * (pt (rg rs k) 0).2)) (rg rs j).length (pt (rg rs j)) (rg rs j).length != 0)) := rfl
                        clear hcell hps hpk
                        generalize (pt (rg rs k) 0).1 = px at *
                        generalize (pt (rg rs k) 0).2 = py at *
                        have hj0 : (0 : Int) ≤ (j : Int) := by omega
                        have hjn : (j : Int) < (rs.length : Int) := by omega
                        generalize (rg rs k).length = lenk at *
                        have hl0 : (0 : Int) < (lenk : Int) := by omega
                        have hl1 : ¬ lenk = 0 := by omega
                        have hl2 : 0 < lenk := by omega
                        have hne : ((j : Int) == (k : Int)) = false := by rw [beq_eq_false_iff_ne]; omega
                        have hne' : (decide ((j : Int) = (k : Int))) = false := decide_eq_false (by omega)
                        have hne2 : ¬ (j : Int) = (k : Int) := by omega
                        have hne3 : ((j : Int) != (k : Int)) = true := by rw [bne_iff_ne]; omega
                        go_wp2_with fail
                        refine wp_region_cls (R := Below wr.heap.size wr) (by kernel_rfl) (by kernel_rfl) (Below.refl _ _).drew ?_
                        have inst : Nonempty (Cls (Below wr.heap.size wr)) := ⟨⟨wr, Below.refl _ _⟩⟩
                        have g1 := fun x => Cls.cell (W := wr) x hck
                        have g2 := fun x => Cls.cell (W := wr) x hcj
                        have g3 := fun x => Cls.cell (W := wr) x q1
                        have g4 := fun x => Cls.cell (W := wr) x q2
                        repeat (first | go_big_quiet_step ((first | (go_at_call 56; exact Cls.calls _ (four_any _ _ _)) | (go_at_call 55; exact Cls.calls _ (within_any _ _ _ _ _ _ _ mj (Pts.later (Cls.ok _) hpj))))) | quiet_step ((first | (go_at_call 56; exact Cls.calls _ (four_any _ _ _)) | (go_at_call 55; exact Cls.calls _ (within_any _ _ _ _ _ _ _ mj (Pts.later (Cls.ok _) hpj))))))
                        refine wpQuiet_nil ?_
                        intro w4 hw'
                        obtain ⟨x, hx⟩ := hw'
                        have hb4 := x.ok
                        rw [← hx] at hb4
                        clear hx x g1 g2 g3 g4 inst hck hcj q1 q2 hpj
                        have hb5 := below_then hbq hb4
                        cases hw : (turns (wrap64 (4 * px)) (wrap64 (4 * py)) (rg rs j).length (pt (rg rs j)) (rg rs j).length != 0)
                        · have HN : Hid (withinR (pt (rg rs k) 0) (rg rs j) = false) := WE.out.trans hw
                          go_wp2
                          go_roundw
                          case rel =>
                            refine ⟨j + 1, by omega, by omega, by go_num, fun j' h1 h2 h3 => ?_, hb5⟩
                            rcases HB'.out j' h1 h2 with h | h
                            · exact HB.out j' h1 h h3
                            · rw [h]; exact HN.out
                          case measure => simp [intOf]; omega
                        · have HR : Hid (chkR rs = 7) := T7.out (WE.out.trans hw)
                          go_wp2
                          go_ret
                          exact ⟨ret2 HR.out, below_then hb3 hb5⟩
                    · have : j = rs.length := by omega
                      subst this
                      go_wp2
                      go_roundw
                      case rel =>
                        refine ⟨k + 1, by omega, by omega, by go_num, fun k' j' h1 h2 h3 h4 h5 => ?_, hbq⟩
                        rcases Nat.lt_or_ge k' k with h | h
                        · exact HA.out k' j' h1 h h3 h4 h5
                        · have e : k' = k := by omega
                          subst e
                          exact HB.out j' h3 h4 h5
                      case measure => simp [intOf]; omega
                · have : k = rs.length := by omega
                  subst this
                  have HR : Hid (chkR rs = 0) := chk0 HF.out HT.out HU.out HO.out (by
                    rintro ⟨k, j, h1, h2, h3, h4, h5, h6⟩
                    rw [HA.out k j h1 h2 h3 h4 h5] at h6; cases h6)
                  clear HA
                  go_wp2
                  go_ret
                  exact ⟨ret2 HR.out, below_then hb3 hbr⟩
end Go.Proofs.Ytdkaoopkbhaheaa
