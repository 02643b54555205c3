import Derived.Test.YtdkaoopkbhaheaaPN29
import Derived.Test.YtdkaoopkbhaheaaQN27
import Derived.Test.YtdkaoopkbhaheaaQN24
namespace Go.Proofs.Ytdkaoopkbhaheaa
open Go.RowKit Go.Lib
open Jor
open scoped Classical
set_option linter.unusedVariables false
set_option linter.unusedSimpArgs false
set_option maxHeartbeats 1000000 in
set_option maxRecDepth 100000 in
set_option maxHeartbeats 8000000 in
theorem found_walk (a : Option Addr) (cap : Nat) (A : Nat → Option Addr) (C : Nat → Nat) (rs : List (List IP)) (w : World) (hcap : rs.length ≤ cap) (hcm : cap ≤ 9223372036854775807) (hn : rs.length ≤ 1048576) (hsz : (verts rs).length ≤ 1048576) (hp : RingsL w a A C rs) :
    Calls Try.prog 10 #[.slice a rs.length cap] w fun e w' => e = .returned (.bool true) ∧ Below w.heap.size w w' := by
  by_cases hz : chkP rs = 0
  · have G := good_of hz
    obtain ⟨b, of, rfl, _⟩ : ∃ b of, a = some ⟨b, of, none⟩ ∧ True := by
      rcases hp with h | ⟨b, of, rfl, _⟩
      · have := G.one; omega
      · exact ⟨b, of, rfl, trivial⟩
    have HP : Hid (RingsL w (some ⟨b, of, none⟩) A C rs) := hp
    have HG : Hid (Good rs) := G
    have hb64 := G.few; have hb0 := G.pos
    clear hp G
    go_enter Try.func10, Try.ntmps10
    go_wp2_with (first
      | (go_at_call 27; refine (lives_any _).mono ?_; rintro e w1 ⟨rfl, hb1⟩)
      | (go_at_call 28; refine (fnew_good _ _ _ _ _ _ _ hcap hcm hn hsz (Rings.later hb1 HP.out) hz).mono ?_; rintro e w4 ⟨bM, T, F, rfl, hM, hb4⟩; have hb14 := below_then hb1 hb4; have HM : Hid (MeshP w1.heap.size w4 rs bM T F) := hM; clear hM; have HMP : Hid (T.length = (verts rs).length + 2 * rs.length - 4 ∧ 0 < T.length ∧ (∀ t ∈ T, t.1 < (verts rs).length ∧ t.2.1 < (verts rs).length ∧ t.2.2 < (verts rs).length)) := ⟨(mesh_facts HG.out HM.out).1, (mesh_facts HG.out HM.out).2.1, (mesh_facts HG.out HM.out).2.2.2.1⟩; have hT : T.length ≤ 1048576 := (by have := HMP.out.1; have := HG.out.eight; omega))
      | (go_at_call 29; refine (kpoints_any _ _ _ _ _ _ hn (Rings.later hb14 HP.out) (fun k hk => Nat.lt_of_lt_of_le (by decide) (HG.out.three k hk)) hsz).mono ?_; rintro e w5 ⟨v, rfl, hv, hb5⟩; have hb15 := below_then hb14 hb5; obtain ⟨g, cg, rfl, hgl, hpt⟩ := points_of hb0 hv; have HPT : Hid (PtsAt w5 g 0 (verts rs).length (pt (verts rs))) := hpt; clear hv hpt)
      | (go_at_call 30; refine (ftri_any _ _ _ _ _ _ HMP.out.2.1 hT (HM.out.later hb5)).mono ?_; rintro e w6 ⟨bT, cT, rfl, hTl, ht, hb6⟩; have hb16 := below_then hb15 hb6; have HT : Hid (TriAt w6 bT T) := ht; clear ht)
      | (go_at_call 31; refine (kgood_any _ _ _ _ _ hT (by omega) HT.out HMP.out.2.2).mono ?_; rintro e w7 ⟨rfl, hb7⟩; have hb17 := below_then hb16 hb7))
    have HPT7 : Hid (PtsAt w7 g 0 (verts rs).length (pt (verts rs))) := PtsAt.later (below_then hb6 hb7) HPT.out
    have HT7 : Hid (TriAt w7 bT T) := TriAt.later hb7 HT.out
    have HM7 : Hid (MeshP w1.heap.size w7 rs bM T F) := HM.out.later (below_then hb5 (below_then hb6 hb7))
    have FF := found_facts HG.out HM.out
    have HF1 : Hid (∀ i, i < (verts rs).length → ∀ r, LocI (pt (verts rs)) T (pt (verts rs) i) r → ∃ k : Nat, k < T.length ∧ r = k ∧ ((T.getD k (0, 0, 0)).1 = i ∨ (T.getD k (0, 0, 0)).2.1 = i ∨ (T.getD k (0, 0, 0)).2.2 = i)) := FF.1
    have HF2 : Hid (∀ k, k < T.length → ∀ a b, Sd (T.getD k (0, 0, 0)) a b → ((∃ q, q < rs.length ∧ OwnK rs a b q) ∧ rgt (leftF T T.length) a b = -1) ∨ (¬ (∃ q, q < rs.length ∧ OwnK rs a b q) ∧ ∃ j : Nat, j < T.length ∧ rgt (leftF T T.length) a b = j ∧ (bs0 T j = k ∨ bs1 T j = k ∨ bs2 T j = k))) := FF.2
    clear FF
    have H64 : Hid (∀ t ∈ T, t.1 < 64 ∧ t.2.1 < 64 ∧ t.2.2 < 64) := fun t ht => by have := HMP.out.2.2 t ht; omega
    have HR7 : Hid (RingsL w7 (some ⟨b, of, none⟩) A C rs) := Rings.later hb17 HP.out
    clear hb1 hb4 hb14 hb5 hb15 hb6 hb16 hb7 HPT HT HM HP hgl hTl
    go_loopw [9, 10] (fun x _ wr => ∃ k : Nat, k ≤ (verts rs).length ∧ x = .int .i64 k ∧ Below w7.heap.size w7 wr) (fun x _ _ => (verts rs).length - (intOf x).toNat)
    case atStart => exact ⟨0, Nat.zero_le _, rfl, Below.refl _ _⟩
    case round =>
      obtain ⟨k, hk, rfl, hbr⟩ := hrel
      by_cases hlt : k < (verts rs).length
      · have pk := PtsAt.later hbr HPT7.out k hlt
        simp only [Nat.zero_add] at pk
        obtain ⟨x0, y0⟩ := pk
        have k0 : (0 : Int) ≤ (k : Int) := by omega
        have kn : (k : Int) < ((verts rs).length : Int) := by omega
        go_wp2_with fail
        refine (flocate_any _ _ _ _ _ _ _ _ hb64 HMP.out.2.1 hT HMP.out.2.2 (HM7.out.later hbr)).mono ?_
        rintro e w8 ⟨r, rfl, hr, hb8⟩
        obtain ⟨q, hq, rfl, hc⟩ := HF1.out k hlt r hr
        have hb78 := below_then hbr hb8
        obtain ⟨r0, r1, r2⟩ := TriAt.later hb78 HT7.out q hq
        have q0 : ¬ (q : Int) < 0 := by omega
        have q0' : (0 : Int) ≤ (q : Int) := by omega
        have qn : ¬ (T.length : Int) ≤ (q : Int) := by omega
        have qn' : (q : Int) < (T.length : Int) := by omega
        clear hr x0 y0 hbr hb8
        generalize (T.getD q (0, 0, 0)).1 = p0 at *
        generalize (T.getD q (0, 0, 0)).2.1 = p1 at *
        generalize (T.getD q (0, 0, 0)).2.2 = p2 at *
        rcases (show p0 = k ∨ (p0 ≠ k ∧ p1 = k) ∨ (p0 ≠ k ∧ p1 ≠ k ∧ p2 = k) by omega) with h | ⟨h, h'⟩ | ⟨h, h', h''⟩
        · have e0 : ((p0 : Int) != (k : Int)) = false := bne_false (by omega)
          clear hc h
          go_wp2
          go_roundw
          case rel => exact ⟨k + 1, by omega, by go_num, hb78⟩
          case measure => simp [intOf]; omega
        · have e0 : ((p0 : Int) != (k : Int)) = true := bne_true (by omega)
          have e1 : ((p1 : Int) != (k : Int)) = false := bne_false (by omega)
          clear hc h h'
          go_wp2
          go_roundw
          case rel => exact ⟨k + 1, by omega, by go_num, hb78⟩
          case measure => simp [intOf]; omega
        · have e0 : ((p0 : Int) != (k : Int)) = true := bne_true (by omega)
          have e1 : ((p1 : Int) != (k : Int)) = true := bne_true (by omega)
          have e2 : ((p2 : Int) != (k : Int)) = false := bne_false (by omega)
          clear hc h h' h''
          go_wp2
          go_roundw
          case rel => exact ⟨k + 1, by omega, by go_num, hb78⟩
          case measure => simp [intOf]; omega
      · have : k = (verts rs).length := by omega
        subst this
        go_wp2
        go_loopw [11, 12, 13, 14, 15, 16, 17] (fun x _ _ _ _ _ _ wr' => ∃ k : Nat, k ≤ T.length ∧ x = .int .i64 k ∧ Below w7.heap.size w7 wr') (fun x _ _ _ _ _ _ _ => T.length - (intOf x).toNat)
        case atStart => exact ⟨0, Nat.zero_le _, rfl, hbr⟩
        case round =>
          rename_i wr0
          clear hbr
          obtain ⟨k, hk, rfl, hbr⟩ := hrel
          by_cases hlt : k < T.length
          · go_wp2_with fail
            refine (fbeside2 _ _ _ _ _ k _ hT hlt H64.out (HM7.out.later hbr)).mono ?_
            rintro e w8 ⟨rfl, hb8⟩
            have hb78 := below_then hbr hb8
            have hb9 : Below w8.heap.size w8 (w8.alloc (.cells #[.int .i64 (bs0 T k), .int .i64 (bs1 T k), .int .i64 (bs2 T k)] 57)) := (Below.refl _ _).alloc (Nat.le_refl _) _
            have hb79 := below_then hb78 hb9
            have HS : Hid (∀ a b, Sd (T.getD k (0, 0, 0)) a b → ((∃ q, q < rs.length ∧ OwnK rs a b q) ∧ rgt (leftF T T.length) a b = -1) ∨ (¬ (∃ q, q < rs.length ∧ OwnK rs a b q) ∧ ∃ j : Nat, j < T.length ∧ rgt (leftF T T.length) a b = j ∧ (bs0 T j = k ∨ bs1 T j = k ∨ bs2 T j = k))) := HF2.out k hlt
            obtain ⟨l0, l1, l2⟩ := HMP.out.2.2 _ (t3_at hlt)
            have HTk := TriAt.later hb79 HT7.out k hlt
            have BC : Hid ((w8.alloc (.cells #[.int .i64 (bs0 T k), .int .i64 (bs1 T k), .int .i64 (bs2 T k)] 57)).cell? ⟨w8.heap.size, 0, none⟩ = some (.int .i64 (bs0 T k)) ∧ (w8.alloc (.cells #[.int .i64 (bs0 T k), .int .i64 (bs1 T k), .int .i64 (bs2 T k)] 57)).cell? ⟨w8.heap.size, 1, none⟩ = some (.int .i64 (bs1 T k)) ∧ (w8.alloc (.cells #[.int .i64 (bs0 T k), .int .i64 (bs1 T k), .int .i64 (bs2 T k)] 57)).cell? ⟨w8.heap.size, 2, none⟩ = some (.int .i64 (bs2 T k))) := by
              refine ⟨?_, ?_, ?_⟩ <;> simp [go_sem]
            have HTK : Hid ((w8.alloc (.cells #[.int .i64 (bs0 T k), .int .i64 (bs1 T k), .int .i64 (bs2 T k)] 57)).cell? ⟨bT, k * 3, none⟩ = some (.int .i64 ((T.getD k (0, 0, 0)).1 : Int)) ∧ (w8.alloc (.cells #[.int .i64 (bs0 T k), .int .i64 (bs1 T k), .int .i64 (bs2 T k)] 57)).cell? ⟨bT, k * 3 + 1, none⟩ = some (.int .i64 ((T.getD k (0, 0, 0)).2.1 : Int)) ∧ (w8.alloc (.cells #[.int .i64 (bs0 T k), .int .i64 (bs1 T k), .int .i64 (bs2 T k)] 57)).cell? ⟨bT, k * 3 + 2, none⟩ = some (.int .i64 ((T.getD k (0, 0, 0)).2.2 : Int))) := HTk
            clear HTk hb9
            go_wp2
            generalize (w8.alloc (.cells #[.int .i64 (bs0 T k), .int .i64 (bs1 T k), .int .i64 (bs2 T k)] 57)) = w9 at *
            have k0 : (0 : Int) ≤ (k : Int) := by omega
            have kn : (k : Int) < (T.length : Int) := by omega
            go_loopw [14, 15, 16, 17] (fun y _ _ _ wq => ∃ m : Nat, m ≤ 3 ∧ y = .int .i64 m ∧ Below w9.heap.size w9 wq) (fun y _ _ _ _ => 3 - (intOf y).toNat)
            case atStart => exact ⟨0, by omega, rfl, Below.refl _ _⟩
            case round =>
              clear hbr
              rename_i wrx
              obtain ⟨m, hm, rfl, hbr9⟩ := hrel
              by_cases hm3 : m < 3
              · obtain ⟨pa, pb, vb, la, lb, ta', tb', hsd, hvb, cb⟩ : ∃ pa pb : Nat, ∃ vb : Int, pa < (verts rs).length ∧ pb < (verts rs).length ∧ w9.cell? ⟨bT, k * 3 + m, none⟩ = some (.int .i64 (pa : Int)) ∧ w9.cell? ⟨bT, k * 3 + (m + 1) % 3, none⟩ = some (.int .i64 (pb : Int)) ∧ Sd (T.getD k (0, 0, 0)) pa pb ∧ vb = rgt (leftF T T.length) pa pb ∧ w9.cell? ⟨w8.heap.size, m, none⟩ = some (.int .i64 vb) := by
                  rcases (show m = 0 ∨ m = 1 ∨ m = 2 by omega) with rfl | rfl | rfl
                  · exact ⟨_, _, _, l0, l1, HTK.out.1, HTK.out.2.1, .inl ⟨rfl, rfl⟩, rfl, BC.out.1⟩
                  · exact ⟨_, _, _, l1, l2, HTK.out.2.1, HTK.out.2.2, .inr (.inl ⟨rfl, rfl⟩), rfl, BC.out.2.1⟩
                  · exact ⟨_, _, _, l2, l0, HTK.out.2.2, HTK.out.1, .inr (.inr ⟨rfl, rfl⟩), rfl, BC.out.2.2⟩
                have key0 := HS.out pa pb hsd
                rw [← hvb] at key0
                have key : Hid (((∃ q, q < rs.length ∧ OwnK rs pa pb q) ∧ vb = -1) ∨ (¬ (∃ q, q < rs.length ∧ OwnK rs pa pb q) ∧ ∃ j : Nat, j < T.length ∧ vb = j ∧ (bs0 T j = k ∨ bs1 T j = k ∨ bs2 T j = k))) := key0
                have CB : Hid (w9.cell? ⟨w8.heap.size, m, none⟩ = some (.int .i64 vb)) := cb
                have ta := cell_later hbr9 ta'
                have tb := cell_later hbr9 tb'
                have HRq : Hid (RingsL wr.drew (some ⟨b, of, none⟩) A C rs) := Rings.later (below_then hb79 hbr9.drew) HR7.out
                have hj3 : (m + 1) % 3 < 3 := Nat.mod_lt _ (by omega)
                have hmod : ((m : Int) + 1).tmod 3 = (((m + 1) % 3 : Nat) : Int) := by
                  rw [Int.tmod_eq_emod_of_nonneg (by omega), Int.natCast_emod]; rfl
                have hw1 : IntKind.i64.wrap ((m : Int) + 1) = (m : Int) + 1 := by rw [wrap_i64]; exact wrap64_in _ (by omega) (by omega)
                generalize (m + 1) % 3 = j1 at *
                have m0 : (0 : Int) ≤ (m : Int) := by omega
                have mn : (m : Int) < 3 := by omega
                have j10 : (0 : Int) ≤ (j1 : Int) := by omega
                have j1n : (j1 : Int) < 3 := by omega
                clear ta' tb' cb key0 hvb hsd
                go_wp2
                go_region_held3 (fun w' => (Below wr.heap.size wr w' ∧ wr.heap.size ≤ wr.heap.size) ∧ RingsL w' (some ⟨b, of, none⟩) A C rs ∧ w'.cell? ⟨bT, k * 3 + m, none⟩ = some (.int .i64 (pa : Int)) ∧ w'.cell? ⟨bT, k * 3 + j1, none⟩ = some (.int .i64 (pb : Int)))
                  (first | (go_split_ands; exact ⟨⟨(Below.refl _ _).drew, Nat.le_refl _⟩, HRq.out, cell_later (Below.refl _ _).drew (by assumption), cell_later (Below.refl _ _).drew (by assumption)⟩) | (go_split_ands; exact ⟨keep_below (by assumption) ⟨by assumption, by assumption⟩, Rings.later (by assumption) (by assumption), cell_later (by assumption) (by assumption), cell_later (by assumption) (by assumption)⟩) | (go_split_ands; refine ⟨⟨?_, ?_⟩, ?_, ?_, ?_⟩ <;> assumption))
                  (first | (go_at_call 39; refine Calls.mono (kown_any _ _ A C rs pa pb _ hn hsz la lb (by go_split_ands; first | assumption | exact HRq.out)) ?_; rintro e w10 ⟨r, rfl, hr, hb10⟩))
                go_split_ands
                have hbz : Below wr.heap.size wr w10 := by assumption
                have hb910 := below_then hbr9 hbz
                have c0 := cell_later hb910 CB.out
                rcases key.out with ⟨k1, k2⟩ | ⟨k1, j, hj, k2, k3⟩
                · have hr' := hr.2 k1
                  subst hr'
                  rw [k2] at c0
                  clear hr k1 k2
                  go_wp2
                  go_roundw
                  case rel => exact ⟨m + 1, by omega, by go_num, hb910⟩
                  case measure => simp [intOf]; omega
                · obtain rfl : r = false := by
                    cases r with
                    | false => rfl
                    | true => exact absurd (hr.1 rfl) k1
                  rw [k2] at c0
                  clear hr k1 k2
                  have j0 : ¬ (j : Int) < 0 := by omega
                  have jj1 : ((j : Int) == -1) = false := by rw [beq_eq_false_iff_ne]; omega
                  have j2 : ¬ (T.length : Int) ≤ (j : Int) := by omega
                  have j3 : ¬ (j : Int) < -1 := by omega
                  go_wp2_with fail
                  refine (fbeside2 _ _ _ _ _ j _ hT hj H64.out (HM7.out.later (below_then hb79 hb910))).mono ?_
                  rintro e w11 ⟨rfl, hb11⟩
                  have hb911 := below_then hb910 hb11
                  generalize bs0 T j = s0 at *
                  generalize bs1 T j = s1 at *
                  generalize bs2 T j = s2 at *
                  have hb12 : Below w11.heap.size w11 (w11.alloc (.cells #[.int .i64 s0, .int .i64 s1, .int .i64 s2] 57)) := (Below.refl _ _).alloc (Nat.le_refl _) _
                  have hb912 := below_then hb911 hb12
                  rcases (show s0 = (k : Int) ∨ (s0 ≠ (k : Int) ∧ s1 = (k : Int)) ∨ (s0 ≠ (k : Int) ∧ s1 ≠ (k : Int) ∧ s2 = (k : Int)) by omega) with h | ⟨h, h'⟩ | ⟨h, h', h''⟩
                  · have e0 : (s0 != (k : Int)) = false := bne_false h
                    clear k3 h hb12 c0
                    go_wp2
                    go_roundw
                    case rel => exact ⟨m + 1, by omega, by go_num, hb912⟩
                    case measure => simp [intOf]; omega
                  · have e0 : (s0 != (k : Int)) = true := bne_true h
                    have e1 : (s1 != (k : Int)) = false := bne_false h'
                    clear k3 h h' hb12 c0
                    go_wp2
                    go_roundw
                    case rel => exact ⟨m + 1, by omega, by go_num, hb912⟩
                    case measure => simp [intOf]; omega
                  · have e0 : (s0 != (k : Int)) = true := bne_true h
                    have e1 : (s1 != (k : Int)) = true := bne_true h'
                    have e2 : (s2 != (k : Int)) = false := bne_false h''
                    clear k3 h h' h'' hb12 c0
                    go_wp2
                    go_roundw
                    case rel => exact ⟨m + 1, by omega, by go_num, hb912⟩
                    case measure => simp [intOf]; omega
              · obtain rfl : m = 3 := by omega
                go_wp2
                go_roundw
                case rel => exact ⟨k + 1, by omega, by go_num, below_then hb79 hbr9⟩
                case measure => simp [intOf]; omega
          · have : k = T.length := by omega
            subst this
            go_wp2_with fail
            refine (flocate_any _ _ _ _ _ _ _ _ hb64 HMP.out.2.1 hT HMP.out.2.2 (HM7.out.later hbr)).mono ?_
            rintro e w8 ⟨r, rfl, hr, hb8⟩
            obtain rfl : r = -1 := by
              rcases hr with ⟨h, _⟩ | ⟨_, _, _, h, _⟩
              · exact h
              · exact absurd h (by decide)
            clear hr
            go_wp2
            go_ret
            exact ⟨by simp, below_then hb17 (below_then hbr hb8)⟩
  · have hz' : (chkP rs == 0) = false := by rw [beq_eq_false_iff_ne]; exact hz
    have hz2 : (chkP rs != 0) = true := by rw [bne, hz']; rfl
    go_enter Try.func10, Try.ntmps10
    go_wp2_with (first
      | (go_at_call 27; refine (lives_any _).mono ?_; rintro e w1 ⟨rfl, hb1⟩)
      | (go_at_call 28; refine (fnew_bad _ _ _ _ _ _ hcap hcm hn hsz (Rings.later hb1 hp) hz).mono ?_; rintro e w4 ⟨rfl, hb4⟩; have hb14 := below_then hb1 hb4))
    go_ret
    exact ⟨by simp, hb14⟩
end Go.Proofs.Ytdkaoopkbhaheaa
