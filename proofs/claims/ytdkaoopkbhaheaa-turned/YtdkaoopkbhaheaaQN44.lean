import Derived.Test.YtdkaoopkbhaheaaQN43
import Derived.Test.YtdkaoopkbhaheaaQN27
import Derived.Test.YtdkaoopkbhaheaaPN29
import Derived.Test.YtdkaoopkbhaheaaPN22
import Derived.Test.YtdkaoopkbhaheaaQFC
import Derived.Deep.DeepCutAuto
namespace Go.Proofs.Ytdkaoopkbhaheaa
open Go.RowKit Go.Lib
open Jor
open scoped Classical
set_option linter.unusedVariables false
set_option linter.unusedSimpArgs false
def SureP (rs : List (List IP)) (T : List T3) (w : World) (e : Ending) (w' : World) : Prop := (∃ s, e = .returned (.bool s) ∧ (s = true → ∀ i, i < T.length → ∀ a b, Sd (T.getD i (0, 0, 0)) a b → SideOK rs T i a b)) ∧ Below w.heap.size w w'
theorem SureP.no {rs : List (List IP)} {T : List T3} {w w' : World} (h : Below w.heap.size w w') : SureP rs T w (.returned (.bool false)) w' := ⟨⟨false, rfl, fun h => by cases h⟩, h⟩
theorem sd_cases {t : T3} {a b : Nat} (h : Sd t a b) : (a = t.1 ∧ b = t.2.1) ∨ (a = t.2.1 ∧ b = t.2.2) ∨ (a = t.2.2 ∧ b = t.1) := by
  rcases h with ⟨h1, h2⟩ | ⟨h1, h2⟩ | ⟨h1, h2⟩
  · exact .inl ⟨h1.symm, h2.symm⟩
  · exact .inr (.inl ⟨h1.symm, h2.symm⟩)
  · exact .inr (.inr ⟨h1.symm, h2.symm⟩)
set_option maxRecDepth 100000 in
set_option maxHeartbeats 4000000 in
theorem sure_any (B bM bT cT : Nat) (a : Option Addr) (cap : Nat) (A : Nat → Option Addr) (C : Nat → Nat) (rs : List (List IP)) (g cg : Nat) (T : List T3) (F : Nat → Nat → Option Int) (w : World) (G : Good rs) (hn : rs.length ≤ 1048576) (hM : MeshP B w rs bM T F) (hT3 : TriAt w bT T) (hp : RingsL w a A C rs) (hV : PtsAt w g 0 (verts rs).length (pt (verts rs))) :
    Calls Try.prog 35 #[.pointer (some ⟨bM, 0, none⟩), .slice (some ⟨bT, 0, none⟩) T.length cT, .slice a rs.length cap, .slice (some ⟨g, 0, none⟩) (verts rs).length cg] w fun e w' => SureP rs T w e w' := by
  have hsz : (verts rs).length ≤ 1048576 := by have := G.few; omega
  obtain ⟨f1, f2, _, f4, _⟩ := mesh_facts G hM
  have hT : T.length ≤ 1048576 := by have := G.few; have := G.eight; omega
  have H64 : Hid (∀ t ∈ T, t.1 < 64 ∧ t.2.1 < 64 ∧ t.2.2 < 64) := fun t ht => by have := f4 t ht; have := G.few; omega
  have F4 : Hid (∀ t ∈ T, t.1 < (verts rs).length ∧ t.2.1 < (verts rs).length ∧ t.2.2 < (verts rs).length) := f4
  have HM : Hid (MeshP B w rs bM T F) := hM
  have HT : Hid (TriAt w bT T) := hT3
  have HP : Hid (RingsL w a A C rs) := hp
  have HV : Hid (PtsAt w g 0 (verts rs).length (pt (verts rs))) := hV
  have HG : Hid (Good rs) := G
  clear f1 f2 f4 hM hT3 hp hV G
  go_enter Try.func35, Try.ntmps35
  go_wp2
  go_loopw [9, 10, 11, 12, 13, 14, 15] (fun i _ _ _ _ _ _ wr => ∃ k : Nat, k ≤ T.length ∧ i = .int .i64 k ∧ (∀ i, i < k → ∀ a b, Sd (T.getD i (0, 0, 0)) a b → SideOK rs T i a b) ∧ Below w.heap.size w wr) (fun i _ _ _ _ _ _ _ => T.length - (intOf i).toNat)
  case atStart => exact ⟨0, Nat.zero_le _, rfl, fun i hi => by omega, Below.refl _ _⟩
  case round =>
    obtain ⟨k, hk, rfl, hok, hb⟩ := hrel
    have HOK : Hid (∀ i, i < k → ∀ a b, Sd (T.getD i (0, 0, 0)) a b → SideOK rs T i a b) := hok
    clear hok
    have k0 : (0 : Int) ≤ (k : Int) := by omega
    by_cases hlt : k < T.length
    · have kn : (k : Int) < (T.length : Int) := by omega
      go_upto_region 5 with (first | (go_at_call 38; refine (fbeside2 _ _ _ _ _ k _ hT hlt H64.out (HM.out.later hb)).mono ?_; rintro e w8 ⟨rfl, hb8⟩))
      have hb78 := below_then hb hb8
      have hb9 : Below w8.heap.size w8 (w8.alloc (.cells #[.int .i64 (bs0 T k), .int .i64 (bs1 T k), .int .i64 (bs2 T k)] 57)) := (Below.refl _ _).alloc (Nat.le_refl _) _
      have hb79 := below_then hb78 hb9
      obtain ⟨l0, l1, l2⟩ := F4.out _ (t3_at hlt)
      have BC : Hid ((w8.alloc (.cells #[.int .i64 (bs0 T k), .int .i64 (bs1 T k), .int .i64 (bs2 T k)] 57)).cell? ⟨w8.heap.size, 0, none⟩ = some (.int .i64 (bs0 T k)) ∧ (w8.alloc (.cells #[.int .i64 (bs0 T k), .int .i64 (bs1 T k), .int .i64 (bs2 T k)] 57)).cell? ⟨w8.heap.size, 1, none⟩ = some (.int .i64 (bs1 T k)) ∧ (w8.alloc (.cells #[.int .i64 (bs0 T k), .int .i64 (bs1 T k), .int .i64 (bs2 T k)] 57)).cell? ⟨w8.heap.size, 2, none⟩ = some (.int .i64 (bs2 T k))) := by
        refine ⟨?_, ?_, ?_⟩ <;> simp [go_sem]
      have HT9 : Hid (TriAt (w8.alloc (.cells #[.int .i64 (bs0 T k), .int .i64 (bs1 T k), .int .i64 (bs2 T k)] 57)) bT T) := TriAt.later hb79 HT.out
      clear hb9 hb8 hb78
      generalize (w8.alloc (.cells #[.int .i64 (bs0 T k), .int .i64 (bs1 T k), .int .i64 (bs2 T k)] 57)) = w9 at *
      generalize w8.heap.size = nb at *
      go_wp2
      go_loopw [12, 13, 14, 15] (fun y _ _ _ wq => ∃ m : Nat, m ≤ 3 ∧ y = .int .i64 m ∧ ((0 < m → SideOK rs T k (T.getD k (0, 0, 0)).1 (T.getD k (0, 0, 0)).2.1) ∧ (1 < m → SideOK rs T k (T.getD k (0, 0, 0)).2.1 (T.getD k (0, 0, 0)).2.2) ∧ (2 < m → SideOK rs T k (T.getD k (0, 0, 0)).2.2 (T.getD k (0, 0, 0)).1)) ∧ Below w9.heap.size w9 wq) (fun y _ _ _ _ => 3 - (intOf y).toNat)
      case atStart => exact ⟨0, by omega, rfl, ⟨fun h => by omega, fun h => by omega, fun h => by omega⟩, Below.refl _ _⟩
      case round =>
        obtain ⟨m, hm, rfl, hso, hbr9⟩ := hrel
        have HSO : Hid ((0 < m → SideOK rs T k (T.getD k (0, 0, 0)).1 (T.getD k (0, 0, 0)).2.1) ∧ (1 < m → SideOK rs T k (T.getD k (0, 0, 0)).2.1 (T.getD k (0, 0, 0)).2.2) ∧ (2 < m → SideOK rs T k (T.getD k (0, 0, 0)).2.2 (T.getD k (0, 0, 0)).1)) := hso
        clear hso
        by_cases hm3 : m < 3
        · obtain ⟨pa, pb, vb, la, lb, ta', tb', hsd, hvb, cb, hput⟩ : ∃ pa pb : Nat, ∃ vb : Int, pa < (verts rs).length ∧ pb < (verts rs).length ∧ w9.cell? ⟨bT, k * 3 + m, none⟩ = some (.int .i64 (pa : Int)) ∧ w9.cell? ⟨bT, k * 3 + (m + 1) % 3, none⟩ = some (.int .i64 (pb : Int)) ∧ Sd (T.getD k (0, 0, 0)) pa pb ∧ vb = rgt (leftF T T.length) pa pb ∧ w9.cell? ⟨nb, m, none⟩ = some (.int .i64 vb) ∧ (SideOK rs T k pa pb → ((0 < m + 1 → SideOK rs T k (T.getD k (0, 0, 0)).1 (T.getD k (0, 0, 0)).2.1) ∧ (1 < m + 1 → SideOK rs T k (T.getD k (0, 0, 0)).2.1 (T.getD k (0, 0, 0)).2.2) ∧ (2 < m + 1 → SideOK rs T k (T.getD k (0, 0, 0)).2.2 (T.getD k (0, 0, 0)).1))) := by
            have HTK := HT9.out k hlt
            rcases (show m = 0 ∨ m = 1 ∨ m = 2 by omega) with rfl | rfl | rfl
            · exact ⟨_, _, _, l0, l1, HTK.1, HTK.2.1, .inl ⟨rfl, rfl⟩, rfl, BC.out.1, fun h => ⟨fun _ => h, fun h => by omega, fun h => by omega⟩⟩
            · exact ⟨_, _, _, l1, l2, HTK.2.1, HTK.2.2, .inr (.inl ⟨rfl, rfl⟩), rfl, BC.out.2.1, fun h => ⟨fun _ => HSO.out.1 (by omega), fun _ => h, fun h => by omega⟩⟩
            · exact ⟨_, _, _, l2, l0, HTK.2.2, HTK.1, .inr (.inr ⟨rfl, rfl⟩), rfl, BC.out.2.2, fun h => ⟨fun _ => HSO.out.1 (by omega), fun _ => HSO.out.2.1 (by omega), fun _ => h⟩⟩
          have HPUT : Hid (SideOK rs T k pa pb → ((0 < m + 1 → SideOK rs T k (T.getD k (0, 0, 0)).1 (T.getD k (0, 0, 0)).2.1) ∧ (1 < m + 1 → SideOK rs T k (T.getD k (0, 0, 0)).2.1 (T.getD k (0, 0, 0)).2.2) ∧ (2 < m + 1 → SideOK rs T k (T.getD k (0, 0, 0)).2.2 (T.getD k (0, 0, 0)).1))) := hput
          have HVB : Hid (vb = rgt (leftF T T.length) pa pb) := hvb
          have HOW : Hid ((∃ k, k < rs.length ∧ OwnK rs pa pb k) ↔ bnx rs pa = pb ∨ bnx rs pb = pa) := own_iff HG.out la lb
          have cv := cell_later hbr9 cb
          have ta := cell_later hbr9 ta'
          have tb := cell_later hbr9 tb'
          have HRq : Hid (RingsL wr.drew a A C rs) := Rings.later (below_then hb79 hbr9.drew) HP.out
          have hj3 : (m + 1) % 3 < 3 := Nat.mod_lt _ (by omega)
          have hmod : ((m : Int) + 1).tmod 3 = (((m + 1) % 3 : Nat) : Int) := by
            rw [Int.tmod_eq_emod_of_nonneg (by omega), Int.natCast_emod]; rfl
          have hw1 : IntKind.i64.wrap ((m : Int) + 1) = (m : Int) + 1 := by rw [wrap_i64]; exact wrap64_in _ (by omega) (by omega)
          generalize (m + 1) % 3 = j1 at *
          have m0 : (0 : Int) ≤ (m : Int) := by omega
          have mn : (m : Int) < 3 := by omega
          have j10 : (0 : Int) ≤ (j1 : Int) := by omega
          have j1n : (j1 : Int) < 3 := by omega
          clear ta' tb' cb hput hvb hsd
          go_upto_region 9 with fail
          go_region_held3 (fun w' => (Below wr.heap.size wr w' ∧ wr.heap.size ≤ wr.heap.size) ∧ RingsL w' a A C rs ∧ w'.cell? ⟨bT, k * 3 + m, none⟩ = some (.int .i64 (pa : Int)) ∧ w'.cell? ⟨bT, k * 3 + j1, none⟩ = some (.int .i64 (pb : Int)))
            (first | (go_split_ands; exact ⟨⟨(Below.refl _ _).drew, Nat.le_refl _⟩, HRq.out, cell_later (Below.refl _ _).drew (by assumption), cell_later (Below.refl _ _).drew (by assumption)⟩) | (go_split_ands; exact ⟨keep_below (by assumption) ⟨by assumption, by assumption⟩, Rings.later (by assumption) (by assumption), cell_later (by assumption) (by assumption), cell_later (by assumption) (by assumption)⟩) | (go_split_ands; refine ⟨⟨?_, ?_⟩, ?_, ?_, ?_⟩ <;> assumption))
            (first | (go_at_call 39; refine Calls.mono (kown_any _ _ A C rs pa pb _ hn hsz la lb (by go_split_ands; first | assumption | exact HRq.out)) ?_; rintro e w10 ⟨r, rfl, hr, hb10⟩))
          go_split_ands
          have hbz : Below wr.heap.size wr w10 := by assumption
          have hb910 := below_then hbr9 hbz
          have HRB : Hid (r = true ↔ bnx rs pa = pb ∨ bnx rs pb = pa) := hr.trans HOW.out
          have skip : Hid ((r = true ∨ vb < 0 ∨ (T.length : Int) ≤ vb) → SideOK rs T k pa pb) := fun h hnb n hn hl => by
            rcases h with h | h | h
            · exact absurd (HRB.out.1 h) hnb
            · have := HVB.out; omega
            · have := HVB.out; omega
          clear ta tb cv hr hb10 hmod hw1 hj3
          by_cases hskip : r = true ∨ vb < 0 ∨ (T.length : Int) ≤ vb
          · have HNX := HPUT.out (skip.out hskip)
            have HNX' : Hid ((0 < m + 1 → SideOK rs T k (T.getD k (0, 0, 0)).1 (T.getD k (0, 0, 0)).2.1) ∧ (1 < m + 1 → SideOK rs T k (T.getD k (0, 0, 0)).2.1 (T.getD k (0, 0, 0)).2.2) ∧ (2 < m + 1 → SideOK rs T k (T.getD k (0, 0, 0)).2.2 (T.getD k (0, 0, 0)).1)) := HNX
            clear HNX HPUT HSO HOK
            by_cases hr1 : r = true
            · subst hr1
              go_wp2
              go_roundw
              case rel => exact ⟨m + 1, by omega, by go_num, HNX'.out, hb910⟩
              case measure => simp [intOf]; omega
            · obtain rfl : r = false := by cases r; rfl; exact absurd rfl hr1
              by_cases hv1 : vb < 0
              · go_wp2
                go_roundw
                case rel => exact ⟨m + 1, by omega, by go_num, HNX'.out, hb910⟩
                case measure => simp [intOf]; omega
              · have hv2 : (T.length : Int) ≤ vb := by rcases hskip with h | h | h; cases h; exact absurd h hv1; exact h
                go_wp2
                go_roundw
                case rel => exact ⟨m + 1, by omega, by go_num, HNX'.out, hb910⟩
                case measure => simp [intOf]; omega
          · obtain ⟨hs1, hs2, hs3⟩ : r = false ∧ ¬ vb < 0 ∧ ¬ (T.length : Int) ≤ vb := ⟨by cases r; rfl; exact absurd (.inl rfl) hskip, fun h => hskip (.inr (.inl h)), fun h => hskip (.inr (.inr h))⟩
            subst hs1
            obtain ⟨n, rfl⟩ : ∃ n : Nat, vb = (n : Int) := ⟨vb.toNat, by omega⟩
            have hnl : n < T.length := by omega
            have n0 : (0 : Int) ≤ (n : Int) := by omega
            have nn : (n : Int) < (T.length : Int) := by omega
            obtain ⟨u0, u1, u2⟩ := F4.out _ (t3_at hnl)
            have HTn : Hid (w10.cell? ⟨bT, n * 3, none⟩ = some (.int .i64 ((T.getD n (0, 0, 0)).1 : Int)) ∧ w10.cell? ⟨bT, n * 3 + 1, none⟩ = some (.int .i64 ((T.getD n (0, 0, 0)).2.1 : Int)) ∧ w10.cell? ⟨bT, n * 3 + 2, none⟩ = some (.int .i64 ((T.getD n (0, 0, 0)).2.2 : Int))) := TriAt.later hb910 HT9.out n hnl
            have HTk : Hid (w10.cell? ⟨bT, k * 3, none⟩ = some (.int .i64 ((T.getD k (0, 0, 0)).1 : Int)) ∧ w10.cell? ⟨bT, k * 3 + 1, none⟩ = some (.int .i64 ((T.getD k (0, 0, 0)).2.1 : Int)) ∧ w10.cell? ⟨bT, k * 3 + 2, none⟩ = some (.int .i64 ((T.getD k (0, 0, 0)).2.2 : Int))) := TriAt.later hb910 HT9.out k hlt
            have HV10 : Hid (PtsAt w10 g 0 (verts rs).length (pt (verts rs))) := PtsAt.later (below_then hb79 hb910) HV.out
            have hbW : Below w.heap.size w w10 := below_then hb79 hb910
            clear hskip skip
            go_upto_region 11 with fail
            go_wp2
            go_loopw [15] (fun y wq => ∃ q : Nat, q ≤ 3 ∧ y = .int .i64 q ∧ (∀ x, ((0 < q ∧ x = (T.getD n (0, 0, 0)).1) ∨ (1 < q ∧ x = (T.getD n (0, 0, 0)).2.1) ∨ (2 < q ∧ x = (T.getD n (0, 0, 0)).2.2)) → x ≠ (T.getD k (0, 0, 0)).1 → x ≠ (T.getD k (0, 0, 0)).2.1 → x ≠ (T.getD k (0, 0, 0)).2.2 → crc (pt (verts rs)) (T.getD k (0, 0, 0)) x ≠ 0) ∧ Below w10.heap.size w10 wq) (fun y _ => 3 - (intOf y).toNat)
            case atStart => exact ⟨0, by omega, rfl, fun x h => by omega, Below.refl _ _⟩
            case round =>
              obtain ⟨q, hq, rfl, hall, hbq⟩ := hrel
              have HALL : Hid (∀ x, ((0 < q ∧ x = (T.getD n (0, 0, 0)).1) ∨ (1 < q ∧ x = (T.getD n (0, 0, 0)).2.1) ∨ (2 < q ∧ x = (T.getD n (0, 0, 0)).2.2)) → x ≠ (T.getD k (0, 0, 0)).1 → x ≠ (T.getD k (0, 0, 0)).2.1 → x ≠ (T.getD k (0, 0, 0)).2.2 → crc (pt (verts rs)) (T.getD k (0, 0, 0)) x ≠ 0) := hall
              clear hall
              by_cases hq3 : q < 3
              · obtain ⟨px, lx, rx', hadd⟩ : ∃ px : Nat, px < (verts rs).length ∧ w10.cell? ⟨bT, n * 3 + q, none⟩ = some (.int .i64 (px : Int)) ∧ ((px ≠ (T.getD k (0, 0, 0)).1 → px ≠ (T.getD k (0, 0, 0)).2.1 → px ≠ (T.getD k (0, 0, 0)).2.2 → crc (pt (verts rs)) (T.getD k (0, 0, 0)) px ≠ 0) → (∀ x, ((0 < q + 1 ∧ x = (T.getD n (0, 0, 0)).1) ∨ (1 < q + 1 ∧ x = (T.getD n (0, 0, 0)).2.1) ∨ (2 < q + 1 ∧ x = (T.getD n (0, 0, 0)).2.2)) → x ≠ (T.getD k (0, 0, 0)).1 → x ≠ (T.getD k (0, 0, 0)).2.1 → x ≠ (T.getD k (0, 0, 0)).2.2 → crc (pt (verts rs)) (T.getD k (0, 0, 0)) x ≠ 0)) := by
                  rcases (show q = 0 ∨ q = 1 ∨ q = 2 by omega) with rfl | rfl | rfl
                  · refine ⟨_, u0, HTn.out.1, fun h x hx => ?_⟩
                    rcases hx with ⟨_, rfl⟩ | ⟨h', _⟩ | ⟨h', _⟩
                    · exact h
                    · omega
                    · omega
                  · refine ⟨_, u1, HTn.out.2.1, fun h x hx => ?_⟩
                    rcases hx with ⟨_, e⟩ | ⟨_, rfl⟩ | ⟨h', _⟩
                    · exact HALL.out x (.inl ⟨by omega, e⟩)
                    · exact h
                    · omega
                  · refine ⟨_, u2, HTn.out.2.2, fun h x hx => ?_⟩
                    rcases hx with ⟨_, e⟩ | ⟨_, e⟩ | ⟨_, rfl⟩
                    · exact HALL.out x (.inl ⟨by omega, e⟩)
                    · exact HALL.out x (.inr (.inl ⟨by omega, e⟩))
                    · exact h
                have HADD : Hid ((px ≠ (T.getD k (0, 0, 0)).1 → px ≠ (T.getD k (0, 0, 0)).2.1 → px ≠ (T.getD k (0, 0, 0)).2.2 → crc (pt (verts rs)) (T.getD k (0, 0, 0)) px ≠ 0) → (∀ x, ((0 < q + 1 ∧ x = (T.getD n (0, 0, 0)).1) ∨ (1 < q + 1 ∧ x = (T.getD n (0, 0, 0)).2.1) ∨ (2 < q + 1 ∧ x = (T.getD n (0, 0, 0)).2.2)) → x ≠ (T.getD k (0, 0, 0)).1 → x ≠ (T.getD k (0, 0, 0)).2.1 → x ≠ (T.getD k (0, 0, 0)).2.2 → crc (pt (verts rs)) (T.getD k (0, 0, 0)) x ≠ 0)) := hadd
                clear hadd HALL
                have r0 := cell_later hbq HTk.out.1
                have r1 := cell_later hbq HTk.out.2.1
                have r2 := cell_later hbq HTk.out.2.2
                have rx := cell_later hbq rx'
                have v0 := HV10.out _ l0
                have v1 := HV10.out _ l1
                have v2 := HV10.out _ l2
                have vx := HV10.out _ lx
                simp only [Nat.zero_add] at v0 v1 v2 vx
                have x0 := cell_later hbq v0.1
                have y0 := cell_later hbq v0.2
                have x1 := cell_later hbq v1.1
                have y1 := cell_later hbq v1.2
                have x2 := cell_later hbq v2.1
                have y2 := cell_later hbq v2.2
                have xx := cell_later hbq vx.1
                have yx := cell_later hbq vx.2
                have HCR : Hid (crc (pt (verts rs)) (T.getD k (0, 0, 0)) px = circleW (pt (verts rs) (T.getD k (0, 0, 0)).1).1 (pt (verts rs) (T.getD k (0, 0, 0)).1).2 (pt (verts rs) (T.getD k (0, 0, 0)).2.1).1 (pt (verts rs) (T.getD k (0, 0, 0)).2.1).2 (pt (verts rs) (T.getD k (0, 0, 0)).2.2).1 (pt (verts rs) (T.getD k (0, 0, 0)).2.2).2 (pt (verts rs) px).1 (pt (verts rs) px).2) := rfl
                clear rx' v0 v1 v2 vx
                generalize hP0 : (T.getD k (0, 0, 0)).1 = p0 at *
                generalize hP1 : (T.getD k (0, 0, 0)).2.1 = p1 at *
                generalize hP2 : (T.getD k (0, 0, 0)).2.2 = p2 at *
                clear hP0 hP1 hP2
                generalize (pt (verts rs) p0).1 = X0 at *
                generalize (pt (verts rs) p0).2 = Y0 at *
                generalize (pt (verts rs) p1).1 = X1 at *
                generalize (pt (verts rs) p1).2 = Y1 at *
                generalize (pt (verts rs) p2).1 = X2 at *
                generalize (pt (verts rs) p2).2 = Y2 at *
                generalize (pt (verts rs) px).1 = XX at *
                generalize (pt (verts rs) px).2 = YX at *
                have q0 : (0 : Int) ≤ (q : Int) := by omega
                have qn : (q : Int) < 3 := by omega
                have a00 : (0 : Int) ≤ (p0 : Int) := by omega
                have a10 : (0 : Int) ≤ (p1 : Int) := by omega
                have a20 : (0 : Int) ≤ (p2 : Int) := by omega
                have ax0 : (0 : Int) ≤ (px : Int) := by omega
                have a0n : (p0 : Int) < ((verts rs).length : Int) := by omega
                have a1n : (p1 : Int) < ((verts rs).length : Int) := by omega
                have a2n : (p2 : Int) < ((verts rs).length : Int) := by omega
                have axn : (px : Int) < ((verts rs).length : Int) := by omega
                go_upto_region 14 with fail
                go_cut [146] from 66 to 146 (fun v wx => ∃ b : Bool, v = .bool b ∧ (b = false → px ≠ p0 → px ≠ p1 → px ≠ p2 → circleW X0 Y0 X1 Y1 X2 Y2 XX YX ≠ 0) ∧ Below wr.heap.size wr wx)
                case first =>
                  clear HADD HCR HTn HTk HV10 HPUT HSO HOK HM HT HP HV F4 H64 HT9 BC HRB HVB HG
                  by_cases hc : circleW X0 Y0 X1 Y1 X2 Y2 XX YX = 0
                  · have hcb : (circleW X0 Y0 X1 Y1 X2 Y2 XX YX == 0) = true := by rw [hc]; rfl
                    have nef : ∀ {u v : Nat}, u ≠ v → ((u : Int) != (v : Int)) = true := fun h => bne_true (by omega)
                    have eqf : ∀ {u v : Nat}, u = v → ((u : Int) != (v : Int)) = false := fun h => bne_false (by omega)
                    by_cases e0 : px = p0
                    · have E0 : Hid (px = p0) := e0
                      have h0b : ((px : Int) != (p0 : Int)) = false := eqf e0
                      clear e0 nef eqf
                      refine wp_region_cls (R := Below wr.heap.size wr) (by kernel_rfl) (by kernel_rfl) (Below.refl _ _).drew ?_
                      have inst : Nonempty (Cls (Below wr.heap.size wr)) := ⟨⟨wr, Below.refl _ _⟩⟩
                      have gr0 := fun x => Cls.cell (W := wr) x r0
                      have gr1 := fun x => Cls.cell (W := wr) x r1
                      have gr2 := fun x => Cls.cell (W := wr) x r2
                      have gx0 := fun x => Cls.cell (W := wr) x x0
                      have gy0 := fun x => Cls.cell (W := wr) x y0
                      have gx1 := fun x => Cls.cell (W := wr) x x1
                      have gy1 := fun x => Cls.cell (W := wr) x y1
                      have gx2 := fun x => Cls.cell (W := wr) x x2
                      have gy2 := fun x => Cls.cell (W := wr) x y2
                      have grx := fun x => Cls.cell (W := wr) x rx
                      have gxx := fun x => Cls.cell (W := wr) x xx
                      have gyx := fun x => Cls.cell (W := wr) x yx
                      clear r0 r1 r2 x0 y0 x1 y1 x2 y2 rx xx yx
                      repeat (first | go_big_quiet_step ((first | (go_at_call 12; exact Cls.calls _ (circle_any X0 Y0 X1 Y1 X2 Y2 XX YX _)))) | quiet_step ((first | (go_at_call 12; exact Cls.calls _ (circle_any X0 Y0 X1 Y1 X2 Y2 XX YX _)))))
                      refine wpQuiet_nil ?_
                      intro w4 hw'
                      obtain ⟨x, hx⟩ := hw'
                      have hb4 := x.ok
                      rw [← hx] at hb4
                      clear hx x inst
                      (try go_wp2_with fail)
                      go_meet
                      exact ⟨_, rfl, fun _ h _ _ => absurd E0.out h, hb4⟩
                    · have h0b : ((px : Int) != (p0 : Int)) = true := nef e0
                      clear e0
                      by_cases e1 : px = p1
                      · have E1 : Hid (px = p1) := e1
                        have h1b : ((px : Int) != (p1 : Int)) = false := eqf e1
                        clear e1 nef eqf
                        refine wp_region_cls (R := Below wr.heap.size wr) (by kernel_rfl) (by kernel_rfl) (Below.refl _ _).drew ?_
                        have inst : Nonempty (Cls (Below wr.heap.size wr)) := ⟨⟨wr, Below.refl _ _⟩⟩
                        have gr0 := fun x => Cls.cell (W := wr) x r0
                        have gr1 := fun x => Cls.cell (W := wr) x r1
                        have gr2 := fun x => Cls.cell (W := wr) x r2
                        have gx0 := fun x => Cls.cell (W := wr) x x0
                        have gy0 := fun x => Cls.cell (W := wr) x y0
                        have gx1 := fun x => Cls.cell (W := wr) x x1
                        have gy1 := fun x => Cls.cell (W := wr) x y1
                        have gx2 := fun x => Cls.cell (W := wr) x x2
                        have gy2 := fun x => Cls.cell (W := wr) x y2
                        have grx := fun x => Cls.cell (W := wr) x rx
                        have gxx := fun x => Cls.cell (W := wr) x xx
                        have gyx := fun x => Cls.cell (W := wr) x yx
                        clear r0 r1 r2 x0 y0 x1 y1 x2 y2 rx xx yx
                        repeat (first | go_big_quiet_step ((first | (go_at_call 12; exact Cls.calls _ (circle_any X0 Y0 X1 Y1 X2 Y2 XX YX _)))) | quiet_step ((first | (go_at_call 12; exact Cls.calls _ (circle_any X0 Y0 X1 Y1 X2 Y2 XX YX _)))))
                        refine wpQuiet_nil ?_
                        intro w4 hw'
                        obtain ⟨x, hx⟩ := hw'
                        have hb4 := x.ok
                        rw [← hx] at hb4
                        clear hx x inst
                        (try go_wp2_with fail)
                        go_meet
                        exact ⟨_, rfl, fun _ _ h _ => absurd E1.out h, hb4⟩
                      · have h1b : ((px : Int) != (p1 : Int)) = true := nef e1
                        clear e1
                        by_cases e2 : px = p2
                        · have E2 : Hid (px = p2) := e2
                          have h2b : ((px : Int) != (p2 : Int)) = false := eqf e2
                          clear e2 nef eqf
                          refine wp_region_cls (R := Below wr.heap.size wr) (by kernel_rfl) (by kernel_rfl) (Below.refl _ _).drew ?_
                          have inst : Nonempty (Cls (Below wr.heap.size wr)) := ⟨⟨wr, Below.refl _ _⟩⟩
                          have gr0 := fun x => Cls.cell (W := wr) x r0
                          have gr1 := fun x => Cls.cell (W := wr) x r1
                          have gr2 := fun x => Cls.cell (W := wr) x r2
                          have gx0 := fun x => Cls.cell (W := wr) x x0
                          have gy0 := fun x => Cls.cell (W := wr) x y0
                          have gx1 := fun x => Cls.cell (W := wr) x x1
                          have gy1 := fun x => Cls.cell (W := wr) x y1
                          have gx2 := fun x => Cls.cell (W := wr) x x2
                          have gy2 := fun x => Cls.cell (W := wr) x y2
                          have grx := fun x => Cls.cell (W := wr) x rx
                          have gxx := fun x => Cls.cell (W := wr) x xx
                          have gyx := fun x => Cls.cell (W := wr) x yx
                          clear r0 r1 r2 x0 y0 x1 y1 x2 y2 rx xx yx
                          repeat (first | go_big_quiet_step ((first | (go_at_call 12; exact Cls.calls _ (circle_any X0 Y0 X1 Y1 X2 Y2 XX YX _)))) | quiet_step ((first | (go_at_call 12; exact Cls.calls _ (circle_any X0 Y0 X1 Y1 X2 Y2 XX YX _)))))
                          refine wpQuiet_nil ?_
                          intro w4 hw'
                          obtain ⟨x, hx⟩ := hw'
                          have hb4 := x.ok
                          rw [← hx] at hb4
                          clear hx x inst
                          (try go_wp2_with fail)
                          go_meet
                          exact ⟨_, rfl, fun _ _ _ h => absurd E2.out h, hb4⟩
                        · have h2b : ((px : Int) != (p2 : Int)) = true := nef e2
                          clear e2 nef eqf
                          refine wp_region_cls (R := Below wr.heap.size wr) (by kernel_rfl) (by kernel_rfl) (Below.refl _ _).drew ?_
                          have inst : Nonempty (Cls (Below wr.heap.size wr)) := ⟨⟨wr, Below.refl _ _⟩⟩
                          have gr0 := fun x => Cls.cell (W := wr) x r0
                          have gr1 := fun x => Cls.cell (W := wr) x r1
                          have gr2 := fun x => Cls.cell (W := wr) x r2
                          have gx0 := fun x => Cls.cell (W := wr) x x0
                          have gy0 := fun x => Cls.cell (W := wr) x y0
                          have gx1 := fun x => Cls.cell (W := wr) x x1
                          have gy1 := fun x => Cls.cell (W := wr) x y1
                          have gx2 := fun x => Cls.cell (W := wr) x x2
                          have gy2 := fun x => Cls.cell (W := wr) x y2
                          have grx := fun x => Cls.cell (W := wr) x rx
                          have gxx := fun x => Cls.cell (W := wr) x xx
                          have gyx := fun x => Cls.cell (W := wr) x yx
                          clear r0 r1 r2 x0 y0 x1 y1 x2 y2 rx xx yx
                          repeat (first | go_big_quiet_step ((first | (go_at_call 12; exact Cls.calls _ (circle_any X0 Y0 X1 Y1 X2 Y2 XX YX _)))) | quiet_step ((first | (go_at_call 12; exact Cls.calls _ (circle_any X0 Y0 X1 Y1 X2 Y2 XX YX _)))))
                          refine wpQuiet_nil ?_
                          intro w4 hw'
                          obtain ⟨x, hx⟩ := hw'
                          have hb4 := x.ok
                          rw [← hx] at hb4
                          clear hx x inst
                          (try go_wp2_with fail)
                          go_meet
                          exact ⟨_, rfl, fun h => (by cases h), hb4⟩
                  · have hcb : (circleW X0 Y0 X1 Y1 X2 Y2 XX YX == 0) = false := by rw [beq_eq_false_iff_ne]; exact hc
                    refine wp_region_cls (R := Below wr.heap.size wr) (by kernel_rfl) (by kernel_rfl) (Below.refl _ _).drew ?_
                    have inst : Nonempty (Cls (Below wr.heap.size wr)) := ⟨⟨wr, Below.refl _ _⟩⟩
                    have gr0 := fun x => Cls.cell (W := wr) x r0
                    have gr1 := fun x => Cls.cell (W := wr) x r1
                    have gr2 := fun x => Cls.cell (W := wr) x r2
                    have gx0 := fun x => Cls.cell (W := wr) x x0
                    have gy0 := fun x => Cls.cell (W := wr) x y0
                    have gx1 := fun x => Cls.cell (W := wr) x x1
                    have gy1 := fun x => Cls.cell (W := wr) x y1
                    have gx2 := fun x => Cls.cell (W := wr) x x2
                    have gy2 := fun x => Cls.cell (W := wr) x y2
                    have grx := fun x => Cls.cell (W := wr) x rx
                    have gxx := fun x => Cls.cell (W := wr) x xx
                    have gyx := fun x => Cls.cell (W := wr) x yx
                    clear r0 r1 r2 x0 y0 x1 y1 x2 y2 rx xx yx
                    repeat (first | go_big_quiet_step ((first | (go_at_call 12; exact Cls.calls _ (circle_any X0 Y0 X1 Y1 X2 Y2 XX YX _)))) | quiet_step ((first | (go_at_call 12; exact Cls.calls _ (circle_any X0 Y0 X1 Y1 X2 Y2 XX YX _)))))
                    refine wpQuiet_nil ?_
                    intro w4 hw'
                    obtain ⟨x, hx⟩ := hw'
                    have hb4 := x.ok
                    rw [← hx] at hb4
                    clear hx x inst
                    (try go_wp2_with fail)
                    go_meet
                    exact ⟨_, rfl, fun _ _ _ _ => hc, hb4⟩
                case rest =>
                  obtain ⟨bb, rfl, hbb, hb4⟩ := hcut
                  cases bb with
                  | true =>
                    have HC : Hid (SureP rs T w (.returned (.bool false)) wc) := SureP.no (hbW.trans ((below_then hbq hb4).mono hbW.size))
                    go_wp2
                    go_ret
                    exact HC.out
                  | false =>
                    have HN2 := HADD.out (fun e0 e1 e2 => by rw [HCR.out]; exact hbb rfl e0 e1 e2)
                    have HB5 := below_then hbq hb4
                    clear HADD
                    go_wp2
                    go_roundw
                    case rel => exact ⟨q + 1, by omega, by go_num, HN2, HB5⟩
                    case measure => simp [intOf]; omega
              · obtain rfl : q = 3 := by omega
                have HNX := HPUT.out (fun hnb n' hn' hl' x hx => by
                  obtain rfl : n' = n := by have := HVB.out; omega
                  exact HALL.out x (by rcases hx with h | h | h; exact .inl ⟨by omega, h⟩; exact .inr (.inl ⟨by omega, h⟩); exact .inr (.inr ⟨by omega, h⟩)))
                have HNX' : Hid ((0 < m + 1 → SideOK rs T k (T.getD k (0, 0, 0)).1 (T.getD k (0, 0, 0)).2.1) ∧ (1 < m + 1 → SideOK rs T k (T.getD k (0, 0, 0)).2.1 (T.getD k (0, 0, 0)).2.2) ∧ (2 < m + 1 → SideOK rs T k (T.getD k (0, 0, 0)).2.2 (T.getD k (0, 0, 0)).1)) := HNX
                clear HNX HPUT HSO HOK HALL
                go_wp2
                go_roundw
                case rel => exact ⟨m + 1, by omega, by go_num, HNX'.out, below_then hb910 hbq⟩
                case measure => simp [intOf]; omega
        · obtain rfl : m = 3 := by omega
          have HNEW : Hid (∀ i, i < k + 1 → ∀ a b, Sd (T.getD i (0, 0, 0)) a b → SideOK rs T i a b) := fun i hi a b h => by
            by_cases e : i = k
            · subst e
              rcases sd_cases h with ⟨rfl, rfl⟩ | ⟨rfl, rfl⟩ | ⟨rfl, rfl⟩
              · exact HSO.out.1 (by omega)
              · exact HSO.out.2.1 (by omega)
              · exact HSO.out.2.2 (by omega)
            · exact HOK.out i (by omega) a b h
          go_wp2
          go_roundw
          case rel => exact ⟨k + 1, by omega, by go_num, HNEW.out, below_then hb79 hbr9⟩
          case measure => simp [intOf]; omega
    · have : k = T.length := by omega
      subst this
      have HC : Hid (∀ w', Below w.heap.size w w' → SureP rs T w (.returned (.bool true)) w') := fun w' h => ⟨⟨true, rfl, fun _ => HOK.out⟩, h⟩
      go_wp2
      go_ret
      exact HC.out _ hb
end Go.Proofs.Ytdkaoopkbhaheaa
