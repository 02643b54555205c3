import Derived.Test.YtdkaoopkbhaheaaQN40
import Derived.Test.YtdkaoopkbhaheaaPN22
import Derived.Test.YtdkaoopkbhaheaaPN32
import Derived.Laws.OwnMore
namespace Go.Proofs.Ytdkaoopkbhaheaa
open Go.RowKit Go.Lib
open Jor
open scoped Classical
set_option linter.unusedVariables false
set_option linter.unusedSimpArgs false
def rawN (rl : Nat) (Z : Nat → Int) (k : Nat) : Int := if k < rl then Z k else 0
def rawA (rl : Nat) (Z : Nat → Int) (rs : List (List IP)) (k : Nat) : Nat := (pickI (rawN rl Z k) (rg rs k).length).toNat
def rawF (rl : Nat) (Z : Nat → Int) (k : Nat) : Bool := pickI ((rawN rl Z k).tdiv 2) 2 == 1
theorem pick_lt (c : Int) {n : Int} (hn : 0 < n) : 0 ≤ pickI c n ∧ pickI c n < n := by
  unfold pickI
  split
  · rw [Int.tmod_eq_emod_of_nonneg (by omega)]
    exact ⟨Int.emod_nonneg _ (by omega), Int.emod_lt_of_pos _ hn⟩
  · rw [Int.tmod_eq_emod_of_nonneg (by omega)]
    exact ⟨Int.emod_nonneg _ (by omega), Int.emod_lt_of_pos _ hn⟩
theorem half_in {x : Int} (h : -9223372036854775808 ≤ x ∧ x ≤ 9223372036854775807) : -9223372036854775808 ≤ x.tdiv 2 ∧ x.tdiv 2 ≤ 9223372036854775807 := by
  rcases Int.le_total 0 x with q | q
  · rw [Int.tdiv_eq_ediv_of_nonneg q]; omega
  · have e : x.tdiv 2 = -((-x) / 2) := by
      rw [← Int.tdiv_eq_ediv_of_nonneg (by omega), Int.neg_tdiv, Int.neg_neg]
    rw [e]; omega
theorem rawN_in {rl : Nat} {Z : Nat → Int} {w : World} {a : Option Addr} (h : Ints w a rl Z) (k : Nat) : -9223372036854775808 ≤ rawN rl Z k ∧ rawN rl Z k ≤ 9223372036854775807 := by
  unfold rawN
  split
  · next q =>
    rcases h with h | ⟨b, o, _, h⟩
    · omega
    · exact (h k q).2
  · omega
theorem ringT_snoc (A : Nat) (f : Bool) (r : List IP) (i : Nat) (h : i < r.length) : (ringT A f r).take (i + 1) = (ringT A f r).take i ++ [pt r (atT A f r.length i)] := by
  have hl : i < (ringT A f r).length := by rw [ringT_length]; exact h
  rw [List.take_add_one, List.getElem?_eq_getElem hl]
  congr 1
  have := ringT_pt (A := A) (f := f) h
  rw [pt, getD_elem _ _ _ hl] at this
  rw [this]; rfl
def TurnedP (rs : List (List IP)) (w : World) (e : Ending) (w' : World) : Prop := ∃ us pi pi' fl ta ta' a' cap' A' C', e = .returned (.slice a' us.length cap') ∧ Trd rs us pi pi' fl ta ta' ∧ us.length ≤ cap' ∧ cap' ≤ 9223372036854775807 ∧ RingsL w' a' A' C' us ∧ Below w.heap.size w w'
theorem own_far0 {B B' : Nat} {w w' : World} {x v : Value} {n m : Nat} {xs ys : List Value} (h : w.ownsRow B 25 2 x n xs) (o : w.ownsRow B' 50 1 v m ys) (hg : w.grownBy w' v.ownBlock) : w'.ownsRow B 25 2 x n xs := by
  refine h.kept hg ?_
  cases q : x.ownBlock with
  | none => exact .inl rfl
  | some g =>
    refine .inr (fun e => ?_)
    obtain ⟨c1, h1⟩ := own_at h q
    obtain ⟨c2, h2⟩ := own_at o e.symm
    rw [h1] at h2
    simp at h2
theorem Rg.slice {B : Nat} {w : World} {S : List Value} {rs : List (List IP)} (h : Rg B w S rs) {j : Nat} (hj : j < S.length) : ∃ a n c, S[j]? = some (.slice a n c) := by
  obtain ⟨x, h1, h2⟩ := h j hj
  rcases h2.2 with ⟨rfl, _⟩ | ⟨g, c, cur, rfl, _⟩ <;> exact ⟨_, _, _, h1⟩
theorem wrap_small {a b : Nat} (ha : a ≤ 8796093022208) (hb : b ≤ 8796093022208) : wrap64 ((a : Int) + (b : Int)) = (a : Int) + (b : Int) := wrap64_in _ (by omega) (by omega)
theorem atT_def (A : Nat) (f : Bool) (m i : Nat) : atT A f m i = if f then m - 1 - (i + A) % m else (i + A) % m := by unfold atT; rfl
set_option maxRecDepth 100000 in
set_option maxHeartbeats 4000000 in
theorem kturned_any (a : Option Addr) (cap : Nat) (A : Nat → Option Addr) (C : Nat → Nat) (rs : List (List IP)) (ra : Option Addr) (rl rc : Nat) (Z : Nat → Int) (w : World) (hrl : rl ≤ 9223372036854775807) (hcap : rs.length ≤ cap) (hcm : cap ≤ 9223372036854775807) (hn : rs.length ≤ 5864062014805) (hrs : ∀ k, (rg rs k).length ≤ 8796093022208) (hp : RingsL w a A C rs) (hz : Ints w ra rl Z) :
    Calls Try.prog 34 #[.slice a rs.length cap, .slice ra rl rc] w fun e w' => TurnedP rs w e w' := by
  have HP : Hid (RingsL w a A C rs) := hp
  have HZ : Hid (Ints w ra rl Z) := hz
  have HLR : Hid (∀ k, (rg rs k).length ≤ 8796093022208) := hrs
  clear hp hz hrs
  obtain ⟨i0, hi0, hz0, hz1, hz2⟩ := info_parts infoQ
  obtain ⟨j0, hj0, hy0, hy1, hy2⟩ := info_parts infoR
  have hA : Hid (∀ k, k < rs.length → 0 < (rg rs k).length → rawA rl Z rs k < (rg rs k).length) := fun k hk h0 => by
    have := pick_lt (rawN rl Z k) (n := (rg rs k).length) (by omega)
    unfold rawA; omega
  go_enter Try.func34, Try.ntmps34
  go_wp2
  go_loopw [5, 6, 7, 8, 9, 10, 11] (fun v k _ _ _ _ _ wr => ∃ (n : Nat) (S : List Value), n ≤ rs.length ∧ S.length = n ∧ k = .int .i64 n ∧ wr.ownsRow w.heap.size 50 1 v n S ∧ Rg w.heap.size wr S (ringsT rs.length (fun k => k) (rawA rl Z rs) (rawF rl Z) rs) ∧ Below w.heap.size w wr) (fun _ k _ _ _ _ _ _ => rs.length - (intOf k).toNat)
  case atStart => exact ⟨0, [], Nat.zero_le _, rfl, rfl, World.ownsRow_nil _ _ _ _, fun j hj => by simp at hj, Below.refl _ _⟩
  case round =>
    obtain ⟨k, S, hk, hlS, rfl, hown, hRg, hb⟩ := hrel
    have HO : Hid (wr.ownsRow w.heap.size 50 1 u5 k S) := hown
    have HR : Hid (Rg w.heap.size wr S (ringsT rs.length (fun k => k) (rawA rl Z rs) (rawF rl Z) rs)) := hRg
    clear hown hRg
    by_cases hlt : k < rs.length
    · rcases Rings.later hb HP.out with h0 | ⟨bq, oq, rfl, hcell⟩
      · omega
      obtain ⟨hc0, hpk⟩ := hcell k hlt
      have hk0 : (0 : Int) ≤ (k : Int) := by omega
      have hkn : (k : Int) < (rs.length : Int) := by omega
      have hlim : (rg rs k).length ≤ 8796093022208 := HLR.out k
      clear hcell
      generalize wr = wk at *
      have HC : Hid (∀ b o, ra = some ⟨b, o, none⟩ → k < rl → wk.cell? ⟨b, o + k, none⟩ = some (.int .i64 (Z k))) := fun b o e q => by
        rcases Ints.later hb HZ.out with h0 | ⟨b', o', e', hc⟩
        · omega
        · rw [e] at e'
          cases e'
          exact (hc k q).1
      have hra : Hid (k < rl → ∃ b o, ra = some ⟨b, o, none⟩) := fun q => by
        rcases HZ.out with h0 | ⟨b', o', e', hc⟩
        · omega
        · exact ⟨_, _, e'⟩
      go_upto_if 24 with fail
      go_cut [7] from 15 to 67 (fun v wx => v = .int .i64 (rawN rl Z k) ∧ wx = wk)
      case first =>
        by_cases q : k < rl
        · obtain ⟨b, o, rfl⟩ := hra.out q
          have c1 := HC.out b o rfl q
          have q' : (k : Int) < (rl : Int) := by omega
          have e : rawN rl Z k = Z k := if_pos q
          go_wp2_with fail
          go_meet
          exact ⟨by rw [e], rfl⟩
        · have q' : ¬ (k : Int) < (rl : Int) := by omega
          have e : rawN rl Z k = 0 := if_neg q
          go_wp2_with fail
          go_meet
          exact ⟨by rw [e], rfl⟩
      case rest =>
        obtain ⟨rfl, hwc⟩ := hcut
        rw [hwc]
        clear hwc
        have hNin := rawN_in HZ.out k
        have hAk := hA.out k hlt
        have HX : Hid (0 < (rg rs k).length → ∀ W, Calls Try.prog 33 #[.int .i64 (rawN rl Z k), .int .i64 ((rg rs k).length : Int)] W fun e w' => e = .returned (.int .i64 (rawA rl Z rs k : Int)) ∧ w' = W) := fun h0 W => by
          have := pick_any (rawN rl Z k) (rg rs k).length W hNin (by omega) (by omega)
          have q := pick_lt (rawN rl Z k) (n := (rg rs k).length) (by omega)
          rw [show pickI (rawN rl Z k) (rg rs k).length = (rawA rl Z rs k : Int) by unfold rawA; omega] at this
          exact this
        obtain ⟨P2, HY, HP2⟩ : ∃ P2, Hid (∀ W, Calls Try.prog 33 #[.int .i64 ((rawN rl Z k).tdiv 2), .int .i64 2] W fun e w' => e = .returned (.int .i64 P2) ∧ w' = W) ∧ Hid ((P2 == 1) = rawF rl Z k) := ⟨_, fun W => pick_any ((rawN rl Z k).tdiv 2) 2 W (half_in hNin) (by omega) (by omega), rfl⟩
        have hwN : wrap64 ((rawN rl Z k).tdiv 2) = (rawN rl Z k).tdiv 2 := wrap64_in _ (half_in hNin).1 (half_in hNin).2
        have HRT : Hid (rg (ringsT rs.length (fun k => k) (rawA rl Z rs) (rawF rl Z) rs) k = ringT (rawA rl Z rs k) (rawF rl Z k) (rg rs k)) := ringsT_rg hlt
        generalize rawN rl Z k = N at *
        generalize rawA rl Z rs k = Ak at *
        generalize rawF rl Z k = Fk at *
        clear HC hra
        go_wp2
        go_loopw [9, 10, 11] (fun r i _ wq => ∃ m : Nat, m ≤ (rg rs k).length ∧ i = .int .i64 m ∧ wq.ownsRow wk.heap.size 25 2 r m (cells2 ((ringT Ak Fk (rg rs k)).take m)) ∧ Below wk.heap.size wk wq) (fun _ i _ _ => (rg rs k).length - (intOf i).toNat)
        case atStart => exact ⟨0, Nat.zero_le _, rfl, World.ownsRow_nil _ _ _ _, Below.refl _ _⟩
        case round =>
          obtain ⟨m, hm, rfl, hown, hbq⟩ := hrel
          have hwk := hbq.size
          have HOq : Hid (wr.ownsRow wk.heap.size 25 2 u9 m (cells2 ((ringT Ak Fk (rg rs k)).take m))) := hown
          clear hown
          by_cases hlm : m < (rg rs k).length
          · rcases hpk with h0 | ⟨b', off', hA', hps⟩
            · have h' : (rg rs k).length = 0 := h0
              omega
            have hAk' := hAk (by omega)
            have hc1 := cell_later hbq hc0
            rw [hA'] at hc1
            have hat : atT Ak Fk (rg rs k).length m < (rg rs k).length := atT_lt hlm
            have c1 := cell_later hbq (hps _ hat).1
            have c2 := cell_later hbq (hps _ hat).2
            have HE : Hid ((ringT Ak Fk (rg rs k)).take (m + 1) = (ringT Ak Fk (rg rs k)).take m ++ [pt (rg rs k) (atT Ak Fk (rg rs k).length m)]) := ringT_snoc _ _ _ _ hlm
            have HX' : Hid (∀ W, Calls Try.prog 33 #[.int .i64 N, .int .i64 ((rg rs k).length : Int)] W fun e w' => e = .returned (.int .i64 (Ak : Int)) ∧ w' = W) := HX.out (by omega)
            have m0 : (0 : Int) ≤ (m : Int) := by omega
            have mn : (m : Int) < ((rg rs k).length : Int) := by omega
            have hl0 : ¬ (rg rs k).length = 0 := by omega
            have hl1 : (((rg rs k).length : Int) == 0) = false := by rw [beq_eq_false_iff_ne]; omega
            have HMOD : Hid (((m : Int) + (Ak : Int)) % ((rg rs k).length : Int) = (((m + Ak) % (rg rs k).length : Nat) : Int)) := by
              show _ = _
              rw [Int.natCast_emod, Int.natCast_add]
            have hml := Nat.mod_lt (m + Ak) (Nat.pos_of_ne_zero hl0)
            have HAT : Hid (atT Ak Fk (rg rs k).length m = if Fk then (rg rs k).length - 1 - (m + Ak) % (rg rs k).length else (m + Ak) % (rg rs k).length) := atT_def _ _ _ _
            generalize atT Ak Fk (rg rs k).length m = t at *
            generalize (m + Ak) % (rg rs k).length = y at *
            go_upto_region 14 with (first | (go_at_call 33; refine (HX'.out _).mono ?_; rintro e wx ⟨rfl, hwx⟩; rw [hwx]; clear hwx))
            rw [HMOD.out]
            go_upto_if 49 with (first | (go_at_call 33; refine (HY.out _).mono ?_; rintro e wx ⟨rfl, hwx⟩; rw [hwx]; clear hwx))
            go_cut [11] from 34 to 63 (fun v wx => v = .int .i64 (t : Int) ∧ wx = wr)
            case first =>
              have hFk := HP2.out
              cases Fk with
              | true =>
                have e : (t : Int) = ((rg rs k).length : Int) - 1 - (y : Int) := by
                  have := HAT.out
                  rw [if_pos rfl] at this
                  omega
                go_wp2_with fail
                go_meet
                exact ⟨by rw [e], rfl⟩
              | false =>
                have e : t = y := HAT.out
                go_wp2_with fail
                go_meet
                exact ⟨by rw [e], rfl⟩
            case rest =>
              obtain ⟨rfl, hwc⟩ := hcut
              rw [hwc]
              clear hwc
              have t0 : (0 : Int) ≤ (t : Int) := by omega
              have tn : (t : Int) < ((rg rs k).length : Int) := by omega
              have hsA : ∀ o : Obj, wk.heap.size ≤ (wr.alloc o).heap.size := fun o => by simp; omega
              have hA2 : Hid (m + 1 ≤ maxLen) := by show _ ≤ _; unfold maxLen; omega
              have HPT : Hid (pt (rg rs k) t = ((pt (rg rs k) t).1, (pt (rg rs k) t).2)) := rfl
              generalize (pt (rg rs k) t).1 = px at *
              generalize (pt (rg rs k) t).2 = py at *
              go_wp2_with (at_builtin; refine wpList_append_lies _ rfl _ _ 50 rfl wk.heap.size 25 i0 _ 2 16 underSQ hi0 hz0 hz1 hz2 rfl (by decide) _ _ _ rfl (HOq.out.alloc _) ⟨_, 0, none⟩ 1 1 _ rfl rfl (World.news_of_block (heap_alloc_new _ _)) (two_one _ _) (by decide) hA2.out (by omega) (hsA _) _ rfl ?_; intro g3 cp3 w3 hown3 hgrow3 hat3 hlt3)
              have hb3 : Below wk.heap.size wk w3 := (hbq.alloc hwk _).grown hgrow3 (hsA _) (own_ge HOq.out)
              go_roundw
              case rel =>
                refine ⟨m + 1, by omega, by go_num, ?_, hb3⟩
                rw [HE.out, cells2_append, HPT.out]
                exact hown3
              case measure => simp [intOf]; omega
          · have hmk : m = (rg rs k).length := by omega
            subst hmk
            have hbw : Below w.heap.size w wr := hb.trans (hbq.mono hb.size)
            have hw0 := hbw.size
            have hr0 := HOq.out
            rw [show (ringT Ak Fk (rg rs k)).take (rg rs k).length = ringT Ak Fk (rg rs k) by rw [← ringT_length Ak Fk (rg rs k), List.take_length]] at hr0
            have hr : wr.ownsRow w.heap.size 25 2 u9 (rg (ringsT rs.length (fun k => k) (rawA rl Z rs) (rawF rl Z) rs) S.length).length (cells2 (rg (ringsT rs.length (fun k => k) (rawA rl Z rs) (rawF rl Z) rs) S.length)) := by rw [hlS, HRT.out, ringT_length]; exact own_lower hr0 hb.size
            obtain ⟨a9, n9, c9, rfl⟩ : ∃ a n c, u9 = .slice a n c := by rcases hr.2 with ⟨h1, _⟩ | ⟨g, c, cur, h1, _⟩ <;> exact ⟨_, _, _, h1⟩
            have HO1 : Hid (wr.ownsRow w.heap.size 50 1 u5 k S) := own_lat HO.out hbq
            have HR1 : Hid (Rg w.heap.size wr (S ++ [.slice a9 n9 c9]) (ringsT rs.length (fun k => k) (rawA rl Z rs) (rawF rl Z) rs)) := (HR.out.keep (fun x n xs o => own_lat o hbq)).snoc hr
            have one1 : Hid (∀ a n c, ∀ u ∈ [Value.slice a n c], u.oneCell' = true) := fun a n c u hu => by rw [List.mem_singleton] at hu; subst hu; rfl
            have hsz1 : ∀ o : Obj, w.heap.size ≤ (wr.alloc o).heap.size := fun o => by simp; omega
            have hlen0 : Hid (k + 1 ≤ maxLen) := by show _ ≤ _; unfold maxLen; omega
            clear hr hr0 HOq HX HY
            go_wp2_with (at_builtin; refine wpList_append_lies _ rfl _ _ 34 rfl w.heap.size 50 j0 _ 1 24 underR hj0 hy0 hy1 hy2 rfl (by decide) _ _ _ rfl (HO1.out.alloc _) ⟨_, 0, none⟩ 1 1 _ rfl rfl (World.news_of_block (heap_alloc_new _ _)) (one1.out _ _ _) (by decide) hlen0.out (by omega) (hsz1 _) _ rfl ?_; intro g3 cp3 w3 hown3 hgrow3 hat3 hlt3)
            go_roundw
            case rel => exact ⟨k + 1, S ++ [.slice a9 n9 c9], by omega, by simp [hlS], by go_num, hown3, HR1.out.keep (fun x n xs o => own_far o HO1.out hgrow3), (hbw.alloc hw0 _).grown hgrow3 (hsz1 _) (own_ge HO1.out)⟩
            case measure => simp [intOf]; omega
    · have hkr : k = rs.length := by omega
      subst hkr
      have hbs := hb.size
      have el : ∀ pi, (ringsT rs.length pi (rawA rl Z rs) (rawF rl Z) rs).length = rs.length := fun pi => by unfold ringsT; simp
      by_cases hrot : 0 < rl ∧ 2 < rs.length
      · obtain ⟨r1, r2⟩ := hrot
        obtain ⟨g, cp, rfl, hgB⟩ : ∃ g c, u5 = .slice (some ⟨g, 0, none⟩) rs.length c ∧ w.heap.size ≤ g := by
          rcases HO.out.2 with ⟨_, h⟩ | ⟨g, c, _, h, h2, _⟩
          · omega
          · exact ⟨g, c, h, h2⟩
        rcases Ints.later hb HZ.out with h0 | ⟨br, or, rfl, hcr⟩
        · omega
        have c0 : wr.cell? ⟨br, or, none⟩ = some (.int .i64 (Z 0)) := (hcr 0 r1).1
        obtain ⟨P, hP, hPl⟩ : ∃ P : Nat, pickI (Z 0) ((rs.length : Int) - 1) = (P : Int) ∧ P + 1 < rs.length := by
          have := pick_lt (Z 0) (n := (rs.length : Int) - 1) (by omega)
          exact ⟨(pickI (Z 0) ((rs.length : Int) - 1)).toNat, by omega, by omega⟩
        have HX : Hid (∀ W, Calls Try.prog 33 #[.int .i64 (Z 0), .int .i64 ((rs.length : Int) - 1)] W fun e w' => e = .returned (.int .i64 (P : Int)) ∧ w' = W) := fun W => by
          have := pick_any (Z 0) ((rs.length : Int) - 1) W (hcr 0 r1).2 (by omega) (by omega)
          rw [hP] at this; exact this
        obtain ⟨ah, nh, ch, hSh⟩ := HR.out.slice (j := P + 1) (by omega)
        have ch0 : wr.cell? ⟨g, P + 1, none⟩ = some (.slice ah nh ch) := (HO.out.cellAt (P + 1) (by omega)).trans hSh
        have r1' : (0 : Int) < (rl : Int) := by omega
        have r2' : (2 : Int) < (rs.length : Int) := by omega
        have p0 : (0 : Int) ≤ 1 + (P : Int) := by omega
        have pn : 1 + (P : Int) < (rs.length : Int) := by omega
        rw [Nat.add_comm] at ch0
        clear hP hcr
        go_wp2_with (first | (go_at_call 33; refine (HX.out _).mono ?_; rintro e wx ⟨rfl, hwx⟩; rw [hwx]; clear hwx))
        have HOr : Hid (wr.ownsRow w.heap.size 50 1 (.slice (some ⟨g, 0, none⟩) rs.length cp) rs.length S) := HO.out
        clear HO c0 ch0
        generalize wr = wz at *
        go_loopw [14] (fun i wq => ∃ (m : Nat) (S' : List Value), 1 + P ≤ m ∧ m + 1 ≤ rs.length ∧ i = .int .i64 m ∧ wq.ownsRow w.heap.size 50 1 (.slice (some ⟨g, 0, none⟩) rs.length cp) rs.length S' ∧ (∀ j, j < rs.length → S'[j]? = if 1 + P ≤ j ∧ j < m then S[j + 1]? else S[j]?) ∧ Rg w.heap.size wq S (ringsT rs.length (fun k => k) (rawA rl Z rs) (rawF rl Z) rs) ∧ Below w.heap.size w wq) (fun i _ => rs.length - (intOf i).toNat)
        case atStart => exact ⟨1 + P, S, Nat.le_refl _, by omega, by go_num, HOr.out, fun j hj => by rw [if_neg (by omega)], HR.out, hb⟩
        case round =>
          obtain ⟨m, S', hm1, hm2, rfl, hown, hS', hRg, hbq⟩ := hrel
          have HO' : Hid (wr.ownsRow w.heap.size 50 1 (.slice (some ⟨g, 0, none⟩) rs.length cp) rs.length S') := hown
          have HS' : Hid (∀ j, j < rs.length → S'[j]? = if 1 + P ≤ j ∧ j < m then S[j + 1]? else S[j]?) := hS'
          have HR' : Hid (Rg w.heap.size wr S (ringsT rs.length (fun k => k) (rawA rl Z rs) (rawF rl Z) rs)) := hRg
          have hlen' : S'.length = rs.length := by have := hown.1; omega
          clear hown hS' hRg
          have m0 : (0 : Int) ≤ (m : Int) := by omega
          have mn : (m : Int) < (rs.length : Int) := by omega
          by_cases hlm : m + 1 < rs.length
          · have mn1 : (m : Int) + 1 < (rs.length : Int) := by omega
            have mn0 : (0 : Int) ≤ (m : Int) + 1 := by omega
            obtain ⟨a1, n1, d1, hv1⟩ := HR'.out.slice (j := m + 1) (by omega)
            obtain ⟨a2, n2, d2, hv2⟩ := HR'.out.slice (j := m) (by omega)
            have e1 : wr.cell? ⟨g, m + 1, none⟩ = some (.slice a1 n1 d1) := (HO'.out.cellAt (m + 1) (by omega)).trans (by rw [HS'.out (m + 1) hlm, if_neg (by omega)]; exact hv1)
            have e2 : wr.cell? ⟨g, m, none⟩ = some (.slice a2 n2 d2) := (HO'.out.cellAt m (by omega)).trans (by rw [HS'.out m (by omega), if_neg (by omega)]; exact hv2)
            have e3 : wr.frozen? ⟨g, m, none⟩ = false := HO'.out.frozenAt m
            have st := HO'.out.stored m (.slice a1 n1 d1)
            have HN : Hid ((wr.setCell ⟨g, m, none⟩ (.slice a1 n1 d1)).ownsRow w.heap.size 50 1 (.slice (some ⟨g, 0, none⟩) rs.length cp) rs.length (S'.set m (.slice a1 n1 d1)) ∧ (∀ j, j < rs.length → (S'.set m (.slice a1 n1 d1))[j]? = if 1 + P ≤ j ∧ j < m + 1 then S[j + 1]? else S[j]?) ∧ Rg w.heap.size (wr.setCell ⟨g, m, none⟩ (.slice a1 n1 d1)) S (ringsT rs.length (fun k => k) (rawA rl Z rs) (rawF rl Z) rs) ∧ Below w.heap.size w (wr.setCell ⟨g, m, none⟩ (.slice a1 n1 d1))) := by
              refine ⟨st.1, fun j hj => ?_, HR'.out.keep (fun x n xs o => own_far0 o HO'.out st.2), hbq.setCell hgB _⟩
              by_cases e : j = m
              · subst e
                rw [List.getElem?_set_self (by omega), if_pos ⟨hm1, by omega⟩, hv1]
              · rw [List.getElem?_set_ne (fun h => e h.symm), HS'.out j hj]
                by_cases c : 1 + P ≤ j ∧ j < m
                · rw [if_pos c, if_pos ⟨c.1, by omega⟩]
                · rw [if_neg c, if_neg (by omega)]
            clear st hv1 hv2
            go_wp2
            go_roundw
            case rel => exact ⟨m + 1, _, by omega, by omega, by go_num, HN.out⟩
            case measure => simp [intOf]; omega
          · have hmR : m = rs.length - 1 := by omega
            have mn1 : ¬ (m : Int) + 1 < (rs.length : Int) := by omega
            have l0 : (0 : Int) ≤ (rs.length : Int) - 1 := by omega
            have l1 : (rs.length : Int) - 1 < (rs.length : Int) := by omega
            obtain ⟨a2, n2, d2, hv2⟩ := HR'.out.slice (j := m) (by omega)
            have lt : ((rs.length : Int) - 1).toNat = m := by omega
            have e2 : wr.cell? ⟨g, m, none⟩ = some (.slice a2 n2 d2) := (HO'.out.cellAt m (by omega)).trans (by rw [HS'.out m (by omega), if_neg (by omega)]; exact hv2)
            have e3 : wr.frozen? ⟨g, m, none⟩ = false := HO'.out.frozenAt m
            have st := HO'.out.stored m (.slice ah nh ch)
            have HC : Hid (TurnedP rs w (.returned (.slice (some ⟨g, 0, none⟩) rs.length cp)) (wr.setCell ⟨g, m, none⟩ (.slice ah nh ch))) := by
              obtain ⟨pi', fl, ta, ta', H⟩ := trd_rot (h := 1 + P) (f := rawF rl Z) (by omega) (by omega) hA.out
              have hl2 : (S'.set m (.slice ah nh ch)).length = rs.length := by rw [List.length_set]; exact hlen'
              obtain ⟨a', cap', A', C', e, h1, h2, h3⟩ := rings_of (B := w.heap.size) (w := wr.setCell ⟨g, m, none⟩ (.slice ah nh ch)) (v := .slice (some ⟨g, 0, none⟩) rs.length cp) (rs := ringsT rs.length (rotI (1 + P) rs.length) (rawA rl Z rs) (rawF rl Z) rs) (S := S'.set m (.slice ah nh ch)) (by rw [el, hl2]) (by rw [hl2]; exact st.1) (fun j hj => by
                rw [hl2] at hj
                have hro := rotI_cases (1 + P) rs.length j
                have hget : (S'.set m (.slice ah nh ch))[j]? = S[rotI (1 + P) rs.length j]? := by
                  by_cases e : j = m
                  · subst e
                    rw [List.getElem?_set_self (by omega), show rotI (1 + P) rs.length j = P + 1 by omega, hSh]
                  · rw [List.getElem?_set_ne (fun h => e h.symm), HS'.out j hj]
                    by_cases c : 1 + P ≤ j ∧ j < m
                    · rw [if_pos c, show rotI (1 + P) rs.length j = j + 1 by omega]
                    · rw [if_neg c, show rotI (1 + P) rs.length j = j by omega]
                obtain ⟨x, x1, x2⟩ := HR'.out (rotI (1 + P) rs.length j) (by omega)
                refine ⟨x, hget.trans x1, ?_⟩
                rw [ringsT_rg hj]
                rw [ringsT_rg (show rotI (1 + P) rs.length j < rs.length by omega)] at x2
                exact own_far0 x2 HO'.out st.2)
              exact ⟨_, _, _, _, _, _, a', cap', A', C', by rw [e], H, h1, h2, h3, hbq.setCell hgB _⟩
            clear st hv2 hmR
            go_wp2
            go_ret
            exact HC.out
      · have HC : Hid (TurnedP rs w (.returned u5) wr) := by
          obtain ⟨pi', fl, ta, ta', H⟩ := trd_id (f := rawF rl Z) hA.out
          obtain ⟨a', cap', A', C', e, h1, h2, h3⟩ := rings_of (B := w.heap.size) (rs := ringsT rs.length (fun k => k) (rawA rl Z rs) (rawF rl Z) rs) (S := S) (by rw [el, hlS]) (by rw [hlS]; exact HO.out) HR.out
          exact ⟨_, _, _, _, _, _, a', cap', A', C', by rw [e], H, h1, h2, h3, hb⟩
        obtain ⟨a5, c5, rfl⟩ : ∃ a c, u5 = .slice a rs.length c := by
          rcases HO.out.2 with ⟨h, h2⟩ | ⟨g, c, _, h, _⟩
          · exact ⟨none, 0, by rw [h, h2]⟩
          · exact ⟨_, _, h⟩
        by_cases q1 : 0 < rl
        · have q1' : (0 : Int) < (rl : Int) := by omega
          have q2' : ¬ (2 : Int) < (rs.length : Int) := by omega
          go_wp2
          go_ret
          exact HC.out
        · have q1' : ¬ (0 : Int) < (rl : Int) := by omega
          go_wp2
          go_ret
          exact HC.out
end Go.Proofs.Ytdkaoopkbhaheaa
