import Derived.Test.YtdkaoopkbhaheaaPN32
import Derived.Test.YtdkaoopkbhaheaaPN19
import Derived.Test.YtdkaoopkbhaheaaQN31
import Derived.Test.YtdkaoopkbhaheaaQN23
import Derived.Deep.DeepCutAuto
namespace Go.Proofs.Ytdkaoopkbhaheaa
open Go.RowKit Go.Lib
open Jor
open scoped Classical
set_option linter.unusedVariables false
set_option linter.unusedSimpArgs false
def mvI (x y : Int) (p : IP) : IP := (wrap64 (p.1 + x), wrap64 (p.2 - y))
def lgI (p : IP) : IP := (wrap64 (2 * p.1), wrap64 (2 * p.2))
def Fit (p : IP) : Prop := -1000 ≤ p.1 ∧ p.1 ≤ 1000 ∧ -1000 ≤ p.2 ∧ p.2 ≤ 1000
theorem take_snoc' {α : Type} (l : List α) (i : Nat) (d : α) (h : i < l.length) : l.take (i + 1) = l.take i ++ [l.getD i d] := by
  rw [List.take_add_one, List.getElem?_eq_getElem h, getD_elem _ _ _ h]; rfl
theorem cells2_snoc (l : List IP) (p : IP) : cells2 (l ++ [p]) = cells2 l ++ [.int .i64 p.1, .int .i64 p.2] := by rw [cells2_append]; rfl
theorem mvI_sim {X Y : Int} (hX : 0 ≤ X ∧ X < 1000000) (hY : 0 ≤ Y ∧ Y < 1000000) {p : IP} (h : Fit p) : mvI X Y p = sim 1 X (-Y) p ∧ Nr 1 X (-Y) p := by
  obtain ⟨h1, h2, h3, h4⟩ := h
  refine ⟨?_, ?_, ?_⟩
  · unfold mvI sim
    rw [wrap64_in _ (by omega) (by omega), wrap64_in _ (by omega) (by omega)]
    exact Prod.ext (by simp) (by simp; omega)
  · unfold nearP nearB
    simp only [Bool.and_eq_true, decide_eq_true_eq]
    omega
  · unfold nearP nearB sim
    simp only [Bool.and_eq_true, decide_eq_true_eq]
    omega
theorem lgI_sim {p : IP} (h : Fit p) : lgI p = sim 2 0 0 p ∧ Nr 2 0 0 p := by
  obtain ⟨h1, h2, h3, h4⟩ := h
  refine ⟨?_, ?_, ?_⟩
  · unfold lgI sim
    rw [wrap64_in _ (by omega) (by omega), wrap64_in _ (by omega) (by omega)]
    exact Prod.ext (by simp) (by simp)
  · unfold nearP nearB
    simp only [Bool.and_eq_true, decide_eq_true_eq]
    omega
  · unfold nearP nearB sim
    simp only [Bool.and_eq_true, decide_eq_true_eq]
    omega
theorem fit_flat {rs : List (List IP)} (h : ∀ j, j < rs.length → ∀ i, i < (rg rs j).length → Fit (pt (rg rs j) i)) : ∀ p ∈ rs.flatten, Fit p := by
  intro p hp
  obtain ⟨m, hm, e⟩ := List.getElem_of_mem hp
  obtain ⟨k, i, hk, hi, rfl⟩ := num_of rs m hm
  have := h k hk i hi
  rw [← (pt_at rs k i hi).1] at this
  unfold pt at this
  rw [getD_elem _ _ _ hm, e] at this
  exact this
theorem map_same {rs : List (List IP)} {f g : IP → IP} (h : ∀ p ∈ rs.flatten, f p = g p) : rs.map (List.map f) = rs.map (List.map g) := by
  refine List.map_congr_left fun r hr => List.map_congr_left fun p hp => h p ?_
  exact List.mem_flatten.2 ⟨r, hr, hp⟩
theorem sim_facts {rs r1 : List (List IP)} {s u v : Int} (hs : s = 1 ∨ s = 2) (near : ∀ p ∈ rs.flatten, Nr s u v p) (e : r1 = rs.map (List.map (sim s u v))) :
    r1.length = rs.length ∧ (verts r1).length = (verts rs).length ∧ chkP r1 = chkP rs ∧ areaP r1 = s * s * areaP rs := by
  subst e
  refine ⟨List.length_map _, ?_, chk_sim hs near, areaP_sim hs near⟩
  unfold verts
  rw [flat_map', List.length_map]
theorem area_in {rs : List (List IP)} : -2305843009213693951 ≤ areaP rs ∧ areaP rs ≤ 2305843009213693951 := by
  unfold areaP
  by_cases hz : chkP rs = 0
  · rw [if_pos hz]
    have G := good_of hz
    obtain ⟨_, b1, b2⟩ := G.psum _ (Nat.le_refl _)
    have := G.eight
    omega
  · rw [if_neg hz]; omega
set_option maxRecDepth 100000 in
set_option maxHeartbeats 4000000 in
theorem moved_walk (a : Option Addr) (cap : Nat) (A : Nat → Option Addr) (C : Nat → Nat) (rs : List (List IP)) (x y : Int) (w : World) (hx : -9223372036854775808 ≤ x ∧ x ≤ 9223372036854775807) (hy : -9223372036854775808 ≤ y ∧ y ≤ 9223372036854775807) (hcap : rs.length ≤ cap) (hcm : cap ≤ 9223372036854775807) (hn : rs.length ≤ 5864062014805) (hrs : ∀ k, (rg rs k).length ≤ 8796093022208) (hp : RingsL w a A C rs) :
    Calls Try.prog 8 #[.slice a rs.length cap, .int .i64 x, .int .i64 y] w fun e w' => e = .returned (.bool true) ∧ Below w.heap.size w w' := by
  have HP : Hid (RingsL w a A C rs) := hp
  have HLR : Hid (∀ k, (rg rs k).length ≤ 8796093022208) := hrs
  clear hp hrs
  obtain ⟨X, hX, HX⟩ : ∃ X, (0 ≤ X ∧ X < 1000000) ∧ Hid (∀ W, Calls Try.prog 33 #[.int .i64 x, .int .i64 1000000] W fun e w' => e = .returned (.int .i64 X) ∧ w' = W) := ⟨_, pick_in x, fun W => pick_any x 1000000 W hx (by omega) (by omega)⟩
  obtain ⟨Y, hY, HY⟩ : ∃ Y, (0 ≤ Y ∧ Y < 1000000) ∧ Hid (∀ W, Calls Try.prog 33 #[.int .i64 y, .int .i64 1000000] W fun e w' => e = .returned (.int .i64 Y) ∧ w' = W) := ⟨_, pick_in y, fun W => pick_any y 1000000 W hy (by omega) (by omega)⟩
  obtain ⟨i0, hi0, hz0, hz1, hz2⟩ := info_parts infoQ
  obtain ⟨j0, hj0, hy0, hy1, hy2⟩ := info_parts infoR
  go_enter Try.func8, Try.ntmps8
  go_wp2_with (first
      | (go_at_call 27; refine (lives_any _).mono ?_; rintro e w1 ⟨rfl, hb1⟩))
  go_loopw [8, 9, 10, 11, 12, 13, 14, 15] (fun v1 v2 f k _ _ _ _ wr => ∃ (n : Nat) (b : Bool) (S1 S2 : List Value), n ≤ rs.length ∧ S1.length = n ∧ S2.length = n ∧ k = .int .i64 n ∧ f = .bool b ∧ (b = true → ∀ j, j < n → ∀ i, i < (rg rs j).length → Fit (pt (rg rs j) i)) ∧ Mv w.heap.size wr v1 v2 S1 S2 (rs.map (List.map (mvI X Y))) (rs.map (List.map lgI)) ∧ Below w.heap.size w wr) (fun _ _ _ k _ _ _ _ _ => rs.length - (intOf k).toNat)
  case atStart => exact ⟨0, true, [], [], Nat.zero_le _, rfl, rfl, rfl, rfl, fun _ j hj => by omega, Mv.start _ _ _ _, hb1⟩
  case round =>
    obtain ⟨k, b0, S1, S2, hk, hl1, hl2, rfl, rfl, hfit, hmv, hb⟩ := hrel
    by_cases hlt : k < rs.length
    · have hp0 : RingsL wr a A C rs := Rings.later hb HP.out
      rcases hp0 with h0 | ⟨bq, oq, rfl, hcell⟩
      · omega
      obtain ⟨hc0, hpk⟩ := hcell k hlt
      have hk0 : (0 : Int) ≤ (k : Int) := by omega
      have hkn : (k : Int) < (rs.length : Int) := by omega
      have hlim : (rg rs k).length ≤ 8796093022208 := HLR.out k
      have HF : Hid (b0 = true → ∀ j, j < k → ∀ i, i < (rg rs j).length → Fit (pt (rg rs j) i)) := hfit
      have HM : Hid (Mv w.heap.size wr _ _ S1 S2 (rs.map (List.map (mvI X Y))) (rs.map (List.map lgI))) := hmv
      clear hfit hmv hcell
      generalize wr = wk at *
      go_wp2
      go_loopw [10, 12, 13, 14, 15] (fun f r s i _ wq => ∃ (m : Nat) (b : Bool), m ≤ (rg rs k).length ∧ i = .int .i64 m ∧ f = .bool b ∧ (b = true → b0 = true ∧ ∀ j, j < m → Fit (pt (rg rs k) j)) ∧ Two wk.heap.size wq 25 2 r s m m (cells2 (((rg rs k).take m).map (mvI X Y))) (cells2 (((rg rs k).take m).map lgI)) ∧ Below wk.heap.size wk wq) (fun _ _ _ i _ _ => (rg rs k).length - (intOf i).toNat)
      case atStart => exact ⟨0, b0, Nat.zero_le _, rfl, rfl, fun h => ⟨h, fun j hj => by omega⟩, ⟨World.ownsRow_nil _ _ _ _, World.ownsRow_nil _ _ _ _, fun g hg => by cases hg⟩, Below.refl _ _⟩
      case round =>
        obtain ⟨m, b1, hm, rfl, rfl, hf1, htw, hbq⟩ := hrel
        have hc1 := cell_later hbq hc0
        by_cases hlm : m < (rg rs k).length
        · rcases hpk with h0 | ⟨b', off', hA, hps⟩
          · have h' : (rg rs k).length = 0 := h0
            omega
          rw [hA] at hc1
          have c1 := cell_later hbq (hps m hlm).1
          have c2 := cell_later hbq (hps m hlm).2
          have m0 : (0 : Int) ≤ (m : Int) := by omega
          have mn : (m : Int) < ((rg rs k).length : Int) := by omega
          have HT : Hid (Two wk.heap.size wr 25 2 _ _ m m (cells2 (((rg rs k).take m).map (mvI X Y))) (cells2 (((rg rs k).take m).map lgI))) := htw
          have HF1 : Hid (b1 = true → b0 = true ∧ ∀ j, j < m → Fit (pt (rg rs k) j)) := hf1
          have HE : Hid (pt (rg rs k) m = ((pt (rg rs k) m).1, (pt (rg rs k) m).2)) := rfl
          have hwk : wk.heap.size ≤ wr.heap.size := hbq.size
          clear htw hf1
          generalize (pt (rg rs k) m).1 = px at *
          generalize (pt (rg rs k) m).2 = py at *
          go_upto_region 14 with fail
          go_cut [10] from 35 to 95 (fun f wx => ∃ b, f = .bool b ∧ (b = true → b1 = true ∧ Fit (px, py)) ∧ wx = wr.alloc (.cells #[.int .i64 px, .int .i64 py] 25))
          case first =>
            go_wp2_with fail
            all_goals go_meet
            all_goals (refine ⟨_, rfl, ?_, rfl⟩; first | (intro h; cases h; done) | (intro h; simp at h; done) | (intro h; refine ⟨?_, ?_⟩ <;> first | rfl | assumption | (unfold Fit; simp at *; omega)))
          case rest =>
            obtain ⟨b2, rfl, hf2, rfl⟩ := hcut
            have e0 : (wr.alloc (.cells #[.int .i64 px, .int .i64 py] 25)).cell? ⟨wr.heap.size, 0, none⟩ = some (.int .i64 px) := by simp [go_sem]
            have e1 : (wr.alloc (.cells #[.int .i64 px, .int .i64 py] 25)).cell? ⟨wr.heap.size, 1, none⟩ = some (.int .i64 py) := by simp [go_sem]
            have HTW : Hid (Two wk.heap.size (wr.alloc (.cells #[.int .i64 px, .int .i64 py] 25)) 25 2 _ _ m m (cells2 (((rg rs k).take m).map (mvI X Y))) (cells2 (((rg rs k).take m).map lgI))) := HT.out.alloc _
            have hbW : Below wk.heap.size wk (wr.alloc (.cells #[.int .i64 px, .int .i64 py] 25)) := hbq.alloc hwk _
            have hsW : (wr.alloc (.cells #[.int .i64 px, .int .i64 py] 25)).heap.size = wr.heap.size + 1 := by simp
            generalize (wr.alloc (.cells #[.int .i64 px, .int .i64 py] 25)) = W at *
            have HL : Hid (∀ g, (u12.ownBlock = some g ∨ u13.ownBlock = some g) → g < wr.heap.size) := fun g hg => by rcases hg with q | q; exact own_in HT.out.o1 q; exact own_in HT.out.o2 q
            generalize wr.heap.size = H at *
            clear HT hbq c1 c2 hc1
            go_upto_region 15 with fail
            have bD : Below W.heap.size W W.drew := (Below.refl _ _).drew
            have d0 := cell_later bD e0
            have d1 := cell_later bD e1
            have HTD : Hid (Two wk.heap.size W.drew 25 2 _ _ m m (cells2 (((rg rs k).take m).map (mvI X Y))) (cells2 (((rg rs k).take m).map lgI))) := HTW.out.keep (fun g _ => rfl)
            have hsD : W.drew.heap.size = H + 1 := hsW
            have hbD : Below wk.heap.size wk W.drew := hbW.drew
            clear HTW hsW hbW bD e0 e1
            refine wp_region_U (fun w' => w'.cell? ⟨H, 0, none⟩ = some (.int .i64 px) ∧ w'.cell? ⟨H, 1, none⟩ = some (.int .i64 py)) [13, 14] (by kernel_rfl) ?_
            intro hs0
            generalize hWD : W.drew = WD at *
            have bC : Below WD.heap.size WD (WD.alloc (.cells #[.int .i64 (wrap64 (px + X)), .int .i64 (wrap64 (py - Y))] 25)) := (Below.refl _ _).alloc (Nat.le_refl _) _
            have hsA : wk.heap.size ≤ (WD.alloc (.cells #[.int .i64 (wrap64 (px + X)), .int .i64 (wrap64 (py - Y))] 25)).heap.size := by simp; omega
            have hA2 : Hid (m + 1 ≤ maxLen) := by show _ ≤ _; unfold maxLen; omega
            refine anyU_take (i := 0) (v := u12) (f := 16) rfl (by kernel_rfl) (by kernel_rfl) (by kernel_rfl) (by kernel_rfl) (fun _ _ _ h => h) hs0 ⟨d0, d1⟩ ⟨by rfl, ?y0⟩ ?r0
            case y0 => intro w' hw'; (try obtain ⟨y0, y1⟩ := hw'); go_simp
            case r0 =>
            intro hs1
            simp only [Act.put, List.setIfInBounds_toArray, List.set_cons_zero, List.set_cons_succ, List.getElem_toArray, List.getElem_cons_succ, List.getElem_cons_zero]
            refine anyU_take (i := 1) (v := .pointer (some ⟨H, 0, none⟩)) (f := 16) rfl (by kernel_rfl) (by kernel_rfl) (by kernel_rfl) (by kernel_rfl) (fun _ _ _ h => h) hs1 ⟨d0, d1⟩ ⟨by rfl, ?y1⟩ ?r1
            case y1 => intro w' hw'; (try obtain ⟨y0, y1⟩ := hw'); go_simp
            case r1 =>
            intro hs2
            simp only [Act.put, List.setIfInBounds_toArray, List.set_cons_zero, List.set_cons_succ, List.getElem_toArray, List.getElem_cons_succ, List.getElem_cons_zero]
            refine anyU_take (i := 2) (v := .int .i64 px) (f := 16) rfl (by kernel_rfl) (by kernel_rfl) (by kernel_rfl) (by kernel_rfl) (fun _ _ _ h => h) hs2 ⟨d0, d1⟩ ⟨by rfl, ?y2⟩ ?r2
            case y2 => intro w' hw'; (try obtain ⟨y0, y1⟩ := hw'); go_simp
            case r2 =>
            intro hs3
            simp only [Act.put, List.setIfInBounds_toArray, List.set_cons_zero, List.set_cons_succ, List.getElem_toArray, List.getElem_cons_succ, List.getElem_cons_zero]
            refine anyU_take (i := 3) (v := .int .i64 x) (f := 16) rfl (by kernel_rfl) (by kernel_rfl) (by kernel_rfl) (by kernel_rfl) (fun _ _ _ h => h) hs3 ⟨d0, d1⟩ ⟨by rfl, ?y3⟩ ?r3
            case y3 => intro w' hw'; (try obtain ⟨y0, y1⟩ := hw'); go_simp
            case r3 =>
            intro hs4
            simp only [Act.put, List.setIfInBounds_toArray, List.set_cons_zero, List.set_cons_succ, List.getElem_toArray, List.getElem_cons_succ, List.getElem_cons_zero]
            refine anyU_take (i := 6) (v := .pointer (some ⟨H, 1, none⟩)) (f := 16) rfl (by kernel_rfl) (by kernel_rfl) (by kernel_rfl) (by kernel_rfl) (fun _ _ _ h => h) hs4 ⟨d0, d1⟩ ⟨by rfl, ?y6⟩ ?r6
            case y6 => intro w' hw'; (try obtain ⟨y0, y1⟩ := hw'); go_simp
            case r6 =>
            intro hs5
            simp only [Act.put, List.setIfInBounds_toArray, List.set_cons_zero, List.set_cons_succ, List.getElem_toArray, List.getElem_cons_succ, List.getElem_cons_zero]
            refine anyU_take (i := 7) (v := .int .i64 py) (f := 16) rfl (by kernel_rfl) (by kernel_rfl) (by kernel_rfl) (by kernel_rfl) (fun _ _ _ h => h) hs5 ⟨d0, d1⟩ ⟨by rfl, ?y7⟩ ?r7
            case y7 => intro w' hw'; (try obtain ⟨y0, y1⟩ := hw'); go_simp
            case r7 =>
            intro hs6
            simp only [Act.put, List.setIfInBounds_toArray, List.set_cons_zero, List.set_cons_succ, List.getElem_toArray, List.getElem_cons_succ, List.getElem_cons_zero]
            refine anyU_take (i := 8) (v := .int .i64 y) (f := 16) rfl (by kernel_rfl) (by kernel_rfl) (by kernel_rfl) (by kernel_rfl) (fun _ _ _ h => h) hs6 ⟨d0, d1⟩ ⟨by rfl, ?y8⟩ ?r8
            case y8 => intro w' hw'; (try obtain ⟨y0, y1⟩ := hw'); go_simp
            case r8 =>
            intro hs7
            simp only [Act.put, List.setIfInBounds_toArray, List.set_cons_zero, List.set_cons_succ, List.getElem_toArray, List.getElem_cons_succ, List.getElem_cons_zero]
            have hs8 := Shut.next hs7 (j := 4) (of_decide_eq_true (by kernel_rfl))
            refine anyU_one (i := 4) (by kernel_rfl) ?_
            refine wpOp_run rfl (by rfl) ?_
            go_simp
            refine (HX.out _).mono ?_
            rintro e wx ⟨rfl, hwx⟩
            rw [hwx]
            refine ⟨⟨d0, d1⟩, ?_⟩
            try simp only [Act.put, List.setIfInBounds_toArray, List.set_cons_zero, List.set_cons_succ, List.getElem_toArray, List.getElem_cons_succ, List.getElem_cons_zero]
            refine anyU_take (i := 5) (v := .int .i64 (wrap64 (px + X))) (f := 16) rfl (by kernel_rfl) (by kernel_rfl) (by kernel_rfl) (by kernel_rfl) (fun _ _ _ h => h) hs8 ⟨d0, d1⟩ ⟨by rfl, ?y5⟩ ?r5
            case y5 => intro w' hw'; (try obtain ⟨y0, y1⟩ := hw'); go_simp; try exact wrap_i64 _
            case r5 =>
            intro hs9
            simp only [Act.put, List.setIfInBounds_toArray, List.set_cons_zero, List.set_cons_succ, List.getElem_toArray, List.getElem_cons_succ, List.getElem_cons_zero]
            have hs10 := Shut.next hs9 (j := 9) (of_decide_eq_true (by kernel_rfl))
            refine anyU_one (i := 9) (by kernel_rfl) ?_
            refine wpOp_run rfl (by rfl) ?_
            go_simp
            refine (HY.out _).mono ?_
            rintro e wy ⟨rfl, hwy⟩
            rw [hwy]
            refine ⟨⟨d0, d1⟩, ?_⟩
            try simp only [Act.put, List.setIfInBounds_toArray, List.set_cons_zero, List.set_cons_succ, List.getElem_toArray, List.getElem_cons_succ, List.getElem_cons_zero]
            refine anyU_take (i := 10) (v := .int .i64 (wrap64 (py - Y))) (f := 16) rfl (by kernel_rfl) (by kernel_rfl) (by kernel_rfl) (by kernel_rfl) (fun _ _ _ h => h) hs10 ⟨d0, d1⟩ ⟨by rfl, ?y10⟩ ?r10
            case y10 => intro w' hw'; (try obtain ⟨y0, y1⟩ := hw'); go_simp; try exact wrap_i64 _
            case r10 =>
            intro hs11
            simp only [Act.put, List.setIfInBounds_toArray, List.set_cons_zero, List.set_cons_succ, List.getElem_toArray, List.getElem_cons_succ, List.getElem_cons_zero]
            refine anyU_take (i := 11) (v := .agg #[.int .i64 (wrap64 (px + X)), .int .i64 (wrap64 (py - Y))]) (f := 16) rfl (by kernel_rfl) (by kernel_rfl) (by kernel_rfl) (by kernel_rfl) (fun _ _ _ h => h) hs11 ⟨d0, d1⟩ ⟨by rfl, ?y11⟩ ?r11
            case y11 => intro w' hw'; (try obtain ⟨y0, y1⟩ := hw'); go_simp; try exact wrap_i64 _
            case r11 =>
            intro hs12
            simp only [Act.put, List.setIfInBounds_toArray, List.set_cons_zero, List.set_cons_succ, List.getElem_toArray, List.getElem_cons_succ, List.getElem_cons_zero]
            refine anyU_one (i := 12) (by kernel_rfl) ?_
            refine wpOp_run rfl (by rfl) ?_
            go_simp
            try refine ⟨⟨cell_later bC d0, cell_later bC d1⟩, ?_⟩
            refine anyU_one (i := 13) (by kernel_rfl) ?_
            refine wpOp_run rfl (by rfl) ?_
            refine wp_append_lies _ (.tmp 72) (.tmp 84) 50 rfl wk.heap.size 25 i0 _ 2 16 underSQ hi0 hz0 hz1 hz2 rfl (by decide) _ _ _ rfl (HTD.out.o1.alloc _) ⟨_, 0, none⟩ 1 1 _ rfl rfl (World.news_of_block (by rw [← hsD]; exact heap_alloc_new _ _)) (two_one _ _) (by decide) hA2.out (by omega) hsA _ rfl ?_
            intro g cp w2 hown2 hgrow2 hat2 hlt2
            refine ⟨fun h => (by cases h), ?_⟩
            refine anyU_one (i := 14) (by kernel_rfl) ?_
            refine wpOp_run rfl (by rfl) ?_
            go_simp
            try refine ⟨fun h => (by cases h), ?_⟩
            try refine anyU_end (by kernel_rfl) ?_
            have hg2 : (WD.alloc (.cells #[.int .i64 (wrap64 (px + X)), .int .i64 (wrap64 (py - Y))] 25)).grownBy w2 u12.ownBlock := hgrow2
            have htw2 := (HTD.out.alloc (.cells #[.int .i64 (wrap64 (px + X)), .int .i64 (wrap64 (py - Y))] 25)).grow hg2 hown2 hat2
            have k0 : w2.cell? ⟨H, 0, none⟩ = some (.int .i64 px) := by rw [hg2.cell_far ⟨H, 0, none⟩ (by simp; omega) (fun e => absurd (HL.out H (.inl e.symm)) (by omega))]; exact cell_later bC d0
            have k1 : w2.cell? ⟨H, 1, none⟩ = some (.int .i64 py) := by rw [hg2.cell_far ⟨H, 1, none⟩ (by simp; omega) (fun e => absurd (HL.out H (.inl e.symm)) (by omega))]; exact cell_later bC d1
            have hb2 : Below wk.heap.size wk w2 := (hbD.alloc (by omega) _).grown hg2 hsA (own_ge HTD.out.o1)
            have HT2 : Hid (Two wk.heap.size w2 25 2 (.slice (some ⟨g, 0, none⟩) (m + 1) cp) u13 (m + 1) m (cells2 (((rg rs k).take m).map (mvI X Y)) ++ [.int .i64 (wrap64 (px + X)), .int .i64 (wrap64 (py - Y))]) (cells2 (((rg rs k).take m).map lgI))) := htw2
            clear hgrow2 hown2 hat2 htw2 hg2 HTD hbD d0 d1 bC hsA hs0 hs1 hs2 hs3 hs4 hs5 hs6 hs7 hs8 hs9 hs10 hs11 hs12 hwx hwy
            have hsA2 : ∀ o : Obj, wk.heap.size ≤ (w2.alloc o).heap.size := fun o => by have := hb2.size; simp; omega
            go_wp2_with (at_builtin; refine wpList_append_lies _ rfl _ _ 50 rfl wk.heap.size 25 i0 _ 2 16 underSQ hi0 hz0 hz1 hz2 rfl (by decide) _ _ _ rfl (HT2.out.o2.alloc _) ⟨_, 0, none⟩ 1 1 _ rfl rfl (World.news_of_block (heap_alloc_new _ _)) (two_one _ _) (by decide) hA2.out (by omega) (hsA2 _) _ rfl ?_; intro g3 cp3 w3 hown3 hgrow3 hat3 hlt3)
            have htw3 := (((HT2.out.alloc _).swap).grow hgrow3 hown3 hat3).swap
            have hb3 : Below wk.heap.size wk w3 := (hb2.alloc (hb2.size) _).grown hgrow3 (hsA2 _) (own_ge HT2.out.o2)
            have ET : Hid (((rg rs k).take (m + 1)) = ((rg rs k).take m) ++ [(px, py)]) := (take_snoc' (rg rs k) m (0, 0) hlm).trans (by rw [← HE.out]; rfl)
            go_roundw
            case rel =>
              refine ⟨m + 1, b2, by omega, by go_num, rfl, fun h => ?_, ?_, hb3⟩
              · obtain ⟨q1, q2⟩ := hf2 h
                obtain ⟨q3, q4⟩ := HF1.out q1
                refine ⟨q3, fun j hj => ?_⟩
                by_cases e : j = m
                · subst e; rw [HE.out]; exact q2
                · exact q4 j (by omega)
              · rw [ET.out, List.map_append, List.map_append, cells2_append, cells2_append]
                exact htw3
            case measure => simp [intOf]; omega
        · have hmk : m = (rg rs k).length := by omega
          subst hmk
          have hbw : Below w.heap.size w wr := hb.trans (hbq.mono hb.size)
          have hw0 := hbw.size
          have hmv : Mv w.heap.size wr u8 u9 S1 S2 (rs.map (List.map (mvI X Y))) (rs.map (List.map lgI)) := HM.out.later hbq
          have htw' := htw
          rw [List.take_length] at htw'
          have hr : wr.ownsRow w.heap.size 25 2 u12 (rg (rs.map (List.map (mvI X Y))) S1.length).length (cells2 (rg (rs.map (List.map (mvI X Y))) S1.length)) := by rw [hl1, rg_map', List.length_map]; exact own_lower htw'.o1 hb.size
          have hs : wr.ownsRow w.heap.size 25 2 u13 (rg (rs.map (List.map lgI)) S2.length).length (cells2 (rg (rs.map (List.map lgI)) S2.length)) := by rw [hl2, rg_map', List.length_map]; exact own_lower htw'.o2 hb.size
          have sl : Hid (∀ (w : World) (B e size n : Nat) (v : Value) (xs : List Value), w.ownsRow B e size v n xs → ∃ a n c, v = .slice a n c) := fun w B e size n v xs h => by rcases h.2 with ⟨h1, _⟩ | ⟨g, c, cur, h1, _⟩ <;> exact ⟨_, _, _, h1⟩
          obtain ⟨a12, n12, c12, rfl⟩ := sl.out _ _ _ _ _ _ _ hr
          obtain ⟨a13, n13, c13, rfl⟩ := sl.out _ _ _ _ _ _ _ hs
          have HR : Hid (wr.ownsRow w.heap.size 25 2 (.slice a12 n12 c12) (rg (rs.map (List.map (mvI X Y))) S1.length).length (cells2 (rg (rs.map (List.map (mvI X Y))) S1.length))) := hr
          have HS : Hid (wr.ownsRow w.heap.size 25 2 (.slice a13 n13 c13) (rg (rs.map (List.map lgI)) S2.length).length (cells2 (rg (rs.map (List.map lgI)) S2.length))) := hs
          have HMV : Hid (Mv w.heap.size wr u8 u9 S1 S2 (rs.map (List.map (mvI X Y))) (rs.map (List.map lgI))) := hmv
          have HF1 : Hid (b1 = true → b0 = true ∧ ∀ j, j < (rg rs k).length → Fit (pt (rg rs k) j)) := hf1
          have one1 : Hid (∀ a n c, ∀ u ∈ [Value.slice a n c], u.oneCell' = true) := fun a n c u hu => by rw [List.mem_singleton] at hu; subst hu; rfl
          clear hmv htw' hr hs htw HM hf1
          have hsz1 : ∀ o : Obj, w.heap.size ≤ (wr.alloc o).heap.size := fun o => by simp; omega
          have hlen0 : Hid (k + 1 ≤ maxLen) := by show _ ≤ _; unfold maxLen; omega
          have HP1 : Hid (∀ (o : Obj) (w' : World) (g cap : Nat), (wr.alloc o).grownBy w' u8.ownBlock → w'.ownsRow w.heap.size 50 1 (.slice (some ⟨g, 0, none⟩) (k + 1) cap) (k + 1) (S1 ++ [(.slice a12 n12 c12)]) → (u8.ownBlock = some g ∨ g = (wr.alloc o).heap.size) → Mv w.heap.size w' (.slice (some ⟨g, 0, none⟩) (k + 1) cap) u9 (S1 ++ [(.slice a12 n12 c12)]) S2 (rs.map (List.map (mvI X Y))) (rs.map (List.map lgI)) ∧ w'.ownsRow w.heap.size 25 2 (.slice a13 n13 c13) (rg (rs.map (List.map lgI)) S2.length).length (cells2 (rg (rs.map (List.map lgI)) S2.length)) ∧ Below w.heap.size w w') := fun o w' g cap h1 h2 h3 => ⟨by have q := HMV.out.push HR.out h1 (by rw [hl1]; exact h2) h3; rw [hl1] at q; exact q, own_far HS.out HMV.out.two.o1 h1, (hbw.alloc hw0 _).grown h1 (hsz1 _) (own_ge HMV.out.two.o1)⟩
          have HO1 : Hid (∀ o : Obj, (wr.alloc o).ownsRow w.heap.size 50 1 u8 k S1) := fun o => by have := HMV.out.two.o1.alloc o; rw [hl1] at this; exact this
          clear HR HS HMV
          go_upto_region 17 with fail
          go_cut [8] from 29 to 103 (fun v wx => ∃ g cap, v = .slice (some ⟨g, 0, none⟩) (k + 1) cap ∧ Mv w.heap.size wx v u9 (S1 ++ [(.slice a12 n12 c12)]) S2 (rs.map (List.map (mvI X Y))) (rs.map (List.map lgI)) ∧ wx.ownsRow w.heap.size 25 2 (.slice a13 n13 c13) (rg (rs.map (List.map lgI)) S2.length).length (cells2 (rg (rs.map (List.map lgI)) S2.length)) ∧ Below w.heap.size w wx)
          case first =>
            go_wp2_with (at_builtin; refine wpList_append_lies _ rfl _ _ 34 rfl w.heap.size 50 j0 _ 1 24 underR hj0 hy0 hy1 hy2 rfl (by decide) _ _ _ rfl (HO1.out _) ⟨_, 0, none⟩ 1 1 _ rfl rfl (World.news_of_block (heap_alloc_new _ _)) (one1.out _ _ _) (by decide) hlen0.out (by omega) (hsz1 _) _ rfl ?_; intro g cp w2 hown2 hgrow2 hat2 hlt2)
            go_meet
            exact ⟨_, _, rfl, HP1.out _ _ _ _ hgrow2 hown2 hat2⟩
          case rest =>
            obtain ⟨g, cp, rfl, hmv2, hs2, hb2⟩ := hcut
            have hw2 := hb2.size
            have hsz2 : ∀ o : Obj, w.heap.size ≤ (wc.alloc o).heap.size := fun o => by simp; omega
            have HO2 : Hid (∀ o : Obj, (wc.alloc o).ownsRow w.heap.size 50 1 u9 k S2) := fun o => by have := hmv2.two.o2.alloc o; rw [hl2] at this; exact this
            have HP2 : Hid (∀ (o : Obj) (w' : World) (g' cap : Nat), (wc.alloc o).grownBy w' u9.ownBlock → w'.ownsRow w.heap.size 50 1 (.slice (some ⟨g', 0, none⟩) (k + 1) cap) (k + 1) (S2 ++ [(.slice a13 n13 c13)]) → (u9.ownBlock = some g' ∨ g' = (wc.alloc o).heap.size) → Mv w.heap.size w' (.slice (some ⟨g, 0, none⟩) (k + 1) cp) (.slice (some ⟨g', 0, none⟩) (k + 1) cap) (S1 ++ [(.slice a12 n12 c12)]) (S2 ++ [(.slice a13 n13 c13)]) (rs.map (List.map (mvI X Y))) (rs.map (List.map lgI)) ∧ Below w.heap.size w w') := fun o w' g' cap h1 h2 h3 => ⟨by have q := hmv2.swap.push hs2 h1 (by rw [hl2]; exact h2) h3; rw [hl2] at q; exact q.swap, (hb2.alloc hw2 _).grown h1 (hsz2 _) (own_ge hmv2.two.o2)⟩
            clear hmv2 hs2 hb HP1 HO1
            go_wp2_with (at_builtin; refine wpList_append_lies _ rfl _ _ 34 rfl w.heap.size 50 j0 _ 1 24 underR hj0 hy0 hy1 hy2 rfl (by decide) _ _ _ rfl (HO2.out _) ⟨_, 0, none⟩ 1 1 _ rfl rfl (World.news_of_block (heap_alloc_new _ _)) (one1.out _ _ _) (by decide) hlen0.out (by omega) (hsz2 _) _ rfl ?_; intro g3 cp3 w3 hown3 hgrow3 hat3 hlt3)
            go_roundw
            case rel =>
              refine ⟨k + 1, b1, S1 ++ [(.slice a12 n12 c12)], S2 ++ [(.slice a13 n13 c13)], by omega, by simp [hl1], by simp [hl2], by go_num, rfl, fun h => ?_, HP2.out _ _ _ _ hgrow3 hown3 hat3⟩
              obtain ⟨q1, q2⟩ := HF1.out h
              intro j hj i hi
              by_cases e : j = k
              · subst e; exact q2 i (by omega)
              · exact HF.out q1 j (by omega) i hi
            case measure => simp [intOf]; omega
    · have hkr : k = rs.length := by omega
      subst hkr
      have hbs := hb.size
      cases b0 with
      | false =>
        clear hmv
        go_wp2
        go_ret
        exact ⟨by simp, hb⟩
      | true =>
        have hfl := fit_flat (hfit rfl)
        obtain ⟨r1, hr1⟩ : ∃ r1, r1 = rs.map (List.map (mvI X Y)) := ⟨_, rfl⟩
        obtain ⟨r2, hr2⟩ : ∃ r2, r2 = rs.map (List.map lgI) := ⟨_, rfl⟩
        have F1 := sim_facts (.inl rfl) (fun p hp => (mvI_sim hX hY (hfl p hp)).2) (hr1.trans (map_same fun p hp => (mvI_sim hX hY (hfl p hp)).1))
        have F2 := sim_facts (.inr rfl) (fun p hp => (lgI_sim (hfl p hp)).2) (hr2.trans (map_same fun p hp => (lgI_sim (hfl p hp)).1))
        have L1 : Hid (∀ k, (rg r1 k).length ≤ 8796093022208) := fun k => by rw [hr1, rg_map', List.length_map]; exact HLR.out k
        have L2 : Hid (∀ k, (rg r2 k).length ≤ 8796093022208) := fun k => by rw [hr2, rg_map', List.length_map]; exact HLR.out k
        rw [← hr1, ← hr2] at hmv
        clear hr1 hr2 hfit hfl
        obtain ⟨a1, c1, A1, C1, rfl, hc1, hm1, hR1⟩ := rings_of (by rw [hl1, F1.1]) hmv.two.o1 hmv.g1
        obtain ⟨a2, c2, A2, C2, rfl, hc2, hm2, hR2⟩ := rings_of (by rw [hl2, F2.1]) hmv.two.o2 hmv.g2
        have HR0 : Hid (RingsL wr a A C rs) := Rings.later hb HP.out
        have HR1 : Hid (RingsL wr a1 A1 C1 r1) := hR1
        have HR2 : Hid (RingsL wr a2 A2 C2 r2) := hR2
        have HF1 : Hid (r1.length = rs.length ∧ (verts r1).length = (verts rs).length ∧ chkP r1 = chkP rs ∧ areaP r1 = 1 * 1 * areaP rs) := F1
        have HF2 : Hid (r2.length = rs.length ∧ (verts r2).length = (verts rs).length ∧ chkP r2 = chkP rs ∧ areaP r2 = 2 * 2 * areaP rs) := F2
        have hA := area_in (rs := rs)
        have hw4 : wrap64 (4 * areaP rs) = 4 * areaP rs := wrap64_in _ (by omega) (by omega)
        have e1 : areaP r1 = areaP rs := by rw [F1.2.2.2]; omega
        have e2 : areaP r2 = 4 * areaP rs := by rw [F2.2.2.2]; omega
        have E1 : Hid (areaP r1 = areaP rs) := e1
        have E2 : Hid (areaP r2 = 4 * areaP rs) := e2
        clear hmv hR1 hR2 F1 F2 e1 e2 hl1 hl2
        by_cases hz : chkP rs = 0
        · have G := good_of hz
          obtain ⟨hn, hsz⟩ := wide_good hz
          obtain ⟨b, of, rfl⟩ : ∃ b of, a = some ⟨b, of, none⟩ := by
            rcases HP.out with h | ⟨b, of, rfl, _⟩
            · have := G.one; omega
            · exact ⟨b, of, rfl⟩
          obtain ⟨b', of', rfl⟩ : ∃ b of, a1 = some ⟨b, of, none⟩ := by
            rcases HR1.out with h | ⟨b, of, rfl, _⟩
            · have := G.one; have := HF1.out.1; omega
            · exact ⟨b, of, rfl⟩
          have HZ1 : Hid (chkP r1 = 0) := HF1.out.2.2.1.trans hz
          have HZ2 : Hid (chkP r2 = 0) := HF2.out.2.2.1.trans hz
          have HG : Hid (Good rs) := G
          have HG1 : Hid (Good r1) := good_of HZ1.out
          clear G
          go_upto_region 22 with (first | (go_at_call 21; refine (farea2 _ _ A C rs _ hcap hcm hn hsz HR0.out).mono ?_; rintro e w3 ⟨rfl, hb3⟩))
          go_upto_region 23 with (first | (go_at_call 21; refine (farea2 _ _ A1 C1 r1 _ hc1 hm1 (by rw [HF1.out.1]; exact hn) (by rw [HF1.out.2.1]; exact hsz) (Rings.later hb3 HR1.out)).mono ?_; rintro e w4 ⟨rfl, hb4⟩))
          have hb34 := below_then hb3 hb4
          go_upto_region 24 with (first | (go_at_call 21; refine (farea2 _ _ A2 C2 r2 _ hc2 hm2 (by rw [HF2.out.1]; exact hn) (by rw [HF2.out.2.1]; exact hsz) (Rings.later hb34 HR2.out)).mono ?_; rintro e w5 ⟨rfl, hb5⟩))
          have hb35 := below_then hb34 hb5
          go_upto_region 25 with (first | (go_at_call 28; refine (fnew_good _ _ _ A C rs _ hcap hcm hn hsz (Rings.later hb35 HR0.out) hz).mono ?_; rintro e w6 ⟨bM, T, F, rfl, hM, hb6⟩; have HM : Hid (MeshP w5.heap.size w6 rs bM T F) := hM; clear hM))
          have hb36 := below_then hb35 hb6
          go_upto_region 26 with (first | (go_at_call 28; refine (fnew_good _ _ _ A1 C1 r1 _ hc1 hm1 (by rw [HF1.out.1]; exact hn) (by rw [HF1.out.2.1]; exact hsz) (Rings.later hb36 HR1.out) HZ1.out).mono ?_; rintro e w7 ⟨bM1, T1, G1, rfl, hM, hb7⟩; have HM1 : Hid (MeshP w6.heap.size w7 r1 bM1 T1 G1) := hM; clear hM))
          have hb37 := below_then hb36 hb7
          have HL : Hid (T.length = (verts rs).length + 2 * rs.length - 4 ∧ 0 < T.length) := ⟨(mesh_facts HG.out HM.out).1, (mesh_facts HG.out HM.out).2.1⟩
          have HL1 : Hid (T1.length = (verts rs).length + 2 * rs.length - 4 ∧ 0 < T1.length) := by
            have q := mesh_facts HG1.out HM1.out
            rw [HF1.out.1, HF1.out.2.1] at q
            exact ⟨q.1, q.2.1⟩
          rw [HZ1.out, HZ2.out, E1.out, E2.out]
          go_wp2_with (first
            | (go_at_call 30; refine (ftri_any _ _ rs T F _ HL.out.2 (by have := HL.out.1; have := HG.out.few; have := HG.out.eight; omega) (HM.out.later hb7)).mono ?_; rintro e w8 ⟨bT, cT, rfl, hTl, ht, hb8⟩; have hb38 := below_then hb37 hb8; clear ht)
            | (go_at_call 30; refine (ftri_any _ _ r1 T1 G1 _ HL1.out.2 (by have := HL1.out.1; have := HG.out.few; have := HG.out.eight; omega) (HM1.out.later hb8)).mono ?_; rintro e w9 ⟨bT1, cT1, rfl, hTl1, ht1, hb9⟩; have hb39 := below_then hb38 hb9; clear ht1))
          go_ret
          exact ⟨by rw [HL.out.1, HL1.out.1]; simp, hb.trans (hb39.mono hbs)⟩
        · have hz' : (chkP rs == 0) = false := by rw [beq_eq_false_iff_ne]; exact hz
          have hz2 : (chkP rs != 0) = true := by rw [bne, hz']; rfl
          have HZ1 : Hid (chkP r1 ≠ 0) := by show _ ≠ _; rw [HF1.out.2.2.1]; exact hz
          have C1' : Hid (chkP r1 = chkP rs) := HF1.out.2.2.1
          have C2' : Hid (chkP r2 = chkP rs) := HF2.out.2.2.1
          go_upto_region 22 with (first | (go_at_call 21; refine (farea3 _ _ A C rs _ hcap hcm (by omega) HLR.out HR0.out).mono ?_; rintro e w3 ⟨rfl, hb3⟩))
          go_upto_region 23 with (first | (go_at_call 21; refine (farea3 _ _ A1 C1 r1 _ hc1 hm1 (by rw [HF1.out.1]; omega) L1.out (Rings.later hb3 HR1.out)).mono ?_; rintro e w4 ⟨rfl, hb4⟩))
          have hb34 := below_then hb3 hb4
          go_upto_region 24 with (first | (go_at_call 21; refine (farea3 _ _ A2 C2 r2 _ hc2 hm2 (by rw [HF2.out.1]; omega) L2.out (Rings.later hb34 HR2.out)).mono ?_; rintro e w5 ⟨rfl, hb5⟩))
          have hb35 := below_then hb34 hb5
          go_upto_region 25 with (first | (go_at_call 28; refine (fnew3_bad _ _ A C rs _ hcap hcm (by omega) HLR.out (Rings.later hb35 HR0.out) hz).mono ?_; rintro e w6 ⟨rfl, hb6⟩))
          have hb36 := below_then hb35 hb6
          go_upto_region 26 with (first | (go_at_call 28; refine (fnew3_bad _ _ A1 C1 r1 _ hc1 hm1 (by rw [HF1.out.1]; omega) L1.out (Rings.later hb36 HR1.out) HZ1.out).mono ?_; rintro e w7 ⟨rfl, hb7⟩))
          have hb37 := below_then hb36 hb7
          rw [C1'.out, C2'.out, E1.out, E2.out]
          go_wp2
          go_ret
          exact ⟨by simp, hb.trans (hb37.mono hbs)⟩
end Go.Proofs.Ytdkaoopkbhaheaa
