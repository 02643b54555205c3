import Derived.Test.YtdkaoopkbhaheaaPN8
import Derived.Test.YtdkaoopkbhaheaaPN22
namespace Go.Proofs.Ytdkaoopkbhaheaa
open Go.RowKit Go.Lib
open Jor
open scoped Classical
set_option linter.unusedVariables false
set_option linter.unusedSimpArgs false
set_option linter.unusedSectionVars false
def sim (s u v : Int) (p : IP) : IP := (s * p.1 + u, s * p.2 + v)
section
variable {s u v : Int} (hs : s = 1 ∨ s = 2)
include hs
theorem DI_sim (a b c : IP) : DI (sim s u v a) (sim s u v b) (sim s u v c) = s * s * DI a b c := by
  unfold DI Geo.D sim
  rcases hs with rfl | rfl <;> grind
theorem Over_sim (a b c d t : Int) : Geo.Over (s * a + t) (s * b + t) (s * c + t) (s * d + t) ↔ Geo.Over a b c d := by
  unfold Geo.Over
  rcases hs with rfl | rfl <;> omega
theorem Same_sim (x y : Int) : Geo.Same (s * s * x) (s * s * y) ↔ Geo.Same x y := by
  unfold Geo.Same
  rcases hs with rfl | rfl
  · simp only [Int.one_mul]
  · simp only [show (2 : Int) * 2 = 4 by rfl]; omega
theorem MtI_sim (a b c d : IP) : MtI (sim s u v a) (sim s u v b) (sim s u v c) (sim s u v d) ↔ MtI a b c d := by
  unfold MtI
  rw [DI_sim hs, DI_sim hs, DI_sim hs, DI_sim hs, Same_sim hs, Same_sim hs]
  unfold sim
  rw [Over_sim hs, Over_sim hs]
theorem crI_sim (p a b : IP) : crI (sim s u v p) (sim s u v a) (sim s u v b) = crI p a b := by
  unfold crI
  rw [DI_sim hs]
  generalize DI a b p = x
  unfold sim
  rcases hs with rfl | rfl
  · have h1 : ((1 * a.2 + v ≤ 1 * p.2 + v ∧ 1 * p.2 + v < 1 * b.2 + v ∧ 0 < 1 * 1 * x) ↔ (a.2 ≤ p.2 ∧ p.2 < b.2 ∧ 0 < x)) := by omega
    have h2 : ((1 * b.2 + v ≤ 1 * p.2 + v ∧ 1 * p.2 + v < 1 * a.2 + v ∧ 1 * 1 * x < 0) ↔ (b.2 ≤ p.2 ∧ p.2 < a.2 ∧ x < 0)) := by omega
    simp only [h1, h2]
  · have h1 : ((2 * a.2 + v ≤ 2 * p.2 + v ∧ 2 * p.2 + v < 2 * b.2 + v ∧ 0 < 2 * 2 * x) ↔ (a.2 ≤ p.2 ∧ p.2 < b.2 ∧ 0 < x)) := by omega
    have h2 : ((2 * b.2 + v ≤ 2 * p.2 + v ∧ 2 * p.2 + v < 2 * a.2 + v ∧ 2 * 2 * x < 0) ↔ (b.2 ≤ p.2 ∧ p.2 < a.2 ∧ x < 0)) := by omega
    simp only [h1, h2]
theorem sim_inj {a b : IP} (h : sim s u v a = sim s u v b) : a = b := by
  unfold sim at h
  simp only [Prod.mk.injEq] at h
  rcases hs with rfl | rfl
  · exact Prod.ext (by omega) (by omega)
  · exact Prod.ext (by omega) (by omega)
def Nr (s u v : Int) (p : IP) : Prop := nearP p ∧ nearP (sim s u v p)
theorem meetB_sim {a b c d : IP} (ha : Nr s u v a) (hb : Nr s u v b) (hc : Nr s u v c) (hd : Nr s u v d) : meetB (sim s u v a).1 (sim s u v a).2 (sim s u v b).1 (sim s u v b).2 (sim s u v c).1 (sim s u v c).2 (sim s u v d).1 (sim s u v d).2 = meetB a.1 a.2 b.1 b.2 c.1 c.2 d.1 d.2 := by
  rw [Bool.eq_iff_iff, meetB_iff _ _ _ _ ha.2 hb.2 hc.2 hd.2, meetB_iff _ _ _ _ ha.1 hb.1 hc.1 hd.1]
  exact MtI_sim hs a b c d
theorem touchB_sim {a b c d : IP} (e f : Nat × Nat) (ha : Nr s u v a) (hb : Nr s u v b) (hc : Nr s u v c) (hd : Nr s u v d) : touchB e f (sim s u v a) (sim s u v b) (sim s u v c) (sim s u v d) = touchB e f a b c d := by
  unfold touchB foldB
  rw [meetB_sim hs ha ha hb hd, meetB_sim hs hd hd ha hb, meetB_sim hs hc hc hd hb, meetB_sim hs hb hb hc hd, meetB_sim hs ha hb hc hd]
theorem crossedB_sim {p a b : IP} (hp : Nr s u v p) (ha : Nr s u v a) (hb : Nr s u v b) : crossedB (sim s u v p) (sim s u v a) (sim s u v b) = crossedB p a b := by
  rw [crossed_eq _ _ _ hp.2 ha.2 hb.2, crossed_eq _ _ _ hp.1 ha.1 hb.1, crI_sim hs]
end
theorem pt_map' (f : IP → IP) (l : List IP) {i : Nat} (h : i < l.length) : pt (l.map f) i = f (pt l i) := by
  unfold pt
  rw [getD_elem _ _ _ (by simpa using h), getD_elem _ _ _ h, List.getElem_map]
theorem rg_map' (f : IP → IP) (rs : List (List IP)) (k : Nat) : rg (rs.map (List.map f)) k = (rg rs k).map f := by
  unfold rg
  by_cases h : k < rs.length
  · rw [getD_elem _ _ _ (by simpa using h), getD_elem _ _ _ h, List.getElem_map]
  · rw [List.getD_eq_getElem?_getD, List.getD_eq_getElem?_getD, List.getElem?_eq_none (by simpa using h), List.getElem?_eq_none (by omega)]; rfl
theorem flat_map' (f : IP → IP) (rs : List (List IP)) : (rs.map (List.map f)).flatten = rs.flatten.map f := by
  exact List.map_flatten.symm
theorem eds_map (f : IP → IP) (rs : List (List IP)) : ∀ n, eds n (rs.map (List.map f)) = eds n rs := by
  induction rs with
  | nil => intro n; rfl
  | cons r rs ih => intro n; simp [eds, ih]
theorem off_map (f : IP → IP) (rs : List (List IP)) : ∀ k, off (rs.map (List.map f)) k = off rs k := by
  induction rs with
  | nil => intro k; rfl
  | cons r rs ih => intro k; cases k <;> simp [off, ih]
section
variable {s u v : Int} (hs : s = 1 ∨ s = 2) {rs : List (List IP)} (near : ∀ p ∈ rs.flatten, Nr s u v p)
include hs near
theorem nr_pt {i : Nat} (h : i < rs.flatten.length) : Nr s u v (pt rs.flatten i) := near _ (pt_mem h)
theorem nr_rg {k i : Nat} (h : i < (rg rs k).length) : Nr s u v (pt (rg rs k) i) := by
  obtain ⟨h1, h2⟩ := pt_at rs k i h
  rw [← h1]; exact nr_pt hs near h2
theorem touchE_sim {i j : Nat} (hi : i < rs.flatten.length) (hj : j < rs.flatten.length) : touchE (rs.map (List.map (sim s u v))) i j = touchE rs i j := by
  have lt : ∀ m, m < rs.flatten.length → (ed rs m).1 < rs.flatten.length ∧ (ed rs m).2 < rs.flatten.length := fun m hm => by
    obtain ⟨k, x, hk, hx, rfl⟩ := num_of rs m hm
    rw [ed_at rs k x hx]
    exact ⟨hm, (pt_at rs k _ (Nat.mod_lt _ (by omega))).2⟩
  have hed : ∀ m, ed (rs.map (List.map (sim s u v))) m = ed rs m := fun m => by unfold ed; rw [eds_map]
  unfold touchE
  rw [hed, hed, flat_map', pt_map' _ _ (lt i hi).1, pt_map' _ _ (lt i hi).2, pt_map' _ _ (lt j hj).1, pt_map' _ _ (lt j hj).2]
  exact touchB_sim hs _ _ (nr_pt hs near (lt i hi).1) (nr_pt hs near (lt i hi).2) (nr_pt hs near (lt j hj).1) (nr_pt hs near (lt j hj).2)
theorem withinP_sim {p : IP} (hp : Nr s u v p) (k : Nat) : withinP (sim s u v p) ((rg rs k).map (sim s u v)) = withinP p (rg rs k) := by
  have hl : ((rg rs k).map (sim s u v)).length = (rg rs k).length := List.length_map _
  have nxt : ∀ i, i < (rg rs k).length → (i + 1) % (rg rs k).length < (rg rs k).length := fun i hi => Nat.mod_lt _ (by omega)
  have hc : ∀ m, m ≤ (rg rs k).length → crs (sim s u v p) ((rg rs k).map (sim s u v)) m = crs p (rg rs k) m := by
    intro m
    induction m with
    | zero => intro _; rfl
    | succ m ih =>
      intro hm
      rw [crs, crs, ih (by omega), hl, pt_map' _ _ (show m < (rg rs k).length by omega), pt_map' _ _ (nxt m (by omega)), crossedB_sim hs hp (nr_rg hs near (by omega)) (nr_rg hs near (nxt m (by omega)))]
  have ho : ∀ m, m < (rg rs k).length → offE (sim s u v p) ((rg rs k).map (sim s u v)) m = offE p (rg rs k) m := fun m hm => by
    unfold offE
    rw [hl, pt_map' _ _ hm, pt_map' _ _ (nxt m hm), meetB_sim hs hp hp (nr_rg hs near hm) (nr_rg hs near (nxt m hm))]
  unfold withinP
  rw [hl, hc _ (Nat.le_refl _)]
  congr 1
  rw [Bool.eq_iff_iff, List.all_eq_true, List.all_eq_true]
  constructor
  · intro h m hm
    rw [← ho m (List.mem_range.1 hm)]; exact h m hm
  · intro h m hm
    rw [ho m (List.mem_range.1 hm)]; exact h m hm
theorem chk_sim : chkP (rs.map (List.map (sim s u v))) = chkP rs := by
  have hl : (rs.map (List.map (sim s u v))).length = rs.length := List.length_map _
  have hf : (rs.map (List.map (sim s u v))).flatten.length = rs.flatten.length := by rw [flat_map', List.length_map]
  have e1 : Many (rs.map (List.map (sim s u v))) = Many rs := by unfold Many; rw [hl]
  have e2 : Short (rs.map (List.map (sim s u v))) = Short rs := by
    unfold Short
    refine propext ⟨fun ⟨r, hr, h⟩ => ?_, fun ⟨r, hr, h⟩ => ⟨r.map (sim s u v), List.mem_map.2 ⟨r, hr, rfl⟩, by rw [List.length_map]; exact h⟩⟩
    obtain ⟨r', hr', rfl⟩ := List.mem_map.1 hr
    exact ⟨r', hr', by rwa [List.length_map] at h⟩
  have e3 : Far (rs.map (List.map (sim s u v))) = Far rs := by
    unfold Far
    rw [hf]
    refine propext ⟨fun h => ?_, fun h => ?_⟩
    · rcases h with h | ⟨p, hp, h⟩
      · exact .inl h
      · rw [flat_map'] at hp
        obtain ⟨q, hq, rfl⟩ := List.mem_map.1 hp
        exact absurd (near q hq).2 h
    · rcases h with h | ⟨p, hp, h⟩
      · exact .inl h
      · exact absurd (near p hp).1 h
  have e4 : Twice (rs.map (List.map (sim s u v))) = Twice rs := by
    unfold Twice
    rw [hf]
    refine propext ⟨fun ⟨i, j, h1, h2, h3⟩ => ⟨i, j, h1, h2, ?_⟩, fun ⟨i, j, h1, h2, h3⟩ => ⟨i, j, h1, h2, ?_⟩⟩
    · rw [flat_map', pt_map' _ _ h2, pt_map' _ _ (show j < rs.flatten.length by omega)] at h3
      exact sim_inj hs h3
    · rw [flat_map', pt_map' _ _ h2, pt_map' _ _ (show j < rs.flatten.length by omega), h3]
  have e5 : TouchP (rs.map (List.map (sim s u v))) = TouchP rs := by
    unfold TouchP
    rw [hf]
    refine propext ⟨fun ⟨i, j, h1, h2, h3⟩ => ⟨i, j, h1, h2, ?_⟩, fun ⟨i, j, h1, h2, h3⟩ => ⟨i, j, h1, h2, ?_⟩⟩
    · rwa [touchE_sim hs near h2 (by omega)] at h3
    · rwa [touchE_sim hs near h2 (by omega)]
  by_cases g2 : Short rs
  · unfold chkP first7
    rw [e1, e2, if_pos g2, if_pos g2]
  have big : ∀ k, k < rs.length → 0 < (rg rs k).length := fun k hk => by
    rcases Nat.lt_or_ge 0 (rg rs k).length with h | h
    · exact h
    · exact absurd ⟨_, rg_mem hk, by omega⟩ g2
  have e6 : OutP (rs.map (List.map (sim s u v))) = OutP rs := by
    unfold OutP
    rw [hl]
    refine propext ⟨fun ⟨k, h1, h2, h3⟩ => ⟨k, h1, h2, ?_⟩, fun ⟨k, h1, h2, h3⟩ => ⟨k, h1, h2, ?_⟩⟩
    · rwa [rg_map', rg_map', pt_map' _ _ (big k h2), withinP_sim hs near (nr_rg hs near (big k h2))] at h3
    · rwa [rg_map', rg_map', pt_map' _ _ (big k h2), withinP_sim hs near (nr_rg hs near (big k h2))]
  have e7 : NestP (rs.map (List.map (sim s u v))) = NestP rs := by
    unfold NestP
    rw [hl]
    refine propext ⟨fun ⟨k, j, h1, h2, h3, h4, h5, h6⟩ => ⟨k, j, h1, h2, h3, h4, h5, ?_⟩, fun ⟨k, j, h1, h2, h3, h4, h5, h6⟩ => ⟨k, j, h1, h2, h3, h4, h5, ?_⟩⟩
    · rwa [rg_map', rg_map', pt_map' _ _ (big k h2), withinP_sim hs near (nr_rg hs near (big k h2))] at h6
    · rwa [rg_map', rg_map', pt_map' _ _ (big k h2), withinP_sim hs near (nr_rg hs near (big k h2))]
  unfold chkP
  rw [e1, e2, e3, e4, e5, e6, e7]
theorem areaR_sim (k : Nat) : areaR ((rg rs k).map (sim s u v)).length (pt ((rg rs k).map (sim s u v))) = s * s * areaR (rg rs k).length (pt (rg rs k)) := by
  unfold areaR
  rw [List.length_map]
  by_cases h0 : (rg rs k).length = 0
  · rw [h0]; simp [sm]
  have nxt : ∀ i, i < (rg rs k).length → nxm (rg rs k).length i < (rg rs k).length := fun i hi => Nat.mod_lt _ (by omega)
  have step : sm (fun i => crx (pt ((rg rs k).map (sim s u v)) i) (pt ((rg rs k).map (sim s u v)) (nxm (rg rs k).length i))) (rg rs k).length = sm (fun i => s * s * crx (pt (rg rs k) i) (pt (rg rs k) (nxm (rg rs k).length i)) + (s * (v * (pt (rg rs k) i).1 - u * (pt (rg rs k) i).2) - s * (v * (pt (rg rs k) (nxm (rg rs k).length i)).1 - u * (pt (rg rs k) (nxm (rg rs k).length i)).2))) (rg rs k).length := by
    refine sm_congr fun i hi => ?_
    rw [pt_map' _ _ hi, pt_map' _ _ (nxt i hi)]
    unfold crx sim
    grind
  rw [step, sm_add, sm_mul, sm_sub (fun i => s * (v * (pt (rg rs k) i).1 - u * (pt (rg rs k) i).2)) (fun i => s * (v * (pt (rg rs k) (nxm (rg rs k).length i)).1 - u * (pt (rg rs k) (nxm (rg rs k).length i)).2))]
  rw [sm_perm (fun i => s * (v * (pt (rg rs k) i).1 - u * (pt (rg rs k) i).2)) (rg rs k).length (nxm (rg rs k).length) (pvm (rg rs k).length) nxt (fun i hi => Nat.mod_lt _ (by omega)) (fun i hi => ?_) (fun i hi => ?_)]
  · omega
  · have := nxm_cases hi
    unfold pvm
    rcases this with ⟨e, h⟩ | ⟨e, h⟩
    · rw [e, show i + 1 + ((rg rs k).length - 1) = i + (rg rs k).length by omega, Nat.add_mod_right, Nat.mod_eq_of_lt hi]
    · rw [e, Nat.zero_add, Nat.mod_eq_of_lt (by omega)]; omega
  · unfold pvm
    by_cases h : i = 0
    · rw [h, Nat.zero_add, Nat.mod_eq_of_lt (by omega)]
      unfold nxm
      rw [show (rg rs k).length - 1 + 1 = (rg rs k).length by omega, Nat.mod_self]
    · rw [show i + ((rg rs k).length - 1) = (i - 1) + (rg rs k).length by omega, Nat.add_mod_right, Nat.mod_eq_of_lt (by omega)]
      unfold nxm
      rw [Nat.mod_eq_of_lt (by omega)]; omega
theorem areaP_sim : areaP (rs.map (List.map (sim s u v))) = s * s * areaP rs := by
  have hc := chk_sim hs near
  unfold areaP
  rw [hc]
  by_cases hz : chkP rs = 0
  · rw [if_pos hz, if_pos hz]
    have g := good_of hz
    have g' := good_of (hc.trans hz)
    rw [(g.psum _ (Nat.le_refl _)).1, (g'.psum _ (Nat.le_refl _)).1, List.length_map, ← sm_mul]
    refine sm_congr fun k hk => ?_
    rw [rg_map', areaR_sim hs near k]
    generalize areaR (rg rs k).length (pt (rg rs k)) = x
    rcases hs with rfl | rfl
    · split <;> omega
    · split <;> omega
  · rw [if_neg hz, if_neg hz]; omega
end
end Go.Proofs.Ytdkaoopkbhaheaa
