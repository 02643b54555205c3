import Derived.Test.YtdkaoopkbhaheaaQN10
import Derived.Shelf.SlSortCmp.WholeK
import Derived.Ground.SlsfProg
namespace Go.Proofs.Ytdkaoopkbhaheaa
open Go.Shelf Go.RowKit Go.Lib Go.Sort
def Try.sortTri_ren : Go.Shelf.Ren := ⟨fun | 6 => 108 | 15 => 119 | 14 => 118 | 28 => 131 | 29 => 132 | 20 => 123 | 21 => 124 | 22 => 125 | 23 => 126 | 24 => 127 | 25 => 128 | 26 => 129 | 27 => 130 | 46 => 134 | 47 => 135 | 48 => 136 | 49 => 137 | 50 => 138 | 57 => 139 | n => n, fun | 22 => 52 | 24 => 57 | 25 => 156 | 3 => 3 | 39 => 141 | 0 => 0 | 53 => 175 | 55 => 102 | 4 => 4 | 46 => 169 | 45 => 168 | 50 => 139 | 5 => 5 | 9 => 9 | 66 => 178 | 70 => 182 | 76 => 184 | 77 => 185 | n => n, fun | n => n⟩
theorem Try.sortTri : Go.Proofs.SlLaysF0.n6 Try.prog Try.sortTri_ren := {
  mixed := by kernel_rfl,
  f6 := ⟨Try.f108.name, by decide, Try.func108.trans (congrArg some (by kernel_rfl))⟩,
  f14 := ⟨Try.f118.name, by decide, Try.func118.trans (congrArg some (by kernel_rfl))⟩,
  f15 := Try.func119.trans (congrArg some (by kernel_rfl)),
  f20 := ⟨Try.f123.name, by decide, Try.func123.trans (congrArg some (by kernel_rfl))⟩,
  f21 := ⟨Try.f124.name, by decide, Try.func124.trans (congrArg some (by kernel_rfl))⟩,
  f22 := ⟨Try.f125.name, by decide, Try.func125.trans (congrArg some (by kernel_rfl))⟩,
  f23 := ⟨Try.f126.name, by decide, Try.func126.trans (congrArg some (by kernel_rfl))⟩,
  f24 := ⟨Try.f127.name, by decide, Try.func127.trans (congrArg some (by kernel_rfl))⟩,
  f25 := ⟨Try.f128.name, by decide, Try.func128.trans (congrArg some (by kernel_rfl))⟩,
  f26 := ⟨Try.f129.name, by decide, Try.func129.trans (congrArg some (by kernel_rfl))⟩,
  f27 := ⟨Try.f130.name, by decide, Try.func130.trans (congrArg some (by kernel_rfl))⟩,
  f28 := Try.func131.trans (congrArg some (by kernel_rfl)),
  f29 := Try.func132.trans (congrArg some (by kernel_rfl)),
  f46 := ⟨Try.f134.name, by decide, Try.func134.trans (congrArg some (by kernel_rfl))⟩,
  f47 := Try.func135.trans (congrArg some (by kernel_rfl)),
  f48 := Try.func136.trans (congrArg some (by kernel_rfl)),
  f49 := ⟨Try.f137.name, by decide, Try.func137.trans (congrArg some (by kernel_rfl))⟩,
  f50 := ⟨Try.f138.name, by decide, Try.func138.trans (congrArg some (by kernel_rfl))⟩,
  f57 := ⟨Try.f139.name, by decide, Try.func139.trans (congrArg some (by kernel_rfl))⟩,
  t0 := Try.underlying0,
  a0 := Try.isAgg0,
  z0 := Try.sizeOf0,
  v0 := Try.zeroValue0,
  t3 := Try.underlying3,
  a3 := Try.isAgg3,
  z3 := Try.sizeOf3,
  v3 := Try.zeroValue3,
  t4 := Try.underlying4,
  a4 := Try.isAgg4,
  z4 := Try.sizeOf4,
  v4 := Try.zeroValue4,
  t5 := Try.underlying5,
  a5 := Try.isAgg5,
  z5 := Try.sizeOf5,
  v5 := Try.zeroValue5,
  t9 := Try.underlying9,
  a9 := Try.isAgg9,
  z9 := Try.sizeOf9,
  v9 := Try.zeroValue9,
  t22 := Try.underlying52,
  a22 := Try.isAgg52,
  z22 := Try.sizeOf52,
  v22 := Try.zeroValue52,
  t25 := Try.underlying156,
  a25 := Try.isAgg156,
  z25 := Try.sizeOf156,
  v25 := Try.zeroValue156,
  t39 := Try.underlying141,
  a39 := Try.isAgg141,
  z39 := Try.sizeOf141,
  v39 := Try.zeroValue141,
  t45 := Try.underlying168,
  a45 := Try.isAgg168,
  z45 := Try.sizeOf168,
  v45 := Try.zeroValue168,
  t46 := Try.underlying169,
  a46 := Try.isAgg169,
  z46 := Try.sizeOf169,
  v46 := Try.zeroValue169,
  t50 := Try.underlying139,
  a50 := Try.isAgg139,
  z50 := Try.sizeOf139,
  v50 := Try.zeroValue139,
  t53 := Try.underlying175,
  a53 := Try.isAgg175,
  z53 := Try.sizeOf175,
  v53 := Try.zeroValue175,
  t55 := Try.underlying102,
  a55 := Try.isAgg102,
  z55 := Try.sizeOf102,
  v55 := Try.zeroValue102,
  t66 := Try.underlying178,
  a66 := Try.isAgg178,
  z66 := Try.sizeOf178,
  v66 := Try.zeroValue178,
  t70 := Try.underlying182,
  a70 := Try.isAgg182,
  z70 := Try.sizeOf182,
  v70 := Try.zeroValue182,
  t76 := Try.underlying184,
  a76 := Try.isAgg184,
  z76 := Try.sizeOf184,
  v76 := Try.zeroValue184,
  t77 := Try.underlying185,
  a77 := Try.isAgg185,
  z77 := Try.sizeOf185,
  v77 := Try.zeroValue185 }
end Go.Proofs.Ytdkaoopkbhaheaa
namespace Go.Proofs.Ytdkaoopkbhaheaa
open Go.Shelf Go.RowKit Go.Lib Go.Sort
set_option linter.unusedVariables false
set_option linter.unusedSimpArgs false
set_option maxHeartbeats 400000 in
theorem compare2_any (a b : Int) (w : World) :
    Calls Try.prog 61 #[.int .i64 a, .int .i64 b] w fun e w' => e = .returned (.int .i64 (sgn (a - b))) ∧ w' = w := by
  by_cases h1 : a < b
  · rw [sgn_neg (show a - b < 0 by omega)]
    go_enter Try.func61, Try.ntmps61
    go_wp2
    go_ret
    exact ⟨rfl, rfl⟩
  · by_cases h2 : b < a
    · rw [sgn_pos (show 0 < a - b by omega)]
      go_enter Try.func61, Try.ntmps61
      go_wp2
      go_ret
      exact ⟨rfl, rfl⟩
    · rw [sgn_zero (show a - b = 0 by omega)]
      go_enter Try.func61, Try.ntmps61
      go_wp2
      go_ret
      exact ⟨rfl, rfl⟩
abbrev T3 := Nat × Nat × Nat
def enc3 (x : T3) : List Value := [.int .i64 (x.1 : Int), .int .i64 (x.2.1 : Int), .int .i64 (x.2.2 : Int)]
def cf3 (x y : T3) : Int := if sgn ((x.1 : Int) - y.1) ≠ 0 then sgn ((x.1 : Int) - y.1) else if sgn ((x.2.1 : Int) - y.2.1) ≠ 0 then sgn ((x.2.1 : Int) - y.2.1) else sgn ((x.2.2 : Int) - y.2.2)
def lt3 (x y : T3) : Prop := x.1 < y.1 ∨ (x.1 = y.1 ∧ (x.2.1 < y.2.1 ∨ (x.2.1 = y.2.1 ∧ x.2.2 < y.2.2)))
theorem lt_cf3 (x y : T3) : ltOf cf3 x y = true ↔ lt3 x y := by
  unfold ltOf cf3 lt3
  rw [decide_eq_true_iff]
  have h1 := sgn_cases ((x.1 : Int) - y.1)
  have h2 := sgn_cases ((x.2.1 : Int) - y.2.1)
  have h3 := sgn_cases ((x.2.2 : Int) - y.2.2)
  split
  · omega
  · split <;> omega
theorem lt_cf3_not (x y : T3) : ltOf cf3 x y = false ↔ ¬ lt3 x y := by
  rw [← lt_cf3]; simp
theorem swo3 : SWO (ltOf cf3) where
  irrefl x := by rw [lt_cf3_not]; unfold lt3; omega
  trans x y z h1 h2 := by rw [lt_cf3] at *; unfold lt3 at *; omega
  ntrans x y z h1 h2 := by rw [lt_cf3_not] at *; unfold lt3 at *; omega
set_option maxRecDepth 100000 in
set_option maxHeartbeats 4000000 in
theorem slCompare_any (b1 o1 b2 o2 : Nat) (x y : T3) (w : World) (c0 : w.cell? ⟨b1, o1, none⟩ = some (.int .i64 (x.1 : Int))) (c1 : w.cell? ⟨b1, o1 + 1, none⟩ = some (.int .i64 (x.2.1 : Int))) (c2 : w.cell? ⟨b1, o1 + 2, none⟩ = some (.int .i64 (x.2.2 : Int)))
    (d0 : w.cell? ⟨b2, o2, none⟩ = some (.int .i64 (y.1 : Int))) (d1 : w.cell? ⟨b2, o2 + 1, none⟩ = some (.int .i64 (y.2.1 : Int))) (d2 : w.cell? ⟨b2, o2 + 2, none⟩ = some (.int .i64 (y.2.2 : Int))) :
    Calls Try.prog 110 #[.slice (some ⟨b1, o1, none⟩) 3 3, .slice (some ⟨b2, o2, none⟩) 3 3] w fun e w' => e = .returned (.int .i64 (cf3 x y)) ∧ w' = w := by
  obtain ⟨x0, x1, x2⟩ := x
  obtain ⟨y0, y1, y2⟩ := y
  simp only at c0 c1 c2 d0 d1 d2
  go_enter Try.func110, Try.ntmps110
  go_wp2
  have HG : Hid (∃ g : Nat → Int, g = fun q => if q = 0 then sgn ((x0 : Int) - y0) else if q = 1 then sgn ((x1 : Int) - y1) else sgn ((x2 : Int) - y2)) := ⟨_, rfl⟩
  obtain ⟨g, hg⟩ := HG.out
  have HF0 : Hid (∀ {s : Int}, (∀ q, q < 0 → g q = 0) → s ≠ 0 → g 0 = s → cf3 (x0, x1, x2) (y0, y1, y2) = s) := fun _ h0 h1 => by
    rw [hg] at h1
    simp only [if_true] at h1
    unfold cf3
    rw [if_pos (by rw [h1]; exact h0)]; exact h1
  have HF1 : Hid (∀ {s : Int}, (∀ q, q < 1 → g q = 0) → s ≠ 0 → g 1 = s → cf3 (x0, x1, x2) (y0, y1, y2) = s) := fun h h0 h1 => by
    have e0 := h 0 (by omega)
    rw [hg] at h1 e0
    simp only [if_true, Nat.one_ne_zero, if_false] at h1 e0
    unfold cf3
    rw [if_neg (by rw [e0]; simp), if_pos (by rw [h1]; exact h0)]; exact h1
  have HF2 : Hid (∀ {s : Int}, (∀ q, q < 2 → g q = 0) → s ≠ 0 → g 2 = s → cf3 (x0, x1, x2) (y0, y1, y2) = s) := fun h h0 h1 => by
    have e0 := h 0 (by omega)
    have e1 := h 1 (by omega)
    rw [hg] at h1 e0 e1
    simp only [if_true, Nat.one_ne_zero, if_false, Nat.reduceEqDiff, Nat.succ_ne_zero] at h1 e0 e1
    unfold cf3
    rw [if_neg (by rw [e0]; simp), if_neg (by rw [e1]; simp)]; exact h1
  have HE : Hid ((∀ q, q < 3 → g q = 0) → cf3 (x0, x1, x2) (y0, y1, y2) = 0) := fun h => by
    have e0 := h 0 (by omega)
    have e1 := h 1 (by omega)
    have e2 := h 2 (by omega)
    rw [hg] at e0 e1 e2
    simp only [if_true, Nat.one_ne_zero, if_false, Nat.reduceEqDiff, Nat.succ_ne_zero] at e0 e1 e2
    unfold cf3
    rw [if_neg (by rw [e0]; simp), if_neg (by rw [e1]; simp)]; exact e2
  have G0 : Hid (g 0 = sgn ((x0 : Int) - y0)) := by rw [hg]; rfl
  have G1 : Hid (g 1 = sgn ((x1 : Int) - y1)) := by rw [hg]; rfl
  have G2 : Hid (g 2 = sgn ((x2 : Int) - y2)) := by rw [hg]; rfl
  clear hg HG
  go_loopw [5, 6, 7, 8, 11] (fun _ _ _ _ c wr => ∃ m : Nat, m ≤ 3 ∧ c = .int .i64 m ∧ (∀ q, q < m → g q = 0) ∧ w = wr) (fun _ _ _ _ c _ => 3 - (intOf c).toNat)
  case atStart => exact ⟨0, by omega, rfl, fun q h => absurd h (by omega), rfl⟩
  case round =>
    obtain ⟨m, hm, rfl, hall, rfl⟩ := hrel
    have HA : Hid (∀ q, q < m → g q = 0) := hall
    clear hall
    by_cases hlt : m < 3
    · have IX : Hid (m = 0 ∨ m = 1 ∨ m = 2) := by
        show m = 0 ∨ m = 1 ∨ m = 2
        omega
      rcases IX.out with rfl | rfl | rfl
      · have HN : Hid (∀ q, q < 0 + 1 → g q = 0 ∨ q = 0) := fun q hq => by
          rcases Nat.lt_or_ge q 0 with h | h
          · exact .inl (HA.out q h)
          · exact .inr (by omega)
        have CR : Hid (g 0 = sgn ((x0 : Int) - y0)) := G0.out
        have CC := compare2_any (x0 : Int) (y0 : Int)
        clear G0 G1 G2
        generalize sgn ((x0 : Int) - y0) = s at *
        by_cases h0 : s = 0
        · have HM : Hid (∀ q, q < 0 + 1 → g q = 0) := fun q hq => by
            rcases HN.out q hq with h | rfl
            · exact h
            · exact CR.out.trans h0
          clear HN HA CR
          subst h0
          go_wp2_with (go_at_call 61; refine (CC _).mono ?_; rintro e w1 ⟨rfl, rfl⟩)
          go_roundw
          case rel => exact ⟨0 + 1, by omega, rfl, HM.out, by first | rfl | trivial⟩
          case measure => simp [intOf]
        · have HR : Hid (cf3 (x0, x1, x2) (y0, y1, y2) = s) := HF0.out (fun q hq => HA.out q hq) h0 CR.out
          clear HN HA CR
          go_wp2_with (go_at_call 61; refine (CC _).mono ?_; rintro e w1 ⟨rfl, rfl⟩)
          go_ret
          exact ⟨ret2 HR.out, rfl⟩
      · have HN : Hid (∀ q, q < 1 + 1 → g q = 0 ∨ q = 1) := fun q hq => by
          rcases Nat.lt_or_ge q 1 with h | h
          · exact .inl (HA.out q h)
          · exact .inr (by omega)
        have CR : Hid (g 1 = sgn ((x1 : Int) - y1)) := G1.out
        have CC := compare2_any (x1 : Int) (y1 : Int)
        clear G0 G1 G2
        generalize sgn ((x1 : Int) - y1) = s at *
        by_cases h0 : s = 0
        · have HM : Hid (∀ q, q < 1 + 1 → g q = 0) := fun q hq => by
            rcases HN.out q hq with h | rfl
            · exact h
            · exact CR.out.trans h0
          clear HN HA CR
          subst h0
          go_wp2_with (go_at_call 61; refine (CC _).mono ?_; rintro e w1 ⟨rfl, rfl⟩)
          go_roundw
          case rel => exact ⟨1 + 1, by omega, rfl, HM.out, by first | rfl | trivial⟩
          case measure => simp [intOf]
        · have HR : Hid (cf3 (x0, x1, x2) (y0, y1, y2) = s) := HF1.out (fun q hq => HA.out q hq) h0 CR.out
          clear HN HA CR
          go_wp2_with (go_at_call 61; refine (CC _).mono ?_; rintro e w1 ⟨rfl, rfl⟩)
          go_ret
          exact ⟨ret2 HR.out, rfl⟩
      · have HN : Hid (∀ q, q < 2 + 1 → g q = 0 ∨ q = 2) := fun q hq => by
          rcases Nat.lt_or_ge q 2 with h | h
          · exact .inl (HA.out q h)
          · exact .inr (by omega)
        have CR : Hid (g 2 = sgn ((x2 : Int) - y2)) := G2.out
        have CC := compare2_any (x2 : Int) (y2 : Int)
        clear G0 G1 G2
        generalize sgn ((x2 : Int) - y2) = s at *
        by_cases h0 : s = 0
        · have HM : Hid (∀ q, q < 2 + 1 → g q = 0) := fun q hq => by
            rcases HN.out q hq with h | rfl
            · exact h
            · exact CR.out.trans h0
          clear HN HA CR
          subst h0
          go_wp2_with (go_at_call 61; refine (CC _).mono ?_; rintro e w1 ⟨rfl, rfl⟩)
          go_roundw
          case rel => exact ⟨2 + 1, by omega, rfl, HM.out, by first | rfl | trivial⟩
          case measure => simp [intOf]
        · have HR : Hid (cf3 (x0, x1, x2) (y0, y1, y2) = s) := HF2.out (fun q hq => HA.out q hq) h0 CR.out
          clear HN HA CR
          go_wp2_with (go_at_call 61; refine (CC _).mono ?_; rintro e w1 ⟨rfl, rfl⟩)
          go_ret
          exact ⟨ret2 HR.out, rfl⟩
    · have : m = 3 := by omega
      subst this
      have HR : Hid (cf3 (x0, x1, x2) (y0, y1, y2) = 0) := HE.out HA.out
      clear HA
      go_wp2
      go_ret
      exact ⟨ret2 HR.out, rfl⟩
end Go.Proofs.Ytdkaoopkbhaheaa
namespace Go.Proofs.Ytdkaoopkbhaheaa
open Go.Shelf Go.RowKit Go.Lib
open Go.Sort (grow HoldsK Holds flatK putRowK putRow putCells mapBlock PermIn SortedIn alloc_eq_grow grow_grow)
set_option linter.unusedVariables false
set_option linter.unusedSimpArgs false
set_option maxHeartbeats 2000000 in
theorem closure3_any (x y : T3) (W : World) : Calls Try.prog 109 #[.agg (enc3 x).toArray, .agg (enc3 y).toArray] W fun e w' => e = .returned (.int .i64 (cf3 x y)) ∧ ∃ q os', w' = grow (W.drewN q) os' := by
  have x0 : ((W.alloc (.cells #[.int .i64 (x.1 : Int), .int .i64 (x.2.1 : Int), .int .i64 (x.2.2 : Int)] 57)).alloc (.cells #[.int .i64 (y.1 : Int), .int .i64 (y.2.1 : Int), .int .i64 (y.2.2 : Int)] 57)).drew.cell? ⟨W.heap.size, 0, none⟩ = some (.int .i64 (x.1 : Int)) := by simp [go_sem]
  have x1 : ((W.alloc (.cells #[.int .i64 (x.1 : Int), .int .i64 (x.2.1 : Int), .int .i64 (x.2.2 : Int)] 57)).alloc (.cells #[.int .i64 (y.1 : Int), .int .i64 (y.2.1 : Int), .int .i64 (y.2.2 : Int)] 57)).drew.cell? ⟨W.heap.size, 0 + 1, none⟩ = some (.int .i64 (x.2.1 : Int)) := by simp [go_sem]
  have x2 : ((W.alloc (.cells #[.int .i64 (x.1 : Int), .int .i64 (x.2.1 : Int), .int .i64 (x.2.2 : Int)] 57)).alloc (.cells #[.int .i64 (y.1 : Int), .int .i64 (y.2.1 : Int), .int .i64 (y.2.2 : Int)] 57)).drew.cell? ⟨W.heap.size, 0 + 2, none⟩ = some (.int .i64 (x.2.2 : Int)) := by simp [go_sem]
  have y0 : ((W.alloc (.cells #[.int .i64 (x.1 : Int), .int .i64 (x.2.1 : Int), .int .i64 (x.2.2 : Int)] 57)).alloc (.cells #[.int .i64 (y.1 : Int), .int .i64 (y.2.1 : Int), .int .i64 (y.2.2 : Int)] 57)).drew.cell? ⟨W.heap.size + 1, 0, none⟩ = some (.int .i64 (y.1 : Int)) := by simp [go_sem]
  have y1 : ((W.alloc (.cells #[.int .i64 (x.1 : Int), .int .i64 (x.2.1 : Int), .int .i64 (x.2.2 : Int)] 57)).alloc (.cells #[.int .i64 (y.1 : Int), .int .i64 (y.2.1 : Int), .int .i64 (y.2.2 : Int)] 57)).drew.cell? ⟨W.heap.size + 1, 0 + 1, none⟩ = some (.int .i64 (y.2.1 : Int)) := by simp [go_sem]
  have y2 : ((W.alloc (.cells #[.int .i64 (x.1 : Int), .int .i64 (x.2.1 : Int), .int .i64 (x.2.2 : Int)] 57)).alloc (.cells #[.int .i64 (y.1 : Int), .int .i64 (y.2.1 : Int), .int .i64 (y.2.2 : Int)] 57)).drew.cell? ⟨W.heap.size + 1, 0 + 2, none⟩ = some (.int .i64 (y.2.2 : Int)) := by simp [go_sem]
  have HG : Hid (∃ q os', ((W.alloc (.cells #[.int .i64 (x.1 : Int), .int .i64 (x.2.1 : Int), .int .i64 (x.2.2 : Int)] 57)).alloc (.cells #[.int .i64 (y.1 : Int), .int .i64 (y.2.1 : Int), .int .i64 (y.2.2 : Int)] 57)).drew = grow (W.drewN q) os') := ⟨1, _, by rw [alloc_eq_grow, alloc_eq_grow, grow_grow]; rfl⟩
  generalize hD : ((W.alloc (.cells #[.int .i64 (x.1 : Int), .int .i64 (x.2.1 : Int), .int .i64 (x.2.2 : Int)] 57)).alloc (.cells #[.int .i64 (y.1 : Int), .int .i64 (y.2.1 : Int), .int .i64 (y.2.2 : Int)] 57)).drew = D at *
  have HC : Hid (∀ z : Cls (fun w' => w' = D), Calls Try.prog 110 #[.slice (some ⟨W.heap.size, 0, none⟩) 3 3, .slice (some ⟨W.heap.size + 1, 0, none⟩) 3 3] z.val fun e w' => e = .returned (.int .i64 (cf3 x y)) ∧ ∃ z2 : Cls (fun w' => w' = D), w' = z2.val) := fun z => by
    rw [z.ok]
    exact (slCompare_any W.heap.size 0 (W.heap.size + 1) 0 x y D x0 x1 x2 y0 y1 y2).mono fun e w' ⟨h1, h2⟩ => ⟨h1, ⟨D, rfl⟩, h2⟩
  clear x0 x1 x2 y0 y1 y2
  have HD : Hid (((W.alloc (.cells #[.int .i64 (x.1 : Int), .int .i64 (x.2.1 : Int), .int .i64 (x.2.2 : Int)] 57)).alloc (.cells #[.int .i64 (y.1 : Int), .int .i64 (y.2.1 : Int), .int .i64 (y.2.2 : Int)] 57)).drew = D) := hD
  clear hD
  unfold enc3
  generalize cf3 x y = r at *
  have inst : Nonempty (Cls (fun w' : World => w' = D)) := ⟨⟨D, rfl⟩⟩
  go_enter Try.func109, Try.ntmps109
  go_wp2_with fail
  refine wp_region_cls (R := fun w' => w' = D) (by kernel_rfl) (by kernel_rfl) HD.out ?_
  repeat (first | go_big_quiet_step (first | (go_at_call 110; exact HC.out _)) | quiet_step (first | (go_at_call 110; exact HC.out _)))
  refine wpQuiet_nil ?_
  intro w4 hw'
  obtain ⟨z, hz⟩ := hw'
  have hz2 := z.ok
  rw [← hz] at hz2
  subst hz2
  clear hz z inst
  go_wp2
  go_ret
  exact ⟨rfl, HG.out⟩
def cells3 (T : List T3) : List Value := T.flatMap enc3
theorem cells3_length (T : List T3) : (cells3 T).length = T.length * 3 := by
  induction T with
  | nil => rfl
  | cons x T ih => simp [cells3, enc3] at *; omega
theorem cells3_snoc (T : List T3) (x : T3) : cells3 (T ++ [x]) = cells3 T ++ enc3 x := by simp [cells3]
theorem cells3_get (T : List T3) : ∀ t, t < T.length * 3 → (cells3 T)[t]! = (enc3 (T[t / 3]!))[t % 3]! := by
  induction T with
  | nil => intro t h; simp at h
  | cons x T ih =>
    intro t h
    have e : cells3 (x :: T) = enc3 x ++ cells3 T := by simp [cells3]
    have l : (enc3 x).length = 3 := rfl
    rw [e]
    by_cases ht : t < 3
    · have d : t / 3 = 0 := Nat.div_eq_of_lt ht
      have m : t % 3 = t := Nat.mod_eq_of_lt ht
      rw [d, m]
      simp only [List.getElem!_eq_getElem?_getD, List.getElem?_append_left (show t < (enc3 x).length by omega)]
      rfl
    · obtain ⟨u, rfl⟩ : ∃ u, t = u + 3 := ⟨t - 3, by omega⟩
      have d : (u + 3) / 3 = u / 3 + 1 := by omega
      have m : (u + 3) % 3 = u % 3 := by omega
      rw [d, m]
      have := ih u (by simp at h; omega)
      simp only [List.getElem!_eq_getElem?_getD] at this ⊢
      rw [List.getElem?_append_right (by omega), l, Nat.add_sub_cancel, this]
      simp
theorem flat3 (d : Array T3) : flatK enc3 3 d = (cells3 d.toList).toArray := by
  refine Go.Sort.ext_get! (by simp [cells3_length]) fun t ht => ?_
  have ht' : t < d.size * 3 := by simpa using ht
  rw [Go.Sort.get_flatK _ _ _ t ht']
  have := cells3_get d.toList t (by simpa using ht')
  have e : d[t / 3]! = d.toList[t / 3]! := by
    have hd : t / 3 < d.size := by omega
    rw [getElem!_pos d _ hd, getElem!_pos d.toList _ (by simpa using hd)]
    simp
  rw [e, ← this]
  simp
theorem lt3_tri {x y : T3} (h : ¬ lt3 y x) (hne : x ≠ y) : lt3 x y := by
  unfold lt3 at *
  obtain ⟨x0, x1, x2⟩ := x
  obtain ⟨y0, y1, y2⟩ := y
  simp only [Prod.mk.injEq, ne_eq] at hne
  simp only at h ⊢
  omega
set_option maxRecDepth 100000 in
set_option maxHeartbeats 2000000 in
theorem sort3_any (base g cap : Nat) (T : List T3) (w : World) (hT : T.length ≤ 1048576) (hg : w.ownsRow base 57 3 (.slice (some ⟨g, 0, none⟩) T.length cap) T.length (cells3 T)) (nd : T.Nodup) :
    Calls Try.prog 108 #[.slice (some ⟨g, 0, none⟩) T.length cap, .func (.func 109) #[] #[]] w fun e w' => e = .returned (.tuple #[]) ∧ ∃ T', T'.Perm T ∧ T'.Pairwise lt3 ∧ w'.ownsRow base 57 3 (.slice (some ⟨g, 0, none⟩) T.length cap) T.length (cells3 T') ∧ w'.os = w.os ∧ w'.tape = w.tape ∧ w'.output = w.output ∧ w.heap.size ≤ w'.heap.size ∧ ∀ k, k < w.heap.size → k ≠ g → w'.heap[k]? = w.heap[k]? := by
  obtain ⟨hl, h2⟩ := hg
  have hE : ∃ cur, base ≤ g ∧ w.heap[g]? = some (.cells cur 57 (0, 0)) ∧ T.length ≤ cap ∧ cap ≤ maxLen ∧ cur.size = cap * 3 ∧ cur.toList.take (T.length * 3) = cells3 T := by
    rcases h2 with ⟨h2, _⟩ | ⟨g', c', cur, e, h3, h4, h5, h6, h7, h8⟩
    · cases h2
    · simp only [Value.slice.injEq, Option.some.injEq, Addr.mk.injEq] at e
      obtain ⟨⟨rfl, _⟩, _, rfl⟩ := e
      exact ⟨cur, h3, h4, h5, h6, h7, h8⟩
  obtain ⟨cur, hb, hcur, hlc, hcm, hcs, htk⟩ := hE
  have hblk : g < w.heap.size := (Array.getElem?_eq_some_iff.1 hcur).1
  have hH : HoldsK enc3 3 w g 0 T.toArray := by
    intro j hj
    rw [flat3] at hj ⊢
    simp only [List.size_toArray, cells3_length] at hj
    have e : cur[j]? = (cells3 T)[j]? := by
      rw [← htk, List.getElem?_take, if_pos (by simpa using hj)]
      simp
    have hs : j < (cells3 T).length := by rw [cells3_length]; simpa using hj
    refine ⟨?_, by simp [World.frozen?, hcur]⟩
    simp only [World.cell?, hcur, Nat.zero_add]
    rw [e]
    simp [hs]
  have eg : ∀ args w, (callFunc 109 args).run Try.prog w = .ok (.enter 109 args) w := enters_of Try.func109 (by kernel_rfl) rfl
  have hcon := AnyQ.slices_SortFunc Try.sortTri 3 Try.isAgg57 Try.sizeOf57 enc3 (fun _ => rfl) (fun x v hv => by simp [enc3] at hv; rcases hv with rfl | rfl | rfl <;> rfl) cf3 swo3 109 #[] g 0 cap T.toArray w eg (fun _ _ _ _ x y => closure3_any x y _) hH hblk (by simp; omega)
  change Calls Try.prog 108 _ _ _ at hcon
  simp only [List.size_toArray] at hcon
  refine hcon.mono ?_
  rintro e w' ⟨rfl, d', m, os, hp, hs, rfl⟩
  obtain ⟨p1, _, p3⟩ := hp
  have hn : d'.size = T.length := by simpa using p1
  have perm : d'.toList.Perm T := by
    have e1 : d'.extract 0 T.length = d' := by rw [← hn]; simp
    have e2 : T.toArray.extract 0 T.length = T.toArray := by simp
    rw [e1, e2] at p3
    simpa using p3
  have nd' : d'.toList.Nodup := perm.nodup_iff.2 nd
  have hFs : (flatK enc3 3 d').size = T.length * 3 := by simp [hn]
  have hb2 : (sortWorldK enc3 3 w g 0 m d' os).heap[g]? = some (.cells (putCells id 0 (flatK enc3 3 d') cur) 57 (0, 0)) := by
    unfold sortWorldK putRowK putRow mapBlock grow
    simp only
    rw [Array.getElem?_append, if_pos (by simp [Sort.ahead]; exact hblk), Array.getElem?_modify, if_pos rfl]
    simp [Sort.ahead, hcur, Sort.onCells]
  refine ⟨rfl, d'.toList, perm, ?_, ⟨?_, .inr ⟨g, cap, _, rfl, hb, hb2, hlc, hcm, ?_, ?_⟩⟩, rfl, rfl, rfl, ?_, ?_⟩
  · rw [List.pairwise_iff_getElem]
    intro i j hi hj hij
    have := hs i j (by omega) hij (by simp at hj; omega)
    rw [lt_cf3_not] at this
    have hi' : i < d'.size := by simpa using hi
    have hj' : j < d'.size := by simpa using hj
    rw [getElem!_pos d' i hi', getElem!_pos d' j hj'] at this
    have hne : d'.toList[i] ≠ d'.toList[j] := fun e => by
      have := (List.getElem_inj nd').1 e
      omega
    simp only [Array.getElem_toList] at hne ⊢
    exact lt3_tri this hne
  · rw [cells3_length]; simp [hn]
  · simp [putCells, hcs]
  · rw [flat3] at hFs ⊢
    have hle : T.length * 3 ≤ cap * 3 := Nat.mul_le_mul_right 3 hlc
    apply List.ext_getElem?
    intro i
    rw [List.getElem?_take]
    by_cases hi : i < T.length * 3
    · rw [if_pos hi]
      have h1 : i < cur.size := by omega
      have h3 : i < (cells3 d'.toList).length := by simpa using (show i < (cells3 d'.toList).toArray.size by omega)
      simp only [putCells, Array.getElem?_toList, Array.getElem?_mapIdx, Array.getElem?_eq_getElem h1, Option.map_some, Nat.zero_le, true_and, Nat.zero_add, Nat.sub_zero]
      rw [if_pos (by omega)]
      simp [h3]
    · rw [if_neg hi, List.getElem?_eq_none]
      rw [cells3_length]
      simp only [Array.length_toList, hn]
      omega
  · unfold sortWorldK putRowK putRow mapBlock grow
    simp [Sort.ahead]
  · intro k hk hkg
    unfold sortWorldK putRowK putRow mapBlock grow
    simp only
    rw [Array.getElem?_append, if_pos (by simp [Sort.ahead]; exact hk), Array.getElem?_modify, if_neg (fun e => hkg e.symm)]
    rfl
#print axioms sort3_any
end Go.Proofs.Ytdkaoopkbhaheaa
