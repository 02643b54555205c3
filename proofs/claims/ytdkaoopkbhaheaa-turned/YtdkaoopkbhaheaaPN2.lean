import Derived.Test.YtdkaoopkbhaheaaPN0
namespace Go.Proofs.Ytdkaoopkbhaheaa
open Go.RowKit Go.Lib
open Jor
set_option linter.unusedVariables false
set_option linter.unusedSimpArgs false
def holdB (V : Nat → IP) (i j k v : Nat) : Bool := !in3 i j k v && coverB V i j k (V v)
set_option maxRecDepth 100000 in
set_option maxHeartbeats 4000000 in
theorem holds_any (b of n cap i j k v : Nat) (V : Nat → IP) (w : World) (hn : n ≤ 1048576) (hi : i < n) (hj : j < n) (hk : k < n) (hv : v < n) (hp : PtsAt w b of n V) :
    Calls Try.prog 115 #[tgv b of n cap i j k, .int .i64 (v : Int)] w fun e w' => e = .returned (.bool (holdB V i j k v)) ∧ Below w.heap.size w w' := by
  have hs : Below w.heap.size w (w.alloc (.cells #[.slice (some ⟨b, of, none⟩) n cap, .int .i64 (i : Int), .int .i64 (j : Int), .int .i64 (k : Int)] 126)) := (Below.refl _ _).alloc (Nat.le_refl _) _
  have HB : Hid (holdB V i j k v = (!in3 i j k v && coverB V i j k (V v))) := rfl
  have v0 : (0 : Int) ≤ (v : Int) := by omega
  have vn : (v : Int) < (n : Int) := by omega
  have HP : Hid (PtsAt (w.alloc (.cells #[.slice (some ⟨b, of, none⟩) n cap, .int .i64 (i : Int), .int .i64 (j : Int), .int .i64 (k : Int)] 126)) b of n V) := PtsAt.later hs hp
  have q1 := (HP.out v hv).1
  have q2 := (HP.out v hv).2
  have x0 : (w.alloc (.cells #[.slice (some ⟨b, of, none⟩) n cap, .int .i64 (i : Int), .int .i64 (j : Int), .int .i64 (k : Int)] 126)).cell? ⟨w.heap.size, 0, none⟩ = some (.slice (some ⟨b, of, none⟩) n cap) := by simp [go_sem]
  have x1 : (w.alloc (.cells #[.slice (some ⟨b, of, none⟩) n cap, .int .i64 (i : Int), .int .i64 (j : Int), .int .i64 (k : Int)] 126)).cell? ⟨w.heap.size, 1, none⟩ = some (.int .i64 (i : Int)) := by simp [go_sem]
  have x2 : (w.alloc (.cells #[.slice (some ⟨b, of, none⟩) n cap, .int .i64 (i : Int), .int .i64 (j : Int), .int .i64 (k : Int)] 126)).cell? ⟨w.heap.size, 2, none⟩ = some (.int .i64 (j : Int)) := by simp [go_sem]
  have x3 : (w.alloc (.cells #[.slice (some ⟨b, of, none⟩) n cap, .int .i64 (i : Int), .int .i64 (j : Int), .int .i64 (k : Int)] 126)).cell? ⟨w.heap.size, 3, none⟩ = some (.int .i64 (k : Int)) := by simp [go_sem]
  generalize hW : w.alloc (.cells #[.slice (some ⟨b, of, none⟩) n cap, .int .i64 (i : Int), .int .i64 (j : Int), .int .i64 (k : Int)] 126) = W at *
  have CT : Hid (∀ x : World, Below W.heap.size W x → Calls Try.prog 120 #[.slice (some ⟨w.heap.size, 1, none⟩) 3 3, .int .i64 (v : Int)] x fun e w' => e = .returned (.bool (in3 i j k v)) ∧ Below x.heap.size x w') := fun x hx =>
    (contains3_any w.heap.size 1 i j k v x (by omega) (by omega) (by omega) (by omega) (cell_later hx x1) (cell_later hx x2) (cell_later hx x3)).mono (by rintro e w' ⟨h1, h2⟩; exact ⟨h1, by rw [h2]; exact Below.refl _ _⟩)
  have CO : Hid (∀ x : World, Below W.heap.size W x → Calls Try.prog 79 #[.agg #[.slice (some ⟨b, of, none⟩) n cap, .int .i64 (i : Int), .int .i64 (j : Int), .int .i64 (k : Int)], .agg #[.int .i64 (V v).1, .int .i64 (V v).2]] x fun e w' => e = .returned (.bool (coverB V i j k (V v))) ∧ Below x.heap.size x w') := fun x hx =>
    covers_any b of n cap i j k _ _ V x hn hi hj hk (PtsAt.later hx HP.out)
  generalize hc : coverB V i j k (V v) = cb at *
  generalize hd : in3 i j k v = ib at *
  generalize (V v).1 = vx at *
  generalize (V v).2 = vy at *
  clear hp hc hd HP
  unfold tgv
  have inst : Nonempty (Cls (Below W.heap.size W)) := ⟨⟨W, Below.refl _ _⟩⟩
  have g1 := fun x => Cls.cell (W := W) x q1
  have g2 := fun x => Cls.cell (W := W) x q2
  have g3 := fun x => Cls.cell (W := W) x x0
  have g4 := fun x => Cls.cell (W := W) x x1
  have g5 := fun x => Cls.cell (W := W) x x2
  have g6 := fun x => Cls.cell (W := W) x x3
  cases ib
  · go_enter Try.func115, Try.ntmps115
    go_wp2_with fail
    refine wp_region_cls (R := Below W.heap.size W) (by kernel_rfl) (by kernel_rfl) (Below.refl _ _).drew ?_
    repeat (first | go_big_quiet_step (first | (go_at_call 120; exact Cls.calls _ (CT.out _ (Cls.ok _))) | (go_at_call 79; exact Cls.calls _ (CO.out _ (Cls.ok _)))) | quiet_step (first | (go_at_call 120; exact Cls.calls _ (CT.out _ (Cls.ok _))) | (go_at_call 79; exact Cls.calls _ (CO.out _ (Cls.ok _)))))
    refine wpQuiet_nil ?_
    intro w4 hw'
    obtain ⟨x, hx⟩ := hw'
    have hb4 := x.ok
    rw [← hx] at hb4
    clear hx x g1 g2 g3 g4 g5 g6 inst
    go_wp2
    go_ret
    exact ⟨retb HB.out, below_then hs hb4⟩
  · go_enter Try.func115, Try.ntmps115
    go_wp2_with fail
    refine wp_region_cls (R := Below W.heap.size W) (by kernel_rfl) (by kernel_rfl) (Below.refl _ _).drew ?_
    repeat (first | go_big_quiet_step (first | (go_at_call 120; exact Cls.calls _ (CT.out _ (Cls.ok _))) | (go_at_call 79; exact Cls.calls _ (CO.out _ (Cls.ok _)))) | quiet_step (first | (go_at_call 120; exact Cls.calls _ (CT.out _ (Cls.ok _))) | (go_at_call 79; exact Cls.calls _ (CO.out _ (Cls.ok _)))))
    refine wpQuiet_nil ?_
    intro w4 hw'
    obtain ⟨x, hx⟩ := hw'
    have hb4 := x.ok
    rw [← hx] at hb4
    clear hx x g1 g2 g3 g4 g5 g6 inst
    go_wp2
    go_ret
    exact ⟨retb HB.out, below_then hs hb4⟩
def crossedT (V : Nat → IP) (i j k e f : Nat) : Bool := decide (crossB V i j e f = true ∨ crossB V j k e f = true ∨ crossB V k i e f = true)
set_option maxRecDepth 100000 in
set_option maxHeartbeats 4000000 in
theorem tcrossed_any (b of n cap i j k p q : Nat) (V : Nat → IP) (w : World) (hn : n ≤ 1048576) (hi : i < n) (hj : j < n) (hk : k < n) (hpn : p < n) (hqn : q < n) (hp : PtsAt w b of n V) :
    Calls Try.prog 117 #[tgv b of n cap i j k, ev p q] w fun e w' => e = .returned (.bool (crossedT V i j k p q)) ∧ Below w.heap.size w w' := by
  have hs : Below w.heap.size w ((w.alloc (.cells #[.slice (some ⟨b, of, none⟩) n cap, .int .i64 (i : Int), .int .i64 (j : Int), .int .i64 (k : Int)] 126)).alloc (.cells #[.int .i64 (p : Int), .int .i64 (q : Int)] 120)) := ((Below.refl _ _).alloc (Nat.le_refl _) _).alloc (by simp) _
  have HP := PtsAt.later hs hp
  have x0 : ((w.alloc (.cells #[.slice (some ⟨b, of, none⟩) n cap, .int .i64 (i : Int), .int .i64 (j : Int), .int .i64 (k : Int)] 126)).alloc (.cells #[.int .i64 (p : Int), .int .i64 (q : Int)] 120)).cell? ⟨w.heap.size, 0, none⟩ = some (.slice (some ⟨b, of, none⟩) n cap) := by simp [go_sem]
  have y0 : ((w.alloc (.cells #[.slice (some ⟨b, of, none⟩) n cap, .int .i64 (i : Int), .int .i64 (j : Int), .int .i64 (k : Int)] 126)).alloc (.cells #[.int .i64 (p : Int), .int .i64 (q : Int)] 120)).cell? ⟨w.heap.size + 1, 0, none⟩ = some (.int .i64 (p : Int)) := by simp [go_sem]
  have y1 : ((w.alloc (.cells #[.slice (some ⟨b, of, none⟩) n cap, .int .i64 (i : Int), .int .i64 (j : Int), .int .i64 (k : Int)] 126)).alloc (.cells #[.int .i64 (p : Int), .int .i64 (q : Int)] 120)).cell? ⟨w.heap.size + 1, 1, none⟩ = some (.int .i64 (q : Int)) := by simp [go_sem]
  unfold tgv ev
  clear hp
  go_enter Try.func117, Try.ntmps117
  go_wp2_with (go_at_call 76; refine (sides_any i j k _).mono ?_; rintro e w1 ⟨rfl, hb1⟩)
  have hs1 := below_then hs hb1
  have HP1 := PtsAt.later hb1 HP
  have X0 := cell_later hb1 x0
  have Y0 := cell_later hb1 y0
  have Y1 := cell_later hb1 y1
  clear HP x0 y0 y1 hb1
  go_loopw [6, 10] (fun _ c wr => ∃ m : Nat, m ≤ 3 ∧ c = .int .i64 m ∧ (∀ u, u < m → crossB V (sd1 i j k u) (sd2 i j k u) p q = false) ∧ Below w1.heap.size w1 wr) (fun _ c _ => 3 - (intOf c).toNat)
  case atStart => exact ⟨0, by omega, rfl, fun q h => absurd h (by omega), Below.refl _ _⟩
  case round =>
    obtain ⟨m, hm, rfl, hall, hbr⟩ := hrel
    have HA : Hid (∀ u, u < m → crossB V (sd1 i j k u) (sd2 i j k u) p q = false) := hall
    clear hall
    by_cases hlt : m < 3
    · have hm0 : (0 : Int) ≤ (m : Int) := by omega
      have hm3 : (m : Int) < 3 := by omega
      have hd1 : sd1 i j k m < n := by unfold sd1; split; exact hi; split; exact hj; exact hk
      have hd2 : sd2 i j k m < n := by unfold sd2; split; exact hj; split; exact hk; exact hi
      have hA : Below wr.heap.size wr (wr.alloc (.cells #[.int .i64 (sd1 i j k m : Int), .int .i64 (sd2 i j k m : Int)] 120)) := (Below.refl _ _).alloc (Nat.le_refl _) _
      have X0' := cell_later hA (cell_later hbr X0)
      have Y0' := cell_later hA (cell_later hbr Y0)
      have Y1' := cell_later hA (cell_later hbr Y1)
      have HPr := PtsAt.later hA (PtsAt.later hbr HP1)
      have Pk : Hid (∀ u, u < m + 1 → u < m ∨ u = m) := fun u h => by omega
      have HC : Hid (crossB V (sd1 i j k m) (sd2 i j k m) p q = true → crossedT V i j k p q = true) := fun h => decide_eq_true (by
        obtain rfl | rfl | rfl : m = 0 ∨ m = 1 ∨ m = 2 := by omega
        · exact .inl h
        · exact .inr (.inl h)
        · exact .inr (.inr h))
      have IX : Hid (m = 0 ∨ m = 1 ∨ m = 2) := by
        show m = 0 ∨ m = 1 ∨ m = 2
        omega
      clear X0 Y0 Y1 HP1
      obtain ⟨ix0, ix1, ix2⟩ := index6 (.int .i64 (i : Int)) (.int .i64 (j : Int)) (.int .i64 (j : Int)) (.int .i64 (k : Int)) (.int .i64 (k : Int)) (.int .i64 (i : Int))
      have CR : Hid (Calls Try.prog 122 #[gv b of n cap, ev (sd1 i j k m) (sd2 i j k m), ev p q] (wr.alloc (.cells #[.int .i64 (sd1 i j k m : Int), .int .i64 (sd2 i j k m : Int)] 120)) fun e w' => e = .returned (.bool (crossB V (sd1 i j k m) (sd2 i j k m) p q)) ∧ Below (wr.alloc (.cells #[.int .i64 (sd1 i j k m : Int), .int .i64 (sd2 i j k m : Int)] 120)).heap.size (wr.alloc (.cells #[.int .i64 (sd1 i j k m : Int), .int .i64 (sd2 i j k m : Int)] 120)) w') := gcross_any b of n cap _ _ p q V _ hn hd1 hd2 hpn hqn HPr
      clear HPr hd1 hd2
      unfold gv ev at CR
      cases h0 : crossB V (sd1 i j k m) (sd2 i j k m) p q
      · have HN : Hid (∀ u, u < m + 1 → crossB V (sd1 i j k u) (sd2 i j k u) p q = false) := fun u hu => by
          rcases Pk.out u hu with h | rfl
          · exact HA.out u h
          · exact h0
        rw [h0] at CR
        clear HC HA Pk h0
        rcases IX.out with rfl | rfl | rfl
        all_goals
          simp only [sd1, sd2, if_true, if_false, Nat.succ_ne_zero, Nat.reduceEqDiff] at hA X0' Y0' Y1' CR
          go_wp2_with (go_at_call 122; refine CR.out.mono ?_; rintro e w2 ⟨rfl, hb2⟩)
          go_roundw
          case rel =>
            refine ⟨_, ?_, ?_, HN.out, below_then hbr (below_then hA hb2)⟩
            · omega
            · rfl
          case measure => simp [intOf]
      · have HR : Hid (crossedT V i j k p q = true) := HC.out h0
        rw [h0] at CR
        clear HC HA Pk h0
        rcases IX.out with rfl | rfl | rfl
        all_goals
          simp only [sd1, sd2, if_true, if_false, Nat.succ_ne_zero, Nat.reduceEqDiff] at hA X0' Y0' Y1' CR
          go_wp2_with (go_at_call 122; refine CR.out.mono ?_; rintro e w2 ⟨rfl, hb2⟩)
          go_ret
          exact ⟨retb HR.out, below_then hs1 (below_then hbr (below_then hA hb2))⟩
    · have : m = 3 := by omega
      subst this
      have HR : Hid (crossedT V i j k p q = false) := decide_eq_false (by
        rintro (h | h | h)
        · have := HA.out 0 (by omega)
          rw [show crossB V i j p q = false from this] at h; cases h
        · have := HA.out 1 (by omega)
          rw [show crossB V j k p q = false from this] at h; cases h
        · have := HA.out 2 (by omega)
          rw [show crossB V k i p q = false from this] at h; cases h)
      clear HA
      go_wp2
      go_ret
      exact ⟨retb HR.out, below_then hs1 hbr⟩
end Go.Proofs.Ytdkaoopkbhaheaa
namespace Go.Proofs.Ytdkaoopkbhaheaa
open Go.RowKit Go.Lib
open Jor
set_option linter.unusedVariables false
set_option linter.unusedSimpArgs false
def EdAt (w : World) (b of m : Nat) (E : Nat → Nat × Nat) : Prop := ∀ i, i < m → w.cell? ⟨b, of + i * 2, none⟩ = some (.int .i64 ((E i).1 : Int)) ∧ w.cell? ⟨b, of + i * 2 + 1, none⟩ = some (.int .i64 ((E i).2 : Int))
theorem EdAt.later {w1 w2 : World} {b of m : Nat} {E : Nat → Nat × Nat} (hb : Below w1.heap.size w1 w2) (h : EdAt w1 b of m E) : EdAt w2 b of m E := fun i hi => ⟨cell_later hb (h i hi).1, cell_later hb (h i hi).2⟩
def anyB (m : Nat) (f : Nat → Bool) : Bool := (List.range m).any f
theorem anyB_true {m : Nat} {f : Nat → Bool} : anyB m f = true ↔ ∃ u, u < m ∧ f u = true := by simp [anyB]
theorem anyB_false {m : Nat} {f : Nat → Bool} (h : ∀ u, u < m → f u = false) : anyB m f = false := by
  cases h2 : anyB m f
  · rfl
  · obtain ⟨u, hu, h3⟩ := anyB_true.1 h2
    rw [h u hu] at h3; cases h3
set_option maxRecDepth 100000 in
set_option maxHeartbeats 4000000 in
theorem indexEdge_any (b of n cap i j k be oe m ce : Nat) (V : Nat → IP) (E : Nat → Nat × Nat) (w : World) (hn : n ≤ 1048576) (hm : m ≤ 1048576) (hi : i < n) (hj : j < n) (hk : k < n) (hE : ∀ u, u < m → (E u).1 < n ∧ (E u).2 < n) (hp : PtsAt w b of n V) (he : EdAt w be oe m E) :
    Calls Try.prog 121 #[.slice (some ⟨be, oe, none⟩) m ce, .func (.func 117) #[tgv b of n cap i j k] #[]] w fun e w' => (∃ r : Int, e = .returned (.int .i64 r) ∧ (0 ≤ r ↔ anyB m (fun u => crossedT V i j k (E u).1 (E u).2) = true)) ∧ Below w.heap.size w w' := by
  have HE : Hid (∀ u, u < m → (E u).1 < n ∧ (E u).2 < n) := hE
  clear hE
  unfold tgv
  go_enter Try.func121, Try.ntmps121
  go_wp2
  go_loopw [5, 8] (fun _ c wr => ∃ q : Nat, q ≤ m ∧ c = .int .i64 q ∧ (∀ u, u < q → crossedT V i j k (E u).1 (E u).2 = false) ∧ Below w.heap.size w wr) (fun _ c _ => m - (intOf c).toNat)
  case atStart => exact ⟨0, by omega, rfl, fun q h => absurd h (by omega), Below.refl _ _⟩
  case round =>
    obtain ⟨q, hq, rfl, hall, hbr⟩ := hrel
    have HA : Hid (∀ u, u < q → crossedT V i j k (E u).1 (E u).2 = false) := hall
    clear hall
    by_cases hlt : q < m
    · have c1 := cell_later hbr (he q hlt).1
      have c2 := cell_later hbr (he q hlt).2
      have q0 : (0 : Int) ≤ (q : Int) := by omega
      have qm : (q : Int) < (m : Int) := by omega
      have CR : Hid (Calls Try.prog 117 #[tgv b of n cap i j k, ev (E q).1 (E q).2] wr fun e w' => e = .returned (.bool (crossedT V i j k (E q).1 (E q).2)) ∧ Below wr.heap.size wr w') := tcrossed_any b of n cap i j k _ _ V wr hn hi hj hk (HE.out q hlt).1 (HE.out q hlt).2 (PtsAt.later hbr hp)
      unfold tgv ev at CR
      have Pk : Hid (∀ u, u < q + 1 → u < q ∨ u = q) := fun u h => by omega
      cases h0 : crossedT V i j k (E q).1 (E q).2
      · have HN : Hid (∀ u, u < q + 1 → crossedT V i j k (E u).1 (E u).2 = false) := fun u hu => by
          rcases Pk.out u hu with h | rfl
          · exact HA.out u h
          · exact h0
        rw [h0] at CR
        clear HA Pk h0 hp he
        generalize (E q).1 = e1 at *
        generalize (E q).2 = e2 at *
        go_wp2_with (go_at_call 117; refine CR.out.mono ?_; rintro e w2 ⟨rfl, hb2⟩)
        go_roundw
        case rel => exact ⟨q + 1, by omega, by go_num, HN.out, below_then hbr hb2⟩
        case measure => simp [intOf]; omega
      · have HR : Hid (anyB m (fun u => crossedT V i j k (E u).1 (E u).2) = true) := anyB_true.2 ⟨q, hlt, h0⟩
        rw [h0] at CR
        clear HA Pk h0 hp he
        generalize (E q).1 = e1 at *
        generalize (E q).2 = e2 at *
        go_wp2_with (go_at_call 117; refine CR.out.mono ?_; rintro e w2 ⟨rfl, hb2⟩)
        go_ret
        exact ⟨⟨_, rfl, Iff.intro (fun _ => HR.out) (fun _ => by omega)⟩, below_then hbr hb2⟩
    · have : q = m := by omega
      subst this
      have HR : Hid (anyB q (fun u => crossedT V i j k (E u).1 (E u).2) = false) := anyB_false HA.out
      clear HA hp he
      go_wp2
      go_ret
      exact ⟨⟨_, rfl, Iff.intro (fun h => absurd h (by omega)) (fun h => by rw [HR.out] at h; cases h)⟩, hbr⟩
set_option maxHeartbeats 1000000 in
theorem containsEdge_any (b of n cap i j k be oe m ce : Nat) (V : Nat → IP) (E : Nat → Nat × Nat) (w : World) (hn : n ≤ 1048576) (hm : m ≤ 1048576) (hi : i < n) (hj : j < n) (hk : k < n) (hE : ∀ u, u < m → (E u).1 < n ∧ (E u).2 < n) (hp : PtsAt w b of n V) (he : EdAt w be oe m E) :
    Calls Try.prog 116 #[.slice (some ⟨be, oe, none⟩) m ce, .func (.func 117) #[tgv b of n cap i j k] #[]] w fun e w' => e = .returned (.bool (anyB m (fun u => crossedT V i j k (E u).1 (E u).2))) ∧ Below w.heap.size w w' := by
  have CI : Hid (Calls Try.prog 121 #[.slice (some ⟨be, oe, none⟩) m ce, .func (.func 117) #[tgv b of n cap i j k] #[]] w fun e w' => (∃ r : Int, e = .returned (.int .i64 r) ∧ (0 ≤ r ↔ anyB m (fun u => crossedT V i j k (E u).1 (E u).2) = true)) ∧ Below w.heap.size w w') := indexEdge_any b of n cap i j k be oe m ce V E w hn hm hi hj hk hE hp he
  clear hE hp he
  generalize anyB m (fun u => crossedT V i j k (E u).1 (E u).2) = ab at *
  unfold tgv at *
  go_enter Try.func116, Try.ntmps116
  go_wp2_with (go_at_call 121; refine CI.out.mono ?_; rintro e w1 ⟨⟨r, rfl, hr⟩, hb1⟩; have HR : Hid (0 ≤ r ↔ ab = true) := hr; clear hr)
  go_ret
  refine ⟨retb ?_, hb1⟩
  cases ab
  · exact (decide_eq_false (fun h => by have := HR.out.1 h; cases this)).symm
  · exact (decide_eq_true (HR.out.2 rfl)).symm
structure CutAt (w : World) (bc b of n cap be oe m ce bm : Nat) : Prop where
  pts : w.cell? ⟨bc, 0, none⟩ = some (.slice (some ⟨b, of, none⟩) n cap)
  eds : w.cell? ⟨bc, 1, none⟩ = some (.slice (some ⟨be, oe, none⟩) m ce)
  mp : w.cell? ⟨bc, 2, none⟩ = some (.map (some bm))
theorem CutAt.later {w1 w2 : World} {bc b of n cap be oe m ce bm : Nat} (hb : Below w1.heap.size w1 w2) (h : CutAt w1 bc b of n cap be oe m ce bm) : CutAt w2 bc b of n cap be oe m ce bm := ⟨cell_later hb h.pts, cell_later hb h.eds, cell_later hb h.mp⟩
def clearB (V : Nat → IP) (n : Nat) (E : Nat → Nat × Nat) (m i j k : Nat) : Bool := !anyB n (fun v => holdB V i j k v) && !anyB m (fun u => crossedT V i j k (E u).1 (E u).2)
set_option maxRecDepth 100000 in
set_option maxHeartbeats 4000000 in
theorem clear_any (bc b of n cap i j k be oe m ce bm : Nat) (V : Nat → IP) (E : Nat → Nat × Nat) (w : World) (hn : n ≤ 1048576) (hm : m ≤ 1048576) (hi : i < n) (hj : j < n) (hk : k < n) (hE : ∀ u, u < m → (E u).1 < n ∧ (E u).2 < n) (hc : CutAt w bc b of n cap be oe m ce bm) (hp : PtsAt w b of n V) (he : EdAt w be oe m E) :
    Calls Try.prog 107 #[.pointer (some ⟨bc, 0, none⟩), tv i j k] w fun e w' => e = .returned (.bool (clearB V n E m i j k)) ∧ Below w.heap.size w w' := by
  have hs : Below w.heap.size w (w.alloc (.cells #[.int .i64 (i : Int), .int .i64 (j : Int), .int .i64 (k : Int)] 57)) := (Below.refl _ _).alloc (Nat.le_refl _) _
  have hc0 := CutAt.later hs hc
  have p0 := hc0.pts
  have hs2 : Below (w.alloc (.cells #[.int .i64 (i : Int), .int .i64 (j : Int), .int .i64 (k : Int)] 57)).heap.size (w.alloc (.cells #[.int .i64 (i : Int), .int .i64 (j : Int), .int .i64 (k : Int)] 57)) ((w.alloc (.cells #[.int .i64 (i : Int), .int .i64 (j : Int), .int .i64 (k : Int)] 57)).alloc (.cells #[.slice none 0 0, .int .i64 0, .int .i64 0, .int .i64 0] 126)) := (Below.refl _ _).alloc (Nat.le_refl _) _
  have p1 := cell_later hs2 p0
  have x0 : (w.alloc (.cells #[.int .i64 (i : Int), .int .i64 (j : Int), .int .i64 (k : Int)] 57)).cell? ⟨w.heap.size, 0, none⟩ = some (.int .i64 (i : Int)) := by simp [go_sem]
  have x1 : (w.alloc (.cells #[.int .i64 (i : Int), .int .i64 (j : Int), .int .i64 (k : Int)] 57)).cell? ⟨w.heap.size, 1, none⟩ = some (.int .i64 (j : Int)) := by simp [go_sem]
  have x2 : (w.alloc (.cells #[.int .i64 (i : Int), .int .i64 (j : Int), .int .i64 (k : Int)] 57)).cell? ⟨w.heap.size, 2, none⟩ = some (.int .i64 (k : Int)) := by simp [go_sem]
  unfold tv
  go_enter Try.func107, Try.ntmps107
  go_wp2
  go_region
  have hb0 : Below w.heap.size w ((w.alloc (.cells #[.int .i64 (i : Int), .int .i64 (j : Int), .int .i64 (k : Int)] 57)).alloc (.cells #[.slice (some ⟨b, of, none⟩) n cap, .int .i64 (i : Int), .int .i64 (j : Int), .int .i64 (k : Int)] 126)).drew := (((Below.refl _ _).alloc (Nat.le_refl _) _).alloc (by simp) _).drew
  have t0 : ((w.alloc (.cells #[.int .i64 (i : Int), .int .i64 (j : Int), .int .i64 (k : Int)] 57)).alloc (.cells #[.slice (some ⟨b, of, none⟩) n cap, .int .i64 (i : Int), .int .i64 (j : Int), .int .i64 (k : Int)] 126)).drew.cell? ⟨w.heap.size + 1, 0, none⟩ = some (.slice (some ⟨b, of, none⟩) n cap) := by simp [go_sem]
  have t1 : ((w.alloc (.cells #[.int .i64 (i : Int), .int .i64 (j : Int), .int .i64 (k : Int)] 57)).alloc (.cells #[.slice (some ⟨b, of, none⟩) n cap, .int .i64 (i : Int), .int .i64 (j : Int), .int .i64 (k : Int)] 126)).drew.cell? ⟨w.heap.size + 1, 1, none⟩ = some (.int .i64 (i : Int)) := by simp [go_sem]
  have t2 : ((w.alloc (.cells #[.int .i64 (i : Int), .int .i64 (j : Int), .int .i64 (k : Int)] 57)).alloc (.cells #[.slice (some ⟨b, of, none⟩) n cap, .int .i64 (i : Int), .int .i64 (j : Int), .int .i64 (k : Int)] 126)).drew.cell? ⟨w.heap.size + 1, 2, none⟩ = some (.int .i64 (j : Int)) := by simp [go_sem]
  have t3 : ((w.alloc (.cells #[.int .i64 (i : Int), .int .i64 (j : Int), .int .i64 (k : Int)] 57)).alloc (.cells #[.slice (some ⟨b, of, none⟩) n cap, .int .i64 (i : Int), .int .i64 (j : Int), .int .i64 (k : Int)] 126)).drew.cell? ⟨w.heap.size + 1, 3, none⟩ = some (.int .i64 (k : Int)) := by simp [go_sem]
  generalize hW : ((w.alloc (.cells #[.int .i64 (i : Int), .int .i64 (j : Int), .int .i64 (k : Int)] 57)).alloc (.cells #[.slice (some ⟨b, of, none⟩) n cap, .int .i64 (i : Int), .int .i64 (j : Int), .int .i64 (k : Int)] 126)).drew = W at *
  have c0 := cell_later hb0 hc.pts
  have c1 := cell_later hb0 hc.eds
  have HP : Hid (PtsAt W b of n V) := PtsAt.later hb0 hp
  have HD : Hid (EdAt W be oe m E) := EdAt.later hb0 he
  have HE : Hid (∀ u, u < m → (E u).1 < n ∧ (E u).2 < n) := hE
  clear hW hc0 p0 p1 x0 x1 x2 hs hs2 hp he hE hc
  go_wp2
  go_loopw [6, 19] (fun _ c wr => ∃ q : Nat, q ≤ n ∧ c = .int .i64 q ∧ (∀ u, u < q → holdB V i j k u = false) ∧ Below W.heap.size W wr) (fun _ c _ => n - (intOf c).toNat)
  case atStart => exact ⟨0, by omega, rfl, fun q h => absurd h (by omega), Below.refl _ _⟩
  case round =>
    obtain ⟨q, hq, rfl, hall, hbr⟩ := hrel
    have HA : Hid (∀ u, u < q → holdB V i j k u = false) := hall
    clear hall
    by_cases hlt : q < n
    · have t0' := cell_later hbr t0
      have t1' := cell_later hbr t1
      have t2' := cell_later hbr t2
      have t3' := cell_later hbr t3
      have q0 : (0 : Int) ≤ (q : Int) := by omega
      have qm : (q : Int) < (n : Int) := by omega
      have CR : Hid (Calls Try.prog 115 #[tgv b of n cap i j k, .int .i64 (q : Int)] wr fun e w' => e = .returned (.bool (holdB V i j k q)) ∧ Below wr.heap.size wr w') := holds_any b of n cap i j k q V wr hn hi hj hk hlt (PtsAt.later hbr HP.out)
      unfold tgv at CR
      have Pk : Hid (∀ u, u < q + 1 → u < q ∨ u = q) := fun u h => by omega
      clear t0 t1 t2 t3
      cases h0 : holdB V i j k q
      · have HN : Hid (∀ u, u < q + 1 → holdB V i j k u = false) := fun u hu => by
          rcases Pk.out u hu with h | rfl
          · exact HA.out u h
          · exact h0
        rw [h0] at CR
        clear HA Pk h0
        go_wp2_with (go_at_call 115; refine CR.out.mono ?_; rintro e w2 ⟨rfl, hb2⟩)
        go_roundw
        case rel => exact ⟨q + 1, by omega, by go_num, HN.out, below_then hbr hb2⟩
        case measure => simp [intOf]; omega
      · have HR : Hid (clearB V n E m i j k = false) := by
          show clearB V n E m i j k = false
          unfold clearB
          rw [anyB_true.2 ⟨q, hlt, h0⟩]; rfl
        rw [h0] at CR
        clear HA Pk h0
        go_wp2_with (go_at_call 115; refine CR.out.mono ?_; rintro e w2 ⟨rfl, hb2⟩)
        go_ret
        exact ⟨retb HR.out, below_then hb0 (below_then hbr hb2)⟩
    · have : q = n := by omega
      subst this
      have HR : Hid (clearB V q E m i j k = !anyB m (fun u => crossedT V i j k (E u).1 (E u).2)) := by
        show clearB V q E m i j k = _
        unfold clearB
        rw [anyB_false HA.out]; rfl
      have t0' := cell_later hbr t0
      have t1' := cell_later hbr t1
      have t2' := cell_later hbr t2
      have t3' := cell_later hbr t3
      have c0' := cell_later hbr c0
      have c1' := cell_later hbr c1
      have CR : Hid (∀ x, Below wr.heap.size wr x → Calls Try.prog 116 #[.slice (some ⟨be, oe, none⟩) m ce, .func (.func 117) #[tgv b of q cap i j k] #[]] x fun e w' => e = .returned (.bool (anyB m (fun u => crossedT V i j k (E u).1 (E u).2))) ∧ Below x.heap.size x w') := fun x hx => containsEdge_any b of q cap i j k be oe m ce V E x hn hm hi hj hk HE.out (PtsAt.later hx (PtsAt.later hbr HP.out)) (EdAt.later hx (EdAt.later hbr HD.out))
      unfold tgv at CR
      generalize anyB m (fun u => crossedT V i j k (E u).1 (E u).2) = ab at *
      clear HA t0 t1 t2 t3 c0 c1 HP HD HE
      go_wp2
      refine wp_region_cls (R := Below wr.heap.size wr) (by kernel_rfl) (by kernel_rfl) (Below.refl _ _).drew ?_
      have inst : Nonempty (Cls (Below wr.heap.size wr)) := ⟨⟨wr, Below.refl _ _⟩⟩
      have g0 := fun x => Cls.cell (W := wr) x t0'
      have g1 := fun x => Cls.cell (W := wr) x t1'
      have g2 := fun x => Cls.cell (W := wr) x t2'
      have g3 := fun x => Cls.cell (W := wr) x t3'
      have g4 := fun x => Cls.cell (W := wr) x c1'
      repeat (first | go_big_quiet_step (first | (go_at_call 116; exact Cls.calls _ (CR.out _ (Cls.ok _)))) | quiet_step (first | (go_at_call 116; exact Cls.calls _ (CR.out _ (Cls.ok _)))))
      refine wpQuiet_nil ?_
      intro w4 hw'
      obtain ⟨x, hx⟩ := hw'
      have hb4 := x.ok
      rw [← hx] at hb4
      clear hx x g0 g1 g2 g3 g4 inst
      go_wp2
      go_ret
      exact ⟨retb HR.out, below_then hb0 (below_then hbr hb4)⟩
end Go.Proofs.Ytdkaoopkbhaheaa
