/- What can be asked of a mesh: Locate. -/
import Derived.Test.YtdkaoopkbhaheaaQN25
namespace Go.Proofs.Ytdkaoopkbhaheaa
open Go.RowKit Go.Lib
open Jor
set_option linter.unusedVariables false
set_option linter.unusedSimpArgs false

/-- Whether the k-th triangle covers a point. -/
def covT (V : Nat → IP) (T : List T3) (p : IP) (k : Nat) : Bool := coverB V (T.getD k (0, 0, 0)).1 (T.getD k (0, 0, 0)).2.1 (T.getD k (0, 0, 0)).2.2 p
/-- What Locate tells. -/
def LocI (V : Nat → IP) (T : List T3) (p : IP) (r : Int) : Prop := (r = -1 ∧ (bndP p = false ∨ ∀ k, k < T.length → covT V T p k = false)) ∨ ∃ k : Nat, k < T.length ∧ r = k ∧ bndP p = true ∧ covT V T p k = true ∧ ∀ j, j < k → covT V T p j = false

set_option maxRecDepth 100000 in
set_option maxHeartbeats 4000000 in
theorem mlocate_any (g n c' gT cT bl : Nat) (V : Nat → IP) (T : List T3) (px py : Int) (w : World) (hn : n ≤ 64) (hT : T.length ≤ 1048576) (hl : ∀ t ∈ T, t.1 < n ∧ t.2.1 < n ∧ t.2.2 < n) (hp : PtsAt w g 0 n V) (ht : TriAt w gT T) :
    Calls Try.prog 59 #[.agg #[.slice (some ⟨g, 0, none⟩) n c', .slice (some ⟨gT, 0, none⟩) T.length cT, .map (some bl)], .agg #[.int .i64 px, .int .i64 py]] w fun e w' => ∃ r, e = .returned (.int .i64 r) ∧ LocI V T (px, py) r ∧ Below w.heap.size w w' := by
  have hb0 : Below w.heap.size w ((w.alloc (.cells #[.slice (some ⟨g, 0, none⟩) n c', .slice (some ⟨gT, 0, none⟩) T.length cT, .map (some bl)] 96)).alloc (.cells #[.int .i64 px, .int .i64 py] 25)) := ((Below.refl _ _).alloc (Nat.le_refl _) _).alloc (by simp) _
  have HP : Hid (PtsAt w g 0 n V) := hp
  have HT : Hid (TriAt w gT T) := ht
  have HL : Hid (∀ t ∈ T, t.1 < n ∧ t.2.1 < n ∧ t.2.2 < n) := hl
  have hA : ((w.alloc (.cells #[.slice (some ⟨g, 0, none⟩) n c', .slice (some ⟨gT, 0, none⟩) T.length cT, .map (some bl)] 96)).alloc (.cells #[.int .i64 px, .int .i64 py] 25)).heap[w.heap.size]? = some (.cells #[.slice (some ⟨g, 0, none⟩) n c', .slice (some ⟨gT, 0, none⟩) T.length cT, .map (some bl)] 96) := (allocs2 _ _ _).1
  have hB : ((w.alloc (.cells #[.slice (some ⟨g, 0, none⟩) n c', .slice (some ⟨gT, 0, none⟩) T.length cT, .map (some bl)] 96)).alloc (.cells #[.int .i64 px, .int .i64 py] 25)).heap[w.heap.size + 1]? = some (.cells #[.int .i64 px, .int .i64 py] 25) := (allocs2 _ _ _).2.1
  have hS : ((w.alloc (.cells #[.slice (some ⟨g, 0, none⟩) n c', .slice (some ⟨gT, 0, none⟩) T.length cT, .map (some bl)] 96)).alloc (.cells #[.int .i64 px, .int .i64 py] 25)).heap.size = w.heap.size + 1 + 1 := (allocs2 _ _ _).2.2
  clear hp ht hl
  cases hin : bndP (px, py) with
  | false =>
    go_enter Try.func59, Try.ntmps59
    go_wp2_with (go_at_call 78; refine (inBounds_any px py _).mono ?_; rintro e w1 ⟨rfl, hb1⟩; rw [hin])
    go_ret
    exact ⟨_, rfl, .inl ⟨rfl, .inl hin⟩, below_then hb0 hb1⟩
  | true =>
    have HA : Hid (((w.alloc (.cells #[.slice (some ⟨g, 0, none⟩) n c', .slice (some ⟨gT, 0, none⟩) T.length cT, .map (some bl)] 96)).alloc (.cells #[.int .i64 px, .int .i64 py] 25)).heap[w.heap.size]? = some (.cells #[.slice (some ⟨g, 0, none⟩) n c', .slice (some ⟨gT, 0, none⟩) T.length cT, .map (some bl)] 96)) := hA
    have HB : Hid (((w.alloc (.cells #[.slice (some ⟨g, 0, none⟩) n c', .slice (some ⟨gT, 0, none⟩) T.length cT, .map (some bl)] 96)).alloc (.cells #[.int .i64 px, .int .i64 py] 25)).heap[w.heap.size + 1]? = some (.cells #[.int .i64 px, .int .i64 py] 25)) := hB
    have HS : Hid (((w.alloc (.cells #[.slice (some ⟨g, 0, none⟩) n c', .slice (some ⟨gT, 0, none⟩) T.length cT, .map (some bl)] 96)).alloc (.cells #[.int .i64 px, .int .i64 py] 25)).heap.size = w.heap.size + 1 + 1) := hS
    have HB0 : Hid (Below w.heap.size w ((w.alloc (.cells #[.slice (some ⟨g, 0, none⟩) n c', .slice (some ⟨gT, 0, none⟩) T.length cT, .map (some bl)] 96)).alloc (.cells #[.int .i64 px, .int .i64 py] 25))) := hb0
    clear hA hB hS hb0
    go_enter Try.func59, Try.ntmps59
    go_wp2_with (go_at_call 78; refine (inBounds_any px py _).mono ?_; rintro e w1 ⟨rfl, hb1⟩; rw [hin]; have a1 := (hb1.block w.heap.size (by rw [HS.out]; omega)).trans HA.out; have A1 : Hid (w1.heap[w.heap.size]? = some (.cells #[.slice (some ⟨g, 0, none⟩) n c', .slice (some ⟨gT, 0, none⟩) T.length cT, .map (some bl)] 96)) := a1; have q0 : w1.cell? ⟨w.heap.size, 1, none⟩ = some (.slice (some ⟨gT, 0, none⟩) T.length cT) := (by simp [World.cell?, a1]); clear a1)
    have b1 := (hb1.block (w.heap.size + 1) (by rw [HS.out]; omega)).trans HB.out
    have B1 : Hid (w1.heap[w.heap.size + 1]? = some (.cells #[.int .i64 px, .int .i64 py] 25)) := b1
    have hb2 := below_then HB0.out hb1
    have hs1 : w.heap.size + 1 + 1 ≤ w1.heap.size := by have := hb1.size; rw [HS.out] at this; exact this
    clear hb1 HA HB HS HB0 b1 q0
    go_loopw [13] (fun x wq => ∃ k : Nat, k ≤ T.length ∧ x = .int .i64 k ∧ (∀ j, j < k → covT V T (px, py) j = false) ∧ Below w1.heap.size w1 wq) (fun x _ => T.length - (intOf x).toNat)
    case atStart => exact ⟨0, Nat.zero_le _, rfl, fun j hj => by omega, Below.refl _ _⟩
    case round =>
      obtain ⟨k, hk, rfl, hno, hbr⟩ := hrel
      have HNO : Hid (∀ j, j < k → covT V T (px, py) j = false) := hno
      have hbw := below_then hb2 hbr
      have hsr := hbr.size
      clear hno
      by_cases hlt : k < T.length
      · obtain ⟨t0', t1', t2'⟩ := HT.out k hlt
        have t0 := cell_later hbw t0'
        have t1 := cell_later hbw t1'
        have t2 := cell_later hbw t2'
        obtain ⟨l0, l1, l2⟩ := HL.out _ (t3_at hlt)
        have k0 : (0 : Int) ≤ (k : Int) := by omega
        have kn : (k : Int) < (T.length : Int) := by omega
        clear t0' t1' t2'
        have HCV : Hid (covT V T (px, py) k = coverB V (T.getD k (0, 0, 0)).1 (T.getD k (0, 0, 0)).2.1 (T.getD k (0, 0, 0)).2.2 (px, py)) := rfl
        generalize (T.getD k (0, 0, 0)).1 = p0 at *
        generalize (T.getD k (0, 0, 0)).2.1 = p1 at *
        generalize (T.getD k (0, 0, 0)).2.2 = p2 at *
        have hbe : Below wr.heap.size wr (wr.alloc (.cells #[.int .i64 (p0 : Int), .int .i64 (p1 : Int), .int .i64 (p2 : Int)] 57)) := (Below.refl _ _).alloc (Nat.le_refl _) _
        have hbe2 := below_then hbr hbe
        have ae := (hbe2.block w.heap.size (by omega)).trans A1.out
        have be := (hbe2.block (w.heap.size + 1) (by omega)).trans B1.out
        have g0 : (wr.alloc (.cells #[.int .i64 (p0 : Int), .int .i64 (p1 : Int), .int .i64 (p2 : Int)] 57)).cell? ⟨w.heap.size, 0, none⟩ = some (.slice (some ⟨g, 0, none⟩) n c') := by simp only [World.cell?, ae]; simp
        have g1 : (wr.alloc (.cells #[.int .i64 (p0 : Int), .int .i64 (p1 : Int), .int .i64 (p2 : Int)] 57)).cell? ⟨w.heap.size + 1, 0, none⟩ = some (.int .i64 px) := by simp only [World.cell?, be]; simp
        have g2 : (wr.alloc (.cells #[.int .i64 (p0 : Int), .int .i64 (p1 : Int), .int .i64 (p2 : Int)] 57)).cell? ⟨w.heap.size + 1, 1, none⟩ = some (.int .i64 py) := by simp only [World.cell?, be]; simp
        have g3 : (wr.alloc (.cells #[.int .i64 (p0 : Int), .int .i64 (p1 : Int), .int .i64 (p2 : Int)] 57)).cell? ⟨wr.heap.size, 0, none⟩ = some (.int .i64 (p0 : Int)) := by simp [go_sem]
        have g4 : (wr.alloc (.cells #[.int .i64 (p0 : Int), .int .i64 (p1 : Int), .int .i64 (p2 : Int)] 57)).cell? ⟨wr.heap.size, 1, none⟩ = some (.int .i64 (p1 : Int)) := by simp [go_sem]
        have g5 : (wr.alloc (.cells #[.int .i64 (p0 : Int), .int .i64 (p1 : Int), .int .i64 (p2 : Int)] 57)).cell? ⟨wr.heap.size, 2, none⟩ = some (.int .i64 (p2 : Int)) := by simp [go_sem]
        have HCC : Hid (Calls Try.prog 79 #[.agg #[.slice (some ⟨g, 0, none⟩) n c', .int .i64 (p0 : Int), .int .i64 (p1 : Int), .int .i64 (p2 : Int)], .agg #[.int .i64 px, .int .i64 py]] (wr.alloc (.cells #[.int .i64 (p0 : Int), .int .i64 (p1 : Int), .int .i64 (p2 : Int)] 57)) fun e w' => e = .returned (.bool (coverB V p0 p1 p2 (px, py))) ∧ Below (wr.alloc (.cells #[.int .i64 (p0 : Int), .int .i64 (p1 : Int), .int .i64 (p2 : Int)] 57)).heap.size (wr.alloc (.cells #[.int .i64 (p0 : Int), .int .i64 (p1 : Int), .int .i64 (p2 : Int)] 57)) w') := covers_any g 0 n c' p0 p1 p2 px py V _ (by omega) l0 l1 l2 (PtsAt.later (below_then hbw hbe) HP.out)
        have HBE : Hid (Below wr.heap.size wr (wr.alloc (.cells #[.int .i64 (p0 : Int), .int .i64 (p1 : Int), .int .i64 (p2 : Int)] 57))) := hbe
        clear ae be hbe hbe2
        cases hcv : coverB V p0 p1 p2 (px, py) with
        | false =>
          have CF : Hid (covT V T (px, py) k = false) := HCV.out.trans hcv
          go_wp2_with (go_at_call 79; refine Calls.mono HCC.out ?_; rintro e w3 ⟨rfl, hb3⟩; rw [hcv])
          go_roundw
          case rel =>
            refine ⟨k + 1, by omega, by go_num, fun j hj => ?_, below_then hbr (below_then HBE.out hb3)⟩
            rcases Nat.lt_or_ge j k with h | h
            · exact HNO.out j h
            · obtain rfl : j = k := by omega
              exact CF.out
          case measure => simp [intOf]; omega
        | true =>
          have CF : Hid (covT V T (px, py) k = true) := HCV.out.trans hcv
          go_wp2_with (go_at_call 79; refine Calls.mono HCC.out ?_; rintro e w3 ⟨rfl, hb3⟩; rw [hcv])
          go_ret
          exact ⟨_, rfl, .inr ⟨k, hlt, rfl, hin, CF.out, HNO.out⟩, below_then hbw (below_then HBE.out hb3)⟩
      · have : k = T.length := by omega
        subst this
        go_wp2
        go_ret
        exact ⟨_, rfl, .inl ⟨rfl, .inr HNO.out⟩, hbw⟩

set_option maxHeartbeats 1000000 in
theorem flocate_any (B bM : Nat) (rs : List (List IP)) (T : List T3) (F : Nat → Nat → Option Int) (px py : Int) (w : World) (hn : (verts rs).length ≤ 64) (h0 : 0 < T.length) (hT : T.length ≤ 1048576) (hl : ∀ t ∈ T, t.1 < (verts rs).length ∧ t.2.1 < (verts rs).length ∧ t.2.2 < (verts rs).length) (hM : MeshP B w rs bM T F) :
    Calls Try.prog 37 #[.pointer (some ⟨bM, 0, none⟩), .agg #[.int .i64 px, .int .i64 py]] w fun e w' => ∃ r, e = .returned (.int .i64 r) ∧ LocI (pt (verts rs)) T (px, py) r ∧ Below w.heap.size w w' := by
  obtain ⟨_, ⟨g, c', y, bl, L, h2, h3, h4⟩, h5, h6⟩ := hM
  obtain ⟨gT, cT, rfl⟩ : ∃ gT cT, y = .slice (some ⟨gT, 0, none⟩) T.length cT := by
    rcases h3.row.2 with ⟨_, h⟩ | ⟨b, c2, _, h, h2, _⟩
    · omega
    · exact ⟨b, c2, h⟩
  have hb0 : Below w.heap.size w (w.alloc (.cells #[.int .i64 px, .int .i64 py] 25)) := (Below.refl _ _).alloc (Nat.le_refl _) _
  have HC : Hid (∀ W, PtsAt W g 0 (verts rs).length (pt (verts rs)) → TriAt W gT T → Calls Try.prog 59 #[.agg #[.slice (some ⟨g, 0, none⟩) (verts rs).length c', .slice (some ⟨gT, 0, none⟩) T.length cT, .map (some bl)], .agg #[.int .i64 px, .int .i64 py]] W fun e w' => ∃ r, e = .returned (.int .i64 r) ∧ LocI (pt (verts rs)) T (px, py) r ∧ Below W.heap.size W w') := fun W h1 h2 => mlocate_any g _ c' gT cT bl _ T px py _ hn hT hl h1 h2
  have HPT : Hid (PtsAt (w.alloc (.cells #[.int .i64 px, .int .i64 py] 25)).drew g 0 (verts rs).length (pt (verts rs))) := PtsAt.later hb0.drew h3.pts
  have HTT : Hid (TriAt (w.alloc (.cells #[.int .i64 px, .int .i64 py] 25)).drew gT T) := by
    have := tri_cells (own_later h3.row hb0.drew)
    exact this
  have h2' := (hb0.block _ (Array.getElem?_eq_some_iff.1 h2).1).trans h2
  have c0 : (w.alloc (.cells #[.int .i64 px, .int .i64 py] 25)).cell? ⟨bM, 0, none⟩ = some (Value.slice (some ⟨g, 0, none⟩) (verts rs).length c') := by simp only [World.cell?, h2']; simp
  have c1 : (w.alloc (.cells #[.int .i64 px, .int .i64 py] 25)).cell? ⟨bM, 1, none⟩ = some (.slice (some ⟨gT, 0, none⟩) T.length cT) := by simp only [World.cell?, h2']; simp
  have c2 : (w.alloc (.cells #[.int .i64 px, .int .i64 py] 25)).cell? ⟨bM, 2, none⟩ = some (.map (some bl)) := by simp only [World.cell?, h2']; simp
  have hdr : Below (w.alloc (.cells #[.int .i64 px, .int .i64 py] 25)).heap.size (w.alloc (.cells #[.int .i64 px, .int .i64 py] 25)) (w.alloc (.cells #[.int .i64 px, .int .i64 py] 25)).drew := (Below.refl _ _).drew
  have c0' := cell_later hdr c0
  have c1' := cell_later hdr c1
  have c2' := cell_later hdr c2
  have HB0 : Hid (Below w.heap.size w (w.alloc (.cells #[.int .i64 px, .int .i64 py] 25)).drew) := hb0.drew
  clear h2 h2' h3 h4 h5 h6 hl hdr
  go_enter Try.func37, Try.ntmps37
  go_wp2
  go_region_held3 (fun w' => (Below w.heap.size w w' ∧ w.heap.size ≤ w.heap.size) ∧ PtsAt w' g 0 (verts rs).length (pt (verts rs)) ∧ TriAt w' gT T ∧ w'.cell? ⟨bM, 0, none⟩ = some (Value.slice (some ⟨g, 0, none⟩) (verts rs).length c') ∧ w'.cell? ⟨bM, 1, none⟩ = some (.slice (some ⟨gT, 0, none⟩) T.length cT) ∧ w'.cell? ⟨bM, 2, none⟩ = some (.map (some bl)) ∧ w'.cell? ⟨w.heap.size, 0, none⟩ = some (.int .i64 px) ∧ w'.cell? ⟨w.heap.size, 1, none⟩ = some (.int .i64 py))
    (first | (go_split_ands; refine ⟨⟨HB0.out, Nat.le_refl _⟩, HPT.out, HTT.out, c0', c1', c2', ?_, ?_⟩ <;> simp [go_sem]) | (go_split_ands; exact ⟨keep_below (by assumption) ⟨by assumption, by assumption⟩, PtsAt.later (by assumption) (by assumption), TriAt.later (by assumption) (by assumption), cell_later (by assumption) (by assumption), cell_later (by assumption) (by assumption), cell_later (by assumption) (by assumption), cell_later (by assumption) (by assumption), cell_later (by assumption) (by assumption)⟩) | (go_split_ands; refine ⟨⟨?_, ?_⟩, ?_, ?_, ?_, ?_, ?_, ?_, ?_⟩ <;> assumption))
    (first | (go_at_call 59; refine Calls.mono (HC.out _ (by go_split_ands; first | assumption | exact HPT.out) (by go_split_ands; first | assumption | exact HTT.out)) ?_; rintro e w3 ⟨r, rfl, hr, hb3⟩))
  go_split_ands
  have hbz : Below w.heap.size w w3 := by assumption
  go_wp2
  go_ret
  exact ⟨r, rfl, hr, hbz⟩
end Go.Proofs.Ytdkaoopkbhaheaa
