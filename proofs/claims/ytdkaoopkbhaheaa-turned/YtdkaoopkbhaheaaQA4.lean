import Derived.Test.YtdkaoopkbhaheaaPB1
import Derived.Test.YtdkaoopkbhaheaaQR0
import Derived.Deep.DeepCutAuto
namespace Go.Proofs.Ytdkaoopkbhaheaa
open Go.RowKit
set_option linter.unusedSimpArgs false
set_option linter.unusedVariables false
def Lies (w : World) (B : Nat) (s : Value) (b : Nat) (u v : Value) : Prop :=
  s = .pointer (some ⟨b, 0, none⟩) ∧ B ≤ b ∧ w.cell? ⟨b, 0, none⟩ = some u ∧ w.cell? ⟨b, 1, none⟩ = some v ∧ w.frozen? ⟨b, 0, none⟩ = false ∧ w.frozen? ⟨b, 1, none⟩ = false
theorem Lies.lt {w : World} {B b : Nat} {s u v : Value} (h : Lies w B s b u v) : b < w.heap.size := World.block_lt_of_cell? _ _ h.2.2.1
theorem Lies.later {w w' : World} {B b : Nat} {s u v : Value} (hb : Below w.heap.size w w') (h : Lies w B s b u v) : Lies w' B s b u v :=
  ⟨h.1, h.2.1, cell_later hb h.2.2.1, cell_later hb h.2.2.2.1, (hb.frozen (p := ⟨b, 0, none⟩) h.lt).trans h.2.2.2.2.1, (hb.frozen (p := ⟨b, 1, none⟩) h.lt).trans h.2.2.2.2.2⟩
theorem Lies.stored {w : World} {B b : Nat} {s u v : Value} (u' v' : Value) (h : Lies w B s b u v) : Lies ((w.setCell ⟨b, 0, none⟩ u').setCell ⟨b, 1, none⟩ v') B s b u' v' := by
  obtain ⟨h1, h2, h3, h4, h5, h6⟩ := h
  refine ⟨h1, h2, ?_, ?_, ?_, ?_⟩ <;> simp [go_sem, h3, h4, h5, h6]
theorem Lies.apart {w : World} {B b b' : Nat} {s u v : Value} (u' v' : Value) (hn : b ≠ b') (h : Lies w B s b u v) : Lies ((w.setCell ⟨b', 0, none⟩ u').setCell ⟨b', 1, none⟩ v') B s b u v := by
  obtain ⟨h1, h2, h3, h4, h5, h6⟩ := h
  refine ⟨h1, h2, ?_, ?_, ?_, ?_⟩ <;> simp [go_sem, h3, h4, h5, h6, hn]
theorem Lies.made {w : World} {B : Nat} (hB : B ≤ w.heap.size) (t : TypeId) (u v : Value) : Lies (w.alloc (.cells #[u, v] t)) B (.pointer (some ⟨w.heap.size, 0, none⟩)) w.heap.size u v := by
  refine ⟨rfl, hB, ?_, ?_, ?_, ?_⟩ <;> simp [go_sem]
theorem Lies.alloc {w : World} {B b : Nat} {s u v : Value} (o : Obj) (h : Lies w B s b u v) : Lies (w.alloc o) B s b u v := h.later ((Below.refl _ _).alloc (Nat.le_refl _) _)
def cv (c k : Fin 7) (p : Int) : Int := if k ≤ c then p else 0
abbrev CSt := Fin 7 × Bool × Bool × Bool
def clst (s : CSt) : Array Bool := #[true, true, decide (1 ≤ s.1), true, true, decide (2 ≤ s.1), true, true, decide (3 ≤ s.1), s.2.1, s.2.2.1, s.2.2.2, decide (4 ≤ s.1), decide (5 ≤ s.1), decide (6 ≤ s.1)]
def cchain (c : Fin 7) (f : Bool × Bool × Bool) : List (Nat × CSt) := match c with
  | 0 => [(2, (1, f))]
  | 1 => [(5, (2, f))]
  | 2 => [(8, (3, f))]
  | _ => []
def ctail (c : Fin 7) (f : Bool × Bool × Bool) : List (Nat × CSt) := match f, c with
  | (true, true, true), 3 => [(12, (4, f))]
  | (true, true, true), 4 => [(13, (5, f))]
  | (true, true, true), 5 => [(14, (6, f))]
  | _, _ => []
def cone (b : Bool) (x : Nat × CSt) : List (Nat × CSt) := match b with
  | true => []
  | false => [x]
def cnext (s : CSt) : List (Nat × CSt) :=
  cchain s.1 s.2 ++ cone s.2.1 (9, (s.1, true, s.2.2.1, s.2.2.2)) ++ cone s.2.2.1 (10, (s.1, s.2.1, true, s.2.2.2)) ++ cone s.2.2.2 (11, (s.1, s.2.1, s.2.2.1, true)) ++ ctail s.1 s.2
def cmeas (s : CSt) : Nat := (6 - s.1.val) + (cone s.2.1 (0, s)).length + (cone s.2.2.1 (0, s)).length + (cone s.2.2.2 (0, s)).length
theorem cchain_cases : ∀ (c : Fin 7) (f : Bool × Bool × Bool), ∀ m ∈ cchain c f, (c = 0 ∧ m = (2, (1, f))) ∨ (c = 1 ∧ m = (5, (2, f))) ∨ (c = 2 ∧ m = (8, (3, f))) := by
  intro c f m hm
  unfold cchain at hm
  split at hm <;> simp at hm <;> simp [hm]
theorem ctail_cases : ∀ (c : Fin 7) (f : Bool × Bool × Bool), ∀ m ∈ ctail c f, f = (true, true, true) ∧ ((c = 3 ∧ m = (12, (4, f))) ∨ (c = 4 ∧ m = (13, (5, f))) ∨ (c = 5 ∧ m = (14, (6, f)))) := by
  intro c f m hm
  unfold ctail at hm
  split at hm <;> simp at hm <;> simp [hm]
theorem cone_cases {b : Bool} {x m : Nat × CSt} (h : m ∈ cone b x) : b = false ∧ m = x := by
  unfold cone at h
  split at h <;> simp at h
  exact ⟨rfl, h⟩
theorem cnext_cases (c : Fin 7) (x y z : Bool) (m : Nat × CSt) (h : m ∈ cnext (c, x, y, z)) :
    (c = 0 ∧ m = (2, (1, x, y, z))) ∨ (c = 1 ∧ m = (5, (2, x, y, z))) ∨ (c = 2 ∧ m = (8, (3, x, y, z))) ∨
    (x = false ∧ m = (9, (c, true, y, z))) ∨ (y = false ∧ m = (10, (c, x, true, z))) ∨ (z = false ∧ m = (11, (c, x, y, true))) ∨
    (x = true ∧ y = true ∧ z = true ∧ c = 3 ∧ m = (12, (4, x, y, z))) ∨ (x = true ∧ y = true ∧ z = true ∧ c = 4 ∧ m = (13, (5, x, y, z))) ∨ (x = true ∧ y = true ∧ z = true ∧ c = 5 ∧ m = (14, (6, x, y, z))) := by
  unfold cnext at h
  simp only [List.mem_append] at h
  rcases h with (((h | h) | h) | h) | h
  · rcases cchain_cases _ _ _ h with h | h | h
    · exact .inl h
    · exact .inr (.inl h)
    · exact .inr (.inr (.inl h))
  · exact .inr (.inr (.inr (.inl (cone_cases h))))
  · exact .inr (.inr (.inr (.inr (.inl (cone_cases h)))))
  · exact .inr (.inr (.inr (.inr (.inr (.inl (cone_cases h))))))
  · obtain ⟨hf, h⟩ := ctail_cases _ _ _ h
    simp only [Prod.mk.injEq] at hf
    obtain ⟨rfl, rfl, rfl⟩ := hf
    rcases h with h | h | h
    · exact .inr (.inr (.inr (.inr (.inr (.inr (.inl ⟨rfl, rfl, rfl, h⟩))))))
    · exact .inr (.inr (.inr (.inr (.inr (.inr (.inr (.inl ⟨rfl, rfl, rfl, h⟩)))))))
    · exact .inr (.inr (.inr (.inr (.inr (.inr (.inr (.inr ⟨rfl, rfl, rfl, h⟩)))))))
theorem cv_no {c : Fin 7} {x y z : Bool} (h : 4 ≤ c → (x, y, z) = (true, true, true)) (k : Fin 7) (hk : 4 ≤ k) (hx : (x, y, z) ≠ (true, true, true)) (p : Int) : cv c k p = 0 := by
  unfold cv
  rw [if_neg]
  intro hc
  exact hx (h (Nat.le_trans hk hc))
theorem cnext_end {c : Fin 7} {x y z : Bool} (h : cnext (c, x, y, z) = []) : c = 6 ∧ x = true ∧ y = true ∧ z = true := by
  revert x y z
  revert c
  decide +kernel
theorem below_next {B : Nat} {W w1 w2 : World} (h : Below B W w1) (hz : B ≤ w1.heap.size) (hb : Below w1.heap.size w1 w2) : Below B W w2 := h.trans (hb.mono hz)
theorem four_next {B n : Nat} {W w1 : World} {ax ay bx bY cx cy dx dy : Int} (h : Below n W w1) (hz : W.heap.size = n) (q : Four W B ax ay bx bY cx cy dx dy) : Four w1 B ax ay bx bY cx cy dx dy := by
  subst hz
  exact Four.later h q
theorem below_size {n : Nat} {W w1 : World} (h : Below n W w1) (hz : W.heap.size = n) : Below W.heap.size W w1 := by
  rw [hz]
  exact h
def CInv (w W : World) (ax ay bx bY cx cy dx dy : Int) (s : CSt) (a : Act) (w' : World) : Prop :=
  ∃ s9 s10 s11 s15 s18 s21 : Value, ∃ b9 b10 b11 : Nat, a = { tmps := #[.agg #[.int .i64 ax, .int .i64 ay], .agg #[.int .i64 bx, .int .i64 bY], .agg #[.int .i64 cx, .int .i64 cy], .agg #[.int .i64 dx, .int .i64 dy], .pointer (some { block := w.heap.size, off := 0 }), .pointer (some { block := w.heap.size + 1, off := 0 }), .pointer (some { block := w.heap.size + 1 + 1, off := 0 }), .pointer (some { block := w.heap.size + 1 + 1 + 1, off := 0 }), .int .i64 0, s9, s10, s11, undef, .agg #[.int .i64 ax, .int .i64 ay], .agg #[.int .i64 dx, .int .i64 dy], s15, .agg #[.int .i64 bx, .int .i64 bY], .agg #[.int .i64 dx, .int .i64 dy], s18, .agg #[.int .i64 cx, .int .i64 cy], .agg #[.int .i64 dx, .int .i64 dy], s21, undef, undef, undef, undef, undef, undef, undef, undef, undef, undef, undef, undef, undef, undef, undef, undef, undef, undef, undef, undef, undef, undef, undef, undef], defers := [] } ∧ Below (w.heap.size + 1 + 1 + 1 + 1) W w' ∧ (1 ≤ s.1 → s15 = .agg #[.int .i64 (wrap64 (ax - dx)), .int .i64 (wrap64 (ay - dy))]) ∧ (2 ≤ s.1 → s18 = .agg #[.int .i64 (wrap64 (bx - dx)), .int .i64 (wrap64 (bY - dy))]) ∧ (3 ≤ s.1 → s21 = .agg #[.int .i64 (wrap64 (cx - dx)), .int .i64 (wrap64 (cy - dy))]) ∧ (s.2.1 = true → Lies w' (w.heap.size + 1 + 1 + 1 + 1) s9 b9 (.int .i64 (cv s.1 4 (wrap64 (ax - dx)))) (.int .i64 (cv s.1 4 (wrap64 (ay - dy))))) ∧ (s.2.2.1 = true → Lies w' (w.heap.size + 1 + 1 + 1 + 1) s10 b10 (.int .i64 (cv s.1 5 (wrap64 (bx - dx)))) (.int .i64 (cv s.1 5 (wrap64 (bY - dy))))) ∧ (s.2.2.2 = true → Lies w' (w.heap.size + 1 + 1 + 1 + 1) s11 b11 (.int .i64 (cv s.1 6 (wrap64 (cx - dx)))) (.int .i64 (cv s.1 6 (wrap64 (cy - dy))))) ∧ (s.2.1 = true → s.2.2.1 = true → b9 ≠ b10) ∧ (s.2.1 = true → s.2.2.2 = true → b9 ≠ b11) ∧ (s.2.2.1 = true → s.2.2.2 = true → b10 ≠ b11) ∧ (4 ≤ s.1 → s.2 = (true, true, true))
abbrev dSt := Fin 5 × Bool
def dlst (s : dSt) : Array Bool := #[true, true, decide (1 ≤ s.1), true, decide (2 ≤ s.1), decide (3 ≤ s.1), s.2, decide (4 ≤ s.1)]
def dpre (c : Fin 5) (x : Bool) : List (Nat × dSt) := match c with
  | 0 => [(2, (1, x))]
  | 1 => [(4, (2, x))]
  | 2 => [(5, (3, x))]
  | _ => []
def dpost (c : Fin 5) (x : Bool) : List (Nat × dSt) := match x, c with
  | true, 3 => [(7, (4, x))]
  | _, _ => []
def done (c : Fin 5) (x : Bool) : List (Nat × dSt) := match x with
  | true => []
  | false => [(6, (c, true))]
def dnext (s : dSt) : List (Nat × dSt) := dpre s.1 s.2 ++ done s.1 s.2 ++ dpost s.1 s.2
def dmeas (s : dSt) : Nat := (4 - s.1.val) + (done s.1 s.2).length
theorem dpre_cases (c : Fin 5) (x : Bool) (m : Nat × dSt) (h : m ∈ dpre c x) : (c = 0 ∧ m = (2, (1, x))) ∨ (c = 1 ∧ m = (4, (2, x))) ∨ (c = 2 ∧ m = (5, (3, x))) := by
  unfold dpre at h
  split at h <;> simp at h <;> simp [h]
theorem dpost_cases (c : Fin 5) (x : Bool) (m : Nat × dSt) (h : m ∈ dpost c x) : (x = true ∧ c = 3 ∧ m = (7, (4, x))) := by
  unfold dpost at h
  split at h <;> simp at h <;> simp [h]
theorem done_cases (c : Fin 5) (x : Bool) (m : Nat × dSt) (h : m ∈ done c x) : x = false ∧ m = (6, (c, true)) := by
  unfold done at h
  split at h <;> simp at h
  exact ⟨rfl, h⟩
theorem dnext_cases (c : Fin 5) (x : Bool) (m : Nat × dSt) (h : m ∈ dnext (c, x)) :
    ((c = 0 ∧ m = (2, (1, x))) ∨ (c = 1 ∧ m = (4, (2, x))) ∨ (c = 2 ∧ m = (5, (3, x)))) ∨ (x = false ∧ m = (6, (c, true))) ∨ ((x = true ∧ c = 3 ∧ m = (7, (4, x)))) := by
  unfold dnext at h
  simp only [List.mem_append] at h
  rcases h with (h | h) | h
  · exact .inl (dpre_cases _ _ _ h)
  · exact .inr (.inl (done_cases _ _ _ h))
  · exact .inr (.inr (dpost_cases _ _ _ h))
theorem dnext_end {c : Fin 5} {x : Bool} (h : dnext (c, x) = []) : c = 4 ∧ x = true := by
  revert x
  revert c
  decide +kernel
abbrev eSt := Fin 6 × Bool
def elst (s : eSt) : Array Bool := #[s.2, true, true, decide (1 ≤ s.1), true, decide (2 ≤ s.1), decide (3 ≤ s.1), decide (4 ≤ s.1), decide (5 ≤ s.1)]
def epre (c : Fin 6) (x : Bool) : List (Nat × eSt) := match c with
  | 0 => [(3, (1, x))]
  | 1 => [(5, (2, x))]
  | 2 => [(6, (3, x))]
  | _ => []
def epost (c : Fin 6) (x : Bool) : List (Nat × eSt) := match x, c with
  | true, 3 => [(7, (4, x))]
  | true, 4 => [(8, (5, x))]
  | _, _ => []
def eone (c : Fin 6) (x : Bool) : List (Nat × eSt) := match x with
  | true => []
  | false => [(0, (c, true))]
def enext (s : eSt) : List (Nat × eSt) := eone s.1 s.2 ++ epre s.1 s.2 ++ epost s.1 s.2
def emeas (s : eSt) : Nat := (5 - s.1.val) + (eone s.1 s.2).length
theorem epre_cases (c : Fin 6) (x : Bool) (m : Nat × eSt) (h : m ∈ epre c x) : (c = 0 ∧ m = (3, (1, x))) ∨ (c = 1 ∧ m = (5, (2, x))) ∨ (c = 2 ∧ m = (6, (3, x))) := by
  unfold epre at h
  split at h <;> simp at h <;> simp [h]
theorem epost_cases (c : Fin 6) (x : Bool) (m : Nat × eSt) (h : m ∈ epost c x) : (x = true ∧ c = 3 ∧ m = (7, (4, x))) ∨ (x = true ∧ c = 4 ∧ m = (8, (5, x))) := by
  unfold epost at h
  split at h <;> simp at h <;> simp [h]
theorem eone_cases (c : Fin 6) (x : Bool) (m : Nat × eSt) (h : m ∈ eone c x) : x = false ∧ m = (0, (c, true)) := by
  unfold eone at h
  split at h <;> simp at h
  exact ⟨rfl, h⟩
theorem enext_cases (c : Fin 6) (x : Bool) (m : Nat × eSt) (h : m ∈ enext (c, x)) :
    ((c = 0 ∧ m = (3, (1, x))) ∨ (c = 1 ∧ m = (5, (2, x))) ∨ (c = 2 ∧ m = (6, (3, x)))) ∨ (x = false ∧ m = (0, (c, true))) ∨ ((x = true ∧ c = 3 ∧ m = (7, (4, x))) ∨ (x = true ∧ c = 4 ∧ m = (8, (5, x)))) := by
  unfold enext at h
  simp only [List.mem_append] at h
  rcases h with (h | h) | h
  · exact .inr (.inl (eone_cases _ _ _ h))
  · exact .inl (epre_cases _ _ _ h)
  · exact .inr (.inr (epost_cases _ _ _ h))
theorem enext_end {c : Fin 6} {x : Bool} (h : enext (c, x) = []) : c = 5 ∧ x = true := by
  revert x
  revert c
  decide +kernel
def sv (c k : Nat) (p q : Int) : Int := if k ≤ c then p else q
def part1 (ax ay bx bY cx cy dx dy : Int) : Int := crossW (wrap64 (bx - dx)) (wrap64 (bY - dy)) (wrap64 (cx - dx)) (wrap64 (cy - dy)) * squareW (wrap64 (ax - dx)) (wrap64 (ay - dy))
def circleW (ax ay bx bY cx cy dx dy : Int) : Int := sgn (wrap128 (part1 ax ay bx bY cx cy dx dy + part1 bx bY cx cy ax ay dx dy + part1 cx cy ax ay bx bY dx dy))
theorem crossW_bd (a b c d : Int) : -9223372036854775808 ≤ crossW a b c d ∧ crossW a b c d ≤ 9223372036854775807 := wrap64_bd _
theorem squareW_bd (a b : Int) : -9223372036854775808 ≤ squareW a b ∧ squareW a b ≤ 9223372036854775807 := wrap64_bd _
theorem lies3_later {w1 w2 : World} {B b9 b10 b11 : Nat} {s9 s10 s11 u9 v9 u10 v10 u11 v11 : Value} (hb : Below w1.heap.size w1 w2) (h : Lies w1 B s9 b9 u9 v9 ∧ Lies w1 B s10 b10 u10 v10 ∧ Lies w1 B s11 b11 u11 v11) : Lies w2 B s9 b9 u9 v9 ∧ Lies w2 B s10 b10 u10 v10 ∧ Lies w2 B s11 b11 u11 v11 :=
  ⟨h.1.later hb, h.2.1.later hb, h.2.2.later hb⟩
set_option maxHeartbeats 4000000 in
theorem planeCircle_any (ax ay bx bY cx cy dx dy : Int) (w : World) :
    Calls Try.prog 41 #[.agg #[.int .i64 ax, .int .i64 ay], .agg #[.int .i64 bx, .int .i64 bY], .agg #[.int .i64 cx, .int .i64 cy], .agg #[.int .i64 dx, .int .i64 dy]] w fun e w' => e = .returned (.int .i64 (circleW ax ay bx bY cx cy dx dy)) ∧ Below w.heap.size w w' := by
  have q0 := Four.boxed w 25 ax ay bx bY cx cy dx dy
  have b0 := four_start w 25 ax ay bx bY cx cy dx dy
  have z0 : (((((w.alloc (.cells #[.int .i64 ax, .int .i64 ay] 25)).alloc (.cells #[.int .i64 bx, .int .i64 bY] 25)).alloc (.cells #[.int .i64 cx, .int .i64 cy] 25)).alloc (.cells #[.int .i64 dx, .int .i64 dy] 25))).heap.size = w.heap.size + 1 + 1 + 1 + 1 := by simp
  go_enter Try.func41, Try.ntmps41
  go_wp2
  generalize hW : ((((w.alloc (.cells #[.int .i64 ax, .int .i64 ay] 25)).alloc (.cells #[.int .i64 bx, .int .i64 bY] 25)).alloc (.cells #[.int .i64 cx, .int .i64 cy] 25)).alloc (.cells #[.int .i64 dx, .int .i64 dy] 25)) = W at *
  clear hW
  have zW : W.heap.size = w.heap.size + 1 + 1 + 1 + 1 := z0
  go_cut [9, 10, 11] (fun s9 s10 s11 wc => ∃ b9 b10 b11 : Nat, Below (w.heap.size + 1 + 1 + 1 + 1) W wc ∧ Lies wc (w.heap.size + 1 + 1 + 1 + 1) s9 b9 (.int .i64 (cv 6 4 (wrap64 (ax - dx)))) (.int .i64 (cv 6 4 (wrap64 (ay - dy)))) ∧ Lies wc (w.heap.size + 1 + 1 + 1 + 1) s10 b10 (.int .i64 (cv 6 5 (wrap64 (bx - dx)))) (.int .i64 (cv 6 5 (wrap64 (bY - dy)))) ∧ Lies wc (w.heap.size + 1 + 1 + 1 + 1) s11 b11 (.int .i64 (cv 6 6 (wrap64 (cx - dx)))) (.int .i64 (cv 6 6 (wrap64 (cy - dy)))))
  case first =>
    refine wp_region_noPanic ?_
    refine wp_region_held_drew (S := fun w' => Four w' w.heap.size ax ay bx bY cx cy dx dy) (by kernel_rfl) (by exact q0) (fun hHeld => ?_)
    refine wpAnyH_take (i := 0) (oi := _) (v := .agg #[.int .i64 ax, .int .i64 ay]) rfl (by kernel_rfl) (by kernel_rfl) (by kernel_rfl) (fun _ _ _ h => h) (Or.inl ⟨by rfl, ?_⟩) (by assumption) ?_
    · (intro w' hSw; obtain ⟨_, _, _, _, _, _, _, _⟩ := hSw; go_simp)
    simp only [Act.put, List.setIfInBounds_toArray, List.set_cons_zero, List.set_cons_succ]
    refine wpAnyH_take (i := 1) (oi := _) (v := .agg #[.int .i64 dx, .int .i64 dy]) rfl (by kernel_rfl) (by kernel_rfl) (by kernel_rfl) (fun _ _ _ h => h) (Or.inl ⟨by rfl, ?_⟩) (by assumption) ?_
    · (intro w' hSw; obtain ⟨_, _, _, _, _, _, _, _⟩ := hSw; go_simp)
    simp only [Act.put, List.setIfInBounds_toArray, List.set_cons_zero, List.set_cons_succ]
    refine wpAnyH_take (i := 3) (oi := _) (v := .agg #[.int .i64 bx, .int .i64 bY]) rfl (by kernel_rfl) (by kernel_rfl) (by kernel_rfl) (fun _ _ _ h => h) (Or.inl ⟨by rfl, ?_⟩) (by assumption) ?_
    · (intro w' hSw; obtain ⟨_, _, _, _, _, _, _, _⟩ := hSw; go_simp)
    simp only [Act.put, List.setIfInBounds_toArray, List.set_cons_zero, List.set_cons_succ]
    refine wpAnyH_take (i := 4) (oi := _) (v := .agg #[.int .i64 dx, .int .i64 dy]) rfl (by kernel_rfl) (by kernel_rfl) (by kernel_rfl) (fun _ _ _ h => h) (Or.inl ⟨by rfl, ?_⟩) (by assumption) ?_
    · (intro w' hSw; obtain ⟨_, _, _, _, _, _, _, _⟩ := hSw; go_simp)
    simp only [Act.put, List.setIfInBounds_toArray, List.set_cons_zero, List.set_cons_succ]
    refine wpAnyH_take (i := 6) (oi := _) (v := .agg #[.int .i64 cx, .int .i64 cy]) rfl (by kernel_rfl) (by kernel_rfl) (by kernel_rfl) (fun _ _ _ h => h) (Or.inl ⟨by rfl, ?_⟩) (by assumption) ?_
    · (intro w' hSw; obtain ⟨_, _, _, _, _, _, _, _⟩ := hSw; go_simp)
    simp only [Act.put, List.setIfInBounds_toArray, List.set_cons_zero, List.set_cons_succ]
    refine wpAnyH_take (i := 7) (oi := _) (v := .agg #[.int .i64 dx, .int .i64 dy]) rfl (by kernel_rfl) (by kernel_rfl) (by kernel_rfl) (fun _ _ _ h => h) (Or.inl ⟨by rfl, ?_⟩) (by assumption) ?_
    · (intro w' hSw; obtain ⟨_, _, _, _, _, _, _, _⟩ := hSw; go_simp)
    simp only [Act.put, List.setIfInBounds_toArray, List.set_cons_zero, List.set_cons_succ]
    refine wpAnyH_states clst cnext cmeas (CInv w W ax ay bx bY cx cy dx dy) ?_ ?_ ?_ ?_ ?_ _ (0, false, false, false) _ _ ?_ ?_
    · rintro ⟨c, x, y, z⟩
      revert x y z
      revert c
      decide +kernel
    · rintro ⟨c, x, y, z⟩
      revert x y z
      revert c
      decide +kernel
    · rintro ⟨c, x, y, z⟩
      revert x y z
      revert c
      decide +kernel
    · rintro ⟨c, x, y, z⟩ a w' ⟨s9, s10, s11, s15, s18, s21, b9, b10, b11, rfl, hB, h15, h18, h21, l9, l10, l11, n1, n2, n3, h4⟩ m hm
      have hz : w.heap.size + 1 + 1 + 1 + 1 ≤ w'.heap.size := by have := hB.size; omega
      rcases cnext_cases c x y z m hm with ⟨rfl, rfl⟩ | ⟨rfl, rfl⟩ | ⟨rfl, rfl⟩ | ⟨rfl, rfl⟩ | ⟨rfl, rfl⟩ | ⟨rfl, rfl⟩ | ⟨rfl, rfl, rfl, rfl, rfl⟩ | ⟨rfl, rfl, rfl, rfl, rfl⟩ | ⟨rfl, rfl, rfl, rfl, rfl⟩
      · refine wpOp_step rfl (fun K hK => ?_)
        go_simp
        refine (minus_any _ _ _ _ _).mono ?_
        rintro e w2 ⟨rfl, hb⟩
        refine hK _ _ ⟨Four.later hb (four_next hB zW q0), ?_⟩
        exact ⟨_, _, _, _, _, _, b9, b10, b11, rfl, below_next hB hz hb, (fun _ => rfl), (fun h => absurd (show (2 : Fin 7) ≤ 1 from h) (by decide)), (fun h => absurd (show (3 : Fin 7) ≤ 1 from h) (by decide)), (fun h => (l9 h).later hb), (fun h => (l10 h).later hb), (fun h => (l11 h).later hb), n1, n2, n3, (fun h => absurd (show (4 : Fin 7) ≤ 1 from h) (by decide))⟩
      · refine wpOp_step rfl (fun K hK => ?_)
        go_simp
        refine (minus_any _ _ _ _ _).mono ?_
        rintro e w2 ⟨rfl, hb⟩
        refine hK _ _ ⟨Four.later hb (four_next hB zW q0), ?_⟩
        exact ⟨_, _, _, _, _, _, b9, b10, b11, rfl, below_next hB hz hb, (fun _ => rfl), (fun _ => rfl), (fun h => absurd (show (3 : Fin 7) ≤ 2 from h) (by decide)), (fun h => (l9 h).later hb), (fun h => (l10 h).later hb), (fun h => (l11 h).later hb), n1, n2, n3, (fun h => absurd (show (4 : Fin 7) ≤ 2 from h) (by decide))⟩
      · refine wpOp_step rfl (fun K hK => ?_)
        go_simp
        refine (minus_any _ _ _ _ _).mono ?_
        rintro e w2 ⟨rfl, hb⟩
        refine hK _ _ ⟨Four.later hb (four_next hB zW q0), ?_⟩
        exact ⟨_, _, _, _, _, _, b9, b10, b11, rfl, below_next hB hz hb, (fun _ => rfl), (fun _ => rfl), (fun _ => rfl), (fun h => (l9 h).later hb), (fun h => (l10 h).later hb), (fun h => (l11 h).later hb), n1, n2, n3, (fun h => absurd (show (4 : Fin 7) ≤ 3 from h) (by decide))⟩
      · refine wpOp_step rfl (fun K hK => ?_)
        go_simp
        refine hK _ _ ⟨Four.later ((Below.refl _ _).alloc (Nat.le_refl _) _) (four_next hB zW q0), ?_⟩
        refine ⟨_, _, _, _, _, _, w'.heap.size, b10, b11, rfl, (hB.alloc hz _), h15, h18, h21, ?_, (fun h => (l10 h).alloc _), (fun h => (l11 h).alloc _), (fun _ h e => by have := (l10 h).lt; omega), (fun _ h e => by have := (l11 h).lt; omega), n3, (fun h => by have := h4 h; simp at this)⟩
        intro _
        simp only []
        rw [cv_no h4 4 (by decide) (by simp), cv_no h4 4 (by decide) (by simp)]
        exact Lies.made hz _ _ _
      · refine wpOp_step rfl (fun K hK => ?_)
        go_simp
        refine hK _ _ ⟨Four.later ((Below.refl _ _).alloc (Nat.le_refl _) _) (four_next hB zW q0), ?_⟩
        refine ⟨_, _, _, _, _, _, b9, w'.heap.size, b11, rfl, (hB.alloc hz _), h15, h18, h21, (fun h => (l9 h).alloc _), ?_, (fun h => (l11 h).alloc _), (fun h _ e => by have := (l9 h).lt; omega), n2, (fun _ h e => by have := (l11 h).lt; omega), (fun h => by have := h4 h; simp at this)⟩
        intro _
        simp only []
        rw [cv_no h4 5 (by decide) (by simp), cv_no h4 5 (by decide) (by simp)]
        exact Lies.made hz _ _ _
      · refine wpOp_step rfl (fun K hK => ?_)
        go_simp
        refine hK _ _ ⟨Four.later ((Below.refl _ _).alloc (Nat.le_refl _) _) (four_next hB zW q0), ?_⟩
        refine ⟨_, _, _, _, _, _, b9, b10, w'.heap.size, rfl, (hB.alloc hz _), h15, h18, h21, (fun h => (l9 h).alloc _), (fun h => (l10 h).alloc _), ?_, n1, (fun h _ e => by have := (l9 h).lt; omega), (fun h _ e => by have := (l10 h).lt; omega), (fun h => by have := h4 h; simp at this)⟩
        intro _
        simp only []
        rw [cv_no h4 6 (by decide) (by simp), cv_no h4 6 (by decide) (by simp)]
        exact Lies.made hz _ _ _
      · obtain ⟨e9, B9, f9a, f9b, f9c, f9d⟩ := l9 rfl
        have H : Hid _ := l9 rfl
        subst e9
        have e15 := h15 (by decide)
        have e18 := h18 (by decide)
        have e21 := h21 (by decide)
        subst e15 e18 e21
        refine wpOp_step rfl (fun K hK => ?_)
        go_simp
        have hB2 := (hB.setCell (p := ⟨b9, 0, none⟩) B9 (.int .i64 (wrap64 (ax - dx)))).setCell (p := ⟨b9, 1, none⟩) B9 (.int .i64 (wrap64 (ay - dy)))
        refine hK _ _ ⟨four_next hB2 zW q0, ?_⟩
        exact ⟨_, _, _, _, _, _, b9, b10, b11, rfl, hB2, (fun _ => rfl), (fun _ => rfl), (fun _ => rfl), (fun _ => Lies.stored _ _ H.out), (fun _ => Lies.apart _ _ (Ne.symm (n1 rfl rfl)) (l10 rfl)), (fun _ => Lies.apart _ _ (Ne.symm (n2 rfl rfl)) (l11 rfl)), n1, n2, n3, (fun _ => rfl)⟩
      · obtain ⟨e10, B10, f10a, f10b, f10c, f10d⟩ := l10 rfl
        have H : Hid _ := l10 rfl
        subst e10
        have e15 := h15 (by decide)
        have e18 := h18 (by decide)
        have e21 := h21 (by decide)
        subst e15 e18 e21
        refine wpOp_step rfl (fun K hK => ?_)
        go_simp
        have hB2 := (hB.setCell (p := ⟨b10, 0, none⟩) B10 (.int .i64 (wrap64 (bx - dx)))).setCell (p := ⟨b10, 1, none⟩) B10 (.int .i64 (wrap64 (bY - dy)))
        refine hK _ _ ⟨four_next hB2 zW q0, ?_⟩
        exact ⟨_, _, _, _, _, _, b9, b10, b11, rfl, hB2, (fun _ => rfl), (fun _ => rfl), (fun _ => rfl), (fun _ => Lies.apart _ _ (n1 rfl rfl) (l9 rfl)), (fun _ => Lies.stored _ _ H.out), (fun _ => Lies.apart _ _ (Ne.symm (n3 rfl rfl)) (l11 rfl)), n1, n2, n3, (fun _ => rfl)⟩
      · obtain ⟨e11, B11, f11a, f11b, f11c, f11d⟩ := l11 rfl
        have H : Hid _ := l11 rfl
        subst e11
        have e15 := h15 (by decide)
        have e18 := h18 (by decide)
        have e21 := h21 (by decide)
        subst e15 e18 e21
        refine wpOp_step rfl (fun K hK => ?_)
        go_simp
        have hB2 := (hB.setCell (p := ⟨b11, 0, none⟩) B11 (.int .i64 (wrap64 (cx - dx)))).setCell (p := ⟨b11, 1, none⟩) B11 (.int .i64 (wrap64 (cy - dy)))
        refine hK _ _ ⟨four_next hB2 zW q0, ?_⟩
        exact ⟨_, _, _, _, _, _, b9, b10, b11, rfl, hB2, (fun _ => rfl), (fun _ => rfl), (fun _ => rfl), (fun _ => Lies.apart _ _ (n2 rfl rfl) (l9 rfl)), (fun _ => Lies.apart _ _ (n3 rfl rfl) (l10 rfl)), (fun _ => Lies.stored _ _ H.out), n1, n2, n3, (fun _ => rfl)⟩
    · rintro ⟨c, x, y, z⟩ a w' ⟨s9, s10, s11, s15, s18, s21, b9, b10, b11, rfl, hB, h15, h18, h21, l9, l10, l11, n1, n2, n3, h4⟩ he
      obtain ⟨rfl, rfl, rfl, rfl⟩ := cnext_end he
      have k9 : Hid _ := l9 rfl
      have k10 : Hid _ := l10 rfl
      have k11 : Hid _ := l11 rfl
      clear l9 l10 l11 h15 h18 h21 n1 n2 n3 h4
      refine NoPanic.normal ?_
      go_wp2
      go_meet
      case rel => exact ⟨b9, b10, b11, hB, k9.out, k10.out, k11.out⟩
    · decide +kernel
    · exact ⟨undef, undef, undef, undef, undef, undef, 0, 0, 0, rfl, (Below.refl _ _).drew, by simp, by simp, by simp, by simp, by simp, by simp, by simp, by simp, by simp, by simp⟩
  case rest =>
    obtain ⟨b9, b10, b11, hB, k9, k10, k11⟩ := hcut
    have e9 := k9.1
    have e10 := k10.1
    have e11 := k11.1
    subst e9 e10 e11
    have L0 : Lies wc (w.heap.size + 1 + 1 + 1 + 1) (.pointer (some ⟨b9, 0, none⟩)) b9 (.int .i64 (wrap64 (ax - dx))) (.int .i64 (wrap64 (ay - dy))) ∧ Lies wc (w.heap.size + 1 + 1 + 1 + 1) (.pointer (some ⟨b10, 0, none⟩)) b10 (.int .i64 (wrap64 (bx - dx))) (.int .i64 (wrap64 (bY - dy))) ∧ Lies wc (w.heap.size + 1 + 1 + 1 + 1) (.pointer (some ⟨b11, 0, none⟩)) b11 (.int .i64 (wrap64 (cx - dx))) (.int .i64 (wrap64 (cy - dy))) := ⟨k9, k10, k11⟩
    clear k9 k10 k11 q0
    go_wp2
    go_cut [12] (fun s12 wd => ∃ b12 : Nat, Below (w.heap.size + 1 + 1 + 1 + 1) W wd ∧ (Lies wd (w.heap.size + 1 + 1 + 1 + 1) (.pointer (some ⟨b9, 0, none⟩)) b9 (.int .i64 (wrap64 (ax - dx))) (.int .i64 (wrap64 (ay - dy))) ∧ Lies wd (w.heap.size + 1 + 1 + 1 + 1) (.pointer (some ⟨b10, 0, none⟩)) b10 (.int .i64 (wrap64 (bx - dx))) (.int .i64 (wrap64 (bY - dy))) ∧ Lies wd (w.heap.size + 1 + 1 + 1 + 1) (.pointer (some ⟨b11, 0, none⟩)) b11 (.int .i64 (wrap64 (cx - dx))) (.int .i64 (wrap64 (cy - dy)))) ∧ Lies wd (w.heap.size + 1 + 1 + 1 + 1) s12 b12 (.int .u64 (hi (part1 ax ay bx bY cx cy dx dy))) (.int .u64 (lo (part1 ax ay bx bY cx cy dx dy))) ∧ b9 ≠ b12 ∧ b10 ≠ b12 ∧ b11 ≠ b12)
    case first =>
      refine wp_region_noPanic ?_
      refine wp_region_held_drew (S := fun w' => Lies w' (w.heap.size + 1 + 1 + 1 + 1) (.pointer (some ⟨b9, 0, none⟩)) b9 (.int .i64 (wrap64 (ax - dx))) (.int .i64 (wrap64 (ay - dy))) ∧ Lies w' (w.heap.size + 1 + 1 + 1 + 1) (.pointer (some ⟨b10, 0, none⟩)) b10 (.int .i64 (wrap64 (bx - dx))) (.int .i64 (wrap64 (bY - dy))) ∧ Lies w' (w.heap.size + 1 + 1 + 1 + 1) (.pointer (some ⟨b11, 0, none⟩)) b11 (.int .i64 (wrap64 (cx - dx))) (.int .i64 (wrap64 (cy - dy)))) (by kernel_rfl) (by exact L0) (fun hHeld => ?_)
      refine wpAnyH_take (i := 0) (oi := _) (v := .agg #[.int .i64 (wrap64 (bx - dx)), .int .i64 (wrap64 (bY - dy))]) rfl (by kernel_rfl) (by kernel_rfl) (by kernel_rfl) (fun _ _ _ h => h) (Or.inl ⟨by rfl, ?_⟩) (by assumption) ?_
      · (intro w' hSw; obtain ⟨⟨_, _, _, _, _, _⟩, ⟨_, _, _, _, _, _⟩, ⟨_, _, _, _, _, _⟩⟩ := hSw; go_simp)
      simp only [Act.put, List.setIfInBounds_toArray, List.set_cons_zero, List.set_cons_succ]
      refine wpAnyH_take (i := 1) (oi := _) (v := .agg #[.int .i64 (wrap64 (cx - dx)), .int .i64 (wrap64 (cy - dy))]) rfl (by kernel_rfl) (by kernel_rfl) (by kernel_rfl) (fun _ _ _ h => h) (Or.inl ⟨by rfl, ?_⟩) (by assumption) ?_
      · (intro w' hSw; obtain ⟨⟨_, _, _, _, _, _⟩, ⟨_, _, _, _, _, _⟩, ⟨_, _, _, _, _, _⟩⟩ := hSw; go_simp)
      simp only [Act.put, List.setIfInBounds_toArray, List.set_cons_zero, List.set_cons_succ]
      refine wpAnyH_take (i := 3) (oi := _) (v := .agg #[.int .i64 (wrap64 (ax - dx)), .int .i64 (wrap64 (ay - dy))]) rfl (by kernel_rfl) (by kernel_rfl) (by kernel_rfl) (fun _ _ _ h => h) (Or.inl ⟨by rfl, ?_⟩) (by assumption) ?_
      · (intro w' hSw; obtain ⟨⟨_, _, _, _, _, _⟩, ⟨_, _, _, _, _, _⟩, ⟨_, _, _, _, _, _⟩⟩ := hSw; go_simp)
      simp only [Act.put, List.setIfInBounds_toArray, List.set_cons_zero, List.set_cons_succ]
      refine wpAnyH_states dlst dnext dmeas (fun (s : dSt) (a : Act) (w' : World) => ∃ s12 s24 s26 s27 : Value, ∃ b12 : Nat, a = { tmps := #[.agg #[.int .i64 ax, .int .i64 ay], .agg #[.int .i64 bx, .int .i64 bY], .agg #[.int .i64 cx, .int .i64 cy], .agg #[.int .i64 dx, .int .i64 dy], .pointer (some { block := w.heap.size, off := 0 }), .pointer (some { block := w.heap.size + 1, off := 0 }), .pointer (some { block := w.heap.size + 1 + 1, off := 0 }), .pointer (some { block := w.heap.size + 1 + 1 + 1, off := 0 }), .int .i64 0, .pointer (some { block := b9, off := 0 }), .pointer (some { block := b10, off := 0 }), .pointer (some { block := b11, off := 0 }), s12, u13, u14, u15, u16, u17, u18, u19, u20, u21, .agg #[.int .i64 (wrap64 (bx - dx)), .int .i64 (wrap64 (bY - dy))], .agg #[.int .i64 (wrap64 (cx - dx)), .int .i64 (wrap64 (cy - dy))], s24, .agg #[.int .i64 (wrap64 (ax - dx)), .int .i64 (wrap64 (ay - dy))], s26, s27, u28, u29, u30, u31, u32, u33, u34, u35, u36, u37, u38, u39, u40, u41, u42, u43, u44, u45], defers := [] } ∧ Below (w.heap.size + 1 + 1 + 1 + 1) W w' ∧ (Lies w' (w.heap.size + 1 + 1 + 1 + 1) (.pointer (some ⟨b9, 0, none⟩)) b9 (.int .i64 (wrap64 (ax - dx))) (.int .i64 (wrap64 (ay - dy))) ∧ Lies w' (w.heap.size + 1 + 1 + 1 + 1) (.pointer (some ⟨b10, 0, none⟩)) b10 (.int .i64 (wrap64 (bx - dx))) (.int .i64 (wrap64 (bY - dy))) ∧ Lies w' (w.heap.size + 1 + 1 + 1 + 1) (.pointer (some ⟨b11, 0, none⟩)) b11 (.int .i64 (wrap64 (cx - dx))) (.int .i64 (wrap64 (cy - dy)))) ∧ (1 ≤ s.1 → s24 = .int .i64 (crossW (wrap64 (bx - dx)) (wrap64 (bY - dy)) (wrap64 (cx - dx)) (wrap64 (cy - dy)))) ∧ (2 ≤ s.1 → s26 = .int .i64 (squareW (wrap64 (ax - dx)) (wrap64 (ay - dy)))) ∧ (3 ≤ s.1 → s27 = .agg #[.int .u64 (hi (part1 ax ay bx bY cx cy dx dy)), .int .u64 (lo (part1 ax ay bx bY cx cy dx dy))]) ∧ (s.2 = true → Lies w' (w.heap.size + 1 + 1 + 1 + 1) s12 b12 (.int .u64 (sv s.1 4 (hi (part1 ax ay bx bY cx cy dx dy)) 0)) (.int .u64 (sv s.1 4 (lo (part1 ax ay bx bY cx cy dx dy)) 0)) ∧ b9 ≠ b12 ∧ b10 ≠ b12 ∧ b11 ≠ b12) ∧ (4 ≤ s.1 → s.2 = true)) ?_ ?_ ?_ ?_ ?_ _ (0, false) _ _ ?_ ?_
      · rintro ⟨c, x⟩
        revert x
        revert c
        decide +kernel
      · rintro ⟨c, x⟩
        revert x
        revert c
        decide +kernel
      · rintro ⟨c, x⟩
        revert x
        revert c
        decide +kernel
      · rintro ⟨c, x⟩ a w' ⟨s12, s24, s26, s27, b12, rfl, hB2, l3, h24, h26, h27, l12, h4⟩ m hm
        have hz : w.heap.size + 1 + 1 + 1 + 1 ≤ w'.heap.size := by have := hB2.size; omega
        rcases dnext_cases c x m hm with (⟨rfl, rfl⟩ | ⟨rfl, rfl⟩ | ⟨rfl, rfl⟩) | ⟨rfl, rfl⟩ | ⟨rfl, rfl, rfl⟩
        · refine wpOp_step rfl (fun K hK => ?_)
          go_simp
          refine (cross_any _ _ _ _ _).mono ?_
          rintro e w2 ⟨rfl, hb⟩
          have l3' := lies3_later hb l3
          refine hK _ _ ⟨l3', ?_⟩
          exact ⟨_, _, _, _, b12, rfl, below_next hB2 hz hb, l3', (fun _ => rfl), (fun h => absurd (show (2 : Fin 5) ≤ 1 from h) (by decide)), (fun h => absurd (show (3 : Fin 5) ≤ 1 from h) (by decide)), (fun h => ⟨(l12 h).1.later hb, (l12 h).2⟩), (fun h => absurd (show (4 : Fin 5) ≤ 1 from h) (by decide))⟩
        · refine wpOp_step rfl (fun K hK => ?_)
          go_simp
          refine (square_any _ _ _).mono ?_
          rintro e w2 ⟨rfl, hb⟩
          have l3' := lies3_later hb l3
          refine hK _ _ ⟨l3', ?_⟩
          exact ⟨_, _, _, _, b12, rfl, below_next hB2 hz hb, l3', (fun _ => rfl), (fun _ => rfl), (fun h => absurd (show (3 : Fin 5) ≤ 2 from h) (by decide)), (fun h => ⟨(l12 h).1.later hb, (l12 h).2⟩), (fun h => absurd (show (4 : Fin 5) ≤ 2 from h) (by decide))⟩
        · refine wpOp_step rfl (fun K hK => ?_)
          go_simp
          refine (product_any _ _ (crossW_bd _ _ _ _) (squareW_bd _ _) _).mono ?_
          rintro e w2 ⟨rfl, hb⟩
          have l3' := lies3_later hb l3
          refine hK _ _ ⟨l3', ?_⟩
          exact ⟨_, _, _, _, b12, rfl, below_next hB2 hz hb, l3', (fun _ => rfl), (fun _ => rfl), (fun _ => rfl), (fun h => ⟨(l12 h).1.later hb, (l12 h).2⟩), (fun h => absurd (show (4 : Fin 5) ≤ 3 from h) (by decide))⟩
        · refine wpOp_step rfl (fun K hK => ?_)
          go_simp
          have hb : Below w'.heap.size w' (w'.alloc (.cells #[.int .u64 0, .int .u64 0] 104)) := (Below.refl _ _).alloc (Nat.le_refl _) _
          have l3' := lies3_later hb l3
          refine hK _ _ ⟨l3', ?_⟩
          have h4' : ¬ 4 ≤ (c : Nat) := fun h => by have := h4 h; simp at this
          refine ⟨_, _, _, _, w'.heap.size, rfl, below_next hB2 hz hb, l3', h24, h26, h27, (fun _ => ⟨?_, by have := l3.1.lt; omega, by have := l3.2.1.lt; omega, by have := l3.2.2.lt; omega⟩), (fun _ => rfl)⟩
          simp only [sv, if_neg h4']
          exact Lies.made hz _ _ _
        · obtain ⟨m12, d9, d10, d11⟩ := l12 rfl
          have H : Hid _ := m12
          obtain ⟨e12, B12, f12a, f12b, f12c, f12d⟩ := m12
          subst e12
          have e27 := h27 (by decide)
          have e24 := h24 (by decide)
          have e26 := h26 (by decide)
          subst e27 e24 e26
          refine wpOp_step rfl (fun K hK => ?_)
          go_simp
          have hB3 := (hB2.setCell (p := ⟨b12, 0, none⟩) B12 (.int .u64 (hi (part1 ax ay bx bY cx cy dx dy)))).setCell (p := ⟨b12, 1, none⟩) B12 (.int .u64 (lo (part1 ax ay bx bY cx cy dx dy)))
          have l3' : Lies ((w'.setCell ⟨b12, 0, none⟩ (.int .u64 (hi (part1 ax ay bx bY cx cy dx dy)))).setCell ⟨b12, 1, none⟩ (.int .u64 (lo (part1 ax ay bx bY cx cy dx dy)))) (w.heap.size + 1 + 1 + 1 + 1) (.pointer (some ⟨b9, 0, none⟩)) b9 (.int .i64 (wrap64 (ax - dx))) (.int .i64 (wrap64 (ay - dy))) ∧ Lies ((w'.setCell ⟨b12, 0, none⟩ (.int .u64 (hi (part1 ax ay bx bY cx cy dx dy)))).setCell ⟨b12, 1, none⟩ (.int .u64 (lo (part1 ax ay bx bY cx cy dx dy)))) (w.heap.size + 1 + 1 + 1 + 1) (.pointer (some ⟨b10, 0, none⟩)) b10 (.int .i64 (wrap64 (bx - dx))) (.int .i64 (wrap64 (bY - dy))) ∧ Lies ((w'.setCell ⟨b12, 0, none⟩ (.int .u64 (hi (part1 ax ay bx bY cx cy dx dy)))).setCell ⟨b12, 1, none⟩ (.int .u64 (lo (part1 ax ay bx bY cx cy dx dy)))) (w.heap.size + 1 + 1 + 1 + 1) (.pointer (some ⟨b11, 0, none⟩)) b11 (.int .i64 (wrap64 (cx - dx))) (.int .i64 (wrap64 (cy - dy))) := ⟨l3.1.apart _ _ d9, l3.2.1.apart _ _ d10, l3.2.2.apart _ _ d11⟩
          refine hK _ _ ⟨l3', ?_⟩
          exact ⟨_, _, _, _, b12, rfl, hB3, l3', (fun _ => rfl), (fun _ => rfl), (fun _ => rfl), (fun _ => ⟨Lies.stored _ _ H.out, d9, d10, d11⟩), (fun _ => rfl)⟩
      · rintro ⟨c, x⟩ a w' ⟨s12, s24, s26, s27, b12, rfl, hB2, l3, h24, h26, h27, l12, h4⟩ he
        obtain ⟨rfl, rfl⟩ := dnext_end he
        have K3 : Hid _ := l3
        have K12 : Hid _ := l12 rfl
        clear l3 l12 h24 h26 h27 h4
        refine NoPanic.normal ?_
        go_wp2
        go_meet
        case rel => exact ⟨b12, hB2, K3.out, K12.out⟩
      · decide +kernel
      · exact ⟨_, _, _, _, 0, rfl, hB.drew, L0, by simp, by simp, by simp, by simp, by simp⟩
    case rest =>
      obtain ⟨b12, hB2, L1, k12, d9, d10, d11⟩ := hcut
      have e12 := k12.1
      subst e12
      clear hB L0
      go_wp2
      go_cut [] (fun wd => Below (w.heap.size + 1 + 1 + 1 + 1) W wd ∧ (Lies wd (w.heap.size + 1 + 1 + 1 + 1) (.pointer (some ⟨b9, 0, none⟩)) b9 (.int .i64 (wrap64 (ax - dx))) (.int .i64 (wrap64 (ay - dy))) ∧ Lies wd (w.heap.size + 1 + 1 + 1 + 1) (.pointer (some ⟨b10, 0, none⟩)) b10 (.int .i64 (wrap64 (bx - dx))) (.int .i64 (wrap64 (bY - dy))) ∧ Lies wd (w.heap.size + 1 + 1 + 1 + 1) (.pointer (some ⟨b11, 0, none⟩)) b11 (.int .i64 (wrap64 (cx - dx))) (.int .i64 (wrap64 (cy - dy)))) ∧ Lies wd (w.heap.size + 1 + 1 + 1 + 1) (.pointer (some ⟨b12, 0, none⟩)) b12 (.int .u64 (hi (part1 ax ay bx bY cx cy dx dy + part1 bx bY cx cy ax ay dx dy))) (.int .u64 (lo (part1 ax ay bx bY cx cy dx dy + part1 bx bY cx cy ax ay dx dy))))
      case first =>
        refine wp_region_noPanic ?_
        refine wp_region_held_drew (S := fun w' => Lies w' (w.heap.size + 1 + 1 + 1 + 1) (.pointer (some ⟨b9, 0, none⟩)) b9 (.int .i64 (wrap64 (ax - dx))) (.int .i64 (wrap64 (ay - dy))) ∧ Lies w' (w.heap.size + 1 + 1 + 1 + 1) (.pointer (some ⟨b10, 0, none⟩)) b10 (.int .i64 (wrap64 (bx - dx))) (.int .i64 (wrap64 (bY - dy))) ∧ Lies w' (w.heap.size + 1 + 1 + 1 + 1) (.pointer (some ⟨b11, 0, none⟩)) b11 (.int .i64 (wrap64 (cx - dx))) (.int .i64 (wrap64 (cy - dy)))) (by kernel_rfl) (by exact L1) (fun hHeld => ?_)
        refine wpAnyH_take (i := 1) (oi := _) (v := .agg #[.int .i64 (wrap64 (cx - dx)), .int .i64 (wrap64 (cy - dy))]) rfl (by kernel_rfl) (by kernel_rfl) (by kernel_rfl) (fun _ _ _ h => h) (Or.inl ⟨by rfl, ?_⟩) (by assumption) ?_
        · (intro w' hSw; obtain ⟨⟨_, _, _, _, _, _⟩, ⟨_, _, _, _, _, _⟩, ⟨_, _, _, _, _, _⟩⟩ := hSw; go_simp)
        simp only [Act.put, List.setIfInBounds_toArray, List.set_cons_zero, List.set_cons_succ]
        refine wpAnyH_take (i := 2) (oi := _) (v := .agg #[.int .i64 (wrap64 (ax - dx)), .int .i64 (wrap64 (ay - dy))]) rfl (by kernel_rfl) (by kernel_rfl) (by kernel_rfl) (fun _ _ _ h => h) (Or.inl ⟨by rfl, ?_⟩) (by assumption) ?_
        · (intro w' hSw; obtain ⟨⟨_, _, _, _, _, _⟩, ⟨_, _, _, _, _, _⟩, ⟨_, _, _, _, _, _⟩⟩ := hSw; go_simp)
        simp only [Act.put, List.setIfInBounds_toArray, List.set_cons_zero, List.set_cons_succ]
        refine wpAnyH_take (i := 4) (oi := _) (v := .agg #[.int .i64 (wrap64 (bx - dx)), .int .i64 (wrap64 (bY - dy))]) rfl (by kernel_rfl) (by kernel_rfl) (by kernel_rfl) (fun _ _ _ h => h) (Or.inl ⟨by rfl, ?_⟩) (by assumption) ?_
        · (intro w' hSw; obtain ⟨⟨_, _, _, _, _, _⟩, ⟨_, _, _, _, _, _⟩, ⟨_, _, _, _, _, _⟩⟩ := hSw; go_simp)
        simp only [Act.put, List.setIfInBounds_toArray, List.set_cons_zero, List.set_cons_succ]
        refine wpAnyH_states elst enext emeas (fun (s : eSt) (a : Act) (w' : World) => ∃ s0 s3 s5 s6 s7 : Value, a = { tmps := #[.agg #[.int .i64 ax, .int .i64 ay], .agg #[.int .i64 bx, .int .i64 bY], .agg #[.int .i64 cx, .int .i64 cy], .agg #[.int .i64 dx, .int .i64 dy], .pointer (some { block := w.heap.size, off := 0 }), .pointer (some { block := w.heap.size + 1, off := 0 }), .pointer (some { block := w.heap.size + 1 + 1, off := 0 }), .pointer (some { block := w.heap.size + 1 + 1 + 1, off := 0 }), .int .i64 0, .pointer (some { block := b9, off := 0 }), .pointer (some { block := b10, off := 0 }), .pointer (some { block := b11, off := 0 }), .pointer (some { block := b12, off := 0 }), u13, u14, u15, u16, u17, u18, u19, u20, u21, u22, u23, u24, u25, u26, u27, s0, .agg #[.int .i64 (wrap64 (cx - dx)), .int .i64 (wrap64 (cy - dy))], .agg #[.int .i64 (wrap64 (ax - dx)), .int .i64 (wrap64 (ay - dy))], s3, .agg #[.int .i64 (wrap64 (bx - dx)), .int .i64 (wrap64 (bY - dy))], s5, s6, s7, u36, u37, u38, u39, u40, u41, u42, u43, u44, u45], defers := [] } ∧ Below (w.heap.size + 1 + 1 + 1 + 1) W w' ∧ (Lies w' (w.heap.size + 1 + 1 + 1 + 1) (.pointer (some ⟨b9, 0, none⟩)) b9 (.int .i64 (wrap64 (ax - dx))) (.int .i64 (wrap64 (ay - dy))) ∧ Lies w' (w.heap.size + 1 + 1 + 1 + 1) (.pointer (some ⟨b10, 0, none⟩)) b10 (.int .i64 (wrap64 (bx - dx))) (.int .i64 (wrap64 (bY - dy))) ∧ Lies w' (w.heap.size + 1 + 1 + 1 + 1) (.pointer (some ⟨b11, 0, none⟩)) b11 (.int .i64 (wrap64 (cx - dx))) (.int .i64 (wrap64 (cy - dy)))) ∧ (1 ≤ s.1 → s3 = .int .i64 (crossW (wrap64 (cx - dx)) (wrap64 (cy - dy)) (wrap64 (ax - dx)) (wrap64 (ay - dy)))) ∧ (2 ≤ s.1 → s5 = .int .i64 (squareW (wrap64 (bx - dx)) (wrap64 (bY - dy)))) ∧ (3 ≤ s.1 → s6 = .agg #[.int .u64 (hi (part1 bx bY cx cy ax ay dx dy)), .int .u64 (lo (part1 bx bY cx cy ax ay dx dy))]) ∧ (4 ≤ s.1 → s7 = .agg #[.int .u64 (hi (part1 ax ay bx bY cx cy dx dy + part1 bx bY cx cy ax ay dx dy)), .int .u64 (lo (part1 ax ay bx bY cx cy dx dy + part1 bx bY cx cy ax ay dx dy))]) ∧ (s.2 = true → s0 = .agg #[.int .u64 (hi (part1 ax ay bx bY cx cy dx dy)), .int .u64 (lo (part1 ax ay bx bY cx cy dx dy))]) ∧ Lies w' (w.heap.size + 1 + 1 + 1 + 1) (.pointer (some ⟨b12, 0, none⟩)) b12 (.int .u64 (sv s.1 5 (hi (part1 ax ay bx bY cx cy dx dy + part1 bx bY cx cy ax ay dx dy)) (hi (part1 ax ay bx bY cx cy dx dy)))) (.int .u64 (sv s.1 5 (lo (part1 ax ay bx bY cx cy dx dy + part1 bx bY cx cy ax ay dx dy)) (lo (part1 ax ay bx bY cx cy dx dy)))) ∧ (4 ≤ s.1 → s.2 = true)) ?_ ?_ ?_ ?_ ?_ _ (0, false) _ _ ?_ ?_
        · rintro ⟨c, x⟩
          revert x
          revert c
          decide +kernel
        · rintro ⟨c, x⟩
          revert x
          revert c
          decide +kernel
        · rintro ⟨c, x⟩
          revert x
          revert c
          decide +kernel
        · rintro ⟨c, x⟩ a w' ⟨s0, s3, s5, s6, s7, rfl, hb2, l3, h3, h5, h6, h7, h0, l12, h4⟩ m hm
          have hz : w.heap.size + 1 + 1 + 1 + 1 ≤ w'.heap.size := by have := hb2.size; omega
          rcases enext_cases c x m hm with (⟨rfl, rfl⟩ | ⟨rfl, rfl⟩ | ⟨rfl, rfl⟩) | ⟨rfl, rfl⟩ | (⟨rfl, rfl, rfl⟩ | ⟨rfl, rfl, rfl⟩)
          · refine wpOp_step rfl (fun K hK => ?_)
            go_simp
            refine (cross_any _ _ _ _ _).mono ?_
            rintro e w2 ⟨rfl, hb⟩
            have l3' := lies3_later hb l3
            refine hK _ _ ⟨l3', ?_⟩
            exact ⟨_, _, _, _, _, rfl, below_next hb2 hz hb, l3', (fun _ => rfl), (fun h => absurd (show (2 : Fin 6) ≤ 1 from h) (by decide)), (fun h => absurd (show (3 : Fin 6) ≤ 1 from h) (by decide)), (fun h => absurd (show (4 : Fin 6) ≤ 1 from h) (by decide)), h0, l12.later hb, (fun h => absurd (show (4 : Fin 6) ≤ 1 from h) (by decide))⟩
          · refine wpOp_step rfl (fun K hK => ?_)
            go_simp
            refine (square_any _ _ _).mono ?_
            rintro e w2 ⟨rfl, hb⟩
            have l3' := lies3_later hb l3
            refine hK _ _ ⟨l3', ?_⟩
            exact ⟨_, _, _, _, _, rfl, below_next hb2 hz hb, l3', (fun _ => rfl), (fun _ => rfl), (fun h => absurd (show (3 : Fin 6) ≤ 2 from h) (by decide)), (fun h => absurd (show (4 : Fin 6) ≤ 2 from h) (by decide)), h0, l12.later hb, (fun h => absurd (show (4 : Fin 6) ≤ 2 from h) (by decide))⟩
          · refine wpOp_step rfl (fun K hK => ?_)
            go_simp
            refine (product_any _ _ (crossW_bd _ _ _ _) (squareW_bd _ _) _).mono ?_
            rintro e w2 ⟨rfl, hb⟩
            have l3' := lies3_later hb l3
            refine hK _ _ ⟨l3', ?_⟩
            exact ⟨_, _, _, _, _, rfl, below_next hb2 hz hb, l3', (fun _ => rfl), (fun _ => rfl), (fun _ => rfl), (fun h => absurd (show (4 : Fin 6) ≤ 3 from h) (by decide)), h0, l12.later hb, (fun h => absurd (show (4 : Fin 6) ≤ 3 from h) (by decide))⟩
          · have h4' : ¬ 4 ≤ (c : Nat) := fun h => by have := h4 h; simp at this
            have h5' : ¬ 5 ≤ (c : Nat) := by omega
            have M : Hid _ := l12
            simp only [sv, if_neg h5'] at l12
            obtain ⟨_, _, _, _, _, _⟩ := l12
            refine wpOp_step rfl (fun K hK => ?_)
            go_simp
            refine hK _ _ ⟨l3, ?_⟩
            exact ⟨_, _, _, _, _, rfl, hb2, l3, h3, h5, h6, h7, (fun _ => rfl), M.out, (fun _ => rfl)⟩
          · have e0 := h0 rfl
            have e6 := h6 (by decide)
            have e3 := h3 (by decide)
            have e5 := h5 (by decide)
            subst e0 e6 e3 e5
            refine wpOp_step rfl (fun K hK => ?_)
            go_simp
            refine (wplus_any _ _ _).mono ?_
            rintro e w2 ⟨rfl, hb⟩
            have l3' := lies3_later hb l3
            refine hK _ _ ⟨l3', ?_⟩
            exact ⟨_, _, _, _, _, rfl, below_next hb2 hz hb, l3', (fun _ => rfl), (fun _ => rfl), (fun _ => rfl), (fun _ => rfl), (fun _ => rfl), l12.later hb, (fun _ => rfl)⟩
          · have e0 := h0 rfl
            have e6 := h6 (by decide)
            have e3 := h3 (by decide)
            have e5 := h5 (by decide)
            have e7 := h7 (by decide)
            subst e0 e6 e3 e5 e7
            have M : Hid _ := l12
            obtain ⟨_, B12, f12a, f12b, f12c, f12d⟩ := l12
            refine wpOp_step rfl (fun K hK => ?_)
            go_simp
            have hB3 := (hb2.setCell (p := ⟨b12, 0, none⟩) B12 (.int .u64 (hi (part1 ax ay bx bY cx cy dx dy + part1 bx bY cx cy ax ay dx dy)))).setCell (p := ⟨b12, 1, none⟩) B12 (.int .u64 (lo (part1 ax ay bx bY cx cy dx dy + part1 bx bY cx cy ax ay dx dy)))
            have l3' : Lies ((w'.setCell ⟨b12, 0, none⟩ (.int .u64 (hi (part1 ax ay bx bY cx cy dx dy + part1 bx bY cx cy ax ay dx dy)))).setCell ⟨b12, 1, none⟩ (.int .u64 (lo (part1 ax ay bx bY cx cy dx dy + part1 bx bY cx cy ax ay dx dy)))) (w.heap.size + 1 + 1 + 1 + 1) (.pointer (some ⟨b9, 0, none⟩)) b9 (.int .i64 (wrap64 (ax - dx))) (.int .i64 (wrap64 (ay - dy))) ∧ Lies ((w'.setCell ⟨b12, 0, none⟩ (.int .u64 (hi (part1 ax ay bx bY cx cy dx dy + part1 bx bY cx cy ax ay dx dy)))).setCell ⟨b12, 1, none⟩ (.int .u64 (lo (part1 ax ay bx bY cx cy dx dy + part1 bx bY cx cy ax ay dx dy)))) (w.heap.size + 1 + 1 + 1 + 1) (.pointer (some ⟨b10, 0, none⟩)) b10 (.int .i64 (wrap64 (bx - dx))) (.int .i64 (wrap64 (bY - dy))) ∧ Lies ((w'.setCell ⟨b12, 0, none⟩ (.int .u64 (hi (part1 ax ay bx bY cx cy dx dy + part1 bx bY cx cy ax ay dx dy)))).setCell ⟨b12, 1, none⟩ (.int .u64 (lo (part1 ax ay bx bY cx cy dx dy + part1 bx bY cx cy ax ay dx dy)))) (w.heap.size + 1 + 1 + 1 + 1) (.pointer (some ⟨b11, 0, none⟩)) b11 (.int .i64 (wrap64 (cx - dx))) (.int .i64 (wrap64 (cy - dy))) := ⟨l3.1.apart _ _ d9, l3.2.1.apart _ _ d10, l3.2.2.apart _ _ d11⟩
            refine hK _ _ ⟨l3', ?_⟩
            exact ⟨_, _, _, _, _, rfl, hB3, l3', (fun _ => rfl), (fun _ => rfl), (fun _ => rfl), (fun _ => rfl), (fun _ => rfl), Lies.stored _ _ M.out, (fun _ => rfl)⟩
        · rintro ⟨c, x⟩ a w' ⟨s0, s3, s5, s6, s7, rfl, hb2, l3, h3, h5, h6, h7, h0, l12, h4⟩ he
          obtain ⟨rfl, rfl⟩ := enext_end he
          have K3 : Hid _ := l3
          have K12 : Hid (Lies w' (w.heap.size + 1 + 1 + 1 + 1) (.pointer (some ⟨b12, 0, none⟩)) b12 (.int .u64 (hi (part1 ax ay bx bY cx cy dx dy + part1 bx bY cx cy ax ay dx dy))) (.int .u64 (lo (part1 ax ay bx bY cx cy dx dy + part1 bx bY cx cy ax ay dx dy)))) := l12
          clear l3 l12 h3 h5 h6 h7 h0 h4
          refine NoPanic.normal ?_
          go_wp2
          go_meet
          case rel => exact ⟨hb2, K3.out, K12.out⟩
        · decide +kernel
        · exact ⟨_, _, _, _, _, rfl, hB2.drew, L1, by simp, by simp, by simp, by simp, by simp, k12, by simp⟩
      case rest =>
        obtain ⟨hB3, L2, k13⟩ := hcut
        clear hB2 L1 k12
        go_wp2
        go_cut [] (fun wd => Below (w.heap.size + 1 + 1 + 1 + 1) W wd ∧ (Lies wd (w.heap.size + 1 + 1 + 1 + 1) (.pointer (some ⟨b9, 0, none⟩)) b9 (.int .i64 (wrap64 (ax - dx))) (.int .i64 (wrap64 (ay - dy))) ∧ Lies wd (w.heap.size + 1 + 1 + 1 + 1) (.pointer (some ⟨b10, 0, none⟩)) b10 (.int .i64 (wrap64 (bx - dx))) (.int .i64 (wrap64 (bY - dy))) ∧ Lies wd (w.heap.size + 1 + 1 + 1 + 1) (.pointer (some ⟨b11, 0, none⟩)) b11 (.int .i64 (wrap64 (cx - dx))) (.int .i64 (wrap64 (cy - dy)))) ∧ Lies wd (w.heap.size + 1 + 1 + 1 + 1) (.pointer (some ⟨b12, 0, none⟩)) b12 (.int .u64 (hi (part1 ax ay bx bY cx cy dx dy + part1 bx bY cx cy ax ay dx dy + part1 cx cy ax ay bx bY dx dy))) (.int .u64 (lo (part1 ax ay bx bY cx cy dx dy + part1 bx bY cx cy ax ay dx dy + part1 cx cy ax ay bx bY dx dy))))
        case first =>
          refine wp_region_noPanic ?_
          refine wp_region_held_drew (S := fun w' => Lies w' (w.heap.size + 1 + 1 + 1 + 1) (.pointer (some ⟨b9, 0, none⟩)) b9 (.int .i64 (wrap64 (ax - dx))) (.int .i64 (wrap64 (ay - dy))) ∧ Lies w' (w.heap.size + 1 + 1 + 1 + 1) (.pointer (some ⟨b10, 0, none⟩)) b10 (.int .i64 (wrap64 (bx - dx))) (.int .i64 (wrap64 (bY - dy))) ∧ Lies w' (w.heap.size + 1 + 1 + 1 + 1) (.pointer (some ⟨b11, 0, none⟩)) b11 (.int .i64 (wrap64 (cx - dx))) (.int .i64 (wrap64 (cy - dy)))) (by kernel_rfl) (by exact L2) (fun hHeld => ?_)
          refine wpAnyH_take (i := 1) (oi := _) (v := .agg #[.int .i64 (wrap64 (ax - dx)), .int .i64 (wrap64 (ay - dy))]) rfl (by kernel_rfl) (by kernel_rfl) (by kernel_rfl) (fun _ _ _ h => h) (Or.inl ⟨by rfl, ?_⟩) (by assumption) ?_
          · (intro w' hSw; obtain ⟨⟨_, _, _, _, _, _⟩, ⟨_, _, _, _, _, _⟩, ⟨_, _, _, _, _, _⟩⟩ := hSw; go_simp)
          simp only [Act.put, List.setIfInBounds_toArray, List.set_cons_zero, List.set_cons_succ]
          refine wpAnyH_take (i := 2) (oi := _) (v := .agg #[.int .i64 (wrap64 (bx - dx)), .int .i64 (wrap64 (bY - dy))]) rfl (by kernel_rfl) (by kernel_rfl) (by kernel_rfl) (fun _ _ _ h => h) (Or.inl ⟨by rfl, ?_⟩) (by assumption) ?_
          · (intro w' hSw; obtain ⟨⟨_, _, _, _, _, _⟩, ⟨_, _, _, _, _, _⟩, ⟨_, _, _, _, _, _⟩⟩ := hSw; go_simp)
          simp only [Act.put, List.setIfInBounds_toArray, List.set_cons_zero, List.set_cons_succ]
          refine wpAnyH_take (i := 4) (oi := _) (v := .agg #[.int .i64 (wrap64 (cx - dx)), .int .i64 (wrap64 (cy - dy))]) rfl (by kernel_rfl) (by kernel_rfl) (by kernel_rfl) (fun _ _ _ h => h) (Or.inl ⟨by rfl, ?_⟩) (by assumption) ?_
          · (intro w' hSw; obtain ⟨⟨_, _, _, _, _, _⟩, ⟨_, _, _, _, _, _⟩, ⟨_, _, _, _, _, _⟩⟩ := hSw; go_simp)
          simp only [Act.put, List.setIfInBounds_toArray, List.set_cons_zero, List.set_cons_succ]
          refine wpAnyH_states elst enext emeas (fun (s : eSt) (a : Act) (w' : World) => ∃ s0 s3 s5 s6 s7 : Value, a = { tmps := #[.agg #[.int .i64 ax, .int .i64 ay], .agg #[.int .i64 bx, .int .i64 bY], .agg #[.int .i64 cx, .int .i64 cy], .agg #[.int .i64 dx, .int .i64 dy], .pointer (some { block := w.heap.size, off := 0 }), .pointer (some { block := w.heap.size + 1, off := 0 }), .pointer (some { block := w.heap.size + 1 + 1, off := 0 }), .pointer (some { block := w.heap.size + 1 + 1 + 1, off := 0 }), .int .i64 0, .pointer (some { block := b9, off := 0 }), .pointer (some { block := b10, off := 0 }), .pointer (some { block := b11, off := 0 }), .pointer (some { block := b12, off := 0 }), u13, u14, u15, u16, u17, u18, u19, u20, u21, u22, u23, u24, u25, u26, u27, u28, u29, u30, u31, u32, u33, u34, u35, s0, .agg #[.int .i64 (wrap64 (ax - dx)), .int .i64 (wrap64 (ay - dy))], .agg #[.int .i64 (wrap64 (bx - dx)), .int .i64 (wrap64 (bY - dy))], s3, .agg #[.int .i64 (wrap64 (cx - dx)), .int .i64 (wrap64 (cy - dy))], s5, s6, s7, u44, u45], defers := [] } ∧ Below (w.heap.size + 1 + 1 + 1 + 1) W w' ∧ (Lies w' (w.heap.size + 1 + 1 + 1 + 1) (.pointer (some ⟨b9, 0, none⟩)) b9 (.int .i64 (wrap64 (ax - dx))) (.int .i64 (wrap64 (ay - dy))) ∧ Lies w' (w.heap.size + 1 + 1 + 1 + 1) (.pointer (some ⟨b10, 0, none⟩)) b10 (.int .i64 (wrap64 (bx - dx))) (.int .i64 (wrap64 (bY - dy))) ∧ Lies w' (w.heap.size + 1 + 1 + 1 + 1) (.pointer (some ⟨b11, 0, none⟩)) b11 (.int .i64 (wrap64 (cx - dx))) (.int .i64 (wrap64 (cy - dy)))) ∧ (1 ≤ s.1 → s3 = .int .i64 (crossW (wrap64 (ax - dx)) (wrap64 (ay - dy)) (wrap64 (bx - dx)) (wrap64 (bY - dy)))) ∧ (2 ≤ s.1 → s5 = .int .i64 (squareW (wrap64 (cx - dx)) (wrap64 (cy - dy)))) ∧ (3 ≤ s.1 → s6 = .agg #[.int .u64 (hi (part1 cx cy ax ay bx bY dx dy)), .int .u64 (lo (part1 cx cy ax ay bx bY dx dy))]) ∧ (4 ≤ s.1 → s7 = .agg #[.int .u64 (hi (part1 ax ay bx bY cx cy dx dy + part1 bx bY cx cy ax ay dx dy + part1 cx cy ax ay bx bY dx dy)), .int .u64 (lo (part1 ax ay bx bY cx cy dx dy + part1 bx bY cx cy ax ay dx dy + part1 cx cy ax ay bx bY dx dy))]) ∧ (s.2 = true → s0 = .agg #[.int .u64 (hi (part1 ax ay bx bY cx cy dx dy + part1 bx bY cx cy ax ay dx dy)), .int .u64 (lo (part1 ax ay bx bY cx cy dx dy + part1 bx bY cx cy ax ay dx dy))]) ∧ Lies w' (w.heap.size + 1 + 1 + 1 + 1) (.pointer (some ⟨b12, 0, none⟩)) b12 (.int .u64 (sv s.1 5 (hi (part1 ax ay bx bY cx cy dx dy + part1 bx bY cx cy ax ay dx dy + part1 cx cy ax ay bx bY dx dy)) (hi (part1 ax ay bx bY cx cy dx dy + part1 bx bY cx cy ax ay dx dy)))) (.int .u64 (sv s.1 5 (lo (part1 ax ay bx bY cx cy dx dy + part1 bx bY cx cy ax ay dx dy + part1 cx cy ax ay bx bY dx dy)) (lo (part1 ax ay bx bY cx cy dx dy + part1 bx bY cx cy ax ay dx dy)))) ∧ (4 ≤ s.1 → s.2 = true)) ?_ ?_ ?_ ?_ ?_ _ (0, false) _ _ ?_ ?_
          · rintro ⟨c, x⟩
            revert x
            revert c
            decide +kernel
          · rintro ⟨c, x⟩
            revert x
            revert c
            decide +kernel
          · rintro ⟨c, x⟩
            revert x
            revert c
            decide +kernel
          · rintro ⟨c, x⟩ a w' ⟨s0, s3, s5, s6, s7, rfl, hb2, l3, h3, h5, h6, h7, h0, l12, h4⟩ m hm
            have hz : w.heap.size + 1 + 1 + 1 + 1 ≤ w'.heap.size := by have := hb2.size; omega
            rcases enext_cases c x m hm with (⟨rfl, rfl⟩ | ⟨rfl, rfl⟩ | ⟨rfl, rfl⟩) | ⟨rfl, rfl⟩ | (⟨rfl, rfl, rfl⟩ | ⟨rfl, rfl, rfl⟩)
            · refine wpOp_step rfl (fun K hK => ?_)
              go_simp
              refine (cross_any _ _ _ _ _).mono ?_
              rintro e w2 ⟨rfl, hb⟩
              have l3' := lies3_later hb l3
              refine hK _ _ ⟨l3', ?_⟩
              exact ⟨_, _, _, _, _, rfl, below_next hb2 hz hb, l3', (fun _ => rfl), (fun h => absurd (show (2 : Fin 6) ≤ 1 from h) (by decide)), (fun h => absurd (show (3 : Fin 6) ≤ 1 from h) (by decide)), (fun h => absurd (show (4 : Fin 6) ≤ 1 from h) (by decide)), h0, l12.later hb, (fun h => absurd (show (4 : Fin 6) ≤ 1 from h) (by decide))⟩
            · refine wpOp_step rfl (fun K hK => ?_)
              go_simp
              refine (square_any _ _ _).mono ?_
              rintro e w2 ⟨rfl, hb⟩
              have l3' := lies3_later hb l3
              refine hK _ _ ⟨l3', ?_⟩
              exact ⟨_, _, _, _, _, rfl, below_next hb2 hz hb, l3', (fun _ => rfl), (fun _ => rfl), (fun h => absurd (show (3 : Fin 6) ≤ 2 from h) (by decide)), (fun h => absurd (show (4 : Fin 6) ≤ 2 from h) (by decide)), h0, l12.later hb, (fun h => absurd (show (4 : Fin 6) ≤ 2 from h) (by decide))⟩
            · refine wpOp_step rfl (fun K hK => ?_)
              go_simp
              refine (product_any _ _ (crossW_bd _ _ _ _) (squareW_bd _ _) _).mono ?_
              rintro e w2 ⟨rfl, hb⟩
              have l3' := lies3_later hb l3
              refine hK _ _ ⟨l3', ?_⟩
              exact ⟨_, _, _, _, _, rfl, below_next hb2 hz hb, l3', (fun _ => rfl), (fun _ => rfl), (fun _ => rfl), (fun h => absurd (show (4 : Fin 6) ≤ 3 from h) (by decide)), h0, l12.later hb, (fun h => absurd (show (4 : Fin 6) ≤ 3 from h) (by decide))⟩
            · have h4' : ¬ 4 ≤ (c : Nat) := fun h => by have := h4 h; simp at this
              have h5' : ¬ 5 ≤ (c : Nat) := by omega
              have M : Hid _ := l12
              simp only [sv, if_neg h5'] at l12
              obtain ⟨_, _, _, _, _, _⟩ := l12
              refine wpOp_step rfl (fun K hK => ?_)
              go_simp
              refine hK _ _ ⟨l3, ?_⟩
              exact ⟨_, _, _, _, _, rfl, hb2, l3, h3, h5, h6, h7, (fun _ => rfl), M.out, (fun _ => rfl)⟩
            · have e0 := h0 rfl
              have e6 := h6 (by decide)
              have e3 := h3 (by decide)
              have e5 := h5 (by decide)
              subst e0 e6 e3 e5
              refine wpOp_step rfl (fun K hK => ?_)
              go_simp
              refine (wplus_any _ _ _).mono ?_
              rintro e w2 ⟨rfl, hb⟩
              have l3' := lies3_later hb l3
              refine hK _ _ ⟨l3', ?_⟩
              exact ⟨_, _, _, _, _, rfl, below_next hb2 hz hb, l3', (fun _ => rfl), (fun _ => rfl), (fun _ => rfl), (fun _ => rfl), (fun _ => rfl), l12.later hb, (fun _ => rfl)⟩
            · have e0 := h0 rfl
              have e6 := h6 (by decide)
              have e3 := h3 (by decide)
              have e5 := h5 (by decide)
              have e7 := h7 (by decide)
              subst e0 e6 e3 e5 e7
              have M : Hid _ := l12
              obtain ⟨_, B12, f12a, f12b, f12c, f12d⟩ := l12
              refine wpOp_step rfl (fun K hK => ?_)
              go_simp
              have hB3 := (hb2.setCell (p := ⟨b12, 0, none⟩) B12 (.int .u64 (hi (part1 ax ay bx bY cx cy dx dy + part1 bx bY cx cy ax ay dx dy + part1 cx cy ax ay bx bY dx dy)))).setCell (p := ⟨b12, 1, none⟩) B12 (.int .u64 (lo (part1 ax ay bx bY cx cy dx dy + part1 bx bY cx cy ax ay dx dy + part1 cx cy ax ay bx bY dx dy)))
              have l3' : Lies ((w'.setCell ⟨b12, 0, none⟩ (.int .u64 (hi (part1 ax ay bx bY cx cy dx dy + part1 bx bY cx cy ax ay dx dy + part1 cx cy ax ay bx bY dx dy)))).setCell ⟨b12, 1, none⟩ (.int .u64 (lo (part1 ax ay bx bY cx cy dx dy + part1 bx bY cx cy ax ay dx dy + part1 cx cy ax ay bx bY dx dy)))) (w.heap.size + 1 + 1 + 1 + 1) (.pointer (some ⟨b9, 0, none⟩)) b9 (.int .i64 (wrap64 (ax - dx))) (.int .i64 (wrap64 (ay - dy))) ∧ Lies ((w'.setCell ⟨b12, 0, none⟩ (.int .u64 (hi (part1 ax ay bx bY cx cy dx dy + part1 bx bY cx cy ax ay dx dy + part1 cx cy ax ay bx bY dx dy)))).setCell ⟨b12, 1, none⟩ (.int .u64 (lo (part1 ax ay bx bY cx cy dx dy + part1 bx bY cx cy ax ay dx dy + part1 cx cy ax ay bx bY dx dy)))) (w.heap.size + 1 + 1 + 1 + 1) (.pointer (some ⟨b10, 0, none⟩)) b10 (.int .i64 (wrap64 (bx - dx))) (.int .i64 (wrap64 (bY - dy))) ∧ Lies ((w'.setCell ⟨b12, 0, none⟩ (.int .u64 (hi (part1 ax ay bx bY cx cy dx dy + part1 bx bY cx cy ax ay dx dy + part1 cx cy ax ay bx bY dx dy)))).setCell ⟨b12, 1, none⟩ (.int .u64 (lo (part1 ax ay bx bY cx cy dx dy + part1 bx bY cx cy ax ay dx dy + part1 cx cy ax ay bx bY dx dy)))) (w.heap.size + 1 + 1 + 1 + 1) (.pointer (some ⟨b11, 0, none⟩)) b11 (.int .i64 (wrap64 (cx - dx))) (.int .i64 (wrap64 (cy - dy))) := ⟨l3.1.apart _ _ d9, l3.2.1.apart _ _ d10, l3.2.2.apart _ _ d11⟩
              refine hK _ _ ⟨l3', ?_⟩
              exact ⟨_, _, _, _, _, rfl, hB3, l3', (fun _ => rfl), (fun _ => rfl), (fun _ => rfl), (fun _ => rfl), (fun _ => rfl), Lies.stored _ _ M.out, (fun _ => rfl)⟩
          · rintro ⟨c, x⟩ a w' ⟨s0, s3, s5, s6, s7, rfl, hb2, l3, h3, h5, h6, h7, h0, l12, h4⟩ he
            obtain ⟨rfl, rfl⟩ := enext_end he
            have K3 : Hid _ := l3
            have K12 : Hid (Lies w' (w.heap.size + 1 + 1 + 1 + 1) (.pointer (some ⟨b12, 0, none⟩)) b12 (.int .u64 (hi (part1 ax ay bx bY cx cy dx dy + part1 bx bY cx cy ax ay dx dy + part1 cx cy ax ay bx bY dx dy))) (.int .u64 (lo (part1 ax ay bx bY cx cy dx dy + part1 bx bY cx cy ax ay dx dy + part1 cx cy ax ay bx bY dx dy)))) := l12
            clear l3 l12 h3 h5 h6 h7 h0 h4
            refine NoPanic.normal ?_
            go_wp2
            go_meet
            case rel => exact ⟨hb2, K3.out, K12.out⟩
          · decide +kernel
          · exact ⟨_, _, _, _, _, rfl, hB3.drew, L2, by simp, by simp, by simp, by simp, by simp, k13, by simp⟩
        case rest =>
          obtain ⟨hB4, L5, k14⟩ := hcut
          clear hB3 L2 k13
          obtain ⟨_, _, f12a, f12b, _, _⟩ := k14
          go_wp2_with fail
          refine (wsign_any _ _).mono ?_
          rintro e w5 ⟨rfl, hb5⟩
          go_wp2_with fail
          go_ret
          exact ⟨rfl, below_then (below_then b0 (below_size hB4 zW)) hb5⟩
end Go.Proofs.Ytdkaoopkbhaheaa
