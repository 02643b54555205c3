import Derived.Test.YtdkaoopkbhaheaaGreatQA4
import Derived.Test.YtdkaoopkbhaheaaGreatZ0
set_option maxHeartbeats 8000000
namespace Go.Proofs.YtdkaoopkbhaheaaGreat
open Go.RowKit
def pBig (a b : Int) : Int := wrap64 (wrap64 (a.tdiv 4194304) * wrap64 (b.tdiv 4194304))
def pMid (a b : Int) : Int := wrap64 (wrap64 (wrap64 (a.tdiv 4194304) * b.tmod 4194304) + wrap64 (a.tmod 4194304 * wrap64 (b.tdiv 4194304)))
def pLow (a b : Int) : Int := wrap64 (a.tmod 4194304 * b.tmod 4194304)
theorem refProduct_any (a b : Int) (w : World) :
  Calls Tryz.prog 60 #[.int .i64 a, .int .i64 b] w fun e w' => e = .returned (.agg #[.int .i64 (pBig a b), .int .i64 (pMid a b), .int .i64 (pLow a b)]) /\ Below w.heap.size w w' := by
 go_enter Tryz.func60, Tryz.ntmps60
 go_wp2
 exact bodyPost_ret (v := .agg #[.int .i64 (pBig a b), .int .i64 (pMid a b), .int .i64 (pLow a b)]) (by simp [results, Tryz.results60, go_sem, pBig, pMid, pLow]) rfl ⟨rfl, (Below.refl _ _).alloc (Nat.le_refl _) _⟩
theorem refAdd_any (a b c d e f : Int) (w : World) :
  Calls Tryz.prog 59 #[.agg #[.int .i64 a, .int .i64 b, .int .i64 c], .agg #[.int .i64 d, .int .i64 e, .int .i64 f]] w fun r w' => r = .returned (.agg #[.int .i64 (wrap64 (a + d)), .int .i64 (wrap64 (b + e)), .int .i64 (wrap64 (c + f))]) /\ Below w.heap.size w w' := by
 go_enter Tryz.func59, Tryz.ntmps59
 go_wp2
 exact bodyPost_ret (v := .agg #[.int .i64 (wrap64 (a + d)), .int .i64 (wrap64 (b + e)), .int .i64 (wrap64 (c + f))]) (by simp [results, Tryz.results59, go_sem]) rfl ⟨rfl, (((Below.refl _ _).alloc (Nat.le_refl _) _).alloc (by simp) _).alloc (by simp; omega) _⟩
def cBig (a b c : Int) : Int := wrap64 (a + wrap64 ((wrap64 (b + wrap64 (c.tdiv 4194304))).tdiv 4194304))
def cMid (b c : Int) : Int := (wrap64 (b + wrap64 (c.tdiv 4194304))).tmod 4194304
def cLow (c : Int) : Int := c.tmod 4194304
def signOfW (a b c : Int) : Int :=
 if cBig a b c = 0 then sgn (wrap64 (wrap64 (cMid b c * 4194304) + cLow c))
 else if cBig a b c = 1 \/ cBig a b c = -1 then sgn (wrap64 (wrap64 (wrap64 (wrap64 (cBig a b c * 4194304) + cMid b c) * 4194304) + cLow c))
 else sgn (cBig a b c)
theorem signOf_zero (a b c : Int) (w : World) (h0 : cBig a b c = 0) :
  Calls Tryz.prog 61 #[.agg #[.int .i64 a, .int .i64 b, .int .i64 c]] w fun r w' => r = .returned (.int .i64 (signOfW a b c)) /\ Below w.heap.size w w' := by
 have hs : Hid (sgn (wrap64 (wrap64 ((wrap64 (b + wrap64 (c.tdiv 4194304))).tmod 4194304 * 4194304) + c.tmod 4194304)) = signOfW a b c) := by
  unfold signOfW; rw [if_pos h0]; rfl
 have g0 : (wrap64 (a + wrap64 ((wrap64 (b + wrap64 (c.tdiv 4194304))).tdiv 4194304)) == 0) = true := by simp only [beq_iff_eq]; exact h0
 clear h0
 go_enter Tryz.func61, Tryz.ntmps61
 go_wp2_with fail
 refine (refsign_any _ _).mono ?_
 rintro e w1 ⟨rfl, hw1⟩
 rw [hw1]
 go_wp2_with fail
 go_ret
 exact ⟨ret_int hs.out, (Below.refl _ _).alloc (Nat.le_refl _) _⟩
theorem signOf_one (a b c : Int) (w : World) (h1 : cBig a b c = 1) :
  Calls Tryz.prog 61 #[.agg #[.int .i64 a, .int .i64 b, .int .i64 c]] w fun r w' => r = .returned (.int .i64 (signOfW a b c)) /\ Below w.heap.size w w' := by
 have hs : Hid (sgn (wrap64 (wrap64 (wrap64 (wrap64 (wrap64 (a + wrap64 ((wrap64 (b + wrap64 (c.tdiv 4194304))).tdiv 4194304)) * 4194304) + (wrap64 (b + wrap64 (c.tdiv 4194304))).tmod 4194304) * 4194304) + c.tmod 4194304)) = signOfW a b c) := by
  unfold signOfW
  rw [if_neg (by omega), if_pos (.inl h1)]
  rfl
 have g1 : (wrap64 (a + wrap64 ((wrap64 (b + wrap64 (c.tdiv 4194304))).tdiv 4194304)) == 1) = true := by simp only [beq_iff_eq]; exact h1
 clear h1
 go_enter Tryz.func61, Tryz.ntmps61
 go_wp2_with fail
 refine (refsign_any _ _).mono ?_
 rintro e w1 ⟨rfl, hw1⟩
 rw [hw1]
 go_wp2_with fail
 go_ret
 exact ⟨ret_int hs.out, (Below.refl _ _).alloc (Nat.le_refl _) _⟩
theorem signOf_minus (a b c : Int) (w : World) (h1 : cBig a b c = -1) :
  Calls Tryz.prog 61 #[.agg #[.int .i64 a, .int .i64 b, .int .i64 c]] w fun r w' => r = .returned (.int .i64 (signOfW a b c)) /\ Below w.heap.size w w' := by
 have hs : Hid (sgn (wrap64 (wrap64 (wrap64 (-4194304 + (wrap64 (b + wrap64 (c.tdiv 4194304))).tmod 4194304) * 4194304) + c.tmod 4194304)) = signOfW a b c) := by
  unfold signOfW
  rw [if_neg (by omega), if_pos (.inr h1), h1, wrap64_in (-1 * 4194304) (by omega) (by omega)]
  rfl
 have g1 : wrap64 (a + wrap64 ((wrap64 (b + wrap64 (c.tdiv 4194304))).tdiv 4194304)) = -1 := h1
 clear h1
 go_enter Tryz.func61, Tryz.ntmps61
 go_wp2_with fail
 refine (refsign_any _ _).mono ?_
 rintro e w1 ⟨rfl, hw1⟩
 rw [hw1]
 go_wp2_with fail
 go_ret
 exact ⟨ret_int hs.out, (Below.refl _ _).alloc (Nat.le_refl _) _⟩
theorem signOf_great (a b c : Int) (w : World) (h0 : cBig a b c ≠ 0) (h1 : cBig a b c ≠ 1) (h2 : cBig a b c ≠ -1) :
  Calls Tryz.prog 61 #[.agg #[.int .i64 a, .int .i64 b, .int .i64 c]] w fun r w' => r = .returned (.int .i64 (signOfW a b c)) /\ Below w.heap.size w w' := by
 have hs : Hid (sgn (wrap64 (a + wrap64 ((wrap64 (b + wrap64 (c.tdiv 4194304))).tdiv 4194304))) = signOfW a b c) := by
  unfold signOfW; rw [if_neg h0, if_neg (by omega)]; rfl
 have g0 : (wrap64 (a + wrap64 ((wrap64 (b + wrap64 (c.tdiv 4194304))).tdiv 4194304)) == 0) = false := by simp only [beq_eq_false_iff_ne]; exact h0
 have g1 : (wrap64 (a + wrap64 ((wrap64 (b + wrap64 (c.tdiv 4194304))).tdiv 4194304)) == 1) = false := by simp only [beq_eq_false_iff_ne]; exact h1
 have g2 : (wrap64 (a + wrap64 ((wrap64 (b + wrap64 (c.tdiv 4194304))).tdiv 4194304)) == -1) = false := by simp only [beq_eq_false_iff_ne]; exact h2
 clear h0 h1 h2
 go_enter Tryz.func61, Tryz.ntmps61
 go_wp2_with fail
 refine (refsign_any _ _).mono ?_
 rintro e w1 ⟨rfl, hw1⟩
 rw [hw1]
 go_wp2_with fail
 go_ret
 exact ⟨ret_int hs.out, (Below.refl _ _).alloc (Nat.le_refl _) _⟩
theorem signOf_any (a b c : Int) (w : World) :
  Calls Tryz.prog 61 #[.agg #[.int .i64 a, .int .i64 b, .int .i64 c]] w fun r w' => r = .returned (.int .i64 (signOfW a b c)) /\ Below w.heap.size w w' := by
 by_cases h0 : cBig a b c = 0
 ·exact signOf_zero a b c w h0
 ·by_cases h1 : cBig a b c = 1
  ·exact signOf_one a b c w h1
  ·by_cases h2 : cBig a b c = -1
   ·exact signOf_minus a b c w h2
   ·exact signOf_great a b c w h0 h1 h2
end Go.Proofs.YtdkaoopkbhaheaaGreat
namespace Go.Proofs.YtdkaoopkbhaheaaGreat
open Go.RowKit
set_option linter.unusedSimpArgs false
set_option linter.unusedVariables false
abbrev fSt := Fin 4 × Bool
def flst (s : fSt) : Array Bool := #[s.2, true, true, true, true, true, true, true, true, true, true, true, true, true, true, true, true, true, true, true, true, true, true, true, true, true, true, true, true, true, true, true, true, true, true, decide (1 <= s.1), decide (2 <= s.1), decide (3 <= s.1)]
def fpre (c : Fin 4) (x : Bool) : List (Nat × fSt) := match c with
 | 0 => [(35, (1, x))]
 | _ => []
def fpost (c : Fin 4) (x : Bool) : List (Nat × fSt) := match x, c with
 | true, 1 => [(36, (2, x))]
 | true, 2 => [(37, (3, x))]
 | _, _ => []
def fone (c : Fin 4) (x : Bool) : List (Nat × fSt) := match x with
 | true => []
 | false => [(0, (c, true))]
def fnext (s : fSt) : List (Nat × fSt) := fone s.1 s.2 ++ fpre s.1 s.2 ++ fpost s.1 s.2
def fmeas (s : fSt) : Nat := (3 - s.1.val) + (fone s.1 s.2).length
theorem fpre_cases (c : Fin 4) (x : Bool) (m : Nat × fSt) (h : m ∈ fpre c x) : (c = 0 /\ m = (35, (1, x))) := by
 unfold fpre at h
 split at h <;> simp at h <;> simp [h]
theorem fpost_cases (c : Fin 4) (x : Bool) (m : Nat × fSt) (h : m ∈ fpost c x) : (x = true /\ c = 1 /\ m = (36, (2, x))) \/ (x = true /\ c = 2 /\ m = (37, (3, x))) := by
 unfold fpost at h
 split at h <;> simp at h <;> simp [h]
theorem fone_cases (c : Fin 4) (x : Bool) (m : Nat × fSt) (h : m ∈ fone c x) : x = false /\ m = (0, (c, true)) := by
 unfold fone at h
 split at h <;> simp at h
 exact ⟨rfl, h⟩
theorem fnext_cases (c : Fin 4) (x : Bool) (m : Nat × fSt) (h : m ∈ fnext (c, x)) :
  ((c = 0 /\ m = (35, (1, x)))) \/ (x = false /\ m = (0, (c, true))) \/ ((x = true /\ c = 1 /\ m = (36, (2, x))) \/ (x = true /\ c = 2 /\ m = (37, (3, x)))) := by
 unfold fnext at h
 simp only [List.mem_append] at h
 rcases h with (h | h) | h
 ·exact .inr (.inl (fone_cases _ _ _ h))
 ·exact .inl (fpre_cases _ _ _ h)
 ·exact .inr (.inr (fpost_cases _ _ _ h))
theorem fnext_end {c : Fin 4} {x : Bool} (h : fnext (c, x) = []) : c = 3 /\ x = true := by
 revert x
 revert c
 decide +kernel
section
variable {P : Program} {ops : Array Oper} {Q : Exit -> Act -> World -> Prop} {md : Region.Mode}
theorem wpAnyH_from {S : World -> Prop} {σ : Type} {a0 : Act} {w0 : World} {fuel : Nat} {l0 : Array Bool} (lst : σ -> Array Bool) (next : σ -> List (Nat × σ)) (μ : σ -> Nat) (I : Act -> σ -> Act -> World -> Prop) (s0 : σ)
  (h0 : l0 = lst s0) (hf : μ s0 <= fuel)
  (hr : ∀ s, Region.ready md ops (lst s) = (next s).map Prod.fst)
  (hl : ∀ s, ∀ x ∈ next s, (lst s).setIfInBounds x.1 true = lst x.2)
  (hμ : ∀ s, ∀ x ∈ next s, μ x.2 < μ s)
  (hI : I a0 s0 a0 w0)
  (hstep : ∀ s a w, I a0 s a w -> ∀ x ∈ next s, wpOp P ops Q x.1 (fun a' w' => S w' /\ I a0 x.2 a' w') a w)
  (hend : ∀ s a w, I a0 s a w -> next s = [] -> Q .normal a w) : wpAnyH P md ops Q S fuel l0 a0 w0 := by
 rw [h0]
 exact wpAnyH_states lst next μ (I a0) hr hl hμ hstep hend fuel s0 a0 w0 hf hI
end
section
variable {P : Program} {ops : Array Oper} {Q : Exit -> Act -> World -> Prop} {md : Region.Mode}
theorem sum_region {S : World -> Prop} {a0 : Act} {w0 : World} {fuel : Nat} {l0 : Array Bool} (I : Act -> fSt -> Act -> World -> Prop)
  (h0 : l0 = flst (0, false)) (hf : fmeas (0, false) <= fuel)
  (hr : ∀ s, Region.ready md ops (flst s) = (fnext s).map Prod.fst)
  (hI : I a0 (0, false) a0 w0)
  (t0 : ∀ c a w, I a0 (c, false) a w -> wpOp P ops Q 0 (fun a' w' => S w' /\ I a0 (c, true) a' w') a w)
  (t1 : ∀ x a w, I a0 (0, x) a w -> wpOp P ops Q 35 (fun a' w' => S w' /\ I a0 (1, x) a' w') a w)
  (t2 : ∀ a w, I a0 (1, true) a w -> wpOp P ops Q 36 (fun a' w' => S w' /\ I a0 (2, true) a' w') a w)
  (t3 : ∀ a w, I a0 (2, true) a w -> wpOp P ops Q 37 (fun a' w' => S w' /\ I a0 (3, true) a' w') a w)
  (t4 : ∀ a w, I a0 (3, true) a w -> Q .normal a w) : wpAnyH P md ops Q S fuel l0 a0 w0 := by
 refine wpAnyH_from flst fnext fmeas I (0, false) h0 hf hr ?_ ?_ hI ?_ ?_
 ·rintro ⟨c, x⟩
  revert x
  revert c
  decide +kernel
 ·rintro ⟨c, x⟩
  revert x
  revert c
  decide +kernel
 ·rintro ⟨c, x⟩ a w hI m hm
  rcases fnext_cases c x m hm with ⟨rfl, rfl⟩ | ⟨rfl, rfl⟩ | (⟨rfl, rfl, rfl⟩ | ⟨rfl, rfl, rfl⟩)
  ·exact t1 _ _ _ hI
  ·exact t0 _ _ _ hI
  ·exact t2 _ _ hI
  ·exact t3 _ _ hI
 ·rintro ⟨c, x⟩ a w hI he
  obtain ⟨rfl, rfl⟩ := fnext_end he
  exact t4 _ _ hI
end
def Three (w' : World) (B : Nat) (px py qx qy rx ry : Int) : Prop :=
 w'.cell? ⟨B, 0, none⟩ = some (.int .i64 px) /\ w'.cell? ⟨B, 1, none⟩ = some (.int .i64 py) /\ w'.cell? ⟨B, 2, none⟩ = some (.int .i64 qx) /\ w'.cell? ⟨B, 3, none⟩ = some (.int .i64 qy) /\ w'.cell? ⟨B, 4, none⟩ = some (.int .i64 rx) /\ w'.cell? ⟨B, 5, none⟩ = some (.int .i64 ry)
theorem Three.later {w1 w2 : World} {B : Nat} {px py qx qy rx ry : Int} (hb : Below w1.heap.size w1 w2) (h : Three w1 B px py qx qy rx ry) : Three w2 B px py qx qy rx ry := by
 obtain ⟨h1, h2, h3, h4, h5, h6⟩ := h
 exact ⟨cell_later hb h1, cell_later hb h2, cell_later hb h3, cell_later hb h4, cell_later hb h5, cell_later hb h6⟩
def Parts (w' : World) (B : Nat) (s : Int × Int × Int) : Prop :=
 w'.cell? ⟨B, 0, none⟩ = some (.int .i64 s.1) /\ w'.cell? ⟨B, 1, none⟩ = some (.int .i64 s.2.1) /\ w'.cell? ⟨B, 2, none⟩ = some (.int .i64 s.2.2) /\ w'.frozen? ⟨B, 0, none⟩ = false /\ w'.frozen? ⟨B, 1, none⟩ = false /\ w'.frozen? ⟨B, 2, none⟩ = false
theorem Parts.lt {w : World} {B : Nat} {s : Int × Int × Int} (h : Parts w B s) : B < w.heap.size := World.block_lt_of_cell? _ _ h.1
theorem Parts.later {w1 w2 : World} {B : Nat} {s : Int × Int × Int} (hb : Below w1.heap.size w1 w2) (h : Parts w1 B s) : Parts w2 B s := by
 have hl := h.lt
 obtain ⟨h1, h2, h3, h4, h5, h6⟩ := h
 exact ⟨cell_later hb h1, cell_later hb h2, cell_later hb h3, (hb.frozen (p := ⟨B, 0, none⟩) hl).trans h4, (hb.frozen (p := ⟨B, 1, none⟩) hl).trans h5, (hb.frozen (p := ⟨B, 2, none⟩) hl).trans h6⟩
def add3 (s : Int × Int × Int) (a b : Int) : Int × Int × Int := (wrap64 (s.1 + pBig a b), wrap64 (s.2.1 + pMid a b), wrap64 (s.2.2 + pLow a b))
def csum1 (px py qx qy rx ry : Int) : Int × Int × Int := add3 (0, 0, 0) (squareW px py) (crossW qx qy rx ry)
def csum2 (px py qx qy rx ry : Int) : Int × Int × Int := add3 (csum1 px py qx qy rx ry) (squareW qx qy) (crossW rx ry px py)
def csum3 (px py qx qy rx ry : Int) : Int × Int × Int := add3 (csum2 px py qx qy rx ry) (squareW rx ry) (crossW px py qx qy)
def signOf3 (s : Int × Int × Int) : Int := signOfW s.1 s.2.1 s.2.2
theorem put_self (a : Act) (k : Nat) : a.put (some k) (a.tmps.getD k undef) = a := by
 cases a with
 | mk tmps defers =>
  simp only [Act.put]
  congr 1
  apply Array.ext
  ·simp
  ·intro i h1 h2
   rw [Array.getElem_setIfInBounds]
   split
   ·subst_vars; simp [Array.getD, h2]
   ·rfl
theorem put_three (a : Act) (i j k : Nat) : a = ((a.put (some i) (a.tmps.getD i undef)).put (some j) (a.tmps.getD j undef)).put (some k) (a.tmps.getD k undef) := by
 rw [put_self, put_self, put_self]
def SS (w' : World) (B R : Nat) (px py qx qy rx ry a b c d : Int) : Prop :=
 Three w' B px py qx qy rx ry /\ w'.cell? ⟨R, 0, none⟩ = some (.int .i64 a) /\ w'.cell? ⟨R, 1, none⟩ = some (.int .i64 b) /\ w'.cell? ⟨R + 1, 0, none⟩ = some (.int .i64 c) /\ w'.cell? ⟨R + 1, 1, none⟩ = some (.int .i64 d)
theorem SS.later {w1 w2 : World} {B R : Nat} {px py qx qy rx ry a b c d : Int} (hb : Below w1.heap.size w1 w2) (h : SS w1 B R px py qx qy rx ry a b c d) : SS w2 B R px py qx qy rx ry a b c d :=
 ⟨h.1.later hb, cell_later hb h.2.1, cell_later hb h.2.2.1, cell_later hb h.2.2.2.1, cell_later hb h.2.2.2.2⟩
def put3 (w : World) (B : Nat) (s : Int × Int × Int) : World := ((w.setCell ⟨B, 0, none⟩ (.int .i64 s.1)).setCell ⟨B, 1, none⟩ (.int .i64 s.2.1)).setCell ⟨B, 2, none⟩ (.int .i64 s.2.2)
theorem put3_far (w : World) (B : Nat) (s : Int × Int × Int) (b o : Nat) (h : b ≠ B) : (put3 w B s).cell? ⟨b, o, none⟩ = w.cell? ⟨b, o, none⟩ := by
 simp [put3, go_sem, h]
theorem put3_parts {w : World} {B : Nat} {s : Int × Int × Int} (s' : Int × Int × Int) (h : Parts w B s) : Parts (put3 w B s') B s' := by
 obtain ⟨h1, h2, h3, h4, h5, h6⟩ := h
 refine ⟨?_, ?_, ?_, ?_, ?_, ?_⟩ <;> simp [put3, go_sem, h1, h2, h3, h4, h5, h6]
theorem SS.far {w : World} {B R : Nat} {px py qx qy rx ry a b c d : Int} (B' : Nat) (s : Int × Int × Int) (h : SS w B R px py qx qy rx ry a b c d) (n1 : B ≠ B') (n2 : R ≠ B') (n3 : R + 1 ≠ B') : SS (put3 w B' s) B R px py qx qy rx ry a b c d := by
 obtain ⟨⟨h1, h2, h3, h4, h5, h6⟩, h7, h8, h9, h10⟩ := h
 refine ⟨⟨?_, ?_, ?_, ?_, ?_, ?_⟩, ?_, ?_, ?_, ?_⟩ <;> rw [put3_far _ _ _ _ _ (by assumption)] <;> assumption
def pv (c : Nat) (new old : Int × Int × Int) : Int × Int × Int := if 3 <= c then new else old
set_option maxRecDepth 100000 in
theorem refCircle_any (ax ay bx bY cx cy dx dy : Int) (w : World) :
  Calls Tryz.prog 45 #[.agg #[.int .i64 ax, .int .i64 ay], .agg #[.int .i64 bx, .int .i64 bY], .agg #[.int .i64 cx, .int .i64 cy], .agg #[.int .i64 dx, .int .i64 dy]] w fun e w' => e = .returned (.int .i64 (signOf3 (csum3 (wrap64 (ax - dx)) (wrap64 (ay - dy)) (wrap64 (bx - dx)) (wrap64 (bY - dy)) (wrap64 (cx - dx)) (wrap64 (cy - dy))))) /\ Below w.heap.size w w' := by
 go_enter Tryz.func45, Tryz.ntmps45
 go_wp2
 generalize hpx : wrap64 (ax - dx) = px at *
 generalize hpy : wrap64 (ay - dy) = py at *
 generalize hqx : wrap64 (bx - dx) = qx at *
 generalize hqy : wrap64 (bY - dy) = qy at *
 generalize hrx : wrap64 (cx - dx) = rx at *
 generalize hry : wrap64 (cy - dy) = ry at *
 have EE : Hid (wrap64 (ax - dx) = px /\ wrap64 (ay - dy) = py /\ wrap64 (bx - dx) = qx /\ wrap64 (bY - dy) = qy /\ wrap64 (cx - dx) = rx /\ wrap64 (cy - dy) = ry) := ⟨hpx, hpy, hqx, hqy, hrx, hry⟩
 clear hpx hpy hqx hqy hrx hry
 go_loopw [11, 12, 13] (fun i _ _ wr => Below w.heap.size w wr /\ Three wr (w.heap.size + 1 + 1 + 1 + 1) px py qx qy rx ry /\ ((i = .int .i64 0 /\ Parts wr (w.heap.size + 1 + 1 + 1 + 1 + 1) (0, 0, 0)) \/ (i = .int .i64 1 /\ Parts wr (w.heap.size + 1 + 1 + 1 + 1 + 1) (csum1 px py qx qy rx ry)) \/ (i = .int .i64 2 /\ Parts wr (w.heap.size + 1 + 1 + 1 + 1 + 1) (csum2 px py qx qy rx ry)) \/ (i = .int .i64 3 /\ Parts wr (w.heap.size + 1 + 1 + 1 + 1 + 1) (csum3 px py qx qy rx ry)))) (fun i _ _ _ => (3 - intOf i).toNat)
 case atStart =>
  refine ⟨?_, ?_, .inl ⟨rfl, ?_⟩⟩
  ·exact ((((((Below.refl _ _).alloc (Nat.le_refl _) _).alloc (by simp) _).alloc (by simp; omega) _).alloc (by simp; omega) _).alloc (by simp; omega) _).alloc (by simp; omega) _
  ·refine ⟨?_, ?_, ?_, ?_, ?_, ?_⟩ <;> simp [go_sem]
  ·refine ⟨?_, ?_, ?_, ?_, ?_, ?_⟩ <;> simp [go_sem]
 case round =>
  obtain ⟨hb, hT, ⟨rfl, hP⟩ | ⟨rfl, hP⟩ | ⟨rfl, hP⟩ | ⟨rfl, hP⟩⟩ := hrel
  ·obtain ⟨_, _, _, _, _, _⟩ := id hT
   have hl4 : w.heap.size + 1 + 1 + 1 + 1 < wr.heap.size := World.block_lt_of_cell? _ _ hT.1
   have hl5 : w.heap.size + 1 + 1 + 1 + 1 + 1 < wr.heap.size := hP.lt
   go_wp2
   refine wp_region_noPanic ?_
   refine wp_region_held_drew (S := fun w' => SS w' (w.heap.size + 1 + 1 + 1 + 1) wr.heap.size px py qx qy rx ry qx qy rx ry) (by kernel_rfl) ?_ (fun hHeld => ?_)
   ·exact ⟨Three.later (((Below.refl _ _).alloc (Nat.le_refl _) _).alloc (by simp) _).drew hT, by simp [go_sem], by simp [go_sem], by simp [go_sem], by simp [go_sem]⟩
   refine wpAnyH_take (i := 1) (oi := _) (v := ?v0x1) rfl (by kernel_rfl) (by kernel_rfl) (by kernel_rfl) (fun _ _ _ h => h) (Or.inl ⟨by rfl, ?hy0x1⟩) (by assumption) ?rest0x1
   case hy0x1 => (intro w' hSw; obtain ⟨⟨_, _, _, _, _, _⟩, _, _, _, _⟩ := hSw; go_simp; with_reducible rfl)
   simp only [Act.put, zA, zB, zC, zD, zE, zF]
   refine wpAnyH_take (i := 2) (oi := _) (v := ?v0x2) rfl (by kernel_rfl) (by kernel_rfl) (by kernel_rfl) (fun _ _ _ h => h) (Or.inl ⟨by rfl, ?hy0x2⟩) (by assumption) ?rest0x2
   case hy0x2 => (intro w' hSw; obtain ⟨⟨_, _, _, _, _, _⟩, _, _, _, _⟩ := hSw; go_simp; with_reducible rfl)
   simp only [Act.put, zA, zB, zC, zD, zE, zF]
   refine wpAnyH_take (i := 3) (oi := _) (v := ?v0x3) rfl (by kernel_rfl) (by kernel_rfl) (by kernel_rfl) (fun _ _ _ h => h) (Or.inl ⟨by rfl, ?hy0x3⟩) (by assumption) ?rest0x3
   case hy0x3 => (intro w' hSw; obtain ⟨⟨_, _, _, _, _, _⟩, _, _, _, _⟩ := hSw; go_simp; with_reducible rfl)
   simp only [Act.put, zA, zB, zC, zD, zE, zF]
   refine wpAnyH_take (i := 4) (oi := _) (v := ?v0x4) rfl (by kernel_rfl) (by kernel_rfl) (by kernel_rfl) (fun _ _ _ h => h) (Or.inl ⟨by rfl, ?hy0x4⟩) (by assumption) ?rest0x4
   case hy0x4 => (intro w' hSw; obtain ⟨⟨_, _, _, _, _, _⟩, _, _, _, _⟩ := hSw; go_simp; with_reducible rfl)
   simp only [Act.put, zA, zB, zC, zD, zE, zF]
   refine wpAnyH_take (i := 5) (oi := _) (v := ?v0x5) rfl (by kernel_rfl) (by kernel_rfl) (by kernel_rfl) (fun _ _ _ h => h) (Or.inl ⟨by rfl, ?hy0x5⟩) (by assumption) ?rest0x5
   case hy0x5 => (intro w' hSw; obtain ⟨⟨_, _, _, _, _, _⟩, _, _, _, _⟩ := hSw; go_simp; with_reducible rfl)
   simp only [Act.put, zA, zB, zC, zD, zE, zF]
   refine wpAnyH_take (i := 6) (oi := _) (v := ?v0x6) rfl (by kernel_rfl) (by kernel_rfl) (by kernel_rfl) (fun _ _ _ h => h) (Or.inl ⟨by rfl, ?hy0x6⟩) (by assumption) ?rest0x6
   case hy0x6 => (intro w' hSw; obtain ⟨⟨_, _, _, _, _, _⟩, _, _, _, _⟩ := hSw; go_simp; with_reducible rfl)
   simp only [Act.put, zA, zB, zC, zD, zE, zF]
   refine wpAnyH_take (i := 7) (oi := _) (v := ?v0x7) rfl (by kernel_rfl) (by kernel_rfl) (by kernel_rfl) (fun _ _ _ h => h) (Or.inl ⟨by rfl, ?hy0x7⟩) (by assumption) ?rest0x7
   case hy0x7 => (intro w' hSw; obtain ⟨⟨_, _, _, _, _, _⟩, _, _, _, _⟩ := hSw; go_simp; with_reducible rfl)
   simp only [Act.put, zA, zB, zC, zD, zE, zF]
   refine wpAnyH_take (i := 8) (oi := _) (v := ?v0x8) rfl (by kernel_rfl) (by kernel_rfl) (by kernel_rfl) (fun _ _ _ h => h) (Or.inl ⟨by rfl, ?hy0x8⟩) (by assumption) ?rest0x8
   case hy0x8 => (intro w' hSw; obtain ⟨⟨_, _, _, _, _, _⟩, _, _, _, _⟩ := hSw; go_simp; with_reducible rfl)
   simp only [Act.put, zA, zB, zC, zD, zE, zF]
   refine wpAnyH_take (i := 9) (oi := _) (v := ?v0x9) rfl (by kernel_rfl) (by kernel_rfl) (by kernel_rfl) (fun _ _ _ h => h) (Or.inl ⟨by rfl, ?hy0x9⟩) (by assumption) ?rest0x9
   case hy0x9 => (intro w' hSw; obtain ⟨⟨_, _, _, _, _, _⟩, _, _, _, _⟩ := hSw; go_simp; with_reducible rfl)
   simp only [Act.put, zA, zB, zC, zD, zE, zF]
   refine wpAnyH_take (i := 10) (oi := _) (v := ?v0x10) rfl (by kernel_rfl) (by kernel_rfl) (by kernel_rfl) (fun _ _ _ h => h) (Or.inl ⟨by rfl, ?hy0x10⟩) (by assumption) ?rest0x10
   case hy0x10 => (intro w' hSw; obtain ⟨⟨_, _, _, _, _, _⟩, _, _, _, _⟩ := hSw; go_simp; with_reducible rfl)
   simp only [Act.put, zA, zB, zC, zD, zE, zF]
   refine wpAnyH_take (i := 11) (oi := _) (v := ?v0x11) rfl (by kernel_rfl) (by kernel_rfl) (by kernel_rfl) (fun _ _ _ h => h) (Or.inl ⟨by rfl, ?hy0x11⟩) (by assumption) ?rest0x11
   case hy0x11 => (intro w' hSw; obtain ⟨⟨_, _, _, _, _, _⟩, _, _, _, _⟩ := hSw; go_simp; with_reducible rfl)
   simp only [Act.put, zA, zB, zC, zD, zE, zF]
   refine wpAnyH_take (i := 12) (oi := _) (v := ?v0x12) rfl (by kernel_rfl) (by kernel_rfl) (by kernel_rfl) (fun _ _ _ h => h) (Or.inl ⟨by rfl, ?hy0x12⟩) (by assumption) ?rest0x12
   case hy0x12 => (intro w' hSw; obtain ⟨⟨_, _, _, _, _, _⟩, _, _, _, _⟩ := hSw; go_simp; with_reducible rfl)
   simp only [Act.put, zA, zB, zC, zD, zE, zF]
   refine wpAnyH_take (i := 13) (oi := _) (v := ?v0x13) rfl (by kernel_rfl) (by kernel_rfl) (by kernel_rfl) (fun _ _ _ h => h) (Or.inl ⟨by rfl, ?hy0x13⟩) (by assumption) ?rest0x13
   case hy0x13 => (intro w' hSw; obtain ⟨⟨_, _, _, _, _, _⟩, _, _, _, _⟩ := hSw; go_simp; with_reducible rfl)
   simp only [Act.put, zA, zB, zC, zD, zE, zF]
   refine wpAnyH_take (i := 14) (oi := _) (v := ?v0x14) rfl (by kernel_rfl) (by kernel_rfl) (by kernel_rfl) (fun _ _ _ h => h) (Or.inl ⟨by rfl, ?hy0x14⟩) (by assumption) ?rest0x14
   case hy0x14 => (intro w' hSw; obtain ⟨⟨_, _, _, _, _, _⟩, _, _, _, _⟩ := hSw; go_simp; with_reducible rfl)
   simp only [Act.put, zA, zB, zC, zD, zE, zF]
   refine wpAnyH_take (i := 15) (oi := _) (v := ?v0x15) rfl (by kernel_rfl) (by kernel_rfl) (by kernel_rfl) (fun _ _ _ h => h) (Or.inl ⟨by rfl, ?hy0x15⟩) (by assumption) ?rest0x15
   case hy0x15 => (intro w' hSw; obtain ⟨⟨_, _, _, _, _, _⟩, _, _, _, _⟩ := hSw; go_simp; with_reducible rfl)
   simp only [Act.put, zA, zB, zC, zD, zE, zF]
   refine wpAnyH_take (i := 16) (oi := _) (v := ?v0x16) rfl (by kernel_rfl) (by kernel_rfl) (by kernel_rfl) (fun _ _ _ h => h) (Or.inl ⟨by rfl, ?hy0x16⟩) (by assumption) ?rest0x16
   case hy0x16 => (intro w' hSw; obtain ⟨⟨_, _, _, _, _, _⟩, _, _, _, _⟩ := hSw; go_simp; with_reducible rfl)
   simp only [Act.put, zA, zB, zC, zD, zE, zF]
   refine wpAnyH_take (i := 17) (oi := _) (v := ?v0x17) rfl (by kernel_rfl) (by kernel_rfl) (by kernel_rfl) (fun _ _ _ h => h) (Or.inl ⟨by rfl, ?hy0x17⟩) (by assumption) ?rest0x17
   case hy0x17 => (intro w' hSw; obtain ⟨⟨_, _, _, _, _, _⟩, _, _, _, _⟩ := hSw; go_simp; with_reducible rfl)
   simp only [Act.put, zA, zB, zC, zD, zE, zF]
   refine wpAnyH_take (i := 18) (oi := _) (v := ?v0x18) rfl (by kernel_rfl) (by kernel_rfl) (by kernel_rfl) (fun _ _ _ h => h) (Or.inl ⟨by rfl, ?hy0x18⟩) (by assumption) ?rest0x18
   case hy0x18 => (intro w' hSw; obtain ⟨⟨_, _, _, _, _, _⟩, _, _, _, _⟩ := hSw; go_simp; with_reducible rfl)
   simp only [Act.put, zA, zB, zC, zD, zE, zF]
   refine wpAnyH_take (i := 19) (oi := _) (v := ?v0x19) rfl (by kernel_rfl) (by kernel_rfl) (by kernel_rfl) (fun _ _ _ h => h) (Or.inl ⟨by rfl, ?hy0x19⟩) (by assumption) ?rest0x19
   case hy0x19 => (intro w' hSw; obtain ⟨⟨_, _, _, _, _, _⟩, _, _, _, _⟩ := hSw; go_simp; with_reducible rfl)
   simp only [Act.put, zA, zB, zC, zD, zE, zF]
   refine wpAnyH_take (i := 20) (oi := _) (v := ?v0x20) rfl (by kernel_rfl) (by kernel_rfl) (by kernel_rfl) (fun _ _ _ h => h) (Or.inl ⟨by rfl, ?hy0x20⟩) (by assumption) ?rest0x20
   case hy0x20 => (intro w' hSw; obtain ⟨⟨_, _, _, _, _, _⟩, _, _, _, _⟩ := hSw; go_simp; with_reducible rfl)
   simp only [Act.put, zA, zB, zC, zD, zE, zF]
   refine wpAnyH_take (i := 21) (oi := _) (v := ?v0x21) rfl (by kernel_rfl) (by kernel_rfl) (by kernel_rfl) (fun _ _ _ h => h) (Or.inl ⟨by rfl, ?hy0x21⟩) (by assumption) ?rest0x21
   case hy0x21 => (intro w' hSw; obtain ⟨⟨_, _, _, _, _, _⟩, _, _, _, _⟩ := hSw; go_simp; with_reducible rfl)
   simp only [Act.put, zA, zB, zC, zD, zE, zF]
   refine wpAnyH_take (i := 22) (oi := _) (v := ?v0x22) rfl (by kernel_rfl) (by kernel_rfl) (by kernel_rfl) (fun _ _ _ h => h) (Or.inl ⟨by rfl, ?hy0x22⟩) (by assumption) ?rest0x22
   case hy0x22 => (intro w' hSw; obtain ⟨⟨_, _, _, _, _, _⟩, _, _, _, _⟩ := hSw; go_simp; with_reducible rfl)
   simp only [Act.put, zA, zB, zC, zD, zE, zF]
   refine wpAnyH_take (i := 23) (oi := _) (v := ?v0x23) rfl (by kernel_rfl) (by kernel_rfl) (by kernel_rfl) (fun _ _ _ h => h) (Or.inl ⟨by rfl, ?hy0x23⟩) (by assumption) ?rest0x23
   case hy0x23 => (intro w' hSw; obtain ⟨⟨_, _, _, _, _, _⟩, _, _, _, _⟩ := hSw; go_simp; with_reducible rfl)
   simp only [Act.put, zA, zB, zC, zD, zE, zF]
   refine wpAnyH_take (i := 24) (oi := _) (v := ?v0x24) rfl (by kernel_rfl) (by kernel_rfl) (by kernel_rfl) (fun _ _ _ h => h) (Or.inl ⟨by rfl, ?hy0x24⟩) (by assumption) ?rest0x24
   case hy0x24 => (intro w' hSw; obtain ⟨⟨_, _, _, _, _, _⟩, _, _, _, _⟩ := hSw; go_simp; with_reducible rfl)
   simp only [Act.put, zA, zB, zC, zD, zE, zF]
   refine wpAnyH_take (i := 25) (oi := _) (v := ?v0x25) rfl (by kernel_rfl) (by kernel_rfl) (by kernel_rfl) (fun _ _ _ h => h) (Or.inl ⟨by rfl, ?hy0x25⟩) (by assumption) ?rest0x25
   case hy0x25 => (intro w' hSw; obtain ⟨⟨_, _, _, _, _, _⟩, _, _, _, _⟩ := hSw; go_simp; with_reducible rfl)
   simp only [Act.put, zA, zB, zC, zD, zE, zF]
   refine wpAnyH_take (i := 26) (oi := _) (v := ?v0x26) rfl (by kernel_rfl) (by kernel_rfl) (by kernel_rfl) (fun _ _ _ h => h) (Or.inl ⟨by rfl, ?hy0x26⟩) (by assumption) ?rest0x26
   case hy0x26 => (intro w' hSw; obtain ⟨⟨_, _, _, _, _, _⟩, _, _, _, _⟩ := hSw; go_simp; with_reducible rfl)
   simp only [Act.put, zA, zB, zC, zD, zE, zF]
   refine wpAnyH_take (i := 27) (oi := _) (v := ?v0x27) rfl (by kernel_rfl) (by kernel_rfl) (by kernel_rfl) (fun _ _ _ h => h) (Or.inl ⟨by rfl, ?hy0x27⟩) (by assumption) ?rest0x27
   case hy0x27 => (intro w' hSw; obtain ⟨⟨_, _, _, _, _, _⟩, _, _, _, _⟩ := hSw; go_simp; with_reducible rfl)
   simp only [Act.put, zA, zB, zC, zD, zE, zF]
   refine wpAnyH_take (i := 28) (oi := _) (v := ?v0x28) rfl (by kernel_rfl) (by kernel_rfl) (by kernel_rfl) (fun _ _ _ h => h) (Or.inl ⟨by rfl, ?hy0x28⟩) (by assumption) ?rest0x28
   case hy0x28 => (intro w' hSw; obtain ⟨⟨_, _, _, _, _, _⟩, _, _, _, _⟩ := hSw; go_simp; with_reducible rfl)
   simp only [Act.put, zA, zB, zC, zD, zE, zF]
   refine wpAnyH_take (i := 29) (oi := _) (v := ?v0x29) rfl (by kernel_rfl) (by kernel_rfl) (by kernel_rfl) (fun _ _ _ h => h) (Or.inl ⟨by rfl, ?hy0x29⟩) (by assumption) ?rest0x29
   case hy0x29 => (intro w' hSw; obtain ⟨⟨_, _, _, _, _, _⟩, _, _, _, _⟩ := hSw; go_simp; with_reducible rfl)
   simp only [Act.put, zA, zB, zC, zD, zE, zF]
   refine wpAnyH_take (i := 30) (oi := _) (v := ?v0x30) rfl (by kernel_rfl) (by kernel_rfl) (by kernel_rfl) (fun _ _ _ h => h) (Or.inl ⟨by rfl, ?hy0x30⟩) (by assumption) ?rest0x30
   case hy0x30 => (intro w' hSw; obtain ⟨⟨_, _, _, _, _, _⟩, _, _, _, _⟩ := hSw; go_simp; with_reducible rfl)
   simp only [Act.put, zA, zB, zC, zD, zE, zF]
   refine wpAnyH_take (i := 31) (oi := _) (v := ?v0x31) rfl (by kernel_rfl) (by kernel_rfl) (by kernel_rfl) (fun _ _ _ h => h) (Or.inl ⟨by rfl, ?hy0x31⟩) (by assumption) ?rest0x31
   case hy0x31 => (intro w' hSw; obtain ⟨⟨_, _, _, _, _, _⟩, _, _, _, _⟩ := hSw; go_simp; with_reducible rfl)
   simp only [Act.put, zA, zB, zC, zD, zE, zF]
   refine wpAnyH_take (i := 32) (oi := _) (v := ?v0x32) rfl (by kernel_rfl) (by kernel_rfl) (by kernel_rfl) (fun _ _ _ h => h) (Or.inl ⟨by rfl, ?hy0x32⟩) (by assumption) ?rest0x32
   case hy0x32 => (intro w' hSw; obtain ⟨⟨_, _, _, _, _, _⟩, _, _, _, _⟩ := hSw; go_simp; with_reducible rfl)
   simp only [Act.put, zA, zB, zC, zD, zE, zF]
   refine wpAnyH_take (i := 33) (oi := _) (v := ?v0x33) rfl (by kernel_rfl) (by kernel_rfl) (by kernel_rfl) (fun _ _ _ h => h) (Or.inl ⟨by rfl, ?hy0x33⟩) (by assumption) ?rest0x33
   case hy0x33 => (intro w' hSw; obtain ⟨⟨_, _, _, _, _, _⟩, _, _, _, _⟩ := hSw; go_simp; with_reducible rfl)
   simp only [Act.put, zA, zB, zC, zD, zE, zF]
   refine wpAnyH_take (i := 34) (oi := _) (v := ?v0x34) rfl (by kernel_rfl) (by kernel_rfl) (by kernel_rfl) (fun _ _ _ h => h) (Or.inl ⟨by rfl, ?hy0x34⟩) (by assumption) ?rest0x34
   case hy0x34 => (intro w' hSw; obtain ⟨⟨_, _, _, _, _, _⟩, _, _, _, _⟩ := hSw; go_simp; with_reducible rfl)
   simp only [Act.put, zA, zB, zC, zD, zE, zF]
   simp only [wrap_i64]
   refine sum_region (fun a0 (s : fSt) a w' => ∃ s0 s35 s36 : Value, a = ((a0.put (some 65) s0).put (some 100) s35).put (some 101) s36 /\ Below w.heap.size w w' /\ SS w' (w.heap.size + 1 + 1 + 1 + 1) wr.heap.size px py qx qy rx ry qx qy rx ry /\ (1 <= s.1 -> s35 = .agg #[.int .i64 (pBig (squareW px py) (crossW qx qy rx ry)), .int .i64 (pMid (squareW px py) (crossW qx qy rx ry)), .int .i64 (pLow (squareW px py) (crossW qx qy rx ry))]) /\ (2 <= s.1 -> s36 = .agg #[.int .i64 (csum1 px py qx qy rx ry).1, .int .i64 (csum1 px py qx qy rx ry).2.1, .int .i64 (csum1 px py qx qy rx ry).2.2]) /\ (s.2 = true -> s0 = .agg #[.int .i64 (0, 0, 0).1, .int .i64 (0, 0, 0).2.1, .int .i64 (0, 0, 0).2.2]) /\ Parts w' (w.heap.size + 1 + 1 + 1 + 1 + 1) (pv s.1 (csum1 px py qx qy rx ry) (0, 0, 0)) /\ (2 <= s.1 -> s.2 = true)) (by decide +kernel) (by decide +kernel) ?_ ?_ ?_ ?_ ?_ ?_ ?_
   ·rintro ⟨c, x⟩
    revert x
    revert c
    decide +kernel
   ·refine ⟨_, _, _, put_three _ 65 100 101, (hb.trans ((((Below.refl _ _).alloc (Nat.le_refl _) _).alloc (by simp) _).drew.mono hb.size)), hHeld, by simp, by simp, by simp, hP.later ((((Below.refl _ _).alloc (Nat.le_refl _) _).alloc (by simp) _).drew), by simp⟩
   ·rintro c a w' ⟨s0, s35, s36, rfl, hb', hs, h35, h36, h0, hp, h4⟩
    have hz : w.heap.size <= w'.heap.size := hb'.size
    simp only [Act.put, zA, zB, zC]
    have h3' : ¬ 3 <= (c : Nat) := fun h => by have := h4 (show (2 : Nat) <= c by omega); simp at this
    have M : Hid _ := hp
    simp only [pv, if_neg h3'] at hp
    obtain ⟨_, _, _, _, _, _⟩ := hp
    refine wpOp_step rfl (fun K hK => ?_)
    go_simp
    refine hK _ _ ⟨hs, ?_⟩
    exact ⟨.agg #[.int .i64 (0, 0, 0).1, .int .i64 (0, 0, 0).2.1, .int .i64 (0, 0, 0).2.2], s35, s36, (by first | rfl | simp only [Act.put, zA, zB, zC]), hb', hs, h35, h36, (by intros; first | trivial | rfl), M.out, (by intros; first | trivial | rfl)⟩
   ·rintro x a w' ⟨s0, s35, s36, rfl, hb', hs, h35, h36, h0, hp, h4⟩
    have hz : w.heap.size <= w'.heap.size := hb'.size
    simp only [Act.put, zA, zB, zC]
    refine wpOp_step rfl (fun K hK => ?_)
    go_simp
    refine (refProduct_any _ _ _).mono ?_
    rintro e w2 ⟨rfl, hb2⟩
    refine hK _ _ ⟨hs.later hb2, ?_⟩
    exact ⟨s0, .agg #[.int .i64 (pBig (squareW px py) (crossW qx qy rx ry)), .int .i64 (pMid (squareW px py) (crossW qx qy rx ry)), .int .i64 (pLow (squareW px py) (crossW qx qy rx ry))], s36, (by first | rfl | simp only [Act.put, zA, zB, zC]), hb'.trans (hb2.mono hz), hs.later hb2, (by intros; first | trivial | rfl), (fun h => absurd (show (2 : Fin 4) <= 1 from h) (by decide)), h0, hp.later hb2, (fun h => absurd (show (2 : Fin 4) <= 1 from h) (by decide))⟩
   ·rintro a w' ⟨s0, s35, s36, rfl, hb', hs, h35, h36, h0, hp, h4⟩
    have hz : w.heap.size <= w'.heap.size := hb'.size
    simp only [Act.put, zA, zB, zC]
    have e0 := h0 rfl
    have e35 := h35 (by decide)
    refine wpOp_step rfl (fun K hK => ?_)
    go_simp
    refine (refAdd_any _ _ _ _ _ _ _).mono ?_
    rintro e w2 ⟨rfl, hb2⟩
    refine hK _ _ ⟨hs.later hb2, ?_⟩
    exact ⟨.agg #[.int .i64 (0, 0, 0).1, .int .i64 (0, 0, 0).2.1, .int .i64 (0, 0, 0).2.2], .agg #[.int .i64 (pBig (squareW px py) (crossW qx qy rx ry)), .int .i64 (pMid (squareW px py) (crossW qx qy rx ry)), .int .i64 (pLow (squareW px py) (crossW qx qy rx ry))], .agg #[.int .i64 (csum1 px py qx qy rx ry).1, .int .i64 (csum1 px py qx qy rx ry).2.1, .int .i64 (csum1 px py qx qy rx ry).2.2], (by first | rfl | simp only [Act.put, zA, zB, zC]), hb'.trans (hb2.mono hz), hs.later hb2, (by intros; first | trivial | rfl), (by intros; first | trivial | rfl), (by intros; first | trivial | rfl), hp.later hb2, (by intros; first | trivial | rfl)⟩
   ·rintro a w' ⟨s0, s35, s36, rfl, hb', hs, h35, h36, h0, hp, h4⟩
    have hz : w.heap.size <= w'.heap.size := hb'.size
    simp only [Act.put, zA, zB, zC]
    have e0 := h0 rfl
    have e35 := h35 (by decide)
    have e36 := h36 (by decide)
    have M : Hid _ := hp
    obtain ⟨_, _, _, _, _, _⟩ := hp
    refine wpOp_step rfl (fun K hK => ?_)
    go_simp
    have hs' := hs.far (w.heap.size + 1 + 1 + 1 + 1 + 1) (csum1 px py qx qy rx ry) (by omega) (by omega) (by omega)
    have hb3 : Below w.heap.size w (put3 w' (w.heap.size + 1 + 1 + 1 + 1 + 1) (csum1 px py qx qy rx ry)) := ((hb'.setCell (p := ⟨w.heap.size + 1 + 1 + 1 + 1 + 1, 0, none⟩) (by simp; omega) _).setCell (p := ⟨w.heap.size + 1 + 1 + 1 + 1 + 1, 1, none⟩) (by simp; omega) _).setCell (p := ⟨w.heap.size + 1 + 1 + 1 + 1 + 1, 2, none⟩) (by simp; omega) _
    refine hK _ _ ⟨hs', ?_⟩
    exact ⟨.agg #[.int .i64 (0, 0, 0).1, .int .i64 (0, 0, 0).2.1, .int .i64 (0, 0, 0).2.2], .agg #[.int .i64 (pBig (squareW px py) (crossW qx qy rx ry)), .int .i64 (pMid (squareW px py) (crossW qx qy rx ry)), .int .i64 (pLow (squareW px py) (crossW qx qy rx ry))], .agg #[.int .i64 (csum1 px py qx qy rx ry).1, .int .i64 (csum1 px py qx qy rx ry).2.1, .int .i64 (csum1 px py qx qy rx ry).2.2], (by first | rfl | simp only [Act.put, zA, zB, zC]), hb3, hs', (by intros; first | trivial | rfl), (by intros; first | trivial | rfl), (by intros; first | trivial | rfl), put3_parts _ M.out, (by intros; first | trivial | rfl)⟩
   ·rintro a w' ⟨s0, s35, s36, rfl, hb', hs, h35, h36, h0, hp, h4⟩
    have M : Hid (Parts w' (w.heap.size + 1 + 1 + 1 + 1 + 1) (csum1 px py qx qy rx ry)) := hp
    have T : Hid (Three w' (w.heap.size + 1 + 1 + 1 + 1) px py qx qy rx ry) := hs.1
    clear hp hs h35 h36 h0 h4
    refine NoPanic.normal ?_
    simp only [Act.put, zA, zB, zC]
    go_wp2
    go_roundw
    case rel => exact ⟨hb', T.out, .inr (.inl ⟨rfl, M.out⟩)⟩
    case measure => simp [intOf]
  ·obtain ⟨_, _, _, _, _, _⟩ := id hT
   have hl4 : w.heap.size + 1 + 1 + 1 + 1 < wr.heap.size := World.block_lt_of_cell? _ _ hT.1
   have hl5 : w.heap.size + 1 + 1 + 1 + 1 + 1 < wr.heap.size := hP.lt
   go_wp2
   refine wp_region_noPanic ?_
   refine wp_region_held_drew (S := fun w' => SS w' (w.heap.size + 1 + 1 + 1 + 1) wr.heap.size px py qx qy rx ry rx ry px py) (by kernel_rfl) ?_ (fun hHeld => ?_)
   ·exact ⟨Three.later (((Below.refl _ _).alloc (Nat.le_refl _) _).alloc (by simp) _).drew hT, by simp [go_sem], by simp [go_sem], by simp [go_sem], by simp [go_sem]⟩
   refine wpAnyH_take (i := 1) (oi := _) (v := ?v1x1) rfl (by kernel_rfl) (by kernel_rfl) (by kernel_rfl) (fun _ _ _ h => h) (Or.inl ⟨by rfl, ?hy1x1⟩) (by assumption) ?rest1x1
   case hy1x1 => (intro w' hSw; obtain ⟨⟨_, _, _, _, _, _⟩, _, _, _, _⟩ := hSw; go_simp; with_reducible rfl)
   simp only [Act.put, zA, zB, zC, zD, zE, zF]
   refine wpAnyH_take (i := 2) (oi := _) (v := ?v1x2) rfl (by kernel_rfl) (by kernel_rfl) (by kernel_rfl) (fun _ _ _ h => h) (Or.inl ⟨by rfl, ?hy1x2⟩) (by assumption) ?rest1x2
   case hy1x2 => (intro w' hSw; obtain ⟨⟨_, _, _, _, _, _⟩, _, _, _, _⟩ := hSw; go_simp; with_reducible rfl)
   simp only [Act.put, zA, zB, zC, zD, zE, zF]
   refine wpAnyH_take (i := 3) (oi := _) (v := ?v1x3) rfl (by kernel_rfl) (by kernel_rfl) (by kernel_rfl) (fun _ _ _ h => h) (Or.inl ⟨by rfl, ?hy1x3⟩) (by assumption) ?rest1x3
   case hy1x3 => (intro w' hSw; obtain ⟨⟨_, _, _, _, _, _⟩, _, _, _, _⟩ := hSw; go_simp; with_reducible rfl)
   simp only [Act.put, zA, zB, zC, zD, zE, zF]
   refine wpAnyH_take (i := 4) (oi := _) (v := ?v1x4) rfl (by kernel_rfl) (by kernel_rfl) (by kernel_rfl) (fun _ _ _ h => h) (Or.inl ⟨by rfl, ?hy1x4⟩) (by assumption) ?rest1x4
   case hy1x4 => (intro w' hSw; obtain ⟨⟨_, _, _, _, _, _⟩, _, _, _, _⟩ := hSw; go_simp; with_reducible rfl)
   simp only [Act.put, zA, zB, zC, zD, zE, zF]
   refine wpAnyH_take (i := 5) (oi := _) (v := ?v1x5) rfl (by kernel_rfl) (by kernel_rfl) (by kernel_rfl) (fun _ _ _ h => h) (Or.inl ⟨by rfl, ?hy1x5⟩) (by assumption) ?rest1x5
   case hy1x5 => (intro w' hSw; obtain ⟨⟨_, _, _, _, _, _⟩, _, _, _, _⟩ := hSw; go_simp; with_reducible rfl)
   simp only [Act.put, zA, zB, zC, zD, zE, zF]
   refine wpAnyH_take (i := 6) (oi := _) (v := ?v1x6) rfl (by kernel_rfl) (by kernel_rfl) (by kernel_rfl) (fun _ _ _ h => h) (Or.inl ⟨by rfl, ?hy1x6⟩) (by assumption) ?rest1x6
   case hy1x6 => (intro w' hSw; obtain ⟨⟨_, _, _, _, _, _⟩, _, _, _, _⟩ := hSw; go_simp; with_reducible rfl)
   simp only [Act.put, zA, zB, zC, zD, zE, zF]
   refine wpAnyH_take (i := 7) (oi := _) (v := ?v1x7) rfl (by kernel_rfl) (by kernel_rfl) (by kernel_rfl) (fun _ _ _ h => h) (Or.inl ⟨by rfl, ?hy1x7⟩) (by assumption) ?rest1x7
   case hy1x7 => (intro w' hSw; obtain ⟨⟨_, _, _, _, _, _⟩, _, _, _, _⟩ := hSw; go_simp; with_reducible rfl)
   simp only [Act.put, zA, zB, zC, zD, zE, zF]
   refine wpAnyH_take (i := 8) (oi := _) (v := ?v1x8) rfl (by kernel_rfl) (by kernel_rfl) (by kernel_rfl) (fun _ _ _ h => h) (Or.inl ⟨by rfl, ?hy1x8⟩) (by assumption) ?rest1x8
   case hy1x8 => (intro w' hSw; obtain ⟨⟨_, _, _, _, _, _⟩, _, _, _, _⟩ := hSw; go_simp; with_reducible rfl)
   simp only [Act.put, zA, zB, zC, zD, zE, zF]
   refine wpAnyH_take (i := 9) (oi := _) (v := ?v1x9) rfl (by kernel_rfl) (by kernel_rfl) (by kernel_rfl) (fun _ _ _ h => h) (Or.inl ⟨by rfl, ?hy1x9⟩) (by assumption) ?rest1x9
   case hy1x9 => (intro w' hSw; obtain ⟨⟨_, _, _, _, _, _⟩, _, _, _, _⟩ := hSw; go_simp; with_reducible rfl)
   simp only [Act.put, zA, zB, zC, zD, zE, zF]
   refine wpAnyH_take (i := 10) (oi := _) (v := ?v1x10) rfl (by kernel_rfl) (by kernel_rfl) (by kernel_rfl) (fun _ _ _ h => h) (Or.inl ⟨by rfl, ?hy1x10⟩) (by assumption) ?rest1x10
   case hy1x10 => (intro w' hSw; obtain ⟨⟨_, _, _, _, _, _⟩, _, _, _, _⟩ := hSw; go_simp; with_reducible rfl)
   simp only [Act.put, zA, zB, zC, zD, zE, zF]
   refine wpAnyH_take (i := 11) (oi := _) (v := ?v1x11) rfl (by kernel_rfl) (by kernel_rfl) (by kernel_rfl) (fun _ _ _ h => h) (Or.inl ⟨by rfl, ?hy1x11⟩) (by assumption) ?rest1x11
   case hy1x11 => (intro w' hSw; obtain ⟨⟨_, _, _, _, _, _⟩, _, _, _, _⟩ := hSw; go_simp; with_reducible rfl)
   simp only [Act.put, zA, zB, zC, zD, zE, zF]
   refine wpAnyH_take (i := 12) (oi := _) (v := ?v1x12) rfl (by kernel_rfl) (by kernel_rfl) (by kernel_rfl) (fun _ _ _ h => h) (Or.inl ⟨by rfl, ?hy1x12⟩) (by assumption) ?rest1x12
   case hy1x12 => (intro w' hSw; obtain ⟨⟨_, _, _, _, _, _⟩, _, _, _, _⟩ := hSw; go_simp; with_reducible rfl)
   simp only [Act.put, zA, zB, zC, zD, zE, zF]
   refine wpAnyH_take (i := 13) (oi := _) (v := ?v1x13) rfl (by kernel_rfl) (by kernel_rfl) (by kernel_rfl) (fun _ _ _ h => h) (Or.inl ⟨by rfl, ?hy1x13⟩) (by assumption) ?rest1x13
   case hy1x13 => (intro w' hSw; obtain ⟨⟨_, _, _, _, _, _⟩, _, _, _, _⟩ := hSw; go_simp; with_reducible rfl)
   simp only [Act.put, zA, zB, zC, zD, zE, zF]
   refine wpAnyH_take (i := 14) (oi := _) (v := ?v1x14) rfl (by kernel_rfl) (by kernel_rfl) (by kernel_rfl) (fun _ _ _ h => h) (Or.inl ⟨by rfl, ?hy1x14⟩) (by assumption) ?rest1x14
   case hy1x14 => (intro w' hSw; obtain ⟨⟨_, _, _, _, _, _⟩, _, _, _, _⟩ := hSw; go_simp; with_reducible rfl)
   simp only [Act.put, zA, zB, zC, zD, zE, zF]
   refine wpAnyH_take (i := 15) (oi := _) (v := ?v1x15) rfl (by kernel_rfl) (by kernel_rfl) (by kernel_rfl) (fun _ _ _ h => h) (Or.inl ⟨by rfl, ?hy1x15⟩) (by assumption) ?rest1x15
   case hy1x15 => (intro w' hSw; obtain ⟨⟨_, _, _, _, _, _⟩, _, _, _, _⟩ := hSw; go_simp; with_reducible rfl)
   simp only [Act.put, zA, zB, zC, zD, zE, zF]
   refine wpAnyH_take (i := 16) (oi := _) (v := ?v1x16) rfl (by kernel_rfl) (by kernel_rfl) (by kernel_rfl) (fun _ _ _ h => h) (Or.inl ⟨by rfl, ?hy1x16⟩) (by assumption) ?rest1x16
   case hy1x16 => (intro w' hSw; obtain ⟨⟨_, _, _, _, _, _⟩, _, _, _, _⟩ := hSw; go_simp; with_reducible rfl)
   simp only [Act.put, zA, zB, zC, zD, zE, zF]
   refine wpAnyH_take (i := 17) (oi := _) (v := ?v1x17) rfl (by kernel_rfl) (by kernel_rfl) (by kernel_rfl) (fun _ _ _ h => h) (Or.inl ⟨by rfl, ?hy1x17⟩) (by assumption) ?rest1x17
   case hy1x17 => (intro w' hSw; obtain ⟨⟨_, _, _, _, _, _⟩, _, _, _, _⟩ := hSw; go_simp; with_reducible rfl)
   simp only [Act.put, zA, zB, zC, zD, zE, zF]
   refine wpAnyH_take (i := 18) (oi := _) (v := ?v1x18) rfl (by kernel_rfl) (by kernel_rfl) (by kernel_rfl) (fun _ _ _ h => h) (Or.inl ⟨by rfl, ?hy1x18⟩) (by assumption) ?rest1x18
   case hy1x18 => (intro w' hSw; obtain ⟨⟨_, _, _, _, _, _⟩, _, _, _, _⟩ := hSw; go_simp; with_reducible rfl)
   simp only [Act.put, zA, zB, zC, zD, zE, zF]
   refine wpAnyH_take (i := 19) (oi := _) (v := ?v1x19) rfl (by kernel_rfl) (by kernel_rfl) (by kernel_rfl) (fun _ _ _ h => h) (Or.inl ⟨by rfl, ?hy1x19⟩) (by assumption) ?rest1x19
   case hy1x19 => (intro w' hSw; obtain ⟨⟨_, _, _, _, _, _⟩, _, _, _, _⟩ := hSw; go_simp; with_reducible rfl)
   simp only [Act.put, zA, zB, zC, zD, zE, zF]
   refine wpAnyH_take (i := 20) (oi := _) (v := ?v1x20) rfl (by kernel_rfl) (by kernel_rfl) (by kernel_rfl) (fun _ _ _ h => h) (Or.inl ⟨by rfl, ?hy1x20⟩) (by assumption) ?rest1x20
   case hy1x20 => (intro w' hSw; obtain ⟨⟨_, _, _, _, _, _⟩, _, _, _, _⟩ := hSw; go_simp; with_reducible rfl)
   simp only [Act.put, zA, zB, zC, zD, zE, zF]
   refine wpAnyH_take (i := 21) (oi := _) (v := ?v1x21) rfl (by kernel_rfl) (by kernel_rfl) (by kernel_rfl) (fun _ _ _ h => h) (Or.inl ⟨by rfl, ?hy1x21⟩) (by assumption) ?rest1x21
   case hy1x21 => (intro w' hSw; obtain ⟨⟨_, _, _, _, _, _⟩, _, _, _, _⟩ := hSw; go_simp; with_reducible rfl)
   simp only [Act.put, zA, zB, zC, zD, zE, zF]
   refine wpAnyH_take (i := 22) (oi := _) (v := ?v1x22) rfl (by kernel_rfl) (by kernel_rfl) (by kernel_rfl) (fun _ _ _ h => h) (Or.inl ⟨by rfl, ?hy1x22⟩) (by assumption) ?rest1x22
   case hy1x22 => (intro w' hSw; obtain ⟨⟨_, _, _, _, _, _⟩, _, _, _, _⟩ := hSw; go_simp; with_reducible rfl)
   simp only [Act.put, zA, zB, zC, zD, zE, zF]
   refine wpAnyH_take (i := 23) (oi := _) (v := ?v1x23) rfl (by kernel_rfl) (by kernel_rfl) (by kernel_rfl) (fun _ _ _ h => h) (Or.inl ⟨by rfl, ?hy1x23⟩) (by assumption) ?rest1x23
   case hy1x23 => (intro w' hSw; obtain ⟨⟨_, _, _, _, _, _⟩, _, _, _, _⟩ := hSw; go_simp; with_reducible rfl)
   simp only [Act.put, zA, zB, zC, zD, zE, zF]
   refine wpAnyH_take (i := 24) (oi := _) (v := ?v1x24) rfl (by kernel_rfl) (by kernel_rfl) (by kernel_rfl) (fun _ _ _ h => h) (Or.inl ⟨by rfl, ?hy1x24⟩) (by assumption) ?rest1x24
   case hy1x24 => (intro w' hSw; obtain ⟨⟨_, _, _, _, _, _⟩, _, _, _, _⟩ := hSw; go_simp; with_reducible rfl)
   simp only [Act.put, zA, zB, zC, zD, zE, zF]
   refine wpAnyH_take (i := 25) (oi := _) (v := ?v1x25) rfl (by kernel_rfl) (by kernel_rfl) (by kernel_rfl) (fun _ _ _ h => h) (Or.inl ⟨by rfl, ?hy1x25⟩) (by assumption) ?rest1x25
   case hy1x25 => (intro w' hSw; obtain ⟨⟨_, _, _, _, _, _⟩, _, _, _, _⟩ := hSw; go_simp; with_reducible rfl)
   simp only [Act.put, zA, zB, zC, zD, zE, zF]
   refine wpAnyH_take (i := 26) (oi := _) (v := ?v1x26) rfl (by kernel_rfl) (by kernel_rfl) (by kernel_rfl) (fun _ _ _ h => h) (Or.inl ⟨by rfl, ?hy1x26⟩) (by assumption) ?rest1x26
   case hy1x26 => (intro w' hSw; obtain ⟨⟨_, _, _, _, _, _⟩, _, _, _, _⟩ := hSw; go_simp; with_reducible rfl)
   simp only [Act.put, zA, zB, zC, zD, zE, zF]
   refine wpAnyH_take (i := 27) (oi := _) (v := ?v1x27) rfl (by kernel_rfl) (by kernel_rfl) (by kernel_rfl) (fun _ _ _ h => h) (Or.inl ⟨by rfl, ?hy1x27⟩) (by assumption) ?rest1x27
   case hy1x27 => (intro w' hSw; obtain ⟨⟨_, _, _, _, _, _⟩, _, _, _, _⟩ := hSw; go_simp; with_reducible rfl)
   simp only [Act.put, zA, zB, zC, zD, zE, zF]
   refine wpAnyH_take (i := 28) (oi := _) (v := ?v1x28) rfl (by kernel_rfl) (by kernel_rfl) (by kernel_rfl) (fun _ _ _ h => h) (Or.inl ⟨by rfl, ?hy1x28⟩) (by assumption) ?rest1x28
   case hy1x28 => (intro w' hSw; obtain ⟨⟨_, _, _, _, _, _⟩, _, _, _, _⟩ := hSw; go_simp; with_reducible rfl)
   simp only [Act.put, zA, zB, zC, zD, zE, zF]
   refine wpAnyH_take (i := 29) (oi := _) (v := ?v1x29) rfl (by kernel_rfl) (by kernel_rfl) (by kernel_rfl) (fun _ _ _ h => h) (Or.inl ⟨by rfl, ?hy1x29⟩) (by assumption) ?rest1x29
   case hy1x29 => (intro w' hSw; obtain ⟨⟨_, _, _, _, _, _⟩, _, _, _, _⟩ := hSw; go_simp; with_reducible rfl)
   simp only [Act.put, zA, zB, zC, zD, zE, zF]
   refine wpAnyH_take (i := 30) (oi := _) (v := ?v1x30) rfl (by kernel_rfl) (by kernel_rfl) (by kernel_rfl) (fun _ _ _ h => h) (Or.inl ⟨by rfl, ?hy1x30⟩) (by assumption) ?rest1x30
   case hy1x30 => (intro w' hSw; obtain ⟨⟨_, _, _, _, _, _⟩, _, _, _, _⟩ := hSw; go_simp; with_reducible rfl)
   simp only [Act.put, zA, zB, zC, zD, zE, zF]
   refine wpAnyH_take (i := 31) (oi := _) (v := ?v1x31) rfl (by kernel_rfl) (by kernel_rfl) (by kernel_rfl) (fun _ _ _ h => h) (Or.inl ⟨by rfl, ?hy1x31⟩) (by assumption) ?rest1x31
   case hy1x31 => (intro w' hSw; obtain ⟨⟨_, _, _, _, _, _⟩, _, _, _, _⟩ := hSw; go_simp; with_reducible rfl)
   simp only [Act.put, zA, zB, zC, zD, zE, zF]
   refine wpAnyH_take (i := 32) (oi := _) (v := ?v1x32) rfl (by kernel_rfl) (by kernel_rfl) (by kernel_rfl) (fun _ _ _ h => h) (Or.inl ⟨by rfl, ?hy1x32⟩) (by assumption) ?rest1x32
   case hy1x32 => (intro w' hSw; obtain ⟨⟨_, _, _, _, _, _⟩, _, _, _, _⟩ := hSw; go_simp; with_reducible rfl)
   simp only [Act.put, zA, zB, zC, zD, zE, zF]
   refine wpAnyH_take (i := 33) (oi := _) (v := ?v1x33) rfl (by kernel_rfl) (by kernel_rfl) (by kernel_rfl) (fun _ _ _ h => h) (Or.inl ⟨by rfl, ?hy1x33⟩) (by assumption) ?rest1x33
   case hy1x33 => (intro w' hSw; obtain ⟨⟨_, _, _, _, _, _⟩, _, _, _, _⟩ := hSw; go_simp; with_reducible rfl)
   simp only [Act.put, zA, zB, zC, zD, zE, zF]
   refine wpAnyH_take (i := 34) (oi := _) (v := ?v1x34) rfl (by kernel_rfl) (by kernel_rfl) (by kernel_rfl) (fun _ _ _ h => h) (Or.inl ⟨by rfl, ?hy1x34⟩) (by assumption) ?rest1x34
   case hy1x34 => (intro w' hSw; obtain ⟨⟨_, _, _, _, _, _⟩, _, _, _, _⟩ := hSw; go_simp; with_reducible rfl)
   simp only [Act.put, zA, zB, zC, zD, zE, zF]
   simp only [wrap_i64]
   refine sum_region (fun a0 (s : fSt) a w' => ∃ s0 s35 s36 : Value, a = ((a0.put (some 65) s0).put (some 100) s35).put (some 101) s36 /\ Below w.heap.size w w' /\ SS w' (w.heap.size + 1 + 1 + 1 + 1) wr.heap.size px py qx qy rx ry rx ry px py /\ (1 <= s.1 -> s35 = .agg #[.int .i64 (pBig (squareW qx qy) (crossW rx ry px py)), .int .i64 (pMid (squareW qx qy) (crossW rx ry px py)), .int .i64 (pLow (squareW qx qy) (crossW rx ry px py))]) /\ (2 <= s.1 -> s36 = .agg #[.int .i64 (csum2 px py qx qy rx ry).1, .int .i64 (csum2 px py qx qy rx ry).2.1, .int .i64 (csum2 px py qx qy rx ry).2.2]) /\ (s.2 = true -> s0 = .agg #[.int .i64 (csum1 px py qx qy rx ry).1, .int .i64 (csum1 px py qx qy rx ry).2.1, .int .i64 (csum1 px py qx qy rx ry).2.2]) /\ Parts w' (w.heap.size + 1 + 1 + 1 + 1 + 1) (pv s.1 (csum2 px py qx qy rx ry) (csum1 px py qx qy rx ry)) /\ (2 <= s.1 -> s.2 = true)) (by decide +kernel) (by decide +kernel) ?_ ?_ ?_ ?_ ?_ ?_ ?_
   ·rintro ⟨c, x⟩
    revert x
    revert c
    decide +kernel
   ·refine ⟨_, _, _, put_three _ 65 100 101, (hb.trans ((((Below.refl _ _).alloc (Nat.le_refl _) _).alloc (by simp) _).drew.mono hb.size)), hHeld, by simp, by simp, by simp, hP.later ((((Below.refl _ _).alloc (Nat.le_refl _) _).alloc (by simp) _).drew), by simp⟩
   ·rintro c a w' ⟨s0, s35, s36, rfl, hb', hs, h35, h36, h0, hp, h4⟩
    have hz : w.heap.size <= w'.heap.size := hb'.size
    simp only [Act.put, zA, zB, zC]
    have h3' : ¬ 3 <= (c : Nat) := fun h => by have := h4 (show (2 : Nat) <= c by omega); simp at this
    have M : Hid _ := hp
    simp only [pv, if_neg h3'] at hp
    obtain ⟨_, _, _, _, _, _⟩ := hp
    refine wpOp_step rfl (fun K hK => ?_)
    go_simp
    refine hK _ _ ⟨hs, ?_⟩
    exact ⟨.agg #[.int .i64 (csum1 px py qx qy rx ry).1, .int .i64 (csum1 px py qx qy rx ry).2.1, .int .i64 (csum1 px py qx qy rx ry).2.2], s35, s36, (by first | rfl | simp only [Act.put, zA, zB, zC]), hb', hs, h35, h36, (by intros; first | trivial | rfl), M.out, (by intros; first | trivial | rfl)⟩
   ·rintro x a w' ⟨s0, s35, s36, rfl, hb', hs, h35, h36, h0, hp, h4⟩
    have hz : w.heap.size <= w'.heap.size := hb'.size
    simp only [Act.put, zA, zB, zC]
    refine wpOp_step rfl (fun K hK => ?_)
    go_simp
    refine (refProduct_any _ _ _).mono ?_
    rintro e w2 ⟨rfl, hb2⟩
    refine hK _ _ ⟨hs.later hb2, ?_⟩
    exact ⟨s0, .agg #[.int .i64 (pBig (squareW qx qy) (crossW rx ry px py)), .int .i64 (pMid (squareW qx qy) (crossW rx ry px py)), .int .i64 (pLow (squareW qx qy) (crossW rx ry px py))], s36, (by first | rfl | simp only [Act.put, zA, zB, zC]), hb'.trans (hb2.mono hz), hs.later hb2, (by intros; first | trivial | rfl), (fun h => absurd (show (2 : Fin 4) <= 1 from h) (by decide)), h0, hp.later hb2, (fun h => absurd (show (2 : Fin 4) <= 1 from h) (by decide))⟩
   ·rintro a w' ⟨s0, s35, s36, rfl, hb', hs, h35, h36, h0, hp, h4⟩
    have hz : w.heap.size <= w'.heap.size := hb'.size
    simp only [Act.put, zA, zB, zC]
    have e0 := h0 rfl
    have e35 := h35 (by decide)
    refine wpOp_step rfl (fun K hK => ?_)
    go_simp
    refine (refAdd_any _ _ _ _ _ _ _).mono ?_
    rintro e w2 ⟨rfl, hb2⟩
    refine hK _ _ ⟨hs.later hb2, ?_⟩
    exact ⟨.agg #[.int .i64 (csum1 px py qx qy rx ry).1, .int .i64 (csum1 px py qx qy rx ry).2.1, .int .i64 (csum1 px py qx qy rx ry).2.2], .agg #[.int .i64 (pBig (squareW qx qy) (crossW rx ry px py)), .int .i64 (pMid (squareW qx qy) (crossW rx ry px py)), .int .i64 (pLow (squareW qx qy) (crossW rx ry px py))], .agg #[.int .i64 (csum2 px py qx qy rx ry).1, .int .i64 (csum2 px py qx qy rx ry).2.1, .int .i64 (csum2 px py qx qy rx ry).2.2], (by first | rfl | simp only [Act.put, zA, zB, zC]), hb'.trans (hb2.mono hz), hs.later hb2, (by intros; first | trivial | rfl), (by intros; first | trivial | rfl), (by intros; first | trivial | rfl), hp.later hb2, (by intros; first | trivial | rfl)⟩
   ·rintro a w' ⟨s0, s35, s36, rfl, hb', hs, h35, h36, h0, hp, h4⟩
    have hz : w.heap.size <= w'.heap.size := hb'.size
    simp only [Act.put, zA, zB, zC]
    have e0 := h0 rfl
    have e35 := h35 (by decide)
    have e36 := h36 (by decide)
    have M : Hid _ := hp
    obtain ⟨_, _, _, _, _, _⟩ := hp
    refine wpOp_step rfl (fun K hK => ?_)
    go_simp
    have hs' := hs.far (w.heap.size + 1 + 1 + 1 + 1 + 1) (csum2 px py qx qy rx ry) (by omega) (by omega) (by omega)
    have hb3 : Below w.heap.size w (put3 w' (w.heap.size + 1 + 1 + 1 + 1 + 1) (csum2 px py qx qy rx ry)) := ((hb'.setCell (p := ⟨w.heap.size + 1 + 1 + 1 + 1 + 1, 0, none⟩) (by simp; omega) _).setCell (p := ⟨w.heap.size + 1 + 1 + 1 + 1 + 1, 1, none⟩) (by simp; omega) _).setCell (p := ⟨w.heap.size + 1 + 1 + 1 + 1 + 1, 2, none⟩) (by simp; omega) _
    refine hK _ _ ⟨hs', ?_⟩
    exact ⟨.agg #[.int .i64 (csum1 px py qx qy rx ry).1, .int .i64 (csum1 px py qx qy rx ry).2.1, .int .i64 (csum1 px py qx qy rx ry).2.2], .agg #[.int .i64 (pBig (squareW qx qy) (crossW rx ry px py)), .int .i64 (pMid (squareW qx qy) (crossW rx ry px py)), .int .i64 (pLow (squareW qx qy) (crossW rx ry px py))], .agg #[.int .i64 (csum2 px py qx qy rx ry).1, .int .i64 (csum2 px py qx qy rx ry).2.1, .int .i64 (csum2 px py qx qy rx ry).2.2], (by first | rfl | simp only [Act.put, zA, zB, zC]), hb3, hs', (by intros; first | trivial | rfl), (by intros; first | trivial | rfl), (by intros; first | trivial | rfl), put3_parts _ M.out, (by intros; first | trivial | rfl)⟩
   ·rintro a w' ⟨s0, s35, s36, rfl, hb', hs, h35, h36, h0, hp, h4⟩
    have M : Hid (Parts w' (w.heap.size + 1 + 1 + 1 + 1 + 1) (csum2 px py qx qy rx ry)) := hp
    have T : Hid (Three w' (w.heap.size + 1 + 1 + 1 + 1) px py qx qy rx ry) := hs.1
    clear hp hs h35 h36 h0 h4
    refine NoPanic.normal ?_
    simp only [Act.put, zA, zB, zC]
    go_wp2
    go_roundw
    case rel => exact ⟨hb', T.out, .inr (.inr (.inl ⟨rfl, M.out⟩))⟩
    case measure => simp [intOf]
  ·obtain ⟨_, _, _, _, _, _⟩ := id hT
   have hl4 : w.heap.size + 1 + 1 + 1 + 1 < wr.heap.size := World.block_lt_of_cell? _ _ hT.1
   have hl5 : w.heap.size + 1 + 1 + 1 + 1 + 1 < wr.heap.size := hP.lt
   go_wp2
   refine wp_region_noPanic ?_
   refine wp_region_held_drew (S := fun w' => SS w' (w.heap.size + 1 + 1 + 1 + 1) wr.heap.size px py qx qy rx ry px py qx qy) (by kernel_rfl) ?_ (fun hHeld => ?_)
   ·exact ⟨Three.later (((Below.refl _ _).alloc (Nat.le_refl _) _).alloc (by simp) _).drew hT, by simp [go_sem], by simp [go_sem], by simp [go_sem], by simp [go_sem]⟩
   refine wpAnyH_take (i := 1) (oi := _) (v := ?v2x1) rfl (by kernel_rfl) (by kernel_rfl) (by kernel_rfl) (fun _ _ _ h => h) (Or.inl ⟨by rfl, ?hy2x1⟩) (by assumption) ?rest2x1
   case hy2x1 => (intro w' hSw; obtain ⟨⟨_, _, _, _, _, _⟩, _, _, _, _⟩ := hSw; go_simp; with_reducible rfl)
   simp only [Act.put, zA, zB, zC, zD, zE, zF]
   refine wpAnyH_take (i := 2) (oi := _) (v := ?v2x2) rfl (by kernel_rfl) (by kernel_rfl) (by kernel_rfl) (fun _ _ _ h => h) (Or.inl ⟨by rfl, ?hy2x2⟩) (by assumption) ?rest2x2
   case hy2x2 => (intro w' hSw; obtain ⟨⟨_, _, _, _, _, _⟩, _, _, _, _⟩ := hSw; go_simp; with_reducible rfl)
   simp only [Act.put, zA, zB, zC, zD, zE, zF]
   refine wpAnyH_take (i := 3) (oi := _) (v := ?v2x3) rfl (by kernel_rfl) (by kernel_rfl) (by kernel_rfl) (fun _ _ _ h => h) (Or.inl ⟨by rfl, ?hy2x3⟩) (by assumption) ?rest2x3
   case hy2x3 => (intro w' hSw; obtain ⟨⟨_, _, _, _, _, _⟩, _, _, _, _⟩ := hSw; go_simp; with_reducible rfl)
   simp only [Act.put, zA, zB, zC, zD, zE, zF]
   refine wpAnyH_take (i := 4) (oi := _) (v := ?v2x4) rfl (by kernel_rfl) (by kernel_rfl) (by kernel_rfl) (fun _ _ _ h => h) (Or.inl ⟨by rfl, ?hy2x4⟩) (by assumption) ?rest2x4
   case hy2x4 => (intro w' hSw; obtain ⟨⟨_, _, _, _, _, _⟩, _, _, _, _⟩ := hSw; go_simp; with_reducible rfl)
   simp only [Act.put, zA, zB, zC, zD, zE, zF]
   refine wpAnyH_take (i := 5) (oi := _) (v := ?v2x5) rfl (by kernel_rfl) (by kernel_rfl) (by kernel_rfl) (fun _ _ _ h => h) (Or.inl ⟨by rfl, ?hy2x5⟩) (by assumption) ?rest2x5
   case hy2x5 => (intro w' hSw; obtain ⟨⟨_, _, _, _, _, _⟩, _, _, _, _⟩ := hSw; go_simp; with_reducible rfl)
   simp only [Act.put, zA, zB, zC, zD, zE, zF]
   refine wpAnyH_take (i := 6) (oi := _) (v := ?v2x6) rfl (by kernel_rfl) (by kernel_rfl) (by kernel_rfl) (fun _ _ _ h => h) (Or.inl ⟨by rfl, ?hy2x6⟩) (by assumption) ?rest2x6
   case hy2x6 => (intro w' hSw; obtain ⟨⟨_, _, _, _, _, _⟩, _, _, _, _⟩ := hSw; go_simp; with_reducible rfl)
   simp only [Act.put, zA, zB, zC, zD, zE, zF]
   refine wpAnyH_take (i := 7) (oi := _) (v := ?v2x7) rfl (by kernel_rfl) (by kernel_rfl) (by kernel_rfl) (fun _ _ _ h => h) (Or.inl ⟨by rfl, ?hy2x7⟩) (by assumption) ?rest2x7
   case hy2x7 => (intro w' hSw; obtain ⟨⟨_, _, _, _, _, _⟩, _, _, _, _⟩ := hSw; go_simp; with_reducible rfl)
   simp only [Act.put, zA, zB, zC, zD, zE, zF]
   refine wpAnyH_take (i := 8) (oi := _) (v := ?v2x8) rfl (by kernel_rfl) (by kernel_rfl) (by kernel_rfl) (fun _ _ _ h => h) (Or.inl ⟨by rfl, ?hy2x8⟩) (by assumption) ?rest2x8
   case hy2x8 => (intro w' hSw; obtain ⟨⟨_, _, _, _, _, _⟩, _, _, _, _⟩ := hSw; go_simp; with_reducible rfl)
   simp only [Act.put, zA, zB, zC, zD, zE, zF]
   refine wpAnyH_take (i := 9) (oi := _) (v := ?v2x9) rfl (by kernel_rfl) (by kernel_rfl) (by kernel_rfl) (fun _ _ _ h => h) (Or.inl ⟨by rfl, ?hy2x9⟩) (by assumption) ?rest2x9
   case hy2x9 => (intro w' hSw; obtain ⟨⟨_, _, _, _, _, _⟩, _, _, _, _⟩ := hSw; go_simp; with_reducible rfl)
   simp only [Act.put, zA, zB, zC, zD, zE, zF]
   refine wpAnyH_take (i := 10) (oi := _) (v := ?v2x10) rfl (by kernel_rfl) (by kernel_rfl) (by kernel_rfl) (fun _ _ _ h => h) (Or.inl ⟨by rfl, ?hy2x10⟩) (by assumption) ?rest2x10
   case hy2x10 => (intro w' hSw; obtain ⟨⟨_, _, _, _, _, _⟩, _, _, _, _⟩ := hSw; go_simp; with_reducible rfl)
   simp only [Act.put, zA, zB, zC, zD, zE, zF]
   refine wpAnyH_take (i := 11) (oi := _) (v := ?v2x11) rfl (by kernel_rfl) (by kernel_rfl) (by kernel_rfl) (fun _ _ _ h => h) (Or.inl ⟨by rfl, ?hy2x11⟩) (by assumption) ?rest2x11
   case hy2x11 => (intro w' hSw; obtain ⟨⟨_, _, _, _, _, _⟩, _, _, _, _⟩ := hSw; go_simp; with_reducible rfl)
   simp only [Act.put, zA, zB, zC, zD, zE, zF]
   refine wpAnyH_take (i := 12) (oi := _) (v := ?v2x12) rfl (by kernel_rfl) (by kernel_rfl) (by kernel_rfl) (fun _ _ _ h => h) (Or.inl ⟨by rfl, ?hy2x12⟩) (by assumption) ?rest2x12
   case hy2x12 => (intro w' hSw; obtain ⟨⟨_, _, _, _, _, _⟩, _, _, _, _⟩ := hSw; go_simp; with_reducible rfl)
   simp only [Act.put, zA, zB, zC, zD, zE, zF]
   refine wpAnyH_take (i := 13) (oi := _) (v := ?v2x13) rfl (by kernel_rfl) (by kernel_rfl) (by kernel_rfl) (fun _ _ _ h => h) (Or.inl ⟨by rfl, ?hy2x13⟩) (by assumption) ?rest2x13
   case hy2x13 => (intro w' hSw; obtain ⟨⟨_, _, _, _, _, _⟩, _, _, _, _⟩ := hSw; go_simp; with_reducible rfl)
   simp only [Act.put, zA, zB, zC, zD, zE, zF]
   refine wpAnyH_take (i := 14) (oi := _) (v := ?v2x14) rfl (by kernel_rfl) (by kernel_rfl) (by kernel_rfl) (fun _ _ _ h => h) (Or.inl ⟨by rfl, ?hy2x14⟩) (by assumption) ?rest2x14
   case hy2x14 => (intro w' hSw; obtain ⟨⟨_, _, _, _, _, _⟩, _, _, _, _⟩ := hSw; go_simp; with_reducible rfl)
   simp only [Act.put, zA, zB, zC, zD, zE, zF]
   refine wpAnyH_take (i := 15) (oi := _) (v := ?v2x15) rfl (by kernel_rfl) (by kernel_rfl) (by kernel_rfl) (fun _ _ _ h => h) (Or.inl ⟨by rfl, ?hy2x15⟩) (by assumption) ?rest2x15
   case hy2x15 => (intro w' hSw; obtain ⟨⟨_, _, _, _, _, _⟩, _, _, _, _⟩ := hSw; go_simp; with_reducible rfl)
   simp only [Act.put, zA, zB, zC, zD, zE, zF]
   refine wpAnyH_take (i := 16) (oi := _) (v := ?v2x16) rfl (by kernel_rfl) (by kernel_rfl) (by kernel_rfl) (fun _ _ _ h => h) (Or.inl ⟨by rfl, ?hy2x16⟩) (by assumption) ?rest2x16
   case hy2x16 => (intro w' hSw; obtain ⟨⟨_, _, _, _, _, _⟩, _, _, _, _⟩ := hSw; go_simp; with_reducible rfl)
   simp only [Act.put, zA, zB, zC, zD, zE, zF]
   refine wpAnyH_take (i := 17) (oi := _) (v := ?v2x17) rfl (by kernel_rfl) (by kernel_rfl) (by kernel_rfl) (fun _ _ _ h => h) (Or.inl ⟨by rfl, ?hy2x17⟩) (by assumption) ?rest2x17
   case hy2x17 => (intro w' hSw; obtain ⟨⟨_, _, _, _, _, _⟩, _, _, _, _⟩ := hSw; go_simp; with_reducible rfl)
   simp only [Act.put, zA, zB, zC, zD, zE, zF]
   refine wpAnyH_take (i := 18) (oi := _) (v := ?v2x18) rfl (by kernel_rfl) (by kernel_rfl) (by kernel_rfl) (fun _ _ _ h => h) (Or.inl ⟨by rfl, ?hy2x18⟩) (by assumption) ?rest2x18
   case hy2x18 => (intro w' hSw; obtain ⟨⟨_, _, _, _, _, _⟩, _, _, _, _⟩ := hSw; go_simp; with_reducible rfl)
   simp only [Act.put, zA, zB, zC, zD, zE, zF]
   refine wpAnyH_take (i := 19) (oi := _) (v := ?v2x19) rfl (by kernel_rfl) (by kernel_rfl) (by kernel_rfl) (fun _ _ _ h => h) (Or.inl ⟨by rfl, ?hy2x19⟩) (by assumption) ?rest2x19
   case hy2x19 => (intro w' hSw; obtain ⟨⟨_, _, _, _, _, _⟩, _, _, _, _⟩ := hSw; go_simp; with_reducible rfl)
   simp only [Act.put, zA, zB, zC, zD, zE, zF]
   refine wpAnyH_take (i := 20) (oi := _) (v := ?v2x20) rfl (by kernel_rfl) (by kernel_rfl) (by kernel_rfl) (fun _ _ _ h => h) (Or.inl ⟨by rfl, ?hy2x20⟩) (by assumption) ?rest2x20
   case hy2x20 => (intro w' hSw; obtain ⟨⟨_, _, _, _, _, _⟩, _, _, _, _⟩ := hSw; go_simp; with_reducible rfl)
   simp only [Act.put, zA, zB, zC, zD, zE, zF]
   refine wpAnyH_take (i := 21) (oi := _) (v := ?v2x21) rfl (by kernel_rfl) (by kernel_rfl) (by kernel_rfl) (fun _ _ _ h => h) (Or.inl ⟨by rfl, ?hy2x21⟩) (by assumption) ?rest2x21
   case hy2x21 => (intro w' hSw; obtain ⟨⟨_, _, _, _, _, _⟩, _, _, _, _⟩ := hSw; go_simp; with_reducible rfl)
   simp only [Act.put, zA, zB, zC, zD, zE, zF]
   refine wpAnyH_take (i := 22) (oi := _) (v := ?v2x22) rfl (by kernel_rfl) (by kernel_rfl) (by kernel_rfl) (fun _ _ _ h => h) (Or.inl ⟨by rfl, ?hy2x22⟩) (by assumption) ?rest2x22
   case hy2x22 => (intro w' hSw; obtain ⟨⟨_, _, _, _, _, _⟩, _, _, _, _⟩ := hSw; go_simp; with_reducible rfl)
   simp only [Act.put, zA, zB, zC, zD, zE, zF]
   refine wpAnyH_take (i := 23) (oi := _) (v := ?v2x23) rfl (by kernel_rfl) (by kernel_rfl) (by kernel_rfl) (fun _ _ _ h => h) (Or.inl ⟨by rfl, ?hy2x23⟩) (by assumption) ?rest2x23
   case hy2x23 => (intro w' hSw; obtain ⟨⟨_, _, _, _, _, _⟩, _, _, _, _⟩ := hSw; go_simp; with_reducible rfl)
   simp only [Act.put, zA, zB, zC, zD, zE, zF]
   refine wpAnyH_take (i := 24) (oi := _) (v := ?v2x24) rfl (by kernel_rfl) (by kernel_rfl) (by kernel_rfl) (fun _ _ _ h => h) (Or.inl ⟨by rfl, ?hy2x24⟩) (by assumption) ?rest2x24
   case hy2x24 => (intro w' hSw; obtain ⟨⟨_, _, _, _, _, _⟩, _, _, _, _⟩ := hSw; go_simp; with_reducible rfl)
   simp only [Act.put, zA, zB, zC, zD, zE, zF]
   refine wpAnyH_take (i := 25) (oi := _) (v := ?v2x25) rfl (by kernel_rfl) (by kernel_rfl) (by kernel_rfl) (fun _ _ _ h => h) (Or.inl ⟨by rfl, ?hy2x25⟩) (by assumption) ?rest2x25
   case hy2x25 => (intro w' hSw; obtain ⟨⟨_, _, _, _, _, _⟩, _, _, _, _⟩ := hSw; go_simp; with_reducible rfl)
   simp only [Act.put, zA, zB, zC, zD, zE, zF]
   refine wpAnyH_take (i := 26) (oi := _) (v := ?v2x26) rfl (by kernel_rfl) (by kernel_rfl) (by kernel_rfl) (fun _ _ _ h => h) (Or.inl ⟨by rfl, ?hy2x26⟩) (by assumption) ?rest2x26
   case hy2x26 => (intro w' hSw; obtain ⟨⟨_, _, _, _, _, _⟩, _, _, _, _⟩ := hSw; go_simp; with_reducible rfl)
   simp only [Act.put, zA, zB, zC, zD, zE, zF]
   refine wpAnyH_take (i := 27) (oi := _) (v := ?v2x27) rfl (by kernel_rfl) (by kernel_rfl) (by kernel_rfl) (fun _ _ _ h => h) (Or.inl ⟨by rfl, ?hy2x27⟩) (by assumption) ?rest2x27
   case hy2x27 => (intro w' hSw; obtain ⟨⟨_, _, _, _, _, _⟩, _, _, _, _⟩ := hSw; go_simp; with_reducible rfl)
   simp only [Act.put, zA, zB, zC, zD, zE, zF]
   refine wpAnyH_take (i := 28) (oi := _) (v := ?v2x28) rfl (by kernel_rfl) (by kernel_rfl) (by kernel_rfl) (fun _ _ _ h => h) (Or.inl ⟨by rfl, ?hy2x28⟩) (by assumption) ?rest2x28
   case hy2x28 => (intro w' hSw; obtain ⟨⟨_, _, _, _, _, _⟩, _, _, _, _⟩ := hSw; go_simp; with_reducible rfl)
   simp only [Act.put, zA, zB, zC, zD, zE, zF]
   refine wpAnyH_take (i := 29) (oi := _) (v := ?v2x29) rfl (by kernel_rfl) (by kernel_rfl) (by kernel_rfl) (fun _ _ _ h => h) (Or.inl ⟨by rfl, ?hy2x29⟩) (by assumption) ?rest2x29
   case hy2x29 => (intro w' hSw; obtain ⟨⟨_, _, _, _, _, _⟩, _, _, _, _⟩ := hSw; go_simp; with_reducible rfl)
   simp only [Act.put, zA, zB, zC, zD, zE, zF]
   refine wpAnyH_take (i := 30) (oi := _) (v := ?v2x30) rfl (by kernel_rfl) (by kernel_rfl) (by kernel_rfl) (fun _ _ _ h => h) (Or.inl ⟨by rfl, ?hy2x30⟩) (by assumption) ?rest2x30
   case hy2x30 => (intro w' hSw; obtain ⟨⟨_, _, _, _, _, _⟩, _, _, _, _⟩ := hSw; go_simp; with_reducible rfl)
   simp only [Act.put, zA, zB, zC, zD, zE, zF]
   refine wpAnyH_take (i := 31) (oi := _) (v := ?v2x31) rfl (by kernel_rfl) (by kernel_rfl) (by kernel_rfl) (fun _ _ _ h => h) (Or.inl ⟨by rfl, ?hy2x31⟩) (by assumption) ?rest2x31
   case hy2x31 => (intro w' hSw; obtain ⟨⟨_, _, _, _, _, _⟩, _, _, _, _⟩ := hSw; go_simp; with_reducible rfl)
   simp only [Act.put, zA, zB, zC, zD, zE, zF]
   refine wpAnyH_take (i := 32) (oi := _) (v := ?v2x32) rfl (by kernel_rfl) (by kernel_rfl) (by kernel_rfl) (fun _ _ _ h => h) (Or.inl ⟨by rfl, ?hy2x32⟩) (by assumption) ?rest2x32
   case hy2x32 => (intro w' hSw; obtain ⟨⟨_, _, _, _, _, _⟩, _, _, _, _⟩ := hSw; go_simp; with_reducible rfl)
   simp only [Act.put, zA, zB, zC, zD, zE, zF]
   refine wpAnyH_take (i := 33) (oi := _) (v := ?v2x33) rfl (by kernel_rfl) (by kernel_rfl) (by kernel_rfl) (fun _ _ _ h => h) (Or.inl ⟨by rfl, ?hy2x33⟩) (by assumption) ?rest2x33
   case hy2x33 => (intro w' hSw; obtain ⟨⟨_, _, _, _, _, _⟩, _, _, _, _⟩ := hSw; go_simp; with_reducible rfl)
   simp only [Act.put, zA, zB, zC, zD, zE, zF]
   refine wpAnyH_take (i := 34) (oi := _) (v := ?v2x34) rfl (by kernel_rfl) (by kernel_rfl) (by kernel_rfl) (fun _ _ _ h => h) (Or.inl ⟨by rfl, ?hy2x34⟩) (by assumption) ?rest2x34
   case hy2x34 => (intro w' hSw; obtain ⟨⟨_, _, _, _, _, _⟩, _, _, _, _⟩ := hSw; go_simp; with_reducible rfl)
   simp only [Act.put, zA, zB, zC, zD, zE, zF]
   simp only [wrap_i64]
   refine sum_region (fun a0 (s : fSt) a w' => ∃ s0 s35 s36 : Value, a = ((a0.put (some 65) s0).put (some 100) s35).put (some 101) s36 /\ Below w.heap.size w w' /\ SS w' (w.heap.size + 1 + 1 + 1 + 1) wr.heap.size px py qx qy rx ry px py qx qy /\ (1 <= s.1 -> s35 = .agg #[.int .i64 (pBig (squareW rx ry) (crossW px py qx qy)), .int .i64 (pMid (squareW rx ry) (crossW px py qx qy)), .int .i64 (pLow (squareW rx ry) (crossW px py qx qy))]) /\ (2 <= s.1 -> s36 = .agg #[.int .i64 (csum3 px py qx qy rx ry).1, .int .i64 (csum3 px py qx qy rx ry).2.1, .int .i64 (csum3 px py qx qy rx ry).2.2]) /\ (s.2 = true -> s0 = .agg #[.int .i64 (csum2 px py qx qy rx ry).1, .int .i64 (csum2 px py qx qy rx ry).2.1, .int .i64 (csum2 px py qx qy rx ry).2.2]) /\ Parts w' (w.heap.size + 1 + 1 + 1 + 1 + 1) (pv s.1 (csum3 px py qx qy rx ry) (csum2 px py qx qy rx ry)) /\ (2 <= s.1 -> s.2 = true)) (by decide +kernel) (by decide +kernel) ?_ ?_ ?_ ?_ ?_ ?_ ?_
   ·rintro ⟨c, x⟩
    revert x
    revert c
    decide +kernel
   ·refine ⟨_, _, _, put_three _ 65 100 101, (hb.trans ((((Below.refl _ _).alloc (Nat.le_refl _) _).alloc (by simp) _).drew.mono hb.size)), hHeld, by simp, by simp, by simp, hP.later ((((Below.refl _ _).alloc (Nat.le_refl _) _).alloc (by simp) _).drew), by simp⟩
   ·rintro c a w' ⟨s0, s35, s36, rfl, hb', hs, h35, h36, h0, hp, h4⟩
    have hz : w.heap.size <= w'.heap.size := hb'.size
    simp only [Act.put, zA, zB, zC]
    have h3' : ¬ 3 <= (c : Nat) := fun h => by have := h4 (show (2 : Nat) <= c by omega); simp at this
    have M : Hid _ := hp
    simp only [pv, if_neg h3'] at hp
    obtain ⟨_, _, _, _, _, _⟩ := hp
    refine wpOp_step rfl (fun K hK => ?_)
    go_simp
    refine hK _ _ ⟨hs, ?_⟩
    exact ⟨.agg #[.int .i64 (csum2 px py qx qy rx ry).1, .int .i64 (csum2 px py qx qy rx ry).2.1, .int .i64 (csum2 px py qx qy rx ry).2.2], s35, s36, (by first | rfl | simp only [Act.put, zA, zB, zC]), hb', hs, h35, h36, (by intros; first | trivial | rfl), M.out, (by intros; first | trivial | rfl)⟩
   ·rintro x a w' ⟨s0, s35, s36, rfl, hb', hs, h35, h36, h0, hp, h4⟩
    have hz : w.heap.size <= w'.heap.size := hb'.size
    simp only [Act.put, zA, zB, zC]
    refine wpOp_step rfl (fun K hK => ?_)
    go_simp
    refine (refProduct_any _ _ _).mono ?_
    rintro e w2 ⟨rfl, hb2⟩
    refine hK _ _ ⟨hs.later hb2, ?_⟩
    exact ⟨s0, .agg #[.int .i64 (pBig (squareW rx ry) (crossW px py qx qy)), .int .i64 (pMid (squareW rx ry) (crossW px py qx qy)), .int .i64 (pLow (squareW rx ry) (crossW px py qx qy))], s36, (by first | rfl | simp only [Act.put, zA, zB, zC]), hb'.trans (hb2.mono hz), hs.later hb2, (by intros; first | trivial | rfl), (fun h => absurd (show (2 : Fin 4) <= 1 from h) (by decide)), h0, hp.later hb2, (fun h => absurd (show (2 : Fin 4) <= 1 from h) (by decide))⟩
   ·rintro a w' ⟨s0, s35, s36, rfl, hb', hs, h35, h36, h0, hp, h4⟩
    have hz : w.heap.size <= w'.heap.size := hb'.size
    simp only [Act.put, zA, zB, zC]
    have e0 := h0 rfl
    have e35 := h35 (by decide)
    refine wpOp_step rfl (fun K hK => ?_)
    go_simp
    refine (refAdd_any _ _ _ _ _ _ _).mono ?_
    rintro e w2 ⟨rfl, hb2⟩
    refine hK _ _ ⟨hs.later hb2, ?_⟩
    exact ⟨.agg #[.int .i64 (csum2 px py qx qy rx ry).1, .int .i64 (csum2 px py qx qy rx ry).2.1, .int .i64 (csum2 px py qx qy rx ry).2.2], .agg #[.int .i64 (pBig (squareW rx ry) (crossW px py qx qy)), .int .i64 (pMid (squareW rx ry) (crossW px py qx qy)), .int .i64 (pLow (squareW rx ry) (crossW px py qx qy))], .agg #[.int .i64 (csum3 px py qx qy rx ry).1, .int .i64 (csum3 px py qx qy rx ry).2.1, .int .i64 (csum3 px py qx qy rx ry).2.2], (by first | rfl | simp only [Act.put, zA, zB, zC]), hb'.trans (hb2.mono hz), hs.later hb2, (by intros; first | trivial | rfl), (by intros; first | trivial | rfl), (by intros; first | trivial | rfl), hp.later hb2, (by intros; first | trivial | rfl)⟩
   ·rintro a w' ⟨s0, s35, s36, rfl, hb', hs, h35, h36, h0, hp, h4⟩
    have hz : w.heap.size <= w'.heap.size := hb'.size
    simp only [Act.put, zA, zB, zC]
    have e0 := h0 rfl
    have e35 := h35 (by decide)
    have e36 := h36 (by decide)
    have M : Hid _ := hp
    obtain ⟨_, _, _, _, _, _⟩ := hp
    refine wpOp_step rfl (fun K hK => ?_)
    go_simp
    have hs' := hs.far (w.heap.size + 1 + 1 + 1 + 1 + 1) (csum3 px py qx qy rx ry) (by omega) (by omega) (by omega)
    have hb3 : Below w.heap.size w (put3 w' (w.heap.size + 1 + 1 + 1 + 1 + 1) (csum3 px py qx qy rx ry)) := ((hb'.setCell (p := ⟨w.heap.size + 1 + 1 + 1 + 1 + 1, 0, none⟩) (by simp; omega) _).setCell (p := ⟨w.heap.size + 1 + 1 + 1 + 1 + 1, 1, none⟩) (by simp; omega) _).setCell (p := ⟨w.heap.size + 1 + 1 + 1 + 1 + 1, 2, none⟩) (by simp; omega) _
    refine hK _ _ ⟨hs', ?_⟩
    exact ⟨.agg #[.int .i64 (csum2 px py qx qy rx ry).1, .int .i64 (csum2 px py qx qy rx ry).2.1, .int .i64 (csum2 px py qx qy rx ry).2.2], .agg #[.int .i64 (pBig (squareW rx ry) (crossW px py qx qy)), .int .i64 (pMid (squareW rx ry) (crossW px py qx qy)), .int .i64 (pLow (squareW rx ry) (crossW px py qx qy))], .agg #[.int .i64 (csum3 px py qx qy rx ry).1, .int .i64 (csum3 px py qx qy rx ry).2.1, .int .i64 (csum3 px py qx qy rx ry).2.2], (by first | rfl | simp only [Act.put, zA, zB, zC]), hb3, hs', (by intros; first | trivial | rfl), (by intros; first | trivial | rfl), (by intros; first | trivial | rfl), put3_parts _ M.out, (by intros; first | trivial | rfl)⟩
   ·rintro a w' ⟨s0, s35, s36, rfl, hb', hs, h35, h36, h0, hp, h4⟩
    have M : Hid (Parts w' (w.heap.size + 1 + 1 + 1 + 1 + 1) (csum3 px py qx qy rx ry)) := hp
    have T : Hid (Three w' (w.heap.size + 1 + 1 + 1 + 1) px py qx qy rx ry) := hs.1
    clear hp hs h35 h36 h0 h4
    refine NoPanic.normal ?_
    simp only [Act.put, zA, zB, zC]
    go_wp2
    go_roundw
    case rel => exact ⟨hb', T.out, .inr (.inr (.inr ⟨rfl, M.out⟩))⟩
    case measure => simp [intOf]
  ·obtain ⟨_, _, _, _, _, _⟩ := id hP
   go_wp2_with fail
   refine (signOf_any _ _ _ _).mono ?_
   rintro e w5 ⟨rfl, hb5⟩
   go_wp2_with fail
   go_ret
   obtain ⟨e1, e2, e3, e4, e5, e6⟩ := EE.out
   rw [e1, e2, e3, e4, e5, e6]
   exact ⟨rfl, below_then hb hb5⟩
end Go.Proofs.YtdkaoopkbhaheaaGreat
