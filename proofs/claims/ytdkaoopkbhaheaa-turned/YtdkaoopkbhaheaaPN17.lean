import Derived.Test.YtdkaoopkbhaheaaPN0
import Derived.Test.YtdkaoopkbhaheaaPR1
import Derived.Test.YtdkaoopkbhaheaaPF7
namespace Go.Proofs.Ytdkaoopkbhaheaa
open Go.RowKit Go.Lib
open Jor
set_option linter.unusedVariables false
set_option linter.unusedSimpArgs false
def swp2 (e : Nat × Nat) : Nat × Nat := (e.2, e.1)
def turnL (El : List (Nat × Nat)) (F : Nat) : Nat → List (Nat × Nat)
  | 0 => El
  | k + 1 => (turnL El F k).set (F + k) (swp2 (El.getD (F + k) (0, 0)))
theorem turnL_length (El : List (Nat × Nat)) (F : Nat) : ∀ k, (turnL El F k).length = El.length := by
  intro k
  induction k with
  | zero => rfl
  | succ k ih => simp [turnL, ih]
theorem turnL_get (El : List (Nat × Nat)) (F : Nat) : ∀ k i, F + k ≤ El.length → (turnL El F k).getD i (0, 0) = if F ≤ i ∧ i < F + k then swp2 (El.getD i (0, 0)) else El.getD i (0, 0) := by
  intro k
  induction k with
  | zero => intro i _; rw [if_neg (by omega)]; rfl
  | succ k ih =>
    intro i h
    have hl := turnL_length El F k
    simp only [turnL]
    by_cases e : i = F + k
    · subst e
      rw [if_pos (by omega), List.getD_eq_getElem?_getD, List.getElem?_set_self (by omega)]; rfl
    · rw [List.getD_eq_getElem?_getD, List.getElem?_set_ne (Ne.symm e), ← List.getD_eq_getElem?_getD, ih i (by omega)]
      by_cases q : F ≤ i ∧ i < F + k
      · rw [if_pos q, if_pos (by omega)]
      · rw [if_neg q, if_neg (by omega)]
theorem cellsA_set (l : List (Nat × Nat)) (e : Nat × Nat) : ∀ i, i < l.length → ((cellsA l).set (i * 2) (.int .i64 (e.1 : Int))).set (i * 2 + 1) (.int .i64 (e.2 : Int)) = cellsA (l.set i e) := by
  induction l with
  | nil => intro i h; simp at h
  | cons p l ih =>
    intro i h
    match i with
    | 0 => simp [cellsA]
    | i + 1 =>
      have := ih i (by simpa using h)
      rw [show (i + 1) * 2 = i * 2 + 1 + 1 by omega]
      simpa [cellsA] using this
set_option maxRecDepth 100000 in
set_option maxHeartbeats 4000000 in
theorem turnAll_any (base g F m c' N c : Nat) (El : List (Nat × Nat)) (w : World) (hEl : El.length = N) (hN : N ≤ 1048576) (hF : F + m ≤ N) (hown : w.ownsRow base 120 2 (.slice (some ⟨g, 0, none⟩) N c) N (cellsA El)) :
    Calls Try.prog 98 #[.slice (some ⟨g, F * 2, none⟩) m c'] w fun e w' => e = .returned (.tuple #[]) ∧ w'.ownsRow base 120 2 (.slice (some ⟨g, 0, none⟩) N c) N (cellsA (turnL El F m)) ∧ w.grownBy w' (some g) := by
  have HE : Hid (El.length = N) := hEl
  clear hEl
  go_enter Try.func98, Try.ntmps98
  go_wp2
  go_loopw [2, 3, 6] (fun _ _ x wr => ∃ k : Nat, k ≤ m ∧ x = .int .i64 k ∧ wr.ownsRow base 120 2 (.slice (some ⟨g, 0, none⟩) N c) N (cellsA (turnL El F k)) ∧ w.grownBy wr (some g)) (fun _ _ x _ => m - (intOf x).toNat)
  case atStart => exact ⟨0, Nat.zero_le _, rfl, hown, ⟨rfl, rfl, rfl, Nat.le_refl _, fun _ _ _ => rfl⟩⟩
  case round =>
    clear hown
    obtain ⟨k, hk, rfl, hown, hg⟩ := hrel
    by_cases hlt : k < m
    · have hl : (turnL El F k).length = N := by rw [turnL_length]; exact HE.out
      have gk := cellsA_get (turnL El F k) (F + k) (by omega)
      have tg := turnL_get El F k (F + k) (by rw [HE.out]; omega)
      rw [if_neg (by omega)] at tg
      rw [tg] at gk
      have c0 := (hown.cellAt ((F + k) * 2) (by omega)).trans gk.1
      have c1 := (hown.cellAt ((F + k) * 2 + 1) (by omega)).trans gk.2
      have HS : Hid (turnL El F (k + 1) = (turnL El F k).set (F + k) (swp2 (El.getD (F + k) (0, 0)))) := rfl
      have hgs := (hown.lt g rfl).2
      clear gk tg
      have HSW : Hid (swp2 (El.getD (F + k) (0, 0)) = ((El.getD (F + k) (0, 0)).2, (El.getD (F + k) (0, 0)).1)) := rfl
      generalize (El.getD (F + k) (0, 0)).1 = e1 at *
      generalize (El.getD (F + k) (0, 0)).2 = e2 at *
      generalize swp2 (El.getD (F + k) (0, 0)) = e3 at *
      have ej : (F + k) * 2 = F * 2 + k * 2 := by omega
      have k0 : (0 : Int) ≤ (k : Int) := by omega
      have km : (k : Int) < (m : Int) := by omega
      have HO : Hid (∀ w2 : World, Below (wr.alloc (.cells #[.int .i64 (e1 : Int), .int .i64 (e2 : Int)] 120)).heap.size (wr.alloc (.cells #[.int .i64 (e1 : Int), .int .i64 (e2 : Int)] 120)) w2 → w2.cell? ⟨g, F * 2 + k * 2, none⟩ = some (.int .i64 (e1 : Int)) ∧ w2.cell? ⟨g, F * 2 + k * 2 + 1, none⟩ = some (.int .i64 (e2 : Int)) ∧ w2.frozen? ⟨g, F * 2 + k * 2, none⟩ = false ∧ w2.frozen? ⟨g, F * 2 + k * 2 + 1, none⟩ = false ∧ ((w2.setCell ⟨g, F * 2 + k * 2, none⟩ (.int .i64 (e2 : Int))).setCell ⟨g, F * 2 + k * 2 + 1, none⟩ (.int .i64 (e1 : Int))).ownsRow base 120 2 (.slice (some ⟨g, 0, none⟩) N c) N (cellsA (turnL El F (k + 1))) ∧ w.grownBy ((w2.setCell ⟨g, F * 2 + k * 2, none⟩ (.int .i64 (e2 : Int))).setCell ⟨g, F * 2 + k * 2 + 1, none⟩ (.int .i64 (e1 : Int))) (some g)) := fun w2 hb2 => by
        have hbA : Below wr.heap.size wr (wr.alloc (.cells #[.int .i64 (e1 : Int), .int .i64 (e2 : Int)] 120)) := (Below.refl _ _).alloc (Nat.le_refl _) _
        have hb := below_then hbA hb2
        have g1 : wr.grownBy w2 none := ⟨hb.os, hb.tape, hb.output, hb.size, fun q hq _ => hb.block q hq⟩
        have own2 := hown.kept g1 (.inr (by simp [Value.ownBlock]))
        obtain ⟨own3, gr3⟩ := own2.stored ((F + k) * 2) (.int .i64 (e2 : Int))
        obtain ⟨own4, gr4⟩ := own3.stored ((F + k) * 2 + 1) (.int .i64 (e1 : Int))
        have := cellsA_set (turnL El F k) e3 (F + k) (by omega)
        rw [HSW.out] at this
        simp only at this
        rw [this, ← HSW.out, ← HS.out, ej] at own4
        have f0 := own2.frozenAt ((F + k) * 2)
        have f1 := own2.frozenAt ((F + k) * 2 + 1)
        rw [ej] at f0 f1
        have d0 := cell_later hb c0
        have d1 := cell_later hb c1
        rw [ej] at d0 d1
        rw [ej] at gr3 gr4
        refine ⟨d0, d1, f0, f1, own4, ⟨hb.os.trans hg.os, hb.tape.trans hg.tape, hb.output.trans hg.output, ?_, fun q hq hne => ?_⟩⟩
        · have := hb.size; have := hg.size; simp; omega
        · have := hb.size
          have := hg.size
          rw [gr4.block q (by simp; omega) hne, gr3.block q (by omega) hne, hb.block q (by omega)]
          exact hg.block q hq hne
      rw [ej] at c0 c1
      clear hown hg HS HSW
      go_wp2_with (go_at_call 100; refine (turned_any e1 e2 _).mono ?_; rintro e w2 ⟨rfl, hb2⟩; obtain ⟨z0, z1, z2, z3, z4, z5⟩ := HO.out w2 hb2; unfold ev)
      go_roundw
      case rel => exact ⟨k + 1, by omega, by go_num, z4, z5⟩
      case measure => simp [intOf]; omega
    · have : k = m := by omega
      subst this
      go_wp2
      go_end0
      exact ⟨rfl, hown, hg⟩
end Go.Proofs.Ytdkaoopkbhaheaa
namespace Go.Proofs.Ytdkaoopkbhaheaa
open Go.RowKit Go.Lib
open Jor
set_option linter.unusedVariables false
set_option linter.unusedSimpArgs false
def trB (rs : List (List IP)) (k : Nat) : Bool := decide (k = 0) != decide (0 < lsum (rg rs k) (rg rs k).length)
def bordL (rs : List (List IP)) : Nat → List (Nat × Nat)
  | 0 => eds 0 rs
  | k + 1 => if trB rs k then turnL (bordL rs k) (off rs k) (rg rs k).length else bordL rs k
theorem bordL_length (rs : List (List IP)) : ∀ k, (bordL rs k).length = (verts rs).length := by
  intro k
  induction k with
  | zero => exact eds_length rs 0
  | succ k ih =>
    simp only [bordL]
    split
    · rw [turnL_length, ih]
    · exact ih
theorem own_later2 {w w' : World} {B : Nat} {e : TypeId} {size n : Nat} {v : Value} {xs : List Value} (h : w.ownsRow B e size v n xs) (hb : Below w.heap.size w w') : w'.ownsRow B e size v n xs :=
  h.kept (row := none) ⟨hb.os, hb.tape, hb.output, hb.size, fun q hq _ => hb.block q hq⟩ (by cases h2 : v.ownBlock with | none => exact .inl rfl | some x => exact .inr (by simp))
set_option maxRecDepth 100000 in
set_option maxHeartbeats 4000000 in
theorem border_any (b of cap : Nat) (A : Nat → Option Addr) (C : Nat → Nat) (rs : List (List IP)) (w : World) (hn : rs.length ≤ 8) (hm : 1 ≤ rs.length) (h3 : ∀ k, k < rs.length → 3 ≤ (rg rs k).length) (hsz : (verts rs).length ≤ 1048576) (hp : RingsL w (some ⟨b, of, none⟩) A C rs) :
    Calls Try.prog 75 #[.slice (some ⟨b, of, none⟩) rs.length cap] w fun e w' => ∃ g c, e = .returned (.slice (some ⟨g, 0, none⟩) (verts rs).length c) ∧ w'.ownsRow w.heap.size 120 2 (.slice (some ⟨g, 0, none⟩) (verts rs).length c) (verts rs).length (cellsA (bordL rs rs.length)) ∧ Below w.heap.size w w' := by
  have H3 : Hid (∀ k, k < rs.length → 3 ≤ (rg rs k).length) := h3
  have hpos : 0 < (verts rs).length := by
    have := rg_le rs 0
    have := h3 0 (by omega)
    omega
  have HP : Hid (RingsL w (some ⟨b, of, none⟩) A C rs) := hp
  clear h3 hp
  go_enter Try.func75, Try.ntmps75
  go_wp2_with (go_at_call 97; refine (pedges_any _ _ _ _ _ _ (by omega) HP.out hsz).mono ?_; rintro e w1 ⟨v, rfl, hown, hb1⟩)
  obtain ⟨g, c, rfl, hgc, hcm, hgb⟩ : ∃ g c, v = .slice (some ⟨g, 0, none⟩) (verts rs).length c ∧ (verts rs).length ≤ c ∧ c ≤ maxLen ∧ w.heap.size ≤ g := by
    obtain ⟨_, h2⟩ := hown
    rcases h2 with ⟨_, h2⟩ | ⟨g, c, cur, h2, h3, _, h5, h6, _⟩
    · omega
    · exact ⟨g, c, h2, h5, h6, h3⟩
  go_loopw [4, 5, 6, 7, 13] (fun x _ _ _ y wr => ∃ k : Nat, k ≤ rs.length ∧ y = .int .i64 k ∧ (k < rs.length → x = .slice (some ⟨g, off rs k * 2, none⟩) ((verts rs).length - off rs k) (c - off rs k)) ∧ wr.ownsRow w.heap.size 120 2 (.slice (some ⟨g, 0, none⟩) (verts rs).length c) (verts rs).length (cellsA (bordL rs k)) ∧ Below w.heap.size w wr) (fun _ _ _ _ y _ => rs.length - (intOf y).toNat)
  case atStart =>
    refine ⟨0, Nat.zero_le _, rfl, fun _ => ?_, hown, hb1⟩
    rw [off_zero]; simp
  case round =>
    clear hown hb1
    obtain ⟨k, hk, rfl, hx, hown, hbr⟩ := hrel
    by_cases hlt : k < rs.length
    · have hx := hx hlt
      subst hx
      have hl3 := H3.out k hlt
      obtain ⟨bk, ok, hc0, hcs⟩ := ring_cells HP.out hlt (by omega)
      have hc1 := cell_later hbr hc0
      have hoff := off_succ rs k hlt
      have hlim := off_le' rs (k + 1) (by omega)
      have k0 : (0 : Int) ≤ (k : Int) := by omega
      have kn : (k : Int) < (rs.length : Int) := by omega
      have hlen : (rg rs k).length ≤ 1048576 := by have := rg_le rs k; omega
      have CA : Hid (Calls Try.prog 84 #[.slice (some ⟨bk, ok, none⟩) (rg rs k).length (C k)] wr fun e w' => e = .returned (.int .i64 (lsum (rg rs k) (rg rs k).length)) ∧ Below wr.heap.size wr w') := leftArea_any bk ok (C k) (rg rs k) wr hlen (by omega) (fun j hj => ⟨cell_later hbr (hcs j hj).1, cell_later hbr (hcs j hj).2⟩)
      have HBL : Hid (bordL rs (k + 1) = if trB rs k then turnL (bordL rs k) (off rs k) (rg rs k).length else bordL rs k) := rfl
      have HTB : Hid (trB rs k = (decide (k = 0) != decide (0 < lsum (rg rs k) (rg rs k).length))) := rfl
      have HBW : Hid (∀ w2, Below wr.heap.size wr w2 → w2.ownsRow w.heap.size 120 2 (.slice (some ⟨g, 0, none⟩) (verts rs).length c) (verts rs).length (cellsA (bordL rs k)) ∧ Below w.heap.size w w2) := fun w2 h2 => ⟨own_later2 hown h2, hbr.trans (h2.mono hbr.size)⟩
      have hbl := bordL_length rs k
      have CT : Hid (∀ w2, Below wr.heap.size wr w2 → Calls Try.prog 98 #[.slice (some ⟨g, off rs k * 2, none⟩) (rg rs k).length (c - off rs k)] w2 fun e w' => e = .returned (.tuple #[]) ∧ w'.ownsRow w.heap.size 120 2 (.slice (some ⟨g, 0, none⟩) (verts rs).length c) (verts rs).length (cellsA (turnL (bordL rs k) (off rs k) (rg rs k).length)) ∧ Below w.heap.size w w') := fun w2 h2 => by
        obtain ⟨o2, b2⟩ := HBW.out w2 h2
        refine (turnAll_any w.heap.size g (off rs k) (rg rs k).length _ _ c (bordL rs k) w2 hbl hsz (by omega) o2).mono ?_
        rintro e w' ⟨rfl, h1, h3⟩
        exact ⟨rfl, h1, b2.grown h3 b2.size (fun q e => by cases e; exact hgb)⟩
      have HOF : Hid (off rs (k + 1) = off rs k + (rg rs k).length) := hoff
      have hlim2 : off rs k + (rg rs k).length ≤ (verts rs).length := by omega
      clear hcs hc0 hown hbl hoff hlim
      generalize hF : off rs k = F at *
      clear hF
      have hLg : ∃ Lk, (rg rs k).length = Lk := ⟨_, rfl⟩
      obtain ⟨Lk, hLk⟩ := hLg
      rw [hLk] at hl3 hc1 hlen CA HBL HTB CT HOF hlim2
      generalize lsum (rg rs k) Lk = ls at *
      clear hLk
      have a1 : (Lk : Int) ≤ ((c - F : Nat) : Int) := by omega
      have a2 : (0 : Int) ≤ (Lk : Int) := by omega
      have a3 : (Lk : Int) ≤ (((verts rs).length - F : Nat) : Int) := by omega
      have a4 : (((verts rs).length - F : Nat) : Int) ≤ ((c - F : Nat) : Int) := by omega
      have HRX : Hid (k + 1 < rs.length → Value.slice (if c - F = Lk then some ⟨g, F * 2, none⟩ else some ⟨g, F * 2 + Lk * 2, none⟩) ((verts rs).length - F - Lk) (c - F - Lk) = Value.slice (some ⟨g, off rs (k + 1) * 2, none⟩) ((verts rs).length - off rs (k + 1)) (c - off rs (k + 1))) := fun h => by
        have h1 := off_succ rs (k + 1) h
        have h2 := off_le' rs (k + 1 + 1) (by omega)
        have h3 := H3.out (k + 1) h
        have h4 := HOF.out
        rw [if_neg (by omega), HOF.out, Nat.add_mul, Nat.sub_sub, Nat.sub_sub]
      by_cases hz : k = 0
      · have z1 : ((k : Int) == 0) = true := by rw [hz]; rfl
        by_cases hp0 : 0 < ls
        · have HB : Hid (bordL rs (k + 1) = bordL rs k) := by
            show _ = _
            rw [HBL.out, HTB.out, decide_eq_true hz, decide_eq_true hp0]; rfl
          clear hz
          have d1 : decide (0 < ls) = true := by first | exact decide_eq_true hp0 | exact decide_eq_false hp0
          go_wp2_with (go_at_call 84; refine CA.out.mono ?_; rintro e w2 ⟨rfl, hb2⟩; obtain ⟨o2, b2⟩ := HBW.out w2 hb2)
          go_roundw
          case rel => exact ⟨k + 1, by omega, by go_num, HRX.out, by rw [HB.out]; exact o2, b2⟩
          case measure => simp [intOf]; omega
        · have HB : Hid (bordL rs (k + 1) = turnL (bordL rs k) F Lk) := by
            show _ = _
            rw [HBL.out, HTB.out, decide_eq_true hz, decide_eq_false hp0]; rfl
          clear hz
          have d1 : decide (0 < ls) = false := by first | exact decide_eq_true hp0 | exact decide_eq_false hp0
          go_wp2_with (first | (go_at_call 84; refine CA.out.mono ?_; rintro e w2 ⟨rfl, hb2⟩) | (go_at_call 98; refine (CT.out w2 hb2).mono ?_; rintro e w3 ⟨rfl, o3, b3⟩))
          go_roundw
          case rel => exact ⟨k + 1, by omega, by go_num, HRX.out, by rw [HB.out]; exact o3, b3⟩
          case measure => simp [intOf]; omega
      · have z1 : ((k : Int) == 0) = false := beq_eq_false_iff_ne.2 (by omega)
        by_cases hp0 : 0 < ls
        · have HB : Hid (bordL rs (k + 1) = turnL (bordL rs k) F Lk) := by
            show _ = _
            rw [HBL.out, HTB.out, decide_eq_false hz, decide_eq_true hp0]; rfl
          clear hz
          have d1 : decide (0 < ls) = true := by first | exact decide_eq_true hp0 | exact decide_eq_false hp0
          go_wp2_with (first | (go_at_call 84; refine CA.out.mono ?_; rintro e w2 ⟨rfl, hb2⟩) | (go_at_call 98; refine (CT.out w2 hb2).mono ?_; rintro e w3 ⟨rfl, o3, b3⟩))
          go_roundw
          case rel => exact ⟨k + 1, by omega, by go_num, HRX.out, by rw [HB.out]; exact o3, b3⟩
          case measure => simp [intOf]; omega
        · have HB : Hid (bordL rs (k + 1) = bordL rs k) := by
            show _ = _
            rw [HBL.out, HTB.out, decide_eq_false hz, decide_eq_false hp0]; rfl
          clear hz
          have d1 : decide (0 < ls) = false := by first | exact decide_eq_true hp0 | exact decide_eq_false hp0
          go_wp2_with (go_at_call 84; refine CA.out.mono ?_; rintro e w2 ⟨rfl, hb2⟩; obtain ⟨o2, b2⟩ := HBW.out w2 hb2)
          go_roundw
          case rel => exact ⟨k + 1, by omega, by go_num, HRX.out, by rw [HB.out]; exact o2, b2⟩
          case measure => simp [intOf]; omega
    · have : k = rs.length := by omega
      subst this
      go_wp2
      go_ret
      exact ⟨g, c, rfl, hown, hbr⟩
end Go.Proofs.Ytdkaoopkbhaheaa
