/- The document's Area. -/
import Derived.Test.YtdkaoopkbhaheaaB5
namespace Go.Proofs.Ytdkaoopkbhaheaa
open Go.RowKit
set_option linter.unusedVariables false
set_option linter.unusedSimpArgs false

theorem Pts.later {w1 w2 : World} {a : Option Addr} {n : Nat} {ps : Nat → Int × Int} (hb : Below w1.heap.size w1 w2) (h : Pts w1 a n ps) : Pts w2 a n ps := by
  rcases h with h | ⟨b, off, e, hc⟩
  · exact .inl h
  · exact .inr ⟨b, off, e, fun i hi => ⟨cell_later hb (hc i hi).1, cell_later hb (hc i hi).2⟩⟩

/-- Rings one behind another in memory. -/
def Rings (w : World) (a : Option Addr) (n : Nat) (A : Nat → Option Addr) (L C : Nat → Nat) (P : Nat → Nat → Int × Int) : Prop :=
  n = 0 ∨ ∃ b off, a = some ⟨b, off, none⟩ ∧ ∀ k, k < n → w.cell? ⟨b, off + k, none⟩ = some (.slice (A k) (L k) (C k)) ∧ Pts w (A k) (L k) (P k)
theorem Rings.later {w1 w2 : World} {a : Option Addr} {n : Nat} {A : Nat → Option Addr} {L C : Nat → Nat} {P : Nat → Nat → Int × Int} (hb : Below w1.heap.size w1 w2) (h : Rings w1 a n A L C P) : Rings w2 a n A L C P := by
  rcases h with h | ⟨b, off, e, hc⟩
  · exact .inl h
  · exact .inr ⟨b, off, e, fun i hi => ⟨cell_later hb (hc i hi).1, Pts.later hb (hc i hi).2⟩⟩

/-- Twice the area of a ring behind i edges, below nought if it goes round to the right, as the machine sums it. -/
def rsum (L : Nat) (P : Nat → Int × Int) : Nat → Int
  | 0 => 0
  | i + 1 => wrap64 (wrap64 (rsum L P i + wrap64 ((P i).1 * (P ((i + 1) % L)).2)) - wrap64 ((P i).2 * (P ((i + 1) % L)).1))
def rabs (a : Int) : Int := if a < 0 then wrap64 (-a) else a
def asum (L : Nat → Nat) (P : Nat → Nat → Int × Int) : Nat → Int
  | 0 => 0
  | k + 1 => wrap64 (asum L P k + if 0 < k then wrap64 (-(rabs (rsum (L k) (P k) (L k)))) else rabs (rsum (L k) (P k) (L k)))

set_option maxRecDepth 100000 in
set_option maxHeartbeats 4000000 in
theorem refArea_any (a : Option Addr) (n cap : Nat) (A : Nat → Option Addr) (L C : Nat → Nat) (P : Nat → Nat → Int × Int) (w : World) (hn : n ≤ maxLen) (hL : ∀ k, k < n → L k ≤ maxLen) (hp : Rings w a n A L C P) :
    Calls Try.prog 26 #[.slice a n cap] w fun e w' => e = .returned (.int .i64 (asum L P n)) ∧ Below w.heap.size w w' := by
  unfold maxLen at hn hL
  go_enter Try.func26, Try.ntmps26
  go_wp2
  go_loopw [3, 4, 5, 6, 7, 8] (fun t i _ _ _ _ wr => ∃ k : Nat, k ≤ n ∧ i = .int .i64 k ∧ t = .int .i64 (asum L P k) ∧ Below w.heap.size w wr) (fun _ i _ _ _ _ _ => n - (intOf i).toNat)
  case atStart => exact ⟨0, Nat.zero_le _, rfl, rfl, Below.refl _ _⟩
  case round =>
    obtain ⟨k, hk, rfl, rfl, hb⟩ := hrel
    by_cases hlt : k < n
    · rcases hp with h0 | ⟨b, off, rfl, hcell⟩
      · omega
      obtain ⟨hc0, hpk⟩ := hcell k hlt
      have hLk := hL k hlt
      have hk0 : (0 : Int) ≤ (k : Int) := by omega
      have hkn : (k : Int) < (n : Int) := by omega
      generalize hLL : L k = l at *
      generalize hAA : A k = ak at *
      generalize hCC : C k = ck at *
      generalize hPP : P k = pk at *
      have HN : Hid (L k = l ∧ P k = pk) := ⟨hLL, hPP⟩
      clear hLL hAA hCC hPP
      have hc1 := cell_later hb hc0
      go_wp2
      go_loopw [5, 6, 7, 8] (fun s j _ _ wq => ∃ i : Nat, i ≤ l ∧ j = .int .i64 i ∧ s = .int .i64 (rsum l pk i) ∧ Below w.heap.size w wq) (fun _ j _ _ _ => l - (intOf j).toNat)
      case atStart => exact ⟨0, Nat.zero_le _, rfl, rfl, hb⟩
      case round =>
        clear hc1
        obtain ⟨i, hi, rfl, rfl, hbq⟩ := hrel
        have hc1 := cell_later hbq hc0
        by_cases hil : i < l
        · rcases hpk with h0 | ⟨b', off', rfl, hps⟩
          · omega
          have hj : (i + 1) % l < l := Nat.mod_lt _ (by omega)
          have ts : Hid (rsum l pk (i + 1) = wrap64 (wrap64 (rsum l pk i + wrap64 ((pk i).1 * (pk ((i + 1) % l)).2)) - wrap64 ((pk i).2 * (pk ((i + 1) % l)).1))) := rfl
          have c1 := cell_later hbq (hps i hil).1
          have c2 := cell_later hbq (hps i hil).2
          have c3 := cell_later hbq (hps _ hj).1
          have c4 := cell_later hbq (hps _ hj).2
          have hmod : ((i : Int) + 1).tmod (l : Int) = (((i + 1) % l : Nat) : Int) := by
            rw [Int.tmod_eq_emod_of_nonneg (by omega), Int.natCast_emod]; rfl
          have hw1 : IntKind.i64.wrap ((i : Int) + 1) = (i : Int) + 1 := by rw [wrap_i64]; exact wrap64_in _ (by omega) (by omega)
          generalize (i + 1) % l = j at *
          generalize (pk i).1 = x1 at *
          generalize (pk i).2 = y1 at *
          generalize (pk j).1 = x2 at *
          generalize (pk j).2 = y2 at *
          have hi0 : (0 : Int) ≤ (i : Int) := by omega
          have hil' : (i : Int) < (l : Int) := by omega
          have hj0 : (0 : Int) ≤ (j : Int) := by omega
          have hjn : (j : Int) < (l : Int) := by omega
          have hl0 : ¬ l = 0 := by omega
          have hl1 : ((l : Int) == 0) = false := by simp; omega
          have e1 := World.new_ne _ _ hc1
          have e3 := World.new_ne _ _ c3
          have e4 := World.new_ne _ _ c4
          go_wp2
          go_region_held3 (fun w' => w'.cell? ⟨b, off + k, none⟩ = some (.slice (some ⟨b', off', none⟩) l ck) ∧ w'.cell? ⟨b', off' + j * 2, none⟩ = some (.int .i64 x2) ∧ w'.cell? ⟨b', off' + j * 2 + 1, none⟩ = some (.int .i64 y2)) (go_keep) (fail)
          go_split_ands
          go_wp2
          go_roundw
          case rel => exact ⟨i + 1, by omega, by go_num, by rw [ts.out], ((hbq.alloc hbq.size _).alloc (Nat.le_trans hbq.size (by simp)) _).drew⟩
          case measure => simp [intOf]; omega
        · have : i = l := by omega
          subst this
          have hsum : Hid (asum L P (k + 1) = wrap64 (asum L P k + if 0 < k then wrap64 (-(rabs (rsum i pk i))) else rabs (rsum i pk i))) := by rw [← HN.out.1, ← HN.out.2]; rfl
          by_cases hneg : rsum i pk i < 0 <;> by_cases hk1 : (0 : Int) < (k : Int)
          all_goals
            go_wp2
          all_goals
            refine ⟨⟨k + 1, by omega, by go_num, ?_, hbq⟩, by simp [intOf]; omega⟩
            have hk2 : (0 < k) = ((0 : Int) < (k : Int)) := propext (by omega)
            rw [hsum.out]
            simp only [rabs, hneg, hk2, hk1, reduceIte]
    · have : k = n := by omega
      subst this
      go_wp2
      go_ret
      exact ⟨rfl, hb⟩
end Go.Proofs.Ytdkaoopkbhaheaa
