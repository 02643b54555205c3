import Derived.Test.YtdkaoopkbhaheaaGreatQH3
set_option maxHeartbeats 8000000
namespace Go.Proofs.YtdkaoopkbhaheaaGreat
open Go.RowKit Go.Lib
open Jor
set_option linter.unusedVariables false
set_option linter.unusedSimpArgs false
structure LentFrom (W : World) (rs : List (List IP)) (X k : Nat) (v : Value) (R : Nat -> Nat) : Prop where
 x : W.heap[X]? = some (.cells #[.slice (some ⟨X + 1, 0, none⟩) (rs.length + 8) (rs.length + 8), v] 86)
 all : W.ownsRow (X + 1) 48 1 (.slice (some ⟨X + 1, 0, none⟩) (rs.length + 8) (rs.length + 8)) (rs.length + 8) (allL R rs rs.length)
 rings : W.ownsRow (X + 2) 48 1 v rs.length (ringL R rs rs.length)
 ring : ∀ j, k <= j -> j < rs.length -> W.ownsRow (X + 2) 47 2 (.slice (some ⟨R j, 0, none⟩) ((rg rs j).length + 8) ((rg rs j).length + 8)) ((rg rs j).length + 8) (cells2 (full (rg rs j)))
 inj : ∀ i j, i < j -> j < rs.length -> R i ≠ R j
theorem LentAt.from {W : World} {rs : List (List IP)} {X : Nat} {v : Value} {R : Nat -> Nat} (h : LentAt W rs X rs.length v R) : LentFrom W rs X 0 v R := ⟨h.x, h.all, h.rings, fun j _ hj => h.ring j hj, h.inj⟩
theorem LentFrom.lt {W : World} {rs : List (List IP)} {X k : Nat} {v : Value} {R : Nat -> Nat} (h : LentFrom W rs X k v R) : X + 1 < W.heap.size := (h.all.lt (X + 1) rfl).2
theorem LentFrom.kept {W W' : World} {rs : List (List IP)} {X k : Nat} {v : Value} {R : Nat -> Nat} (h : LentFrom W rs X k v R) (hg : W.grownBy W' none) : LentFrom W' rs X k v R where
 x := (hg.block X (by have := h.lt; omega) (by simp)).trans h.x
 all := h.all.kept hg (.inr (by simp [Value.ownBlock]))
 rings := by
  cases hv : v.ownBlock with
  | none => exact h.rings.kept hg (.inl hv)
  | some g => exact h.rings.kept hg (.inr (by rw [hv]; simp))
 ring := fun j h1 hj => (h.ring j h1 hj).kept hg (.inr (by simp [Value.ownBlock]))
 inj := h.inj
theorem LentFrom.later {W W' : World} {rs : List (List IP)} {X k : Nat} {v : Value} {R : Nat -> Nat} (h : LentFrom W rs X k v R) (hb : Below W.heap.size W W') : LentFrom W' rs X k v R := h.kept ⟨hb.os, hb.tape, hb.output, hb.size, fun q hq _ => hb.block q hq⟩
theorem LentFrom.step {W W' : World} {rs : List (List IP)} {X k : Nat} {v : Value} {R : Nat -> Nat} (h : LentFrom W rs X k v R) (hk : k < rs.length) (hg : W.grownBy W' (some (R k))) : LentFrom W' rs X (k + 1) v R := by
 have hr := (h.ring k (Nat.le_refl _) hk).lt (R k) rfl
 refine ⟨(hg.block X (by have := h.lt; omega) (fun e => by cases e; omega)).trans h.x, h.all.kept hg (.inr fun e => ?_), ?_, fun j h1 hj => (h.ring j (by omega) hj).kept hg (.inr fun e => ?_), h.inj⟩
 ·have : X + 1 = R k := by simpa [Value.ownBlock] using e
  omega
 ·cases hv : v.ownBlock with
  | none => exact h.rings.kept hg (.inl hv)
  | some g => exact h.rings.kept hg (.inr fun e => rows_ne h.rings (h.ring k (Nat.le_refl _) hk) (by decide) (q := R k) (by rw [e]) rfl)
 ·have : R j = R k := by simpa [Value.ownBlock] using e
  exact h.inj k j (by omega) hj this.symm
theorem rings_shape {W : World} {rs : List (List IP)} {X k : Nat} {v : Value} {R : Nat -> Nat} (h : LentFrom W rs X k v R) (hn : 0 < rs.length) : ∃ g c, v = .slice (some ⟨g, 0, none⟩) rs.length c /\ ∀ j, j < rs.length -> W.cell? ⟨g, j, none⟩ = some (rv R rs j) := by
 obtain ⟨g, c, rfl, _, _⟩ := h.rings.form hn
 refine ⟨g, c, rfl, fun j hj => ?_⟩
 rw [h.rings.cellAt j (by omega)]
 simp [ringL, hj]
def over5 (r : List IP) (i : Nat) : List IP := List.replicate i (5, 5) ++ (full r).drop i
theorem over5_zero (r : List IP) : over5 r 0 = full r := by simp [over5]
theorem over5_length (r : List IP) (i : Nat) (h : i <= r.length + 8) : (over5 r i).length = r.length + 8 := by simp [over5, full_length]; omega
theorem over5_get (r : List IP) (i : Nat) (h : i < r.length + 8) : pt (over5 r i) i = pt (full r) i := by
 unfold over5 pt
 rw [getD_app_r _ _ _ _ (by simp), List.length_replicate, Nat.sub_self, List.getD_eq_getElem?_getD, List.getElem?_drop, Nat.add_zero, List.getD_eq_getElem?_getD]
theorem over5_set (r : List IP) (i : Nat) (h : i < r.length + 8) : (over5 r i).set i (5, 5) = over5 r (i + 1) := by
 unfold over5
 rw [List.set_append_right _ _ (by simp), List.length_replicate, Nat.sub_self, List.replicate_succ', List.append_assoc]
 congr 1
 rw [List.drop_eq_getElem_cons (by rw [full_length]; exact h), List.set_cons_zero]
 rfl
def KeptR (n : Nat) (R : Nat -> Nat) (w w' : World) : Prop := w.heap.size <= w'.heap.size /\ ∀ q, q < w.heap.size -> (∀ k, k < n -> q ≠ R k) -> w'.heap[q]? = w.heap[q]?
theorem KeptR.refl (n : Nat) (R : Nat -> Nat) (w : World) : KeptR n R w w := ⟨Nat.le_refl _, fun _ _ _ => rfl⟩
theorem KeptR.below {n : Nat} {R : Nat -> Nat} {w w1 w2 : World} (h : KeptR n R w w1) (hb : Below w1.heap.size w1 w2) : KeptR n R w w2 := ⟨Nat.le_trans h.1 hb.size, fun q hq hn => (hb.block q (Nat.lt_of_lt_of_le hq h.1)).trans (h.2 q hq hn)⟩
theorem KeptR.ring {n : Nat} {R : Nat -> Nat} {w w1 w2 : World} {k : Nat} (h : KeptR n R w w1) (hk : k < n) (hg : w1.grownBy w2 (some (R k))) : KeptR n R w w2 := ⟨Nat.le_trans h.1 hg.size, fun q hq hn => (hg.block q (Nat.lt_of_lt_of_le hq h.1) (fun e => hn k hk (by cases e; rfl))).trans (h.2 q hq hn)⟩
set_option maxRecDepth 100000 in
theorem still_any (a : Option Addr) (cap : Nat) (A : Nat -> Option Addr) (C : Nat -> Nat) (rs : List (List IP)) (w0 w : World) (v : Value) (R : Nat -> Nat) (hn : rs.length <= 1048576) (hp : RingsL w0 a A C rs) (hsz : (verts rs).length <= 1048576) (hL : LentFrom w rs w0.heap.size 0 v R) (hb0 : Below w0.heap.size w0 w) :
  Calls Tryz.prog 18 #[.pointer (some ⟨w0.heap.size, 0, none⟩), .slice a rs.length cap] w fun e w' => e = .returned (.bool true) /\ Below w0.heap.size w0 w' /\ KeptR rs.length R w w' := by
 go_enter Tryz.func18, Tryz.ntmps18
 go_wp2
 go_loopw [5, 6, 7, 8, 9, 10, 11] (fun ok x _ _ _ _ _ wr => ∃ k : Nat, k <= rs.length + 8 /\ x = .int .i64 k /\ ok = .bool true /\ LentFrom wr rs w0.heap.size k v R /\ Below w0.heap.size w0 wr /\ KeptR rs.length R w wr) (fun _ x _ _ _ _ _ _ => rs.length + 8 - (intOf x).toNat)
 case atStart => exact ⟨0, Nat.zero_le _, rfl, rfl, hL, hb0, KeptR.refl _ _ _⟩
 case round =>
  clear hL hb0
  obtain ⟨k, hk, rfl, rfl, hL, hb, hkr⟩ := hrel
  have HKR : Hid (KeptR rs.length R w wr) := hkr
  clear hkr
  obtain ⟨Wk, hWk⟩ : ∃ Wk, Wk = wr := ⟨_, rfl⟩
  subst hWk
  have x0 : Wk.cell? ⟨w0.heap.size, 0, none⟩ = some (.slice (some ⟨w0.heap.size + 1, 0, none⟩) (rs.length + 8) (rs.length + 8)) := by simp [World.cell?, hL.x]
  have hk0 : (0 : Int) <= (k : Int) := by omega
  by_cases hlt8 : k < rs.length + 8
  ·have hk8 : (k : Int) < (rs.length : Int) + 8 := by omega
   have hk9 : (k : Int) < ((rs.length + 8 : Nat) : Int) := by omega
   by_cases hge : rs.length <= k
   ·have hgI : (rs.length : Int) <= (k : Int) := by omega
    have ck : Wk.cell? ⟨w0.heap.size + 1, k, none⟩ = some (.slice none 0 0) := by
     rw [hL.all.cellAt k (by omega)]
     unfold allL
     rw [List.getElem?_append_right (by rw [ringL_length]; omega), ringL_length, List.getElem?_replicate, if_pos (by omega)]
    have HLk : Hid (LentFrom Wk rs w0.heap.size (k + 1) v R) := ⟨hL.x, hL.all, hL.rings, fun j h1 hj => absurd hj (by omega), hL.inj⟩
    clear hL
    go_wp2
    go_roundw
    case rel => exact ⟨k + 1, by omega, by go_num, rfl, HLk.out, hb, HKR.out⟩
    case measure => simp [intOf]; omega
   ·have hlt : k < rs.length := by omega
    have hnI : ¬ (rs.length : Int) <= (k : Int) := by omega
    have hkn : (k : Int) < (rs.length : Int) := by omega
    rcases hp with h0 | ⟨b, of, rfl, hcell⟩
    ·omega
    obtain ⟨hc0, hpk⟩ := hcell k hlt
    have hc0' : w0.cell? ⟨b, of + k, none⟩ = some (.slice (A k) (rg rs k).length (C k)) := hc0
    have HPK : Hid (Pts w0 (A k) (rg rs k).length (pt (rg rs k))) := hpk
    have hc1 := cell_later hb hc0'
    have hlen : (rg rs k).length <= 1048576 := by have := rg_le rs k; omega
    have ck : Wk.cell? ⟨w0.heap.size + 1, k, none⟩ = some (.slice (some ⟨R k, 0, none⟩) (rg rs k).length ((rg rs k).length + 8)) := by
     rw [hL.all.cellAt k (by omega), allL_get R rs rs.length k hlt]; rfl
    have HLk : Hid (LentFrom Wk rs w0.heap.size k v R) := hL
    obtain ⟨g, c, rfl, hv⟩ := rings_shape hL (by omega)
    have vk : Wk.cell? ⟨g, k, none⟩ = some (.slice (some ⟨R k, 0, none⟩) (rg rs k).length ((rg rs k).length + 8)) := hv k hlt
    have x1 : Wk.cell? ⟨w0.heap.size, 1, none⟩ = some (.slice (some ⟨g, 0, none⟩) rs.length c) := by simp [World.cell?, hL.x]
    have hr := hL.ring k (Nat.le_refl _) hlt
    clear hcell hpk hc0 hL hv
    have HC0 : Hid (w0.cell? ⟨b, of + k, none⟩ = some (.slice (A k) (rg rs k).length (C k))) := hc0'
    have RC : Hid (∀ i, i < (rg rs k).length -> Wk.cell? ⟨R k, i * 2, none⟩ = some (.int .i64 (pt (rg rs k) i).1) /\ Wk.cell? ⟨R k, i * 2 + 1, none⟩ = some (.int .i64 (pt (rg rs k) i).2)) := fun i hi => by
     have g1 := cells2_get (full (rg rs k)) i (by rw [full_length]; omega)
     rw [full_low hi] at g1
     exact ⟨(hr.cellAt (i * 2) (by omega)).trans g1.1, (hr.cellAt (i * 2 + 1) (by omega)).trans g1.2⟩
    have AC : Hid (∀ i, i < (rg rs k).length -> ∃ bk ok, A k = some ⟨bk, ok, none⟩ /\ w0.cell? ⟨bk, ok + i * 2, none⟩ = some (.int .i64 (pt (rg rs k) i).1) /\ w0.cell? ⟨bk, ok + i * 2 + 1, none⟩ = some (.int .i64 (pt (rg rs k) i).2)) := fun i hi => by
     rcases HPK.out with h | ⟨bk, ok, e, hh⟩
     ·omega
     ·exact ⟨bk, ok, e, (hh i hi).1, (hh i hi).2⟩
    have HR : Hid (Wk.ownsRow (w0.heap.size + 2) 47 2 (.slice (some ⟨R k, 0, none⟩) ((rg rs k).length + 8) ((rg rs k).length + 8)) ((rg rs k).length + 8) (cells2 (full (rg rs k)))) := hr
    have hRk := (hr.lt (R k) rfl)
    clear hr hc0'
    go_wp2
    go_loopw [5, 8] (fun ok x wq => ∃ i : Nat, i <= (rg rs k).length /\ x = .int .i64 i /\ ok = .bool true /\ Below Wk.heap.size Wk wq) (fun _ x _ => (rg rs k).length - (intOf x).toNat)
    case atStart => exact ⟨0, Nat.zero_le _, rfl, rfl, Below.refl _ _⟩
    case round =>
     obtain ⟨i, hi, rfl, rfl, hbq⟩ := hrel
     by_cases hil : i < (rg rs k).length
     ·obtain ⟨bk, ok, hA, p0, p1⟩ := AC.out i hil
      have q0 := cell_later (below_then hb hbq) p0
      have q1 := cell_later (below_then hb hbq) p1
      have r0 := cell_later hbq (RC.out i hil).1
      have r1 := cell_later hbq (RC.out i hil).2
      have y0 := cell_later hbq x0
      have y1 := cell_later hbq ck
      have y2 := cell_later hbq hc1
      rw [hA] at y2
      clear hA p0 p1
      have hi0 : (0 : Int) <= (i : Int) := by omega
      have hin : (i : Int) < ((rg rs k).length : Int) := by omega
      generalize (pt (rg rs k) i).1 = px at *
      generalize (pt (rg rs k) i).2 = py at *
      generalize hlk : (rg rs k).length = lk at *
      go_wp2_with fail
      refine wp_region_cls (R := Below wr.heap.size wr) (by kernel_rfl) (by kernel_rfl) (Below.refl _ _).drew ?_
      have inst : Nonempty (Cls (Below wr.heap.size wr)) := ⟨⟨wr, Below.refl _ _⟩⟩
      have g1 := fun x => Cls.cell (W := wr) x q0
      have g2 := fun x => Cls.cell (W := wr) x q1
      have g3 := fun x => Cls.cell (W := wr) x r0
      have g4 := fun x => Cls.cell (W := wr) x r1
      have g5 := fun x => Cls.cell (W := wr) x y0
      have g6 := fun x => Cls.cell (W := wr) x y1
      have g7 := fun x => Cls.cell (W := wr) x y2
      repeat (first | go_big_quiet_step ((go_at_call 28; exact Cls.calls _ (point_any _ _ _))) | quiet_step ((go_at_call 28; exact Cls.calls _ (point_any _ _ _))))
      refine wpQuiet_nil ?_
      intro w4 hw'
      obtain ⟨x, hx⟩ := hw'
      have hb4 := x.ok
      rw [<- hx] at hb4
      clear hx x g1 g2 g3 g4 g5 g6 g7 inst q0 q1 r0 r1 y0 y1 y2
      have hb5 := below_then hbq hb4
      go_wp2
      go_roundw
      case rel => exact ⟨i + 1, by omega, by go_num, by simp, hb5⟩
      case measure => simp [intOf]; omega
     ·have : i = (rg rs k).length := by omega
      subst this
      have x1' := cell_later hbq x1
      have vk' := cell_later hbq vk
      have gq : Wk.grownBy wr none := ⟨hbq.os, hbq.tape, hbq.output, hbq.size, fun q hq _ => hbq.block q hq⟩
      have hR2 := HR.out.kept gq (.inr (by simp [Value.ownBlock]))
      have HLq : Hid (LentFrom wr rs w0.heap.size k (.slice (some ⟨g, 0, none⟩) rs.length c) R) := HLk.out.kept gq
      have hbW := below_then hb hbq
      obtain ⟨Wq, hWq⟩ : ∃ Wq, Wq = wr := ⟨_, rfl⟩
      subst hWq
      have hll : (((rg rs k).length : Int) + 8) <= (((rg rs k).length + 8 : Nat) : Int) := by omega
      have hl0 : (0 : Int) <= ((rg rs k).length : Int) + 8 := by omega
      have hng : ¬ (((rg rs k).length : Int) + 8 < 0) := by omega
      go_wp2
      go_loopw [5, 10, 11] (fun ok x _ wq => ∃ i : Nat, i <= (rg rs k).length + 8 /\ x = .int .i64 i /\ ok = .bool true /\ wq.ownsRow (w0.heap.size + 2) 47 2 (.slice (some ⟨R k, 0, none⟩) ((rg rs k).length + 8) ((rg rs k).length + 8)) ((rg rs k).length + 8) (cells2 (over5 (rg rs k) i)) /\ Wq.grownBy wq (some (R k)) /\ Below w0.heap.size w0 wq) (fun _ x _ _ => (rg rs k).length + 8 - (intOf x).toNat)
      case atStart => exact ⟨0, Nat.zero_le _, rfl, rfl, by rw [over5_zero]; exact hR2, ⟨rfl, rfl, rfl, Nat.le_refl _, fun _ _ _ => rfl⟩, hbW⟩
      case round =>
       obtain ⟨i, hi, rfl, rfl, hown, hgr, hbr⟩ := hrel
       clear hR2 x1' vk'
       by_cases hil : i < (rg rs k).length + 8
       ·have hi0 : (0 : Int) <= (i : Int) := by omega
        have hin : (i : Int) < ((rg rs k).length : Int) + 8 := by omega
        have hin2 : (i : Int) < (((rg rs k).length + 8 : Nat) : Int) := by omega
        have hltr := (hown.lt (R k) rfl).2
        have g1 := cells2_get (over5 (rg rs k) i) i (by rw [over5_length _ _ (by omega)]; omega)
        rw [over5_get _ _ hil] at g1
        by_cases hlow : i < (rg rs k).length
        ·have hlow2 : (i : Int) < ((rg rs k).length : Int) := by omega
         rw [full_low hlow] at g1
         obtain ⟨bk, ok, hA, p0, p1⟩ := AC.out i hlow
         have bA : Below wr.heap.size wr (wr.alloc (.cells #[.int .i64 77, .int .i64 (i : Int)] 47)) := (Below.refl _ _).alloc (Nat.le_refl _) _
         have b0A := below_then hbr bA
         have q0 := cell_later b0A p0
         have q1 := cell_later b0A p1
         have y2 := cell_later b0A HC0.out
         rw [hA] at y2
         have s0 : (wr.alloc (.cells #[.int .i64 77, .int .i64 (i : Int)] 47)).cell? ⟨wr.heap.size, 0, none⟩ = some (.int .i64 77) := by simp [go_sem]
         have s1 : (wr.alloc (.cells #[.int .i64 77, .int .i64 (i : Int)] 47)).cell? ⟨wr.heap.size, 1, none⟩ = some (.int .i64 (i : Int)) := by simp [go_sem]
         have e0 : (wr.alloc (.cells #[.int .i64 77, .int .i64 (i : Int)] 47)).frozen? ⟨wr.heap.size, 0, none⟩ = false := by simp [go_sem]
         have e1 : (wr.alloc (.cells #[.int .i64 77, .int .i64 (i : Int)] 47)).frozen? ⟨wr.heap.size, 1, none⟩ = false := by simp [go_sem]
         have rz0 := (hown.cellAt (i * 2) (by omega)).trans g1.1
         have rz1 := (hown.cellAt (i * 2 + 1) (by omega)).trans g1.2
         clear hA p0 p1 g1
         generalize (pt (rg rs k) i).1 = px at *
         generalize (pt (rg rs k) i).2 = py at *
         go_wp2_with (go_at_call 28; refine (point_any _ _ _).mono ?_; rintro e w3 ⟨rfl, hb3⟩; have s0' := cell_later hb3 s0; have s1' := cell_later hb3 s1; have e0' := ((old_reads hb3).2 wr.heap.size 0 (by simp)).trans e0; have e1' := ((old_reads hb3).2 wr.heap.size 1 (by simp)).trans e1)
         have b3 := below_then bA hb3
         have o3 := hown.kept (w' := w3) ⟨b3.os, b3.tape, b3.output, b3.size, fun q hq _ => b3.block q hq⟩ (row := none) (.inr (by simp [Value.ownBlock]))
         have hw3 : wr.heap.size < w3.heap.size := World.block_lt_of_cell? _ _ s0'
         have m1 : w3.grownBy ((w3.setCell ⟨wr.heap.size, 0, none⟩ (.int .i64 px)).setCell ⟨wr.heap.size, 1, none⟩ (.int .i64 py)) (some wr.heap.size) := ⟨rfl, rfl, rfl, by simp, fun q hq hne => ((grown_set _ wr.heap.size 1 (.int .i64 py)).block q (by simpa using hq) hne).trans ((grown_set w3 wr.heap.size 0 (.int .i64 px)).block q hq hne)⟩
         have oz := o3.kept m1 (.inr (by simp [Value.ownBlock]; omega))
         have z0 := (World.cell?_of_block (a := ⟨R k, i * 2, none⟩) (m1.block (R k) (by omega) (by simp; omega))).trans ((b3.cell (p := ⟨R k, i * 2, none⟩) hltr).trans rz0)
         have z1 := (World.cell?_of_block (a := ⟨R k, i * 2 + 1, none⟩) (m1.block (R k) (by omega) (by simp; omega))).trans ((b3.cell (p := ⟨R k, i * 2 + 1, none⟩) hltr).trans rz1)
         have t0 : ((w3.setCell ⟨wr.heap.size, 0, none⟩ (.int .i64 px)).setCell ⟨wr.heap.size, 1, none⟩ (.int .i64 py)).cell? ⟨wr.heap.size, 0, none⟩ = some (.int .i64 px) := by
          have hh : w3.heap[wr.heap.size]? = some (.cells #[.int .i64 77, .int .i64 (i : Int)] 47) := (hb3.block wr.heap.size (by simp)).trans (heap_alloc_new wr _)
          have h1 := heap_setCell_same w3 wr.heap.size 0 _ _ (.int .i64 px) hh
          have h2 := heap_setCell_same _ wr.heap.size 1 _ _ (.int .i64 py) h1
          simp [World.cell?, h2]
         have t1 : ((w3.setCell ⟨wr.heap.size, 0, none⟩ (.int .i64 px)).setCell ⟨wr.heap.size, 1, none⟩ (.int .i64 py)).cell? ⟨wr.heap.size, 1, none⟩ = some (.int .i64 py) := by
          have hh : w3.heap[wr.heap.size]? = some (.cells #[.int .i64 77, .int .i64 (i : Int)] 47) := (hb3.block wr.heap.size (by simp)).trans (heap_alloc_new wr _)
          have h1 := heap_setCell_same w3 wr.heap.size 0 _ _ (.int .i64 px) hh
          have h2 := heap_setCell_same _ wr.heap.size 1 _ _ (.int .i64 py) h1
          simp [World.cell?, h2]
         have zf0 := oz.frozenAt (i * 2)
         have zf1 := oz.frozenAt (i * 2 + 1)
         have hltz := (oz.lt (R k) rfl).2
         have gz : Wq.grownBy ((w3.setCell ⟨wr.heap.size, 0, none⟩ (.int .i64 px)).setCell ⟨wr.heap.size, 1, none⟩ (.int .i64 py)) (some (R k)) := ⟨b3.os.trans hgr.os, b3.tape.trans hgr.tape, b3.output.trans hgr.output, Nat.le_trans hgr.size (Nat.le_trans b3.size m1.size), fun q hq hne => ((m1.block q (Nat.lt_of_lt_of_le hq (Nat.le_trans hgr.size b3.size)) (fun e => by cases e; have := hgr.size; omega)).trans (b3.block q (Nat.lt_of_lt_of_le hq hgr.size))).trans (hgr.block q hq hne)⟩
         clear hown hgr hbr bA b0A q0 q1 y2 s0 s1 e0 e1 rz0 rz1 b3 o3 hw3 m1 s0' s1' e0' e1' hb3
         generalize (w3.setCell ⟨wr.heap.size, 0, none⟩ (.int .i64 px)).setCell ⟨wr.heap.size, 1, none⟩ (.int .i64 py) = Wz at *
         refine wp_region_cls (R := Below Wz.heap.size Wz) (by kernel_rfl) (by kernel_rfl) (Below.refl _ _).drew ?_
         have inst : Nonempty (Cls (Below Wz.heap.size Wz)) := ⟨⟨Wz, Below.refl _ _⟩⟩
         have g1 := fun x => Cls.cell (W := Wz) x z0
         have g2 := fun x => Cls.cell (W := Wz) x z1
         have g3 := fun x => Cls.cell (W := Wz) x t0
         have g4 := fun x => Cls.cell (W := Wz) x t1
         repeat (first | go_big_quiet_step (fail) | quiet_step (fail))
         refine wpQuiet_nil ?_
         intro w4 hw'
         obtain ⟨x, hx⟩ := hw'
         have hb4 := x.ok
         rw [<- hx] at hb4
         clear hx x g1 g2 g3 g4 inst
         have c0' := cell_later hb4 z0
         have c1' := cell_later hb4 z1
         have f0' := ((old_reads hb4).2 (R k) (i * 2) hltz).trans zf0
         have f1' := ((old_reads hb4).2 (R k) (i * 2 + 1) hltz).trans zf1
         have oz4 := oz.kept ⟨hb4.os, hb4.tape, hb4.output, hb4.size, fun q hq _ => hb4.block q hq⟩ (row := none) (.inr (by simp [Value.ownBlock]))
         obtain ⟨o5, s5⟩ := oz4.stored (i * 2) (.int .i64 5)
         obtain ⟨o6, s6⟩ := o5.stored (i * 2 + 1) (.int .i64 5)
         rw [cells2_set _ (5, 5) i (by rw [over5_length _ _ (by omega)]; omega), over5_set _ _ hil] at o6
         have gz4 : Wq.grownBy w4 (some (R k)) := ⟨hb4.os.trans gz.os, hb4.tape.trans gz.tape, hb4.output.trans gz.output, Nat.le_trans gz.size hb4.size, fun q hq hne => (hb4.block q (Nat.lt_of_lt_of_le hq gz.size)).trans (gz.block q hq hne)⟩
         have gz6 : Wq.grownBy ((w4.setCell ⟨R k, i * 2, none⟩ (.int .i64 5)).setCell ⟨R k, i * 2 + 1, none⟩ (.int .i64 5)) (some (R k)) := ⟨gz4.os, gz4.tape, gz4.output, by have := gz4.size; simpa using this, fun q hq hne => ((s6.block q (by have := gz4.size; simp; omega) hne).trans (s5.block q (by have := gz4.size; omega) hne)).trans (gz4.block q hq hne)⟩
         have bz6 : Below w0.heap.size w0 ((w4.setCell ⟨R k, i * 2, none⟩ (.int .i64 5)).setCell ⟨R k, i * 2 + 1, none⟩ (.int .i64 5)) := hbW.grown gz6 hbW.size (fun j e => by cases e; omega)
         clear z0 z1 t0 t1 zf0 zf1 oz oz4 o5 s5 s6 gz gz4
         go_wp2
         first | exact ⟨⟨i + 1, by omega, by go_num, rfl, o6, gz6, bz6⟩, by simp [intOf]; omega⟩ | (go_roundw; (case rel => exact ⟨i + 1, by omega, by go_num, rfl, o6, gz6, bz6⟩); (case measure => simp [intOf]; omega))
        ·have hlow2 : ¬ (i : Int) < ((rg rs k).length : Int) := by omega
         rw [full_high (by omega) hil] at g1
         obtain ⟨Wz, hWz⟩ : ∃ Wz, Wz = wr.alloc (.cells #[.int .i64 77, .int .i64 (i : Int)] 47) := ⟨_, rfl⟩
         have bz : Below wr.heap.size wr Wz := by rw [hWz]; exact (Below.refl _ _).alloc (Nat.le_refl _) _
         have t0 : Wz.cell? ⟨wr.heap.size, 0, none⟩ = some (.int .i64 77) := by rw [hWz]; simp [go_sem]
         have t1 : Wz.cell? ⟨wr.heap.size, 1, none⟩ = some (.int .i64 (i : Int)) := by rw [hWz]; simp [go_sem]
         have z0 : Wz.cell? ⟨R k, i * 2, none⟩ = some (.int .i64 77) := cell_later bz ((hown.cellAt (i * 2) (by omega)).trans g1.1)
         have z1 : Wz.cell? ⟨R k, i * 2 + 1, none⟩ = some (.int .i64 (i : Int)) := cell_later bz ((hown.cellAt (i * 2 + 1) (by omega)).trans g1.2)
         have oz := hown.kept (w' := Wz) ⟨bz.os, bz.tape, bz.output, bz.size, fun q hq _ => bz.block q hq⟩ (row := none) (.inr (by simp [Value.ownBlock]))
         have zf0 := oz.frozenAt (i * 2)
         have zf1 := oz.frozenAt (i * 2 + 1)
         have hltz := (oz.lt (R k) rfl).2
         have gz : Wq.grownBy Wz (some (R k)) := ⟨bz.os.trans hgr.os, bz.tape.trans hgr.tape, bz.output.trans hgr.output, Nat.le_trans hgr.size bz.size, fun q hq hne => (bz.block q (Nat.lt_of_lt_of_le hq hgr.size)).trans (hgr.block q hq hne)⟩
         clear g1 hown hgr hbr bz
         go_wp2_with fail
         rw [<- hWz]
         clear hWz
         refine wp_region_cls (R := Below Wz.heap.size Wz) (by kernel_rfl) (by kernel_rfl) (Below.refl _ _).drew ?_
         have inst : Nonempty (Cls (Below Wz.heap.size Wz)) := ⟨⟨Wz, Below.refl _ _⟩⟩
         have g1 := fun x => Cls.cell (W := Wz) x z0
         have g2 := fun x => Cls.cell (W := Wz) x z1
         have g3 := fun x => Cls.cell (W := Wz) x t0
         have g4 := fun x => Cls.cell (W := Wz) x t1
         repeat (first | go_big_quiet_step (fail) | quiet_step (fail))
         refine wpQuiet_nil ?_
         intro w4 hw'
         obtain ⟨x, hx⟩ := hw'
         have hb4 := x.ok
         rw [<- hx] at hb4
         clear hx x g1 g2 g3 g4 inst
         have c0' := cell_later hb4 z0
         have c1' := cell_later hb4 z1
         have f0' := ((old_reads hb4).2 (R k) (i * 2) hltz).trans zf0
         have f1' := ((old_reads hb4).2 (R k) (i * 2 + 1) hltz).trans zf1
         have oz4 := oz.kept ⟨hb4.os, hb4.tape, hb4.output, hb4.size, fun q hq _ => hb4.block q hq⟩ (row := none) (.inr (by simp [Value.ownBlock]))
         obtain ⟨o5, s5⟩ := oz4.stored (i * 2) (.int .i64 5)
         obtain ⟨o6, s6⟩ := o5.stored (i * 2 + 1) (.int .i64 5)
         rw [cells2_set _ (5, 5) i (by rw [over5_length _ _ (by omega)]; omega), over5_set _ _ hil] at o6
         have gz4 : Wq.grownBy w4 (some (R k)) := ⟨hb4.os.trans gz.os, hb4.tape.trans gz.tape, hb4.output.trans gz.output, Nat.le_trans gz.size hb4.size, fun q hq hne => (hb4.block q (Nat.lt_of_lt_of_le hq gz.size)).trans (gz.block q hq hne)⟩
         have gz6 : Wq.grownBy ((w4.setCell ⟨R k, i * 2, none⟩ (.int .i64 5)).setCell ⟨R k, i * 2 + 1, none⟩ (.int .i64 5)) (some (R k)) := ⟨gz4.os, gz4.tape, gz4.output, by have := gz4.size; simpa using this, fun q hq hne => ((s6.block q (by have := gz4.size; simp; omega) hne).trans (s5.block q (by have := gz4.size; omega) hne)).trans (gz4.block q hq hne)⟩
         have bz6 : Below w0.heap.size w0 ((w4.setCell ⟨R k, i * 2, none⟩ (.int .i64 5)).setCell ⟨R k, i * 2 + 1, none⟩ (.int .i64 5)) := hbW.grown gz6 hbW.size (fun j e => by cases e; omega)
         clear z0 z1 t0 t1 zf0 zf1 oz oz4 o5 s5 s6 gz gz4
         go_wp2
         first | exact ⟨⟨i + 1, by omega, by go_num, rfl, o6, gz6, bz6⟩, by simp [intOf]; omega⟩ | (go_roundw; (case rel => exact ⟨i + 1, by omega, by go_num, rfl, o6, gz6, bz6⟩); (case measure => simp [intOf]; omega))
       ·have : i = (rg rs k).length + 8 := by omega
        subst this
        have HS := HLq.out.step hlt hgr
        go_wp2
        go_roundw
        case rel => exact ⟨k + 1, by omega, by go_num, rfl, HS, hbr, (HKR.out.below hbq).ring hlt hgr⟩
        case measure => simp [intOf]; omega
  ·have : k = rs.length + 8 := by omega
   subst this
   go_wp2
   go_ret
   exact ⟨rfl, hb, HKR.out⟩
end Go.Proofs.YtdkaoopkbhaheaaGreat
