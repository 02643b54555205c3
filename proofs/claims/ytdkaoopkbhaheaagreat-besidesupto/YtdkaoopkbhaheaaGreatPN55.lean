import Derived.Test.YtdkaoopkbhaheaaGreatQN54
import Derived.Test.YtdkaoopkbhaheaaGreatQN48
import Derived.Test.YtdkaoopkbhaheaaGreatQN56
import Derived.Test.YtdkaoopkbhaheaaGreatPN22
set_option maxHeartbeats 8000000
namespace Go.Proofs.YtdkaoopkbhaheaaGreat
open Go.RowKit Go.Lib
open Jor
open scoped Classical
set_option linter.unusedVariables false
set_option linter.unusedSimpArgs false
theorem MadeP.two {w w' : World} {own : Int} {a : Option Addr} {cap : Nat} {rs : List (List IP)} {e : Ending} (h : MadeP w own a cap rs e w') : ∃ p : Option Addr, e = .returned (.tuple #[.pointer p, .bool true]) /\ Below w.heap.size w w' := by
 rcases h with ⟨_, e, hb⟩ | ⟨_, x, T, F, bM, g, cg, bt, ct, lv, LS, W, e, _, _, _, hb⟩
 ·exact ⟨none, e, hb⟩
 ·exact ⟨some ⟨x, 0, none⟩, e, hb⟩
set_option maxRecDepth 100000 in
theorem meshes_walk (a : Option Addr) (cap : Nat) (A : Nat -> Option Addr) (C : Nat -> Nat) (rs : List (List IP)) (w : World) (hn : rs.length <= 1048576) (hsz : (verts rs).length <= 1048576) (hp : RingsL w a A C rs) :
  Calls Tryz.prog 3 #[.slice a rs.length cap] w fun e w' => e = .returned (.bool true) /\ Below w.heap.size w w' := by
 have HP : Hid (RingsL w a A C rs) := hp
 clear hp
 go_enter Tryz.func3, Tryz.ntmps3
 go_upto_region 2 with (first | (go_at_call 7; refine (known_any _).mono ?_; rintro e w1 ⟨rfl, hb1⟩))
 go_upto_region 3 with (first | (go_at_call 8; refine (made_any a cap A C rs _ _ hn hsz (Rings.later hb1 HP.out)).mono ?_; intro e w2 hm; obtain ⟨p, rfl, hb2⟩ := hm.two; clear hm))
 go_wp2
 go_ret
 exact ⟨rfl, below_then hb1 hb2⟩
end Go.Proofs.YtdkaoopkbhaheaaGreat
namespace Go.Proofs.YtdkaoopkbhaheaaGreat
open Go.RowKit Go.Lib
open Jor
open scoped Classical
set_option linter.unusedVariables false
set_option linter.unusedSimpArgs false
set_option maxRecDepth 100000 in
theorem besides_walk (a : Option Addr) (cap : Nat) (A : Nat -> Option Addr) (C : Nat -> Nat) (rs : List (List IP)) (na : Option Addr) (nl nc : Nat) (Z : Nat -> Int) (w : World) (hn : rs.length <= 1048576) (hsz : (verts rs).length <= 1048576) (hnl : nl <= 9223372036854775807) (hp : RingsL w a A C rs) (hz : Ints w na nl Z) :
  Calls Tryz.prog 4 #[.slice a rs.length cap, .slice na nl nc] w fun e w' => e = .returned (.bool true) /\ Below w.heap.size w w' := by
 have HP : Hid (RingsL w a A C rs) := hp
 have HZ : Hid (Ints w na nl Z) := hz
 clear hp hz
 go_enter Tryz.func4, Tryz.ntmps4
 go_upto_region 2 with (first | (go_at_call 7; refine (known_any _).mono ?_; rintro e w1 ⟨rfl, hb1⟩))
 have MA : Hid (Calls Tryz.prog 8 #[.slice a rs.length cap, .int .i64 0] w1 fun e w' => MadeP w1 0 a cap rs e w') := made_any a cap A C rs 0 _ hn hsz (Rings.later hb1 HP.out)
 by_cases hc : chkP rs = 0
 ·go_upto_region 3 with (first | (go_at_call 8; refine MA.out.mono ?_; intro e w2 hm; obtain ⟨x, T, F, bM, g, cg, bt, ct, lv, LS, W, rfl, hX, hWw, _, hb2⟩ := hm.resolve_left (fun h => h.1 hc) |>.2; have HX : Hid (XM w1.heap.size W w2 x 0 a cap rs T F bM g cg bt ct lv LS) := hX; clear hm hX))
  have hb02 := below_then hb1 hb2
  have G := good_of hc
  have HG : Hid (Good rs) := G
  have ht : 0 < T.length := (mesh_facts G HX.out.mesh).2.1
  clear G
  go_wp2
  go_loopw [8, 9] (fun y _ wr => ∃ i : Nat, i <= nl /\ y = .int .i64 i /\ Below w2.heap.size w2 wr) (fun y _ _ => nl - (intOf y).toNat)
  case atStart => exact ⟨0, Nat.zero_le _, rfl, Below.refl _ _⟩
  case round =>
   obtain ⟨i, hi, rfl, hb⟩ := hrel
   have i0 : (0 : Int) <= (i : Int) := by omega
   by_cases hlt : i < nl
   ·have il : (i : Int) < (nl : Int) := by omega
    have hb0 := below_then hb02 hb
    obtain ⟨nb, no, rfl, hnc⟩ : ∃ nb no, na = some ⟨nb, no, none⟩ /\ wr.cell? ⟨nb, no + i, none⟩ = some (.int .i64 (Z i)) := by
     rcases Ints.later hb0 HZ.out with h | ⟨nb, no, e, h⟩
     ·omega
     ·exact ⟨nb, no, e, (h i hlt).1⟩
    have BX : Hid (Calls Tryz.prog 9 #[.pointer (some ⟨x, 0, none⟩), .int .i64 (Z i)] wr fun e w' => e = .returned (.bool true) /\ Below wr.heap.size wr w') := xbeside_any HG.out (HX.out.later ht hWw hb) (Nat.le_trans hWw hb.size) (Z i)
    generalize Z i = zi at *
    go_wp2_with (go_at_call 9; refine BX.out.mono ?_; rintro e w4 ⟨rfl, hb4⟩)
    go_roundw
    case rel => exact ⟨i + 1, by omega, by go_num, below_then hb hb4⟩
    case measure => simp [intOf]; omega
   ·have il : ¬ (i : Int) < (nl : Int) := by omega
    go_wp2
    go_ret
    exact ⟨by simp, below_then hb02 hb⟩
 ·go_upto_region 3 with (first | (go_at_call 8; refine MA.out.mono ?_; intro e w2 hm; obtain ⟨rfl, hb2⟩ := (hm.resolve_right (fun h => hc h.1)).2; clear hm))
  go_wp2
  go_ret
  exact ⟨by simp, below_then hb1 hb2⟩
end Go.Proofs.YtdkaoopkbhaheaaGreat
