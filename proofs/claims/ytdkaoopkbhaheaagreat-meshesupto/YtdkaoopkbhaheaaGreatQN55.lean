import Derived.Test.YtdkaoopkbhaheaaGreatQN54
import Derived.Test.YtdkaoopkbhaheaaGreatQN48
set_option maxHeartbeats 8000000
namespace Go.Proofs.YtdkaoopkbhaheaaGreat
open Go.RowKit Go.Lib
open Jor
open scoped Classical
set_option linter.unusedVariables false
set_option linter.unusedSimpArgs false
theorem MadeP.two {w w' : World} {own : Int} {a : Option Addr} {cap : Nat} {rs : List (List IP)} {e : Ending} (h : MadeP w own a cap rs e w') : ∃ p : Option Addr, e = .returned (.tuple #[.pointer p, .bool true]) /\ Below w.heap.size w w' := by
 rcases h with ⟨_, e, hb⟩ | ⟨_, x, T, F, bM, g, cg, bt, ct, lv, LS, W, e, _, _, _, hb⟩
 ·exact ⟨none, e, hb⟩
 ·exact ⟨some ⟨x, 0, none⟩, e, hb⟩
set_option maxRecDepth 100000 in
theorem meshes_walk (a : Option Addr) (cap : Nat) (A : Nat -> Option Addr) (C : Nat -> Nat) (rs : List (List IP)) (w : World) (hn : rs.length <= 1048576) (hsz : (verts rs).length <= 1048576) (hp : RingsL w a A C rs) :
  Calls Tryz.prog 3 #[.slice a rs.length cap] w fun e w' => e = .returned (.bool true) /\ Below w.heap.size w w' := by
 have HP : Hid (RingsL w a A C rs) := hp
 clear hp
 go_enter Tryz.func3, Tryz.ntmps3
 go_upto_region 2 with (first | (go_at_call 7; refine (known_any _).mono ?_; rintro e w1 ⟨rfl, hb1⟩))
 go_upto_region 3 with (first | (go_at_call 8; refine (made_any a cap A C rs _ _ hn hsz (Rings.later hb1 HP.out)).mono ?_; intro e w2 hm; obtain ⟨p, rfl, hb2⟩ := hm.two; clear hm))
 go_wp2
 go_ret
 exact ⟨rfl, below_then hb1 hb2⟩
end Go.Proofs.YtdkaoopkbhaheaaGreat
