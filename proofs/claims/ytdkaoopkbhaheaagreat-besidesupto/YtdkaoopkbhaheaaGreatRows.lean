/-
  No cell of these rows narrows 'for every input' (looked for: loops, veiled, ifaces, maps, wideKeys, modest, calm, conditions, laid).
  DERIVED. THE GIVEN ROWS OF THIS SEAT. 4 by the template 'for every input the law returns true; each argument reads behind the call as it read before'; 0 by the template 'total and deterministic' (their statements: YtdkaoopkbhaheaaGreatTotals.lean).
  GIVEN WITH THE SEED: the statements are not yours to turn. If you find one false, say at which input.
  Laid BY PROGRAM, IN A SANDBOX (cutbox-rows.mjs): the forced cells as the released guide's own fill.sh prints them over the translation b373e6959139b1ba… (all of the seat's roots in one cut). By AI agents, Wed Nov 11 2026. No macro, syntax, notation, axiom, sorry.
-/
import Derived.Test.YtdkaoopkbhaheaaGreatChecked
import GoSem.Claim
import GoSem.ClaimJoined
import GoSem.ClaimMapViews
import Derived.JoinedTies
import Derived.KernelRfl
namespace Go.Proofs.YtdkaoopkbhaheaaGreat
/- THE CELL 'sum', in the pinned program and in every row, IS THE sha256 OF THE DUMP (.gsa) THAT YtdkaoopkbhaheaaGreatProg.lean LOADS. Nothing in Lean hashes anything: it is a label: what it is worth is what the hold of that sum in a sandbox is worth. -/
noncomputable def Tryz.pinned : Pinned := { name := "ytdkaoopkbhaheaagreat", sum := "b373e6959139b1ba50008267f48a0a6c18a813d8e3242f0d5ab8df47942f04ea", checked := Tryz.checked }
namespace Rows
def none {H : Type} : Left H := { results := [], args := [] }

/-- 'facetlaw.Meshes': WHATEVER THE INPUT: true; the input reads as it did. -/
def meshesSpec : ChangeSpec := { name := "meshes", fn := fun _ => fun
  | [d] => { results := [.lit (.bool true)], args := [d] }
  | _ => none }
def meshesRow : OpenClaim := { program := "ytdkaoopkbhaheaagreat", sum := "b373e6959139b1ba50008267f48a0a6c18a813d8e3242f0d5ab8df47942f04ea", func := "facet/facetlaw.Meshes", spec := "meshes", inPlace := ["math/bits.Add64"], unfollowed := true, recurses := true, plainKeys := false, apart := false }
def MeshesSaid : Prop := meshesRow.holds Tryz.pinned (OpenSpec.ofChange meshesSpec)

/-- ITS FALSE NEIGHBOUR: 'it returns false'. Refute it at one input. -/
def meshesWrong : ChangeSpec := { name := "meshes", fn := fun _ => fun
  | [d] => { results := [.lit (.bool false)], args := [d] }
  | _ => none }
def MeshesWrongFalsely : Prop := meshesRow.holds Tryz.pinned (OpenSpec.ofChange meshesWrong)

/-- 'facetlaw.Besides': WHATEVER THE INPUT: true; the input reads as it did. -/
def besidesSpec : ChangeSpec := { name := "besides", fn := fun _ => fun
  | [d1, d2] => { results := [.lit (.bool true)], args := [d1, d2] }
  | _ => none }
def besidesRow : OpenClaim := { program := "ytdkaoopkbhaheaagreat", sum := "b373e6959139b1ba50008267f48a0a6c18a813d8e3242f0d5ab8df47942f04ea", func := "facet/facetlaw.Besides", spec := "besides", inPlace := ["math/bits.Add64"], unfollowed := true, recurses := true, plainKeys := false, apart := false }
def BesidesSaid : Prop := besidesRow.holds Tryz.pinned (OpenSpec.ofChange besidesSpec)

/-- ITS FALSE NEIGHBOUR: 'it returns false'. Refute it at one input. -/
def besidesWrong : ChangeSpec := { name := "besides", fn := fun _ => fun
  | [d1, d2] => { results := [.lit (.bool false)], args := [d1, d2] }
  | _ => none }
def BesidesWrongFalsely : Prop := besidesRow.holds Tryz.pinned (OpenSpec.ofChange besidesWrong)

/-- 'facetlaw.Locates': WHATEVER THE INPUT: true; the input reads as it did. -/
def locatesSpec : ChangeSpec := { name := "locates", fn := fun _ => fun
  | [d1, d2] => { results := [.lit (.bool true)], args := [d1, d2] }
  | _ => none }
def locatesRow : OpenClaim := { program := "ytdkaoopkbhaheaagreat", sum := "b373e6959139b1ba50008267f48a0a6c18a813d8e3242f0d5ab8df47942f04ea", func := "facet/facetlaw.Locates", spec := "locates", inPlace := ["math/bits.Add64"], unfollowed := true, recurses := true, plainKeys := false, apart := false }
def LocatesSaid : Prop := locatesRow.holds Tryz.pinned (OpenSpec.ofChange locatesSpec)

/-- ITS FALSE NEIGHBOUR: 'it returns false'. Refute it at one input. -/
def locatesWrong : ChangeSpec := { name := "locates", fn := fun _ => fun
  | [d1, d2] => { results := [.lit (.bool false)], args := [d1, d2] }
  | _ => none }
def LocatesWrongFalsely : Prop := locatesRow.holds Tryz.pinned (OpenSpec.ofChange locatesWrong)

/-- 'facetlaw.All': WHATEVER THE INPUT: true; the input reads as it did. -/
def allSpec : ChangeSpec := { name := "all", fn := fun _ => fun
  | [d1, d2] => { results := [.lit (.bool true)], args := [d1, d2] }
  | _ => none }
def allRow : OpenClaim := { program := "ytdkaoopkbhaheaagreat", sum := "b373e6959139b1ba50008267f48a0a6c18a813d8e3242f0d5ab8df47942f04ea", func := "facet/facetlaw.All", spec := "all", inPlace := ["math/bits.Add64"], unfollowed := true, recurses := true, plainKeys := false, apart := false }
def AllSaid : Prop := allRow.holds Tryz.pinned (OpenSpec.ofChange allSpec)

/-- ITS FALSE NEIGHBOUR: 'it returns false'. Refute it at one input. -/
def allWrong : ChangeSpec := { name := "all", fn := fun _ => fun
  | [d1, d2] => { results := [.lit (.bool false)], args := [d1, d2] }
  | _ => none }
def AllWrongFalsely : Prop := allRow.holds Tryz.pinned (OpenSpec.ofChange allWrong)

/- THE SECOND FORM. 'bulk': how many values and letters a reading holds, each counted each time it is reached (what is shared counts as often as it is met; a slice's spare places count too). A statement '..UptoSaid' is the law's where the arguments, and the package variables that the reading takes, are together of bulk at most 1048576: NARROWER than '..Said'. Prove '..Said' where nothing that the law and all that it calls make is longer than what came in: it says more and counts as full. Else prove '..UptoSaid'. A law counts once. -/
mutual
def uptoBulk {H : Type} : DataW H → Nat
  | .lit (.string bytes) => bytes.length + 1
  | .lit _ => 1
  | .nil => 1
  | .ptr d => uptoBulk d + 1
  | .slice elems spare => uptoBulkAll elems + uptoBulkAll spare + 1
  | .agg parts => uptoBulkAll parts + 1
  | .iface _ d => uptoBulk d + 1
  | .map entries => uptoBulkEntries entries + 1
  | .held _ => 1
def uptoBulkAll {H : Type} : List (DataW H) → Nat
  | [] => 0
  | d :: r => uptoBulk d + uptoBulkAll r
def uptoBulkEntries {H : Type} : List (Lit × DataW H) → Nat
  | [] => 0
  | x :: r => uptoBulkEntry x + uptoBulkEntries r
def uptoBulkEntry {H : Type} : Lit × DataW H → Nat
  | (.string bytes, d) => bytes.length + uptoBulk d + 1
  | (_, d) => uptoBulk d + 1
 end
def uptoSmall : (H : Type) → List (DataW H) → Bool := fun _ ds => decide (uptoBulkAll ds ≤ 1048576)
def OpenSpec.upto (s : _root_.Go.ChangeSpec) : _root_.Go.OpenSpec := { _root_.Go.OpenSpec.ofChange s with cond := some uptoSmall }

/-- 'facetlaw.Meshes', WHERE WHAT IT READS IS OF BULK AT MOST 1048576: true; the input reads as it did. -/
def meshesUptoRow : OpenClaim := { program := "ytdkaoopkbhaheaagreat", sum := "b373e6959139b1ba50008267f48a0a6c18a813d8e3242f0d5ab8df47942f04ea", func := "facet/facetlaw.Meshes", spec := "meshes", inPlace := ["math/bits.Add64"], unfollowed := true, recurses := true, plainKeys := false, apart := false, narrowed := true }
def MeshesUptoSaid : Prop := meshesUptoRow.holds Tryz.pinned (OpenSpec.upto meshesSpec)

/-- 'facetlaw.Besides', WHERE WHAT IT READS IS OF BULK AT MOST 1048576: true; the input reads as it did. -/
def besidesUptoRow : OpenClaim := { program := "ytdkaoopkbhaheaagreat", sum := "b373e6959139b1ba50008267f48a0a6c18a813d8e3242f0d5ab8df47942f04ea", func := "facet/facetlaw.Besides", spec := "besides", inPlace := ["math/bits.Add64"], unfollowed := true, recurses := true, plainKeys := false, apart := false, narrowed := true }
def BesidesUptoSaid : Prop := besidesUptoRow.holds Tryz.pinned (OpenSpec.upto besidesSpec)

/-- 'facetlaw.Locates', WHERE WHAT IT READS IS OF BULK AT MOST 1048576: true; the input reads as it did. -/
def locatesUptoRow : OpenClaim := { program := "ytdkaoopkbhaheaagreat", sum := "b373e6959139b1ba50008267f48a0a6c18a813d8e3242f0d5ab8df47942f04ea", func := "facet/facetlaw.Locates", spec := "locates", inPlace := ["math/bits.Add64"], unfollowed := true, recurses := true, plainKeys := false, apart := false, narrowed := true }
def LocatesUptoSaid : Prop := locatesUptoRow.holds Tryz.pinned (OpenSpec.upto locatesSpec)

/-- 'facetlaw.All', WHERE WHAT IT READS IS OF BULK AT MOST 1048576: true; the input reads as it did. -/
def allUptoRow : OpenClaim := { program := "ytdkaoopkbhaheaagreat", sum := "b373e6959139b1ba50008267f48a0a6c18a813d8e3242f0d5ab8df47942f04ea", func := "facet/facetlaw.All", spec := "all", inPlace := ["math/bits.Add64"], unfollowed := true, recurses := true, plainKeys := false, apart := false, narrowed := true }
def AllUptoSaid : Prop := allUptoRow.holds Tryz.pinned (OpenSpec.upto allSpec)

end Rows
end Go.Proofs.YtdkaoopkbhaheaaGreat
