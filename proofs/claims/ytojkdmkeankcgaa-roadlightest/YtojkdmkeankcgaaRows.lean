/-
  No cell of these rows narrows 'for every input' (looked for: loops, veiled, ifaces, maps, wideKeys, modest, calm, conditions, laid).
  DERIVED. THE GIVEN ROWS OF THIS SEAT. 4 by the template 'for every input the law returns true; each argument reads behind the call as it read before'; 0 by the template 'total and deterministic' (their statements: YtojkdmkeankcgaaTotals.lean).
  GIVEN WITH THE SEED: the statements are not yours to turn. If you find one false, say at which input.
  Laid BY PROGRAM, IN A SANDBOX (cutbox-rows.mjs): the forced cells as the released guide's own fill.sh prints them over the translation 4d9d91884b171344… (all of the seat's roots in one cut). By AI agents, Wed Nov 11 2026. No macro, syntax, notation, axiom, sorry.
-/
import Derived.Test.YtojkdmkeankcgaaChecked
import GoSem.Claim
import GoSem.ClaimJoined
import GoSem.ClaimMapViews
import Derived.JoinedTies
import Derived.KernelRfl
namespace Go.Proofs.Ytojkdmkeankcgaa
/- THE CELL 'sum', in the pinned program and in every row, IS THE sha256 OF THE DUMP (.gsa) THAT YtojkdmkeankcgaaProg.lean LOADS. Nothing in Lean hashes anything: it is a label: what it is worth is what the hold of that sum in a sandbox is worth. -/
noncomputable def Try.pinned : Pinned := { name := "ytojkdmkeankcgaa", sum := "4d9d91884b1713444eb046eb12794e826aba8c5cfa85a4ebfe9a4c65b40d0790", checked := Try.checked }
namespace Rows
def none {H : Type} : Left H := { results := [], args := [] }

/-- 'haulierlaw05.RoadLightest': WHATEVER THE INPUT: true; the input reads as it did. -/
def roadLightestSpec : ChangeSpec := { name := "roadLightest", fn := fun _ => fun
  | [d1, d2, d3] => { results := [.lit (.bool true)], args := [d1, d2, d3] }
  | _ => none }
def roadLightestRow : OpenClaim := { program := "ytojkdmkeankcgaa", sum := "4d9d91884b1713444eb046eb12794e826aba8c5cfa85a4ebfe9a4c65b40d0790", func := "haulier/haulierlaw05.RoadLightest", spec := "roadLightest", unfollowed := true, recurses := true, apart := false }
def RoadLightestSaid : Prop := roadLightestRow.holds Try.pinned (OpenSpec.ofChange roadLightestSpec)

/-- ITS FALSE NEIGHBOUR: 'it returns false'. Refute it at one input. -/
def roadLightestWrong : ChangeSpec := { name := "roadLightest", fn := fun _ => fun
  | [d1, d2, d3] => { results := [.lit (.bool false)], args := [d1, d2, d3] }
  | _ => none }
def RoadLightestWrongFalsely : Prop := roadLightestRow.holds Try.pinned (OpenSpec.ofChange roadLightestWrong)

/-- 'haulierlaw06.ShortMore': WHATEVER THE INPUT: true; the input reads as it did. -/
def shortMoreSpec : ChangeSpec := { name := "shortMore", fn := fun _ => fun
  | [d1, d2, d3] => { results := [.lit (.bool true)], args := [d1, d2, d3] }
  | _ => none }
def shortMoreRow : OpenClaim := { program := "ytojkdmkeankcgaa", sum := "4d9d91884b1713444eb046eb12794e826aba8c5cfa85a4ebfe9a4c65b40d0790", func := "haulier/haulierlaw06.ShortMore", spec := "shortMore", unfollowed := true, recurses := true, apart := false }
def ShortMoreSaid : Prop := shortMoreRow.holds Try.pinned (OpenSpec.ofChange shortMoreSpec)

/-- ITS FALSE NEIGHBOUR: 'it returns false'. Refute it at one input. -/
def shortMoreWrong : ChangeSpec := { name := "shortMore", fn := fun _ => fun
  | [d1, d2, d3] => { results := [.lit (.bool false)], args := [d1, d2, d3] }
  | _ => none }
def ShortMoreWrongFalsely : Prop := shortMoreRow.holds Try.pinned (OpenSpec.ofChange shortMoreWrong)

/-- 'haulierlaw07.LiftLinks': WHATEVER THE INPUT: true; the input reads as it did. -/
def liftLinksSpec : ChangeSpec := { name := "liftLinks", fn := fun _ => fun
  | [d1, d2] => { results := [.lit (.bool true)], args := [d1, d2] }
  | _ => none }
def liftLinksRow : OpenClaim := { program := "ytojkdmkeankcgaa", sum := "4d9d91884b1713444eb046eb12794e826aba8c5cfa85a4ebfe9a4c65b40d0790", func := "haulier/haulierlaw07.LiftLinks", spec := "liftLinks", unfollowed := true, recurses := true, apart := false }
def LiftLinksSaid : Prop := liftLinksRow.holds Try.pinned (OpenSpec.ofChange liftLinksSpec)

/-- ITS FALSE NEIGHBOUR: 'it returns false'. Refute it at one input. -/
def liftLinksWrong : ChangeSpec := { name := "liftLinks", fn := fun _ => fun
  | [d1, d2] => { results := [.lit (.bool false)], args := [d1, d2] }
  | _ => none }
def LiftLinksWrongFalsely : Prop := liftLinksRow.holds Try.pinned (OpenSpec.ofChange liftLinksWrong)

/-- 'haulierlaw07.LiftWays': WHATEVER THE INPUT: true; the input reads as it did. -/
def liftWaysSpec : ChangeSpec := { name := "liftWays", fn := fun _ => fun
  | [d1, d2] => { results := [.lit (.bool true)], args := [d1, d2] }
  | _ => none }
def liftWaysRow : OpenClaim := { program := "ytojkdmkeankcgaa", sum := "4d9d91884b1713444eb046eb12794e826aba8c5cfa85a4ebfe9a4c65b40d0790", func := "haulier/haulierlaw07.LiftWays", spec := "liftWays", unfollowed := true, recurses := true, apart := false }
def LiftWaysSaid : Prop := liftWaysRow.holds Try.pinned (OpenSpec.ofChange liftWaysSpec)

/-- ITS FALSE NEIGHBOUR: 'it returns false'. Refute it at one input. -/
def liftWaysWrong : ChangeSpec := { name := "liftWays", fn := fun _ => fun
  | [d1, d2] => { results := [.lit (.bool false)], args := [d1, d2] }
  | _ => none }
def LiftWaysWrongFalsely : Prop := liftWaysRow.holds Try.pinned (OpenSpec.ofChange liftWaysWrong)

/- THE SECOND FORM. 'bulk': how many values and letters a reading holds, each counted each time it is reached (what is shared counts as often as it is met; a slice's spare places count too). A statement '..UptoSaid' is the law's where the arguments, and the package variables that the reading takes, are together of bulk at most 1048576: NARROWER than '..Said'. Prove '..Said' where nothing that the law and all that it calls make is longer than what came in: it says more and counts as full. Else prove '..UptoSaid'. A law counts once. -/
mutual
def uptoBulk {H : Type} : DataW H → Nat
  | .lit (.string bytes) => bytes.length + 1
  | .lit _ => 1
  | .nil => 1
  | .ptr d => uptoBulk d + 1
  | .slice elems spare => uptoBulkAll elems + uptoBulkAll spare + 1
  | .agg parts => uptoBulkAll parts + 1
  | .iface _ d => uptoBulk d + 1
  | .map entries => uptoBulkEntries entries + 1
  | .held _ => 1
def uptoBulkAll {H : Type} : List (DataW H) → Nat
  | [] => 0
  | d :: r => uptoBulk d + uptoBulkAll r
def uptoBulkEntries {H : Type} : List (Lit × DataW H) → Nat
  | [] => 0
  | x :: r => uptoBulkEntry x + uptoBulkEntries r
def uptoBulkEntry {H : Type} : Lit × DataW H → Nat
  | (.string bytes, d) => bytes.length + uptoBulk d + 1
  | (_, d) => uptoBulk d + 1
 end
def uptoSmall : (H : Type) → List (DataW H) → Bool := fun _ ds => decide (uptoBulkAll ds ≤ 1048576)
def OpenSpec.upto (s : _root_.Go.ChangeSpec) : _root_.Go.OpenSpec := { _root_.Go.OpenSpec.ofChange s with cond := some uptoSmall }

/-- 'haulierlaw05.RoadLightest', WHERE WHAT IT READS IS OF BULK AT MOST 1048576: true; the input reads as it did. -/
def roadLightestUptoRow : OpenClaim := { program := "ytojkdmkeankcgaa", sum := "4d9d91884b1713444eb046eb12794e826aba8c5cfa85a4ebfe9a4c65b40d0790", func := "haulier/haulierlaw05.RoadLightest", spec := "roadLightest", unfollowed := true, recurses := true, apart := false, narrowed := true }
def RoadLightestUptoSaid : Prop := roadLightestUptoRow.holds Try.pinned (OpenSpec.upto roadLightestSpec)

/-- 'haulierlaw06.ShortMore', WHERE WHAT IT READS IS OF BULK AT MOST 1048576: true; the input reads as it did. -/
def shortMoreUptoRow : OpenClaim := { program := "ytojkdmkeankcgaa", sum := "4d9d91884b1713444eb046eb12794e826aba8c5cfa85a4ebfe9a4c65b40d0790", func := "haulier/haulierlaw06.ShortMore", spec := "shortMore", unfollowed := true, recurses := true, apart := false, narrowed := true }
def ShortMoreUptoSaid : Prop := shortMoreUptoRow.holds Try.pinned (OpenSpec.upto shortMoreSpec)

/-- 'haulierlaw07.LiftLinks', WHERE WHAT IT READS IS OF BULK AT MOST 1048576: true; the input reads as it did. -/
def liftLinksUptoRow : OpenClaim := { program := "ytojkdmkeankcgaa", sum := "4d9d91884b1713444eb046eb12794e826aba8c5cfa85a4ebfe9a4c65b40d0790", func := "haulier/haulierlaw07.LiftLinks", spec := "liftLinks", unfollowed := true, recurses := true, apart := false, narrowed := true }
def LiftLinksUptoSaid : Prop := liftLinksUptoRow.holds Try.pinned (OpenSpec.upto liftLinksSpec)

/-- 'haulierlaw07.LiftWays', WHERE WHAT IT READS IS OF BULK AT MOST 1048576: true; the input reads as it did. -/
def liftWaysUptoRow : OpenClaim := { program := "ytojkdmkeankcgaa", sum := "4d9d91884b1713444eb046eb12794e826aba8c5cfa85a4ebfe9a4c65b40d0790", func := "haulier/haulierlaw07.LiftWays", spec := "liftWays", unfollowed := true, recurses := true, apart := false, narrowed := true }
def LiftWaysUptoSaid : Prop := liftWaysUptoRow.holds Try.pinned (OpenSpec.upto liftWaysSpec)

end Rows
end Go.Proofs.Ytojkdmkeankcgaa
