/-
  No cell of these rows narrows 'for every input' (looked for: loops, veiled, ifaces, maps, wideKeys, modest, calm, conditions, laid).
  DERIVED. THE GIVEN ROWS OF THIS SEAT. 5 by the template 'for every input the law returns true; each argument reads behind the call as it read before'; 0 by the template 'total and deterministic' (their statements: YtgleipojjlpkiaaTotals.lean).
  GIVEN WITH THE SEED: the statements are not yours to turn. If you find one false, say at which input.
  Laid BY PROGRAM, IN A SANDBOX (cutbox-rows.mjs): the forced cells as the released guide's own fill.sh prints them over the translation 7676b786827a3ce2… (all of the seat's roots in one cut). By AI agents, Wed Nov 11 2026. No macro, syntax, notation, axiom, sorry.
-/
import Derived.Test.YtgleipojjlpkiaaChecked
import GoSem.Claim
import GoSem.ClaimJoined
import GoSem.ClaimMapViews
import Derived.JoinedTies
import Derived.KernelRfl
namespace Go.Proofs.Ytgleipojjlpkiaa
/- THE CELL 'sum', in the pinned program and in every row, IS THE sha256 OF THE DUMP (.gsa) THAT YtgleipojjlpkiaaProg.lean LOADS. Nothing in Lean hashes anything: it is a label: what it is worth is what the hold of that sum in a sandbox is worth. -/
noncomputable def Try.pinned : Pinned := { name := "ytgleipojjlpkiaa", sum := "7676b786827a3ce24a3bc3294d31dff7ef3123cf17837d3f9be101a9defac3a4", checked := Try.checked }
namespace Rows
def none {H : Type} : Left H := { results := [], args := [] }

/-- 'haulierlaw05.RoadGraphs': WHATEVER THE INPUT: true; the input reads as it did. -/
def roadGraphsSpec : ChangeSpec := { name := "roadGraphs", fn := fun _ => fun
  | [d1, d2] => { results := [.lit (.bool true)], args := [d1, d2] }
  | _ => none }
def roadGraphsRow : OpenClaim := { program := "ytgleipojjlpkiaa", sum := "7676b786827a3ce24a3bc3294d31dff7ef3123cf17837d3f9be101a9defac3a4", func := "haulier/haulierlaw05.RoadGraphs", spec := "roadGraphs", unfollowed := true, recurses := true, apart := false }
def RoadGraphsSaid : Prop := roadGraphsRow.holds Try.pinned (OpenSpec.ofChange roadGraphsSpec)

/-- ITS FALSE NEIGHBOUR: 'it returns false'. Refute it at one input. -/
def roadGraphsWrong : ChangeSpec := { name := "roadGraphs", fn := fun _ => fun
  | [d1, d2] => { results := [.lit (.bool false)], args := [d1, d2] }
  | _ => none }
def RoadGraphsWrongFalsely : Prop := roadGraphsRow.holds Try.pinned (OpenSpec.ofChange roadGraphsWrong)

/-- 'haulierlaw05.RoadTurns': WHATEVER THE INPUT: true; the input reads as it did. -/
def roadTurnsSpec : ChangeSpec := { name := "roadTurns", fn := fun _ => fun
  | [d1, d2] => { results := [.lit (.bool true)], args := [d1, d2] }
  | _ => none }
def roadTurnsRow : OpenClaim := { program := "ytgleipojjlpkiaa", sum := "7676b786827a3ce24a3bc3294d31dff7ef3123cf17837d3f9be101a9defac3a4", func := "haulier/haulierlaw05.RoadTurns", spec := "roadTurns", unfollowed := true, recurses := true, apart := false }
def RoadTurnsSaid : Prop := roadTurnsRow.holds Try.pinned (OpenSpec.ofChange roadTurnsSpec)

/-- ITS FALSE NEIGHBOUR: 'it returns false'. Refute it at one input. -/
def roadTurnsWrong : ChangeSpec := { name := "roadTurns", fn := fun _ => fun
  | [d1, d2] => { results := [.lit (.bool false)], args := [d1, d2] }
  | _ => none }
def RoadTurnsWrongFalsely : Prop := roadTurnsRow.holds Try.pinned (OpenSpec.ofChange roadTurnsWrong)

/-- 'haulierlaw05.RoadMetrics': WHATEVER THE INPUT: true; the input reads as it did. -/
def roadMetricsSpec : ChangeSpec := { name := "roadMetrics", fn := fun _ => fun
  | [d] => { results := [.lit (.bool true)], args := [d] }
  | _ => none }
def roadMetricsRow : OpenClaim := { program := "ytgleipojjlpkiaa", sum := "7676b786827a3ce24a3bc3294d31dff7ef3123cf17837d3f9be101a9defac3a4", func := "haulier/haulierlaw05.RoadMetrics", spec := "roadMetrics", unfollowed := true, recurses := true, apart := false }
def RoadMetricsSaid : Prop := roadMetricsRow.holds Try.pinned (OpenSpec.ofChange roadMetricsSpec)

/-- ITS FALSE NEIGHBOUR: 'it returns false'. Refute it at one input. -/
def roadMetricsWrong : ChangeSpec := { name := "roadMetrics", fn := fun _ => fun
  | [d] => { results := [.lit (.bool false)], args := [d] }
  | _ => none }
def RoadMetricsWrongFalsely : Prop := roadMetricsRow.holds Try.pinned (OpenSpec.ofChange roadMetricsWrong)

/-- 'haulierlaw05.RoadOwn': WHATEVER THE INPUT: true; the input reads as it did. -/
def roadOwnSpec : ChangeSpec := { name := "roadOwn", fn := fun _ => fun
  | [d] => { results := [.lit (.bool true)], args := [d] }
  | _ => none }
def roadOwnRow : OpenClaim := { program := "ytgleipojjlpkiaa", sum := "7676b786827a3ce24a3bc3294d31dff7ef3123cf17837d3f9be101a9defac3a4", func := "haulier/haulierlaw05.RoadOwn", spec := "roadOwn", unfollowed := true, recurses := true, apart := false }
def RoadOwnSaid : Prop := roadOwnRow.holds Try.pinned (OpenSpec.ofChange roadOwnSpec)

/-- ITS FALSE NEIGHBOUR: 'it returns false'. Refute it at one input. -/
def roadOwnWrong : ChangeSpec := { name := "roadOwn", fn := fun _ => fun
  | [d] => { results := [.lit (.bool false)], args := [d] }
  | _ => none }
def RoadOwnWrongFalsely : Prop := roadOwnRow.holds Try.pinned (OpenSpec.ofChange roadOwnWrong)

/-- 'haulierlaw05.RoadLightest': WHATEVER THE INPUT: true; the input reads as it did. -/
def roadLightestSpec : ChangeSpec := { name := "roadLightest", fn := fun _ => fun
  | [d1, d2, d3] => { results := [.lit (.bool true)], args := [d1, d2, d3] }
  | _ => none }
def roadLightestRow : OpenClaim := { program := "ytgleipojjlpkiaa", sum := "7676b786827a3ce24a3bc3294d31dff7ef3123cf17837d3f9be101a9defac3a4", func := "haulier/haulierlaw05.RoadLightest", spec := "roadLightest", unfollowed := true, recurses := true, apart := false }
def RoadLightestSaid : Prop := roadLightestRow.holds Try.pinned (OpenSpec.ofChange roadLightestSpec)

/-- ITS FALSE NEIGHBOUR: 'it returns false'. Refute it at one input. -/
def roadLightestWrong : ChangeSpec := { name := "roadLightest", fn := fun _ => fun
  | [d1, d2, d3] => { results := [.lit (.bool false)], args := [d1, d2, d3] }
  | _ => none }
def RoadLightestWrongFalsely : Prop := roadLightestRow.holds Try.pinned (OpenSpec.ofChange roadLightestWrong)

/- THE SECOND FORM. 'bulk': how many values and letters a reading holds, each counted each time it is reached (what is shared counts as often as it is met; a slice's spare places count too). A statement '..UptoSaid' is the law's where the arguments, and the package variables that the reading takes, are together of bulk at most 1048576: NARROWER than '..Said'. Prove '..Said' where nothing that the law and all that it calls make is longer than what came in: it says more and counts as full. Else prove '..UptoSaid'. A law counts once. -/
mutual
def uptoBulk {H : Type} : DataW H → Nat
  | .lit (.string bytes) => bytes.length + 1
  | .lit _ => 1
  | .nil => 1
  | .ptr d => uptoBulk d + 1
  | .slice elems spare => uptoBulkAll elems + uptoBulkAll spare + 1
  | .agg parts => uptoBulkAll parts + 1
  | .iface _ d => uptoBulk d + 1
  | .map entries => uptoBulkEntries entries + 1
  | .held _ => 1
def uptoBulkAll {H : Type} : List (DataW H) → Nat
  | [] => 0
  | d :: r => uptoBulk d + uptoBulkAll r
def uptoBulkEntries {H : Type} : List (Lit × DataW H) → Nat
  | [] => 0
  | x :: r => uptoBulkEntry x + uptoBulkEntries r
def uptoBulkEntry {H : Type} : Lit × DataW H → Nat
  | (.string bytes, d) => bytes.length + uptoBulk d + 1
  | (_, d) => uptoBulk d + 1
 end
def uptoSmall : (H : Type) → List (DataW H) → Bool := fun _ ds => decide (uptoBulkAll ds ≤ 1048576)
def OpenSpec.upto (s : _root_.Go.ChangeSpec) : _root_.Go.OpenSpec := { _root_.Go.OpenSpec.ofChange s with cond := some uptoSmall }

/-- 'haulierlaw05.RoadGraphs', WHERE WHAT IT READS IS OF BULK AT MOST 1048576: true; the input reads as it did. -/
def roadGraphsUptoRow : OpenClaim := { program := "ytgleipojjlpkiaa", sum := "7676b786827a3ce24a3bc3294d31dff7ef3123cf17837d3f9be101a9defac3a4", func := "haulier/haulierlaw05.RoadGraphs", spec := "roadGraphs", unfollowed := true, recurses := true, apart := false, narrowed := true }
def RoadGraphsUptoSaid : Prop := roadGraphsUptoRow.holds Try.pinned (OpenSpec.upto roadGraphsSpec)

/-- 'haulierlaw05.RoadTurns', WHERE WHAT IT READS IS OF BULK AT MOST 1048576: true; the input reads as it did. -/
def roadTurnsUptoRow : OpenClaim := { program := "ytgleipojjlpkiaa", sum := "7676b786827a3ce24a3bc3294d31dff7ef3123cf17837d3f9be101a9defac3a4", func := "haulier/haulierlaw05.RoadTurns", spec := "roadTurns", unfollowed := true, recurses := true, apart := false, narrowed := true }
def RoadTurnsUptoSaid : Prop := roadTurnsUptoRow.holds Try.pinned (OpenSpec.upto roadTurnsSpec)

/-- 'haulierlaw05.RoadMetrics', WHERE WHAT IT READS IS OF BULK AT MOST 1048576: true; the input reads as it did. -/
def roadMetricsUptoRow : OpenClaim := { program := "ytgleipojjlpkiaa", sum := "7676b786827a3ce24a3bc3294d31dff7ef3123cf17837d3f9be101a9defac3a4", func := "haulier/haulierlaw05.RoadMetrics", spec := "roadMetrics", unfollowed := true, recurses := true, apart := false, narrowed := true }
def RoadMetricsUptoSaid : Prop := roadMetricsUptoRow.holds Try.pinned (OpenSpec.upto roadMetricsSpec)

/-- 'haulierlaw05.RoadOwn', WHERE WHAT IT READS IS OF BULK AT MOST 1048576: true; the input reads as it did. -/
def roadOwnUptoRow : OpenClaim := { program := "ytgleipojjlpkiaa", sum := "7676b786827a3ce24a3bc3294d31dff7ef3123cf17837d3f9be101a9defac3a4", func := "haulier/haulierlaw05.RoadOwn", spec := "roadOwn", unfollowed := true, recurses := true, apart := false, narrowed := true }
def RoadOwnUptoSaid : Prop := roadOwnUptoRow.holds Try.pinned (OpenSpec.upto roadOwnSpec)

/-- 'haulierlaw05.RoadLightest', WHERE WHAT IT READS IS OF BULK AT MOST 1048576: true; the input reads as it did. -/
def roadLightestUptoRow : OpenClaim := { program := "ytgleipojjlpkiaa", sum := "7676b786827a3ce24a3bc3294d31dff7ef3123cf17837d3f9be101a9defac3a4", func := "haulier/haulierlaw05.RoadLightest", spec := "roadLightest", unfollowed := true, recurses := true, apart := false, narrowed := true }
def RoadLightestUptoSaid : Prop := roadLightestUptoRow.holds Try.pinned (OpenSpec.upto roadLightestSpec)

end Rows
end Go.Proofs.Ytgleipojjlpkiaa
