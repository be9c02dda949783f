/-
  No cell of these rows narrows 'for every input' (looked for: loops, veiled, ifaces, maps, wideKeys, modest, calm, conditions, laid).
  DERIVED. THE GIVEN ROWS OF THIS SEAT. 12 by the template 'for every input the law returns true; each argument reads behind the call as it read before'; 0 by the template 'total and deterministic' (their statements: YtkgpjhechopfhaaTotals.lean).
  GIVEN WITH THE SEED: the statements are not yours to turn. If you find one false, say at which input.
  Laid BY PROGRAM, IN A SANDBOX (cutbox-rows.mjs): the forced cells as the released guide's own fill.sh prints them over the translation 86874c9286f723f6… (all of the seat's roots in one cut). By AI agents, Wed Nov 11 2026. No macro, syntax, notation, axiom, sorry.
-/
import Derived.Test.YtkgpjhechopfhaaChecked
import GoSem.Claim
import GoSem.ClaimJoined
import GoSem.ClaimMapViews
import Derived.JoinedTies
import Derived.KernelRfl
namespace Go.Proofs.Ytkgpjhechopfhaa
/- THE CELL 'sum', in the pinned program and in every row, IS THE sha256 OF THE DUMP (.gsa) THAT YtkgpjhechopfhaaProg.lean LOADS. Nothing in Lean hashes anything: it is a label: what it is worth is what the hold of that sum in a sandbox is worth. -/
noncomputable def Try.pinned : Pinned := { name := "ytkgpjhechopfhaa", sum := "86874c9286f723f657378bb34a95498b55a1a855fa5fe18e34089380ef3a3ea8", checked := Try.checked }
namespace Rows
def none {H : Type} : Left H := { results := [], args := [] }

/-- 'haulierlaw05.RoadGraphs': WHATEVER THE INPUT: true; the input reads as it did. -/
def roadGraphsSpec : ChangeSpec := { name := "roadGraphs", fn := fun _ => fun
  | [d1, d2] => { results := [.lit (.bool true)], args := [d1, d2] }
  | _ => none }
def roadGraphsRow : OpenClaim := { program := "ytkgpjhechopfhaa", sum := "86874c9286f723f657378bb34a95498b55a1a855fa5fe18e34089380ef3a3ea8", func := "haulier/haulierlaw05.RoadGraphs", spec := "roadGraphs", unfollowed := true, recurses := true, apart := false }
def RoadGraphsSaid : Prop := roadGraphsRow.holds Try.pinned (OpenSpec.ofChange roadGraphsSpec)

/-- ITS FALSE NEIGHBOUR: 'it returns false'. Refute it at one input. -/
def roadGraphsWrong : ChangeSpec := { name := "roadGraphs", fn := fun _ => fun
  | [d1, d2] => { results := [.lit (.bool false)], args := [d1, d2] }
  | _ => none }
def RoadGraphsWrongFalsely : Prop := roadGraphsRow.holds Try.pinned (OpenSpec.ofChange roadGraphsWrong)

/-- 'haulierlaw05.RoadMetrics': WHATEVER THE INPUT: true; the input reads as it did. -/
def roadMetricsSpec : ChangeSpec := { name := "roadMetrics", fn := fun _ => fun
  | [d] => { results := [.lit (.bool true)], args := [d] }
  | _ => none }
def roadMetricsRow : OpenClaim := { program := "ytkgpjhechopfhaa", sum := "86874c9286f723f657378bb34a95498b55a1a855fa5fe18e34089380ef3a3ea8", func := "haulier/haulierlaw05.RoadMetrics", spec := "roadMetrics", unfollowed := true, recurses := true, apart := false }
def RoadMetricsSaid : Prop := roadMetricsRow.holds Try.pinned (OpenSpec.ofChange roadMetricsSpec)

/-- ITS FALSE NEIGHBOUR: 'it returns false'. Refute it at one input. -/
def roadMetricsWrong : ChangeSpec := { name := "roadMetrics", fn := fun _ => fun
  | [d] => { results := [.lit (.bool false)], args := [d] }
  | _ => none }
def RoadMetricsWrongFalsely : Prop := roadMetricsRow.holds Try.pinned (OpenSpec.ofChange roadMetricsWrong)

/-- 'haulierlaw05.RoadOwn': WHATEVER THE INPUT: true; the input reads as it did. -/
def roadOwnSpec : ChangeSpec := { name := "roadOwn", fn := fun _ => fun
  | [d] => { results := [.lit (.bool true)], args := [d] }
  | _ => none }
def roadOwnRow : OpenClaim := { program := "ytkgpjhechopfhaa", sum := "86874c9286f723f657378bb34a95498b55a1a855fa5fe18e34089380ef3a3ea8", func := "haulier/haulierlaw05.RoadOwn", spec := "roadOwn", unfollowed := true, recurses := true, apart := false }
def RoadOwnSaid : Prop := roadOwnRow.holds Try.pinned (OpenSpec.ofChange roadOwnSpec)

/-- ITS FALSE NEIGHBOUR: 'it returns false'. Refute it at one input. -/
def roadOwnWrong : ChangeSpec := { name := "roadOwn", fn := fun _ => fun
  | [d] => { results := [.lit (.bool false)], args := [d] }
  | _ => none }
def RoadOwnWrongFalsely : Prop := roadOwnRow.holds Try.pinned (OpenSpec.ofChange roadOwnWrong)

/-- 'haulierlaw05.RoadLightest': WHATEVER THE INPUT: true; the input reads as it did. -/
def roadLightestSpec : ChangeSpec := { name := "roadLightest", fn := fun _ => fun
  | [d1, d2, d3] => { results := [.lit (.bool true)], args := [d1, d2, d3] }
  | _ => none }
def roadLightestRow : OpenClaim := { program := "ytkgpjhechopfhaa", sum := "86874c9286f723f657378bb34a95498b55a1a855fa5fe18e34089380ef3a3ea8", func := "haulier/haulierlaw05.RoadLightest", spec := "roadLightest", unfollowed := true, recurses := true, apart := false }
def RoadLightestSaid : Prop := roadLightestRow.holds Try.pinned (OpenSpec.ofChange roadLightestSpec)

/-- ITS FALSE NEIGHBOUR: 'it returns false'. Refute it at one input. -/
def roadLightestWrong : ChangeSpec := { name := "roadLightest", fn := fun _ => fun
  | [d1, d2, d3] => { results := [.lit (.bool false)], args := [d1, d2, d3] }
  | _ => none }
def RoadLightestWrongFalsely : Prop := roadLightestRow.holds Try.pinned (OpenSpec.ofChange roadLightestWrong)

/-- 'haulierlaw06.ShortAll': WHATEVER THE INPUT: true; the input reads as it did. -/
def shortAllSpec : ChangeSpec := { name := "shortAll", fn := fun _ => fun
  | [d1, d2] => { results := [.lit (.bool true)], args := [d1, d2] }
  | _ => none }
def shortAllRow : OpenClaim := { program := "ytkgpjhechopfhaa", sum := "86874c9286f723f657378bb34a95498b55a1a855fa5fe18e34089380ef3a3ea8", func := "haulier/haulierlaw06.ShortAll", spec := "shortAll", unfollowed := true, recurses := true, apart := false }
def ShortAllSaid : Prop := shortAllRow.holds Try.pinned (OpenSpec.ofChange shortAllSpec)

/-- ITS FALSE NEIGHBOUR: 'it returns false'. Refute it at one input. -/
def shortAllWrong : ChangeSpec := { name := "shortAll", fn := fun _ => fun
  | [d1, d2] => { results := [.lit (.bool false)], args := [d1, d2] }
  | _ => none }
def ShortAllWrongFalsely : Prop := shortAllRow.holds Try.pinned (OpenSpec.ofChange shortAllWrong)

/-- 'haulierlaw06.ShortWays': WHATEVER THE INPUT: true; the input reads as it did. -/
def shortWaysSpec : ChangeSpec := { name := "shortWays", fn := fun _ => fun
  | [d1, d2, d3, d4] => { results := [.lit (.bool true)], args := [d1, d2, d3, d4] }
  | _ => none }
def shortWaysRow : OpenClaim := { program := "ytkgpjhechopfhaa", sum := "86874c9286f723f657378bb34a95498b55a1a855fa5fe18e34089380ef3a3ea8", func := "haulier/haulierlaw06.ShortWays", spec := "shortWays", unfollowed := true, recurses := true, apart := false }
def ShortWaysSaid : Prop := shortWaysRow.holds Try.pinned (OpenSpec.ofChange shortWaysSpec)

/-- ITS FALSE NEIGHBOUR: 'it returns false'. Refute it at one input. -/
def shortWaysWrong : ChangeSpec := { name := "shortWays", fn := fun _ => fun
  | [d1, d2, d3, d4] => { results := [.lit (.bool false)], args := [d1, d2, d3, d4] }
  | _ => none }
def ShortWaysWrongFalsely : Prop := shortWaysRow.holds Try.pinned (OpenSpec.ofChange shortWaysWrong)

/-- 'haulierlaw06.ShortWeighs': WHATEVER THE INPUT: true; the input reads as it did. -/
def shortWeighsSpec : ChangeSpec := { name := "shortWeighs", fn := fun _ => fun
  | [d1, d2, d3] => { results := [.lit (.bool true)], args := [d1, d2, d3] }
  | _ => none }
def shortWeighsRow : OpenClaim := { program := "ytkgpjhechopfhaa", sum := "86874c9286f723f657378bb34a95498b55a1a855fa5fe18e34089380ef3a3ea8", func := "haulier/haulierlaw06.ShortWeighs", spec := "shortWeighs", unfollowed := true, recurses := true, apart := false }
def ShortWeighsSaid : Prop := shortWeighsRow.holds Try.pinned (OpenSpec.ofChange shortWeighsSpec)

/-- ITS FALSE NEIGHBOUR: 'it returns false'. Refute it at one input. -/
def shortWeighsWrong : ChangeSpec := { name := "shortWeighs", fn := fun _ => fun
  | [d1, d2, d3] => { results := [.lit (.bool false)], args := [d1, d2, d3] }
  | _ => none }
def ShortWeighsWrongFalsely : Prop := shortWeighsRow.holds Try.pinned (OpenSpec.ofChange shortWeighsWrong)

/-- 'haulierlaw06.ShortTriangles': WHATEVER THE INPUT: true; the input reads as it did. -/
def shortTrianglesSpec : ChangeSpec := { name := "shortTriangles", fn := fun _ => fun
  | [d1, d2] => { results := [.lit (.bool true)], args := [d1, d2] }
  | _ => none }
def shortTrianglesRow : OpenClaim := { program := "ytkgpjhechopfhaa", sum := "86874c9286f723f657378bb34a95498b55a1a855fa5fe18e34089380ef3a3ea8", func := "haulier/haulierlaw06.ShortTriangles", spec := "shortTriangles", unfollowed := true, recurses := true, apart := false }
def ShortTrianglesSaid : Prop := shortTrianglesRow.holds Try.pinned (OpenSpec.ofChange shortTrianglesSpec)

/-- ITS FALSE NEIGHBOUR: 'it returns false'. Refute it at one input. -/
def shortTrianglesWrong : ChangeSpec := { name := "shortTriangles", fn := fun _ => fun
  | [d1, d2] => { results := [.lit (.bool false)], args := [d1, d2] }
  | _ => none }
def ShortTrianglesWrongFalsely : Prop := shortTrianglesRow.holds Try.pinned (OpenSpec.ofChange shortTrianglesWrong)

/-- 'haulierlaw06.ShortTurned': WHATEVER THE INPUT: true; the input reads as it did. -/
def shortTurnedSpec : ChangeSpec := { name := "shortTurned", fn := fun _ => fun
  | [d1, d2] => { results := [.lit (.bool true)], args := [d1, d2] }
  | _ => none }
def shortTurnedRow : OpenClaim := { program := "ytkgpjhechopfhaa", sum := "86874c9286f723f657378bb34a95498b55a1a855fa5fe18e34089380ef3a3ea8", func := "haulier/haulierlaw06.ShortTurned", spec := "shortTurned", unfollowed := true, recurses := true, apart := false }
def ShortTurnedSaid : Prop := shortTurnedRow.holds Try.pinned (OpenSpec.ofChange shortTurnedSpec)

/-- ITS FALSE NEIGHBOUR: 'it returns false'. Refute it at one input. -/
def shortTurnedWrong : ChangeSpec := { name := "shortTurned", fn := fun _ => fun
  | [d1, d2] => { results := [.lit (.bool false)], args := [d1, d2] }
  | _ => none }
def ShortTurnedWrongFalsely : Prop := shortTurnedRow.holds Try.pinned (OpenSpec.ofChange shortTurnedWrong)

/-- 'haulierlaw06.ShortNil': WHATEVER THE INPUT: true; the input reads as it did. -/
def shortNilSpec : ChangeSpec := { name := "shortNil", fn := fun _ => fun
  | [d1, d2] => { results := [.lit (.bool true)], args := [d1, d2] }
  | _ => none }
def shortNilRow : OpenClaim := { program := "ytkgpjhechopfhaa", sum := "86874c9286f723f657378bb34a95498b55a1a855fa5fe18e34089380ef3a3ea8", func := "haulier/haulierlaw06.ShortNil", spec := "shortNil", unfollowed := true, recurses := true, apart := false }
def ShortNilSaid : Prop := shortNilRow.holds Try.pinned (OpenSpec.ofChange shortNilSpec)

/-- ITS FALSE NEIGHBOUR: 'it returns false'. Refute it at one input. -/
def shortNilWrong : ChangeSpec := { name := "shortNil", fn := fun _ => fun
  | [d1, d2] => { results := [.lit (.bool false)], args := [d1, d2] }
  | _ => none }
def ShortNilWrongFalsely : Prop := shortNilRow.holds Try.pinned (OpenSpec.ofChange shortNilWrong)

/-- 'haulierlaw06.ShortMore': WHATEVER THE INPUT: true; the input reads as it did. -/
def shortMoreSpec : ChangeSpec := { name := "shortMore", fn := fun _ => fun
  | [d1, d2, d3] => { results := [.lit (.bool true)], args := [d1, d2, d3] }
  | _ => none }
def shortMoreRow : OpenClaim := { program := "ytkgpjhechopfhaa", sum := "86874c9286f723f657378bb34a95498b55a1a855fa5fe18e34089380ef3a3ea8", func := "haulier/haulierlaw06.ShortMore", spec := "shortMore", unfollowed := true, recurses := true, apart := false }
def ShortMoreSaid : Prop := shortMoreRow.holds Try.pinned (OpenSpec.ofChange shortMoreSpec)

/-- ITS FALSE NEIGHBOUR: 'it returns false'. Refute it at one input. -/
def shortMoreWrong : ChangeSpec := { name := "shortMore", fn := fun _ => fun
  | [d1, d2, d3] => { results := [.lit (.bool false)], args := [d1, d2, d3] }
  | _ => none }
def ShortMoreWrongFalsely : Prop := shortMoreRow.holds Try.pinned (OpenSpec.ofChange shortMoreWrong)

/-- 'haulierlaw06.ShortParts': WHATEVER THE INPUT: true; the input reads as it did. -/
def shortPartsSpec : ChangeSpec := { name := "shortParts", fn := fun _ => fun
  | [d1, d2, d3, d4, d5] => { results := [.lit (.bool true)], args := [d1, d2, d3, d4, d5] }
  | _ => none }
def shortPartsRow : OpenClaim := { program := "ytkgpjhechopfhaa", sum := "86874c9286f723f657378bb34a95498b55a1a855fa5fe18e34089380ef3a3ea8", func := "haulier/haulierlaw06.ShortParts", spec := "shortParts", unfollowed := true, recurses := true, apart := false }
def ShortPartsSaid : Prop := shortPartsRow.holds Try.pinned (OpenSpec.ofChange shortPartsSpec)

/-- ITS FALSE NEIGHBOUR: 'it returns false'. Refute it at one input. -/
def shortPartsWrong : ChangeSpec := { name := "shortParts", fn := fun _ => fun
  | [d1, d2, d3, d4, d5] => { results := [.lit (.bool false)], args := [d1, d2, d3, d4, d5] }
  | _ => none }
def ShortPartsWrongFalsely : Prop := shortPartsRow.holds Try.pinned (OpenSpec.ofChange shortPartsWrong)

/- THE SECOND FORM. 'bulk': how many values and letters a reading holds, each counted each time it is reached (what is shared counts as often as it is met; a slice's spare places count too). A statement '..UptoSaid' is the law's where the arguments, and the package variables that the reading takes, are together of bulk at most 1048576: NARROWER than '..Said'. Prove '..Said' where nothing that the law and all that it calls make is longer than what came in: it says more and counts as full. Else prove '..UptoSaid'. A law counts once. -/
mutual
def uptoBulk {H : Type} : DataW H → Nat
  | .lit (.string bytes) => bytes.length + 1
  | .lit _ => 1
  | .nil => 1
  | .ptr d => uptoBulk d + 1
  | .slice elems spare => uptoBulkAll elems + uptoBulkAll spare + 1
  | .agg parts => uptoBulkAll parts + 1
  | .iface _ d => uptoBulk d + 1
  | .map entries => uptoBulkEntries entries + 1
  | .held _ => 1
def uptoBulkAll {H : Type} : List (DataW H) → Nat
  | [] => 0
  | d :: r => uptoBulk d + uptoBulkAll r
def uptoBulkEntries {H : Type} : List (Lit × DataW H) → Nat
  | [] => 0
  | x :: r => uptoBulkEntry x + uptoBulkEntries r
def uptoBulkEntry {H : Type} : Lit × DataW H → Nat
  | (.string bytes, d) => bytes.length + uptoBulk d + 1
  | (_, d) => uptoBulk d + 1
 end
def uptoSmall : (H : Type) → List (DataW H) → Bool := fun _ ds => decide (uptoBulkAll ds ≤ 1048576)
def OpenSpec.upto (s : _root_.Go.ChangeSpec) : _root_.Go.OpenSpec := { _root_.Go.OpenSpec.ofChange s with cond := some uptoSmall }

/-- 'haulierlaw05.RoadGraphs', WHERE WHAT IT READS IS OF BULK AT MOST 1048576: true; the input reads as it did. -/
def roadGraphsUptoRow : OpenClaim := { program := "ytkgpjhechopfhaa", sum := "86874c9286f723f657378bb34a95498b55a1a855fa5fe18e34089380ef3a3ea8", func := "haulier/haulierlaw05.RoadGraphs", spec := "roadGraphs", unfollowed := true, recurses := true, apart := false, narrowed := true }
def RoadGraphsUptoSaid : Prop := roadGraphsUptoRow.holds Try.pinned (OpenSpec.upto roadGraphsSpec)

/-- 'haulierlaw05.RoadMetrics', WHERE WHAT IT READS IS OF BULK AT MOST 1048576: true; the input reads as it did. -/
def roadMetricsUptoRow : OpenClaim := { program := "ytkgpjhechopfhaa", sum := "86874c9286f723f657378bb34a95498b55a1a855fa5fe18e34089380ef3a3ea8", func := "haulier/haulierlaw05.RoadMetrics", spec := "roadMetrics", unfollowed := true, recurses := true, apart := false, narrowed := true }
def RoadMetricsUptoSaid : Prop := roadMetricsUptoRow.holds Try.pinned (OpenSpec.upto roadMetricsSpec)

/-- 'haulierlaw05.RoadOwn', WHERE WHAT IT READS IS OF BULK AT MOST 1048576: true; the input reads as it did. -/
def roadOwnUptoRow : OpenClaim := { program := "ytkgpjhechopfhaa", sum := "86874c9286f723f657378bb34a95498b55a1a855fa5fe18e34089380ef3a3ea8", func := "haulier/haulierlaw05.RoadOwn", spec := "roadOwn", unfollowed := true, recurses := true, apart := false, narrowed := true }
def RoadOwnUptoSaid : Prop := roadOwnUptoRow.holds Try.pinned (OpenSpec.upto roadOwnSpec)

/-- 'haulierlaw05.RoadLightest', WHERE WHAT IT READS IS OF BULK AT MOST 1048576: true; the input reads as it did. -/
def roadLightestUptoRow : OpenClaim := { program := "ytkgpjhechopfhaa", sum := "86874c9286f723f657378bb34a95498b55a1a855fa5fe18e34089380ef3a3ea8", func := "haulier/haulierlaw05.RoadLightest", spec := "roadLightest", unfollowed := true, recurses := true, apart := false, narrowed := true }
def RoadLightestUptoSaid : Prop := roadLightestUptoRow.holds Try.pinned (OpenSpec.upto roadLightestSpec)

/-- 'haulierlaw06.ShortAll', WHERE WHAT IT READS IS OF BULK AT MOST 1048576: true; the input reads as it did. -/
def shortAllUptoRow : OpenClaim := { program := "ytkgpjhechopfhaa", sum := "86874c9286f723f657378bb34a95498b55a1a855fa5fe18e34089380ef3a3ea8", func := "haulier/haulierlaw06.ShortAll", spec := "shortAll", unfollowed := true, recurses := true, apart := false, narrowed := true }
def ShortAllUptoSaid : Prop := shortAllUptoRow.holds Try.pinned (OpenSpec.upto shortAllSpec)

/-- 'haulierlaw06.ShortWays', WHERE WHAT IT READS IS OF BULK AT MOST 1048576: true; the input reads as it did. -/
def shortWaysUptoRow : OpenClaim := { program := "ytkgpjhechopfhaa", sum := "86874c9286f723f657378bb34a95498b55a1a855fa5fe18e34089380ef3a3ea8", func := "haulier/haulierlaw06.ShortWays", spec := "shortWays", unfollowed := true, recurses := true, apart := false, narrowed := true }
def ShortWaysUptoSaid : Prop := shortWaysUptoRow.holds Try.pinned (OpenSpec.upto shortWaysSpec)

/-- 'haulierlaw06.ShortWeighs', WHERE WHAT IT READS IS OF BULK AT MOST 1048576: true; the input reads as it did. -/
def shortWeighsUptoRow : OpenClaim := { program := "ytkgpjhechopfhaa", sum := "86874c9286f723f657378bb34a95498b55a1a855fa5fe18e34089380ef3a3ea8", func := "haulier/haulierlaw06.ShortWeighs", spec := "shortWeighs", unfollowed := true, recurses := true, apart := false, narrowed := true }
def ShortWeighsUptoSaid : Prop := shortWeighsUptoRow.holds Try.pinned (OpenSpec.upto shortWeighsSpec)

/-- 'haulierlaw06.ShortTriangles', WHERE WHAT IT READS IS OF BULK AT MOST 1048576: true; the input reads as it did. -/
def shortTrianglesUptoRow : OpenClaim := { program := "ytkgpjhechopfhaa", sum := "86874c9286f723f657378bb34a95498b55a1a855fa5fe18e34089380ef3a3ea8", func := "haulier/haulierlaw06.ShortTriangles", spec := "shortTriangles", unfollowed := true, recurses := true, apart := false, narrowed := true }
def ShortTrianglesUptoSaid : Prop := shortTrianglesUptoRow.holds Try.pinned (OpenSpec.upto shortTrianglesSpec)

/-- 'haulierlaw06.ShortTurned', WHERE WHAT IT READS IS OF BULK AT MOST 1048576: true; the input reads as it did. -/
def shortTurnedUptoRow : OpenClaim := { program := "ytkgpjhechopfhaa", sum := "86874c9286f723f657378bb34a95498b55a1a855fa5fe18e34089380ef3a3ea8", func := "haulier/haulierlaw06.ShortTurned", spec := "shortTurned", unfollowed := true, recurses := true, apart := false, narrowed := true }
def ShortTurnedUptoSaid : Prop := shortTurnedUptoRow.holds Try.pinned (OpenSpec.upto shortTurnedSpec)

/-- 'haulierlaw06.ShortNil', WHERE WHAT IT READS IS OF BULK AT MOST 1048576: true; the input reads as it did. -/
def shortNilUptoRow : OpenClaim := { program := "ytkgpjhechopfhaa", sum := "86874c9286f723f657378bb34a95498b55a1a855fa5fe18e34089380ef3a3ea8", func := "haulier/haulierlaw06.ShortNil", spec := "shortNil", unfollowed := true, recurses := true, apart := false, narrowed := true }
def ShortNilUptoSaid : Prop := shortNilUptoRow.holds Try.pinned (OpenSpec.upto shortNilSpec)

/-- 'haulierlaw06.ShortMore', WHERE WHAT IT READS IS OF BULK AT MOST 1048576: true; the input reads as it did. -/
def shortMoreUptoRow : OpenClaim := { program := "ytkgpjhechopfhaa", sum := "86874c9286f723f657378bb34a95498b55a1a855fa5fe18e34089380ef3a3ea8", func := "haulier/haulierlaw06.ShortMore", spec := "shortMore", unfollowed := true, recurses := true, apart := false, narrowed := true }
def ShortMoreUptoSaid : Prop := shortMoreUptoRow.holds Try.pinned (OpenSpec.upto shortMoreSpec)

/-- 'haulierlaw06.ShortParts', WHERE WHAT IT READS IS OF BULK AT MOST 1048576: true; the input reads as it did. -/
def shortPartsUptoRow : OpenClaim := { program := "ytkgpjhechopfhaa", sum := "86874c9286f723f657378bb34a95498b55a1a855fa5fe18e34089380ef3a3ea8", func := "haulier/haulierlaw06.ShortParts", spec := "shortParts", unfollowed := true, recurses := true, apart := false, narrowed := true }
def ShortPartsUptoSaid : Prop := shortPartsUptoRow.holds Try.pinned (OpenSpec.upto shortPartsSpec)

end Rows
end Go.Proofs.Ytkgpjhechopfhaa
