/-
  No cell of these rows narrows 'for every input' (looked for: loops, veiled, ifaces, maps, wideKeys, modest, calm, conditions, laid).
  DERIVED. THE GIVEN ROWS OF THIS SEAT. 8 by the template 'for every input the law returns true; each argument reads behind the call as it read before'; 0 by the template 'total and deterministic' (their statements: YtndbikoccdjafaaTotals.lean).
  GIVEN WITH THE SEED: the statements are not yours to turn. If you find one false, say at which input.
  Laid BY PROGRAM, IN A SANDBOX (cutbox-rows.mjs): the forced cells as the released guide's own fill.sh prints them over the translation 65e028a29ac74564… (all of the seat's roots in one cut). By AI agents, Wed Nov 11 2026. No macro, syntax, notation, axiom, sorry.
-/
import Derived.Test.YtndbikoccdjafaaChecked
import GoSem.Claim
import GoSem.ClaimJoined
import GoSem.ClaimMapViews
import Derived.JoinedTies
import Derived.KernelRfl
namespace Go.Proofs.Ytndbikoccdjafaa
/- THE CELL 'sum', in the pinned program and in every row, IS THE sha256 OF THE DUMP (.gsa) THAT YtndbikoccdjafaaProg.lean LOADS. Nothing in Lean hashes anything: it is a label: what it is worth is what the hold of that sum in a sandbox is worth. -/
noncomputable def Try.pinned : Pinned := { name := "ytndbikoccdjafaa", sum := "65e028a29ac74564230ae67f0d4fd25a16733566bf9954366608fd6048f86a17", checked := Try.checked }
namespace Rows
def none {H : Type} : Left H := { results := [], args := [] }

/-- 'haulierlaw14.SlackLatest': WHATEVER THE INPUT: true; the input reads as it did. -/
def slackLatestSpec : ChangeSpec := { name := "slackLatest", fn := fun _ => fun
  | [d1, d2, d3] => { results := [.lit (.bool true)], args := [d1, d2, d3] }
  | _ => none }
def slackLatestRow : OpenClaim := { program := "ytndbikoccdjafaa", sum := "65e028a29ac74564230ae67f0d4fd25a16733566bf9954366608fd6048f86a17", func := "haulier/haulierlaw14.SlackLatest", spec := "slackLatest", unfollowed := true, recurses := true, plainKeys := false, apart := false }
def SlackLatestSaid : Prop := slackLatestRow.holds Try.pinned (OpenSpec.ofChange slackLatestSpec)

/-- ITS FALSE NEIGHBOUR: 'it returns false'. Refute it at one input. -/
def slackLatestWrong : ChangeSpec := { name := "slackLatest", fn := fun _ => fun
  | [d1, d2, d3] => { results := [.lit (.bool false)], args := [d1, d2, d3] }
  | _ => none }
def SlackLatestWrongFalsely : Prop := slackLatestRow.holds Try.pinned (OpenSpec.ofChange slackLatestWrong)

/-- 'haulierlaw14.SlackEnds': WHATEVER THE INPUT: true; the input reads as it did. -/
def slackEndsSpec : ChangeSpec := { name := "slackEnds", fn := fun _ => fun
  | [d1, d2, d3, d4] => { results := [.lit (.bool true)], args := [d1, d2, d3, d4] }
  | _ => none }
def slackEndsRow : OpenClaim := { program := "ytndbikoccdjafaa", sum := "65e028a29ac74564230ae67f0d4fd25a16733566bf9954366608fd6048f86a17", func := "haulier/haulierlaw14.SlackEnds", spec := "slackEnds", unfollowed := true, recurses := true, plainKeys := false, apart := false }
def SlackEndsSaid : Prop := slackEndsRow.holds Try.pinned (OpenSpec.ofChange slackEndsSpec)

/-- ITS FALSE NEIGHBOUR: 'it returns false'. Refute it at one input. -/
def slackEndsWrong : ChangeSpec := { name := "slackEnds", fn := fun _ => fun
  | [d1, d2, d3, d4] => { results := [.lit (.bool false)], args := [d1, d2, d3, d4] }
  | _ => none }
def SlackEndsWrongFalsely : Prop := slackEndsRow.holds Try.pinned (OpenSpec.ofChange slackEndsWrong)

/-- 'haulierlaw14.SlackPlan': WHATEVER THE INPUT: true; the input reads as it did. -/
def slackPlanSpec : ChangeSpec := { name := "slackPlan", fn := fun _ => fun
  | [d1, d2, d3, d4] => { results := [.lit (.bool true)], args := [d1, d2, d3, d4] }
  | _ => none }
def slackPlanRow : OpenClaim := { program := "ytndbikoccdjafaa", sum := "65e028a29ac74564230ae67f0d4fd25a16733566bf9954366608fd6048f86a17", func := "haulier/haulierlaw14.SlackPlan", spec := "slackPlan", unfollowed := true, recurses := true, plainKeys := false, apart := false }
def SlackPlanSaid : Prop := slackPlanRow.holds Try.pinned (OpenSpec.ofChange slackPlanSpec)

/-- ITS FALSE NEIGHBOUR: 'it returns false'. Refute it at one input. -/
def slackPlanWrong : ChangeSpec := { name := "slackPlan", fn := fun _ => fun
  | [d1, d2, d3, d4] => { results := [.lit (.bool false)], args := [d1, d2, d3, d4] }
  | _ => none }
def SlackPlanWrongFalsely : Prop := slackPlanRow.holds Try.pinned (OpenSpec.ofChange slackPlanWrong)

/-- 'haulierlaw14.SlackNil': WHATEVER THE INPUT: true; the input reads as it did. -/
def slackNilSpec : ChangeSpec := { name := "slackNil", fn := fun _ => fun
  | [d1, d2, d3] => { results := [.lit (.bool true)], args := [d1, d2, d3] }
  | _ => none }
def slackNilRow : OpenClaim := { program := "ytndbikoccdjafaa", sum := "65e028a29ac74564230ae67f0d4fd25a16733566bf9954366608fd6048f86a17", func := "haulier/haulierlaw14.SlackNil", spec := "slackNil", unfollowed := true, recurses := true, plainKeys := false, apart := false }
def SlackNilSaid : Prop := slackNilRow.holds Try.pinned (OpenSpec.ofChange slackNilSpec)

/-- ITS FALSE NEIGHBOUR: 'it returns false'. Refute it at one input. -/
def slackNilWrong : ChangeSpec := { name := "slackNil", fn := fun _ => fun
  | [d1, d2, d3] => { results := [.lit (.bool false)], args := [d1, d2, d3] }
  | _ => none }
def SlackNilWrongFalsely : Prop := slackNilRow.holds Try.pinned (OpenSpec.ofChange slackNilWrong)

/-- 'haulierlaw14.SlackShift': WHATEVER THE INPUT: true; the input reads as it did. -/
def slackShiftSpec : ChangeSpec := { name := "slackShift", fn := fun _ => fun
  | [d1, d2, d3, d4] => { results := [.lit (.bool true)], args := [d1, d2, d3, d4] }
  | _ => none }
def slackShiftRow : OpenClaim := { program := "ytndbikoccdjafaa", sum := "65e028a29ac74564230ae67f0d4fd25a16733566bf9954366608fd6048f86a17", func := "haulier/haulierlaw14.SlackShift", spec := "slackShift", unfollowed := true, recurses := true, plainKeys := false, apart := false }
def SlackShiftSaid : Prop := slackShiftRow.holds Try.pinned (OpenSpec.ofChange slackShiftSpec)

/-- ITS FALSE NEIGHBOUR: 'it returns false'. Refute it at one input. -/
def slackShiftWrong : ChangeSpec := { name := "slackShift", fn := fun _ => fun
  | [d1, d2, d3, d4] => { results := [.lit (.bool false)], args := [d1, d2, d3, d4] }
  | _ => none }
def SlackShiftWrongFalsely : Prop := slackShiftRow.holds Try.pinned (OpenSpec.ofChange slackShiftWrong)

/-- 'haulierlaw15.SeedWays': WHATEVER THE INPUT: true; the input reads as it did. -/
def seedWaysSpec : ChangeSpec := { name := "seedWays", fn := fun _ => fun
  | [d1, d2, d3, d4] => { results := [.lit (.bool true)], args := [d1, d2, d3, d4] }
  | _ => none }
def seedWaysRow : OpenClaim := { program := "ytndbikoccdjafaa", sum := "65e028a29ac74564230ae67f0d4fd25a16733566bf9954366608fd6048f86a17", func := "haulier/haulierlaw15.SeedWays", spec := "seedWays", unfollowed := true, recurses := true, plainKeys := false, apart := false }
def SeedWaysSaid : Prop := seedWaysRow.holds Try.pinned (OpenSpec.ofChange seedWaysSpec)

/-- ITS FALSE NEIGHBOUR: 'it returns false'. Refute it at one input. -/
def seedWaysWrong : ChangeSpec := { name := "seedWays", fn := fun _ => fun
  | [d1, d2, d3, d4] => { results := [.lit (.bool false)], args := [d1, d2, d3, d4] }
  | _ => none }
def SeedWaysWrongFalsely : Prop := seedWaysRow.holds Try.pinned (OpenSpec.ofChange seedWaysWrong)

/-- 'haulierlaw15.SeedOwn': WHATEVER THE INPUT: true; the input reads as it did. -/
def seedOwnSpec : ChangeSpec := { name := "seedOwn", fn := fun _ => fun
  | [d1, d2, d3] => { results := [.lit (.bool true)], args := [d1, d2, d3] }
  | _ => none }
def seedOwnRow : OpenClaim := { program := "ytndbikoccdjafaa", sum := "65e028a29ac74564230ae67f0d4fd25a16733566bf9954366608fd6048f86a17", func := "haulier/haulierlaw15.SeedOwn", spec := "seedOwn", unfollowed := true, recurses := true, plainKeys := false, apart := false }
def SeedOwnSaid : Prop := seedOwnRow.holds Try.pinned (OpenSpec.ofChange seedOwnSpec)

/-- ITS FALSE NEIGHBOUR: 'it returns false'. Refute it at one input. -/
def seedOwnWrong : ChangeSpec := { name := "seedOwn", fn := fun _ => fun
  | [d1, d2, d3] => { results := [.lit (.bool false)], args := [d1, d2, d3] }
  | _ => none }
def SeedOwnWrongFalsely : Prop := seedOwnRow.holds Try.pinned (OpenSpec.ofChange seedOwnWrong)

/-- 'haulierlaw18.DriveOrder': WHATEVER THE INPUT: true; the input reads as it did. -/
def driveOrderSpec : ChangeSpec := { name := "driveOrder", fn := fun _ => fun
  | [d1, d2, d3, d4] => { results := [.lit (.bool true)], args := [d1, d2, d3, d4] }
  | _ => none }
def driveOrderRow : OpenClaim := { program := "ytndbikoccdjafaa", sum := "65e028a29ac74564230ae67f0d4fd25a16733566bf9954366608fd6048f86a17", func := "haulier/haulierlaw18.DriveOrder", spec := "driveOrder", unfollowed := true, recurses := true, plainKeys := false, apart := false }
def DriveOrderSaid : Prop := driveOrderRow.holds Try.pinned (OpenSpec.ofChange driveOrderSpec)

/-- ITS FALSE NEIGHBOUR: 'it returns false'. Refute it at one input. -/
def driveOrderWrong : ChangeSpec := { name := "driveOrder", fn := fun _ => fun
  | [d1, d2, d3, d4] => { results := [.lit (.bool false)], args := [d1, d2, d3, d4] }
  | _ => none }
def DriveOrderWrongFalsely : Prop := driveOrderRow.holds Try.pinned (OpenSpec.ofChange driveOrderWrong)

/- THE SECOND FORM. 'bulk': how many values and letters a reading holds, each counted each time it is reached (what is shared counts as often as it is met; a slice's spare places count too). A statement '..UptoSaid' is the law's where the arguments, and the package variables that the reading takes, are together of bulk at most 1048576: NARROWER than '..Said'. Prove '..Said' where nothing that the law and all that it calls make is longer than what came in: it says more and counts as full. Else prove '..UptoSaid'. A law counts once. -/
mutual
def uptoBulk {H : Type} : DataW H → Nat
  | .lit (.string bytes) => bytes.length + 1
  | .lit _ => 1
  | .nil => 1
  | .ptr d => uptoBulk d + 1
  | .slice elems spare => uptoBulkAll elems + uptoBulkAll spare + 1
  | .agg parts => uptoBulkAll parts + 1
  | .iface _ d => uptoBulk d + 1
  | .map entries => uptoBulkEntries entries + 1
  | .held _ => 1
def uptoBulkAll {H : Type} : List (DataW H) → Nat
  | [] => 0
  | d :: r => uptoBulk d + uptoBulkAll r
def uptoBulkEntries {H : Type} : List (Lit × DataW H) → Nat
  | [] => 0
  | x :: r => uptoBulkEntry x + uptoBulkEntries r
def uptoBulkEntry {H : Type} : Lit × DataW H → Nat
  | (.string bytes, d) => bytes.length + uptoBulk d + 1
  | (_, d) => uptoBulk d + 1
 end
def uptoSmall : (H : Type) → List (DataW H) → Bool := fun _ ds => decide (uptoBulkAll ds ≤ 1048576)
def OpenSpec.upto (s : _root_.Go.ChangeSpec) : _root_.Go.OpenSpec := { _root_.Go.OpenSpec.ofChange s with cond := some uptoSmall }

/-- 'haulierlaw14.SlackLatest', WHERE WHAT IT READS IS OF BULK AT MOST 1048576: true; the input reads as it did. -/
def slackLatestUptoRow : OpenClaim := { program := "ytndbikoccdjafaa", sum := "65e028a29ac74564230ae67f0d4fd25a16733566bf9954366608fd6048f86a17", func := "haulier/haulierlaw14.SlackLatest", spec := "slackLatest", unfollowed := true, recurses := true, plainKeys := false, apart := false, narrowed := true }
def SlackLatestUptoSaid : Prop := slackLatestUptoRow.holds Try.pinned (OpenSpec.upto slackLatestSpec)

/-- 'haulierlaw14.SlackEnds', WHERE WHAT IT READS IS OF BULK AT MOST 1048576: true; the input reads as it did. -/
def slackEndsUptoRow : OpenClaim := { program := "ytndbikoccdjafaa", sum := "65e028a29ac74564230ae67f0d4fd25a16733566bf9954366608fd6048f86a17", func := "haulier/haulierlaw14.SlackEnds", spec := "slackEnds", unfollowed := true, recurses := true, plainKeys := false, apart := false, narrowed := true }
def SlackEndsUptoSaid : Prop := slackEndsUptoRow.holds Try.pinned (OpenSpec.upto slackEndsSpec)

/-- 'haulierlaw14.SlackPlan', WHERE WHAT IT READS IS OF BULK AT MOST 1048576: true; the input reads as it did. -/
def slackPlanUptoRow : OpenClaim := { program := "ytndbikoccdjafaa", sum := "65e028a29ac74564230ae67f0d4fd25a16733566bf9954366608fd6048f86a17", func := "haulier/haulierlaw14.SlackPlan", spec := "slackPlan", unfollowed := true, recurses := true, plainKeys := false, apart := false, narrowed := true }
def SlackPlanUptoSaid : Prop := slackPlanUptoRow.holds Try.pinned (OpenSpec.upto slackPlanSpec)

/-- 'haulierlaw14.SlackNil', WHERE WHAT IT READS IS OF BULK AT MOST 1048576: true; the input reads as it did. -/
def slackNilUptoRow : OpenClaim := { program := "ytndbikoccdjafaa", sum := "65e028a29ac74564230ae67f0d4fd25a16733566bf9954366608fd6048f86a17", func := "haulier/haulierlaw14.SlackNil", spec := "slackNil", unfollowed := true, recurses := true, plainKeys := false, apart := false, narrowed := true }
def SlackNilUptoSaid : Prop := slackNilUptoRow.holds Try.pinned (OpenSpec.upto slackNilSpec)

/-- 'haulierlaw14.SlackShift', WHERE WHAT IT READS IS OF BULK AT MOST 1048576: true; the input reads as it did. -/
def slackShiftUptoRow : OpenClaim := { program := "ytndbikoccdjafaa", sum := "65e028a29ac74564230ae67f0d4fd25a16733566bf9954366608fd6048f86a17", func := "haulier/haulierlaw14.SlackShift", spec := "slackShift", unfollowed := true, recurses := true, plainKeys := false, apart := false, narrowed := true }
def SlackShiftUptoSaid : Prop := slackShiftUptoRow.holds Try.pinned (OpenSpec.upto slackShiftSpec)

/-- 'haulierlaw15.SeedWays', WHERE WHAT IT READS IS OF BULK AT MOST 1048576: true; the input reads as it did. -/
def seedWaysUptoRow : OpenClaim := { program := "ytndbikoccdjafaa", sum := "65e028a29ac74564230ae67f0d4fd25a16733566bf9954366608fd6048f86a17", func := "haulier/haulierlaw15.SeedWays", spec := "seedWays", unfollowed := true, recurses := true, plainKeys := false, apart := false, narrowed := true }
def SeedWaysUptoSaid : Prop := seedWaysUptoRow.holds Try.pinned (OpenSpec.upto seedWaysSpec)

/-- 'haulierlaw15.SeedOwn', WHERE WHAT IT READS IS OF BULK AT MOST 1048576: true; the input reads as it did. -/
def seedOwnUptoRow : OpenClaim := { program := "ytndbikoccdjafaa", sum := "65e028a29ac74564230ae67f0d4fd25a16733566bf9954366608fd6048f86a17", func := "haulier/haulierlaw15.SeedOwn", spec := "seedOwn", unfollowed := true, recurses := true, plainKeys := false, apart := false, narrowed := true }
def SeedOwnUptoSaid : Prop := seedOwnUptoRow.holds Try.pinned (OpenSpec.upto seedOwnSpec)

/-- 'haulierlaw18.DriveOrder', WHERE WHAT IT READS IS OF BULK AT MOST 1048576: true; the input reads as it did. -/
def driveOrderUptoRow : OpenClaim := { program := "ytndbikoccdjafaa", sum := "65e028a29ac74564230ae67f0d4fd25a16733566bf9954366608fd6048f86a17", func := "haulier/haulierlaw18.DriveOrder", spec := "driveOrder", unfollowed := true, recurses := true, plainKeys := false, apart := false, narrowed := true }
def DriveOrderUptoSaid : Prop := driveOrderUptoRow.holds Try.pinned (OpenSpec.upto driveOrderSpec)

end Rows
end Go.Proofs.Ytndbikoccdjafaa
