/-
  No cell of these rows narrows 'for every input' (looked for: loops, veiled, ifaces, maps, wideKeys, modest, calm, conditions, laid).
  DERIVED. THE GIVEN ROWS OF THIS SEAT. 6 by the template 'for every input the law returns true; each argument reads behind the call as it read before'; 0 by the template 'total and deterministic' (their statements: YtlaaeimjbojejaaTotals.lean).
  GIVEN WITH THE SEED: the statements are not yours to turn. If you find one false, say at which input.
  Laid BY PROGRAM, IN A SANDBOX (cutbox-rows.mjs): the forced cells as the released guide's own fill.sh prints them over the translation 2a3cf6c2aea74353… (all of the seat's roots in one cut). By AI agents, Wed Nov 11 2026. No macro, syntax, notation, axiom, sorry.
-/
import Derived.Test.YtlaaeimjbojejaaChecked
import GoSem.Claim
import GoSem.ClaimJoined
import GoSem.ClaimMapViews
import Derived.JoinedTies
import Derived.KernelRfl
namespace Go.Proofs.Ytlaaeimjbojejaa
/- THE CELL 'sum', in the pinned program and in every row, IS THE sha256 OF THE DUMP (.gsa) THAT YtlaaeimjbojejaaProg.lean LOADS. Nothing in Lean hashes anything: it is a label: what it is worth is what the hold of that sum in a sandbox is worth. -/
noncomputable def Try.pinned : Pinned := { name := "ytlaaeimjbojejaa", sum := "2a3cf6c2aea74353a3b4ad3b51e501217f13335aed0a5b85fe2747cad2bbc3d2", checked := Try.checked }
namespace Rows
def none {H : Type} : Left H := { results := [], args := [] }

/-- 'haulierlaw16.InnerChanges': WHATEVER THE INPUT: true; the input reads as it did. -/
def innerChangesSpec : ChangeSpec := { name := "innerChanges", fn := fun _ => fun
  | [d1, d2] => { results := [.lit (.bool true)], args := [d1, d2] }
  | _ => none }
def innerChangesRow : OpenClaim := { program := "ytlaaeimjbojejaa", sum := "2a3cf6c2aea74353a3b4ad3b51e501217f13335aed0a5b85fe2747cad2bbc3d2", func := "haulier/haulierlaw16.InnerChanges", spec := "innerChanges", inPlace := ["slices.overlaps[haulier/api.Visit]"], plainKeys := false, apart := false }
def InnerChangesSaid : Prop := innerChangesRow.holds Try.pinned (OpenSpec.ofChange innerChangesSpec)

/-- ITS FALSE NEIGHBOUR: 'it returns false'. Refute it at one input. -/
def innerChangesWrong : ChangeSpec := { name := "innerChanges", fn := fun _ => fun
  | [d1, d2] => { results := [.lit (.bool false)], args := [d1, d2] }
  | _ => none }
def InnerChangesWrongFalsely : Prop := innerChangesRow.holds Try.pinned (OpenSpec.ofChange innerChangesWrong)

/-- 'haulierlaw16.InnerAll': WHATEVER THE INPUT: true; the input reads as it did. -/
def innerAllSpec : ChangeSpec := { name := "innerAll", fn := fun _ => fun
  | [d1, d2] => { results := [.lit (.bool true)], args := [d1, d2] }
  | _ => none }
def innerAllRow : OpenClaim := { program := "ytlaaeimjbojejaa", sum := "2a3cf6c2aea74353a3b4ad3b51e501217f13335aed0a5b85fe2747cad2bbc3d2", func := "haulier/haulierlaw16.InnerAll", spec := "innerAll", inPlace := ["slices.overlaps[haulier/api.Visit]"], unfollowed := true, recurses := true, plainKeys := false, apart := false }
def InnerAllSaid : Prop := innerAllRow.holds Try.pinned (OpenSpec.ofChange innerAllSpec)

/-- ITS FALSE NEIGHBOUR: 'it returns false'. Refute it at one input. -/
def innerAllWrong : ChangeSpec := { name := "innerAll", fn := fun _ => fun
  | [d1, d2] => { results := [.lit (.bool false)], args := [d1, d2] }
  | _ => none }
def InnerAllWrongFalsely : Prop := innerAllRow.holds Try.pinned (OpenSpec.ofChange innerAllWrong)

/-- 'haulierlaw16.InnerPlays': WHATEVER THE INPUT: true; the input reads as it did. -/
def innerPlaysSpec : ChangeSpec := { name := "innerPlays", fn := fun _ => fun
  | [d1, d2] => { results := [.lit (.bool true)], args := [d1, d2] }
  | _ => none }
def innerPlaysRow : OpenClaim := { program := "ytlaaeimjbojejaa", sum := "2a3cf6c2aea74353a3b4ad3b51e501217f13335aed0a5b85fe2747cad2bbc3d2", func := "haulier/haulierlaw16.InnerPlays", spec := "innerPlays", inPlace := ["slices.overlaps[haulier/api.Visit]"], plainKeys := false, apart := false }
def InnerPlaysSaid : Prop := innerPlaysRow.holds Try.pinned (OpenSpec.ofChange innerPlaysSpec)

/-- ITS FALSE NEIGHBOUR: 'it returns false'. Refute it at one input. -/
def innerPlaysWrong : ChangeSpec := { name := "innerPlays", fn := fun _ => fun
  | [d1, d2] => { results := [.lit (.bool false)], args := [d1, d2] }
  | _ => none }
def InnerPlaysWrongFalsely : Prop := innerPlaysRow.holds Try.pinned (OpenSpec.ofChange innerPlaysWrong)

/-- 'haulierlaw16.InnerBack': WHATEVER THE INPUT: true; the input reads as it did. -/
def innerBackSpec : ChangeSpec := { name := "innerBack", fn := fun _ => fun
  | [d1, d2] => { results := [.lit (.bool true)], args := [d1, d2] }
  | _ => none }
def innerBackRow : OpenClaim := { program := "ytlaaeimjbojejaa", sum := "2a3cf6c2aea74353a3b4ad3b51e501217f13335aed0a5b85fe2747cad2bbc3d2", func := "haulier/haulierlaw16.InnerBack", spec := "innerBack", inPlace := ["slices.overlaps[haulier/api.Visit]"], plainKeys := false, apart := false }
def InnerBackSaid : Prop := innerBackRow.holds Try.pinned (OpenSpec.ofChange innerBackSpec)

/-- ITS FALSE NEIGHBOUR: 'it returns false'. Refute it at one input. -/
def innerBackWrong : ChangeSpec := { name := "innerBack", fn := fun _ => fun
  | [d1, d2] => { results := [.lit (.bool false)], args := [d1, d2] }
  | _ => none }
def InnerBackWrongFalsely : Prop := innerBackRow.holds Try.pinned (OpenSpec.ofChange innerBackWrong)

/-- 'haulierlaw16.InnerOwn': WHATEVER THE INPUT: true; the input reads as it did. -/
def innerOwnSpec : ChangeSpec := { name := "innerOwn", fn := fun _ => fun
  | [d1, d2] => { results := [.lit (.bool true)], args := [d1, d2] }
  | _ => none }
def innerOwnRow : OpenClaim := { program := "ytlaaeimjbojejaa", sum := "2a3cf6c2aea74353a3b4ad3b51e501217f13335aed0a5b85fe2747cad2bbc3d2", func := "haulier/haulierlaw16.InnerOwn", spec := "innerOwn", inPlace := ["slices.overlaps[haulier/api.Visit]"], plainKeys := false, apart := false }
def InnerOwnSaid : Prop := innerOwnRow.holds Try.pinned (OpenSpec.ofChange innerOwnSpec)

/-- ITS FALSE NEIGHBOUR: 'it returns false'. Refute it at one input. -/
def innerOwnWrong : ChangeSpec := { name := "innerOwn", fn := fun _ => fun
  | [d1, d2] => { results := [.lit (.bool false)], args := [d1, d2] }
  | _ => none }
def InnerOwnWrongFalsely : Prop := innerOwnRow.holds Try.pinned (OpenSpec.ofChange innerOwnWrong)

/-- 'haulierlaw16.InnerPairs': WHATEVER THE INPUT: true; the input reads as it did. -/
def innerPairsSpec : ChangeSpec := { name := "innerPairs", fn := fun _ => fun
  | [d1, d2, d3, d4] => { results := [.lit (.bool true)], args := [d1, d2, d3, d4] }
  | _ => none }
def innerPairsRow : OpenClaim := { program := "ytlaaeimjbojejaa", sum := "2a3cf6c2aea74353a3b4ad3b51e501217f13335aed0a5b85fe2747cad2bbc3d2", func := "haulier/haulierlaw16.InnerPairs", spec := "innerPairs", inPlace := ["slices.overlaps[haulier/api.Visit]"], plainKeys := false, apart := false }
def InnerPairsSaid : Prop := innerPairsRow.holds Try.pinned (OpenSpec.ofChange innerPairsSpec)

/-- ITS FALSE NEIGHBOUR: 'it returns false'. Refute it at one input. -/
def innerPairsWrong : ChangeSpec := { name := "innerPairs", fn := fun _ => fun
  | [d1, d2, d3, d4] => { results := [.lit (.bool false)], args := [d1, d2, d3, d4] }
  | _ => none }
def InnerPairsWrongFalsely : Prop := innerPairsRow.holds Try.pinned (OpenSpec.ofChange innerPairsWrong)

/- THE SECOND FORM. 'bulk': how many values and letters a reading holds, each counted each time it is reached (what is shared counts as often as it is met; a slice's spare places count too). A statement '..UptoSaid' is the law's where the arguments, and the package variables that the reading takes, are together of bulk at most 1048576: NARROWER than '..Said'. Prove '..Said' where nothing that the law and all that it calls make is longer than what came in: it says more and counts as full. Else prove '..UptoSaid'. A law counts once. -/
mutual
def uptoBulk {H : Type} : DataW H → Nat
  | .lit (.string bytes) => bytes.length + 1
  | .lit _ => 1
  | .nil => 1
  | .ptr d => uptoBulk d + 1
  | .slice elems spare => uptoBulkAll elems + uptoBulkAll spare + 1
  | .agg parts => uptoBulkAll parts + 1
  | .iface _ d => uptoBulk d + 1
  | .map entries => uptoBulkEntries entries + 1
  | .held _ => 1
def uptoBulkAll {H : Type} : List (DataW H) → Nat
  | [] => 0
  | d :: r => uptoBulk d + uptoBulkAll r
def uptoBulkEntries {H : Type} : List (Lit × DataW H) → Nat
  | [] => 0
  | x :: r => uptoBulkEntry x + uptoBulkEntries r
def uptoBulkEntry {H : Type} : Lit × DataW H → Nat
  | (.string bytes, d) => bytes.length + uptoBulk d + 1
  | (_, d) => uptoBulk d + 1
 end
def uptoSmall : (H : Type) → List (DataW H) → Bool := fun _ ds => decide (uptoBulkAll ds ≤ 1048576)
def OpenSpec.upto (s : _root_.Go.ChangeSpec) : _root_.Go.OpenSpec := { _root_.Go.OpenSpec.ofChange s with cond := some uptoSmall }

/-- 'haulierlaw16.InnerChanges', WHERE WHAT IT READS IS OF BULK AT MOST 1048576: true; the input reads as it did. -/
def innerChangesUptoRow : OpenClaim := { program := "ytlaaeimjbojejaa", sum := "2a3cf6c2aea74353a3b4ad3b51e501217f13335aed0a5b85fe2747cad2bbc3d2", func := "haulier/haulierlaw16.InnerChanges", spec := "innerChanges", inPlace := ["slices.overlaps[haulier/api.Visit]"], plainKeys := false, apart := false, narrowed := true }
def InnerChangesUptoSaid : Prop := innerChangesUptoRow.holds Try.pinned (OpenSpec.upto innerChangesSpec)

/-- 'haulierlaw16.InnerAll', WHERE WHAT IT READS IS OF BULK AT MOST 1048576: true; the input reads as it did. -/
def innerAllUptoRow : OpenClaim := { program := "ytlaaeimjbojejaa", sum := "2a3cf6c2aea74353a3b4ad3b51e501217f13335aed0a5b85fe2747cad2bbc3d2", func := "haulier/haulierlaw16.InnerAll", spec := "innerAll", inPlace := ["slices.overlaps[haulier/api.Visit]"], unfollowed := true, recurses := true, plainKeys := false, apart := false, narrowed := true }
def InnerAllUptoSaid : Prop := innerAllUptoRow.holds Try.pinned (OpenSpec.upto innerAllSpec)

/-- 'haulierlaw16.InnerPlays', WHERE WHAT IT READS IS OF BULK AT MOST 1048576: true; the input reads as it did. -/
def innerPlaysUptoRow : OpenClaim := { program := "ytlaaeimjbojejaa", sum := "2a3cf6c2aea74353a3b4ad3b51e501217f13335aed0a5b85fe2747cad2bbc3d2", func := "haulier/haulierlaw16.InnerPlays", spec := "innerPlays", inPlace := ["slices.overlaps[haulier/api.Visit]"], plainKeys := false, apart := false, narrowed := true }
def InnerPlaysUptoSaid : Prop := innerPlaysUptoRow.holds Try.pinned (OpenSpec.upto innerPlaysSpec)

/-- 'haulierlaw16.InnerBack', WHERE WHAT IT READS IS OF BULK AT MOST 1048576: true; the input reads as it did. -/
def innerBackUptoRow : OpenClaim := { program := "ytlaaeimjbojejaa", sum := "2a3cf6c2aea74353a3b4ad3b51e501217f13335aed0a5b85fe2747cad2bbc3d2", func := "haulier/haulierlaw16.InnerBack", spec := "innerBack", inPlace := ["slices.overlaps[haulier/api.Visit]"], plainKeys := false, apart := false, narrowed := true }
def InnerBackUptoSaid : Prop := innerBackUptoRow.holds Try.pinned (OpenSpec.upto innerBackSpec)

/-- 'haulierlaw16.InnerOwn', WHERE WHAT IT READS IS OF BULK AT MOST 1048576: true; the input reads as it did. -/
def innerOwnUptoRow : OpenClaim := { program := "ytlaaeimjbojejaa", sum := "2a3cf6c2aea74353a3b4ad3b51e501217f13335aed0a5b85fe2747cad2bbc3d2", func := "haulier/haulierlaw16.InnerOwn", spec := "innerOwn", inPlace := ["slices.overlaps[haulier/api.Visit]"], plainKeys := false, apart := false, narrowed := true }
def InnerOwnUptoSaid : Prop := innerOwnUptoRow.holds Try.pinned (OpenSpec.upto innerOwnSpec)

/-- 'haulierlaw16.InnerPairs', WHERE WHAT IT READS IS OF BULK AT MOST 1048576: true; the input reads as it did. -/
def innerPairsUptoRow : OpenClaim := { program := "ytlaaeimjbojejaa", sum := "2a3cf6c2aea74353a3b4ad3b51e501217f13335aed0a5b85fe2747cad2bbc3d2", func := "haulier/haulierlaw16.InnerPairs", spec := "innerPairs", inPlace := ["slices.overlaps[haulier/api.Visit]"], plainKeys := false, apart := false, narrowed := true }
def InnerPairsUptoSaid : Prop := innerPairsUptoRow.holds Try.pinned (OpenSpec.upto innerPairsSpec)

end Rows
end Go.Proofs.Ytlaaeimjbojejaa
