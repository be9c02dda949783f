/-
  No cell of these rows narrows 'for every input' (looked for: loops, veiled, ifaces, maps, wideKeys, modest, calm, conditions, laid).
  DERIVED. THE GIVEN ROWS OF THIS SEAT. 9 by the template 'for every input the law returns true; each argument reads behind the call as it read before'; 0 by the template 'total and deterministic' (their statements: YtdnkmjafkpnliaaTotals.lean).
  GIVEN WITH THE SEED: the statements are not yours to turn. If you find one false, say at which input.
  Laid BY PROGRAM, IN A SANDBOX (cutbox-rows.mjs): the forced cells as the released guide's own fill.sh prints them over the translation 784d3013b73a633f… (all of the seat's roots in one cut). By AI agents, Wed Nov 11 2026. No macro, syntax, notation, axiom, sorry.
-/
import Derived.Test.YtdnkmjafkpnliaaChecked
import GoSem.Claim
import GoSem.ClaimJoined
import GoSem.ClaimMapViews
import Derived.JoinedTies
import Derived.KernelRfl
namespace Go.Proofs.Ytdnkmjafkpnliaa
/- THE CELL 'sum', in the pinned program and in every row, IS THE sha256 OF THE DUMP (.gsa) THAT YtdnkmjafkpnliaaProg.lean LOADS. Nothing in Lean hashes anything: it is a label: what it is worth is what the hold of that sum in a sandbox is worth. -/
noncomputable def Try.pinned : Pinned := { name := "ytdnkmjafkpnliaa", sum := "784d3013b73a633fcc779a53b51bd5170775af25c41860ada463723b733209f4", checked := Try.checked }
namespace Rows
def none {H : Type} : Left H := { results := [], args := [] }

/-- 'haulierlaw16.InnerChanges': WHATEVER THE INPUT: true; the input reads as it did. -/
def innerChangesSpec : ChangeSpec := { name := "innerChanges", fn := fun _ => fun
  | [d1, d2] => { results := [.lit (.bool true)], args := [d1, d2] }
  | _ => none }
def innerChangesRow : OpenClaim := { program := "ytdnkmjafkpnliaa", sum := "784d3013b73a633fcc779a53b51bd5170775af25c41860ada463723b733209f4", func := "haulier/haulierlaw16.InnerChanges", spec := "innerChanges", inPlace := ["slices.overlaps[haulier/api.Visit]"], plainKeys := false, apart := false }
def InnerChangesSaid : Prop := innerChangesRow.holds Try.pinned (OpenSpec.ofChange innerChangesSpec)

/-- ITS FALSE NEIGHBOUR: 'it returns false'. Refute it at one input. -/
def innerChangesWrong : ChangeSpec := { name := "innerChanges", fn := fun _ => fun
  | [d1, d2] => { results := [.lit (.bool false)], args := [d1, d2] }
  | _ => none }
def InnerChangesWrongFalsely : Prop := innerChangesRow.holds Try.pinned (OpenSpec.ofChange innerChangesWrong)

/-- 'haulierlaw16.InnerAll': WHATEVER THE INPUT: true; the input reads as it did. -/
def innerAllSpec : ChangeSpec := { name := "innerAll", fn := fun _ => fun
  | [d1, d2] => { results := [.lit (.bool true)], args := [d1, d2] }
  | _ => none }
def innerAllRow : OpenClaim := { program := "ytdnkmjafkpnliaa", sum := "784d3013b73a633fcc779a53b51bd5170775af25c41860ada463723b733209f4", func := "haulier/haulierlaw16.InnerAll", spec := "innerAll", inPlace := ["slices.overlaps[haulier/api.Visit]"], unfollowed := true, recurses := true, plainKeys := false, apart := false }
def InnerAllSaid : Prop := innerAllRow.holds Try.pinned (OpenSpec.ofChange innerAllSpec)

/-- ITS FALSE NEIGHBOUR: 'it returns false'. Refute it at one input. -/
def innerAllWrong : ChangeSpec := { name := "innerAll", fn := fun _ => fun
  | [d1, d2] => { results := [.lit (.bool false)], args := [d1, d2] }
  | _ => none }
def InnerAllWrongFalsely : Prop := innerAllRow.holds Try.pinned (OpenSpec.ofChange innerAllWrong)

/-- 'haulierlaw16.InnerPlays': WHATEVER THE INPUT: true; the input reads as it did. -/
def innerPlaysSpec : ChangeSpec := { name := "innerPlays", fn := fun _ => fun
  | [d1, d2] => { results := [.lit (.bool true)], args := [d1, d2] }
  | _ => none }
def innerPlaysRow : OpenClaim := { program := "ytdnkmjafkpnliaa", sum := "784d3013b73a633fcc779a53b51bd5170775af25c41860ada463723b733209f4", func := "haulier/haulierlaw16.InnerPlays", spec := "innerPlays", inPlace := ["slices.overlaps[haulier/api.Visit]"], plainKeys := false, apart := false }
def InnerPlaysSaid : Prop := innerPlaysRow.holds Try.pinned (OpenSpec.ofChange innerPlaysSpec)

/-- ITS FALSE NEIGHBOUR: 'it returns false'. Refute it at one input. -/
def innerPlaysWrong : ChangeSpec := { name := "innerPlays", fn := fun _ => fun
  | [d1, d2] => { results := [.lit (.bool false)], args := [d1, d2] }
  | _ => none }
def InnerPlaysWrongFalsely : Prop := innerPlaysRow.holds Try.pinned (OpenSpec.ofChange innerPlaysWrong)

/-- 'haulierlaw17.InterChanges': WHATEVER THE INPUT: true; the input reads as it did. -/
def interChangesSpec : ChangeSpec := { name := "interChanges", fn := fun _ => fun
  | [d1, d2, d3] => { results := [.lit (.bool true)], args := [d1, d2, d3] }
  | _ => none }
def interChangesRow : OpenClaim := { program := "ytdnkmjafkpnliaa", sum := "784d3013b73a633fcc779a53b51bd5170775af25c41860ada463723b733209f4", func := "haulier/haulierlaw17.InterChanges", spec := "interChanges", inPlace := ["slices.overlaps[haulier/api.Visit]"], plainKeys := false, apart := false }
def InterChangesSaid : Prop := interChangesRow.holds Try.pinned (OpenSpec.ofChange interChangesSpec)

/-- ITS FALSE NEIGHBOUR: 'it returns false'. Refute it at one input. -/
def interChangesWrong : ChangeSpec := { name := "interChanges", fn := fun _ => fun
  | [d1, d2, d3] => { results := [.lit (.bool false)], args := [d1, d2, d3] }
  | _ => none }
def InterChangesWrongFalsely : Prop := interChangesRow.holds Try.pinned (OpenSpec.ofChange interChangesWrong)

/-- 'haulierlaw17.InterAll': WHATEVER THE INPUT: true; the input reads as it did. -/
def interAllSpec : ChangeSpec := { name := "interAll", fn := fun _ => fun
  | [d1, d2, d3] => { results := [.lit (.bool true)], args := [d1, d2, d3] }
  | _ => none }
def interAllRow : OpenClaim := { program := "ytdnkmjafkpnliaa", sum := "784d3013b73a633fcc779a53b51bd5170775af25c41860ada463723b733209f4", func := "haulier/haulierlaw17.InterAll", spec := "interAll", inPlace := ["slices.overlaps[haulier/api.Visit]"], unfollowed := true, recurses := true, plainKeys := false, apart := false }
def InterAllSaid : Prop := interAllRow.holds Try.pinned (OpenSpec.ofChange interAllSpec)

/-- ITS FALSE NEIGHBOUR: 'it returns false'. Refute it at one input. -/
def interAllWrong : ChangeSpec := { name := "interAll", fn := fun _ => fun
  | [d1, d2, d3] => { results := [.lit (.bool false)], args := [d1, d2, d3] }
  | _ => none }
def InterAllWrongFalsely : Prop := interAllRow.holds Try.pinned (OpenSpec.ofChange interAllWrong)

/-- 'haulierlaw17.InterPlays': WHATEVER THE INPUT: true; the input reads as it did. -/
def interPlaysSpec : ChangeSpec := { name := "interPlays", fn := fun _ => fun
  | [d1, d2, d3] => { results := [.lit (.bool true)], args := [d1, d2, d3] }
  | _ => none }
def interPlaysRow : OpenClaim := { program := "ytdnkmjafkpnliaa", sum := "784d3013b73a633fcc779a53b51bd5170775af25c41860ada463723b733209f4", func := "haulier/haulierlaw17.InterPlays", spec := "interPlays", inPlace := ["slices.overlaps[haulier/api.Visit]"], plainKeys := false, apart := false }
def InterPlaysSaid : Prop := interPlaysRow.holds Try.pinned (OpenSpec.ofChange interPlaysSpec)

/-- ITS FALSE NEIGHBOUR: 'it returns false'. Refute it at one input. -/
def interPlaysWrong : ChangeSpec := { name := "interPlays", fn := fun _ => fun
  | [d1, d2, d3] => { results := [.lit (.bool false)], args := [d1, d2, d3] }
  | _ => none }
def InterPlaysWrongFalsely : Prop := interPlaysRow.holds Try.pinned (OpenSpec.ofChange interPlaysWrong)

/-- 'haulierlaw17.InterBack': WHATEVER THE INPUT: true; the input reads as it did. -/
def interBackSpec : ChangeSpec := { name := "interBack", fn := fun _ => fun
  | [d1, d2, d3] => { results := [.lit (.bool true)], args := [d1, d2, d3] }
  | _ => none }
def interBackRow : OpenClaim := { program := "ytdnkmjafkpnliaa", sum := "784d3013b73a633fcc779a53b51bd5170775af25c41860ada463723b733209f4", func := "haulier/haulierlaw17.InterBack", spec := "interBack", inPlace := ["slices.overlaps[haulier/api.Visit]"], plainKeys := false, apart := false }
def InterBackSaid : Prop := interBackRow.holds Try.pinned (OpenSpec.ofChange interBackSpec)

/-- ITS FALSE NEIGHBOUR: 'it returns false'. Refute it at one input. -/
def interBackWrong : ChangeSpec := { name := "interBack", fn := fun _ => fun
  | [d1, d2, d3] => { results := [.lit (.bool false)], args := [d1, d2, d3] }
  | _ => none }
def InterBackWrongFalsely : Prop := interBackRow.holds Try.pinned (OpenSpec.ofChange interBackWrong)

/-- 'haulierlaw17.InterOwn': WHATEVER THE INPUT: true; the input reads as it did. -/
def interOwnSpec : ChangeSpec := { name := "interOwn", fn := fun _ => fun
  | [d1, d2, d3] => { results := [.lit (.bool true)], args := [d1, d2, d3] }
  | _ => none }
def interOwnRow : OpenClaim := { program := "ytdnkmjafkpnliaa", sum := "784d3013b73a633fcc779a53b51bd5170775af25c41860ada463723b733209f4", func := "haulier/haulierlaw17.InterOwn", spec := "interOwn", inPlace := ["slices.overlaps[haulier/api.Visit]"], plainKeys := false, apart := false }
def InterOwnSaid : Prop := interOwnRow.holds Try.pinned (OpenSpec.ofChange interOwnSpec)

/-- ITS FALSE NEIGHBOUR: 'it returns false'. Refute it at one input. -/
def interOwnWrong : ChangeSpec := { name := "interOwn", fn := fun _ => fun
  | [d1, d2, d3] => { results := [.lit (.bool false)], args := [d1, d2, d3] }
  | _ => none }
def InterOwnWrongFalsely : Prop := interOwnRow.holds Try.pinned (OpenSpec.ofChange interOwnWrong)

/-- 'haulierlaw17.InterSizes': WHATEVER THE INPUT: true; the input reads as it did. -/
def interSizesSpec : ChangeSpec := { name := "interSizes", fn := fun _ => fun
  | [d1, d2, d3] => { results := [.lit (.bool true)], args := [d1, d2, d3] }
  | _ => none }
def interSizesRow : OpenClaim := { program := "ytdnkmjafkpnliaa", sum := "784d3013b73a633fcc779a53b51bd5170775af25c41860ada463723b733209f4", func := "haulier/haulierlaw17.InterSizes", spec := "interSizes", inPlace := ["slices.overlaps[haulier/api.Visit]"], plainKeys := false, apart := false }
def InterSizesSaid : Prop := interSizesRow.holds Try.pinned (OpenSpec.ofChange interSizesSpec)

/-- ITS FALSE NEIGHBOUR: 'it returns false'. Refute it at one input. -/
def interSizesWrong : ChangeSpec := { name := "interSizes", fn := fun _ => fun
  | [d1, d2, d3] => { results := [.lit (.bool false)], args := [d1, d2, d3] }
  | _ => none }
def InterSizesWrongFalsely : Prop := interSizesRow.holds Try.pinned (OpenSpec.ofChange interSizesWrong)

/- THE SECOND FORM. 'bulk': how many values and letters a reading holds, each counted each time it is reached (what is shared counts as often as it is met; a slice's spare places count too). A statement '..UptoSaid' is the law's where the arguments, and the package variables that the reading takes, are together of bulk at most 1048576: NARROWER than '..Said'. Prove '..Said' where nothing that the law and all that it calls make is longer than what came in: it says more and counts as full. Else prove '..UptoSaid'. A law counts once. -/
mutual
def uptoBulk {H : Type} : DataW H → Nat
  | .lit (.string bytes) => bytes.length + 1
  | .lit _ => 1
  | .nil => 1
  | .ptr d => uptoBulk d + 1
  | .slice elems spare => uptoBulkAll elems + uptoBulkAll spare + 1
  | .agg parts => uptoBulkAll parts + 1
  | .iface _ d => uptoBulk d + 1
  | .map entries => uptoBulkEntries entries + 1
  | .held _ => 1
def uptoBulkAll {H : Type} : List (DataW H) → Nat
  | [] => 0
  | d :: r => uptoBulk d + uptoBulkAll r
def uptoBulkEntries {H : Type} : List (Lit × DataW H) → Nat
  | [] => 0
  | x :: r => uptoBulkEntry x + uptoBulkEntries r
def uptoBulkEntry {H : Type} : Lit × DataW H → Nat
  | (.string bytes, d) => bytes.length + uptoBulk d + 1
  | (_, d) => uptoBulk d + 1
 end
def uptoSmall : (H : Type) → List (DataW H) → Bool := fun _ ds => decide (uptoBulkAll ds ≤ 1048576)
def OpenSpec.upto (s : _root_.Go.ChangeSpec) : _root_.Go.OpenSpec := { _root_.Go.OpenSpec.ofChange s with cond := some uptoSmall }

/-- 'haulierlaw16.InnerChanges', WHERE WHAT IT READS IS OF BULK AT MOST 1048576: true; the input reads as it did. -/
def innerChangesUptoRow : OpenClaim := { program := "ytdnkmjafkpnliaa", sum := "784d3013b73a633fcc779a53b51bd5170775af25c41860ada463723b733209f4", func := "haulier/haulierlaw16.InnerChanges", spec := "innerChanges", inPlace := ["slices.overlaps[haulier/api.Visit]"], plainKeys := false, apart := false, narrowed := true }
def InnerChangesUptoSaid : Prop := innerChangesUptoRow.holds Try.pinned (OpenSpec.upto innerChangesSpec)

/-- 'haulierlaw16.InnerAll', WHERE WHAT IT READS IS OF BULK AT MOST 1048576: true; the input reads as it did. -/
def innerAllUptoRow : OpenClaim := { program := "ytdnkmjafkpnliaa", sum := "784d3013b73a633fcc779a53b51bd5170775af25c41860ada463723b733209f4", func := "haulier/haulierlaw16.InnerAll", spec := "innerAll", inPlace := ["slices.overlaps[haulier/api.Visit]"], unfollowed := true, recurses := true, plainKeys := false, apart := false, narrowed := true }
def InnerAllUptoSaid : Prop := innerAllUptoRow.holds Try.pinned (OpenSpec.upto innerAllSpec)

/-- 'haulierlaw16.InnerPlays', WHERE WHAT IT READS IS OF BULK AT MOST 1048576: true; the input reads as it did. -/
def innerPlaysUptoRow : OpenClaim := { program := "ytdnkmjafkpnliaa", sum := "784d3013b73a633fcc779a53b51bd5170775af25c41860ada463723b733209f4", func := "haulier/haulierlaw16.InnerPlays", spec := "innerPlays", inPlace := ["slices.overlaps[haulier/api.Visit]"], plainKeys := false, apart := false, narrowed := true }
def InnerPlaysUptoSaid : Prop := innerPlaysUptoRow.holds Try.pinned (OpenSpec.upto innerPlaysSpec)

/-- 'haulierlaw17.InterChanges', WHERE WHAT IT READS IS OF BULK AT MOST 1048576: true; the input reads as it did. -/
def interChangesUptoRow : OpenClaim := { program := "ytdnkmjafkpnliaa", sum := "784d3013b73a633fcc779a53b51bd5170775af25c41860ada463723b733209f4", func := "haulier/haulierlaw17.InterChanges", spec := "interChanges", inPlace := ["slices.overlaps[haulier/api.Visit]"], plainKeys := false, apart := false, narrowed := true }
def InterChangesUptoSaid : Prop := interChangesUptoRow.holds Try.pinned (OpenSpec.upto interChangesSpec)

/-- 'haulierlaw17.InterAll', WHERE WHAT IT READS IS OF BULK AT MOST 1048576: true; the input reads as it did. -/
def interAllUptoRow : OpenClaim := { program := "ytdnkmjafkpnliaa", sum := "784d3013b73a633fcc779a53b51bd5170775af25c41860ada463723b733209f4", func := "haulier/haulierlaw17.InterAll", spec := "interAll", inPlace := ["slices.overlaps[haulier/api.Visit]"], unfollowed := true, recurses := true, plainKeys := false, apart := false, narrowed := true }
def InterAllUptoSaid : Prop := interAllUptoRow.holds Try.pinned (OpenSpec.upto interAllSpec)

/-- 'haulierlaw17.InterPlays', WHERE WHAT IT READS IS OF BULK AT MOST 1048576: true; the input reads as it did. -/
def interPlaysUptoRow : OpenClaim := { program := "ytdnkmjafkpnliaa", sum := "784d3013b73a633fcc779a53b51bd5170775af25c41860ada463723b733209f4", func := "haulier/haulierlaw17.InterPlays", spec := "interPlays", inPlace := ["slices.overlaps[haulier/api.Visit]"], plainKeys := false, apart := false, narrowed := true }
def InterPlaysUptoSaid : Prop := interPlaysUptoRow.holds Try.pinned (OpenSpec.upto interPlaysSpec)

/-- 'haulierlaw17.InterBack', WHERE WHAT IT READS IS OF BULK AT MOST 1048576: true; the input reads as it did. -/
def interBackUptoRow : OpenClaim := { program := "ytdnkmjafkpnliaa", sum := "784d3013b73a633fcc779a53b51bd5170775af25c41860ada463723b733209f4", func := "haulier/haulierlaw17.InterBack", spec := "interBack", inPlace := ["slices.overlaps[haulier/api.Visit]"], plainKeys := false, apart := false, narrowed := true }
def InterBackUptoSaid : Prop := interBackUptoRow.holds Try.pinned (OpenSpec.upto interBackSpec)

/-- 'haulierlaw17.InterOwn', WHERE WHAT IT READS IS OF BULK AT MOST 1048576: true; the input reads as it did. -/
def interOwnUptoRow : OpenClaim := { program := "ytdnkmjafkpnliaa", sum := "784d3013b73a633fcc779a53b51bd5170775af25c41860ada463723b733209f4", func := "haulier/haulierlaw17.InterOwn", spec := "interOwn", inPlace := ["slices.overlaps[haulier/api.Visit]"], plainKeys := false, apart := false, narrowed := true }
def InterOwnUptoSaid : Prop := interOwnUptoRow.holds Try.pinned (OpenSpec.upto interOwnSpec)

/-- 'haulierlaw17.InterSizes', WHERE WHAT IT READS IS OF BULK AT MOST 1048576: true; the input reads as it did. -/
def interSizesUptoRow : OpenClaim := { program := "ytdnkmjafkpnliaa", sum := "784d3013b73a633fcc779a53b51bd5170775af25c41860ada463723b733209f4", func := "haulier/haulierlaw17.InterSizes", spec := "interSizes", inPlace := ["slices.overlaps[haulier/api.Visit]"], plainKeys := false, apart := false, narrowed := true }
def InterSizesUptoSaid : Prop := interSizesUptoRow.holds Try.pinned (OpenSpec.upto interSizesSpec)

end Rows
end Go.Proofs.Ytdnkmjafkpnliaa
