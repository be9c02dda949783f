/-
  No cell of these rows narrows 'for every input' (looked for: loops, veiled, ifaces, maps, wideKeys, modest, calm, conditions, laid).
  DERIVED. THE GIVEN ROWS OF THIS SEAT. 6 by the template 'for every input the law returns true; each argument reads behind the call as it read before'; 0 by the template 'total and deterministic' (their statements: YtakkenmhagcogaaTotals.lean).
  GIVEN WITH THE SEED: the statements are not yours to turn. If you find one false, say at which input.
  Laid BY PROGRAM, IN A SANDBOX (cutbox-rows.mjs): the forced cells as the released guide's own fill.sh prints them over the translation 29e0edb4a6318887… (all of the seat's roots in one cut). By AI agents, Wed Nov 11 2026. No macro, syntax, notation, axiom, sorry.
-/
import Derived.Test.YtakkenmhagcogaaChecked
import GoSem.Claim
import GoSem.ClaimJoined
import GoSem.ClaimMapViews
import Derived.JoinedTies
import Derived.KernelRfl
namespace Go.Proofs.Ytakkenmhagcogaa
/- THE CELL 'sum', in the pinned program and in every row, IS THE sha256 OF THE DUMP (.gsa) THAT YtakkenmhagcogaaProg.lean LOADS. Nothing in Lean hashes anything: it is a label: what it is worth is what the hold of that sum in a sandbox is worth. -/
noncomputable def Try.pinned : Pinned := { name := "ytakkenmhagcogaa", sum := "29e0edb4a631888793a882c2ae8963657568070977d0f277c33d683801ff8c02", checked := Try.checked }
namespace Rows
def none {H : Type} : Left H := { results := [], args := [] }

/-- 'haulierlaw12.ModelChecks': WHATEVER THE INPUT: true; the input reads as it did. -/
def modelChecksSpec : ChangeSpec := { name := "modelChecks", fn := fun _ => fun
  | [d] => { results := [.lit (.bool true)], args := [d] }
  | _ => none }
def modelChecksRow : OpenClaim := { program := "ytakkenmhagcogaa", sum := "29e0edb4a631888793a882c2ae8963657568070977d0f277c33d683801ff8c02", func := "haulier/haulierlaw12.ModelChecks", spec := "modelChecks", unfollowed := true, recurses := true, plainKeys := false, apart := false }
def ModelChecksSaid : Prop := modelChecksRow.holds Try.pinned (OpenSpec.ofChange modelChecksSpec)

/-- ITS FALSE NEIGHBOUR: 'it returns false'. Refute it at one input. -/
def modelChecksWrong : ChangeSpec := { name := "modelChecks", fn := fun _ => fun
  | [d] => { results := [.lit (.bool false)], args := [d] }
  | _ => none }
def ModelChecksWrongFalsely : Prop := modelChecksRow.holds Try.pinned (OpenSpec.ofChange modelChecksWrong)

/-- 'haulierlaw12.ModelAsks': WHATEVER THE INPUT: true; the input reads as it did. -/
def modelAsksSpec : ChangeSpec := { name := "modelAsks", fn := fun _ => fun
  | [d1, d2, d3] => { results := [.lit (.bool true)], args := [d1, d2, d3] }
  | _ => none }
def modelAsksRow : OpenClaim := { program := "ytakkenmhagcogaa", sum := "29e0edb4a631888793a882c2ae8963657568070977d0f277c33d683801ff8c02", func := "haulier/haulierlaw12.ModelAsks", spec := "modelAsks", unfollowed := true, recurses := true, plainKeys := false, apart := false }
def ModelAsksSaid : Prop := modelAsksRow.holds Try.pinned (OpenSpec.ofChange modelAsksSpec)

/-- ITS FALSE NEIGHBOUR: 'it returns false'. Refute it at one input. -/
def modelAsksWrong : ChangeSpec := { name := "modelAsks", fn := fun _ => fun
  | [d1, d2, d3] => { results := [.lit (.bool false)], args := [d1, d2, d3] }
  | _ => none }
def ModelAsksWrongFalsely : Prop := modelAsksRow.holds Try.pinned (OpenSpec.ofChange modelAsksWrong)

/-- 'haulierlaw12.ModelCells': WHATEVER THE INPUT: true; the input reads as it did. -/
def modelCellsSpec : ChangeSpec := { name := "modelCells", fn := fun _ => fun
  | [d1, d2, d3] => { results := [.lit (.bool true)], args := [d1, d2, d3] }
  | _ => none }
def modelCellsRow : OpenClaim := { program := "ytakkenmhagcogaa", sum := "29e0edb4a631888793a882c2ae8963657568070977d0f277c33d683801ff8c02", func := "haulier/haulierlaw12.ModelCells", spec := "modelCells", unfollowed := true, recurses := true, plainKeys := false, apart := false }
def ModelCellsSaid : Prop := modelCellsRow.holds Try.pinned (OpenSpec.ofChange modelCellsSpec)

/-- ITS FALSE NEIGHBOUR: 'it returns false'. Refute it at one input. -/
def modelCellsWrong : ChangeSpec := { name := "modelCells", fn := fun _ => fun
  | [d1, d2, d3] => { results := [.lit (.bool false)], args := [d1, d2, d3] }
  | _ => none }
def ModelCellsWrongFalsely : Prop := modelCellsRow.holds Try.pinned (OpenSpec.ofChange modelCellsWrong)

/-- 'haulierlaw12.ModelTasks': WHATEVER THE INPUT: true; the input reads as it did. -/
def modelTasksSpec : ChangeSpec := { name := "modelTasks", fn := fun _ => fun
  | [d] => { results := [.lit (.bool true)], args := [d] }
  | _ => none }
def modelTasksRow : OpenClaim := { program := "ytakkenmhagcogaa", sum := "29e0edb4a631888793a882c2ae8963657568070977d0f277c33d683801ff8c02", func := "haulier/haulierlaw12.ModelTasks", spec := "modelTasks", unfollowed := true, recurses := true, plainKeys := false, apart := false }
def ModelTasksSaid : Prop := modelTasksRow.holds Try.pinned (OpenSpec.ofChange modelTasksSpec)

/-- ITS FALSE NEIGHBOUR: 'it returns false'. Refute it at one input. -/
def modelTasksWrong : ChangeSpec := { name := "modelTasks", fn := fun _ => fun
  | [d] => { results := [.lit (.bool false)], args := [d] }
  | _ => none }
def ModelTasksWrongFalsely : Prop := modelTasksRow.holds Try.pinned (OpenSpec.ofChange modelTasksWrong)

/-- 'haulierlaw12.ModelStops': WHATEVER THE INPUT: true; the input reads as it did. -/
def modelStopsSpec : ChangeSpec := { name := "modelStops", fn := fun _ => fun
  | [d1, d2] => { results := [.lit (.bool true)], args := [d1, d2] }
  | _ => none }
def modelStopsRow : OpenClaim := { program := "ytakkenmhagcogaa", sum := "29e0edb4a631888793a882c2ae8963657568070977d0f277c33d683801ff8c02", func := "haulier/haulierlaw12.ModelStops", spec := "modelStops", unfollowed := true, recurses := true, plainKeys := false, apart := false }
def ModelStopsSaid : Prop := modelStopsRow.holds Try.pinned (OpenSpec.ofChange modelStopsSpec)

/-- ITS FALSE NEIGHBOUR: 'it returns false'. Refute it at one input. -/
def modelStopsWrong : ChangeSpec := { name := "modelStops", fn := fun _ => fun
  | [d1, d2] => { results := [.lit (.bool false)], args := [d1, d2] }
  | _ => none }
def ModelStopsWrongFalsely : Prop := modelStopsRow.holds Try.pinned (OpenSpec.ofChange modelStopsWrong)

/-- 'haulierlaw12.ModelMore': WHATEVER THE INPUT: true; the input reads as it did. -/
def modelMoreSpec : ChangeSpec := { name := "modelMore", fn := fun _ => fun
  | [d1, d2] => { results := [.lit (.bool true)], args := [d1, d2] }
  | _ => none }
def modelMoreRow : OpenClaim := { program := "ytakkenmhagcogaa", sum := "29e0edb4a631888793a882c2ae8963657568070977d0f277c33d683801ff8c02", func := "haulier/haulierlaw12.ModelMore", spec := "modelMore", unfollowed := true, recurses := true, plainKeys := false, apart := false }
def ModelMoreSaid : Prop := modelMoreRow.holds Try.pinned (OpenSpec.ofChange modelMoreSpec)

/-- ITS FALSE NEIGHBOUR: 'it returns false'. Refute it at one input. -/
def modelMoreWrong : ChangeSpec := { name := "modelMore", fn := fun _ => fun
  | [d1, d2] => { results := [.lit (.bool false)], args := [d1, d2] }
  | _ => none }
def ModelMoreWrongFalsely : Prop := modelMoreRow.holds Try.pinned (OpenSpec.ofChange modelMoreWrong)

/- THE SECOND FORM. 'bulk': how many values and letters a reading holds, each counted each time it is reached (what is shared counts as often as it is met; a slice's spare places count too). A statement '..UptoSaid' is the law's where the arguments, and the package variables that the reading takes, are together of bulk at most 1048576: NARROWER than '..Said'. Prove '..Said' where nothing that the law and all that it calls make is longer than what came in: it says more and counts as full. Else prove '..UptoSaid'. A law counts once. -/
mutual
def uptoBulk {H : Type} : DataW H → Nat
  | .lit (.string bytes) => bytes.length + 1
  | .lit _ => 1
  | .nil => 1
  | .ptr d => uptoBulk d + 1
  | .slice elems spare => uptoBulkAll elems + uptoBulkAll spare + 1
  | .agg parts => uptoBulkAll parts + 1
  | .iface _ d => uptoBulk d + 1
  | .map entries => uptoBulkEntries entries + 1
  | .held _ => 1
def uptoBulkAll {H : Type} : List (DataW H) → Nat
  | [] => 0
  | d :: r => uptoBulk d + uptoBulkAll r
def uptoBulkEntries {H : Type} : List (Lit × DataW H) → Nat
  | [] => 0
  | x :: r => uptoBulkEntry x + uptoBulkEntries r
def uptoBulkEntry {H : Type} : Lit × DataW H → Nat
  | (.string bytes, d) => bytes.length + uptoBulk d + 1
  | (_, d) => uptoBulk d + 1
 end
def uptoSmall : (H : Type) → List (DataW H) → Bool := fun _ ds => decide (uptoBulkAll ds ≤ 1048576)
def OpenSpec.upto (s : _root_.Go.ChangeSpec) : _root_.Go.OpenSpec := { _root_.Go.OpenSpec.ofChange s with cond := some uptoSmall }

/-- 'haulierlaw12.ModelChecks', WHERE WHAT IT READS IS OF BULK AT MOST 1048576: true; the input reads as it did. -/
def modelChecksUptoRow : OpenClaim := { program := "ytakkenmhagcogaa", sum := "29e0edb4a631888793a882c2ae8963657568070977d0f277c33d683801ff8c02", func := "haulier/haulierlaw12.ModelChecks", spec := "modelChecks", unfollowed := true, recurses := true, plainKeys := false, apart := false, narrowed := true }
def ModelChecksUptoSaid : Prop := modelChecksUptoRow.holds Try.pinned (OpenSpec.upto modelChecksSpec)

/-- 'haulierlaw12.ModelAsks', WHERE WHAT IT READS IS OF BULK AT MOST 1048576: true; the input reads as it did. -/
def modelAsksUptoRow : OpenClaim := { program := "ytakkenmhagcogaa", sum := "29e0edb4a631888793a882c2ae8963657568070977d0f277c33d683801ff8c02", func := "haulier/haulierlaw12.ModelAsks", spec := "modelAsks", unfollowed := true, recurses := true, plainKeys := false, apart := false, narrowed := true }
def ModelAsksUptoSaid : Prop := modelAsksUptoRow.holds Try.pinned (OpenSpec.upto modelAsksSpec)

/-- 'haulierlaw12.ModelCells', WHERE WHAT IT READS IS OF BULK AT MOST 1048576: true; the input reads as it did. -/
def modelCellsUptoRow : OpenClaim := { program := "ytakkenmhagcogaa", sum := "29e0edb4a631888793a882c2ae8963657568070977d0f277c33d683801ff8c02", func := "haulier/haulierlaw12.ModelCells", spec := "modelCells", unfollowed := true, recurses := true, plainKeys := false, apart := false, narrowed := true }
def ModelCellsUptoSaid : Prop := modelCellsUptoRow.holds Try.pinned (OpenSpec.upto modelCellsSpec)

/-- 'haulierlaw12.ModelTasks', WHERE WHAT IT READS IS OF BULK AT MOST 1048576: true; the input reads as it did. -/
def modelTasksUptoRow : OpenClaim := { program := "ytakkenmhagcogaa", sum := "29e0edb4a631888793a882c2ae8963657568070977d0f277c33d683801ff8c02", func := "haulier/haulierlaw12.ModelTasks", spec := "modelTasks", unfollowed := true, recurses := true, plainKeys := false, apart := false, narrowed := true }
def ModelTasksUptoSaid : Prop := modelTasksUptoRow.holds Try.pinned (OpenSpec.upto modelTasksSpec)

/-- 'haulierlaw12.ModelStops', WHERE WHAT IT READS IS OF BULK AT MOST 1048576: true; the input reads as it did. -/
def modelStopsUptoRow : OpenClaim := { program := "ytakkenmhagcogaa", sum := "29e0edb4a631888793a882c2ae8963657568070977d0f277c33d683801ff8c02", func := "haulier/haulierlaw12.ModelStops", spec := "modelStops", unfollowed := true, recurses := true, plainKeys := false, apart := false, narrowed := true }
def ModelStopsUptoSaid : Prop := modelStopsUptoRow.holds Try.pinned (OpenSpec.upto modelStopsSpec)

/-- 'haulierlaw12.ModelMore', WHERE WHAT IT READS IS OF BULK AT MOST 1048576: true; the input reads as it did. -/
def modelMoreUptoRow : OpenClaim := { program := "ytakkenmhagcogaa", sum := "29e0edb4a631888793a882c2ae8963657568070977d0f277c33d683801ff8c02", func := "haulier/haulierlaw12.ModelMore", spec := "modelMore", unfollowed := true, recurses := true, plainKeys := false, apart := false, narrowed := true }
def ModelMoreUptoSaid : Prop := modelMoreUptoRow.holds Try.pinned (OpenSpec.upto modelMoreSpec)

end Rows
end Go.Proofs.Ytakkenmhagcogaa
