/-
  DERIVED. GIVEN WITH THE SEED: THE CARDS: each row of YtkpfiopgnobcdaaDoorRows.lean that lists a variable, with what it lists TIED to the program's text (the seventh form; the later family's looks); each row that meets fmt, with fmt's text TOLD by the authors' own Lean function (tested against real Go, not proved from fmt's source: count such statements apart). THE CARD IS WHAT COUNTS. Prove the row's statement (the work); the ties are given (YtkpfiopgnobcdaaDoorTie.lean); close each card by the builder's one call (the guide's Derived/Test/ToyasCard.lean, 'card_holds'). Laid BY PROGRAM, IN A SANDBOX (cutbox-door.mjs). By AI agents, Wed Nov 11 2026. No macro, syntax, notation, axiom, sorry.
-/
import Derived.Test.YtkpfiopgnobcdaaDoorRows
import GoSem.ClaimSeven
namespace Go.Proofs.YtkpfiopgnobcdaaDoor
namespace Rows

/-- THE TIED CARD OF 'haulierlaw02.JsonReads'. -/
def jsonReadsCard : Claim7 := { stood := { row := jsonReadsRow, standIns := [], harness := (true, "f57c4a978c7de1ff470db4b9b7b3cd82479241cb07ff960ea33409f2e19c6c01"), looks := true }, kinds := [], alts := [], laidByText := true, laidKinds := [.data, .pinned], laidTests := true, laidLooks := .later }
def JsonReadsCardSaid : Prop := Claim7.holds Tryd.pinned (.plain (OpenSpec.ofChange jsonReadsSpec)) jsonReadsCard

/-- THE TIED CARD OF 'haulierlaw02.JsonBlanks'. -/
def jsonBlanksCard : Claim7 := { stood := { row := jsonBlanksRow, standIns := [], harness := (true, "f57c4a978c7de1ff470db4b9b7b3cd82479241cb07ff960ea33409f2e19c6c01"), looks := true }, kinds := [], alts := [], laidByText := true, laidKinds := [.data, .pinned], laidTests := true, laidLooks := .later }
def JsonBlanksCardSaid : Prop := Claim7.holds Tryd.pinned (.plain (OpenSpec.ofChange jsonBlanksSpec)) jsonBlanksCard

/-- THE TIED CARD OF 'haulierlaw02.JsonCuts'. -/
def jsonCutsCard : Claim7 := { stood := { row := jsonCutsRow, standIns := [], harness := (true, "f57c4a978c7de1ff470db4b9b7b3cd82479241cb07ff960ea33409f2e19c6c01"), looks := true }, kinds := [], alts := [], laidByText := true, laidKinds := [.data, .pinned], laidTests := true, laidLooks := .later }
def JsonCutsCardSaid : Prop := Claim7.holds Tryd.pinned (.plain (OpenSpec.ofChange jsonCutsSpec)) jsonCutsCard

/-- THE TIED CARD OF 'haulierlaw02.JsonNests'. -/
def jsonNestsCard : Claim7 := { stood := { row := jsonNestsRow, standIns := [], harness := (true, "f57c4a978c7de1ff470db4b9b7b3cd82479241cb07ff960ea33409f2e19c6c01"), looks := true }, kinds := [], alts := [], laidByText := true, laidKinds := [.data, .pinned], laidTests := true, laidLooks := .later }
def JsonNestsCardSaid : Prop := Claim7.holds Tryd.pinned (.plain (OpenSpec.ofChange jsonNestsSpec)) jsonNestsCard

/-- THE TIED CARD OF 'haulierlaw02.JsonValues'. -/
def jsonValuesCard : Claim7 := { stood := { row := jsonValuesRow, standIns := [], harness := (true, "f57c4a978c7de1ff470db4b9b7b3cd82479241cb07ff960ea33409f2e19c6c01"), looks := true }, kinds := [], alts := [], laidByText := true, laidKinds := [.data, .pinned], laidTests := true, laidLooks := .later }
def JsonValuesCardSaid : Prop := Claim7.holds Tryd.pinned (.plain (OpenSpec.ofChange jsonValuesSpec)) jsonValuesCard

/-- THE TIED CARD OF 'haulierlaw02.JsonNumbers'. -/
def jsonNumbersCard : Claim7 := { stood := { row := jsonNumbersRow, standIns := [], harness := (true, "f57c4a978c7de1ff470db4b9b7b3cd82479241cb07ff960ea33409f2e19c6c01"), looks := true }, kinds := [], alts := [], laidByText := true, laidKinds := [.data, .pinned], laidTests := true, laidLooks := .later }
def JsonNumbersCardSaid : Prop := Claim7.holds Tryd.pinned (.plain (OpenSpec.ofChange jsonNumbersSpec)) jsonNumbersCard

/-- THE SECOND FORM's CARD OF 'haulierlaw02.JsonReads'. -/
def jsonReadsUptoCard : Claim7 := { stood := { row := jsonReadsUptoRow, standIns := [], harness := (true, "f57c4a978c7de1ff470db4b9b7b3cd82479241cb07ff960ea33409f2e19c6c01"), looks := true }, kinds := [], alts := [], laidByText := true, laidKinds := [.data, .pinned], laidTests := true, laidLooks := .later }
def JsonReadsUptoCardSaid : Prop := Claim7.holds Tryd.pinned (.plain (OpenSpec.upto jsonReadsSpec)) jsonReadsUptoCard

/-- THE SECOND FORM's CARD OF 'haulierlaw02.JsonBlanks'. -/
def jsonBlanksUptoCard : Claim7 := { stood := { row := jsonBlanksUptoRow, standIns := [], harness := (true, "f57c4a978c7de1ff470db4b9b7b3cd82479241cb07ff960ea33409f2e19c6c01"), looks := true }, kinds := [], alts := [], laidByText := true, laidKinds := [.data, .pinned], laidTests := true, laidLooks := .later }
def JsonBlanksUptoCardSaid : Prop := Claim7.holds Tryd.pinned (.plain (OpenSpec.upto jsonBlanksSpec)) jsonBlanksUptoCard

/-- THE SECOND FORM's CARD OF 'haulierlaw02.JsonCuts'. -/
def jsonCutsUptoCard : Claim7 := { stood := { row := jsonCutsUptoRow, standIns := [], harness := (true, "f57c4a978c7de1ff470db4b9b7b3cd82479241cb07ff960ea33409f2e19c6c01"), looks := true }, kinds := [], alts := [], laidByText := true, laidKinds := [.data, .pinned], laidTests := true, laidLooks := .later }
def JsonCutsUptoCardSaid : Prop := Claim7.holds Tryd.pinned (.plain (OpenSpec.upto jsonCutsSpec)) jsonCutsUptoCard

/-- THE SECOND FORM's CARD OF 'haulierlaw02.JsonNests'. -/
def jsonNestsUptoCard : Claim7 := { stood := { row := jsonNestsUptoRow, standIns := [], harness := (true, "f57c4a978c7de1ff470db4b9b7b3cd82479241cb07ff960ea33409f2e19c6c01"), looks := true }, kinds := [], alts := [], laidByText := true, laidKinds := [.data, .pinned], laidTests := true, laidLooks := .later }
def JsonNestsUptoCardSaid : Prop := Claim7.holds Tryd.pinned (.plain (OpenSpec.upto jsonNestsSpec)) jsonNestsUptoCard

/-- THE SECOND FORM's CARD OF 'haulierlaw02.JsonValues'. -/
def jsonValuesUptoCard : Claim7 := { stood := { row := jsonValuesUptoRow, standIns := [], harness := (true, "f57c4a978c7de1ff470db4b9b7b3cd82479241cb07ff960ea33409f2e19c6c01"), looks := true }, kinds := [], alts := [], laidByText := true, laidKinds := [.data, .pinned], laidTests := true, laidLooks := .later }
def JsonValuesUptoCardSaid : Prop := Claim7.holds Tryd.pinned (.plain (OpenSpec.upto jsonValuesSpec)) jsonValuesUptoCard

/-- THE SECOND FORM's CARD OF 'haulierlaw02.JsonNumbers'. -/
def jsonNumbersUptoCard : Claim7 := { stood := { row := jsonNumbersUptoRow, standIns := [], harness := (true, "f57c4a978c7de1ff470db4b9b7b3cd82479241cb07ff960ea33409f2e19c6c01"), looks := true }, kinds := [], alts := [], laidByText := true, laidKinds := [.data, .pinned], laidTests := true, laidLooks := .later }
def JsonNumbersUptoCardSaid : Prop := Claim7.holds Tryd.pinned (.plain (OpenSpec.upto jsonNumbersSpec)) jsonNumbersUptoCard
end Rows
end Go.Proofs.YtkpfiopgnobcdaaDoor
