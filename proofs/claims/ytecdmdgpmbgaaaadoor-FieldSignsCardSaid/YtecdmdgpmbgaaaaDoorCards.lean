/-
  DERIVED. GIVEN WITH THE SEED: THE CARDS: each row of YtecdmdgpmbgaaaaDoorRows.lean that lists a variable, with what it lists TIED to the program's text (the seventh form; the later family's looks); each row that meets fmt, with fmt's text TOLD by the authors' own Lean function (tested against real Go, not proved from fmt's source: count such statements apart). THE CARD IS WHAT COUNTS. Prove the row's statement (the work); the ties are given (YtecdmdgpmbgaaaaDoorTie.lean); close each card by the builder's one call (the guide's Derived/Test/ToyasCard.lean, 'card_holds'). Laid BY PROGRAM, IN A SANDBOX (cutbox-door.mjs). By AI agents, Wed Nov 11 2026. No macro, syntax, notation, axiom, sorry.
-/
import Derived.Test.YtecdmdgpmbgaaaaDoorRows
import GoSem.ClaimSeven
namespace Go.Proofs.YtecdmdgpmbgaaaaDoor
namespace Rows

/-- THE TIED CARD OF 'yettlaw05.FieldTells'. -/
def fieldTellsCard : Claim7 := { stood := { row := fieldTellsRow, standIns := [], harness := (true, "2f228ee3117eb4bbfaac0d7868e45385ff0f50d8554333a93ea8d39e3874f20b"), looks := false }, kinds := [], alts := [], laidByText := true, laidKinds := [.data], laidTests := true, laidLooks := .later }
def FieldTellsCardSaid : Prop := Claim7.holds Tryd.pinned (.plain (OpenSpec.ofChange fieldTellsSpec)) fieldTellsCard

/-- THE TIED CARD OF 'yettlaw05.FieldReads'. -/
def fieldReadsCard : Claim7 := { stood := { row := fieldReadsRow, standIns := [], harness := (true, "2f228ee3117eb4bbfaac0d7868e45385ff0f50d8554333a93ea8d39e3874f20b"), looks := false }, kinds := [], alts := [], laidByText := true, laidKinds := [.data], laidTests := true, laidLooks := .later }
def FieldReadsCardSaid : Prop := Claim7.holds Tryd.pinned (.plain (OpenSpec.ofChange fieldReadsSpec)) fieldReadsCard

/-- THE TIED CARD OF 'yettlaw05.FieldBack'. -/
def fieldBackCard : Claim7 := { stood := { row := fieldBackRow, standIns := [], harness := (true, "2f228ee3117eb4bbfaac0d7868e45385ff0f50d8554333a93ea8d39e3874f20b"), looks := false }, kinds := [], alts := [], laidByText := true, laidKinds := [.data], laidTests := true, laidLooks := .later }
def FieldBackCardSaid : Prop := Claim7.holds Tryd.pinned (.plain (OpenSpec.ofChange fieldBackSpec)) fieldBackCard

/-- THE TIED CARD OF 'yettlaw05.FieldApart'. -/
def fieldApartCard : Claim7 := { stood := { row := fieldApartRow, standIns := [], harness := (true, "2f228ee3117eb4bbfaac0d7868e45385ff0f50d8554333a93ea8d39e3874f20b"), looks := false }, kinds := [], alts := [], laidByText := true, laidKinds := [.data], laidTests := true, laidLooks := .later }
def FieldApartCardSaid : Prop := Claim7.holds Tryd.pinned (.plain (OpenSpec.ofChange fieldApartSpec)) fieldApartCard

/-- THE TIED CARD OF 'yettlaw05.FieldCuts'. -/
def fieldCutsCard : Claim7 := { stood := { row := fieldCutsRow, standIns := [], harness := (true, "2f228ee3117eb4bbfaac0d7868e45385ff0f50d8554333a93ea8d39e3874f20b"), looks := false }, kinds := [], alts := [], laidByText := true, laidKinds := [.data], laidTests := true, laidLooks := .later }
def FieldCutsCardSaid : Prop := Claim7.holds Tryd.pinned (.plain (OpenSpec.ofChange fieldCutsSpec)) fieldCutsCard

/-- THE TIED CARD OF 'yettlaw05.FieldLong'. -/
def fieldLongCard : Claim7 := { stood := { row := fieldLongRow, standIns := [], harness := (true, "2f228ee3117eb4bbfaac0d7868e45385ff0f50d8554333a93ea8d39e3874f20b"), looks := false }, kinds := [], alts := [], laidByText := true, laidKinds := [.data], laidTests := true, laidLooks := .later }
def FieldLongCardSaid : Prop := Claim7.holds Tryd.pinned (.plain (OpenSpec.ofChange fieldLongSpec)) fieldLongCard

/-- THE TIED CARD OF 'yettlaw05.FieldSigns'. -/
def fieldSignsCard : Claim7 := { stood := { row := fieldSignsRow, standIns := [], harness := (true, "2f228ee3117eb4bbfaac0d7868e45385ff0f50d8554333a93ea8d39e3874f20b"), looks := false }, kinds := [], alts := [], laidByText := true, laidKinds := [.data], laidTests := true, laidLooks := .later }
def FieldSignsCardSaid : Prop := Claim7.holds Tryd.pinned (.plain (OpenSpec.ofChange fieldSignsSpec)) fieldSignsCard

/-- THE SECOND FORM's CARD OF 'yettlaw05.FieldTells'. -/
def fieldTellsUptoCard : Claim7 := { stood := { row := fieldTellsUptoRow, standIns := [], harness := (true, "2f228ee3117eb4bbfaac0d7868e45385ff0f50d8554333a93ea8d39e3874f20b"), looks := false }, kinds := [], alts := [], laidByText := true, laidKinds := [.data], laidTests := true, laidLooks := .later }
def FieldTellsUptoCardSaid : Prop := Claim7.holds Tryd.pinned (.plain (OpenSpec.upto fieldTellsSpec)) fieldTellsUptoCard

/-- THE SECOND FORM's CARD OF 'yettlaw05.FieldReads'. -/
def fieldReadsUptoCard : Claim7 := { stood := { row := fieldReadsUptoRow, standIns := [], harness := (true, "2f228ee3117eb4bbfaac0d7868e45385ff0f50d8554333a93ea8d39e3874f20b"), looks := false }, kinds := [], alts := [], laidByText := true, laidKinds := [.data], laidTests := true, laidLooks := .later }
def FieldReadsUptoCardSaid : Prop := Claim7.holds Tryd.pinned (.plain (OpenSpec.upto fieldReadsSpec)) fieldReadsUptoCard

/-- THE SECOND FORM's CARD OF 'yettlaw05.FieldBack'. -/
def fieldBackUptoCard : Claim7 := { stood := { row := fieldBackUptoRow, standIns := [], harness := (true, "2f228ee3117eb4bbfaac0d7868e45385ff0f50d8554333a93ea8d39e3874f20b"), looks := false }, kinds := [], alts := [], laidByText := true, laidKinds := [.data], laidTests := true, laidLooks := .later }
def FieldBackUptoCardSaid : Prop := Claim7.holds Tryd.pinned (.plain (OpenSpec.upto fieldBackSpec)) fieldBackUptoCard

/-- THE SECOND FORM's CARD OF 'yettlaw05.FieldApart'. -/
def fieldApartUptoCard : Claim7 := { stood := { row := fieldApartUptoRow, standIns := [], harness := (true, "2f228ee3117eb4bbfaac0d7868e45385ff0f50d8554333a93ea8d39e3874f20b"), looks := false }, kinds := [], alts := [], laidByText := true, laidKinds := [.data], laidTests := true, laidLooks := .later }
def FieldApartUptoCardSaid : Prop := Claim7.holds Tryd.pinned (.plain (OpenSpec.upto fieldApartSpec)) fieldApartUptoCard

/-- THE SECOND FORM's CARD OF 'yettlaw05.FieldCuts'. -/
def fieldCutsUptoCard : Claim7 := { stood := { row := fieldCutsUptoRow, standIns := [], harness := (true, "2f228ee3117eb4bbfaac0d7868e45385ff0f50d8554333a93ea8d39e3874f20b"), looks := false }, kinds := [], alts := [], laidByText := true, laidKinds := [.data], laidTests := true, laidLooks := .later }
def FieldCutsUptoCardSaid : Prop := Claim7.holds Tryd.pinned (.plain (OpenSpec.upto fieldCutsSpec)) fieldCutsUptoCard

/-- THE SECOND FORM's CARD OF 'yettlaw05.FieldLong'. -/
def fieldLongUptoCard : Claim7 := { stood := { row := fieldLongUptoRow, standIns := [], harness := (true, "2f228ee3117eb4bbfaac0d7868e45385ff0f50d8554333a93ea8d39e3874f20b"), looks := false }, kinds := [], alts := [], laidByText := true, laidKinds := [.data], laidTests := true, laidLooks := .later }
def FieldLongUptoCardSaid : Prop := Claim7.holds Tryd.pinned (.plain (OpenSpec.upto fieldLongSpec)) fieldLongUptoCard

/-- THE SECOND FORM's CARD OF 'yettlaw05.FieldSigns'. -/
def fieldSignsUptoCard : Claim7 := { stood := { row := fieldSignsUptoRow, standIns := [], harness := (true, "2f228ee3117eb4bbfaac0d7868e45385ff0f50d8554333a93ea8d39e3874f20b"), looks := false }, kinds := [], alts := [], laidByText := true, laidKinds := [.data], laidTests := true, laidLooks := .later }
def FieldSignsUptoCardSaid : Prop := Claim7.holds Tryd.pinned (.plain (OpenSpec.upto fieldSignsSpec)) fieldSignsUptoCard
end Rows
end Go.Proofs.YtecdmdgpmbgaaaaDoor
