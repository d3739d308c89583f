/-
  DERIVED. GIVEN WITH THE SEED: THE CARDS: each row of YtpfjecjfooefoaaDoorRows.lean that lists a variable, with what it lists TIED to the program's text (the seventh form; the later family's looks); each row that meets fmt, with fmt's text TOLD by the authors' own Lean function (tested against real Go, not proved from fmt's source: count such statements apart). THE CARD IS WHAT COUNTS. Prove the row's statement (the work); the ties are given (YtpfjecjfooefoaaDoorTie.lean); close each card by the builder's one call (the guide's Derived/Test/ToyasCard.lean, 'card_holds'). Laid BY PROGRAM, IN A SANDBOX (cutbox-door.mjs). By AI agents, Wed Nov 11 2026. No macro, syntax, notation, axiom, sorry.
-/
import Derived.Test.YtpfjecjfooefoaaDoorRows
import GoSem.ClaimSeven
namespace Go.Proofs.YtpfjecjfooefoaaDoor
namespace Rows

/-- THE TIED CARD OF 'yettlaw07.IsoTells'. -/
def isoTellsCard : Claim7 := { stood := { row := isoTellsRow, standIns := [], harness := (true, "5ee2c8cc79079ef2dd76a319ef9fbf5905022ba173a023fed764281869477f02"), looks := false }, kinds := [], alts := [], laidByText := true, laidKinds := [.data], laidTests := true, laidLooks := .later }
def IsoTellsCardSaid : Prop := Claim7.holds Tryd.pinned (.plain (OpenSpec.ofChange isoTellsSpec)) isoTellsCard

/-- THE TIED CARD OF 'yettlaw07.IsoReads'. -/
def isoReadsCard : Claim7 := { stood := { row := isoReadsRow, standIns := [], harness := (true, "5ee2c8cc79079ef2dd76a319ef9fbf5905022ba173a023fed764281869477f02"), looks := false }, kinds := [], alts := [], laidByText := true, laidKinds := [.data], laidTests := true, laidLooks := .later }
def IsoReadsCardSaid : Prop := Claim7.holds Tryd.pinned (.plain (OpenSpec.ofChange isoReadsSpec)) isoReadsCard

/-- THE TIED CARD OF 'yettlaw07.IsoSets'. -/
def isoSetsCard : Claim7 := { stood := { row := isoSetsRow, standIns := [], harness := (true, "5ee2c8cc79079ef2dd76a319ef9fbf5905022ba173a023fed764281869477f02"), looks := false }, kinds := [], alts := [], laidByText := true, laidKinds := [.data], laidTests := true, laidLooks := .later }
def IsoSetsCardSaid : Prop := Claim7.holds Tryd.pinned (.plain (OpenSpec.ofChange isoSetsSpec)) isoSetsCard

/-- THE TIED CARD OF 'yettlaw07.IsoBack'. -/
def isoBackCard : Claim7 := { stood := { row := isoBackRow, standIns := [], harness := (true, "5ee2c8cc79079ef2dd76a319ef9fbf5905022ba173a023fed764281869477f02"), looks := false }, kinds := [], alts := [], laidByText := true, laidKinds := [.data], laidTests := true, laidLooks := .later }
def IsoBackCardSaid : Prop := Claim7.holds Tryd.pinned (.plain (OpenSpec.ofChange isoBackSpec)) isoBackCard

/-- THE TIED CARD OF 'yettlaw07.IsoHolds'. -/
def isoHoldsCard : Claim7 := { stood := { row := isoHoldsRow, standIns := [], harness := (true, "5ee2c8cc79079ef2dd76a319ef9fbf5905022ba173a023fed764281869477f02"), looks := false }, kinds := [], alts := [], laidByText := true, laidKinds := [.data], laidTests := true, laidLooks := .later }
def IsoHoldsCardSaid : Prop := Claim7.holds Tryd.pinned (.plain (OpenSpec.ofChange isoHoldsSpec)) isoHoldsCard

/-- THE TIED CARD OF 'yettlaw07.IsoCuts'. -/
def isoCutsCard : Claim7 := { stood := { row := isoCutsRow, standIns := [], harness := (true, "5ee2c8cc79079ef2dd76a319ef9fbf5905022ba173a023fed764281869477f02"), looks := false }, kinds := [], alts := [], laidByText := true, laidKinds := [.data], laidTests := true, laidLooks := .later }
def IsoCutsCardSaid : Prop := Claim7.holds Tryd.pinned (.plain (OpenSpec.ofChange isoCutsSpec)) isoCutsCard

/-- THE TIED CARD OF 'yettlaw07.IsoApart'. -/
def isoApartCard : Claim7 := { stood := { row := isoApartRow, standIns := [], harness := (true, "5ee2c8cc79079ef2dd76a319ef9fbf5905022ba173a023fed764281869477f02"), looks := false }, kinds := [], alts := [], laidByText := true, laidKinds := [.data], laidTests := true, laidLooks := .later }
def IsoApartCardSaid : Prop := Claim7.holds Tryd.pinned (.plain (OpenSpec.ofChange isoApartSpec)) isoApartCard

/-- THE TIED CARD OF 'yettlaw07.IsoTypes'. -/
def isoTypesCard : Claim7 := { stood := { row := isoTypesRow, standIns := [], harness := (true, "5ee2c8cc79079ef2dd76a319ef9fbf5905022ba173a023fed764281869477f02"), looks := false }, kinds := [], alts := [], laidByText := true, laidKinds := [.data], laidTests := true, laidLooks := .later }
def IsoTypesCardSaid : Prop := Claim7.holds Tryd.pinned (.plain (OpenSpec.ofChange isoTypesSpec)) isoTypesCard

/-- THE SECOND FORM's CARD OF 'yettlaw07.IsoTells'. -/
def isoTellsUptoCard : Claim7 := { stood := { row := isoTellsUptoRow, standIns := [], harness := (true, "5ee2c8cc79079ef2dd76a319ef9fbf5905022ba173a023fed764281869477f02"), looks := false }, kinds := [], alts := [], laidByText := true, laidKinds := [.data], laidTests := true, laidLooks := .later }
def IsoTellsUptoCardSaid : Prop := Claim7.holds Tryd.pinned (.plain (OpenSpec.upto isoTellsSpec)) isoTellsUptoCard

/-- THE SECOND FORM's CARD OF 'yettlaw07.IsoReads'. -/
def isoReadsUptoCard : Claim7 := { stood := { row := isoReadsUptoRow, standIns := [], harness := (true, "5ee2c8cc79079ef2dd76a319ef9fbf5905022ba173a023fed764281869477f02"), looks := false }, kinds := [], alts := [], laidByText := true, laidKinds := [.data], laidTests := true, laidLooks := .later }
def IsoReadsUptoCardSaid : Prop := Claim7.holds Tryd.pinned (.plain (OpenSpec.upto isoReadsSpec)) isoReadsUptoCard

/-- THE SECOND FORM's CARD OF 'yettlaw07.IsoSets'. -/
def isoSetsUptoCard : Claim7 := { stood := { row := isoSetsUptoRow, standIns := [], harness := (true, "5ee2c8cc79079ef2dd76a319ef9fbf5905022ba173a023fed764281869477f02"), looks := false }, kinds := [], alts := [], laidByText := true, laidKinds := [.data], laidTests := true, laidLooks := .later }
def IsoSetsUptoCardSaid : Prop := Claim7.holds Tryd.pinned (.plain (OpenSpec.upto isoSetsSpec)) isoSetsUptoCard

/-- THE SECOND FORM's CARD OF 'yettlaw07.IsoBack'. -/
def isoBackUptoCard : Claim7 := { stood := { row := isoBackUptoRow, standIns := [], harness := (true, "5ee2c8cc79079ef2dd76a319ef9fbf5905022ba173a023fed764281869477f02"), looks := false }, kinds := [], alts := [], laidByText := true, laidKinds := [.data], laidTests := true, laidLooks := .later }
def IsoBackUptoCardSaid : Prop := Claim7.holds Tryd.pinned (.plain (OpenSpec.upto isoBackSpec)) isoBackUptoCard

/-- THE SECOND FORM's CARD OF 'yettlaw07.IsoHolds'. -/
def isoHoldsUptoCard : Claim7 := { stood := { row := isoHoldsUptoRow, standIns := [], harness := (true, "5ee2c8cc79079ef2dd76a319ef9fbf5905022ba173a023fed764281869477f02"), looks := false }, kinds := [], alts := [], laidByText := true, laidKinds := [.data], laidTests := true, laidLooks := .later }
def IsoHoldsUptoCardSaid : Prop := Claim7.holds Tryd.pinned (.plain (OpenSpec.upto isoHoldsSpec)) isoHoldsUptoCard

/-- THE SECOND FORM's CARD OF 'yettlaw07.IsoCuts'. -/
def isoCutsUptoCard : Claim7 := { stood := { row := isoCutsUptoRow, standIns := [], harness := (true, "5ee2c8cc79079ef2dd76a319ef9fbf5905022ba173a023fed764281869477f02"), looks := false }, kinds := [], alts := [], laidByText := true, laidKinds := [.data], laidTests := true, laidLooks := .later }
def IsoCutsUptoCardSaid : Prop := Claim7.holds Tryd.pinned (.plain (OpenSpec.upto isoCutsSpec)) isoCutsUptoCard

/-- THE SECOND FORM's CARD OF 'yettlaw07.IsoApart'. -/
def isoApartUptoCard : Claim7 := { stood := { row := isoApartUptoRow, standIns := [], harness := (true, "5ee2c8cc79079ef2dd76a319ef9fbf5905022ba173a023fed764281869477f02"), looks := false }, kinds := [], alts := [], laidByText := true, laidKinds := [.data], laidTests := true, laidLooks := .later }
def IsoApartUptoCardSaid : Prop := Claim7.holds Tryd.pinned (.plain (OpenSpec.upto isoApartSpec)) isoApartUptoCard

/-- THE SECOND FORM's CARD OF 'yettlaw07.IsoTypes'. -/
def isoTypesUptoCard : Claim7 := { stood := { row := isoTypesUptoRow, standIns := [], harness := (true, "5ee2c8cc79079ef2dd76a319ef9fbf5905022ba173a023fed764281869477f02"), looks := false }, kinds := [], alts := [], laidByText := true, laidKinds := [.data], laidTests := true, laidLooks := .later }
def IsoTypesUptoCardSaid : Prop := Claim7.holds Tryd.pinned (.plain (OpenSpec.upto isoTypesSpec)) isoTypesUptoCard
end Rows
end Go.Proofs.YtpfjecjfooefoaaDoor
