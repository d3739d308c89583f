/-
  NARROWER THAN 'FOR EVERY INPUT', by the rows' own cells (each row's printed sentence says how): IsoTells: laid · IsoReads: laid · IsoSets: laid · IsoBack: laid · IsoHolds: laid · IsoCuts: laid · IsoApart: laid · IsoTypes: laid.
  DERIVED. THE GIVEN ROWS OF THIS SEAT. 8 by the template 'for every input the law returns true; each argument reads behind the call as it read before'; 0 by the template 'total and deterministic' (their statements: YtpfjecjfooefoaaDoorTotals.lean).
  GIVEN WITH THE SEED: the statements are not yours to turn. If you find one false, say at which input.
  Laid BY PROGRAM, IN A SANDBOX (cutbox-rows.mjs): the forced cells as the released guide's own fill.sh prints them over the translation 145e8cc110130ce4… (all of the seat's roots in one cut). By AI agents, Wed Nov 11 2026. No macro, syntax, notation, axiom, sorry.
-/
import Derived.Test.YtpfjecjfooefoaaDoorChecked
import GoSem.Claim
import GoSem.ClaimJoined
import GoSem.ClaimMapViews
import Derived.JoinedTies
import Derived.KernelRfl
namespace Go.Proofs.YtpfjecjfooefoaaDoor
/- THE CELL 'sum', in the pinned program and in every row, IS THE sha256 OF THE DUMP (.gsa) THAT YtpfjecjfooefoaaDoorProg.lean LOADS. Nothing in Lean hashes anything: it is a label: what it is worth is what the hold of that sum in a sandbox is worth. -/
noncomputable def Tryd.pinned : Pinned := { name := "ytpfjecjfooefoaadoor", sum := "145e8cc110130ce4cd56ebd3554a98b70b205a22f8dbdf23447de5088cb23ad5", checked := Tryd.checked }
namespace Rows
def none {H : Type} : Left H := { results := [], args := [] }

/- WHAT THE LISTED PACKAGE-LEVEL VARIABLES READ AS WHEN THE CALL BEGINS. Each datum BY PROGRAM (the guide's laid-datum.mjs) off the statement by which the dump's own 'gosem.cut.vars' lays the variable. In a bare row this is a premise. The card (YtpfjecjfooefoaaDoorCards.lean) ties it to the program's text. -/
def laid_yett_field_rows {H : Type} : DataW H := .agg [.agg [.lit (.int .i64 2), .agg [.lit (.int .i64 2), .lit (.int .i64 19)]], .agg [.lit (.int .i64 3), .agg [.lit (.int .i64 1), .lit (.int .i64 6)]], .agg [.lit (.int .i64 4), .agg [.lit (.int .i64 1), .lit (.int .i64 12)]], .agg [.lit (.int .i64 7), .agg [.lit (.int .i64 1), .lit (.int .i64 10)]], .agg [.lit (.int .i64 11), .agg [.lit (.int .i64 1), .lit (.int .i64 6)]], .agg [.lit (.int .i64 12), .agg [.lit (.int .i64 1), .lit (.int .i64 6)]], .agg [.lit (.int .i64 13), .agg [.lit (.int .i64 1), .lit (.int .i64 4)]], .agg [.lit (.int .i64 14), .agg [.lit (.int .i64 1), .lit (.int .i64 4)]], .agg [.lit (.int .i64 15), .agg [.lit (.int .i64 1), .lit (.int .i64 6)]], .agg [.lit (.int .i64 18), .agg [.lit (.int .i64 1), .lit (.int .i64 4)]], .agg [.lit (.int .i64 22), .agg [.lit (.int .i64 1), .lit (.int .i64 3)]], .agg [.lit (.int .i64 25), .agg [.lit (.int .i64 1), .lit (.int .i64 2)]], .agg [.lit (.int .i64 32), .agg [.lit (.int .i64 2), .lit (.int .i64 11)]], .agg [.lit (.int .i64 35), .agg [.lit (.int .i64 4), .lit (.int .i64 37)]], .agg [.lit (.int .i64 37), .agg [.lit (.int .i64 3), .lit (.int .i64 12)]], .agg [.lit (.int .i64 38), .agg [.lit (.int .i64 3), .lit (.int .i64 6)]], .agg [.lit (.int .i64 39), .agg [.lit (.int .i64 3), .lit (.int .i64 2)]], .agg [.lit (.int .i64 41), .agg [.lit (.int .i64 3), .lit (.int .i64 8)]], .agg [.lit (.int .i64 42), .agg [.lit (.int .i64 3), .lit (.int .i64 15)]], .agg [.lit (.int .i64 48), .agg [.lit (.int .i64 5), .lit (.int .i64 400)]], .agg [.lit (.int .i64 49), .agg [.lit (.int .i64 1), .lit (.int .i64 3)]], .agg [.lit (.int .i64 52), .agg [.lit (.int .i64 6), .lit (.int .i64 8)]], .agg [.lit (.int .i64 53), .agg [.lit (.int .i64 1), .lit (.int .i64 16)]], .agg [.lit (.int .i64 54), .agg [.lit (.int .i64 5), .lit (.int .i64 120)]], .agg [.lit (.int .i64 55), .agg [.lit (.int .i64 7), .lit (.int .i64 255)]], .agg [.lit (.int .i64 64), .agg [.lit (.int .i64 6), .lit (.int .i64 8)]], .agg [.lit (.int .i64 70), .agg [.lit (.int .i64 1), .lit (.int .i64 3)]], .agg [.lit (.int .i64 90), .agg [.lit (.int .i64 1), .lit (.int .i64 42)]], .agg [.lit (.int .i64 95), .agg [.lit (.int .i64 3), .lit (.int .i64 42)]], .agg [.lit (.int .i64 96), .agg [.lit (.int .i64 6), .lit (.int .i64 8)]], .agg [.lit (.int .i64 100), .agg [.lit (.int .i64 2), .lit (.int .i64 11)]], .agg [.lit (.int .i64 102), .agg [.lit (.int .i64 4), .lit (.int .i64 28)]], .agg [.lit (.int .i64 127), .agg [.lit (.int .i64 7), .lit (.int .i64 400)]], .agg [.lit (.int .i64 128), .agg [.lit (.int .i64 6), .lit (.int .i64 8)]]]

/-- 'yettlaw07.IsoTells': WHATEVER THE INPUT: true; the input reads as it did. -/
def isoTellsSpec : ChangeSpec := { name := "isoTells", fn := fun _ => fun
  | [d1, d2, d3] => { results := [.lit (.bool true)], args := [d1, d2, d3] }
  | _ => none }
def isoTellsRow : OpenClaim := { program := "ytpfjecjfooefoaadoor", sum := "145e8cc110130ce4cd56ebd3554a98b70b205a22f8dbdf23447de5088cb23ad5", func := "yett/yettlaw07.IsoTells", spec := "isoTells", unfollowed := true, recurses := true, named := ["yett/field.rows"], apart := false, laid := [("yett/field.rows", laid_yett_field_rows)] }
def IsoTellsSaid : Prop := isoTellsRow.holds Tryd.pinned (OpenSpec.ofChange isoTellsSpec)

/-- ITS FALSE NEIGHBOUR: 'it returns false'. Refute it at one input. -/
def isoTellsWrong : ChangeSpec := { name := "isoTells", fn := fun _ => fun
  | [d1, d2, d3] => { results := [.lit (.bool false)], args := [d1, d2, d3] }
  | _ => none }
def IsoTellsWrongFalsely : Prop := isoTellsRow.holds Tryd.pinned (OpenSpec.ofChange isoTellsWrong)

/-- 'yettlaw07.IsoReads': WHATEVER THE INPUT: true; the input reads as it did. -/
def isoReadsSpec : ChangeSpec := { name := "isoReads", fn := fun _ => fun
  | [d] => { results := [.lit (.bool true)], args := [d] }
  | _ => none }
def isoReadsRow : OpenClaim := { program := "ytpfjecjfooefoaadoor", sum := "145e8cc110130ce4cd56ebd3554a98b70b205a22f8dbdf23447de5088cb23ad5", func := "yett/yettlaw07.IsoReads", spec := "isoReads", unfollowed := true, recurses := true, named := ["yett/field.rows"], apart := false, laid := [("yett/field.rows", laid_yett_field_rows)] }
def IsoReadsSaid : Prop := isoReadsRow.holds Tryd.pinned (OpenSpec.ofChange isoReadsSpec)

/-- ITS FALSE NEIGHBOUR: 'it returns false'. Refute it at one input. -/
def isoReadsWrong : ChangeSpec := { name := "isoReads", fn := fun _ => fun
  | [d] => { results := [.lit (.bool false)], args := [d] }
  | _ => none }
def IsoReadsWrongFalsely : Prop := isoReadsRow.holds Tryd.pinned (OpenSpec.ofChange isoReadsWrong)

/-- 'yettlaw07.IsoSets': WHATEVER THE INPUT: true; the input reads as it did. -/
def isoSetsSpec : ChangeSpec := { name := "isoSets", fn := fun _ => fun
  | [d1, d2, d3] => { results := [.lit (.bool true)], args := [d1, d2, d3] }
  | _ => none }
def isoSetsRow : OpenClaim := { program := "ytpfjecjfooefoaadoor", sum := "145e8cc110130ce4cd56ebd3554a98b70b205a22f8dbdf23447de5088cb23ad5", func := "yett/yettlaw07.IsoSets", spec := "isoSets", unfollowed := true, recurses := true, named := ["yett/field.rows"], apart := false, laid := [("yett/field.rows", laid_yett_field_rows)] }
def IsoSetsSaid : Prop := isoSetsRow.holds Tryd.pinned (OpenSpec.ofChange isoSetsSpec)

/-- ITS FALSE NEIGHBOUR: 'it returns false'. Refute it at one input. -/
def isoSetsWrong : ChangeSpec := { name := "isoSets", fn := fun _ => fun
  | [d1, d2, d3] => { results := [.lit (.bool false)], args := [d1, d2, d3] }
  | _ => none }
def IsoSetsWrongFalsely : Prop := isoSetsRow.holds Tryd.pinned (OpenSpec.ofChange isoSetsWrong)

/-- 'yettlaw07.IsoBack': WHATEVER THE INPUT: true; the input reads as it did. -/
def isoBackSpec : ChangeSpec := { name := "isoBack", fn := fun _ => fun
  | [d1, d2] => { results := [.lit (.bool true)], args := [d1, d2] }
  | _ => none }
def isoBackRow : OpenClaim := { program := "ytpfjecjfooefoaadoor", sum := "145e8cc110130ce4cd56ebd3554a98b70b205a22f8dbdf23447de5088cb23ad5", func := "yett/yettlaw07.IsoBack", spec := "isoBack", unfollowed := true, recurses := true, named := ["yett/field.rows"], apart := false, laid := [("yett/field.rows", laid_yett_field_rows)] }
def IsoBackSaid : Prop := isoBackRow.holds Tryd.pinned (OpenSpec.ofChange isoBackSpec)

/-- ITS FALSE NEIGHBOUR: 'it returns false'. Refute it at one input. -/
def isoBackWrong : ChangeSpec := { name := "isoBack", fn := fun _ => fun
  | [d1, d2] => { results := [.lit (.bool false)], args := [d1, d2] }
  | _ => none }
def IsoBackWrongFalsely : Prop := isoBackRow.holds Tryd.pinned (OpenSpec.ofChange isoBackWrong)

/-- 'yettlaw07.IsoHolds': WHATEVER THE INPUT: true; the input reads as it did. -/
def isoHoldsSpec : ChangeSpec := { name := "isoHolds", fn := fun _ => fun
  | [d] => { results := [.lit (.bool true)], args := [d] }
  | _ => none }
def isoHoldsRow : OpenClaim := { program := "ytpfjecjfooefoaadoor", sum := "145e8cc110130ce4cd56ebd3554a98b70b205a22f8dbdf23447de5088cb23ad5", func := "yett/yettlaw07.IsoHolds", spec := "isoHolds", unfollowed := true, recurses := true, named := ["yett/field.rows"], apart := false, laid := [("yett/field.rows", laid_yett_field_rows)] }
def IsoHoldsSaid : Prop := isoHoldsRow.holds Tryd.pinned (OpenSpec.ofChange isoHoldsSpec)

/-- ITS FALSE NEIGHBOUR: 'it returns false'. Refute it at one input. -/
def isoHoldsWrong : ChangeSpec := { name := "isoHolds", fn := fun _ => fun
  | [d] => { results := [.lit (.bool false)], args := [d] }
  | _ => none }
def IsoHoldsWrongFalsely : Prop := isoHoldsRow.holds Tryd.pinned (OpenSpec.ofChange isoHoldsWrong)

/-- 'yettlaw07.IsoCuts': WHATEVER THE INPUT: true; the input reads as it did. -/
def isoCutsSpec : ChangeSpec := { name := "isoCuts", fn := fun _ => fun
  | [d1, d2, d3] => { results := [.lit (.bool true)], args := [d1, d2, d3] }
  | _ => none }
def isoCutsRow : OpenClaim := { program := "ytpfjecjfooefoaadoor", sum := "145e8cc110130ce4cd56ebd3554a98b70b205a22f8dbdf23447de5088cb23ad5", func := "yett/yettlaw07.IsoCuts", spec := "isoCuts", unfollowed := true, recurses := true, named := ["yett/field.rows"], apart := false, laid := [("yett/field.rows", laid_yett_field_rows)] }
def IsoCutsSaid : Prop := isoCutsRow.holds Tryd.pinned (OpenSpec.ofChange isoCutsSpec)

/-- ITS FALSE NEIGHBOUR: 'it returns false'. Refute it at one input. -/
def isoCutsWrong : ChangeSpec := { name := "isoCuts", fn := fun _ => fun
  | [d1, d2, d3] => { results := [.lit (.bool false)], args := [d1, d2, d3] }
  | _ => none }
def IsoCutsWrongFalsely : Prop := isoCutsRow.holds Tryd.pinned (OpenSpec.ofChange isoCutsWrong)

/-- 'yettlaw07.IsoApart': WHATEVER THE INPUT: true; the input reads as it did. -/
def isoApartSpec : ChangeSpec := { name := "isoApart", fn := fun _ => fun
  | [d1, d2] => { results := [.lit (.bool true)], args := [d1, d2] }
  | _ => none }
def isoApartRow : OpenClaim := { program := "ytpfjecjfooefoaadoor", sum := "145e8cc110130ce4cd56ebd3554a98b70b205a22f8dbdf23447de5088cb23ad5", func := "yett/yettlaw07.IsoApart", spec := "isoApart", unfollowed := true, recurses := true, named := ["yett/field.rows"], apart := false, laid := [("yett/field.rows", laid_yett_field_rows)] }
def IsoApartSaid : Prop := isoApartRow.holds Tryd.pinned (OpenSpec.ofChange isoApartSpec)

/-- ITS FALSE NEIGHBOUR: 'it returns false'. Refute it at one input. -/
def isoApartWrong : ChangeSpec := { name := "isoApart", fn := fun _ => fun
  | [d1, d2] => { results := [.lit (.bool false)], args := [d1, d2] }
  | _ => none }
def IsoApartWrongFalsely : Prop := isoApartRow.holds Tryd.pinned (OpenSpec.ofChange isoApartWrong)

/-- 'yettlaw07.IsoTypes': WHATEVER THE INPUT: true; the input reads as it did. -/
def isoTypesSpec : ChangeSpec := { name := "isoTypes", fn := fun _ => fun
  | [d] => { results := [.lit (.bool true)], args := [d] }
  | _ => none }
def isoTypesRow : OpenClaim := { program := "ytpfjecjfooefoaadoor", sum := "145e8cc110130ce4cd56ebd3554a98b70b205a22f8dbdf23447de5088cb23ad5", func := "yett/yettlaw07.IsoTypes", spec := "isoTypes", unfollowed := true, recurses := true, named := ["yett/field.rows"], apart := false, laid := [("yett/field.rows", laid_yett_field_rows)] }
def IsoTypesSaid : Prop := isoTypesRow.holds Tryd.pinned (OpenSpec.ofChange isoTypesSpec)

/-- ITS FALSE NEIGHBOUR: 'it returns false'. Refute it at one input. -/
def isoTypesWrong : ChangeSpec := { name := "isoTypes", fn := fun _ => fun
  | [d] => { results := [.lit (.bool false)], args := [d] }
  | _ => none }
def IsoTypesWrongFalsely : Prop := isoTypesRow.holds Tryd.pinned (OpenSpec.ofChange isoTypesWrong)

/- THE SECOND FORM. 'bulk': how many values and letters a reading holds, each counted each time it is reached (what is shared counts as often as it is met; a slice's spare places count too). A statement '..UptoSaid' is the law's where the arguments, and the package variables that the reading takes, are together of bulk at most 1048576: NARROWER than '..Said'. Prove '..Said' where nothing that the law and all that it calls make is longer than what came in: it says more and counts as full. Else prove '..UptoSaid'. A law counts once. -/
mutual
def uptoBulk {H : Type} : DataW H → Nat
  | .lit (.string bytes) => bytes.length + 1
  | .lit _ => 1
  | .nil => 1
  | .ptr d => uptoBulk d + 1
  | .slice elems spare => uptoBulkAll elems + uptoBulkAll spare + 1
  | .agg parts => uptoBulkAll parts + 1
  | .iface _ d => uptoBulk d + 1
  | .map entries => uptoBulkEntries entries + 1
  | .held _ => 1
def uptoBulkAll {H : Type} : List (DataW H) → Nat
  | [] => 0
  | d :: r => uptoBulk d + uptoBulkAll r
def uptoBulkEntries {H : Type} : List (Lit × DataW H) → Nat
  | [] => 0
  | x :: r => uptoBulkEntry x + uptoBulkEntries r
def uptoBulkEntry {H : Type} : Lit × DataW H → Nat
  | (.string bytes, d) => bytes.length + uptoBulk d + 1
  | (_, d) => uptoBulk d + 1
 end
def uptoSmall : (H : Type) → List (DataW H) → Bool := fun _ ds => decide (uptoBulkAll ds ≤ 1048576)
def OpenSpec.upto (s : _root_.Go.ChangeSpec) : _root_.Go.OpenSpec := { _root_.Go.OpenSpec.ofChange s with cond := some uptoSmall }

/-- 'yettlaw07.IsoTells', WHERE WHAT IT READS IS OF BULK AT MOST 1048576: true; the input reads as it did. -/
def isoTellsUptoRow : OpenClaim := { program := "ytpfjecjfooefoaadoor", sum := "145e8cc110130ce4cd56ebd3554a98b70b205a22f8dbdf23447de5088cb23ad5", func := "yett/yettlaw07.IsoTells", spec := "isoTells", unfollowed := true, recurses := true, named := ["yett/field.rows"], apart := false, laid := [("yett/field.rows", laid_yett_field_rows)], narrowed := true }
def IsoTellsUptoSaid : Prop := isoTellsUptoRow.holds Tryd.pinned (OpenSpec.upto isoTellsSpec)

/-- 'yettlaw07.IsoReads', WHERE WHAT IT READS IS OF BULK AT MOST 1048576: true; the input reads as it did. -/
def isoReadsUptoRow : OpenClaim := { program := "ytpfjecjfooefoaadoor", sum := "145e8cc110130ce4cd56ebd3554a98b70b205a22f8dbdf23447de5088cb23ad5", func := "yett/yettlaw07.IsoReads", spec := "isoReads", unfollowed := true, recurses := true, named := ["yett/field.rows"], apart := false, laid := [("yett/field.rows", laid_yett_field_rows)], narrowed := true }
def IsoReadsUptoSaid : Prop := isoReadsUptoRow.holds Tryd.pinned (OpenSpec.upto isoReadsSpec)

/-- 'yettlaw07.IsoSets', WHERE WHAT IT READS IS OF BULK AT MOST 1048576: true; the input reads as it did. -/
def isoSetsUptoRow : OpenClaim := { program := "ytpfjecjfooefoaadoor", sum := "145e8cc110130ce4cd56ebd3554a98b70b205a22f8dbdf23447de5088cb23ad5", func := "yett/yettlaw07.IsoSets", spec := "isoSets", unfollowed := true, recurses := true, named := ["yett/field.rows"], apart := false, laid := [("yett/field.rows", laid_yett_field_rows)], narrowed := true }
def IsoSetsUptoSaid : Prop := isoSetsUptoRow.holds Tryd.pinned (OpenSpec.upto isoSetsSpec)

/-- 'yettlaw07.IsoBack', WHERE WHAT IT READS IS OF BULK AT MOST 1048576: true; the input reads as it did. -/
def isoBackUptoRow : OpenClaim := { program := "ytpfjecjfooefoaadoor", sum := "145e8cc110130ce4cd56ebd3554a98b70b205a22f8dbdf23447de5088cb23ad5", func := "yett/yettlaw07.IsoBack", spec := "isoBack", unfollowed := true, recurses := true, named := ["yett/field.rows"], apart := false, laid := [("yett/field.rows", laid_yett_field_rows)], narrowed := true }
def IsoBackUptoSaid : Prop := isoBackUptoRow.holds Tryd.pinned (OpenSpec.upto isoBackSpec)

/-- 'yettlaw07.IsoHolds', WHERE WHAT IT READS IS OF BULK AT MOST 1048576: true; the input reads as it did. -/
def isoHoldsUptoRow : OpenClaim := { program := "ytpfjecjfooefoaadoor", sum := "145e8cc110130ce4cd56ebd3554a98b70b205a22f8dbdf23447de5088cb23ad5", func := "yett/yettlaw07.IsoHolds", spec := "isoHolds", unfollowed := true, recurses := true, named := ["yett/field.rows"], apart := false, laid := [("yett/field.rows", laid_yett_field_rows)], narrowed := true }
def IsoHoldsUptoSaid : Prop := isoHoldsUptoRow.holds Tryd.pinned (OpenSpec.upto isoHoldsSpec)

/-- 'yettlaw07.IsoCuts', WHERE WHAT IT READS IS OF BULK AT MOST 1048576: true; the input reads as it did. -/
def isoCutsUptoRow : OpenClaim := { program := "ytpfjecjfooefoaadoor", sum := "145e8cc110130ce4cd56ebd3554a98b70b205a22f8dbdf23447de5088cb23ad5", func := "yett/yettlaw07.IsoCuts", spec := "isoCuts", unfollowed := true, recurses := true, named := ["yett/field.rows"], apart := false, laid := [("yett/field.rows", laid_yett_field_rows)], narrowed := true }
def IsoCutsUptoSaid : Prop := isoCutsUptoRow.holds Tryd.pinned (OpenSpec.upto isoCutsSpec)

/-- 'yettlaw07.IsoApart', WHERE WHAT IT READS IS OF BULK AT MOST 1048576: true; the input reads as it did. -/
def isoApartUptoRow : OpenClaim := { program := "ytpfjecjfooefoaadoor", sum := "145e8cc110130ce4cd56ebd3554a98b70b205a22f8dbdf23447de5088cb23ad5", func := "yett/yettlaw07.IsoApart", spec := "isoApart", unfollowed := true, recurses := true, named := ["yett/field.rows"], apart := false, laid := [("yett/field.rows", laid_yett_field_rows)], narrowed := true }
def IsoApartUptoSaid : Prop := isoApartUptoRow.holds Tryd.pinned (OpenSpec.upto isoApartSpec)

/-- 'yettlaw07.IsoTypes', WHERE WHAT IT READS IS OF BULK AT MOST 1048576: true; the input reads as it did. -/
def isoTypesUptoRow : OpenClaim := { program := "ytpfjecjfooefoaadoor", sum := "145e8cc110130ce4cd56ebd3554a98b70b205a22f8dbdf23447de5088cb23ad5", func := "yett/yettlaw07.IsoTypes", spec := "isoTypes", unfollowed := true, recurses := true, named := ["yett/field.rows"], apart := false, laid := [("yett/field.rows", laid_yett_field_rows)], narrowed := true }
def IsoTypesUptoSaid : Prop := isoTypesUptoRow.holds Tryd.pinned (OpenSpec.upto isoTypesSpec)

end Rows
end Go.Proofs.YtpfjecjfooefoaaDoor
