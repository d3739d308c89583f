/-
  NARROWER THAN 'FOR EVERY INPUT', by the rows' own cells (each row's printed sentence says how): FieldTells: laid · FieldReads: laid · FieldBack: laid · FieldApart: laid · FieldCuts: laid · FieldLong: laid · FieldSigns: laid.
  DERIVED. THE GIVEN ROWS OF THIS SEAT. 7 by the template 'for every input the law returns true; each argument reads behind the call as it read before'; 0 by the template 'total and deterministic' (their statements: YtecdmdgpmbgaaaaDoorTotals.lean).
  GIVEN WITH THE SEED: the statements are not yours to turn. If you find one false, say at which input.
  Laid BY PROGRAM, IN A SANDBOX (cutbox-rows.mjs): the forced cells as the released guide's own fill.sh prints them over the translation a351d8f3aa5f1227… (all of the seat's roots in one cut). By AI agents, Wed Nov 11 2026. No macro, syntax, notation, axiom, sorry.
-/
import Derived.Test.YtecdmdgpmbgaaaaDoorChecked
import GoSem.Claim
import GoSem.ClaimJoined
import GoSem.ClaimMapViews
import Derived.JoinedTies
import Derived.KernelRfl
namespace Go.Proofs.YtecdmdgpmbgaaaaDoor
/- THE CELL 'sum', in the pinned program and in every row, IS THE sha256 OF THE DUMP (.gsa) THAT YtecdmdgpmbgaaaaDoorProg.lean LOADS. Nothing in Lean hashes anything: it is a label: what it is worth is what the hold of that sum in a sandbox is worth. -/
noncomputable def Tryd.pinned : Pinned := { name := "ytecdmdgpmbgaaaadoor", sum := "a351d8f3aa5f122771463495faf222ad357f53df38f46ad1397d61dee11666db", checked := Tryd.checked }
namespace Rows
def none {H : Type} : Left H := { results := [], args := [] }

/- WHAT THE LISTED PACKAGE-LEVEL VARIABLES READ AS WHEN THE CALL BEGINS. Each datum BY PROGRAM (the guide's laid-datum.mjs) off the statement by which the dump's own 'gosem.cut.vars' lays the variable. In a bare row this is a premise. The card (YtecdmdgpmbgaaaaDoorCards.lean) ties it to the program's text. -/
def laid_yett_field_rows {H : Type} : DataW H := .agg [.agg [.lit (.int .i64 2), .agg [.lit (.int .i64 2), .lit (.int .i64 19)]], .agg [.lit (.int .i64 3), .agg [.lit (.int .i64 1), .lit (.int .i64 6)]], .agg [.lit (.int .i64 4), .agg [.lit (.int .i64 1), .lit (.int .i64 12)]], .agg [.lit (.int .i64 7), .agg [.lit (.int .i64 1), .lit (.int .i64 10)]], .agg [.lit (.int .i64 11), .agg [.lit (.int .i64 1), .lit (.int .i64 6)]], .agg [.lit (.int .i64 12), .agg [.lit (.int .i64 1), .lit (.int .i64 6)]], .agg [.lit (.int .i64 13), .agg [.lit (.int .i64 1), .lit (.int .i64 4)]], .agg [.lit (.int .i64 14), .agg [.lit (.int .i64 1), .lit (.int .i64 4)]], .agg [.lit (.int .i64 15), .agg [.lit (.int .i64 1), .lit (.int .i64 6)]], .agg [.lit (.int .i64 18), .agg [.lit (.int .i64 1), .lit (.int .i64 4)]], .agg [.lit (.int .i64 22), .agg [.lit (.int .i64 1), .lit (.int .i64 3)]], .agg [.lit (.int .i64 25), .agg [.lit (.int .i64 1), .lit (.int .i64 2)]], .agg [.lit (.int .i64 32), .agg [.lit (.int .i64 2), .lit (.int .i64 11)]], .agg [.lit (.int .i64 35), .agg [.lit (.int .i64 4), .lit (.int .i64 37)]], .agg [.lit (.int .i64 37), .agg [.lit (.int .i64 3), .lit (.int .i64 12)]], .agg [.lit (.int .i64 38), .agg [.lit (.int .i64 3), .lit (.int .i64 6)]], .agg [.lit (.int .i64 39), .agg [.lit (.int .i64 3), .lit (.int .i64 2)]], .agg [.lit (.int .i64 41), .agg [.lit (.int .i64 3), .lit (.int .i64 8)]], .agg [.lit (.int .i64 42), .agg [.lit (.int .i64 3), .lit (.int .i64 15)]], .agg [.lit (.int .i64 48), .agg [.lit (.int .i64 5), .lit (.int .i64 400)]], .agg [.lit (.int .i64 49), .agg [.lit (.int .i64 1), .lit (.int .i64 3)]], .agg [.lit (.int .i64 52), .agg [.lit (.int .i64 6), .lit (.int .i64 8)]], .agg [.lit (.int .i64 53), .agg [.lit (.int .i64 1), .lit (.int .i64 16)]], .agg [.lit (.int .i64 54), .agg [.lit (.int .i64 5), .lit (.int .i64 120)]], .agg [.lit (.int .i64 55), .agg [.lit (.int .i64 7), .lit (.int .i64 255)]], .agg [.lit (.int .i64 64), .agg [.lit (.int .i64 6), .lit (.int .i64 8)]], .agg [.lit (.int .i64 70), .agg [.lit (.int .i64 1), .lit (.int .i64 3)]], .agg [.lit (.int .i64 90), .agg [.lit (.int .i64 1), .lit (.int .i64 42)]], .agg [.lit (.int .i64 95), .agg [.lit (.int .i64 3), .lit (.int .i64 42)]], .agg [.lit (.int .i64 96), .agg [.lit (.int .i64 6), .lit (.int .i64 8)]], .agg [.lit (.int .i64 100), .agg [.lit (.int .i64 2), .lit (.int .i64 11)]], .agg [.lit (.int .i64 102), .agg [.lit (.int .i64 4), .lit (.int .i64 28)]], .agg [.lit (.int .i64 127), .agg [.lit (.int .i64 7), .lit (.int .i64 400)]], .agg [.lit (.int .i64 128), .agg [.lit (.int .i64 6), .lit (.int .i64 8)]]]

/-- 'yettlaw05.FieldTells': WHATEVER THE INPUT: true; the input reads as it did. -/
def fieldTellsSpec : ChangeSpec := { name := "fieldTells", fn := fun _ => fun
  | [d1, d2] => { results := [.lit (.bool true)], args := [d1, d2] }
  | _ => none }
def fieldTellsRow : OpenClaim := { program := "ytecdmdgpmbgaaaadoor", sum := "a351d8f3aa5f122771463495faf222ad357f53df38f46ad1397d61dee11666db", func := "yett/yettlaw05.FieldTells", spec := "fieldTells", unfollowed := true, recurses := true, named := ["yett/field.rows"], apart := false, laid := [("yett/field.rows", laid_yett_field_rows)] }
def FieldTellsSaid : Prop := fieldTellsRow.holds Tryd.pinned (OpenSpec.ofChange fieldTellsSpec)

/-- ITS FALSE NEIGHBOUR: 'it returns false'. Refute it at one input. -/
def fieldTellsWrong : ChangeSpec := { name := "fieldTells", fn := fun _ => fun
  | [d1, d2] => { results := [.lit (.bool false)], args := [d1, d2] }
  | _ => none }
def FieldTellsWrongFalsely : Prop := fieldTellsRow.holds Tryd.pinned (OpenSpec.ofChange fieldTellsWrong)

/-- 'yettlaw05.FieldReads': WHATEVER THE INPUT: true; the input reads as it did. -/
def fieldReadsSpec : ChangeSpec := { name := "fieldReads", fn := fun _ => fun
  | [d1, d2, d3] => { results := [.lit (.bool true)], args := [d1, d2, d3] }
  | _ => none }
def fieldReadsRow : OpenClaim := { program := "ytecdmdgpmbgaaaadoor", sum := "a351d8f3aa5f122771463495faf222ad357f53df38f46ad1397d61dee11666db", func := "yett/yettlaw05.FieldReads", spec := "fieldReads", unfollowed := true, recurses := true, named := ["yett/field.rows"], apart := false, laid := [("yett/field.rows", laid_yett_field_rows)] }
def FieldReadsSaid : Prop := fieldReadsRow.holds Tryd.pinned (OpenSpec.ofChange fieldReadsSpec)

/-- ITS FALSE NEIGHBOUR: 'it returns false'. Refute it at one input. -/
def fieldReadsWrong : ChangeSpec := { name := "fieldReads", fn := fun _ => fun
  | [d1, d2, d3] => { results := [.lit (.bool false)], args := [d1, d2, d3] }
  | _ => none }
def FieldReadsWrongFalsely : Prop := fieldReadsRow.holds Tryd.pinned (OpenSpec.ofChange fieldReadsWrong)

/-- 'yettlaw05.FieldBack': WHATEVER THE INPUT: true; the input reads as it did. -/
def fieldBackSpec : ChangeSpec := { name := "fieldBack", fn := fun _ => fun
  | [d] => { results := [.lit (.bool true)], args := [d] }
  | _ => none }
def fieldBackRow : OpenClaim := { program := "ytecdmdgpmbgaaaadoor", sum := "a351d8f3aa5f122771463495faf222ad357f53df38f46ad1397d61dee11666db", func := "yett/yettlaw05.FieldBack", spec := "fieldBack", unfollowed := true, recurses := true, named := ["yett/field.rows"], apart := false, laid := [("yett/field.rows", laid_yett_field_rows)] }
def FieldBackSaid : Prop := fieldBackRow.holds Tryd.pinned (OpenSpec.ofChange fieldBackSpec)

/-- ITS FALSE NEIGHBOUR: 'it returns false'. Refute it at one input. -/
def fieldBackWrong : ChangeSpec := { name := "fieldBack", fn := fun _ => fun
  | [d] => { results := [.lit (.bool false)], args := [d] }
  | _ => none }
def FieldBackWrongFalsely : Prop := fieldBackRow.holds Tryd.pinned (OpenSpec.ofChange fieldBackWrong)

/-- 'yettlaw05.FieldApart': WHATEVER THE INPUT: true; the input reads as it did. -/
def fieldApartSpec : ChangeSpec := { name := "fieldApart", fn := fun _ => fun
  | [d1, d2, d3] => { results := [.lit (.bool true)], args := [d1, d2, d3] }
  | _ => none }
def fieldApartRow : OpenClaim := { program := "ytecdmdgpmbgaaaadoor", sum := "a351d8f3aa5f122771463495faf222ad357f53df38f46ad1397d61dee11666db", func := "yett/yettlaw05.FieldApart", spec := "fieldApart", unfollowed := true, recurses := true, named := ["yett/field.rows"], apart := false, laid := [("yett/field.rows", laid_yett_field_rows)] }
def FieldApartSaid : Prop := fieldApartRow.holds Tryd.pinned (OpenSpec.ofChange fieldApartSpec)

/-- ITS FALSE NEIGHBOUR: 'it returns false'. Refute it at one input. -/
def fieldApartWrong : ChangeSpec := { name := "fieldApart", fn := fun _ => fun
  | [d1, d2, d3] => { results := [.lit (.bool false)], args := [d1, d2, d3] }
  | _ => none }
def FieldApartWrongFalsely : Prop := fieldApartRow.holds Tryd.pinned (OpenSpec.ofChange fieldApartWrong)

/-- 'yettlaw05.FieldCuts': WHATEVER THE INPUT: true; the input reads as it did. -/
def fieldCutsSpec : ChangeSpec := { name := "fieldCuts", fn := fun _ => fun
  | [d] => { results := [.lit (.bool true)], args := [d] }
  | _ => none }
def fieldCutsRow : OpenClaim := { program := "ytecdmdgpmbgaaaadoor", sum := "a351d8f3aa5f122771463495faf222ad357f53df38f46ad1397d61dee11666db", func := "yett/yettlaw05.FieldCuts", spec := "fieldCuts", unfollowed := true, recurses := true, named := ["yett/field.rows"], apart := false, laid := [("yett/field.rows", laid_yett_field_rows)] }
def FieldCutsSaid : Prop := fieldCutsRow.holds Tryd.pinned (OpenSpec.ofChange fieldCutsSpec)

/-- ITS FALSE NEIGHBOUR: 'it returns false'. Refute it at one input. -/
def fieldCutsWrong : ChangeSpec := { name := "fieldCuts", fn := fun _ => fun
  | [d] => { results := [.lit (.bool false)], args := [d] }
  | _ => none }
def FieldCutsWrongFalsely : Prop := fieldCutsRow.holds Tryd.pinned (OpenSpec.ofChange fieldCutsWrong)

/-- 'yettlaw05.FieldLong': WHATEVER THE INPUT: true; the input reads as it did. -/
def fieldLongSpec : ChangeSpec := { name := "fieldLong", fn := fun _ => fun
  | [d1, d2] => { results := [.lit (.bool true)], args := [d1, d2] }
  | _ => none }
def fieldLongRow : OpenClaim := { program := "ytecdmdgpmbgaaaadoor", sum := "a351d8f3aa5f122771463495faf222ad357f53df38f46ad1397d61dee11666db", func := "yett/yettlaw05.FieldLong", spec := "fieldLong", unfollowed := true, recurses := true, named := ["yett/field.rows"], apart := false, laid := [("yett/field.rows", laid_yett_field_rows)] }
def FieldLongSaid : Prop := fieldLongRow.holds Tryd.pinned (OpenSpec.ofChange fieldLongSpec)

/-- ITS FALSE NEIGHBOUR: 'it returns false'. Refute it at one input. -/
def fieldLongWrong : ChangeSpec := { name := "fieldLong", fn := fun _ => fun
  | [d1, d2] => { results := [.lit (.bool false)], args := [d1, d2] }
  | _ => none }
def FieldLongWrongFalsely : Prop := fieldLongRow.holds Tryd.pinned (OpenSpec.ofChange fieldLongWrong)

/-- 'yettlaw05.FieldSigns': WHATEVER THE INPUT: true; the input reads as it did. -/
def fieldSignsSpec : ChangeSpec := { name := "fieldSigns", fn := fun _ => fun
  | [d] => { results := [.lit (.bool true)], args := [d] }
  | _ => none }
def fieldSignsRow : OpenClaim := { program := "ytecdmdgpmbgaaaadoor", sum := "a351d8f3aa5f122771463495faf222ad357f53df38f46ad1397d61dee11666db", func := "yett/yettlaw05.FieldSigns", spec := "fieldSigns", unfollowed := true, recurses := true, named := ["yett/field.rows"], apart := false, laid := [("yett/field.rows", laid_yett_field_rows)] }
def FieldSignsSaid : Prop := fieldSignsRow.holds Tryd.pinned (OpenSpec.ofChange fieldSignsSpec)

/-- ITS FALSE NEIGHBOUR: 'it returns false'. Refute it at one input. -/
def fieldSignsWrong : ChangeSpec := { name := "fieldSigns", fn := fun _ => fun
  | [d] => { results := [.lit (.bool false)], args := [d] }
  | _ => none }
def FieldSignsWrongFalsely : Prop := fieldSignsRow.holds Tryd.pinned (OpenSpec.ofChange fieldSignsWrong)

/- THE SECOND FORM. 'bulk': how many values and letters a reading holds, each counted each time it is reached (what is shared counts as often as it is met; a slice's spare places count too). A statement '..UptoSaid' is the law's where the arguments, and the package variables that the reading takes, are together of bulk at most 1048576: NARROWER than '..Said'. Prove '..Said' where nothing that the law and all that it calls make is longer than what came in: it says more and counts as full. Else prove '..UptoSaid'. A law counts once. -/
mutual
def uptoBulk {H : Type} : DataW H → Nat
  | .lit (.string bytes) => bytes.length + 1
  | .lit _ => 1
  | .nil => 1
  | .ptr d => uptoBulk d + 1
  | .slice elems spare => uptoBulkAll elems + uptoBulkAll spare + 1
  | .agg parts => uptoBulkAll parts + 1
  | .iface _ d => uptoBulk d + 1
  | .map entries => uptoBulkEntries entries + 1
  | .held _ => 1
def uptoBulkAll {H : Type} : List (DataW H) → Nat
  | [] => 0
  | d :: r => uptoBulk d + uptoBulkAll r
def uptoBulkEntries {H : Type} : List (Lit × DataW H) → Nat
  | [] => 0
  | x :: r => uptoBulkEntry x + uptoBulkEntries r
def uptoBulkEntry {H : Type} : Lit × DataW H → Nat
  | (.string bytes, d) => bytes.length + uptoBulk d + 1
  | (_, d) => uptoBulk d + 1
 end
def uptoSmall : (H : Type) → List (DataW H) → Bool := fun _ ds => decide (uptoBulkAll ds ≤ 1048576)
def OpenSpec.upto (s : _root_.Go.ChangeSpec) : _root_.Go.OpenSpec := { _root_.Go.OpenSpec.ofChange s with cond := some uptoSmall }

/-- 'yettlaw05.FieldTells', WHERE WHAT IT READS IS OF BULK AT MOST 1048576: true; the input reads as it did. -/
def fieldTellsUptoRow : OpenClaim := { program := "ytecdmdgpmbgaaaadoor", sum := "a351d8f3aa5f122771463495faf222ad357f53df38f46ad1397d61dee11666db", func := "yett/yettlaw05.FieldTells", spec := "fieldTells", unfollowed := true, recurses := true, named := ["yett/field.rows"], apart := false, laid := [("yett/field.rows", laid_yett_field_rows)], narrowed := true }
def FieldTellsUptoSaid : Prop := fieldTellsUptoRow.holds Tryd.pinned (OpenSpec.upto fieldTellsSpec)

/-- 'yettlaw05.FieldReads', WHERE WHAT IT READS IS OF BULK AT MOST 1048576: true; the input reads as it did. -/
def fieldReadsUptoRow : OpenClaim := { program := "ytecdmdgpmbgaaaadoor", sum := "a351d8f3aa5f122771463495faf222ad357f53df38f46ad1397d61dee11666db", func := "yett/yettlaw05.FieldReads", spec := "fieldReads", unfollowed := true, recurses := true, named := ["yett/field.rows"], apart := false, laid := [("yett/field.rows", laid_yett_field_rows)], narrowed := true }
def FieldReadsUptoSaid : Prop := fieldReadsUptoRow.holds Tryd.pinned (OpenSpec.upto fieldReadsSpec)

/-- 'yettlaw05.FieldBack', WHERE WHAT IT READS IS OF BULK AT MOST 1048576: true; the input reads as it did. -/
def fieldBackUptoRow : OpenClaim := { program := "ytecdmdgpmbgaaaadoor", sum := "a351d8f3aa5f122771463495faf222ad357f53df38f46ad1397d61dee11666db", func := "yett/yettlaw05.FieldBack", spec := "fieldBack", unfollowed := true, recurses := true, named := ["yett/field.rows"], apart := false, laid := [("yett/field.rows", laid_yett_field_rows)], narrowed := true }
def FieldBackUptoSaid : Prop := fieldBackUptoRow.holds Tryd.pinned (OpenSpec.upto fieldBackSpec)

/-- 'yettlaw05.FieldApart', WHERE WHAT IT READS IS OF BULK AT MOST 1048576: true; the input reads as it did. -/
def fieldApartUptoRow : OpenClaim := { program := "ytecdmdgpmbgaaaadoor", sum := "a351d8f3aa5f122771463495faf222ad357f53df38f46ad1397d61dee11666db", func := "yett/yettlaw05.FieldApart", spec := "fieldApart", unfollowed := true, recurses := true, named := ["yett/field.rows"], apart := false, laid := [("yett/field.rows", laid_yett_field_rows)], narrowed := true }
def FieldApartUptoSaid : Prop := fieldApartUptoRow.holds Tryd.pinned (OpenSpec.upto fieldApartSpec)

/-- 'yettlaw05.FieldCuts', WHERE WHAT IT READS IS OF BULK AT MOST 1048576: true; the input reads as it did. -/
def fieldCutsUptoRow : OpenClaim := { program := "ytecdmdgpmbgaaaadoor", sum := "a351d8f3aa5f122771463495faf222ad357f53df38f46ad1397d61dee11666db", func := "yett/yettlaw05.FieldCuts", spec := "fieldCuts", unfollowed := true, recurses := true, named := ["yett/field.rows"], apart := false, laid := [("yett/field.rows", laid_yett_field_rows)], narrowed := true }
def FieldCutsUptoSaid : Prop := fieldCutsUptoRow.holds Tryd.pinned (OpenSpec.upto fieldCutsSpec)

/-- 'yettlaw05.FieldLong', WHERE WHAT IT READS IS OF BULK AT MOST 1048576: true; the input reads as it did. -/
def fieldLongUptoRow : OpenClaim := { program := "ytecdmdgpmbgaaaadoor", sum := "a351d8f3aa5f122771463495faf222ad357f53df38f46ad1397d61dee11666db", func := "yett/yettlaw05.FieldLong", spec := "fieldLong", unfollowed := true, recurses := true, named := ["yett/field.rows"], apart := false, laid := [("yett/field.rows", laid_yett_field_rows)], narrowed := true }
def FieldLongUptoSaid : Prop := fieldLongUptoRow.holds Tryd.pinned (OpenSpec.upto fieldLongSpec)

/-- 'yettlaw05.FieldSigns', WHERE WHAT IT READS IS OF BULK AT MOST 1048576: true; the input reads as it did. -/
def fieldSignsUptoRow : OpenClaim := { program := "ytecdmdgpmbgaaaadoor", sum := "a351d8f3aa5f122771463495faf222ad357f53df38f46ad1397d61dee11666db", func := "yett/yettlaw05.FieldSigns", spec := "fieldSigns", unfollowed := true, recurses := true, named := ["yett/field.rows"], apart := false, laid := [("yett/field.rows", laid_yett_field_rows)], narrowed := true }
def FieldSignsUptoSaid : Prop := fieldSignsUptoRow.holds Tryd.pinned (OpenSpec.upto fieldSignsSpec)

end Rows
end Go.Proofs.YtecdmdgpmbgaaaaDoor
