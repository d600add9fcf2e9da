/-
  NARROWER THAN 'FOR EVERY INPUT', by the rows' own cells (each row's printed sentence says how): PtrDecodes: laid · PtrBack: laid · PtrFields: laid · PtrWords: laid · PtrKinds: laid · PtrOffs: laid.
  DERIVED. THE GIVEN ROWS OF THIS SEAT. 6 by the template 'for every input the law returns true; each argument reads behind the call as it read before'; 0 by the template 'total and deterministic' (their statements: YtknmbohokmeidaaDoorTotals.lean).
  GIVEN WITH THE SEED: the statements are not yours to turn. If you find one false, say at which input.
  Laid BY PROGRAM, IN A SANDBOX (cutbox-rows.mjs): the forced cells as the released guide's own fill.sh prints them over the translation da4bc943bbc0f954… (all of the seat's roots in one cut). By AI agents, Wed Nov 11 2026. No macro, syntax, notation, axiom, sorry.
-/
import Derived.Test.YtknmbohokmeidaaDoorChecked
import GoSem.Claim
import GoSem.ClaimJoined
import GoSem.ClaimMapViews
import Derived.JoinedTies
import Derived.KernelRfl
namespace Go.Proofs.YtknmbohokmeidaaDoor
/- THE CELL 'sum', in the pinned program and in every row, IS THE sha256 OF THE DUMP (.gsa) THAT YtknmbohokmeidaaDoorProg.lean LOADS. Nothing in Lean hashes anything: it is a label: what it is worth is what the hold of that sum in a sandbox is worth. -/
noncomputable def Tryd.pinned : Pinned := { name := "ytknmbohokmeidaadoor", sum := "da4bc943bbc0f95457acd3baef22fb9e366fc90ad0ad5b5f10312c07283badca", checked := Tryd.checked }
namespace Rows
def none {H : Type} : Left H := { results := [], args := [] }

/- WHAT THE LISTED PACKAGE-LEVEL VARIABLES READ AS WHEN THE CALL BEGINS. Each datum BY PROGRAM (the guide's laid-datum.mjs) off the statement by which the dump's own 'gosem.cut.vars' lays the variable. In a bare row this is a premise. The card (YtknmbohokmeidaaDoorCards.lean) ties it to the program's text. -/
def laid_sculler_ptr_kindAt {H : Type} : DataW H := .agg [.lit (.int .i64 0), .lit (.int .i64 1)]
def laid_sculler_ptr_offAt {H : Type} : DataW H := .agg [.lit (.int .i64 2), .lit (.int .i64 31)]
def laid_sculler_ptr_dataAt {H : Type} : DataW H := .agg [.lit (.int .i64 32), .lit (.int .i64 47)]
def laid_sculler_ptr_ptrsAt {H : Type} : DataW H := .agg [.lit (.int .i64 48), .lit (.int .i64 63)]
def laid_sculler_ptr_sizeAt {H : Type} : DataW H := .agg [.lit (.int .i64 32), .lit (.int .i64 34)]
def laid_sculler_ptr_countAt {H : Type} : DataW H := .agg [.lit (.int .i64 35), .lit (.int .i64 63)]
def laid_sculler_ptr_doubleAt {H : Type} : DataW H := .agg [.lit (.int .i64 2), .lit (.int .i64 2)]
def laid_sculler_ptr_farOffAt {H : Type} : DataW H := .agg [.lit (.int .i64 3), .lit (.int .i64 31)]
def laid_sculler_ptr_segAt {H : Type} : DataW H := .agg [.lit (.int .i64 32), .lit (.int .i64 63)]

/-- 'scullerlaw06.PtrDecodes': WHATEVER THE INPUT: true; the input reads as it did. -/
def ptrDecodesSpec : ChangeSpec := { name := "ptrDecodes", fn := fun _ => fun
  | [d1, d2, d3, d4, d5, d6] => { results := [.lit (.bool true)], args := [d1, d2, d3, d4, d5, d6] }
  | _ => none }
def ptrDecodesRow : OpenClaim := { program := "ytknmbohokmeidaadoor", sum := "da4bc943bbc0f95457acd3baef22fb9e366fc90ad0ad5b5f10312c07283badca", func := "sculler/scullerlaw06.PtrDecodes", spec := "ptrDecodes", named := ["sculler/ptr.kindAt", "sculler/ptr.offAt", "sculler/ptr.dataAt", "sculler/ptr.ptrsAt", "sculler/ptr.sizeAt", "sculler/ptr.countAt", "sculler/ptr.doubleAt", "sculler/ptr.farOffAt", "sculler/ptr.segAt"], apart := false, laid := [("sculler/ptr.kindAt", laid_sculler_ptr_kindAt), ("sculler/ptr.offAt", laid_sculler_ptr_offAt), ("sculler/ptr.dataAt", laid_sculler_ptr_dataAt), ("sculler/ptr.ptrsAt", laid_sculler_ptr_ptrsAt), ("sculler/ptr.sizeAt", laid_sculler_ptr_sizeAt), ("sculler/ptr.countAt", laid_sculler_ptr_countAt), ("sculler/ptr.doubleAt", laid_sculler_ptr_doubleAt), ("sculler/ptr.farOffAt", laid_sculler_ptr_farOffAt), ("sculler/ptr.segAt", laid_sculler_ptr_segAt)] }
def PtrDecodesSaid : Prop := ptrDecodesRow.holds Tryd.pinned (OpenSpec.ofChange ptrDecodesSpec)

/-- ITS FALSE NEIGHBOUR: 'it returns false'. Refute it at one input. -/
def ptrDecodesWrong : ChangeSpec := { name := "ptrDecodes", fn := fun _ => fun
  | [d1, d2, d3, d4, d5, d6] => { results := [.lit (.bool false)], args := [d1, d2, d3, d4, d5, d6] }
  | _ => none }
def PtrDecodesWrongFalsely : Prop := ptrDecodesRow.holds Tryd.pinned (OpenSpec.ofChange ptrDecodesWrong)

/-- 'scullerlaw06.PtrBack': WHATEVER THE INPUT: true; the input reads as it did. -/
def ptrBackSpec : ChangeSpec := { name := "ptrBack", fn := fun _ => fun
  | [d1, d2] => { results := [.lit (.bool true)], args := [d1, d2] }
  | _ => none }
def ptrBackRow : OpenClaim := { program := "ytknmbohokmeidaadoor", sum := "da4bc943bbc0f95457acd3baef22fb9e366fc90ad0ad5b5f10312c07283badca", func := "sculler/scullerlaw06.PtrBack", spec := "ptrBack", named := ["sculler/ptr.kindAt", "sculler/ptr.offAt", "sculler/ptr.dataAt", "sculler/ptr.ptrsAt", "sculler/ptr.sizeAt", "sculler/ptr.countAt", "sculler/ptr.doubleAt", "sculler/ptr.farOffAt", "sculler/ptr.segAt"], apart := false, laid := [("sculler/ptr.kindAt", laid_sculler_ptr_kindAt), ("sculler/ptr.offAt", laid_sculler_ptr_offAt), ("sculler/ptr.dataAt", laid_sculler_ptr_dataAt), ("sculler/ptr.ptrsAt", laid_sculler_ptr_ptrsAt), ("sculler/ptr.sizeAt", laid_sculler_ptr_sizeAt), ("sculler/ptr.countAt", laid_sculler_ptr_countAt), ("sculler/ptr.doubleAt", laid_sculler_ptr_doubleAt), ("sculler/ptr.farOffAt", laid_sculler_ptr_farOffAt), ("sculler/ptr.segAt", laid_sculler_ptr_segAt)] }
def PtrBackSaid : Prop := ptrBackRow.holds Tryd.pinned (OpenSpec.ofChange ptrBackSpec)

/-- ITS FALSE NEIGHBOUR: 'it returns false'. Refute it at one input. -/
def ptrBackWrong : ChangeSpec := { name := "ptrBack", fn := fun _ => fun
  | [d1, d2] => { results := [.lit (.bool false)], args := [d1, d2] }
  | _ => none }
def PtrBackWrongFalsely : Prop := ptrBackRow.holds Tryd.pinned (OpenSpec.ofChange ptrBackWrong)

/-- 'scullerlaw06.PtrFields': WHATEVER THE INPUT: true; the input reads as it did. -/
def ptrFieldsSpec : ChangeSpec := { name := "ptrFields", fn := fun _ => fun
  | [d1, d2, d3, d4, d5] => { results := [.lit (.bool true)], args := [d1, d2, d3, d4, d5] }
  | _ => none }
def ptrFieldsRow : OpenClaim := { program := "ytknmbohokmeidaadoor", sum := "da4bc943bbc0f95457acd3baef22fb9e366fc90ad0ad5b5f10312c07283badca", func := "sculler/scullerlaw06.PtrFields", spec := "ptrFields", named := ["sculler/ptr.kindAt", "sculler/ptr.offAt", "sculler/ptr.dataAt", "sculler/ptr.ptrsAt", "sculler/ptr.sizeAt", "sculler/ptr.countAt", "sculler/ptr.doubleAt", "sculler/ptr.farOffAt", "sculler/ptr.segAt"], apart := false, laid := [("sculler/ptr.kindAt", laid_sculler_ptr_kindAt), ("sculler/ptr.offAt", laid_sculler_ptr_offAt), ("sculler/ptr.dataAt", laid_sculler_ptr_dataAt), ("sculler/ptr.ptrsAt", laid_sculler_ptr_ptrsAt), ("sculler/ptr.sizeAt", laid_sculler_ptr_sizeAt), ("sculler/ptr.countAt", laid_sculler_ptr_countAt), ("sculler/ptr.doubleAt", laid_sculler_ptr_doubleAt), ("sculler/ptr.farOffAt", laid_sculler_ptr_farOffAt), ("sculler/ptr.segAt", laid_sculler_ptr_segAt)] }
def PtrFieldsSaid : Prop := ptrFieldsRow.holds Tryd.pinned (OpenSpec.ofChange ptrFieldsSpec)

/-- ITS FALSE NEIGHBOUR: 'it returns false'. Refute it at one input. -/
def ptrFieldsWrong : ChangeSpec := { name := "ptrFields", fn := fun _ => fun
  | [d1, d2, d3, d4, d5] => { results := [.lit (.bool false)], args := [d1, d2, d3, d4, d5] }
  | _ => none }
def PtrFieldsWrongFalsely : Prop := ptrFieldsRow.holds Tryd.pinned (OpenSpec.ofChange ptrFieldsWrong)

/-- 'scullerlaw06.PtrWords': WHATEVER THE INPUT: true; the input reads as it did. -/
def ptrWordsSpec : ChangeSpec := { name := "ptrWords", fn := fun _ => fun
  | [d1, d2, d3] => { results := [.lit (.bool true)], args := [d1, d2, d3] }
  | _ => none }
def ptrWordsRow : OpenClaim := { program := "ytknmbohokmeidaadoor", sum := "da4bc943bbc0f95457acd3baef22fb9e366fc90ad0ad5b5f10312c07283badca", func := "sculler/scullerlaw06.PtrWords", spec := "ptrWords", named := ["sculler/ptr.kindAt", "sculler/ptr.offAt", "sculler/ptr.dataAt", "sculler/ptr.ptrsAt", "sculler/ptr.sizeAt", "sculler/ptr.countAt", "sculler/ptr.doubleAt", "sculler/ptr.farOffAt", "sculler/ptr.segAt"], apart := false, laid := [("sculler/ptr.kindAt", laid_sculler_ptr_kindAt), ("sculler/ptr.offAt", laid_sculler_ptr_offAt), ("sculler/ptr.dataAt", laid_sculler_ptr_dataAt), ("sculler/ptr.ptrsAt", laid_sculler_ptr_ptrsAt), ("sculler/ptr.sizeAt", laid_sculler_ptr_sizeAt), ("sculler/ptr.countAt", laid_sculler_ptr_countAt), ("sculler/ptr.doubleAt", laid_sculler_ptr_doubleAt), ("sculler/ptr.farOffAt", laid_sculler_ptr_farOffAt), ("sculler/ptr.segAt", laid_sculler_ptr_segAt)] }
def PtrWordsSaid : Prop := ptrWordsRow.holds Tryd.pinned (OpenSpec.ofChange ptrWordsSpec)

/-- ITS FALSE NEIGHBOUR: 'it returns false'. Refute it at one input. -/
def ptrWordsWrong : ChangeSpec := { name := "ptrWords", fn := fun _ => fun
  | [d1, d2, d3] => { results := [.lit (.bool false)], args := [d1, d2, d3] }
  | _ => none }
def PtrWordsWrongFalsely : Prop := ptrWordsRow.holds Tryd.pinned (OpenSpec.ofChange ptrWordsWrong)

/-- 'scullerlaw06.PtrKinds': WHATEVER THE INPUT: true; the input reads as it did. -/
def ptrKindsSpec : ChangeSpec := { name := "ptrKinds", fn := fun _ => fun
  | [d] => { results := [.lit (.bool true)], args := [d] }
  | _ => none }
def ptrKindsRow : OpenClaim := { program := "ytknmbohokmeidaadoor", sum := "da4bc943bbc0f95457acd3baef22fb9e366fc90ad0ad5b5f10312c07283badca", func := "sculler/scullerlaw06.PtrKinds", spec := "ptrKinds", named := ["sculler/ptr.kindAt", "sculler/ptr.offAt", "sculler/ptr.dataAt", "sculler/ptr.ptrsAt", "sculler/ptr.sizeAt", "sculler/ptr.countAt", "sculler/ptr.doubleAt", "sculler/ptr.farOffAt", "sculler/ptr.segAt"], apart := false, laid := [("sculler/ptr.kindAt", laid_sculler_ptr_kindAt), ("sculler/ptr.offAt", laid_sculler_ptr_offAt), ("sculler/ptr.dataAt", laid_sculler_ptr_dataAt), ("sculler/ptr.ptrsAt", laid_sculler_ptr_ptrsAt), ("sculler/ptr.sizeAt", laid_sculler_ptr_sizeAt), ("sculler/ptr.countAt", laid_sculler_ptr_countAt), ("sculler/ptr.doubleAt", laid_sculler_ptr_doubleAt), ("sculler/ptr.farOffAt", laid_sculler_ptr_farOffAt), ("sculler/ptr.segAt", laid_sculler_ptr_segAt)] }
def PtrKindsSaid : Prop := ptrKindsRow.holds Tryd.pinned (OpenSpec.ofChange ptrKindsSpec)

/-- ITS FALSE NEIGHBOUR: 'it returns false'. Refute it at one input. -/
def ptrKindsWrong : ChangeSpec := { name := "ptrKinds", fn := fun _ => fun
  | [d] => { results := [.lit (.bool false)], args := [d] }
  | _ => none }
def PtrKindsWrongFalsely : Prop := ptrKindsRow.holds Tryd.pinned (OpenSpec.ofChange ptrKindsWrong)

/-- 'scullerlaw06.PtrOffs': WHATEVER THE INPUT: true; the input reads as it did. -/
def ptrOffsSpec : ChangeSpec := { name := "ptrOffs", fn := fun _ => fun
  | [d1, d2, d3] => { results := [.lit (.bool true)], args := [d1, d2, d3] }
  | _ => none }
def ptrOffsRow : OpenClaim := { program := "ytknmbohokmeidaadoor", sum := "da4bc943bbc0f95457acd3baef22fb9e366fc90ad0ad5b5f10312c07283badca", func := "sculler/scullerlaw06.PtrOffs", spec := "ptrOffs", named := ["sculler/ptr.kindAt", "sculler/ptr.offAt", "sculler/ptr.dataAt", "sculler/ptr.ptrsAt", "sculler/ptr.sizeAt", "sculler/ptr.countAt", "sculler/ptr.doubleAt", "sculler/ptr.farOffAt", "sculler/ptr.segAt"], apart := false, laid := [("sculler/ptr.kindAt", laid_sculler_ptr_kindAt), ("sculler/ptr.offAt", laid_sculler_ptr_offAt), ("sculler/ptr.dataAt", laid_sculler_ptr_dataAt), ("sculler/ptr.ptrsAt", laid_sculler_ptr_ptrsAt), ("sculler/ptr.sizeAt", laid_sculler_ptr_sizeAt), ("sculler/ptr.countAt", laid_sculler_ptr_countAt), ("sculler/ptr.doubleAt", laid_sculler_ptr_doubleAt), ("sculler/ptr.farOffAt", laid_sculler_ptr_farOffAt), ("sculler/ptr.segAt", laid_sculler_ptr_segAt)] }
def PtrOffsSaid : Prop := ptrOffsRow.holds Tryd.pinned (OpenSpec.ofChange ptrOffsSpec)

/-- ITS FALSE NEIGHBOUR: 'it returns false'. Refute it at one input. -/
def ptrOffsWrong : ChangeSpec := { name := "ptrOffs", fn := fun _ => fun
  | [d1, d2, d3] => { results := [.lit (.bool false)], args := [d1, d2, d3] }
  | _ => none }
def PtrOffsWrongFalsely : Prop := ptrOffsRow.holds Tryd.pinned (OpenSpec.ofChange ptrOffsWrong)

/- THE SECOND FORM. 'bulk': how many values and letters a reading holds, each counted each time it is reached (what is shared counts as often as it is met; a slice's spare places count too). A statement '..UptoSaid' is the law's where the arguments, and the package variables that the reading takes, are together of bulk at most 1048576: NARROWER than '..Said'. Prove '..Said' where nothing that the law and all that it calls make is longer than what came in: it says more and counts as full. Else prove '..UptoSaid'. A law counts once. -/
mutual
def uptoBulk {H : Type} : DataW H → Nat
  | .lit (.string bytes) => bytes.length + 1
  | .lit _ => 1
  | .nil => 1
  | .ptr d => uptoBulk d + 1
  | .slice elems spare => uptoBulkAll elems + uptoBulkAll spare + 1
  | .agg parts => uptoBulkAll parts + 1
  | .iface _ d => uptoBulk d + 1
  | .map entries => uptoBulkEntries entries + 1
  | .held _ => 1
def uptoBulkAll {H : Type} : List (DataW H) → Nat
  | [] => 0
  | d :: r => uptoBulk d + uptoBulkAll r
def uptoBulkEntries {H : Type} : List (Lit × DataW H) → Nat
  | [] => 0
  | x :: r => uptoBulkEntry x + uptoBulkEntries r
def uptoBulkEntry {H : Type} : Lit × DataW H → Nat
  | (.string bytes, d) => bytes.length + uptoBulk d + 1
  | (_, d) => uptoBulk d + 1
 end
def uptoSmall : (H : Type) → List (DataW H) → Bool := fun _ ds => decide (uptoBulkAll ds ≤ 1048576)
def OpenSpec.upto (s : _root_.Go.ChangeSpec) : _root_.Go.OpenSpec := { _root_.Go.OpenSpec.ofChange s with cond := some uptoSmall }

/-- 'scullerlaw06.PtrDecodes', WHERE WHAT IT READS IS OF BULK AT MOST 1048576: true; the input reads as it did. -/
def ptrDecodesUptoRow : OpenClaim := { program := "ytknmbohokmeidaadoor", sum := "da4bc943bbc0f95457acd3baef22fb9e366fc90ad0ad5b5f10312c07283badca", func := "sculler/scullerlaw06.PtrDecodes", spec := "ptrDecodes", named := ["sculler/ptr.kindAt", "sculler/ptr.offAt", "sculler/ptr.dataAt", "sculler/ptr.ptrsAt", "sculler/ptr.sizeAt", "sculler/ptr.countAt", "sculler/ptr.doubleAt", "sculler/ptr.farOffAt", "sculler/ptr.segAt"], apart := false, laid := [("sculler/ptr.kindAt", laid_sculler_ptr_kindAt), ("sculler/ptr.offAt", laid_sculler_ptr_offAt), ("sculler/ptr.dataAt", laid_sculler_ptr_dataAt), ("sculler/ptr.ptrsAt", laid_sculler_ptr_ptrsAt), ("sculler/ptr.sizeAt", laid_sculler_ptr_sizeAt), ("sculler/ptr.countAt", laid_sculler_ptr_countAt), ("sculler/ptr.doubleAt", laid_sculler_ptr_doubleAt), ("sculler/ptr.farOffAt", laid_sculler_ptr_farOffAt), ("sculler/ptr.segAt", laid_sculler_ptr_segAt)], narrowed := true }
def PtrDecodesUptoSaid : Prop := ptrDecodesUptoRow.holds Tryd.pinned (OpenSpec.upto ptrDecodesSpec)

/-- 'scullerlaw06.PtrBack', WHERE WHAT IT READS IS OF BULK AT MOST 1048576: true; the input reads as it did. -/
def ptrBackUptoRow : OpenClaim := { program := "ytknmbohokmeidaadoor", sum := "da4bc943bbc0f95457acd3baef22fb9e366fc90ad0ad5b5f10312c07283badca", func := "sculler/scullerlaw06.PtrBack", spec := "ptrBack", named := ["sculler/ptr.kindAt", "sculler/ptr.offAt", "sculler/ptr.dataAt", "sculler/ptr.ptrsAt", "sculler/ptr.sizeAt", "sculler/ptr.countAt", "sculler/ptr.doubleAt", "sculler/ptr.farOffAt", "sculler/ptr.segAt"], apart := false, laid := [("sculler/ptr.kindAt", laid_sculler_ptr_kindAt), ("sculler/ptr.offAt", laid_sculler_ptr_offAt), ("sculler/ptr.dataAt", laid_sculler_ptr_dataAt), ("sculler/ptr.ptrsAt", laid_sculler_ptr_ptrsAt), ("sculler/ptr.sizeAt", laid_sculler_ptr_sizeAt), ("sculler/ptr.countAt", laid_sculler_ptr_countAt), ("sculler/ptr.doubleAt", laid_sculler_ptr_doubleAt), ("sculler/ptr.farOffAt", laid_sculler_ptr_farOffAt), ("sculler/ptr.segAt", laid_sculler_ptr_segAt)], narrowed := true }
def PtrBackUptoSaid : Prop := ptrBackUptoRow.holds Tryd.pinned (OpenSpec.upto ptrBackSpec)

/-- 'scullerlaw06.PtrFields', WHERE WHAT IT READS IS OF BULK AT MOST 1048576: true; the input reads as it did. -/
def ptrFieldsUptoRow : OpenClaim := { program := "ytknmbohokmeidaadoor", sum := "da4bc943bbc0f95457acd3baef22fb9e366fc90ad0ad5b5f10312c07283badca", func := "sculler/scullerlaw06.PtrFields", spec := "ptrFields", named := ["sculler/ptr.kindAt", "sculler/ptr.offAt", "sculler/ptr.dataAt", "sculler/ptr.ptrsAt", "sculler/ptr.sizeAt", "sculler/ptr.countAt", "sculler/ptr.doubleAt", "sculler/ptr.farOffAt", "sculler/ptr.segAt"], apart := false, laid := [("sculler/ptr.kindAt", laid_sculler_ptr_kindAt), ("sculler/ptr.offAt", laid_sculler_ptr_offAt), ("sculler/ptr.dataAt", laid_sculler_ptr_dataAt), ("sculler/ptr.ptrsAt", laid_sculler_ptr_ptrsAt), ("sculler/ptr.sizeAt", laid_sculler_ptr_sizeAt), ("sculler/ptr.countAt", laid_sculler_ptr_countAt), ("sculler/ptr.doubleAt", laid_sculler_ptr_doubleAt), ("sculler/ptr.farOffAt", laid_sculler_ptr_farOffAt), ("sculler/ptr.segAt", laid_sculler_ptr_segAt)], narrowed := true }
def PtrFieldsUptoSaid : Prop := ptrFieldsUptoRow.holds Tryd.pinned (OpenSpec.upto ptrFieldsSpec)

/-- 'scullerlaw06.PtrWords', WHERE WHAT IT READS IS OF BULK AT MOST 1048576: true; the input reads as it did. -/
def ptrWordsUptoRow : OpenClaim := { program := "ytknmbohokmeidaadoor", sum := "da4bc943bbc0f95457acd3baef22fb9e366fc90ad0ad5b5f10312c07283badca", func := "sculler/scullerlaw06.PtrWords", spec := "ptrWords", named := ["sculler/ptr.kindAt", "sculler/ptr.offAt", "sculler/ptr.dataAt", "sculler/ptr.ptrsAt", "sculler/ptr.sizeAt", "sculler/ptr.countAt", "sculler/ptr.doubleAt", "sculler/ptr.farOffAt", "sculler/ptr.segAt"], apart := false, laid := [("sculler/ptr.kindAt", laid_sculler_ptr_kindAt), ("sculler/ptr.offAt", laid_sculler_ptr_offAt), ("sculler/ptr.dataAt", laid_sculler_ptr_dataAt), ("sculler/ptr.ptrsAt", laid_sculler_ptr_ptrsAt), ("sculler/ptr.sizeAt", laid_sculler_ptr_sizeAt), ("sculler/ptr.countAt", laid_sculler_ptr_countAt), ("sculler/ptr.doubleAt", laid_sculler_ptr_doubleAt), ("sculler/ptr.farOffAt", laid_sculler_ptr_farOffAt), ("sculler/ptr.segAt", laid_sculler_ptr_segAt)], narrowed := true }
def PtrWordsUptoSaid : Prop := ptrWordsUptoRow.holds Tryd.pinned (OpenSpec.upto ptrWordsSpec)

/-- 'scullerlaw06.PtrKinds', WHERE WHAT IT READS IS OF BULK AT MOST 1048576: true; the input reads as it did. -/
def ptrKindsUptoRow : OpenClaim := { program := "ytknmbohokmeidaadoor", sum := "da4bc943bbc0f95457acd3baef22fb9e366fc90ad0ad5b5f10312c07283badca", func := "sculler/scullerlaw06.PtrKinds", spec := "ptrKinds", named := ["sculler/ptr.kindAt", "sculler/ptr.offAt", "sculler/ptr.dataAt", "sculler/ptr.ptrsAt", "sculler/ptr.sizeAt", "sculler/ptr.countAt", "sculler/ptr.doubleAt", "sculler/ptr.farOffAt", "sculler/ptr.segAt"], apart := false, laid := [("sculler/ptr.kindAt", laid_sculler_ptr_kindAt), ("sculler/ptr.offAt", laid_sculler_ptr_offAt), ("sculler/ptr.dataAt", laid_sculler_ptr_dataAt), ("sculler/ptr.ptrsAt", laid_sculler_ptr_ptrsAt), ("sculler/ptr.sizeAt", laid_sculler_ptr_sizeAt), ("sculler/ptr.countAt", laid_sculler_ptr_countAt), ("sculler/ptr.doubleAt", laid_sculler_ptr_doubleAt), ("sculler/ptr.farOffAt", laid_sculler_ptr_farOffAt), ("sculler/ptr.segAt", laid_sculler_ptr_segAt)], narrowed := true }
def PtrKindsUptoSaid : Prop := ptrKindsUptoRow.holds Tryd.pinned (OpenSpec.upto ptrKindsSpec)

/-- 'scullerlaw06.PtrOffs', WHERE WHAT IT READS IS OF BULK AT MOST 1048576: true; the input reads as it did. -/
def ptrOffsUptoRow : OpenClaim := { program := "ytknmbohokmeidaadoor", sum := "da4bc943bbc0f95457acd3baef22fb9e366fc90ad0ad5b5f10312c07283badca", func := "sculler/scullerlaw06.PtrOffs", spec := "ptrOffs", named := ["sculler/ptr.kindAt", "sculler/ptr.offAt", "sculler/ptr.dataAt", "sculler/ptr.ptrsAt", "sculler/ptr.sizeAt", "sculler/ptr.countAt", "sculler/ptr.doubleAt", "sculler/ptr.farOffAt", "sculler/ptr.segAt"], apart := false, laid := [("sculler/ptr.kindAt", laid_sculler_ptr_kindAt), ("sculler/ptr.offAt", laid_sculler_ptr_offAt), ("sculler/ptr.dataAt", laid_sculler_ptr_dataAt), ("sculler/ptr.ptrsAt", laid_sculler_ptr_ptrsAt), ("sculler/ptr.sizeAt", laid_sculler_ptr_sizeAt), ("sculler/ptr.countAt", laid_sculler_ptr_countAt), ("sculler/ptr.doubleAt", laid_sculler_ptr_doubleAt), ("sculler/ptr.farOffAt", laid_sculler_ptr_farOffAt), ("sculler/ptr.segAt", laid_sculler_ptr_segAt)], narrowed := true }
def PtrOffsUptoSaid : Prop := ptrOffsUptoRow.holds Tryd.pinned (OpenSpec.upto ptrOffsSpec)

end Rows
end Go.Proofs.YtknmbohokmeidaaDoor
