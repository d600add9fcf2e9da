/-
  NARROWER THAN 'FOR EVERY INPUT', by the rows' own cells (each row's printed sentence says how): ReadNull: laid · ReadFar: laid · ReadKinds: laid.
  DERIVED. THE GIVEN ROWS OF THIS SEAT. 3 by the template 'for every input the law returns true; each argument reads behind the call as it read before'; 0 by the template 'total and deterministic' (their statements: YtmcnnihhnapjpaaDoorTotals.lean).
  GIVEN WITH THE SEED: the statements are not yours to turn. If you find one false, say at which input.
  Laid BY PROGRAM, IN A SANDBOX (cutbox-rows.mjs): the forced cells as the released guide's own fill.sh prints them over the translation 9f2c2c1e5933e0d6… (all of the seat's roots in one cut). By AI agents, Wed Nov 11 2026. No macro, syntax, notation, axiom, sorry.
-/
import Derived.Test.YtmcnnihhnapjpaaDoorChecked
import GoSem.Claim
import GoSem.ClaimJoined
import GoSem.ClaimMapViews
import Derived.JoinedTies
import Derived.KernelRfl
namespace Go.Proofs.YtmcnnihhnapjpaaDoor
/- THE CELL 'sum', in the pinned program and in every row, IS THE sha256 OF THE DUMP (.gsa) THAT YtmcnnihhnapjpaaDoorProg.lean LOADS. Nothing in Lean hashes anything: it is a label: what it is worth is what the hold of that sum in a sandbox is worth. -/
noncomputable def Tryd.pinned : Pinned := { name := "ytmcnnihhnapjpaadoor", sum := "9f2c2c1e5933e0d642639ec408e3839c7661314bcaac73b9a0b7f9090678f69c", checked := Tryd.checked }
namespace Rows
def none {H : Type} : Left H := { results := [], args := [] }

/- WHAT THE LISTED PACKAGE-LEVEL VARIABLES READ AS WHEN THE CALL BEGINS. Each datum BY PROGRAM (the guide's laid-datum.mjs) off the statement by which the dump's own 'gosem.cut.vars' lays the variable. In a bare row this is a premise. The card (YtmcnnihhnapjpaaDoorCards.lean) ties it to the program's text. -/
def laid_sculler_ptr_kindAt {H : Type} : DataW H := .agg [.lit (.int .i64 0), .lit (.int .i64 1)]
def laid_sculler_ptr_offAt {H : Type} : DataW H := .agg [.lit (.int .i64 2), .lit (.int .i64 31)]
def laid_sculler_ptr_dataAt {H : Type} : DataW H := .agg [.lit (.int .i64 32), .lit (.int .i64 47)]
def laid_sculler_ptr_ptrsAt {H : Type} : DataW H := .agg [.lit (.int .i64 48), .lit (.int .i64 63)]
def laid_sculler_ptr_sizeAt {H : Type} : DataW H := .agg [.lit (.int .i64 32), .lit (.int .i64 34)]
def laid_sculler_ptr_countAt {H : Type} : DataW H := .agg [.lit (.int .i64 35), .lit (.int .i64 63)]
def laid_sculler_ptr_doubleAt {H : Type} : DataW H := .agg [.lit (.int .i64 2), .lit (.int .i64 2)]
def laid_sculler_ptr_farOffAt {H : Type} : DataW H := .agg [.lit (.int .i64 3), .lit (.int .i64 31)]
def laid_sculler_ptr_segAt {H : Type} : DataW H := .agg [.lit (.int .i64 32), .lit (.int .i64 63)]

/-- 'scullerlaw09.ReadNull': WHATEVER THE INPUT: true; the input reads as it did. -/
def readNullSpec : ChangeSpec := { name := "readNull", fn := fun _ => fun
  | [d1, d2, d3] => { results := [.lit (.bool true)], args := [d1, d2, d3] }
  | _ => none }
def readNullRow : OpenClaim := { program := "ytmcnnihhnapjpaadoor", sum := "9f2c2c1e5933e0d642639ec408e3839c7661314bcaac73b9a0b7f9090678f69c", func := "sculler/scullerlaw09.ReadNull", spec := "readNull", unfollowed := true, recurses := true, named := ["sculler/ptr.kindAt", "sculler/ptr.offAt", "sculler/ptr.dataAt", "sculler/ptr.ptrsAt", "sculler/ptr.sizeAt", "sculler/ptr.countAt", "sculler/ptr.doubleAt", "sculler/ptr.farOffAt", "sculler/ptr.segAt"], apart := false, laid := [("sculler/ptr.kindAt", laid_sculler_ptr_kindAt), ("sculler/ptr.offAt", laid_sculler_ptr_offAt), ("sculler/ptr.dataAt", laid_sculler_ptr_dataAt), ("sculler/ptr.ptrsAt", laid_sculler_ptr_ptrsAt), ("sculler/ptr.sizeAt", laid_sculler_ptr_sizeAt), ("sculler/ptr.countAt", laid_sculler_ptr_countAt), ("sculler/ptr.doubleAt", laid_sculler_ptr_doubleAt), ("sculler/ptr.farOffAt", laid_sculler_ptr_farOffAt), ("sculler/ptr.segAt", laid_sculler_ptr_segAt)] }
def ReadNullSaid : Prop := readNullRow.holds Tryd.pinned (OpenSpec.ofChange readNullSpec)

/-- ITS FALSE NEIGHBOUR: 'it returns false'. Refute it at one input. -/
def readNullWrong : ChangeSpec := { name := "readNull", fn := fun _ => fun
  | [d1, d2, d3] => { results := [.lit (.bool false)], args := [d1, d2, d3] }
  | _ => none }
def ReadNullWrongFalsely : Prop := readNullRow.holds Tryd.pinned (OpenSpec.ofChange readNullWrong)

/-- 'scullerlaw09.ReadFar': WHATEVER THE INPUT: true; the input reads as it did. -/
def readFarSpec : ChangeSpec := { name := "readFar", fn := fun _ => fun
  | [d1, d2, d3] => { results := [.lit (.bool true)], args := [d1, d2, d3] }
  | _ => none }
def readFarRow : OpenClaim := { program := "ytmcnnihhnapjpaadoor", sum := "9f2c2c1e5933e0d642639ec408e3839c7661314bcaac73b9a0b7f9090678f69c", func := "sculler/scullerlaw09.ReadFar", spec := "readFar", unfollowed := true, recurses := true, named := ["sculler/ptr.kindAt", "sculler/ptr.offAt", "sculler/ptr.dataAt", "sculler/ptr.ptrsAt", "sculler/ptr.sizeAt", "sculler/ptr.countAt", "sculler/ptr.doubleAt", "sculler/ptr.farOffAt", "sculler/ptr.segAt"], apart := false, laid := [("sculler/ptr.kindAt", laid_sculler_ptr_kindAt), ("sculler/ptr.offAt", laid_sculler_ptr_offAt), ("sculler/ptr.dataAt", laid_sculler_ptr_dataAt), ("sculler/ptr.ptrsAt", laid_sculler_ptr_ptrsAt), ("sculler/ptr.sizeAt", laid_sculler_ptr_sizeAt), ("sculler/ptr.countAt", laid_sculler_ptr_countAt), ("sculler/ptr.doubleAt", laid_sculler_ptr_doubleAt), ("sculler/ptr.farOffAt", laid_sculler_ptr_farOffAt), ("sculler/ptr.segAt", laid_sculler_ptr_segAt)] }
def ReadFarSaid : Prop := readFarRow.holds Tryd.pinned (OpenSpec.ofChange readFarSpec)

/-- ITS FALSE NEIGHBOUR: 'it returns false'. Refute it at one input. -/
def readFarWrong : ChangeSpec := { name := "readFar", fn := fun _ => fun
  | [d1, d2, d3] => { results := [.lit (.bool false)], args := [d1, d2, d3] }
  | _ => none }
def ReadFarWrongFalsely : Prop := readFarRow.holds Tryd.pinned (OpenSpec.ofChange readFarWrong)

/-- 'scullerlaw09.ReadKinds': WHATEVER THE INPUT: true; the input reads as it did. -/
def readKindsSpec : ChangeSpec := { name := "readKinds", fn := fun _ => fun
  | [d1, d2, d3] => { results := [.lit (.bool true)], args := [d1, d2, d3] }
  | _ => none }
def readKindsRow : OpenClaim := { program := "ytmcnnihhnapjpaadoor", sum := "9f2c2c1e5933e0d642639ec408e3839c7661314bcaac73b9a0b7f9090678f69c", func := "sculler/scullerlaw09.ReadKinds", spec := "readKinds", unfollowed := true, recurses := true, named := ["sculler/ptr.kindAt", "sculler/ptr.offAt", "sculler/ptr.dataAt", "sculler/ptr.ptrsAt", "sculler/ptr.sizeAt", "sculler/ptr.countAt", "sculler/ptr.doubleAt", "sculler/ptr.farOffAt", "sculler/ptr.segAt"], apart := false, laid := [("sculler/ptr.kindAt", laid_sculler_ptr_kindAt), ("sculler/ptr.offAt", laid_sculler_ptr_offAt), ("sculler/ptr.dataAt", laid_sculler_ptr_dataAt), ("sculler/ptr.ptrsAt", laid_sculler_ptr_ptrsAt), ("sculler/ptr.sizeAt", laid_sculler_ptr_sizeAt), ("sculler/ptr.countAt", laid_sculler_ptr_countAt), ("sculler/ptr.doubleAt", laid_sculler_ptr_doubleAt), ("sculler/ptr.farOffAt", laid_sculler_ptr_farOffAt), ("sculler/ptr.segAt", laid_sculler_ptr_segAt)] }
def ReadKindsSaid : Prop := readKindsRow.holds Tryd.pinned (OpenSpec.ofChange readKindsSpec)

/-- ITS FALSE NEIGHBOUR: 'it returns false'. Refute it at one input. -/
def readKindsWrong : ChangeSpec := { name := "readKinds", fn := fun _ => fun
  | [d1, d2, d3] => { results := [.lit (.bool false)], args := [d1, d2, d3] }
  | _ => none }
def ReadKindsWrongFalsely : Prop := readKindsRow.holds Tryd.pinned (OpenSpec.ofChange readKindsWrong)

/- THE SECOND FORM. 'bulk': how many values and letters a reading holds, each counted each time it is reached (what is shared counts as often as it is met; a slice's spare places count too). A statement '..UptoSaid' is the law's where the arguments, and the package variables that the reading takes, are together of bulk at most 1048576: NARROWER than '..Said'. Prove '..Said' where nothing that the law and all that it calls make is longer than what came in: it says more and counts as full. Else prove '..UptoSaid'. A law counts once. -/
mutual
def uptoBulk {H : Type} : DataW H → Nat
  | .lit (.string bytes) => bytes.length + 1
  | .lit _ => 1
  | .nil => 1
  | .ptr d => uptoBulk d + 1
  | .slice elems spare => uptoBulkAll elems + uptoBulkAll spare + 1
  | .agg parts => uptoBulkAll parts + 1
  | .iface _ d => uptoBulk d + 1
  | .map entries => uptoBulkEntries entries + 1
  | .held _ => 1
def uptoBulkAll {H : Type} : List (DataW H) → Nat
  | [] => 0
  | d :: r => uptoBulk d + uptoBulkAll r
def uptoBulkEntries {H : Type} : List (Lit × DataW H) → Nat
  | [] => 0
  | x :: r => uptoBulkEntry x + uptoBulkEntries r
def uptoBulkEntry {H : Type} : Lit × DataW H → Nat
  | (.string bytes, d) => bytes.length + uptoBulk d + 1
  | (_, d) => uptoBulk d + 1
 end
def uptoSmall : (H : Type) → List (DataW H) → Bool := fun _ ds => decide (uptoBulkAll ds ≤ 1048576)
def OpenSpec.upto (s : _root_.Go.ChangeSpec) : _root_.Go.OpenSpec := { _root_.Go.OpenSpec.ofChange s with cond := some uptoSmall }

/-- 'scullerlaw09.ReadNull', WHERE WHAT IT READS IS OF BULK AT MOST 1048576: true; the input reads as it did. -/
def readNullUptoRow : OpenClaim := { program := "ytmcnnihhnapjpaadoor", sum := "9f2c2c1e5933e0d642639ec408e3839c7661314bcaac73b9a0b7f9090678f69c", func := "sculler/scullerlaw09.ReadNull", spec := "readNull", unfollowed := true, recurses := true, named := ["sculler/ptr.kindAt", "sculler/ptr.offAt", "sculler/ptr.dataAt", "sculler/ptr.ptrsAt", "sculler/ptr.sizeAt", "sculler/ptr.countAt", "sculler/ptr.doubleAt", "sculler/ptr.farOffAt", "sculler/ptr.segAt"], apart := false, laid := [("sculler/ptr.kindAt", laid_sculler_ptr_kindAt), ("sculler/ptr.offAt", laid_sculler_ptr_offAt), ("sculler/ptr.dataAt", laid_sculler_ptr_dataAt), ("sculler/ptr.ptrsAt", laid_sculler_ptr_ptrsAt), ("sculler/ptr.sizeAt", laid_sculler_ptr_sizeAt), ("sculler/ptr.countAt", laid_sculler_ptr_countAt), ("sculler/ptr.doubleAt", laid_sculler_ptr_doubleAt), ("sculler/ptr.farOffAt", laid_sculler_ptr_farOffAt), ("sculler/ptr.segAt", laid_sculler_ptr_segAt)], narrowed := true }
def ReadNullUptoSaid : Prop := readNullUptoRow.holds Tryd.pinned (OpenSpec.upto readNullSpec)

/-- 'scullerlaw09.ReadFar', WHERE WHAT IT READS IS OF BULK AT MOST 1048576: true; the input reads as it did. -/
def readFarUptoRow : OpenClaim := { program := "ytmcnnihhnapjpaadoor", sum := "9f2c2c1e5933e0d642639ec408e3839c7661314bcaac73b9a0b7f9090678f69c", func := "sculler/scullerlaw09.ReadFar", spec := "readFar", unfollowed := true, recurses := true, named := ["sculler/ptr.kindAt", "sculler/ptr.offAt", "sculler/ptr.dataAt", "sculler/ptr.ptrsAt", "sculler/ptr.sizeAt", "sculler/ptr.countAt", "sculler/ptr.doubleAt", "sculler/ptr.farOffAt", "sculler/ptr.segAt"], apart := false, laid := [("sculler/ptr.kindAt", laid_sculler_ptr_kindAt), ("sculler/ptr.offAt", laid_sculler_ptr_offAt), ("sculler/ptr.dataAt", laid_sculler_ptr_dataAt), ("sculler/ptr.ptrsAt", laid_sculler_ptr_ptrsAt), ("sculler/ptr.sizeAt", laid_sculler_ptr_sizeAt), ("sculler/ptr.countAt", laid_sculler_ptr_countAt), ("sculler/ptr.doubleAt", laid_sculler_ptr_doubleAt), ("sculler/ptr.farOffAt", laid_sculler_ptr_farOffAt), ("sculler/ptr.segAt", laid_sculler_ptr_segAt)], narrowed := true }
def ReadFarUptoSaid : Prop := readFarUptoRow.holds Tryd.pinned (OpenSpec.upto readFarSpec)

/-- 'scullerlaw09.ReadKinds', WHERE WHAT IT READS IS OF BULK AT MOST 1048576: true; the input reads as it did. -/
def readKindsUptoRow : OpenClaim := { program := "ytmcnnihhnapjpaadoor", sum := "9f2c2c1e5933e0d642639ec408e3839c7661314bcaac73b9a0b7f9090678f69c", func := "sculler/scullerlaw09.ReadKinds", spec := "readKinds", unfollowed := true, recurses := true, named := ["sculler/ptr.kindAt", "sculler/ptr.offAt", "sculler/ptr.dataAt", "sculler/ptr.ptrsAt", "sculler/ptr.sizeAt", "sculler/ptr.countAt", "sculler/ptr.doubleAt", "sculler/ptr.farOffAt", "sculler/ptr.segAt"], apart := false, laid := [("sculler/ptr.kindAt", laid_sculler_ptr_kindAt), ("sculler/ptr.offAt", laid_sculler_ptr_offAt), ("sculler/ptr.dataAt", laid_sculler_ptr_dataAt), ("sculler/ptr.ptrsAt", laid_sculler_ptr_ptrsAt), ("sculler/ptr.sizeAt", laid_sculler_ptr_sizeAt), ("sculler/ptr.countAt", laid_sculler_ptr_countAt), ("sculler/ptr.doubleAt", laid_sculler_ptr_doubleAt), ("sculler/ptr.farOffAt", laid_sculler_ptr_farOffAt), ("sculler/ptr.segAt", laid_sculler_ptr_segAt)], narrowed := true }
def ReadKindsUptoSaid : Prop := readKindsUptoRow.holds Tryd.pinned (OpenSpec.upto readKindsSpec)

end Rows
end Go.Proofs.YtmcnnihhnapjpaaDoor
