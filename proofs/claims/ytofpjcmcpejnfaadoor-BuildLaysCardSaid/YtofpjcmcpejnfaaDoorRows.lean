/-
  NARROWER THAN 'FOR EVERY INPUT', by the rows' own cells (each row's printed sentence says how): BuildLays: loops, laid · BuildSizes: laid · BuildDeep: laid · BuildOdd: laid · BuildTwice: laid · BuildEmpty: laid.
  DERIVED. THE GIVEN ROWS OF THIS SEAT. 6 by the template 'for every input the law returns true; each argument reads behind the call as it read before'; 0 by the template 'total and deterministic' (their statements: YtofpjcmcpejnfaaDoorTotals.lean).
  GIVEN WITH THE SEED: the statements are not yours to turn. If you find one false, say at which input.
  Laid BY PROGRAM, IN A SANDBOX (cutbox-rows.mjs): the forced cells as the released guide's own fill.sh prints them over the translation 066aeaa90e094254… (all of the seat's roots in one cut). By AI agents, Wed Nov 11 2026. No macro, syntax, notation, axiom, sorry.
-/
import Derived.Test.YtofpjcmcpejnfaaDoorChecked
import GoSem.Claim
import GoSem.ClaimJoined
import GoSem.ClaimMapViews
import Derived.JoinedTies
import Derived.KernelRfl
namespace Go.Proofs.YtofpjcmcpejnfaaDoor
/- THE CELL 'sum', in the pinned program and in every row, IS THE sha256 OF THE DUMP (.gsa) THAT YtofpjcmcpejnfaaDoorProg.lean LOADS. Nothing in Lean hashes anything: it is a label: what it is worth is what the hold of that sum in a sandbox is worth. -/
noncomputable def Tryd.pinned : Pinned := { name := "ytofpjcmcpejnfaadoor", sum := "066aeaa90e0942540353cb9ce6c3ebd1d4eb55dc117b9ac9d1cf9318e4d0150f", checked := Tryd.checked }
namespace Rows
def none {H : Type} : Left H := { results := [], args := [] }

/- WHAT THE LISTED PACKAGE-LEVEL VARIABLES READ AS WHEN THE CALL BEGINS. Each datum BY PROGRAM (the guide's laid-datum.mjs) off the statement by which the dump's own 'gosem.cut.vars' lays the variable. In a bare row this is a premise. The card (YtofpjcmcpejnfaaDoorCards.lean) ties it to the program's text. -/
def laid_sculler_ptr_kindAt {H : Type} : DataW H := .agg [.lit (.int .i64 0), .lit (.int .i64 1)]
def laid_sculler_ptr_offAt {H : Type} : DataW H := .agg [.lit (.int .i64 2), .lit (.int .i64 31)]
def laid_sculler_ptr_dataAt {H : Type} : DataW H := .agg [.lit (.int .i64 32), .lit (.int .i64 47)]
def laid_sculler_ptr_ptrsAt {H : Type} : DataW H := .agg [.lit (.int .i64 48), .lit (.int .i64 63)]
def laid_sculler_ptr_sizeAt {H : Type} : DataW H := .agg [.lit (.int .i64 32), .lit (.int .i64 34)]
def laid_sculler_ptr_countAt {H : Type} : DataW H := .agg [.lit (.int .i64 35), .lit (.int .i64 63)]
def laid_sculler_ptr_doubleAt {H : Type} : DataW H := .agg [.lit (.int .i64 2), .lit (.int .i64 2)]
def laid_sculler_ptr_farOffAt {H : Type} : DataW H := .agg [.lit (.int .i64 3), .lit (.int .i64 31)]
def laid_sculler_ptr_segAt {H : Type} : DataW H := .agg [.lit (.int .i64 32), .lit (.int .i64 63)]

/-- 'scullerlaw08.BuildLays': WHATEVER THE INPUT: true; the input reads as it did. -/
def buildLaysSpec : ChangeSpec := { name := "buildLays", fn := fun _ => fun
  | [d1, d2, d3, d4] => { results := [.lit (.bool true)], args := [d1, d2, d3, d4] }
  | _ => none }
def buildLaysRow : OpenClaim := { program := "ytofpjcmcpejnfaadoor", sum := "066aeaa90e0942540353cb9ce6c3ebd1d4eb55dc117b9ac9d1cf9318e4d0150f", func := "sculler/scullerlaw08.BuildLays", spec := "buildLays", unfollowed := true, recurses := true, named := ["sculler/ptr.kindAt", "sculler/ptr.offAt", "sculler/ptr.dataAt", "sculler/ptr.ptrsAt", "sculler/ptr.sizeAt", "sculler/ptr.countAt", "sculler/ptr.doubleAt", "sculler/ptr.farOffAt", "sculler/ptr.segAt"], loops := true, apart := false, laid := [("sculler/ptr.kindAt", laid_sculler_ptr_kindAt), ("sculler/ptr.offAt", laid_sculler_ptr_offAt), ("sculler/ptr.dataAt", laid_sculler_ptr_dataAt), ("sculler/ptr.ptrsAt", laid_sculler_ptr_ptrsAt), ("sculler/ptr.sizeAt", laid_sculler_ptr_sizeAt), ("sculler/ptr.countAt", laid_sculler_ptr_countAt), ("sculler/ptr.doubleAt", laid_sculler_ptr_doubleAt), ("sculler/ptr.farOffAt", laid_sculler_ptr_farOffAt), ("sculler/ptr.segAt", laid_sculler_ptr_segAt)] }
def BuildLaysSaid : Prop := buildLaysRow.holds Tryd.pinned (OpenSpec.ofChange buildLaysSpec)

/-- ITS FALSE NEIGHBOUR: 'it returns false'. Refute it at one input. -/
def buildLaysWrong : ChangeSpec := { name := "buildLays", fn := fun _ => fun
  | [d1, d2, d3, d4] => { results := [.lit (.bool false)], args := [d1, d2, d3, d4] }
  | _ => none }
def BuildLaysWrongFalsely : Prop := buildLaysRow.holds Tryd.pinned (OpenSpec.ofChange buildLaysWrong)

/-- 'scullerlaw08.BuildSizes': WHATEVER THE INPUT: true; the input reads as it did. -/
def buildSizesSpec : ChangeSpec := { name := "buildSizes", fn := fun _ => fun
  | [d1, d2] => { results := [.lit (.bool true)], args := [d1, d2] }
  | _ => none }
def buildSizesRow : OpenClaim := { program := "ytofpjcmcpejnfaadoor", sum := "066aeaa90e0942540353cb9ce6c3ebd1d4eb55dc117b9ac9d1cf9318e4d0150f", func := "sculler/scullerlaw08.BuildSizes", spec := "buildSizes", unfollowed := true, recurses := true, named := ["sculler/ptr.kindAt", "sculler/ptr.offAt", "sculler/ptr.dataAt", "sculler/ptr.ptrsAt", "sculler/ptr.sizeAt", "sculler/ptr.countAt", "sculler/ptr.doubleAt", "sculler/ptr.farOffAt", "sculler/ptr.segAt"], apart := false, laid := [("sculler/ptr.kindAt", laid_sculler_ptr_kindAt), ("sculler/ptr.offAt", laid_sculler_ptr_offAt), ("sculler/ptr.dataAt", laid_sculler_ptr_dataAt), ("sculler/ptr.ptrsAt", laid_sculler_ptr_ptrsAt), ("sculler/ptr.sizeAt", laid_sculler_ptr_sizeAt), ("sculler/ptr.countAt", laid_sculler_ptr_countAt), ("sculler/ptr.doubleAt", laid_sculler_ptr_doubleAt), ("sculler/ptr.farOffAt", laid_sculler_ptr_farOffAt), ("sculler/ptr.segAt", laid_sculler_ptr_segAt)] }
def BuildSizesSaid : Prop := buildSizesRow.holds Tryd.pinned (OpenSpec.ofChange buildSizesSpec)

/-- ITS FALSE NEIGHBOUR: 'it returns false'. Refute it at one input. -/
def buildSizesWrong : ChangeSpec := { name := "buildSizes", fn := fun _ => fun
  | [d1, d2] => { results := [.lit (.bool false)], args := [d1, d2] }
  | _ => none }
def BuildSizesWrongFalsely : Prop := buildSizesRow.holds Tryd.pinned (OpenSpec.ofChange buildSizesWrong)

/-- 'scullerlaw08.BuildDeep': WHATEVER THE INPUT: true; the input reads as it did. -/
def buildDeepSpec : ChangeSpec := { name := "buildDeep", fn := fun _ => fun
  | [d1, d2] => { results := [.lit (.bool true)], args := [d1, d2] }
  | _ => none }
def buildDeepRow : OpenClaim := { program := "ytofpjcmcpejnfaadoor", sum := "066aeaa90e0942540353cb9ce6c3ebd1d4eb55dc117b9ac9d1cf9318e4d0150f", func := "sculler/scullerlaw08.BuildDeep", spec := "buildDeep", unfollowed := true, recurses := true, named := ["sculler/ptr.kindAt", "sculler/ptr.offAt", "sculler/ptr.dataAt", "sculler/ptr.ptrsAt", "sculler/ptr.sizeAt", "sculler/ptr.countAt", "sculler/ptr.doubleAt", "sculler/ptr.farOffAt", "sculler/ptr.segAt"], apart := false, laid := [("sculler/ptr.kindAt", laid_sculler_ptr_kindAt), ("sculler/ptr.offAt", laid_sculler_ptr_offAt), ("sculler/ptr.dataAt", laid_sculler_ptr_dataAt), ("sculler/ptr.ptrsAt", laid_sculler_ptr_ptrsAt), ("sculler/ptr.sizeAt", laid_sculler_ptr_sizeAt), ("sculler/ptr.countAt", laid_sculler_ptr_countAt), ("sculler/ptr.doubleAt", laid_sculler_ptr_doubleAt), ("sculler/ptr.farOffAt", laid_sculler_ptr_farOffAt), ("sculler/ptr.segAt", laid_sculler_ptr_segAt)] }
def BuildDeepSaid : Prop := buildDeepRow.holds Tryd.pinned (OpenSpec.ofChange buildDeepSpec)

/-- ITS FALSE NEIGHBOUR: 'it returns false'. Refute it at one input. -/
def buildDeepWrong : ChangeSpec := { name := "buildDeep", fn := fun _ => fun
  | [d1, d2] => { results := [.lit (.bool false)], args := [d1, d2] }
  | _ => none }
def BuildDeepWrongFalsely : Prop := buildDeepRow.holds Tryd.pinned (OpenSpec.ofChange buildDeepWrong)

/-- 'scullerlaw08.BuildOdd': WHATEVER THE INPUT: true; the input reads as it did. -/
def buildOddSpec : ChangeSpec := { name := "buildOdd", fn := fun _ => fun
  | [d1, d2, d3] => { results := [.lit (.bool true)], args := [d1, d2, d3] }
  | _ => none }
def buildOddRow : OpenClaim := { program := "ytofpjcmcpejnfaadoor", sum := "066aeaa90e0942540353cb9ce6c3ebd1d4eb55dc117b9ac9d1cf9318e4d0150f", func := "sculler/scullerlaw08.BuildOdd", spec := "buildOdd", unfollowed := true, recurses := true, named := ["sculler/ptr.kindAt", "sculler/ptr.offAt", "sculler/ptr.dataAt", "sculler/ptr.ptrsAt", "sculler/ptr.sizeAt", "sculler/ptr.countAt", "sculler/ptr.doubleAt", "sculler/ptr.farOffAt", "sculler/ptr.segAt"], apart := false, laid := [("sculler/ptr.kindAt", laid_sculler_ptr_kindAt), ("sculler/ptr.offAt", laid_sculler_ptr_offAt), ("sculler/ptr.dataAt", laid_sculler_ptr_dataAt), ("sculler/ptr.ptrsAt", laid_sculler_ptr_ptrsAt), ("sculler/ptr.sizeAt", laid_sculler_ptr_sizeAt), ("sculler/ptr.countAt", laid_sculler_ptr_countAt), ("sculler/ptr.doubleAt", laid_sculler_ptr_doubleAt), ("sculler/ptr.farOffAt", laid_sculler_ptr_farOffAt), ("sculler/ptr.segAt", laid_sculler_ptr_segAt)] }
def BuildOddSaid : Prop := buildOddRow.holds Tryd.pinned (OpenSpec.ofChange buildOddSpec)

/-- ITS FALSE NEIGHBOUR: 'it returns false'. Refute it at one input. -/
def buildOddWrong : ChangeSpec := { name := "buildOdd", fn := fun _ => fun
  | [d1, d2, d3] => { results := [.lit (.bool false)], args := [d1, d2, d3] }
  | _ => none }
def BuildOddWrongFalsely : Prop := buildOddRow.holds Tryd.pinned (OpenSpec.ofChange buildOddWrong)

/-- 'scullerlaw08.BuildTwice': WHATEVER THE INPUT: true; the input reads as it did. -/
def buildTwiceSpec : ChangeSpec := { name := "buildTwice", fn := fun _ => fun
  | [d1, d2, d3] => { results := [.lit (.bool true)], args := [d1, d2, d3] }
  | _ => none }
def buildTwiceRow : OpenClaim := { program := "ytofpjcmcpejnfaadoor", sum := "066aeaa90e0942540353cb9ce6c3ebd1d4eb55dc117b9ac9d1cf9318e4d0150f", func := "sculler/scullerlaw08.BuildTwice", spec := "buildTwice", unfollowed := true, recurses := true, named := ["sculler/ptr.kindAt", "sculler/ptr.offAt", "sculler/ptr.dataAt", "sculler/ptr.ptrsAt", "sculler/ptr.sizeAt", "sculler/ptr.countAt", "sculler/ptr.doubleAt", "sculler/ptr.farOffAt", "sculler/ptr.segAt"], apart := false, laid := [("sculler/ptr.kindAt", laid_sculler_ptr_kindAt), ("sculler/ptr.offAt", laid_sculler_ptr_offAt), ("sculler/ptr.dataAt", laid_sculler_ptr_dataAt), ("sculler/ptr.ptrsAt", laid_sculler_ptr_ptrsAt), ("sculler/ptr.sizeAt", laid_sculler_ptr_sizeAt), ("sculler/ptr.countAt", laid_sculler_ptr_countAt), ("sculler/ptr.doubleAt", laid_sculler_ptr_doubleAt), ("sculler/ptr.farOffAt", laid_sculler_ptr_farOffAt), ("sculler/ptr.segAt", laid_sculler_ptr_segAt)] }
def BuildTwiceSaid : Prop := buildTwiceRow.holds Tryd.pinned (OpenSpec.ofChange buildTwiceSpec)

/-- ITS FALSE NEIGHBOUR: 'it returns false'. Refute it at one input. -/
def buildTwiceWrong : ChangeSpec := { name := "buildTwice", fn := fun _ => fun
  | [d1, d2, d3] => { results := [.lit (.bool false)], args := [d1, d2, d3] }
  | _ => none }
def BuildTwiceWrongFalsely : Prop := buildTwiceRow.holds Tryd.pinned (OpenSpec.ofChange buildTwiceWrong)

/-- 'scullerlaw08.BuildEmpty': WHATEVER THE INPUT: true; the input reads as it did. -/
def buildEmptySpec : ChangeSpec := { name := "buildEmpty", fn := fun _ => fun
  | [d1, d2] => { results := [.lit (.bool true)], args := [d1, d2] }
  | _ => none }
def buildEmptyRow : OpenClaim := { program := "ytofpjcmcpejnfaadoor", sum := "066aeaa90e0942540353cb9ce6c3ebd1d4eb55dc117b9ac9d1cf9318e4d0150f", func := "sculler/scullerlaw08.BuildEmpty", spec := "buildEmpty", unfollowed := true, recurses := true, named := ["sculler/ptr.kindAt", "sculler/ptr.offAt", "sculler/ptr.dataAt", "sculler/ptr.ptrsAt", "sculler/ptr.sizeAt", "sculler/ptr.countAt", "sculler/ptr.doubleAt", "sculler/ptr.farOffAt", "sculler/ptr.segAt"], apart := false, laid := [("sculler/ptr.kindAt", laid_sculler_ptr_kindAt), ("sculler/ptr.offAt", laid_sculler_ptr_offAt), ("sculler/ptr.dataAt", laid_sculler_ptr_dataAt), ("sculler/ptr.ptrsAt", laid_sculler_ptr_ptrsAt), ("sculler/ptr.sizeAt", laid_sculler_ptr_sizeAt), ("sculler/ptr.countAt", laid_sculler_ptr_countAt), ("sculler/ptr.doubleAt", laid_sculler_ptr_doubleAt), ("sculler/ptr.farOffAt", laid_sculler_ptr_farOffAt), ("sculler/ptr.segAt", laid_sculler_ptr_segAt)] }
def BuildEmptySaid : Prop := buildEmptyRow.holds Tryd.pinned (OpenSpec.ofChange buildEmptySpec)

/-- ITS FALSE NEIGHBOUR: 'it returns false'. Refute it at one input. -/
def buildEmptyWrong : ChangeSpec := { name := "buildEmpty", fn := fun _ => fun
  | [d1, d2] => { results := [.lit (.bool false)], args := [d1, d2] }
  | _ => none }
def BuildEmptyWrongFalsely : Prop := buildEmptyRow.holds Tryd.pinned (OpenSpec.ofChange buildEmptyWrong)

/- THE SECOND FORM. 'bulk': how many values and letters a reading holds, each counted each time it is reached (what is shared counts as often as it is met; a slice's spare places count too). A statement '..UptoSaid' is the law's where the arguments, and the package variables that the reading takes, are together of bulk at most 1048576: NARROWER than '..Said'. Prove '..Said' where nothing that the law and all that it calls make is longer than what came in: it says more and counts as full. Else prove '..UptoSaid'. A law counts once. -/
mutual
def uptoBulk {H : Type} : DataW H → Nat
  | .lit (.string bytes) => bytes.length + 1
  | .lit _ => 1
  | .nil => 1
  | .ptr d => uptoBulk d + 1
  | .slice elems spare => uptoBulkAll elems + uptoBulkAll spare + 1
  | .agg parts => uptoBulkAll parts + 1
  | .iface _ d => uptoBulk d + 1
  | .map entries => uptoBulkEntries entries + 1
  | .held _ => 1
def uptoBulkAll {H : Type} : List (DataW H) → Nat
  | [] => 0
  | d :: r => uptoBulk d + uptoBulkAll r
def uptoBulkEntries {H : Type} : List (Lit × DataW H) → Nat
  | [] => 0
  | x :: r => uptoBulkEntry x + uptoBulkEntries r
def uptoBulkEntry {H : Type} : Lit × DataW H → Nat
  | (.string bytes, d) => bytes.length + uptoBulk d + 1
  | (_, d) => uptoBulk d + 1
 end
def uptoSmall : (H : Type) → List (DataW H) → Bool := fun _ ds => decide (uptoBulkAll ds ≤ 1048576)
def OpenSpec.upto (s : _root_.Go.ChangeSpec) : _root_.Go.OpenSpec := { _root_.Go.OpenSpec.ofChange s with cond := some uptoSmall }

/-- 'scullerlaw08.BuildLays', WHERE WHAT IT READS IS OF BULK AT MOST 1048576: true; the input reads as it did. -/
def buildLaysUptoRow : OpenClaim := { program := "ytofpjcmcpejnfaadoor", sum := "066aeaa90e0942540353cb9ce6c3ebd1d4eb55dc117b9ac9d1cf9318e4d0150f", func := "sculler/scullerlaw08.BuildLays", spec := "buildLays", unfollowed := true, recurses := true, named := ["sculler/ptr.kindAt", "sculler/ptr.offAt", "sculler/ptr.dataAt", "sculler/ptr.ptrsAt", "sculler/ptr.sizeAt", "sculler/ptr.countAt", "sculler/ptr.doubleAt", "sculler/ptr.farOffAt", "sculler/ptr.segAt"], loops := true, apart := false, laid := [("sculler/ptr.kindAt", laid_sculler_ptr_kindAt), ("sculler/ptr.offAt", laid_sculler_ptr_offAt), ("sculler/ptr.dataAt", laid_sculler_ptr_dataAt), ("sculler/ptr.ptrsAt", laid_sculler_ptr_ptrsAt), ("sculler/ptr.sizeAt", laid_sculler_ptr_sizeAt), ("sculler/ptr.countAt", laid_sculler_ptr_countAt), ("sculler/ptr.doubleAt", laid_sculler_ptr_doubleAt), ("sculler/ptr.farOffAt", laid_sculler_ptr_farOffAt), ("sculler/ptr.segAt", laid_sculler_ptr_segAt)], narrowed := true }
def BuildLaysUptoSaid : Prop := buildLaysUptoRow.holds Tryd.pinned (OpenSpec.upto buildLaysSpec)

/-- 'scullerlaw08.BuildSizes', WHERE WHAT IT READS IS OF BULK AT MOST 1048576: true; the input reads as it did. -/
def buildSizesUptoRow : OpenClaim := { program := "ytofpjcmcpejnfaadoor", sum := "066aeaa90e0942540353cb9ce6c3ebd1d4eb55dc117b9ac9d1cf9318e4d0150f", func := "sculler/scullerlaw08.BuildSizes", spec := "buildSizes", unfollowed := true, recurses := true, named := ["sculler/ptr.kindAt", "sculler/ptr.offAt", "sculler/ptr.dataAt", "sculler/ptr.ptrsAt", "sculler/ptr.sizeAt", "sculler/ptr.countAt", "sculler/ptr.doubleAt", "sculler/ptr.farOffAt", "sculler/ptr.segAt"], apart := false, laid := [("sculler/ptr.kindAt", laid_sculler_ptr_kindAt), ("sculler/ptr.offAt", laid_sculler_ptr_offAt), ("sculler/ptr.dataAt", laid_sculler_ptr_dataAt), ("sculler/ptr.ptrsAt", laid_sculler_ptr_ptrsAt), ("sculler/ptr.sizeAt", laid_sculler_ptr_sizeAt), ("sculler/ptr.countAt", laid_sculler_ptr_countAt), ("sculler/ptr.doubleAt", laid_sculler_ptr_doubleAt), ("sculler/ptr.farOffAt", laid_sculler_ptr_farOffAt), ("sculler/ptr.segAt", laid_sculler_ptr_segAt)], narrowed := true }
def BuildSizesUptoSaid : Prop := buildSizesUptoRow.holds Tryd.pinned (OpenSpec.upto buildSizesSpec)

/-- 'scullerlaw08.BuildDeep', WHERE WHAT IT READS IS OF BULK AT MOST 1048576: true; the input reads as it did. -/
def buildDeepUptoRow : OpenClaim := { program := "ytofpjcmcpejnfaadoor", sum := "066aeaa90e0942540353cb9ce6c3ebd1d4eb55dc117b9ac9d1cf9318e4d0150f", func := "sculler/scullerlaw08.BuildDeep", spec := "buildDeep", unfollowed := true, recurses := true, named := ["sculler/ptr.kindAt", "sculler/ptr.offAt", "sculler/ptr.dataAt", "sculler/ptr.ptrsAt", "sculler/ptr.sizeAt", "sculler/ptr.countAt", "sculler/ptr.doubleAt", "sculler/ptr.farOffAt", "sculler/ptr.segAt"], apart := false, laid := [("sculler/ptr.kindAt", laid_sculler_ptr_kindAt), ("sculler/ptr.offAt", laid_sculler_ptr_offAt), ("sculler/ptr.dataAt", laid_sculler_ptr_dataAt), ("sculler/ptr.ptrsAt", laid_sculler_ptr_ptrsAt), ("sculler/ptr.sizeAt", laid_sculler_ptr_sizeAt), ("sculler/ptr.countAt", laid_sculler_ptr_countAt), ("sculler/ptr.doubleAt", laid_sculler_ptr_doubleAt), ("sculler/ptr.farOffAt", laid_sculler_ptr_farOffAt), ("sculler/ptr.segAt", laid_sculler_ptr_segAt)], narrowed := true }
def BuildDeepUptoSaid : Prop := buildDeepUptoRow.holds Tryd.pinned (OpenSpec.upto buildDeepSpec)

/-- 'scullerlaw08.BuildOdd', WHERE WHAT IT READS IS OF BULK AT MOST 1048576: true; the input reads as it did. -/
def buildOddUptoRow : OpenClaim := { program := "ytofpjcmcpejnfaadoor", sum := "066aeaa90e0942540353cb9ce6c3ebd1d4eb55dc117b9ac9d1cf9318e4d0150f", func := "sculler/scullerlaw08.BuildOdd", spec := "buildOdd", unfollowed := true, recurses := true, named := ["sculler/ptr.kindAt", "sculler/ptr.offAt", "sculler/ptr.dataAt", "sculler/ptr.ptrsAt", "sculler/ptr.sizeAt", "sculler/ptr.countAt", "sculler/ptr.doubleAt", "sculler/ptr.farOffAt", "sculler/ptr.segAt"], apart := false, laid := [("sculler/ptr.kindAt", laid_sculler_ptr_kindAt), ("sculler/ptr.offAt", laid_sculler_ptr_offAt), ("sculler/ptr.dataAt", laid_sculler_ptr_dataAt), ("sculler/ptr.ptrsAt", laid_sculler_ptr_ptrsAt), ("sculler/ptr.sizeAt", laid_sculler_ptr_sizeAt), ("sculler/ptr.countAt", laid_sculler_ptr_countAt), ("sculler/ptr.doubleAt", laid_sculler_ptr_doubleAt), ("sculler/ptr.farOffAt", laid_sculler_ptr_farOffAt), ("sculler/ptr.segAt", laid_sculler_ptr_segAt)], narrowed := true }
def BuildOddUptoSaid : Prop := buildOddUptoRow.holds Tryd.pinned (OpenSpec.upto buildOddSpec)

/-- 'scullerlaw08.BuildTwice', WHERE WHAT IT READS IS OF BULK AT MOST 1048576: true; the input reads as it did. -/
def buildTwiceUptoRow : OpenClaim := { program := "ytofpjcmcpejnfaadoor", sum := "066aeaa90e0942540353cb9ce6c3ebd1d4eb55dc117b9ac9d1cf9318e4d0150f", func := "sculler/scullerlaw08.BuildTwice", spec := "buildTwice", unfollowed := true, recurses := true, named := ["sculler/ptr.kindAt", "sculler/ptr.offAt", "sculler/ptr.dataAt", "sculler/ptr.ptrsAt", "sculler/ptr.sizeAt", "sculler/ptr.countAt", "sculler/ptr.doubleAt", "sculler/ptr.farOffAt", "sculler/ptr.segAt"], apart := false, laid := [("sculler/ptr.kindAt", laid_sculler_ptr_kindAt), ("sculler/ptr.offAt", laid_sculler_ptr_offAt), ("sculler/ptr.dataAt", laid_sculler_ptr_dataAt), ("sculler/ptr.ptrsAt", laid_sculler_ptr_ptrsAt), ("sculler/ptr.sizeAt", laid_sculler_ptr_sizeAt), ("sculler/ptr.countAt", laid_sculler_ptr_countAt), ("sculler/ptr.doubleAt", laid_sculler_ptr_doubleAt), ("sculler/ptr.farOffAt", laid_sculler_ptr_farOffAt), ("sculler/ptr.segAt", laid_sculler_ptr_segAt)], narrowed := true }
def BuildTwiceUptoSaid : Prop := buildTwiceUptoRow.holds Tryd.pinned (OpenSpec.upto buildTwiceSpec)

/-- 'scullerlaw08.BuildEmpty', WHERE WHAT IT READS IS OF BULK AT MOST 1048576: true; the input reads as it did. -/
def buildEmptyUptoRow : OpenClaim := { program := "ytofpjcmcpejnfaadoor", sum := "066aeaa90e0942540353cb9ce6c3ebd1d4eb55dc117b9ac9d1cf9318e4d0150f", func := "sculler/scullerlaw08.BuildEmpty", spec := "buildEmpty", unfollowed := true, recurses := true, named := ["sculler/ptr.kindAt", "sculler/ptr.offAt", "sculler/ptr.dataAt", "sculler/ptr.ptrsAt", "sculler/ptr.sizeAt", "sculler/ptr.countAt", "sculler/ptr.doubleAt", "sculler/ptr.farOffAt", "sculler/ptr.segAt"], apart := false, laid := [("sculler/ptr.kindAt", laid_sculler_ptr_kindAt), ("sculler/ptr.offAt", laid_sculler_ptr_offAt), ("sculler/ptr.dataAt", laid_sculler_ptr_dataAt), ("sculler/ptr.ptrsAt", laid_sculler_ptr_ptrsAt), ("sculler/ptr.sizeAt", laid_sculler_ptr_sizeAt), ("sculler/ptr.countAt", laid_sculler_ptr_countAt), ("sculler/ptr.doubleAt", laid_sculler_ptr_doubleAt), ("sculler/ptr.farOffAt", laid_sculler_ptr_farOffAt), ("sculler/ptr.segAt", laid_sculler_ptr_segAt)], narrowed := true }
def BuildEmptyUptoSaid : Prop := buildEmptyUptoRow.holds Tryd.pinned (OpenSpec.upto buildEmptySpec)

end Rows
end Go.Proofs.YtofpjcmcpejnfaaDoor
