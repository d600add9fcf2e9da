/-
  NARROWER THAN 'FOR EVERY INPUT', by the rows' own cells (each row's printed sentence says how): ValidChecks: laid · ValidCanon: laid · ValidSuffices: laid · ValidWhole: laid · ValidParts: laid · ValidTouch: laid.
  DERIVED. THE GIVEN ROWS OF THIS SEAT. 6 by the template 'for every input the law returns true; each argument reads behind the call as it read before'; 0 by the template 'total and deterministic' (their statements: YtmmlfnblodfjbaaGreatDoorTotals.lean).
  GIVEN WITH THE SEED: the statements are not yours to turn. If you find one false, say at which input.
  Laid BY PROGRAM, IN A SANDBOX (cutbox-rows.mjs): the forced cells as the released guide's own fill.sh prints them over the translation ae8ba5595c14b505… (all of the seat's roots in one cut). By AI agents, Wed Nov 11 2026. No macro, syntax, notation, axiom, sorry.
-/
import Derived.Test.YtmmlfnblodfjbaaGreatDoorChecked
import GoSem.Claim
import GoSem.ClaimJoined
import GoSem.ClaimMapViews
import Derived.JoinedTies
import Derived.KernelRfl
namespace Go.Proofs.YtmmlfnblodfjbaaGreatDoor
/- THE CELL 'sum', in the pinned program and in every row, IS THE sha256 OF THE DUMP (.gsa) THAT YtmmlfnblodfjbaaGreatDoorProg.lean LOADS. Nothing in Lean hashes anything: it is a label: what it is worth is what the hold of that sum in a sandbox is worth. -/
noncomputable def Tryz.pinned : Pinned := { name := "ytmmlfnblodfjbaagreatdoor", sum := "ae8ba5595c14b5059cccf2013f2cfa4984f1eb404be8a0c40c40651580757649", checked := Tryz.checked }
namespace Rows
def none {H : Type} : Left H := { results := [], args := [] }

/- WHAT THE LISTED PACKAGE-LEVEL VARIABLES READ AS WHEN THE CALL BEGINS. Each datum BY PROGRAM (the guide's laid-datum.mjs) off the statement by which the dump's own 'gosem.cut.vars' lays the variable. In a bare row this is a premise. The card (YtmmlfnblodfjbaaGreatDoorCards.lean) ties it to the program's text. -/
def laid_sculler_ptr_kindAt {H : Type} : DataW H := .agg [.lit (.int .i64 0), .lit (.int .i64 1)]
def laid_sculler_ptr_offAt {H : Type} : DataW H := .agg [.lit (.int .i64 2), .lit (.int .i64 31)]
def laid_sculler_ptr_dataAt {H : Type} : DataW H := .agg [.lit (.int .i64 32), .lit (.int .i64 47)]
def laid_sculler_ptr_ptrsAt {H : Type} : DataW H := .agg [.lit (.int .i64 48), .lit (.int .i64 63)]
def laid_sculler_ptr_sizeAt {H : Type} : DataW H := .agg [.lit (.int .i64 32), .lit (.int .i64 34)]
def laid_sculler_ptr_countAt {H : Type} : DataW H := .agg [.lit (.int .i64 35), .lit (.int .i64 63)]
def laid_sculler_ptr_doubleAt {H : Type} : DataW H := .agg [.lit (.int .i64 2), .lit (.int .i64 2)]
def laid_sculler_ptr_farOffAt {H : Type} : DataW H := .agg [.lit (.int .i64 3), .lit (.int .i64 31)]
def laid_sculler_ptr_segAt {H : Type} : DataW H := .agg [.lit (.int .i64 32), .lit (.int .i64 63)]

/-- 'scullerlaw11.ValidChecks': WHATEVER THE INPUT: true; the input reads as it did. -/
def validChecksSpec : ChangeSpec := { name := "validChecks", fn := fun _ => fun
  | [d1, d2, d3, d4, d5] => { results := [.lit (.bool true)], args := [d1, d2, d3, d4, d5] }
  | _ => none }
def validChecksRow : OpenClaim := { program := "ytmmlfnblodfjbaagreatdoor", sum := "ae8ba5595c14b5059cccf2013f2cfa4984f1eb404be8a0c40c40651580757649", func := "sculler/scullerlaw11.ValidChecks", spec := "validChecks", unfollowed := true, recurses := true, named := ["sculler/ptr.kindAt", "sculler/ptr.offAt", "sculler/ptr.dataAt", "sculler/ptr.ptrsAt", "sculler/ptr.sizeAt", "sculler/ptr.countAt", "sculler/ptr.doubleAt", "sculler/ptr.farOffAt", "sculler/ptr.segAt"], apart := false, laid := [("sculler/ptr.kindAt", laid_sculler_ptr_kindAt), ("sculler/ptr.offAt", laid_sculler_ptr_offAt), ("sculler/ptr.dataAt", laid_sculler_ptr_dataAt), ("sculler/ptr.ptrsAt", laid_sculler_ptr_ptrsAt), ("sculler/ptr.sizeAt", laid_sculler_ptr_sizeAt), ("sculler/ptr.countAt", laid_sculler_ptr_countAt), ("sculler/ptr.doubleAt", laid_sculler_ptr_doubleAt), ("sculler/ptr.farOffAt", laid_sculler_ptr_farOffAt), ("sculler/ptr.segAt", laid_sculler_ptr_segAt)] }
def ValidChecksSaid : Prop := validChecksRow.holds Tryz.pinned (OpenSpec.ofChange validChecksSpec)

/-- ITS FALSE NEIGHBOUR: 'it returns false'. Refute it at one input. -/
def validChecksWrong : ChangeSpec := { name := "validChecks", fn := fun _ => fun
  | [d1, d2, d3, d4, d5] => { results := [.lit (.bool false)], args := [d1, d2, d3, d4, d5] }
  | _ => none }
def ValidChecksWrongFalsely : Prop := validChecksRow.holds Tryz.pinned (OpenSpec.ofChange validChecksWrong)

/-- 'scullerlaw11.ValidCanon': WHATEVER THE INPUT: true; the input reads as it did. -/
def validCanonSpec : ChangeSpec := { name := "validCanon", fn := fun _ => fun
  | [d1, d2, d3] => { results := [.lit (.bool true)], args := [d1, d2, d3] }
  | _ => none }
def validCanonRow : OpenClaim := { program := "ytmmlfnblodfjbaagreatdoor", sum := "ae8ba5595c14b5059cccf2013f2cfa4984f1eb404be8a0c40c40651580757649", func := "sculler/scullerlaw11.ValidCanon", spec := "validCanon", unfollowed := true, recurses := true, named := ["sculler/ptr.kindAt", "sculler/ptr.offAt", "sculler/ptr.dataAt", "sculler/ptr.ptrsAt", "sculler/ptr.sizeAt", "sculler/ptr.countAt", "sculler/ptr.doubleAt", "sculler/ptr.farOffAt", "sculler/ptr.segAt"], apart := false, laid := [("sculler/ptr.kindAt", laid_sculler_ptr_kindAt), ("sculler/ptr.offAt", laid_sculler_ptr_offAt), ("sculler/ptr.dataAt", laid_sculler_ptr_dataAt), ("sculler/ptr.ptrsAt", laid_sculler_ptr_ptrsAt), ("sculler/ptr.sizeAt", laid_sculler_ptr_sizeAt), ("sculler/ptr.countAt", laid_sculler_ptr_countAt), ("sculler/ptr.doubleAt", laid_sculler_ptr_doubleAt), ("sculler/ptr.farOffAt", laid_sculler_ptr_farOffAt), ("sculler/ptr.segAt", laid_sculler_ptr_segAt)] }
def ValidCanonSaid : Prop := validCanonRow.holds Tryz.pinned (OpenSpec.ofChange validCanonSpec)

/-- ITS FALSE NEIGHBOUR: 'it returns false'. Refute it at one input. -/
def validCanonWrong : ChangeSpec := { name := "validCanon", fn := fun _ => fun
  | [d1, d2, d3] => { results := [.lit (.bool false)], args := [d1, d2, d3] }
  | _ => none }
def ValidCanonWrongFalsely : Prop := validCanonRow.holds Tryz.pinned (OpenSpec.ofChange validCanonWrong)

/-- 'scullerlaw11.ValidSuffices': WHATEVER THE INPUT: true; the input reads as it did. -/
def validSufficesSpec : ChangeSpec := { name := "validSuffices", fn := fun _ => fun
  | [d1, d2, d3, d4, d5] => { results := [.lit (.bool true)], args := [d1, d2, d3, d4, d5] }
  | _ => none }
def validSufficesRow : OpenClaim := { program := "ytmmlfnblodfjbaagreatdoor", sum := "ae8ba5595c14b5059cccf2013f2cfa4984f1eb404be8a0c40c40651580757649", func := "sculler/scullerlaw11.ValidSuffices", spec := "validSuffices", unfollowed := true, recurses := true, named := ["sculler/ptr.kindAt", "sculler/ptr.offAt", "sculler/ptr.dataAt", "sculler/ptr.ptrsAt", "sculler/ptr.sizeAt", "sculler/ptr.countAt", "sculler/ptr.doubleAt", "sculler/ptr.farOffAt", "sculler/ptr.segAt"], apart := false, laid := [("sculler/ptr.kindAt", laid_sculler_ptr_kindAt), ("sculler/ptr.offAt", laid_sculler_ptr_offAt), ("sculler/ptr.dataAt", laid_sculler_ptr_dataAt), ("sculler/ptr.ptrsAt", laid_sculler_ptr_ptrsAt), ("sculler/ptr.sizeAt", laid_sculler_ptr_sizeAt), ("sculler/ptr.countAt", laid_sculler_ptr_countAt), ("sculler/ptr.doubleAt", laid_sculler_ptr_doubleAt), ("sculler/ptr.farOffAt", laid_sculler_ptr_farOffAt), ("sculler/ptr.segAt", laid_sculler_ptr_segAt)] }
def ValidSufficesSaid : Prop := validSufficesRow.holds Tryz.pinned (OpenSpec.ofChange validSufficesSpec)

/-- ITS FALSE NEIGHBOUR: 'it returns false'. Refute it at one input. -/
def validSufficesWrong : ChangeSpec := { name := "validSuffices", fn := fun _ => fun
  | [d1, d2, d3, d4, d5] => { results := [.lit (.bool false)], args := [d1, d2, d3, d4, d5] }
  | _ => none }
def ValidSufficesWrongFalsely : Prop := validSufficesRow.holds Tryz.pinned (OpenSpec.ofChange validSufficesWrong)

/-- 'scullerlaw11.ValidWhole': WHATEVER THE INPUT: true; the input reads as it did. -/
def validWholeSpec : ChangeSpec := { name := "validWhole", fn := fun _ => fun
  | [d1, d2, d3, d4] => { results := [.lit (.bool true)], args := [d1, d2, d3, d4] }
  | _ => none }
def validWholeRow : OpenClaim := { program := "ytmmlfnblodfjbaagreatdoor", sum := "ae8ba5595c14b5059cccf2013f2cfa4984f1eb404be8a0c40c40651580757649", func := "sculler/scullerlaw11.ValidWhole", spec := "validWhole", unfollowed := true, recurses := true, named := ["sculler/ptr.kindAt", "sculler/ptr.offAt", "sculler/ptr.dataAt", "sculler/ptr.ptrsAt", "sculler/ptr.sizeAt", "sculler/ptr.countAt", "sculler/ptr.doubleAt", "sculler/ptr.farOffAt", "sculler/ptr.segAt"], apart := false, laid := [("sculler/ptr.kindAt", laid_sculler_ptr_kindAt), ("sculler/ptr.offAt", laid_sculler_ptr_offAt), ("sculler/ptr.dataAt", laid_sculler_ptr_dataAt), ("sculler/ptr.ptrsAt", laid_sculler_ptr_ptrsAt), ("sculler/ptr.sizeAt", laid_sculler_ptr_sizeAt), ("sculler/ptr.countAt", laid_sculler_ptr_countAt), ("sculler/ptr.doubleAt", laid_sculler_ptr_doubleAt), ("sculler/ptr.farOffAt", laid_sculler_ptr_farOffAt), ("sculler/ptr.segAt", laid_sculler_ptr_segAt)] }
def ValidWholeSaid : Prop := validWholeRow.holds Tryz.pinned (OpenSpec.ofChange validWholeSpec)

/-- ITS FALSE NEIGHBOUR: 'it returns false'. Refute it at one input. -/
def validWholeWrong : ChangeSpec := { name := "validWhole", fn := fun _ => fun
  | [d1, d2, d3, d4] => { results := [.lit (.bool false)], args := [d1, d2, d3, d4] }
  | _ => none }
def ValidWholeWrongFalsely : Prop := validWholeRow.holds Tryz.pinned (OpenSpec.ofChange validWholeWrong)

/-- 'scullerlaw11.ValidParts': WHATEVER THE INPUT: true; the input reads as it did. -/
def validPartsSpec : ChangeSpec := { name := "validParts", fn := fun _ => fun
  | [d1, d2, d3] => { results := [.lit (.bool true)], args := [d1, d2, d3] }
  | _ => none }
def validPartsRow : OpenClaim := { program := "ytmmlfnblodfjbaagreatdoor", sum := "ae8ba5595c14b5059cccf2013f2cfa4984f1eb404be8a0c40c40651580757649", func := "sculler/scullerlaw11.ValidParts", spec := "validParts", unfollowed := true, recurses := true, named := ["sculler/ptr.kindAt", "sculler/ptr.offAt", "sculler/ptr.dataAt", "sculler/ptr.ptrsAt", "sculler/ptr.sizeAt", "sculler/ptr.countAt", "sculler/ptr.doubleAt", "sculler/ptr.farOffAt", "sculler/ptr.segAt"], apart := false, laid := [("sculler/ptr.kindAt", laid_sculler_ptr_kindAt), ("sculler/ptr.offAt", laid_sculler_ptr_offAt), ("sculler/ptr.dataAt", laid_sculler_ptr_dataAt), ("sculler/ptr.ptrsAt", laid_sculler_ptr_ptrsAt), ("sculler/ptr.sizeAt", laid_sculler_ptr_sizeAt), ("sculler/ptr.countAt", laid_sculler_ptr_countAt), ("sculler/ptr.doubleAt", laid_sculler_ptr_doubleAt), ("sculler/ptr.farOffAt", laid_sculler_ptr_farOffAt), ("sculler/ptr.segAt", laid_sculler_ptr_segAt)] }
def ValidPartsSaid : Prop := validPartsRow.holds Tryz.pinned (OpenSpec.ofChange validPartsSpec)

/-- ITS FALSE NEIGHBOUR: 'it returns false'. Refute it at one input. -/
def validPartsWrong : ChangeSpec := { name := "validParts", fn := fun _ => fun
  | [d1, d2, d3] => { results := [.lit (.bool false)], args := [d1, d2, d3] }
  | _ => none }
def ValidPartsWrongFalsely : Prop := validPartsRow.holds Tryz.pinned (OpenSpec.ofChange validPartsWrong)

/-- 'scullerlaw11.ValidTouch': WHATEVER THE INPUT: true; the input reads as it did. -/
def validTouchSpec : ChangeSpec := { name := "validTouch", fn := fun _ => fun
  | [d1, d2, d3, d4] => { results := [.lit (.bool true)], args := [d1, d2, d3, d4] }
  | _ => none }
def validTouchRow : OpenClaim := { program := "ytmmlfnblodfjbaagreatdoor", sum := "ae8ba5595c14b5059cccf2013f2cfa4984f1eb404be8a0c40c40651580757649", func := "sculler/scullerlaw11.ValidTouch", spec := "validTouch", unfollowed := true, recurses := true, named := ["sculler/ptr.kindAt", "sculler/ptr.offAt", "sculler/ptr.dataAt", "sculler/ptr.ptrsAt", "sculler/ptr.sizeAt", "sculler/ptr.countAt", "sculler/ptr.doubleAt", "sculler/ptr.farOffAt", "sculler/ptr.segAt"], apart := false, laid := [("sculler/ptr.kindAt", laid_sculler_ptr_kindAt), ("sculler/ptr.offAt", laid_sculler_ptr_offAt), ("sculler/ptr.dataAt", laid_sculler_ptr_dataAt), ("sculler/ptr.ptrsAt", laid_sculler_ptr_ptrsAt), ("sculler/ptr.sizeAt", laid_sculler_ptr_sizeAt), ("sculler/ptr.countAt", laid_sculler_ptr_countAt), ("sculler/ptr.doubleAt", laid_sculler_ptr_doubleAt), ("sculler/ptr.farOffAt", laid_sculler_ptr_farOffAt), ("sculler/ptr.segAt", laid_sculler_ptr_segAt)] }
def ValidTouchSaid : Prop := validTouchRow.holds Tryz.pinned (OpenSpec.ofChange validTouchSpec)

/-- ITS FALSE NEIGHBOUR: 'it returns false'. Refute it at one input. -/
def validTouchWrong : ChangeSpec := { name := "validTouch", fn := fun _ => fun
  | [d1, d2, d3, d4] => { results := [.lit (.bool false)], args := [d1, d2, d3, d4] }
  | _ => none }
def ValidTouchWrongFalsely : Prop := validTouchRow.holds Tryz.pinned (OpenSpec.ofChange validTouchWrong)

/- THE SECOND FORM. 'bulk': how many values and letters a reading holds, each counted each time it is reached (what is shared counts as often as it is met; a slice's spare places count too). A statement '..UptoSaid' is the law's where the arguments, and the package variables that the reading takes, are together of bulk at most 1048576: NARROWER than '..Said'. Prove '..Said' where nothing that the law and all that it calls make is longer than what came in: it says more and counts as full. Else prove '..UptoSaid'. A law counts once. -/
mutual
def uptoBulk {H : Type} : DataW H → Nat
  | .lit (.string bytes) => bytes.length + 1
  | .lit _ => 1
  | .nil => 1
  | .ptr d => uptoBulk d + 1
  | .slice elems spare => uptoBulkAll elems + uptoBulkAll spare + 1
  | .agg parts => uptoBulkAll parts + 1
  | .iface _ d => uptoBulk d + 1
  | .map entries => uptoBulkEntries entries + 1
  | .held _ => 1
def uptoBulkAll {H : Type} : List (DataW H) → Nat
  | [] => 0
  | d :: r => uptoBulk d + uptoBulkAll r
def uptoBulkEntries {H : Type} : List (Lit × DataW H) → Nat
  | [] => 0
  | x :: r => uptoBulkEntry x + uptoBulkEntries r
def uptoBulkEntry {H : Type} : Lit × DataW H → Nat
  | (.string bytes, d) => bytes.length + uptoBulk d + 1
  | (_, d) => uptoBulk d + 1
 end
def uptoSmall : (H : Type) → List (DataW H) → Bool := fun _ ds => decide (uptoBulkAll ds ≤ 1048576)
def OpenSpec.upto (s : _root_.Go.ChangeSpec) : _root_.Go.OpenSpec := { _root_.Go.OpenSpec.ofChange s with cond := some uptoSmall }

/-- 'scullerlaw11.ValidChecks', WHERE WHAT IT READS IS OF BULK AT MOST 1048576: true; the input reads as it did. -/
def validChecksUptoRow : OpenClaim := { program := "ytmmlfnblodfjbaagreatdoor", sum := "ae8ba5595c14b5059cccf2013f2cfa4984f1eb404be8a0c40c40651580757649", func := "sculler/scullerlaw11.ValidChecks", spec := "validChecks", unfollowed := true, recurses := true, named := ["sculler/ptr.kindAt", "sculler/ptr.offAt", "sculler/ptr.dataAt", "sculler/ptr.ptrsAt", "sculler/ptr.sizeAt", "sculler/ptr.countAt", "sculler/ptr.doubleAt", "sculler/ptr.farOffAt", "sculler/ptr.segAt"], apart := false, laid := [("sculler/ptr.kindAt", laid_sculler_ptr_kindAt), ("sculler/ptr.offAt", laid_sculler_ptr_offAt), ("sculler/ptr.dataAt", laid_sculler_ptr_dataAt), ("sculler/ptr.ptrsAt", laid_sculler_ptr_ptrsAt), ("sculler/ptr.sizeAt", laid_sculler_ptr_sizeAt), ("sculler/ptr.countAt", laid_sculler_ptr_countAt), ("sculler/ptr.doubleAt", laid_sculler_ptr_doubleAt), ("sculler/ptr.farOffAt", laid_sculler_ptr_farOffAt), ("sculler/ptr.segAt", laid_sculler_ptr_segAt)], narrowed := true }
def ValidChecksUptoSaid : Prop := validChecksUptoRow.holds Tryz.pinned (OpenSpec.upto validChecksSpec)

/-- 'scullerlaw11.ValidCanon', WHERE WHAT IT READS IS OF BULK AT MOST 1048576: true; the input reads as it did. -/
def validCanonUptoRow : OpenClaim := { program := "ytmmlfnblodfjbaagreatdoor", sum := "ae8ba5595c14b5059cccf2013f2cfa4984f1eb404be8a0c40c40651580757649", func := "sculler/scullerlaw11.ValidCanon", spec := "validCanon", unfollowed := true, recurses := true, named := ["sculler/ptr.kindAt", "sculler/ptr.offAt", "sculler/ptr.dataAt", "sculler/ptr.ptrsAt", "sculler/ptr.sizeAt", "sculler/ptr.countAt", "sculler/ptr.doubleAt", "sculler/ptr.farOffAt", "sculler/ptr.segAt"], apart := false, laid := [("sculler/ptr.kindAt", laid_sculler_ptr_kindAt), ("sculler/ptr.offAt", laid_sculler_ptr_offAt), ("sculler/ptr.dataAt", laid_sculler_ptr_dataAt), ("sculler/ptr.ptrsAt", laid_sculler_ptr_ptrsAt), ("sculler/ptr.sizeAt", laid_sculler_ptr_sizeAt), ("sculler/ptr.countAt", laid_sculler_ptr_countAt), ("sculler/ptr.doubleAt", laid_sculler_ptr_doubleAt), ("sculler/ptr.farOffAt", laid_sculler_ptr_farOffAt), ("sculler/ptr.segAt", laid_sculler_ptr_segAt)], narrowed := true }
def ValidCanonUptoSaid : Prop := validCanonUptoRow.holds Tryz.pinned (OpenSpec.upto validCanonSpec)

/-- 'scullerlaw11.ValidSuffices', WHERE WHAT IT READS IS OF BULK AT MOST 1048576: true; the input reads as it did. -/
def validSufficesUptoRow : OpenClaim := { program := "ytmmlfnblodfjbaagreatdoor", sum := "ae8ba5595c14b5059cccf2013f2cfa4984f1eb404be8a0c40c40651580757649", func := "sculler/scullerlaw11.ValidSuffices", spec := "validSuffices", unfollowed := true, recurses := true, named := ["sculler/ptr.kindAt", "sculler/ptr.offAt", "sculler/ptr.dataAt", "sculler/ptr.ptrsAt", "sculler/ptr.sizeAt", "sculler/ptr.countAt", "sculler/ptr.doubleAt", "sculler/ptr.farOffAt", "sculler/ptr.segAt"], apart := false, laid := [("sculler/ptr.kindAt", laid_sculler_ptr_kindAt), ("sculler/ptr.offAt", laid_sculler_ptr_offAt), ("sculler/ptr.dataAt", laid_sculler_ptr_dataAt), ("sculler/ptr.ptrsAt", laid_sculler_ptr_ptrsAt), ("sculler/ptr.sizeAt", laid_sculler_ptr_sizeAt), ("sculler/ptr.countAt", laid_sculler_ptr_countAt), ("sculler/ptr.doubleAt", laid_sculler_ptr_doubleAt), ("sculler/ptr.farOffAt", laid_sculler_ptr_farOffAt), ("sculler/ptr.segAt", laid_sculler_ptr_segAt)], narrowed := true }
def ValidSufficesUptoSaid : Prop := validSufficesUptoRow.holds Tryz.pinned (OpenSpec.upto validSufficesSpec)

/-- 'scullerlaw11.ValidWhole', WHERE WHAT IT READS IS OF BULK AT MOST 1048576: true; the input reads as it did. -/
def validWholeUptoRow : OpenClaim := { program := "ytmmlfnblodfjbaagreatdoor", sum := "ae8ba5595c14b5059cccf2013f2cfa4984f1eb404be8a0c40c40651580757649", func := "sculler/scullerlaw11.ValidWhole", spec := "validWhole", unfollowed := true, recurses := true, named := ["sculler/ptr.kindAt", "sculler/ptr.offAt", "sculler/ptr.dataAt", "sculler/ptr.ptrsAt", "sculler/ptr.sizeAt", "sculler/ptr.countAt", "sculler/ptr.doubleAt", "sculler/ptr.farOffAt", "sculler/ptr.segAt"], apart := false, laid := [("sculler/ptr.kindAt", laid_sculler_ptr_kindAt), ("sculler/ptr.offAt", laid_sculler_ptr_offAt), ("sculler/ptr.dataAt", laid_sculler_ptr_dataAt), ("sculler/ptr.ptrsAt", laid_sculler_ptr_ptrsAt), ("sculler/ptr.sizeAt", laid_sculler_ptr_sizeAt), ("sculler/ptr.countAt", laid_sculler_ptr_countAt), ("sculler/ptr.doubleAt", laid_sculler_ptr_doubleAt), ("sculler/ptr.farOffAt", laid_sculler_ptr_farOffAt), ("sculler/ptr.segAt", laid_sculler_ptr_segAt)], narrowed := true }
def ValidWholeUptoSaid : Prop := validWholeUptoRow.holds Tryz.pinned (OpenSpec.upto validWholeSpec)

/-- 'scullerlaw11.ValidParts', WHERE WHAT IT READS IS OF BULK AT MOST 1048576: true; the input reads as it did. -/
def validPartsUptoRow : OpenClaim := { program := "ytmmlfnblodfjbaagreatdoor", sum := "ae8ba5595c14b5059cccf2013f2cfa4984f1eb404be8a0c40c40651580757649", func := "sculler/scullerlaw11.ValidParts", spec := "validParts", unfollowed := true, recurses := true, named := ["sculler/ptr.kindAt", "sculler/ptr.offAt", "sculler/ptr.dataAt", "sculler/ptr.ptrsAt", "sculler/ptr.sizeAt", "sculler/ptr.countAt", "sculler/ptr.doubleAt", "sculler/ptr.farOffAt", "sculler/ptr.segAt"], apart := false, laid := [("sculler/ptr.kindAt", laid_sculler_ptr_kindAt), ("sculler/ptr.offAt", laid_sculler_ptr_offAt), ("sculler/ptr.dataAt", laid_sculler_ptr_dataAt), ("sculler/ptr.ptrsAt", laid_sculler_ptr_ptrsAt), ("sculler/ptr.sizeAt", laid_sculler_ptr_sizeAt), ("sculler/ptr.countAt", laid_sculler_ptr_countAt), ("sculler/ptr.doubleAt", laid_sculler_ptr_doubleAt), ("sculler/ptr.farOffAt", laid_sculler_ptr_farOffAt), ("sculler/ptr.segAt", laid_sculler_ptr_segAt)], narrowed := true }
def ValidPartsUptoSaid : Prop := validPartsUptoRow.holds Tryz.pinned (OpenSpec.upto validPartsSpec)

/-- 'scullerlaw11.ValidTouch', WHERE WHAT IT READS IS OF BULK AT MOST 1048576: true; the input reads as it did. -/
def validTouchUptoRow : OpenClaim := { program := "ytmmlfnblodfjbaagreatdoor", sum := "ae8ba5595c14b5059cccf2013f2cfa4984f1eb404be8a0c40c40651580757649", func := "sculler/scullerlaw11.ValidTouch", spec := "validTouch", unfollowed := true, recurses := true, named := ["sculler/ptr.kindAt", "sculler/ptr.offAt", "sculler/ptr.dataAt", "sculler/ptr.ptrsAt", "sculler/ptr.sizeAt", "sculler/ptr.countAt", "sculler/ptr.doubleAt", "sculler/ptr.farOffAt", "sculler/ptr.segAt"], apart := false, laid := [("sculler/ptr.kindAt", laid_sculler_ptr_kindAt), ("sculler/ptr.offAt", laid_sculler_ptr_offAt), ("sculler/ptr.dataAt", laid_sculler_ptr_dataAt), ("sculler/ptr.ptrsAt", laid_sculler_ptr_ptrsAt), ("sculler/ptr.sizeAt", laid_sculler_ptr_sizeAt), ("sculler/ptr.countAt", laid_sculler_ptr_countAt), ("sculler/ptr.doubleAt", laid_sculler_ptr_doubleAt), ("sculler/ptr.farOffAt", laid_sculler_ptr_farOffAt), ("sculler/ptr.segAt", laid_sculler_ptr_segAt)], narrowed := true }
def ValidTouchUptoSaid : Prop := validTouchUptoRow.holds Tryz.pinned (OpenSpec.upto validTouchSpec)

end Rows
end Go.Proofs.YtmmlfnblodfjbaaGreatDoor
