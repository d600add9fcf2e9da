/-
  NARROWER THAN 'FOR EVERY INPUT', by the rows' own cells (each row's printed sentence says how): TreeDecodes: laid · TreeAsks: laid · TreeBack: laid · TreeWalks: laid · TreePaths: laid · TreeDeep: laid · TreeNull: laid.
  DERIVED. THE GIVEN ROWS OF THIS SEAT. 7 by the template 'for every input the law returns true; each argument reads behind the call as it read before'; 0 by the template 'total and deterministic' (their statements: YtdfldfnjjjcleaaDoorTotals.lean).
  GIVEN WITH THE SEED: the statements are not yours to turn. If you find one false, say at which input.
  Laid BY PROGRAM, IN A SANDBOX (cutbox-rows.mjs): the forced cells as the released guide's own fill.sh prints them over the translation 72fa135467b5aba1… (all of the seat's roots in one cut). By AI agents, Wed Nov 11 2026. No macro, syntax, notation, axiom, sorry.
-/
import Derived.Test.YtdfldfnjjjcleaaDoorChecked
import GoSem.Claim
import GoSem.ClaimJoined
import GoSem.ClaimMapViews
import Derived.JoinedTies
import Derived.KernelRfl
namespace Go.Proofs.YtdfldfnjjjcleaaDoor
/- THE CELL 'sum', in the pinned program and in every row, IS THE sha256 OF THE DUMP (.gsa) THAT YtdfldfnjjjcleaaDoorProg.lean LOADS. Nothing in Lean hashes anything: it is a label: what it is worth is what the hold of that sum in a sandbox is worth. -/
noncomputable def Tryd.pinned : Pinned := { name := "ytdfldfnjjjcleaadoor", sum := "72fa135467b5aba162d275f5237ec7d914ac2222e9d4c45ab025e14aa41e9de0", checked := Tryd.checked }
namespace Rows
def none {H : Type} : Left H := { results := [], args := [] }

/- WHAT THE LISTED PACKAGE-LEVEL VARIABLES READ AS WHEN THE CALL BEGINS. Each datum BY PROGRAM (the guide's laid-datum.mjs) off the statement by which the dump's own 'gosem.cut.vars' lays the variable. In a bare row this is a premise. The card (YtdfldfnjjjcleaaDoorCards.lean) ties it to the program's text. -/
def laid_sculler_ptr_kindAt {H : Type} : DataW H := .agg [.lit (.int .i64 0), .lit (.int .i64 1)]
def laid_sculler_ptr_offAt {H : Type} : DataW H := .agg [.lit (.int .i64 2), .lit (.int .i64 31)]
def laid_sculler_ptr_dataAt {H : Type} : DataW H := .agg [.lit (.int .i64 32), .lit (.int .i64 47)]
def laid_sculler_ptr_ptrsAt {H : Type} : DataW H := .agg [.lit (.int .i64 48), .lit (.int .i64 63)]
def laid_sculler_ptr_sizeAt {H : Type} : DataW H := .agg [.lit (.int .i64 32), .lit (.int .i64 34)]
def laid_sculler_ptr_countAt {H : Type} : DataW H := .agg [.lit (.int .i64 35), .lit (.int .i64 63)]
def laid_sculler_ptr_doubleAt {H : Type} : DataW H := .agg [.lit (.int .i64 2), .lit (.int .i64 2)]
def laid_sculler_ptr_farOffAt {H : Type} : DataW H := .agg [.lit (.int .i64 3), .lit (.int .i64 31)]
def laid_sculler_ptr_segAt {H : Type} : DataW H := .agg [.lit (.int .i64 32), .lit (.int .i64 63)]

/-- 'scullerlaw10.TreeDecodes': WHATEVER THE INPUT: true; the input reads as it did. -/
def treeDecodesSpec : ChangeSpec := { name := "treeDecodes", fn := fun _ => fun
  | [d1, d2, d3, d4] => { results := [.lit (.bool true)], args := [d1, d2, d3, d4] }
  | _ => none }
def treeDecodesRow : OpenClaim := { program := "ytdfldfnjjjcleaadoor", sum := "72fa135467b5aba162d275f5237ec7d914ac2222e9d4c45ab025e14aa41e9de0", func := "sculler/scullerlaw10.TreeDecodes", spec := "treeDecodes", unfollowed := true, recurses := true, named := ["sculler/ptr.kindAt", "sculler/ptr.offAt", "sculler/ptr.dataAt", "sculler/ptr.ptrsAt", "sculler/ptr.sizeAt", "sculler/ptr.countAt", "sculler/ptr.doubleAt", "sculler/ptr.farOffAt", "sculler/ptr.segAt"], plainKeys := false, apart := false, laid := [("sculler/ptr.kindAt", laid_sculler_ptr_kindAt), ("sculler/ptr.offAt", laid_sculler_ptr_offAt), ("sculler/ptr.dataAt", laid_sculler_ptr_dataAt), ("sculler/ptr.ptrsAt", laid_sculler_ptr_ptrsAt), ("sculler/ptr.sizeAt", laid_sculler_ptr_sizeAt), ("sculler/ptr.countAt", laid_sculler_ptr_countAt), ("sculler/ptr.doubleAt", laid_sculler_ptr_doubleAt), ("sculler/ptr.farOffAt", laid_sculler_ptr_farOffAt), ("sculler/ptr.segAt", laid_sculler_ptr_segAt)] }
def TreeDecodesSaid : Prop := treeDecodesRow.holds Tryd.pinned (OpenSpec.ofChange treeDecodesSpec)

/-- ITS FALSE NEIGHBOUR: 'it returns false'. Refute it at one input. -/
def treeDecodesWrong : ChangeSpec := { name := "treeDecodes", fn := fun _ => fun
  | [d1, d2, d3, d4] => { results := [.lit (.bool false)], args := [d1, d2, d3, d4] }
  | _ => none }
def TreeDecodesWrongFalsely : Prop := treeDecodesRow.holds Tryd.pinned (OpenSpec.ofChange treeDecodesWrong)

/-- 'scullerlaw10.TreeAsks': WHATEVER THE INPUT: true; the input reads as it did. -/
def treeAsksSpec : ChangeSpec := { name := "treeAsks", fn := fun _ => fun
  | [d1, d2, d3, d4, d5, d6] => { results := [.lit (.bool true)], args := [d1, d2, d3, d4, d5, d6] }
  | _ => none }
def treeAsksRow : OpenClaim := { program := "ytdfldfnjjjcleaadoor", sum := "72fa135467b5aba162d275f5237ec7d914ac2222e9d4c45ab025e14aa41e9de0", func := "sculler/scullerlaw10.TreeAsks", spec := "treeAsks", unfollowed := true, recurses := true, named := ["sculler/ptr.kindAt", "sculler/ptr.offAt", "sculler/ptr.dataAt", "sculler/ptr.ptrsAt", "sculler/ptr.sizeAt", "sculler/ptr.countAt", "sculler/ptr.doubleAt", "sculler/ptr.farOffAt", "sculler/ptr.segAt"], plainKeys := false, apart := false, laid := [("sculler/ptr.kindAt", laid_sculler_ptr_kindAt), ("sculler/ptr.offAt", laid_sculler_ptr_offAt), ("sculler/ptr.dataAt", laid_sculler_ptr_dataAt), ("sculler/ptr.ptrsAt", laid_sculler_ptr_ptrsAt), ("sculler/ptr.sizeAt", laid_sculler_ptr_sizeAt), ("sculler/ptr.countAt", laid_sculler_ptr_countAt), ("sculler/ptr.doubleAt", laid_sculler_ptr_doubleAt), ("sculler/ptr.farOffAt", laid_sculler_ptr_farOffAt), ("sculler/ptr.segAt", laid_sculler_ptr_segAt)] }
def TreeAsksSaid : Prop := treeAsksRow.holds Tryd.pinned (OpenSpec.ofChange treeAsksSpec)

/-- ITS FALSE NEIGHBOUR: 'it returns false'. Refute it at one input. -/
def treeAsksWrong : ChangeSpec := { name := "treeAsks", fn := fun _ => fun
  | [d1, d2, d3, d4, d5, d6] => { results := [.lit (.bool false)], args := [d1, d2, d3, d4, d5, d6] }
  | _ => none }
def TreeAsksWrongFalsely : Prop := treeAsksRow.holds Tryd.pinned (OpenSpec.ofChange treeAsksWrong)

/-- 'scullerlaw10.TreeBack': WHATEVER THE INPUT: true; the input reads as it did. -/
def treeBackSpec : ChangeSpec := { name := "treeBack", fn := fun _ => fun
  | [d1, d2] => { results := [.lit (.bool true)], args := [d1, d2] }
  | _ => none }
def treeBackRow : OpenClaim := { program := "ytdfldfnjjjcleaadoor", sum := "72fa135467b5aba162d275f5237ec7d914ac2222e9d4c45ab025e14aa41e9de0", func := "sculler/scullerlaw10.TreeBack", spec := "treeBack", unfollowed := true, recurses := true, named := ["sculler/ptr.kindAt", "sculler/ptr.offAt", "sculler/ptr.dataAt", "sculler/ptr.ptrsAt", "sculler/ptr.sizeAt", "sculler/ptr.countAt", "sculler/ptr.doubleAt", "sculler/ptr.farOffAt", "sculler/ptr.segAt"], plainKeys := false, apart := false, laid := [("sculler/ptr.kindAt", laid_sculler_ptr_kindAt), ("sculler/ptr.offAt", laid_sculler_ptr_offAt), ("sculler/ptr.dataAt", laid_sculler_ptr_dataAt), ("sculler/ptr.ptrsAt", laid_sculler_ptr_ptrsAt), ("sculler/ptr.sizeAt", laid_sculler_ptr_sizeAt), ("sculler/ptr.countAt", laid_sculler_ptr_countAt), ("sculler/ptr.doubleAt", laid_sculler_ptr_doubleAt), ("sculler/ptr.farOffAt", laid_sculler_ptr_farOffAt), ("sculler/ptr.segAt", laid_sculler_ptr_segAt)] }
def TreeBackSaid : Prop := treeBackRow.holds Tryd.pinned (OpenSpec.ofChange treeBackSpec)

/-- ITS FALSE NEIGHBOUR: 'it returns false'. Refute it at one input. -/
def treeBackWrong : ChangeSpec := { name := "treeBack", fn := fun _ => fun
  | [d1, d2] => { results := [.lit (.bool false)], args := [d1, d2] }
  | _ => none }
def TreeBackWrongFalsely : Prop := treeBackRow.holds Tryd.pinned (OpenSpec.ofChange treeBackWrong)

/-- 'scullerlaw10.TreeWalks': WHATEVER THE INPUT: true; the input reads as it did. -/
def treeWalksSpec : ChangeSpec := { name := "treeWalks", fn := fun _ => fun
  | [d1, d2, d3, d4, d5] => { results := [.lit (.bool true)], args := [d1, d2, d3, d4, d5] }
  | _ => none }
def treeWalksRow : OpenClaim := { program := "ytdfldfnjjjcleaadoor", sum := "72fa135467b5aba162d275f5237ec7d914ac2222e9d4c45ab025e14aa41e9de0", func := "sculler/scullerlaw10.TreeWalks", spec := "treeWalks", unfollowed := true, recurses := true, named := ["sculler/ptr.kindAt", "sculler/ptr.offAt", "sculler/ptr.dataAt", "sculler/ptr.ptrsAt", "sculler/ptr.sizeAt", "sculler/ptr.countAt", "sculler/ptr.doubleAt", "sculler/ptr.farOffAt", "sculler/ptr.segAt"], plainKeys := false, apart := false, laid := [("sculler/ptr.kindAt", laid_sculler_ptr_kindAt), ("sculler/ptr.offAt", laid_sculler_ptr_offAt), ("sculler/ptr.dataAt", laid_sculler_ptr_dataAt), ("sculler/ptr.ptrsAt", laid_sculler_ptr_ptrsAt), ("sculler/ptr.sizeAt", laid_sculler_ptr_sizeAt), ("sculler/ptr.countAt", laid_sculler_ptr_countAt), ("sculler/ptr.doubleAt", laid_sculler_ptr_doubleAt), ("sculler/ptr.farOffAt", laid_sculler_ptr_farOffAt), ("sculler/ptr.segAt", laid_sculler_ptr_segAt)] }
def TreeWalksSaid : Prop := treeWalksRow.holds Tryd.pinned (OpenSpec.ofChange treeWalksSpec)

/-- ITS FALSE NEIGHBOUR: 'it returns false'. Refute it at one input. -/
def treeWalksWrong : ChangeSpec := { name := "treeWalks", fn := fun _ => fun
  | [d1, d2, d3, d4, d5] => { results := [.lit (.bool false)], args := [d1, d2, d3, d4, d5] }
  | _ => none }
def TreeWalksWrongFalsely : Prop := treeWalksRow.holds Tryd.pinned (OpenSpec.ofChange treeWalksWrong)

/-- 'scullerlaw10.TreePaths': WHATEVER THE INPUT: true; the input reads as it did. -/
def treePathsSpec : ChangeSpec := { name := "treePaths", fn := fun _ => fun
  | [d1, d2, d3] => { results := [.lit (.bool true)], args := [d1, d2, d3] }
  | _ => none }
def treePathsRow : OpenClaim := { program := "ytdfldfnjjjcleaadoor", sum := "72fa135467b5aba162d275f5237ec7d914ac2222e9d4c45ab025e14aa41e9de0", func := "sculler/scullerlaw10.TreePaths", spec := "treePaths", unfollowed := true, recurses := true, named := ["sculler/ptr.kindAt", "sculler/ptr.offAt", "sculler/ptr.dataAt", "sculler/ptr.ptrsAt", "sculler/ptr.sizeAt", "sculler/ptr.countAt", "sculler/ptr.doubleAt", "sculler/ptr.farOffAt", "sculler/ptr.segAt"], plainKeys := false, apart := false, laid := [("sculler/ptr.kindAt", laid_sculler_ptr_kindAt), ("sculler/ptr.offAt", laid_sculler_ptr_offAt), ("sculler/ptr.dataAt", laid_sculler_ptr_dataAt), ("sculler/ptr.ptrsAt", laid_sculler_ptr_ptrsAt), ("sculler/ptr.sizeAt", laid_sculler_ptr_sizeAt), ("sculler/ptr.countAt", laid_sculler_ptr_countAt), ("sculler/ptr.doubleAt", laid_sculler_ptr_doubleAt), ("sculler/ptr.farOffAt", laid_sculler_ptr_farOffAt), ("sculler/ptr.segAt", laid_sculler_ptr_segAt)] }
def TreePathsSaid : Prop := treePathsRow.holds Tryd.pinned (OpenSpec.ofChange treePathsSpec)

/-- ITS FALSE NEIGHBOUR: 'it returns false'. Refute it at one input. -/
def treePathsWrong : ChangeSpec := { name := "treePaths", fn := fun _ => fun
  | [d1, d2, d3] => { results := [.lit (.bool false)], args := [d1, d2, d3] }
  | _ => none }
def TreePathsWrongFalsely : Prop := treePathsRow.holds Tryd.pinned (OpenSpec.ofChange treePathsWrong)

/-- 'scullerlaw10.TreeDeep': WHATEVER THE INPUT: true; the input reads as it did. -/
def treeDeepSpec : ChangeSpec := { name := "treeDeep", fn := fun _ => fun
  | [d] => { results := [.lit (.bool true)], args := [d] }
  | _ => none }
def treeDeepRow : OpenClaim := { program := "ytdfldfnjjjcleaadoor", sum := "72fa135467b5aba162d275f5237ec7d914ac2222e9d4c45ab025e14aa41e9de0", func := "sculler/scullerlaw10.TreeDeep", spec := "treeDeep", unfollowed := true, recurses := true, named := ["sculler/ptr.kindAt", "sculler/ptr.offAt", "sculler/ptr.dataAt", "sculler/ptr.ptrsAt", "sculler/ptr.sizeAt", "sculler/ptr.countAt", "sculler/ptr.doubleAt", "sculler/ptr.farOffAt", "sculler/ptr.segAt"], plainKeys := false, apart := false, laid := [("sculler/ptr.kindAt", laid_sculler_ptr_kindAt), ("sculler/ptr.offAt", laid_sculler_ptr_offAt), ("sculler/ptr.dataAt", laid_sculler_ptr_dataAt), ("sculler/ptr.ptrsAt", laid_sculler_ptr_ptrsAt), ("sculler/ptr.sizeAt", laid_sculler_ptr_sizeAt), ("sculler/ptr.countAt", laid_sculler_ptr_countAt), ("sculler/ptr.doubleAt", laid_sculler_ptr_doubleAt), ("sculler/ptr.farOffAt", laid_sculler_ptr_farOffAt), ("sculler/ptr.segAt", laid_sculler_ptr_segAt)] }
def TreeDeepSaid : Prop := treeDeepRow.holds Tryd.pinned (OpenSpec.ofChange treeDeepSpec)

/-- ITS FALSE NEIGHBOUR: 'it returns false'. Refute it at one input. -/
def treeDeepWrong : ChangeSpec := { name := "treeDeep", fn := fun _ => fun
  | [d] => { results := [.lit (.bool false)], args := [d] }
  | _ => none }
def TreeDeepWrongFalsely : Prop := treeDeepRow.holds Tryd.pinned (OpenSpec.ofChange treeDeepWrong)

/-- 'scullerlaw10.TreeNull': WHATEVER THE INPUT: true; the input reads as it did. -/
def treeNullSpec : ChangeSpec := { name := "treeNull", fn := fun _ => fun
  | [d1, d2, d3, d4] => { results := [.lit (.bool true)], args := [d1, d2, d3, d4] }
  | _ => none }
def treeNullRow : OpenClaim := { program := "ytdfldfnjjjcleaadoor", sum := "72fa135467b5aba162d275f5237ec7d914ac2222e9d4c45ab025e14aa41e9de0", func := "sculler/scullerlaw10.TreeNull", spec := "treeNull", unfollowed := true, recurses := true, named := ["sculler/ptr.kindAt", "sculler/ptr.offAt", "sculler/ptr.dataAt", "sculler/ptr.ptrsAt", "sculler/ptr.sizeAt", "sculler/ptr.countAt", "sculler/ptr.doubleAt", "sculler/ptr.farOffAt", "sculler/ptr.segAt"], plainKeys := false, apart := false, laid := [("sculler/ptr.kindAt", laid_sculler_ptr_kindAt), ("sculler/ptr.offAt", laid_sculler_ptr_offAt), ("sculler/ptr.dataAt", laid_sculler_ptr_dataAt), ("sculler/ptr.ptrsAt", laid_sculler_ptr_ptrsAt), ("sculler/ptr.sizeAt", laid_sculler_ptr_sizeAt), ("sculler/ptr.countAt", laid_sculler_ptr_countAt), ("sculler/ptr.doubleAt", laid_sculler_ptr_doubleAt), ("sculler/ptr.farOffAt", laid_sculler_ptr_farOffAt), ("sculler/ptr.segAt", laid_sculler_ptr_segAt)] }
def TreeNullSaid : Prop := treeNullRow.holds Tryd.pinned (OpenSpec.ofChange treeNullSpec)

/-- ITS FALSE NEIGHBOUR: 'it returns false'. Refute it at one input. -/
def treeNullWrong : ChangeSpec := { name := "treeNull", fn := fun _ => fun
  | [d1, d2, d3, d4] => { results := [.lit (.bool false)], args := [d1, d2, d3, d4] }
  | _ => none }
def TreeNullWrongFalsely : Prop := treeNullRow.holds Tryd.pinned (OpenSpec.ofChange treeNullWrong)

/- THE SECOND FORM. 'bulk': how many values and letters a reading holds, each counted each time it is reached (what is shared counts as often as it is met; a slice's spare places count too). A statement '..UptoSaid' is the law's where the arguments, and the package variables that the reading takes, are together of bulk at most 1048576: NARROWER than '..Said'. Prove '..Said' where nothing that the law and all that it calls make is longer than what came in: it says more and counts as full. Else prove '..UptoSaid'. A law counts once. -/
mutual
def uptoBulk {H : Type} : DataW H → Nat
  | .lit (.string bytes) => bytes.length + 1
  | .lit _ => 1
  | .nil => 1
  | .ptr d => uptoBulk d + 1
  | .slice elems spare => uptoBulkAll elems + uptoBulkAll spare + 1
  | .agg parts => uptoBulkAll parts + 1
  | .iface _ d => uptoBulk d + 1
  | .map entries => uptoBulkEntries entries + 1
  | .held _ => 1
def uptoBulkAll {H : Type} : List (DataW H) → Nat
  | [] => 0
  | d :: r => uptoBulk d + uptoBulkAll r
def uptoBulkEntries {H : Type} : List (Lit × DataW H) → Nat
  | [] => 0
  | x :: r => uptoBulkEntry x + uptoBulkEntries r
def uptoBulkEntry {H : Type} : Lit × DataW H → Nat
  | (.string bytes, d) => bytes.length + uptoBulk d + 1
  | (_, d) => uptoBulk d + 1
 end
def uptoSmall : (H : Type) → List (DataW H) → Bool := fun _ ds => decide (uptoBulkAll ds ≤ 1048576)
def OpenSpec.upto (s : _root_.Go.ChangeSpec) : _root_.Go.OpenSpec := { _root_.Go.OpenSpec.ofChange s with cond := some uptoSmall }

/-- 'scullerlaw10.TreeDecodes', WHERE WHAT IT READS IS OF BULK AT MOST 1048576: true; the input reads as it did. -/
def treeDecodesUptoRow : OpenClaim := { program := "ytdfldfnjjjcleaadoor", sum := "72fa135467b5aba162d275f5237ec7d914ac2222e9d4c45ab025e14aa41e9de0", func := "sculler/scullerlaw10.TreeDecodes", spec := "treeDecodes", unfollowed := true, recurses := true, named := ["sculler/ptr.kindAt", "sculler/ptr.offAt", "sculler/ptr.dataAt", "sculler/ptr.ptrsAt", "sculler/ptr.sizeAt", "sculler/ptr.countAt", "sculler/ptr.doubleAt", "sculler/ptr.farOffAt", "sculler/ptr.segAt"], plainKeys := false, apart := false, laid := [("sculler/ptr.kindAt", laid_sculler_ptr_kindAt), ("sculler/ptr.offAt", laid_sculler_ptr_offAt), ("sculler/ptr.dataAt", laid_sculler_ptr_dataAt), ("sculler/ptr.ptrsAt", laid_sculler_ptr_ptrsAt), ("sculler/ptr.sizeAt", laid_sculler_ptr_sizeAt), ("sculler/ptr.countAt", laid_sculler_ptr_countAt), ("sculler/ptr.doubleAt", laid_sculler_ptr_doubleAt), ("sculler/ptr.farOffAt", laid_sculler_ptr_farOffAt), ("sculler/ptr.segAt", laid_sculler_ptr_segAt)], narrowed := true }
def TreeDecodesUptoSaid : Prop := treeDecodesUptoRow.holds Tryd.pinned (OpenSpec.upto treeDecodesSpec)

/-- 'scullerlaw10.TreeAsks', WHERE WHAT IT READS IS OF BULK AT MOST 1048576: true; the input reads as it did. -/
def treeAsksUptoRow : OpenClaim := { program := "ytdfldfnjjjcleaadoor", sum := "72fa135467b5aba162d275f5237ec7d914ac2222e9d4c45ab025e14aa41e9de0", func := "sculler/scullerlaw10.TreeAsks", spec := "treeAsks", unfollowed := true, recurses := true, named := ["sculler/ptr.kindAt", "sculler/ptr.offAt", "sculler/ptr.dataAt", "sculler/ptr.ptrsAt", "sculler/ptr.sizeAt", "sculler/ptr.countAt", "sculler/ptr.doubleAt", "sculler/ptr.farOffAt", "sculler/ptr.segAt"], plainKeys := false, apart := false, laid := [("sculler/ptr.kindAt", laid_sculler_ptr_kindAt), ("sculler/ptr.offAt", laid_sculler_ptr_offAt), ("sculler/ptr.dataAt", laid_sculler_ptr_dataAt), ("sculler/ptr.ptrsAt", laid_sculler_ptr_ptrsAt), ("sculler/ptr.sizeAt", laid_sculler_ptr_sizeAt), ("sculler/ptr.countAt", laid_sculler_ptr_countAt), ("sculler/ptr.doubleAt", laid_sculler_ptr_doubleAt), ("sculler/ptr.farOffAt", laid_sculler_ptr_farOffAt), ("sculler/ptr.segAt", laid_sculler_ptr_segAt)], narrowed := true }
def TreeAsksUptoSaid : Prop := treeAsksUptoRow.holds Tryd.pinned (OpenSpec.upto treeAsksSpec)

/-- 'scullerlaw10.TreeBack', WHERE WHAT IT READS IS OF BULK AT MOST 1048576: true; the input reads as it did. -/
def treeBackUptoRow : OpenClaim := { program := "ytdfldfnjjjcleaadoor", sum := "72fa135467b5aba162d275f5237ec7d914ac2222e9d4c45ab025e14aa41e9de0", func := "sculler/scullerlaw10.TreeBack", spec := "treeBack", unfollowed := true, recurses := true, named := ["sculler/ptr.kindAt", "sculler/ptr.offAt", "sculler/ptr.dataAt", "sculler/ptr.ptrsAt", "sculler/ptr.sizeAt", "sculler/ptr.countAt", "sculler/ptr.doubleAt", "sculler/ptr.farOffAt", "sculler/ptr.segAt"], plainKeys := false, apart := false, laid := [("sculler/ptr.kindAt", laid_sculler_ptr_kindAt), ("sculler/ptr.offAt", laid_sculler_ptr_offAt), ("sculler/ptr.dataAt", laid_sculler_ptr_dataAt), ("sculler/ptr.ptrsAt", laid_sculler_ptr_ptrsAt), ("sculler/ptr.sizeAt", laid_sculler_ptr_sizeAt), ("sculler/ptr.countAt", laid_sculler_ptr_countAt), ("sculler/ptr.doubleAt", laid_sculler_ptr_doubleAt), ("sculler/ptr.farOffAt", laid_sculler_ptr_farOffAt), ("sculler/ptr.segAt", laid_sculler_ptr_segAt)], narrowed := true }
def TreeBackUptoSaid : Prop := treeBackUptoRow.holds Tryd.pinned (OpenSpec.upto treeBackSpec)

/-- 'scullerlaw10.TreeWalks', WHERE WHAT IT READS IS OF BULK AT MOST 1048576: true; the input reads as it did. -/
def treeWalksUptoRow : OpenClaim := { program := "ytdfldfnjjjcleaadoor", sum := "72fa135467b5aba162d275f5237ec7d914ac2222e9d4c45ab025e14aa41e9de0", func := "sculler/scullerlaw10.TreeWalks", spec := "treeWalks", unfollowed := true, recurses := true, named := ["sculler/ptr.kindAt", "sculler/ptr.offAt", "sculler/ptr.dataAt", "sculler/ptr.ptrsAt", "sculler/ptr.sizeAt", "sculler/ptr.countAt", "sculler/ptr.doubleAt", "sculler/ptr.farOffAt", "sculler/ptr.segAt"], plainKeys := false, apart := false, laid := [("sculler/ptr.kindAt", laid_sculler_ptr_kindAt), ("sculler/ptr.offAt", laid_sculler_ptr_offAt), ("sculler/ptr.dataAt", laid_sculler_ptr_dataAt), ("sculler/ptr.ptrsAt", laid_sculler_ptr_ptrsAt), ("sculler/ptr.sizeAt", laid_sculler_ptr_sizeAt), ("sculler/ptr.countAt", laid_sculler_ptr_countAt), ("sculler/ptr.doubleAt", laid_sculler_ptr_doubleAt), ("sculler/ptr.farOffAt", laid_sculler_ptr_farOffAt), ("sculler/ptr.segAt", laid_sculler_ptr_segAt)], narrowed := true }
def TreeWalksUptoSaid : Prop := treeWalksUptoRow.holds Tryd.pinned (OpenSpec.upto treeWalksSpec)

/-- 'scullerlaw10.TreePaths', WHERE WHAT IT READS IS OF BULK AT MOST 1048576: true; the input reads as it did. -/
def treePathsUptoRow : OpenClaim := { program := "ytdfldfnjjjcleaadoor", sum := "72fa135467b5aba162d275f5237ec7d914ac2222e9d4c45ab025e14aa41e9de0", func := "sculler/scullerlaw10.TreePaths", spec := "treePaths", unfollowed := true, recurses := true, named := ["sculler/ptr.kindAt", "sculler/ptr.offAt", "sculler/ptr.dataAt", "sculler/ptr.ptrsAt", "sculler/ptr.sizeAt", "sculler/ptr.countAt", "sculler/ptr.doubleAt", "sculler/ptr.farOffAt", "sculler/ptr.segAt"], plainKeys := false, apart := false, laid := [("sculler/ptr.kindAt", laid_sculler_ptr_kindAt), ("sculler/ptr.offAt", laid_sculler_ptr_offAt), ("sculler/ptr.dataAt", laid_sculler_ptr_dataAt), ("sculler/ptr.ptrsAt", laid_sculler_ptr_ptrsAt), ("sculler/ptr.sizeAt", laid_sculler_ptr_sizeAt), ("sculler/ptr.countAt", laid_sculler_ptr_countAt), ("sculler/ptr.doubleAt", laid_sculler_ptr_doubleAt), ("sculler/ptr.farOffAt", laid_sculler_ptr_farOffAt), ("sculler/ptr.segAt", laid_sculler_ptr_segAt)], narrowed := true }
def TreePathsUptoSaid : Prop := treePathsUptoRow.holds Tryd.pinned (OpenSpec.upto treePathsSpec)

/-- 'scullerlaw10.TreeDeep', WHERE WHAT IT READS IS OF BULK AT MOST 1048576: true; the input reads as it did. -/
def treeDeepUptoRow : OpenClaim := { program := "ytdfldfnjjjcleaadoor", sum := "72fa135467b5aba162d275f5237ec7d914ac2222e9d4c45ab025e14aa41e9de0", func := "sculler/scullerlaw10.TreeDeep", spec := "treeDeep", unfollowed := true, recurses := true, named := ["sculler/ptr.kindAt", "sculler/ptr.offAt", "sculler/ptr.dataAt", "sculler/ptr.ptrsAt", "sculler/ptr.sizeAt", "sculler/ptr.countAt", "sculler/ptr.doubleAt", "sculler/ptr.farOffAt", "sculler/ptr.segAt"], plainKeys := false, apart := false, laid := [("sculler/ptr.kindAt", laid_sculler_ptr_kindAt), ("sculler/ptr.offAt", laid_sculler_ptr_offAt), ("sculler/ptr.dataAt", laid_sculler_ptr_dataAt), ("sculler/ptr.ptrsAt", laid_sculler_ptr_ptrsAt), ("sculler/ptr.sizeAt", laid_sculler_ptr_sizeAt), ("sculler/ptr.countAt", laid_sculler_ptr_countAt), ("sculler/ptr.doubleAt", laid_sculler_ptr_doubleAt), ("sculler/ptr.farOffAt", laid_sculler_ptr_farOffAt), ("sculler/ptr.segAt", laid_sculler_ptr_segAt)], narrowed := true }
def TreeDeepUptoSaid : Prop := treeDeepUptoRow.holds Tryd.pinned (OpenSpec.upto treeDeepSpec)

/-- 'scullerlaw10.TreeNull', WHERE WHAT IT READS IS OF BULK AT MOST 1048576: true; the input reads as it did. -/
def treeNullUptoRow : OpenClaim := { program := "ytdfldfnjjjcleaadoor", sum := "72fa135467b5aba162d275f5237ec7d914ac2222e9d4c45ab025e14aa41e9de0", func := "sculler/scullerlaw10.TreeNull", spec := "treeNull", unfollowed := true, recurses := true, named := ["sculler/ptr.kindAt", "sculler/ptr.offAt", "sculler/ptr.dataAt", "sculler/ptr.ptrsAt", "sculler/ptr.sizeAt", "sculler/ptr.countAt", "sculler/ptr.doubleAt", "sculler/ptr.farOffAt", "sculler/ptr.segAt"], plainKeys := false, apart := false, laid := [("sculler/ptr.kindAt", laid_sculler_ptr_kindAt), ("sculler/ptr.offAt", laid_sculler_ptr_offAt), ("sculler/ptr.dataAt", laid_sculler_ptr_dataAt), ("sculler/ptr.ptrsAt", laid_sculler_ptr_ptrsAt), ("sculler/ptr.sizeAt", laid_sculler_ptr_sizeAt), ("sculler/ptr.countAt", laid_sculler_ptr_countAt), ("sculler/ptr.doubleAt", laid_sculler_ptr_doubleAt), ("sculler/ptr.farOffAt", laid_sculler_ptr_farOffAt), ("sculler/ptr.segAt", laid_sculler_ptr_segAt)], narrowed := true }
def TreeNullUptoSaid : Prop := treeNullUptoRow.holds Tryd.pinned (OpenSpec.upto treeNullSpec)

end Rows
end Go.Proofs.YtdfldfnjjjcleaaDoor
