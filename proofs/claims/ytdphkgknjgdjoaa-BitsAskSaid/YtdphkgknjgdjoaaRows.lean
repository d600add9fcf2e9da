/-
  No cell of these rows narrows 'for every input' (looked for: loops, veiled, ifaces, maps, wideKeys, modest, calm, conditions, laid).
  DERIVED. THE GIVEN ROWS OF THIS SEAT. 7 by the template 'for every input the law returns true; each argument reads behind the call as it read before'; 0 by the template 'total and deterministic' (their statements: YtdphkgknjgdjoaaTotals.lean).
  GIVEN WITH THE SEED: the statements are not yours to turn. If you find one false, say at which input.
  Laid BY PROGRAM, IN A SANDBOX (cutbox-rows.mjs): the forced cells as the released guide's own fill.sh prints them over the translation c52c686af8fc3799… (all of the seat's roots in one cut). By AI agents, Wed Nov 11 2026. No macro, syntax, notation, axiom, sorry.
-/
import Derived.Test.YtdphkgknjgdjoaaChecked
import GoSem.Claim
import GoSem.ClaimJoined
import GoSem.ClaimMapViews
import Derived.JoinedTies
import Derived.KernelRfl
namespace Go.Proofs.Ytdphkgknjgdjoaa
/- THE CELL 'sum', in the pinned program and in every row, IS THE sha256 OF THE DUMP (.gsa) THAT YtdphkgknjgdjoaaProg.lean LOADS. Nothing in Lean hashes anything: it is a label: what it is worth is what the hold of that sum in a sandbox is worth. -/
noncomputable def Try.pinned : Pinned := { name := "ytdphkgknjgdjoaa", sum := "c52c686af8fc3799326369aa47523d1a278dc3df5bb78490ace307e9d29375e9", checked := Try.checked }
namespace Rows
def none {H : Type} : Left H := { results := [], args := [] }

/-- 'scullerlaw03.BitsAsk': WHATEVER THE INPUT: true; the input reads as it did. -/
def bitsAskSpec : ChangeSpec := { name := "bitsAsk", fn := fun _ => fun
  | [d1, d2, d3, d4] => { results := [.lit (.bool true)], args := [d1, d2, d3, d4] }
  | _ => none }
def bitsAskRow : OpenClaim := { program := "ytdphkgknjgdjoaa", sum := "c52c686af8fc3799326369aa47523d1a278dc3df5bb78490ace307e9d29375e9", func := "sculler/scullerlaw03.BitsAsk", spec := "bitsAsk", unfollowed := true, recurses := true, apart := false }
def BitsAskSaid : Prop := bitsAskRow.holds Try.pinned (OpenSpec.ofChange bitsAskSpec)

/-- ITS FALSE NEIGHBOUR: 'it returns false'. Refute it at one input. -/
def bitsAskWrong : ChangeSpec := { name := "bitsAsk", fn := fun _ => fun
  | [d1, d2, d3, d4] => { results := [.lit (.bool false)], args := [d1, d2, d3, d4] }
  | _ => none }
def BitsAskWrongFalsely : Prop := bitsAskRow.holds Try.pinned (OpenSpec.ofChange bitsAskWrong)

/-- 'scullerlaw03.BitsJoin': WHATEVER THE INPUT: true; the input reads as it did. -/
def bitsJoinSpec : ChangeSpec := { name := "bitsJoin", fn := fun _ => fun
  | [d1, d2] => { results := [.lit (.bool true)], args := [d1, d2] }
  | _ => none }
def bitsJoinRow : OpenClaim := { program := "ytdphkgknjgdjoaa", sum := "c52c686af8fc3799326369aa47523d1a278dc3df5bb78490ace307e9d29375e9", func := "sculler/scullerlaw03.BitsJoin", spec := "bitsJoin", unfollowed := true, recurses := true, apart := false }
def BitsJoinSaid : Prop := bitsJoinRow.holds Try.pinned (OpenSpec.ofChange bitsJoinSpec)

/-- ITS FALSE NEIGHBOUR: 'it returns false'. Refute it at one input. -/
def bitsJoinWrong : ChangeSpec := { name := "bitsJoin", fn := fun _ => fun
  | [d1, d2] => { results := [.lit (.bool false)], args := [d1, d2] }
  | _ => none }
def BitsJoinWrongFalsely : Prop := bitsJoinRow.holds Try.pinned (OpenSpec.ofChange bitsJoinWrong)

/-- 'scullerlaw03.BitsSets': WHATEVER THE INPUT: true; the input reads as it did. -/
def bitsSetsSpec : ChangeSpec := { name := "bitsSets", fn := fun _ => fun
  | [d1, d2] => { results := [.lit (.bool true)], args := [d1, d2] }
  | _ => none }
def bitsSetsRow : OpenClaim := { program := "ytdphkgknjgdjoaa", sum := "c52c686af8fc3799326369aa47523d1a278dc3df5bb78490ace307e9d29375e9", func := "sculler/scullerlaw03.BitsSets", spec := "bitsSets", unfollowed := true, recurses := true, apart := false }
def BitsSetsSaid : Prop := bitsSetsRow.holds Try.pinned (OpenSpec.ofChange bitsSetsSpec)

/-- ITS FALSE NEIGHBOUR: 'it returns false'. Refute it at one input. -/
def bitsSetsWrong : ChangeSpec := { name := "bitsSets", fn := fun _ => fun
  | [d1, d2] => { results := [.lit (.bool false)], args := [d1, d2] }
  | _ => none }
def BitsSetsWrongFalsely : Prop := bitsSetsRow.holds Try.pinned (OpenSpec.ofChange bitsSetsWrong)

/-- 'scullerlaw03.BitsLess': WHATEVER THE INPUT: true; the input reads as it did. -/
def bitsLessSpec : ChangeSpec := { name := "bitsLess", fn := fun _ => fun
  | [d1, d2] => { results := [.lit (.bool true)], args := [d1, d2] }
  | _ => none }
def bitsLessRow : OpenClaim := { program := "ytdphkgknjgdjoaa", sum := "c52c686af8fc3799326369aa47523d1a278dc3df5bb78490ace307e9d29375e9", func := "sculler/scullerlaw03.BitsLess", spec := "bitsLess", unfollowed := true, recurses := true, apart := false }
def BitsLessSaid : Prop := bitsLessRow.holds Try.pinned (OpenSpec.ofChange bitsLessSpec)

/-- ITS FALSE NEIGHBOUR: 'it returns false'. Refute it at one input. -/
def bitsLessWrong : ChangeSpec := { name := "bitsLess", fn := fun _ => fun
  | [d1, d2] => { results := [.lit (.bool false)], args := [d1, d2] }
  | _ => none }
def BitsLessWrongFalsely : Prop := bitsLessRow.holds Try.pinned (OpenSpec.ofChange bitsLessWrong)

/-- 'scullerlaw03.BitsSpoil': WHATEVER THE INPUT: true; the input reads as it did. -/
def bitsSpoilSpec : ChangeSpec := { name := "bitsSpoil", fn := fun _ => fun
  | [d1, d2] => { results := [.lit (.bool true)], args := [d1, d2] }
  | _ => none }
def bitsSpoilRow : OpenClaim := { program := "ytdphkgknjgdjoaa", sum := "c52c686af8fc3799326369aa47523d1a278dc3df5bb78490ace307e9d29375e9", func := "sculler/scullerlaw03.BitsSpoil", spec := "bitsSpoil", unfollowed := true, recurses := true, apart := false }
def BitsSpoilSaid : Prop := bitsSpoilRow.holds Try.pinned (OpenSpec.ofChange bitsSpoilSpec)

/-- ITS FALSE NEIGHBOUR: 'it returns false'. Refute it at one input. -/
def bitsSpoilWrong : ChangeSpec := { name := "bitsSpoil", fn := fun _ => fun
  | [d1, d2] => { results := [.lit (.bool false)], args := [d1, d2] }
  | _ => none }
def BitsSpoilWrongFalsely : Prop := bitsSpoilRow.holds Try.pinned (OpenSpec.ofChange bitsSpoilWrong)

/-- 'scullerlaw03.BitsFirst': WHATEVER THE INPUT: true; the input reads as it did. -/
def bitsFirstSpec : ChangeSpec := { name := "bitsFirst", fn := fun _ => fun
  | [d1, d2] => { results := [.lit (.bool true)], args := [d1, d2] }
  | _ => none }
def bitsFirstRow : OpenClaim := { program := "ytdphkgknjgdjoaa", sum := "c52c686af8fc3799326369aa47523d1a278dc3df5bb78490ace307e9d29375e9", func := "sculler/scullerlaw03.BitsFirst", spec := "bitsFirst", unfollowed := true, recurses := true, apart := false }
def BitsFirstSaid : Prop := bitsFirstRow.holds Try.pinned (OpenSpec.ofChange bitsFirstSpec)

/-- ITS FALSE NEIGHBOUR: 'it returns false'. Refute it at one input. -/
def bitsFirstWrong : ChangeSpec := { name := "bitsFirst", fn := fun _ => fun
  | [d1, d2] => { results := [.lit (.bool false)], args := [d1, d2] }
  | _ => none }
def BitsFirstWrongFalsely : Prop := bitsFirstRow.holds Try.pinned (OpenSpec.ofChange bitsFirstWrong)

/-- 'scullerlaw03.BitsEnds': WHATEVER THE INPUT: true; the input reads as it did. -/
def bitsEndsSpec : ChangeSpec := { name := "bitsEnds", fn := fun _ => fun
  | [d1, d2] => { results := [.lit (.bool true)], args := [d1, d2] }
  | _ => none }
def bitsEndsRow : OpenClaim := { program := "ytdphkgknjgdjoaa", sum := "c52c686af8fc3799326369aa47523d1a278dc3df5bb78490ace307e9d29375e9", func := "sculler/scullerlaw03.BitsEnds", spec := "bitsEnds", unfollowed := true, recurses := true, apart := false }
def BitsEndsSaid : Prop := bitsEndsRow.holds Try.pinned (OpenSpec.ofChange bitsEndsSpec)

/-- ITS FALSE NEIGHBOUR: 'it returns false'. Refute it at one input. -/
def bitsEndsWrong : ChangeSpec := { name := "bitsEnds", fn := fun _ => fun
  | [d1, d2] => { results := [.lit (.bool false)], args := [d1, d2] }
  | _ => none }
def BitsEndsWrongFalsely : Prop := bitsEndsRow.holds Try.pinned (OpenSpec.ofChange bitsEndsWrong)

/- THE SECOND FORM. 'bulk': how many values and letters a reading holds, each counted each time it is reached (what is shared counts as often as it is met; a slice's spare places count too). A statement '..UptoSaid' is the law's where the arguments, and the package variables that the reading takes, are together of bulk at most 1048576: NARROWER than '..Said'. Prove '..Said' where nothing that the law and all that it calls make is longer than what came in: it says more and counts as full. Else prove '..UptoSaid'. A law counts once. -/
mutual
def uptoBulk {H : Type} : DataW H → Nat
  | .lit (.string bytes) => bytes.length + 1
  | .lit _ => 1
  | .nil => 1
  | .ptr d => uptoBulk d + 1
  | .slice elems spare => uptoBulkAll elems + uptoBulkAll spare + 1
  | .agg parts => uptoBulkAll parts + 1
  | .iface _ d => uptoBulk d + 1
  | .map entries => uptoBulkEntries entries + 1
  | .held _ => 1
def uptoBulkAll {H : Type} : List (DataW H) → Nat
  | [] => 0
  | d :: r => uptoBulk d + uptoBulkAll r
def uptoBulkEntries {H : Type} : List (Lit × DataW H) → Nat
  | [] => 0
  | x :: r => uptoBulkEntry x + uptoBulkEntries r
def uptoBulkEntry {H : Type} : Lit × DataW H → Nat
  | (.string bytes, d) => bytes.length + uptoBulk d + 1
  | (_, d) => uptoBulk d + 1
 end
def uptoSmall : (H : Type) → List (DataW H) → Bool := fun _ ds => decide (uptoBulkAll ds ≤ 1048576)
def OpenSpec.upto (s : _root_.Go.ChangeSpec) : _root_.Go.OpenSpec := { _root_.Go.OpenSpec.ofChange s with cond := some uptoSmall }

/-- 'scullerlaw03.BitsAsk', WHERE WHAT IT READS IS OF BULK AT MOST 1048576: true; the input reads as it did. -/
def bitsAskUptoRow : OpenClaim := { program := "ytdphkgknjgdjoaa", sum := "c52c686af8fc3799326369aa47523d1a278dc3df5bb78490ace307e9d29375e9", func := "sculler/scullerlaw03.BitsAsk", spec := "bitsAsk", unfollowed := true, recurses := true, apart := false, narrowed := true }
def BitsAskUptoSaid : Prop := bitsAskUptoRow.holds Try.pinned (OpenSpec.upto bitsAskSpec)

/-- 'scullerlaw03.BitsJoin', WHERE WHAT IT READS IS OF BULK AT MOST 1048576: true; the input reads as it did. -/
def bitsJoinUptoRow : OpenClaim := { program := "ytdphkgknjgdjoaa", sum := "c52c686af8fc3799326369aa47523d1a278dc3df5bb78490ace307e9d29375e9", func := "sculler/scullerlaw03.BitsJoin", spec := "bitsJoin", unfollowed := true, recurses := true, apart := false, narrowed := true }
def BitsJoinUptoSaid : Prop := bitsJoinUptoRow.holds Try.pinned (OpenSpec.upto bitsJoinSpec)

/-- 'scullerlaw03.BitsSets', WHERE WHAT IT READS IS OF BULK AT MOST 1048576: true; the input reads as it did. -/
def bitsSetsUptoRow : OpenClaim := { program := "ytdphkgknjgdjoaa", sum := "c52c686af8fc3799326369aa47523d1a278dc3df5bb78490ace307e9d29375e9", func := "sculler/scullerlaw03.BitsSets", spec := "bitsSets", unfollowed := true, recurses := true, apart := false, narrowed := true }
def BitsSetsUptoSaid : Prop := bitsSetsUptoRow.holds Try.pinned (OpenSpec.upto bitsSetsSpec)

/-- 'scullerlaw03.BitsLess', WHERE WHAT IT READS IS OF BULK AT MOST 1048576: true; the input reads as it did. -/
def bitsLessUptoRow : OpenClaim := { program := "ytdphkgknjgdjoaa", sum := "c52c686af8fc3799326369aa47523d1a278dc3df5bb78490ace307e9d29375e9", func := "sculler/scullerlaw03.BitsLess", spec := "bitsLess", unfollowed := true, recurses := true, apart := false, narrowed := true }
def BitsLessUptoSaid : Prop := bitsLessUptoRow.holds Try.pinned (OpenSpec.upto bitsLessSpec)

/-- 'scullerlaw03.BitsSpoil', WHERE WHAT IT READS IS OF BULK AT MOST 1048576: true; the input reads as it did. -/
def bitsSpoilUptoRow : OpenClaim := { program := "ytdphkgknjgdjoaa", sum := "c52c686af8fc3799326369aa47523d1a278dc3df5bb78490ace307e9d29375e9", func := "sculler/scullerlaw03.BitsSpoil", spec := "bitsSpoil", unfollowed := true, recurses := true, apart := false, narrowed := true }
def BitsSpoilUptoSaid : Prop := bitsSpoilUptoRow.holds Try.pinned (OpenSpec.upto bitsSpoilSpec)

/-- 'scullerlaw03.BitsFirst', WHERE WHAT IT READS IS OF BULK AT MOST 1048576: true; the input reads as it did. -/
def bitsFirstUptoRow : OpenClaim := { program := "ytdphkgknjgdjoaa", sum := "c52c686af8fc3799326369aa47523d1a278dc3df5bb78490ace307e9d29375e9", func := "sculler/scullerlaw03.BitsFirst", spec := "bitsFirst", unfollowed := true, recurses := true, apart := false, narrowed := true }
def BitsFirstUptoSaid : Prop := bitsFirstUptoRow.holds Try.pinned (OpenSpec.upto bitsFirstSpec)

/-- 'scullerlaw03.BitsEnds', WHERE WHAT IT READS IS OF BULK AT MOST 1048576: true; the input reads as it did. -/
def bitsEndsUptoRow : OpenClaim := { program := "ytdphkgknjgdjoaa", sum := "c52c686af8fc3799326369aa47523d1a278dc3df5bb78490ace307e9d29375e9", func := "sculler/scullerlaw03.BitsEnds", spec := "bitsEnds", unfollowed := true, recurses := true, apart := false, narrowed := true }
def BitsEndsUptoSaid : Prop := bitsEndsUptoRow.holds Try.pinned (OpenSpec.upto bitsEndsSpec)

end Rows
end Go.Proofs.Ytdphkgknjgdjoaa
