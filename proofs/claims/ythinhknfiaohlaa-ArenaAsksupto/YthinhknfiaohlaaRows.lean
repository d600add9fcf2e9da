/-
  No cell of these rows narrows 'for every input' (looked for: loops, veiled, ifaces, maps, wideKeys, modest, calm, conditions, laid).
  DERIVED. THE GIVEN ROWS OF THIS SEAT. 7 by the template 'for every input the law returns true; each argument reads behind the call as it read before'; 0 by the template 'total and deterministic' (their statements: YthinhknfiaohlaaTotals.lean).
  GIVEN WITH THE SEED: the statements are not yours to turn. If you find one false, say at which input.
  Laid BY PROGRAM, IN A SANDBOX (cutbox-rows.mjs): the forced cells as the released guide's own fill.sh prints them over the translation db01e80f56333bc2… (all of the seat's roots in one cut). By AI agents, Wed Nov 11 2026. No macro, syntax, notation, axiom, sorry.
-/
import Derived.Test.YthinhknfiaohlaaChecked
import GoSem.Claim
import GoSem.ClaimJoined
import GoSem.ClaimMapViews
import Derived.JoinedTies
import Derived.KernelRfl
namespace Go.Proofs.Ythinhknfiaohlaa
/- THE CELL 'sum', in the pinned program and in every row, IS THE sha256 OF THE DUMP (.gsa) THAT YthinhknfiaohlaaProg.lean LOADS. Nothing in Lean hashes anything: it is a label: what it is worth is what the hold of that sum in a sandbox is worth. -/
noncomputable def Try.pinned : Pinned := { name := "ythinhknfiaohlaa", sum := "db01e80f56333bc2e3157c8311556221eb7982533e5f19a92ca8442a8164ea9b", checked := Try.checked }
namespace Rows
def none {H : Type} : Left H := { results := [], args := [] }

/-- 'scullerlaw07.ArenaAsks': WHATEVER THE INPUT: true; the input reads as it did. -/
def arenaAsksSpec : ChangeSpec := { name := "arenaAsks", fn := fun _ => fun
  | [d1, d2, d3, d4, d5, d6] => { results := [.lit (.bool true)], args := [d1, d2, d3, d4, d5, d6] }
  | _ => none }
def arenaAsksRow : OpenClaim := { program := "ythinhknfiaohlaa", sum := "db01e80f56333bc2e3157c8311556221eb7982533e5f19a92ca8442a8164ea9b", func := "sculler/scullerlaw07.ArenaAsks", spec := "arenaAsks", unfollowed := true, recurses := true, apart := false }
def ArenaAsksSaid : Prop := arenaAsksRow.holds Try.pinned (OpenSpec.ofChange arenaAsksSpec)

/-- ITS FALSE NEIGHBOUR: 'it returns false'. Refute it at one input. -/
def arenaAsksWrong : ChangeSpec := { name := "arenaAsks", fn := fun _ => fun
  | [d1, d2, d3, d4, d5, d6] => { results := [.lit (.bool false)], args := [d1, d2, d3, d4, d5, d6] }
  | _ => none }
def ArenaAsksWrongFalsely : Prop := arenaAsksRow.holds Try.pinned (OpenSpec.ofChange arenaAsksWrong)

/-- 'scullerlaw07.ArenaPlaces': WHATEVER THE INPUT: true; the input reads as it did. -/
def arenaPlacesSpec : ChangeSpec := { name := "arenaPlaces", fn := fun _ => fun
  | [d1, d2, d3, d4, d5, d6] => { results := [.lit (.bool true)], args := [d1, d2, d3, d4, d5, d6] }
  | _ => none }
def arenaPlacesRow : OpenClaim := { program := "ythinhknfiaohlaa", sum := "db01e80f56333bc2e3157c8311556221eb7982533e5f19a92ca8442a8164ea9b", func := "sculler/scullerlaw07.ArenaPlaces", spec := "arenaPlaces", unfollowed := true, recurses := true, apart := false }
def ArenaPlacesSaid : Prop := arenaPlacesRow.holds Try.pinned (OpenSpec.ofChange arenaPlacesSpec)

/-- ITS FALSE NEIGHBOUR: 'it returns false'. Refute it at one input. -/
def arenaPlacesWrong : ChangeSpec := { name := "arenaPlaces", fn := fun _ => fun
  | [d1, d2, d3, d4, d5, d6] => { results := [.lit (.bool false)], args := [d1, d2, d3, d4, d5, d6] }
  | _ => none }
def ArenaPlacesWrongFalsely : Prop := arenaPlacesRow.holds Try.pinned (OpenSpec.ofChange arenaPlacesWrong)

/-- 'scullerlaw07.ArenaCuts': WHATEVER THE INPUT: true; the input reads as it did. -/
def arenaCutsSpec : ChangeSpec := { name := "arenaCuts", fn := fun _ => fun
  | [d1, d2, d3, d4] => { results := [.lit (.bool true)], args := [d1, d2, d3, d4] }
  | _ => none }
def arenaCutsRow : OpenClaim := { program := "ythinhknfiaohlaa", sum := "db01e80f56333bc2e3157c8311556221eb7982533e5f19a92ca8442a8164ea9b", func := "sculler/scullerlaw07.ArenaCuts", spec := "arenaCuts", unfollowed := true, recurses := true, apart := false }
def ArenaCutsSaid : Prop := arenaCutsRow.holds Try.pinned (OpenSpec.ofChange arenaCutsSpec)

/-- ITS FALSE NEIGHBOUR: 'it returns false'. Refute it at one input. -/
def arenaCutsWrong : ChangeSpec := { name := "arenaCuts", fn := fun _ => fun
  | [d1, d2, d3, d4] => { results := [.lit (.bool false)], args := [d1, d2, d3, d4] }
  | _ => none }
def ArenaCutsWrongFalsely : Prop := arenaCutsRow.holds Try.pinned (OpenSpec.ofChange arenaCutsWrong)

/-- 'scullerlaw07.ArenaBack': WHATEVER THE INPUT: true; the input reads as it did. -/
def arenaBackSpec : ChangeSpec := { name := "arenaBack", fn := fun _ => fun
  | [d1, d2, d3, d4] => { results := [.lit (.bool true)], args := [d1, d2, d3, d4] }
  | _ => none }
def arenaBackRow : OpenClaim := { program := "ythinhknfiaohlaa", sum := "db01e80f56333bc2e3157c8311556221eb7982533e5f19a92ca8442a8164ea9b", func := "sculler/scullerlaw07.ArenaBack", spec := "arenaBack", unfollowed := true, recurses := true, apart := false }
def ArenaBackSaid : Prop := arenaBackRow.holds Try.pinned (OpenSpec.ofChange arenaBackSpec)

/-- ITS FALSE NEIGHBOUR: 'it returns false'. Refute it at one input. -/
def arenaBackWrong : ChangeSpec := { name := "arenaBack", fn := fun _ => fun
  | [d1, d2, d3, d4] => { results := [.lit (.bool false)], args := [d1, d2, d3, d4] }
  | _ => none }
def ArenaBackWrongFalsely : Prop := arenaBackRow.holds Try.pinned (OpenSpec.ofChange arenaBackWrong)

/-- 'scullerlaw07.ArenaWithin': WHATEVER THE INPUT: true; the input reads as it did. -/
def arenaWithinSpec : ChangeSpec := { name := "arenaWithin", fn := fun _ => fun
  | [d1, d2, d3, d4, d5] => { results := [.lit (.bool true)], args := [d1, d2, d3, d4, d5] }
  | _ => none }
def arenaWithinRow : OpenClaim := { program := "ythinhknfiaohlaa", sum := "db01e80f56333bc2e3157c8311556221eb7982533e5f19a92ca8442a8164ea9b", func := "sculler/scullerlaw07.ArenaWithin", spec := "arenaWithin", unfollowed := true, recurses := true, apart := false }
def ArenaWithinSaid : Prop := arenaWithinRow.holds Try.pinned (OpenSpec.ofChange arenaWithinSpec)

/-- ITS FALSE NEIGHBOUR: 'it returns false'. Refute it at one input. -/
def arenaWithinWrong : ChangeSpec := { name := "arenaWithin", fn := fun _ => fun
  | [d1, d2, d3, d4, d5] => { results := [.lit (.bool false)], args := [d1, d2, d3, d4, d5] }
  | _ => none }
def ArenaWithinWrongFalsely : Prop := arenaWithinRow.holds Try.pinned (OpenSpec.ofChange arenaWithinWrong)

/-- 'scullerlaw07.ArenaSpoil': WHATEVER THE INPUT: true; the input reads as it did. -/
def arenaSpoilSpec : ChangeSpec := { name := "arenaSpoil", fn := fun _ => fun
  | [d1, d2] => { results := [.lit (.bool true)], args := [d1, d2] }
  | _ => none }
def arenaSpoilRow : OpenClaim := { program := "ythinhknfiaohlaa", sum := "db01e80f56333bc2e3157c8311556221eb7982533e5f19a92ca8442a8164ea9b", func := "sculler/scullerlaw07.ArenaSpoil", spec := "arenaSpoil", unfollowed := true, recurses := true, apart := false }
def ArenaSpoilSaid : Prop := arenaSpoilRow.holds Try.pinned (OpenSpec.ofChange arenaSpoilSpec)

/-- ITS FALSE NEIGHBOUR: 'it returns false'. Refute it at one input. -/
def arenaSpoilWrong : ChangeSpec := { name := "arenaSpoil", fn := fun _ => fun
  | [d1, d2] => { results := [.lit (.bool false)], args := [d1, d2] }
  | _ => none }
def ArenaSpoilWrongFalsely : Prop := arenaSpoilRow.holds Try.pinned (OpenSpec.ofChange arenaSpoilWrong)

/-- 'scullerlaw07.ArenaMost': WHATEVER THE INPUT: true; the input reads as it did. -/
def arenaMostSpec : ChangeSpec := { name := "arenaMost", fn := fun _ => fun
  | [d1, d2] => { results := [.lit (.bool true)], args := [d1, d2] }
  | _ => none }
def arenaMostRow : OpenClaim := { program := "ythinhknfiaohlaa", sum := "db01e80f56333bc2e3157c8311556221eb7982533e5f19a92ca8442a8164ea9b", func := "sculler/scullerlaw07.ArenaMost", spec := "arenaMost", unfollowed := true, recurses := true, apart := false }
def ArenaMostSaid : Prop := arenaMostRow.holds Try.pinned (OpenSpec.ofChange arenaMostSpec)

/-- ITS FALSE NEIGHBOUR: 'it returns false'. Refute it at one input. -/
def arenaMostWrong : ChangeSpec := { name := "arenaMost", fn := fun _ => fun
  | [d1, d2] => { results := [.lit (.bool false)], args := [d1, d2] }
  | _ => none }
def ArenaMostWrongFalsely : Prop := arenaMostRow.holds Try.pinned (OpenSpec.ofChange arenaMostWrong)

/- THE SECOND FORM. 'bulk': how many values and letters a reading holds, each counted each time it is reached (what is shared counts as often as it is met; a slice's spare places count too). A statement '..UptoSaid' is the law's where the arguments, and the package variables that the reading takes, are together of bulk at most 1048576: NARROWER than '..Said'. Prove '..Said' where nothing that the law and all that it calls make is longer than what came in: it says more and counts as full. Else prove '..UptoSaid'. A law counts once. -/
mutual
def uptoBulk {H : Type} : DataW H → Nat
  | .lit (.string bytes) => bytes.length + 1
  | .lit _ => 1
  | .nil => 1
  | .ptr d => uptoBulk d + 1
  | .slice elems spare => uptoBulkAll elems + uptoBulkAll spare + 1
  | .agg parts => uptoBulkAll parts + 1
  | .iface _ d => uptoBulk d + 1
  | .map entries => uptoBulkEntries entries + 1
  | .held _ => 1
def uptoBulkAll {H : Type} : List (DataW H) → Nat
  | [] => 0
  | d :: r => uptoBulk d + uptoBulkAll r
def uptoBulkEntries {H : Type} : List (Lit × DataW H) → Nat
  | [] => 0
  | x :: r => uptoBulkEntry x + uptoBulkEntries r
def uptoBulkEntry {H : Type} : Lit × DataW H → Nat
  | (.string bytes, d) => bytes.length + uptoBulk d + 1
  | (_, d) => uptoBulk d + 1
 end
def uptoSmall : (H : Type) → List (DataW H) → Bool := fun _ ds => decide (uptoBulkAll ds ≤ 1048576)
def OpenSpec.upto (s : _root_.Go.ChangeSpec) : _root_.Go.OpenSpec := { _root_.Go.OpenSpec.ofChange s with cond := some uptoSmall }

/-- 'scullerlaw07.ArenaAsks', WHERE WHAT IT READS IS OF BULK AT MOST 1048576: true; the input reads as it did. -/
def arenaAsksUptoRow : OpenClaim := { program := "ythinhknfiaohlaa", sum := "db01e80f56333bc2e3157c8311556221eb7982533e5f19a92ca8442a8164ea9b", func := "sculler/scullerlaw07.ArenaAsks", spec := "arenaAsks", unfollowed := true, recurses := true, apart := false, narrowed := true }
def ArenaAsksUptoSaid : Prop := arenaAsksUptoRow.holds Try.pinned (OpenSpec.upto arenaAsksSpec)

/-- 'scullerlaw07.ArenaPlaces', WHERE WHAT IT READS IS OF BULK AT MOST 1048576: true; the input reads as it did. -/
def arenaPlacesUptoRow : OpenClaim := { program := "ythinhknfiaohlaa", sum := "db01e80f56333bc2e3157c8311556221eb7982533e5f19a92ca8442a8164ea9b", func := "sculler/scullerlaw07.ArenaPlaces", spec := "arenaPlaces", unfollowed := true, recurses := true, apart := false, narrowed := true }
def ArenaPlacesUptoSaid : Prop := arenaPlacesUptoRow.holds Try.pinned (OpenSpec.upto arenaPlacesSpec)

/-- 'scullerlaw07.ArenaCuts', WHERE WHAT IT READS IS OF BULK AT MOST 1048576: true; the input reads as it did. -/
def arenaCutsUptoRow : OpenClaim := { program := "ythinhknfiaohlaa", sum := "db01e80f56333bc2e3157c8311556221eb7982533e5f19a92ca8442a8164ea9b", func := "sculler/scullerlaw07.ArenaCuts", spec := "arenaCuts", unfollowed := true, recurses := true, apart := false, narrowed := true }
def ArenaCutsUptoSaid : Prop := arenaCutsUptoRow.holds Try.pinned (OpenSpec.upto arenaCutsSpec)

/-- 'scullerlaw07.ArenaBack', WHERE WHAT IT READS IS OF BULK AT MOST 1048576: true; the input reads as it did. -/
def arenaBackUptoRow : OpenClaim := { program := "ythinhknfiaohlaa", sum := "db01e80f56333bc2e3157c8311556221eb7982533e5f19a92ca8442a8164ea9b", func := "sculler/scullerlaw07.ArenaBack", spec := "arenaBack", unfollowed := true, recurses := true, apart := false, narrowed := true }
def ArenaBackUptoSaid : Prop := arenaBackUptoRow.holds Try.pinned (OpenSpec.upto arenaBackSpec)

/-- 'scullerlaw07.ArenaWithin', WHERE WHAT IT READS IS OF BULK AT MOST 1048576: true; the input reads as it did. -/
def arenaWithinUptoRow : OpenClaim := { program := "ythinhknfiaohlaa", sum := "db01e80f56333bc2e3157c8311556221eb7982533e5f19a92ca8442a8164ea9b", func := "sculler/scullerlaw07.ArenaWithin", spec := "arenaWithin", unfollowed := true, recurses := true, apart := false, narrowed := true }
def ArenaWithinUptoSaid : Prop := arenaWithinUptoRow.holds Try.pinned (OpenSpec.upto arenaWithinSpec)

/-- 'scullerlaw07.ArenaSpoil', WHERE WHAT IT READS IS OF BULK AT MOST 1048576: true; the input reads as it did. -/
def arenaSpoilUptoRow : OpenClaim := { program := "ythinhknfiaohlaa", sum := "db01e80f56333bc2e3157c8311556221eb7982533e5f19a92ca8442a8164ea9b", func := "sculler/scullerlaw07.ArenaSpoil", spec := "arenaSpoil", unfollowed := true, recurses := true, apart := false, narrowed := true }
def ArenaSpoilUptoSaid : Prop := arenaSpoilUptoRow.holds Try.pinned (OpenSpec.upto arenaSpoilSpec)

/-- 'scullerlaw07.ArenaMost', WHERE WHAT IT READS IS OF BULK AT MOST 1048576: true; the input reads as it did. -/
def arenaMostUptoRow : OpenClaim := { program := "ythinhknfiaohlaa", sum := "db01e80f56333bc2e3157c8311556221eb7982533e5f19a92ca8442a8164ea9b", func := "sculler/scullerlaw07.ArenaMost", spec := "arenaMost", unfollowed := true, recurses := true, apart := false, narrowed := true }
def ArenaMostUptoSaid : Prop := arenaMostUptoRow.holds Try.pinned (OpenSpec.upto arenaMostSpec)

end Rows
end Go.Proofs.Ythinhknfiaohlaa
