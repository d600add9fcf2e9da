/-
  DERIVED. GIVEN WITH THE SEED: THE CARDS: each row of YtofpjcmcpejnfaaDoorRows.lean that lists a variable, with what it lists TIED to the program's text (the seventh form; the later family's looks); each row that meets fmt, with fmt's text TOLD by the authors' own Lean function (tested against real Go, not proved from fmt's source: count such statements apart). THE CARD IS WHAT COUNTS. Prove the row's statement (the work); the ties are given (YtofpjcmcpejnfaaDoorTie.lean); close each card by the builder's one call (the guide's Derived/Test/ToyasCard.lean, 'card_holds'). Laid BY PROGRAM, IN A SANDBOX (cutbox-door.mjs). By AI agents, Wed Nov 11 2026. No macro, syntax, notation, axiom, sorry.
-/
import Derived.Test.YtofpjcmcpejnfaaDoorRows
import GoSem.ClaimSeven
namespace Go.Proofs.YtofpjcmcpejnfaaDoor
namespace Rows

/-- THE TIED CARD OF 'scullerlaw08.BuildLays'. -/
def buildLaysCard : Claim7 := { stood := { row := buildLaysRow, standIns := [], harness := (true, "f15452b1abf2956500ffb065b2938f65cab1eccddd82e7eb9f3d7d3e19f28f51"), looks := false }, kinds := [], alts := [], laidByText := true, laidKinds := [.wider, .wider, .wider, .wider, .wider, .wider, .wider, .wider, .wider], laidTests := true, laidLooks := .later }
def BuildLaysCardSaid : Prop := Claim7.holds Tryd.pinned (.plain (OpenSpec.ofChange buildLaysSpec)) buildLaysCard

/-- THE TIED CARD OF 'scullerlaw08.BuildSizes'. -/
def buildSizesCard : Claim7 := { stood := { row := buildSizesRow, standIns := [], harness := (true, "f15452b1abf2956500ffb065b2938f65cab1eccddd82e7eb9f3d7d3e19f28f51"), looks := false }, kinds := [], alts := [], laidByText := true, laidKinds := [.wider, .wider, .wider, .wider, .wider, .wider, .wider, .wider, .wider], laidTests := true, laidLooks := .later }
def BuildSizesCardSaid : Prop := Claim7.holds Tryd.pinned (.plain (OpenSpec.ofChange buildSizesSpec)) buildSizesCard

/-- THE TIED CARD OF 'scullerlaw08.BuildDeep'. -/
def buildDeepCard : Claim7 := { stood := { row := buildDeepRow, standIns := [], harness := (true, "f15452b1abf2956500ffb065b2938f65cab1eccddd82e7eb9f3d7d3e19f28f51"), looks := false }, kinds := [], alts := [], laidByText := true, laidKinds := [.wider, .wider, .wider, .wider, .wider, .wider, .wider, .wider, .wider], laidTests := true, laidLooks := .later }
def BuildDeepCardSaid : Prop := Claim7.holds Tryd.pinned (.plain (OpenSpec.ofChange buildDeepSpec)) buildDeepCard

/-- THE TIED CARD OF 'scullerlaw08.BuildOdd'. -/
def buildOddCard : Claim7 := { stood := { row := buildOddRow, standIns := [], harness := (true, "f15452b1abf2956500ffb065b2938f65cab1eccddd82e7eb9f3d7d3e19f28f51"), looks := false }, kinds := [], alts := [], laidByText := true, laidKinds := [.wider, .wider, .wider, .wider, .wider, .wider, .wider, .wider, .wider], laidTests := true, laidLooks := .later }
def BuildOddCardSaid : Prop := Claim7.holds Tryd.pinned (.plain (OpenSpec.ofChange buildOddSpec)) buildOddCard

/-- THE TIED CARD OF 'scullerlaw08.BuildTwice'. -/
def buildTwiceCard : Claim7 := { stood := { row := buildTwiceRow, standIns := [], harness := (true, "f15452b1abf2956500ffb065b2938f65cab1eccddd82e7eb9f3d7d3e19f28f51"), looks := false }, kinds := [], alts := [], laidByText := true, laidKinds := [.wider, .wider, .wider, .wider, .wider, .wider, .wider, .wider, .wider], laidTests := true, laidLooks := .later }
def BuildTwiceCardSaid : Prop := Claim7.holds Tryd.pinned (.plain (OpenSpec.ofChange buildTwiceSpec)) buildTwiceCard

/-- THE TIED CARD OF 'scullerlaw08.BuildEmpty'. -/
def buildEmptyCard : Claim7 := { stood := { row := buildEmptyRow, standIns := [], harness := (true, "f15452b1abf2956500ffb065b2938f65cab1eccddd82e7eb9f3d7d3e19f28f51"), looks := false }, kinds := [], alts := [], laidByText := true, laidKinds := [.wider, .wider, .wider, .wider, .wider, .wider, .wider, .wider, .wider], laidTests := true, laidLooks := .later }
def BuildEmptyCardSaid : Prop := Claim7.holds Tryd.pinned (.plain (OpenSpec.ofChange buildEmptySpec)) buildEmptyCard

/-- THE SECOND FORM's CARD OF 'scullerlaw08.BuildLays'. -/
def buildLaysUptoCard : Claim7 := { stood := { row := buildLaysUptoRow, standIns := [], harness := (true, "f15452b1abf2956500ffb065b2938f65cab1eccddd82e7eb9f3d7d3e19f28f51"), looks := false }, kinds := [], alts := [], laidByText := true, laidKinds := [.wider, .wider, .wider, .wider, .wider, .wider, .wider, .wider, .wider], laidTests := true, laidLooks := .later }
def BuildLaysUptoCardSaid : Prop := Claim7.holds Tryd.pinned (.plain (OpenSpec.upto buildLaysSpec)) buildLaysUptoCard

/-- THE SECOND FORM's CARD OF 'scullerlaw08.BuildSizes'. -/
def buildSizesUptoCard : Claim7 := { stood := { row := buildSizesUptoRow, standIns := [], harness := (true, "f15452b1abf2956500ffb065b2938f65cab1eccddd82e7eb9f3d7d3e19f28f51"), looks := false }, kinds := [], alts := [], laidByText := true, laidKinds := [.wider, .wider, .wider, .wider, .wider, .wider, .wider, .wider, .wider], laidTests := true, laidLooks := .later }
def BuildSizesUptoCardSaid : Prop := Claim7.holds Tryd.pinned (.plain (OpenSpec.upto buildSizesSpec)) buildSizesUptoCard

/-- THE SECOND FORM's CARD OF 'scullerlaw08.BuildDeep'. -/
def buildDeepUptoCard : Claim7 := { stood := { row := buildDeepUptoRow, standIns := [], harness := (true, "f15452b1abf2956500ffb065b2938f65cab1eccddd82e7eb9f3d7d3e19f28f51"), looks := false }, kinds := [], alts := [], laidByText := true, laidKinds := [.wider, .wider, .wider, .wider, .wider, .wider, .wider, .wider, .wider], laidTests := true, laidLooks := .later }
def BuildDeepUptoCardSaid : Prop := Claim7.holds Tryd.pinned (.plain (OpenSpec.upto buildDeepSpec)) buildDeepUptoCard

/-- THE SECOND FORM's CARD OF 'scullerlaw08.BuildOdd'. -/
def buildOddUptoCard : Claim7 := { stood := { row := buildOddUptoRow, standIns := [], harness := (true, "f15452b1abf2956500ffb065b2938f65cab1eccddd82e7eb9f3d7d3e19f28f51"), looks := false }, kinds := [], alts := [], laidByText := true, laidKinds := [.wider, .wider, .wider, .wider, .wider, .wider, .wider, .wider, .wider], laidTests := true, laidLooks := .later }
def BuildOddUptoCardSaid : Prop := Claim7.holds Tryd.pinned (.plain (OpenSpec.upto buildOddSpec)) buildOddUptoCard

/-- THE SECOND FORM's CARD OF 'scullerlaw08.BuildTwice'. -/
def buildTwiceUptoCard : Claim7 := { stood := { row := buildTwiceUptoRow, standIns := [], harness := (true, "f15452b1abf2956500ffb065b2938f65cab1eccddd82e7eb9f3d7d3e19f28f51"), looks := false }, kinds := [], alts := [], laidByText := true, laidKinds := [.wider, .wider, .wider, .wider, .wider, .wider, .wider, .wider, .wider], laidTests := true, laidLooks := .later }
def BuildTwiceUptoCardSaid : Prop := Claim7.holds Tryd.pinned (.plain (OpenSpec.upto buildTwiceSpec)) buildTwiceUptoCard

/-- THE SECOND FORM's CARD OF 'scullerlaw08.BuildEmpty'. -/
def buildEmptyUptoCard : Claim7 := { stood := { row := buildEmptyUptoRow, standIns := [], harness := (true, "f15452b1abf2956500ffb065b2938f65cab1eccddd82e7eb9f3d7d3e19f28f51"), looks := false }, kinds := [], alts := [], laidByText := true, laidKinds := [.wider, .wider, .wider, .wider, .wider, .wider, .wider, .wider, .wider], laidTests := true, laidLooks := .later }
def BuildEmptyUptoCardSaid : Prop := Claim7.holds Tryd.pinned (.plain (OpenSpec.upto buildEmptySpec)) buildEmptyUptoCard
end Rows
end Go.Proofs.YtofpjcmcpejnfaaDoor
