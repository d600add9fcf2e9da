/-
  DERIVED. GIVEN WITH THE SEED: THE CARDS: each row of YtmmlfnblodfjbaaGreatDoorRows.lean that lists a variable, with what it lists TIED to the program's text (the seventh form; the later family's looks); each row that meets fmt, with fmt's text TOLD by the authors' own Lean function (tested against real Go, not proved from fmt's source: count such statements apart). THE CARD IS WHAT COUNTS. Prove the row's statement (the work); the ties are given (YtmmlfnblodfjbaaGreatDoorTie.lean); close each card by the builder's one call (the guide's Derived/Test/ToyasCard.lean, 'card_holds'). Laid BY PROGRAM, IN A SANDBOX (cutbox-door.mjs). By AI agents, Wed Nov 11 2026. No macro, syntax, notation, axiom, sorry.
-/
import Derived.Test.YtmmlfnblodfjbaaGreatDoorRows
import GoSem.ClaimSeven
namespace Go.Proofs.YtmmlfnblodfjbaaGreatDoor
namespace Rows

/-- THE TIED CARD OF 'scullerlaw11.ValidChecks'. -/
def validChecksCard : Claim7 := { stood := { row := validChecksRow, standIns := [], harness := (true, "f5bf08a724e085f4fe723c044860eedab28feceed0cabbbaa20294fe6bc61021"), looks := false }, kinds := [], alts := [], laidByText := true, laidKinds := [.wider, .wider, .wider, .wider, .wider, .wider, .wider, .wider, .wider], laidTests := true, laidLooks := .later }
def ValidChecksCardSaid : Prop := Claim7.holds Tryz.pinned (.plain (OpenSpec.ofChange validChecksSpec)) validChecksCard

/-- THE TIED CARD OF 'scullerlaw11.ValidCanon'. -/
def validCanonCard : Claim7 := { stood := { row := validCanonRow, standIns := [], harness := (true, "f5bf08a724e085f4fe723c044860eedab28feceed0cabbbaa20294fe6bc61021"), looks := false }, kinds := [], alts := [], laidByText := true, laidKinds := [.wider, .wider, .wider, .wider, .wider, .wider, .wider, .wider, .wider], laidTests := true, laidLooks := .later }
def ValidCanonCardSaid : Prop := Claim7.holds Tryz.pinned (.plain (OpenSpec.ofChange validCanonSpec)) validCanonCard

/-- THE TIED CARD OF 'scullerlaw11.ValidSuffices'. -/
def validSufficesCard : Claim7 := { stood := { row := validSufficesRow, standIns := [], harness := (true, "f5bf08a724e085f4fe723c044860eedab28feceed0cabbbaa20294fe6bc61021"), looks := false }, kinds := [], alts := [], laidByText := true, laidKinds := [.wider, .wider, .wider, .wider, .wider, .wider, .wider, .wider, .wider], laidTests := true, laidLooks := .later }
def ValidSufficesCardSaid : Prop := Claim7.holds Tryz.pinned (.plain (OpenSpec.ofChange validSufficesSpec)) validSufficesCard

/-- THE TIED CARD OF 'scullerlaw11.ValidWhole'. -/
def validWholeCard : Claim7 := { stood := { row := validWholeRow, standIns := [], harness := (true, "f5bf08a724e085f4fe723c044860eedab28feceed0cabbbaa20294fe6bc61021"), looks := false }, kinds := [], alts := [], laidByText := true, laidKinds := [.wider, .wider, .wider, .wider, .wider, .wider, .wider, .wider, .wider], laidTests := true, laidLooks := .later }
def ValidWholeCardSaid : Prop := Claim7.holds Tryz.pinned (.plain (OpenSpec.ofChange validWholeSpec)) validWholeCard

/-- THE TIED CARD OF 'scullerlaw11.ValidParts'. -/
def validPartsCard : Claim7 := { stood := { row := validPartsRow, standIns := [], harness := (true, "f5bf08a724e085f4fe723c044860eedab28feceed0cabbbaa20294fe6bc61021"), looks := false }, kinds := [], alts := [], laidByText := true, laidKinds := [.wider, .wider, .wider, .wider, .wider, .wider, .wider, .wider, .wider], laidTests := true, laidLooks := .later }
def ValidPartsCardSaid : Prop := Claim7.holds Tryz.pinned (.plain (OpenSpec.ofChange validPartsSpec)) validPartsCard

/-- THE TIED CARD OF 'scullerlaw11.ValidTouch'. -/
def validTouchCard : Claim7 := { stood := { row := validTouchRow, standIns := [], harness := (true, "f5bf08a724e085f4fe723c044860eedab28feceed0cabbbaa20294fe6bc61021"), looks := false }, kinds := [], alts := [], laidByText := true, laidKinds := [.wider, .wider, .wider, .wider, .wider, .wider, .wider, .wider, .wider], laidTests := true, laidLooks := .later }
def ValidTouchCardSaid : Prop := Claim7.holds Tryz.pinned (.plain (OpenSpec.ofChange validTouchSpec)) validTouchCard

/-- THE SECOND FORM's CARD OF 'scullerlaw11.ValidChecks'. -/
def validChecksUptoCard : Claim7 := { stood := { row := validChecksUptoRow, standIns := [], harness := (true, "f5bf08a724e085f4fe723c044860eedab28feceed0cabbbaa20294fe6bc61021"), looks := false }, kinds := [], alts := [], laidByText := true, laidKinds := [.wider, .wider, .wider, .wider, .wider, .wider, .wider, .wider, .wider], laidTests := true, laidLooks := .later }
def ValidChecksUptoCardSaid : Prop := Claim7.holds Tryz.pinned (.plain (OpenSpec.upto validChecksSpec)) validChecksUptoCard

/-- THE SECOND FORM's CARD OF 'scullerlaw11.ValidCanon'. -/
def validCanonUptoCard : Claim7 := { stood := { row := validCanonUptoRow, standIns := [], harness := (true, "f5bf08a724e085f4fe723c044860eedab28feceed0cabbbaa20294fe6bc61021"), looks := false }, kinds := [], alts := [], laidByText := true, laidKinds := [.wider, .wider, .wider, .wider, .wider, .wider, .wider, .wider, .wider], laidTests := true, laidLooks := .later }
def ValidCanonUptoCardSaid : Prop := Claim7.holds Tryz.pinned (.plain (OpenSpec.upto validCanonSpec)) validCanonUptoCard

/-- THE SECOND FORM's CARD OF 'scullerlaw11.ValidSuffices'. -/
def validSufficesUptoCard : Claim7 := { stood := { row := validSufficesUptoRow, standIns := [], harness := (true, "f5bf08a724e085f4fe723c044860eedab28feceed0cabbbaa20294fe6bc61021"), looks := false }, kinds := [], alts := [], laidByText := true, laidKinds := [.wider, .wider, .wider, .wider, .wider, .wider, .wider, .wider, .wider], laidTests := true, laidLooks := .later }
def ValidSufficesUptoCardSaid : Prop := Claim7.holds Tryz.pinned (.plain (OpenSpec.upto validSufficesSpec)) validSufficesUptoCard

/-- THE SECOND FORM's CARD OF 'scullerlaw11.ValidWhole'. -/
def validWholeUptoCard : Claim7 := { stood := { row := validWholeUptoRow, standIns := [], harness := (true, "f5bf08a724e085f4fe723c044860eedab28feceed0cabbbaa20294fe6bc61021"), looks := false }, kinds := [], alts := [], laidByText := true, laidKinds := [.wider, .wider, .wider, .wider, .wider, .wider, .wider, .wider, .wider], laidTests := true, laidLooks := .later }
def ValidWholeUptoCardSaid : Prop := Claim7.holds Tryz.pinned (.plain (OpenSpec.upto validWholeSpec)) validWholeUptoCard

/-- THE SECOND FORM's CARD OF 'scullerlaw11.ValidParts'. -/
def validPartsUptoCard : Claim7 := { stood := { row := validPartsUptoRow, standIns := [], harness := (true, "f5bf08a724e085f4fe723c044860eedab28feceed0cabbbaa20294fe6bc61021"), looks := false }, kinds := [], alts := [], laidByText := true, laidKinds := [.wider, .wider, .wider, .wider, .wider, .wider, .wider, .wider, .wider], laidTests := true, laidLooks := .later }
def ValidPartsUptoCardSaid : Prop := Claim7.holds Tryz.pinned (.plain (OpenSpec.upto validPartsSpec)) validPartsUptoCard

/-- THE SECOND FORM's CARD OF 'scullerlaw11.ValidTouch'. -/
def validTouchUptoCard : Claim7 := { stood := { row := validTouchUptoRow, standIns := [], harness := (true, "f5bf08a724e085f4fe723c044860eedab28feceed0cabbbaa20294fe6bc61021"), looks := false }, kinds := [], alts := [], laidByText := true, laidKinds := [.wider, .wider, .wider, .wider, .wider, .wider, .wider, .wider, .wider], laidTests := true, laidLooks := .later }
def ValidTouchUptoCardSaid : Prop := Claim7.holds Tryz.pinned (.plain (OpenSpec.upto validTouchSpec)) validTouchUptoCard
end Rows
end Go.Proofs.YtmmlfnblodfjbaaGreatDoor
