/-
  DERIVED. GIVEN WITH THE SEED: THE CARDS: each row of YtmcnnihhnapjpaaDoorRows.lean that lists a variable, with what it lists TIED to the program's text (the seventh form; the later family's looks); each row that meets fmt, with fmt's text TOLD by the authors' own Lean function (tested against real Go, not proved from fmt's source: count such statements apart). THE CARD IS WHAT COUNTS. Prove the row's statement (the work); the ties are given (YtmcnnihhnapjpaaDoorTie.lean); close each card by the builder's one call (the guide's Derived/Test/ToyasCard.lean, 'card_holds'). Laid BY PROGRAM, IN A SANDBOX (cutbox-door.mjs). By AI agents, Wed Nov 11 2026. No macro, syntax, notation, axiom, sorry.
-/
import Derived.Test.YtmcnnihhnapjpaaDoorRows
import GoSem.ClaimSeven
namespace Go.Proofs.YtmcnnihhnapjpaaDoor
namespace Rows

/-- THE TIED CARD OF 'scullerlaw09.ReadNull'. -/
def readNullCard : Claim7 := { stood := { row := readNullRow, standIns := [], harness := (true, "b52d3cb52f289df17376be97a89f22d59bede54fcc4563e06a6fdfdc17b05529"), looks := false }, kinds := [], alts := [], laidByText := true, laidKinds := [.wider, .wider, .wider, .wider, .wider, .wider, .wider, .wider, .wider], laidTests := true, laidLooks := .later }
def ReadNullCardSaid : Prop := Claim7.holds Tryd.pinned (.plain (OpenSpec.ofChange readNullSpec)) readNullCard

/-- THE TIED CARD OF 'scullerlaw09.ReadFar'. -/
def readFarCard : Claim7 := { stood := { row := readFarRow, standIns := [], harness := (true, "b52d3cb52f289df17376be97a89f22d59bede54fcc4563e06a6fdfdc17b05529"), looks := false }, kinds := [], alts := [], laidByText := true, laidKinds := [.wider, .wider, .wider, .wider, .wider, .wider, .wider, .wider, .wider], laidTests := true, laidLooks := .later }
def ReadFarCardSaid : Prop := Claim7.holds Tryd.pinned (.plain (OpenSpec.ofChange readFarSpec)) readFarCard

/-- THE TIED CARD OF 'scullerlaw09.ReadKinds'. -/
def readKindsCard : Claim7 := { stood := { row := readKindsRow, standIns := [], harness := (true, "b52d3cb52f289df17376be97a89f22d59bede54fcc4563e06a6fdfdc17b05529"), looks := false }, kinds := [], alts := [], laidByText := true, laidKinds := [.wider, .wider, .wider, .wider, .wider, .wider, .wider, .wider, .wider], laidTests := true, laidLooks := .later }
def ReadKindsCardSaid : Prop := Claim7.holds Tryd.pinned (.plain (OpenSpec.ofChange readKindsSpec)) readKindsCard

/-- THE SECOND FORM's CARD OF 'scullerlaw09.ReadNull'. -/
def readNullUptoCard : Claim7 := { stood := { row := readNullUptoRow, standIns := [], harness := (true, "b52d3cb52f289df17376be97a89f22d59bede54fcc4563e06a6fdfdc17b05529"), looks := false }, kinds := [], alts := [], laidByText := true, laidKinds := [.wider, .wider, .wider, .wider, .wider, .wider, .wider, .wider, .wider], laidTests := true, laidLooks := .later }
def ReadNullUptoCardSaid : Prop := Claim7.holds Tryd.pinned (.plain (OpenSpec.upto readNullSpec)) readNullUptoCard

/-- THE SECOND FORM's CARD OF 'scullerlaw09.ReadFar'. -/
def readFarUptoCard : Claim7 := { stood := { row := readFarUptoRow, standIns := [], harness := (true, "b52d3cb52f289df17376be97a89f22d59bede54fcc4563e06a6fdfdc17b05529"), looks := false }, kinds := [], alts := [], laidByText := true, laidKinds := [.wider, .wider, .wider, .wider, .wider, .wider, .wider, .wider, .wider], laidTests := true, laidLooks := .later }
def ReadFarUptoCardSaid : Prop := Claim7.holds Tryd.pinned (.plain (OpenSpec.upto readFarSpec)) readFarUptoCard

/-- THE SECOND FORM's CARD OF 'scullerlaw09.ReadKinds'. -/
def readKindsUptoCard : Claim7 := { stood := { row := readKindsUptoRow, standIns := [], harness := (true, "b52d3cb52f289df17376be97a89f22d59bede54fcc4563e06a6fdfdc17b05529"), looks := false }, kinds := [], alts := [], laidByText := true, laidKinds := [.wider, .wider, .wider, .wider, .wider, .wider, .wider, .wider, .wider], laidTests := true, laidLooks := .later }
def ReadKindsUptoCardSaid : Prop := Claim7.holds Tryd.pinned (.plain (OpenSpec.upto readKindsSpec)) readKindsUptoCard
end Rows
end Go.Proofs.YtmcnnihhnapjpaaDoor
