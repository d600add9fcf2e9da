/-
  DERIVED. GIVEN WITH THE SEED: THE CARDS: each row of YtknmbohokmeidaaDoorRows.lean that lists a variable, with what it lists TIED to the program's text (the seventh form; the later family's looks); each row that meets fmt, with fmt's text TOLD by the authors' own Lean function (tested against real Go, not proved from fmt's source: count such statements apart). THE CARD IS WHAT COUNTS. Prove the row's statement (the work); the ties are given (YtknmbohokmeidaaDoorTie.lean); close each card by the builder's one call (the guide's Derived/Test/ToyasCard.lean, 'card_holds'). Laid BY PROGRAM, IN A SANDBOX (cutbox-door.mjs). By AI agents, Wed Nov 11 2026. No macro, syntax, notation, axiom, sorry.
-/
import Derived.Test.YtknmbohokmeidaaDoorRows
import GoSem.ClaimSeven
namespace Go.Proofs.YtknmbohokmeidaaDoor
namespace Rows

/-- THE TIED CARD OF 'scullerlaw06.PtrDecodes'. -/
def ptrDecodesCard : Claim7 := { stood := { row := ptrDecodesRow, standIns := [], harness := (true, "5734d3d65e0db95480cbcb5de78628f8bce5d57a7502a8fadff2bb2f712020d2"), looks := false }, kinds := [], alts := [], laidByText := true, laidKinds := [.wider, .wider, .wider, .wider, .wider, .wider, .wider, .wider, .wider], laidTests := true, laidLooks := .later }
def PtrDecodesCardSaid : Prop := Claim7.holds Tryd.pinned (.plain (OpenSpec.ofChange ptrDecodesSpec)) ptrDecodesCard

/-- THE TIED CARD OF 'scullerlaw06.PtrBack'. -/
def ptrBackCard : Claim7 := { stood := { row := ptrBackRow, standIns := [], harness := (true, "5734d3d65e0db95480cbcb5de78628f8bce5d57a7502a8fadff2bb2f712020d2"), looks := false }, kinds := [], alts := [], laidByText := true, laidKinds := [.wider, .wider, .wider, .wider, .wider, .wider, .wider, .wider, .wider], laidTests := true, laidLooks := .later }
def PtrBackCardSaid : Prop := Claim7.holds Tryd.pinned (.plain (OpenSpec.ofChange ptrBackSpec)) ptrBackCard

/-- THE TIED CARD OF 'scullerlaw06.PtrFields'. -/
def ptrFieldsCard : Claim7 := { stood := { row := ptrFieldsRow, standIns := [], harness := (true, "5734d3d65e0db95480cbcb5de78628f8bce5d57a7502a8fadff2bb2f712020d2"), looks := false }, kinds := [], alts := [], laidByText := true, laidKinds := [.wider, .wider, .wider, .wider, .wider, .wider, .wider, .wider, .wider], laidTests := true, laidLooks := .later }
def PtrFieldsCardSaid : Prop := Claim7.holds Tryd.pinned (.plain (OpenSpec.ofChange ptrFieldsSpec)) ptrFieldsCard

/-- THE TIED CARD OF 'scullerlaw06.PtrWords'. -/
def ptrWordsCard : Claim7 := { stood := { row := ptrWordsRow, standIns := [], harness := (true, "5734d3d65e0db95480cbcb5de78628f8bce5d57a7502a8fadff2bb2f712020d2"), looks := false }, kinds := [], alts := [], laidByText := true, laidKinds := [.wider, .wider, .wider, .wider, .wider, .wider, .wider, .wider, .wider], laidTests := true, laidLooks := .later }
def PtrWordsCardSaid : Prop := Claim7.holds Tryd.pinned (.plain (OpenSpec.ofChange ptrWordsSpec)) ptrWordsCard

/-- THE TIED CARD OF 'scullerlaw06.PtrKinds'. -/
def ptrKindsCard : Claim7 := { stood := { row := ptrKindsRow, standIns := [], harness := (true, "5734d3d65e0db95480cbcb5de78628f8bce5d57a7502a8fadff2bb2f712020d2"), looks := false }, kinds := [], alts := [], laidByText := true, laidKinds := [.wider, .wider, .wider, .wider, .wider, .wider, .wider, .wider, .wider], laidTests := true, laidLooks := .later }
def PtrKindsCardSaid : Prop := Claim7.holds Tryd.pinned (.plain (OpenSpec.ofChange ptrKindsSpec)) ptrKindsCard

/-- THE TIED CARD OF 'scullerlaw06.PtrOffs'. -/
def ptrOffsCard : Claim7 := { stood := { row := ptrOffsRow, standIns := [], harness := (true, "5734d3d65e0db95480cbcb5de78628f8bce5d57a7502a8fadff2bb2f712020d2"), looks := false }, kinds := [], alts := [], laidByText := true, laidKinds := [.wider, .wider, .wider, .wider, .wider, .wider, .wider, .wider, .wider], laidTests := true, laidLooks := .later }
def PtrOffsCardSaid : Prop := Claim7.holds Tryd.pinned (.plain (OpenSpec.ofChange ptrOffsSpec)) ptrOffsCard

/-- THE SECOND FORM's CARD OF 'scullerlaw06.PtrDecodes'. -/
def ptrDecodesUptoCard : Claim7 := { stood := { row := ptrDecodesUptoRow, standIns := [], harness := (true, "5734d3d65e0db95480cbcb5de78628f8bce5d57a7502a8fadff2bb2f712020d2"), looks := false }, kinds := [], alts := [], laidByText := true, laidKinds := [.wider, .wider, .wider, .wider, .wider, .wider, .wider, .wider, .wider], laidTests := true, laidLooks := .later }
def PtrDecodesUptoCardSaid : Prop := Claim7.holds Tryd.pinned (.plain (OpenSpec.upto ptrDecodesSpec)) ptrDecodesUptoCard

/-- THE SECOND FORM's CARD OF 'scullerlaw06.PtrBack'. -/
def ptrBackUptoCard : Claim7 := { stood := { row := ptrBackUptoRow, standIns := [], harness := (true, "5734d3d65e0db95480cbcb5de78628f8bce5d57a7502a8fadff2bb2f712020d2"), looks := false }, kinds := [], alts := [], laidByText := true, laidKinds := [.wider, .wider, .wider, .wider, .wider, .wider, .wider, .wider, .wider], laidTests := true, laidLooks := .later }
def PtrBackUptoCardSaid : Prop := Claim7.holds Tryd.pinned (.plain (OpenSpec.upto ptrBackSpec)) ptrBackUptoCard

/-- THE SECOND FORM's CARD OF 'scullerlaw06.PtrFields'. -/
def ptrFieldsUptoCard : Claim7 := { stood := { row := ptrFieldsUptoRow, standIns := [], harness := (true, "5734d3d65e0db95480cbcb5de78628f8bce5d57a7502a8fadff2bb2f712020d2"), looks := false }, kinds := [], alts := [], laidByText := true, laidKinds := [.wider, .wider, .wider, .wider, .wider, .wider, .wider, .wider, .wider], laidTests := true, laidLooks := .later }
def PtrFieldsUptoCardSaid : Prop := Claim7.holds Tryd.pinned (.plain (OpenSpec.upto ptrFieldsSpec)) ptrFieldsUptoCard

/-- THE SECOND FORM's CARD OF 'scullerlaw06.PtrWords'. -/
def ptrWordsUptoCard : Claim7 := { stood := { row := ptrWordsUptoRow, standIns := [], harness := (true, "5734d3d65e0db95480cbcb5de78628f8bce5d57a7502a8fadff2bb2f712020d2"), looks := false }, kinds := [], alts := [], laidByText := true, laidKinds := [.wider, .wider, .wider, .wider, .wider, .wider, .wider, .wider, .wider], laidTests := true, laidLooks := .later }
def PtrWordsUptoCardSaid : Prop := Claim7.holds Tryd.pinned (.plain (OpenSpec.upto ptrWordsSpec)) ptrWordsUptoCard

/-- THE SECOND FORM's CARD OF 'scullerlaw06.PtrKinds'. -/
def ptrKindsUptoCard : Claim7 := { stood := { row := ptrKindsUptoRow, standIns := [], harness := (true, "5734d3d65e0db95480cbcb5de78628f8bce5d57a7502a8fadff2bb2f712020d2"), looks := false }, kinds := [], alts := [], laidByText := true, laidKinds := [.wider, .wider, .wider, .wider, .wider, .wider, .wider, .wider, .wider], laidTests := true, laidLooks := .later }
def PtrKindsUptoCardSaid : Prop := Claim7.holds Tryd.pinned (.plain (OpenSpec.upto ptrKindsSpec)) ptrKindsUptoCard

/-- THE SECOND FORM's CARD OF 'scullerlaw06.PtrOffs'. -/
def ptrOffsUptoCard : Claim7 := { stood := { row := ptrOffsUptoRow, standIns := [], harness := (true, "5734d3d65e0db95480cbcb5de78628f8bce5d57a7502a8fadff2bb2f712020d2"), looks := false }, kinds := [], alts := [], laidByText := true, laidKinds := [.wider, .wider, .wider, .wider, .wider, .wider, .wider, .wider, .wider], laidTests := true, laidLooks := .later }
def PtrOffsUptoCardSaid : Prop := Claim7.holds Tryd.pinned (.plain (OpenSpec.upto ptrOffsSpec)) ptrOffsUptoCard
end Rows
end Go.Proofs.YtknmbohokmeidaaDoor
