/-
  DERIVED. GIVEN WITH THE SEED: THE PROGRAM's TIES (one call each: nine closed facts by the kernel) AND EACH ROW's TIE, after the 31st guide's Derived/Test/Toyas{Tie, Card}.lean. No idea stands in it: it is a product of the set-up. Laid BY PROGRAM, IN A SANDBOX (cutbox-door.mjs). By AI agents, Wed Nov 11 2026. No macro, syntax, notation, axiom, sorry.
-/
import Derived.Test.YtmmlfnblodfjbaaGreatDoorRows
import Derived.LaidByTextLater
import Derived.SevenTiedAt
import Derived.LaidSub
import Derived.LaidOnce
namespace Go.Proofs.YtmmlfnblodfjbaaGreatDoor
open Go
set_option maxRecDepth 100000
theorem seatTie1 : Tryz.prog.laidByTextLater [("sculler/ptr.kindAt", Rows.laid_sculler_ptr_kindAt), ("sculler/ptr.offAt", Rows.laid_sculler_ptr_offAt), ("sculler/ptr.dataAt", Rows.laid_sculler_ptr_dataAt), ("sculler/ptr.ptrsAt", Rows.laid_sculler_ptr_ptrsAt), ("sculler/ptr.sizeAt", Rows.laid_sculler_ptr_sizeAt), ("sculler/ptr.countAt", Rows.laid_sculler_ptr_countAt), ("sculler/ptr.doubleAt", Rows.laid_sculler_ptr_doubleAt), ("sculler/ptr.farOffAt", Rows.laid_sculler_ptr_farOffAt), ("sculler/ptr.segAt", Rows.laid_sculler_ptr_segAt)] [.wider, .wider, .wider, .wider, .wider, .wider, .wider, .wider, .wider] true :=
  Program.laidByTextLater_by_one 54 8 3 (by kernel_rfl) (by kernel_rfl) (by kernel_rfl) (by kernel_rfl) (by kernel_rfl) (by kernel_rfl) (fun _ _ => by kernel_rfl)
theorem noOwnUnsafe : Tryz.pinned.checked.prog.headLifts.contains "ownunsafe" = false := by kernel_rfl
theorem tie : Tryz.prog.laidByTextLater [("sculler/ptr.kindAt", Rows.laid_sculler_ptr_kindAt), ("sculler/ptr.offAt", Rows.laid_sculler_ptr_offAt), ("sculler/ptr.dataAt", Rows.laid_sculler_ptr_dataAt), ("sculler/ptr.ptrsAt", Rows.laid_sculler_ptr_ptrsAt), ("sculler/ptr.sizeAt", Rows.laid_sculler_ptr_sizeAt), ("sculler/ptr.countAt", Rows.laid_sculler_ptr_countAt), ("sculler/ptr.doubleAt", Rows.laid_sculler_ptr_doubleAt), ("sculler/ptr.farOffAt", Rows.laid_sculler_ptr_farOffAt), ("sculler/ptr.segAt", Rows.laid_sculler_ptr_segAt)] [.wider, .wider, .wider, .wider, .wider, .wider, .wider, .wider, .wider] true :=
  Program.laidByTextLater.sub seatTie1 ["sculler/ptr.kindAt", "sculler/ptr.offAt", "sculler/ptr.dataAt", "sculler/ptr.ptrsAt", "sculler/ptr.sizeAt", "sculler/ptr.countAt", "sculler/ptr.doubleAt", "sculler/ptr.farOffAt", "sculler/ptr.segAt"] (by kernel_rfl) (by kernel_rfl)
theorem validChecks_row_tie : Rows.validChecksRow.laidByTextAt .later Tryz.pinned [.wider, .wider, .wider, .wider, .wider, .wider, .wider, .wider, .wider] true :=
  OpenClaim.laidByTextAt_later rfl rfl tie noOwnUnsafe
theorem validCanon_row_tie : Rows.validCanonRow.laidByTextAt .later Tryz.pinned [.wider, .wider, .wider, .wider, .wider, .wider, .wider, .wider, .wider] true :=
  OpenClaim.laidByTextAt_later rfl rfl tie noOwnUnsafe
theorem validSuffices_row_tie : Rows.validSufficesRow.laidByTextAt .later Tryz.pinned [.wider, .wider, .wider, .wider, .wider, .wider, .wider, .wider, .wider] true :=
  OpenClaim.laidByTextAt_later rfl rfl tie noOwnUnsafe
theorem validWhole_row_tie : Rows.validWholeRow.laidByTextAt .later Tryz.pinned [.wider, .wider, .wider, .wider, .wider, .wider, .wider, .wider, .wider] true :=
  OpenClaim.laidByTextAt_later rfl rfl tie noOwnUnsafe
theorem validParts_row_tie : Rows.validPartsRow.laidByTextAt .later Tryz.pinned [.wider, .wider, .wider, .wider, .wider, .wider, .wider, .wider, .wider] true :=
  OpenClaim.laidByTextAt_later rfl rfl tie noOwnUnsafe
theorem validTouch_row_tie : Rows.validTouchRow.laidByTextAt .later Tryz.pinned [.wider, .wider, .wider, .wider, .wider, .wider, .wider, .wider, .wider] true :=
  OpenClaim.laidByTextAt_later rfl rfl tie noOwnUnsafe
theorem validChecksUpto_row_tie : Rows.validChecksUptoRow.laidByTextAt .later Tryz.pinned [.wider, .wider, .wider, .wider, .wider, .wider, .wider, .wider, .wider] true :=
  OpenClaim.laidByTextAt_later rfl rfl tie noOwnUnsafe
theorem validCanonUpto_row_tie : Rows.validCanonUptoRow.laidByTextAt .later Tryz.pinned [.wider, .wider, .wider, .wider, .wider, .wider, .wider, .wider, .wider] true :=
  OpenClaim.laidByTextAt_later rfl rfl tie noOwnUnsafe
theorem validSufficesUpto_row_tie : Rows.validSufficesUptoRow.laidByTextAt .later Tryz.pinned [.wider, .wider, .wider, .wider, .wider, .wider, .wider, .wider, .wider] true :=
  OpenClaim.laidByTextAt_later rfl rfl tie noOwnUnsafe
theorem validWholeUpto_row_tie : Rows.validWholeUptoRow.laidByTextAt .later Tryz.pinned [.wider, .wider, .wider, .wider, .wider, .wider, .wider, .wider, .wider] true :=
  OpenClaim.laidByTextAt_later rfl rfl tie noOwnUnsafe
theorem validPartsUpto_row_tie : Rows.validPartsUptoRow.laidByTextAt .later Tryz.pinned [.wider, .wider, .wider, .wider, .wider, .wider, .wider, .wider, .wider] true :=
  OpenClaim.laidByTextAt_later rfl rfl tie noOwnUnsafe
theorem validTouchUpto_row_tie : Rows.validTouchUptoRow.laidByTextAt .later Tryz.pinned [.wider, .wider, .wider, .wider, .wider, .wider, .wider, .wider, .wider] true :=
  OpenClaim.laidByTextAt_later rfl rfl tie noOwnUnsafe
end Go.Proofs.YtmmlfnblodfjbaaGreatDoor
