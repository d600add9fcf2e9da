/-
  DERIVED. GIVEN WITH THE SEED: THE PROGRAM's TIES (one call each: nine closed facts by the kernel) AND EACH ROW's TIE, after the 31st guide's Derived/Test/Toyas{Tie, Card}.lean. No idea stands in it: it is a product of the set-up. Laid BY PROGRAM, IN A SANDBOX (cutbox-door.mjs). By AI agents, Wed Nov 11 2026. No macro, syntax, notation, axiom, sorry.
-/
import Derived.Test.YtmcnnihhnapjpaaDoorRows
import Derived.LaidByTextLater
import Derived.SevenTiedAt
import Derived.LaidSub
import Derived.LaidOnce
namespace Go.Proofs.YtmcnnihhnapjpaaDoor
open Go
set_option maxRecDepth 100000
theorem seatTie1 : Tryd.prog.laidByTextLater [("sculler/ptr.kindAt", Rows.laid_sculler_ptr_kindAt), ("sculler/ptr.offAt", Rows.laid_sculler_ptr_offAt), ("sculler/ptr.dataAt", Rows.laid_sculler_ptr_dataAt), ("sculler/ptr.ptrsAt", Rows.laid_sculler_ptr_ptrsAt), ("sculler/ptr.sizeAt", Rows.laid_sculler_ptr_sizeAt), ("sculler/ptr.countAt", Rows.laid_sculler_ptr_countAt), ("sculler/ptr.doubleAt", Rows.laid_sculler_ptr_doubleAt), ("sculler/ptr.farOffAt", Rows.laid_sculler_ptr_farOffAt), ("sculler/ptr.segAt", Rows.laid_sculler_ptr_segAt)] [.wider, .wider, .wider, .wider, .wider, .wider, .wider, .wider, .wider] true :=
  Program.laidByTextLater_by_one 54 8 3 (by kernel_rfl) (by kernel_rfl) (by kernel_rfl) (by kernel_rfl) (by kernel_rfl) (by kernel_rfl) (fun _ _ => by kernel_rfl)
theorem noOwnUnsafe : Tryd.pinned.checked.prog.headLifts.contains "ownunsafe" = false := by kernel_rfl
theorem tie : Tryd.prog.laidByTextLater [("sculler/ptr.kindAt", Rows.laid_sculler_ptr_kindAt), ("sculler/ptr.offAt", Rows.laid_sculler_ptr_offAt), ("sculler/ptr.dataAt", Rows.laid_sculler_ptr_dataAt), ("sculler/ptr.ptrsAt", Rows.laid_sculler_ptr_ptrsAt), ("sculler/ptr.sizeAt", Rows.laid_sculler_ptr_sizeAt), ("sculler/ptr.countAt", Rows.laid_sculler_ptr_countAt), ("sculler/ptr.doubleAt", Rows.laid_sculler_ptr_doubleAt), ("sculler/ptr.farOffAt", Rows.laid_sculler_ptr_farOffAt), ("sculler/ptr.segAt", Rows.laid_sculler_ptr_segAt)] [.wider, .wider, .wider, .wider, .wider, .wider, .wider, .wider, .wider] true :=
  Program.laidByTextLater.sub seatTie1 ["sculler/ptr.kindAt", "sculler/ptr.offAt", "sculler/ptr.dataAt", "sculler/ptr.ptrsAt", "sculler/ptr.sizeAt", "sculler/ptr.countAt", "sculler/ptr.doubleAt", "sculler/ptr.farOffAt", "sculler/ptr.segAt"] (by kernel_rfl) (by kernel_rfl)
theorem readNull_row_tie : Rows.readNullRow.laidByTextAt .later Tryd.pinned [.wider, .wider, .wider, .wider, .wider, .wider, .wider, .wider, .wider] true :=
  OpenClaim.laidByTextAt_later rfl rfl tie noOwnUnsafe
theorem readFar_row_tie : Rows.readFarRow.laidByTextAt .later Tryd.pinned [.wider, .wider, .wider, .wider, .wider, .wider, .wider, .wider, .wider] true :=
  OpenClaim.laidByTextAt_later rfl rfl tie noOwnUnsafe
theorem readKinds_row_tie : Rows.readKindsRow.laidByTextAt .later Tryd.pinned [.wider, .wider, .wider, .wider, .wider, .wider, .wider, .wider, .wider] true :=
  OpenClaim.laidByTextAt_later rfl rfl tie noOwnUnsafe
theorem readNullUpto_row_tie : Rows.readNullUptoRow.laidByTextAt .later Tryd.pinned [.wider, .wider, .wider, .wider, .wider, .wider, .wider, .wider, .wider] true :=
  OpenClaim.laidByTextAt_later rfl rfl tie noOwnUnsafe
theorem readFarUpto_row_tie : Rows.readFarUptoRow.laidByTextAt .later Tryd.pinned [.wider, .wider, .wider, .wider, .wider, .wider, .wider, .wider, .wider] true :=
  OpenClaim.laidByTextAt_later rfl rfl tie noOwnUnsafe
theorem readKindsUpto_row_tie : Rows.readKindsUptoRow.laidByTextAt .later Tryd.pinned [.wider, .wider, .wider, .wider, .wider, .wider, .wider, .wider, .wider] true :=
  OpenClaim.laidByTextAt_later rfl rfl tie noOwnUnsafe
end Go.Proofs.YtmcnnihhnapjpaaDoor
