/-
  DERIVED. GIVEN WITH THE SEED: THE PROGRAM's TIES (one call each: nine closed facts by the kernel) AND EACH ROW's TIE, after the 31st guide's Derived/Test/Toyas{Tie, Card}.lean. No idea stands in it: it is a product of the set-up. Laid BY PROGRAM, IN A SANDBOX (cutbox-door.mjs). By AI agents, Wed Nov 11 2026. No macro, syntax, notation, axiom, sorry.
-/
import Derived.Test.YtknmbohokmeidaaDoorRows
import Derived.LaidByTextLater
import Derived.SevenTiedAt
import Derived.LaidSub
import Derived.LaidOnce
namespace Go.Proofs.YtknmbohokmeidaaDoor
open Go
set_option maxRecDepth 100000
theorem seatTie1 : Tryd.prog.laidByTextLater [("sculler/ptr.kindAt", Rows.laid_sculler_ptr_kindAt), ("sculler/ptr.offAt", Rows.laid_sculler_ptr_offAt), ("sculler/ptr.dataAt", Rows.laid_sculler_ptr_dataAt), ("sculler/ptr.ptrsAt", Rows.laid_sculler_ptr_ptrsAt), ("sculler/ptr.sizeAt", Rows.laid_sculler_ptr_sizeAt), ("sculler/ptr.countAt", Rows.laid_sculler_ptr_countAt), ("sculler/ptr.doubleAt", Rows.laid_sculler_ptr_doubleAt), ("sculler/ptr.farOffAt", Rows.laid_sculler_ptr_farOffAt), ("sculler/ptr.segAt", Rows.laid_sculler_ptr_segAt)] [.wider, .wider, .wider, .wider, .wider, .wider, .wider, .wider, .wider] true :=
  Program.laidByTextLater_by_one 54 8 3 (by kernel_rfl) (by kernel_rfl) (by kernel_rfl) (by kernel_rfl) (by kernel_rfl) (by kernel_rfl) (fun _ _ => by kernel_rfl)
theorem noOwnUnsafe : Tryd.pinned.checked.prog.headLifts.contains "ownunsafe" = false := by kernel_rfl
theorem tie : Tryd.prog.laidByTextLater [("sculler/ptr.kindAt", Rows.laid_sculler_ptr_kindAt), ("sculler/ptr.offAt", Rows.laid_sculler_ptr_offAt), ("sculler/ptr.dataAt", Rows.laid_sculler_ptr_dataAt), ("sculler/ptr.ptrsAt", Rows.laid_sculler_ptr_ptrsAt), ("sculler/ptr.sizeAt", Rows.laid_sculler_ptr_sizeAt), ("sculler/ptr.countAt", Rows.laid_sculler_ptr_countAt), ("sculler/ptr.doubleAt", Rows.laid_sculler_ptr_doubleAt), ("sculler/ptr.farOffAt", Rows.laid_sculler_ptr_farOffAt), ("sculler/ptr.segAt", Rows.laid_sculler_ptr_segAt)] [.wider, .wider, .wider, .wider, .wider, .wider, .wider, .wider, .wider] true :=
  Program.laidByTextLater.sub seatTie1 ["sculler/ptr.kindAt", "sculler/ptr.offAt", "sculler/ptr.dataAt", "sculler/ptr.ptrsAt", "sculler/ptr.sizeAt", "sculler/ptr.countAt", "sculler/ptr.doubleAt", "sculler/ptr.farOffAt", "sculler/ptr.segAt"] (by kernel_rfl) (by kernel_rfl)
theorem ptrDecodes_row_tie : Rows.ptrDecodesRow.laidByTextAt .later Tryd.pinned [.wider, .wider, .wider, .wider, .wider, .wider, .wider, .wider, .wider] true :=
  OpenClaim.laidByTextAt_later rfl rfl tie noOwnUnsafe
theorem ptrBack_row_tie : Rows.ptrBackRow.laidByTextAt .later Tryd.pinned [.wider, .wider, .wider, .wider, .wider, .wider, .wider, .wider, .wider] true :=
  OpenClaim.laidByTextAt_later rfl rfl tie noOwnUnsafe
theorem ptrFields_row_tie : Rows.ptrFieldsRow.laidByTextAt .later Tryd.pinned [.wider, .wider, .wider, .wider, .wider, .wider, .wider, .wider, .wider] true :=
  OpenClaim.laidByTextAt_later rfl rfl tie noOwnUnsafe
theorem ptrWords_row_tie : Rows.ptrWordsRow.laidByTextAt .later Tryd.pinned [.wider, .wider, .wider, .wider, .wider, .wider, .wider, .wider, .wider] true :=
  OpenClaim.laidByTextAt_later rfl rfl tie noOwnUnsafe
theorem ptrKinds_row_tie : Rows.ptrKindsRow.laidByTextAt .later Tryd.pinned [.wider, .wider, .wider, .wider, .wider, .wider, .wider, .wider, .wider] true :=
  OpenClaim.laidByTextAt_later rfl rfl tie noOwnUnsafe
theorem ptrOffs_row_tie : Rows.ptrOffsRow.laidByTextAt .later Tryd.pinned [.wider, .wider, .wider, .wider, .wider, .wider, .wider, .wider, .wider] true :=
  OpenClaim.laidByTextAt_later rfl rfl tie noOwnUnsafe
theorem ptrDecodesUpto_row_tie : Rows.ptrDecodesUptoRow.laidByTextAt .later Tryd.pinned [.wider, .wider, .wider, .wider, .wider, .wider, .wider, .wider, .wider] true :=
  OpenClaim.laidByTextAt_later rfl rfl tie noOwnUnsafe
theorem ptrBackUpto_row_tie : Rows.ptrBackUptoRow.laidByTextAt .later Tryd.pinned [.wider, .wider, .wider, .wider, .wider, .wider, .wider, .wider, .wider] true :=
  OpenClaim.laidByTextAt_later rfl rfl tie noOwnUnsafe
theorem ptrFieldsUpto_row_tie : Rows.ptrFieldsUptoRow.laidByTextAt .later Tryd.pinned [.wider, .wider, .wider, .wider, .wider, .wider, .wider, .wider, .wider] true :=
  OpenClaim.laidByTextAt_later rfl rfl tie noOwnUnsafe
theorem ptrWordsUpto_row_tie : Rows.ptrWordsUptoRow.laidByTextAt .later Tryd.pinned [.wider, .wider, .wider, .wider, .wider, .wider, .wider, .wider, .wider] true :=
  OpenClaim.laidByTextAt_later rfl rfl tie noOwnUnsafe
theorem ptrKindsUpto_row_tie : Rows.ptrKindsUptoRow.laidByTextAt .later Tryd.pinned [.wider, .wider, .wider, .wider, .wider, .wider, .wider, .wider, .wider] true :=
  OpenClaim.laidByTextAt_later rfl rfl tie noOwnUnsafe
theorem ptrOffsUpto_row_tie : Rows.ptrOffsUptoRow.laidByTextAt .later Tryd.pinned [.wider, .wider, .wider, .wider, .wider, .wider, .wider, .wider, .wider] true :=
  OpenClaim.laidByTextAt_later rfl rfl tie noOwnUnsafe
end Go.Proofs.YtknmbohokmeidaaDoor
