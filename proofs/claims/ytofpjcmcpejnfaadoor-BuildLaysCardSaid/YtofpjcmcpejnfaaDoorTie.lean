/-
  DERIVED. GIVEN WITH THE SEED: THE PROGRAM's TIES (one call each: nine closed facts by the kernel) AND EACH ROW's TIE, after the 31st guide's Derived/Test/Toyas{Tie, Card}.lean. No idea stands in it: it is a product of the set-up. Laid BY PROGRAM, IN A SANDBOX (cutbox-door.mjs). By AI agents, Wed Nov 11 2026. No macro, syntax, notation, axiom, sorry.
-/
import Derived.Test.YtofpjcmcpejnfaaDoorRows
import Derived.LaidByTextLater
import Derived.SevenTiedAt
import Derived.LaidSub
import Derived.LaidOnce
namespace Go.Proofs.YtofpjcmcpejnfaaDoor
open Go
set_option maxRecDepth 100000
theorem seatTie1 : Tryd.prog.laidByTextLater [("sculler/ptr.kindAt", Rows.laid_sculler_ptr_kindAt), ("sculler/ptr.offAt", Rows.laid_sculler_ptr_offAt), ("sculler/ptr.dataAt", Rows.laid_sculler_ptr_dataAt), ("sculler/ptr.ptrsAt", Rows.laid_sculler_ptr_ptrsAt), ("sculler/ptr.sizeAt", Rows.laid_sculler_ptr_sizeAt), ("sculler/ptr.countAt", Rows.laid_sculler_ptr_countAt), ("sculler/ptr.doubleAt", Rows.laid_sculler_ptr_doubleAt), ("sculler/ptr.farOffAt", Rows.laid_sculler_ptr_farOffAt), ("sculler/ptr.segAt", Rows.laid_sculler_ptr_segAt)] [.wider, .wider, .wider, .wider, .wider, .wider, .wider, .wider, .wider] true :=
  Program.laidByTextLater_by_one 54 8 3 (by kernel_rfl) (by kernel_rfl) (by kernel_rfl) (by kernel_rfl) (by kernel_rfl) (by kernel_rfl) (fun _ _ => by kernel_rfl)
theorem noOwnUnsafe : Tryd.pinned.checked.prog.headLifts.contains "ownunsafe" = false := by kernel_rfl
theorem tie : Tryd.prog.laidByTextLater [("sculler/ptr.kindAt", Rows.laid_sculler_ptr_kindAt), ("sculler/ptr.offAt", Rows.laid_sculler_ptr_offAt), ("sculler/ptr.dataAt", Rows.laid_sculler_ptr_dataAt), ("sculler/ptr.ptrsAt", Rows.laid_sculler_ptr_ptrsAt), ("sculler/ptr.sizeAt", Rows.laid_sculler_ptr_sizeAt), ("sculler/ptr.countAt", Rows.laid_sculler_ptr_countAt), ("sculler/ptr.doubleAt", Rows.laid_sculler_ptr_doubleAt), ("sculler/ptr.farOffAt", Rows.laid_sculler_ptr_farOffAt), ("sculler/ptr.segAt", Rows.laid_sculler_ptr_segAt)] [.wider, .wider, .wider, .wider, .wider, .wider, .wider, .wider, .wider] true :=
  Program.laidByTextLater.sub seatTie1 ["sculler/ptr.kindAt", "sculler/ptr.offAt", "sculler/ptr.dataAt", "sculler/ptr.ptrsAt", "sculler/ptr.sizeAt", "sculler/ptr.countAt", "sculler/ptr.doubleAt", "sculler/ptr.farOffAt", "sculler/ptr.segAt"] (by kernel_rfl) (by kernel_rfl)
theorem buildLays_row_tie : Rows.buildLaysRow.laidByTextAt .later Tryd.pinned [.wider, .wider, .wider, .wider, .wider, .wider, .wider, .wider, .wider] true :=
  OpenClaim.laidByTextAt_later rfl rfl tie noOwnUnsafe
theorem buildSizes_row_tie : Rows.buildSizesRow.laidByTextAt .later Tryd.pinned [.wider, .wider, .wider, .wider, .wider, .wider, .wider, .wider, .wider] true :=
  OpenClaim.laidByTextAt_later rfl rfl tie noOwnUnsafe
theorem buildDeep_row_tie : Rows.buildDeepRow.laidByTextAt .later Tryd.pinned [.wider, .wider, .wider, .wider, .wider, .wider, .wider, .wider, .wider] true :=
  OpenClaim.laidByTextAt_later rfl rfl tie noOwnUnsafe
theorem buildOdd_row_tie : Rows.buildOddRow.laidByTextAt .later Tryd.pinned [.wider, .wider, .wider, .wider, .wider, .wider, .wider, .wider, .wider] true :=
  OpenClaim.laidByTextAt_later rfl rfl tie noOwnUnsafe
theorem buildTwice_row_tie : Rows.buildTwiceRow.laidByTextAt .later Tryd.pinned [.wider, .wider, .wider, .wider, .wider, .wider, .wider, .wider, .wider] true :=
  OpenClaim.laidByTextAt_later rfl rfl tie noOwnUnsafe
theorem buildEmpty_row_tie : Rows.buildEmptyRow.laidByTextAt .later Tryd.pinned [.wider, .wider, .wider, .wider, .wider, .wider, .wider, .wider, .wider] true :=
  OpenClaim.laidByTextAt_later rfl rfl tie noOwnUnsafe
theorem buildLaysUpto_row_tie : Rows.buildLaysUptoRow.laidByTextAt .later Tryd.pinned [.wider, .wider, .wider, .wider, .wider, .wider, .wider, .wider, .wider] true :=
  OpenClaim.laidByTextAt_later rfl rfl tie noOwnUnsafe
theorem buildSizesUpto_row_tie : Rows.buildSizesUptoRow.laidByTextAt .later Tryd.pinned [.wider, .wider, .wider, .wider, .wider, .wider, .wider, .wider, .wider] true :=
  OpenClaim.laidByTextAt_later rfl rfl tie noOwnUnsafe
theorem buildDeepUpto_row_tie : Rows.buildDeepUptoRow.laidByTextAt .later Tryd.pinned [.wider, .wider, .wider, .wider, .wider, .wider, .wider, .wider, .wider] true :=
  OpenClaim.laidByTextAt_later rfl rfl tie noOwnUnsafe
theorem buildOddUpto_row_tie : Rows.buildOddUptoRow.laidByTextAt .later Tryd.pinned [.wider, .wider, .wider, .wider, .wider, .wider, .wider, .wider, .wider] true :=
  OpenClaim.laidByTextAt_later rfl rfl tie noOwnUnsafe
theorem buildTwiceUpto_row_tie : Rows.buildTwiceUptoRow.laidByTextAt .later Tryd.pinned [.wider, .wider, .wider, .wider, .wider, .wider, .wider, .wider, .wider] true :=
  OpenClaim.laidByTextAt_later rfl rfl tie noOwnUnsafe
theorem buildEmptyUpto_row_tie : Rows.buildEmptyUptoRow.laidByTextAt .later Tryd.pinned [.wider, .wider, .wider, .wider, .wider, .wider, .wider, .wider, .wider] true :=
  OpenClaim.laidByTextAt_later rfl rfl tie noOwnUnsafe
end Go.Proofs.YtofpjcmcpejnfaaDoor
