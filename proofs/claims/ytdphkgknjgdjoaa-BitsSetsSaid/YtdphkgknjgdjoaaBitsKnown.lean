/-
  The head of each law of layer 3: the chapter's example holds ('known' returns true), and nothing that was there is written.
-/
import Derived.Test.YtdphkgknjgdjoaaBitsOrGo
import Derived.Test.YtdphkgknjgdjoaaBitsOr
namespace Go.Proofs.Ytdphkgknjgdjoaa
open Go.RowKit Go.Deep

theorem lit_row (w : World) (l : List Int) : RowB (w.alloc (.cells (l.map (Value.int .u8)).toArray 5)) w.heap.size l := by
  unfold RowB
  rw [blk_alloc_new]
theorem lit_one (w : World) (x : Int) : Bytes (w.alloc (.cells #[.int .u8 x] 5)) (w.alloc (.cells #[.int .u8 x] 5)).heap.size (.slice (some ⟨w.heap.size, 0, none⟩) 1 1) [x] :=
  (lit_row w [x]).bytes (c := 1) (Nat.le_refl 1) (by omega)
theorem known_first : firstV [7] 5 = 3 := by decide +kernel
theorem known_count : cntL [7] = 3 := by decide +kernel
theorem known_make : makeN 9 = 2 := by decide
theorem known_get : getB [4] 2 = true := by decide +kernel
theorem AllB_one {x : Int} (h : 0 ≤ x ∧ x ≤ 255) : AllB [x] := fun y hy => by rw [List.mem_singleton.1 hy]; exact h

set_option maxHeartbeats 1000000 in
theorem known_any (w : World) : Calls Try.prog 10 #[] w fun e w' => e = .returned (.bool true) ∧ Below w.heap.size w w' := by
  have H1 := Lib.hid known_first
  have H2 := Lib.hid known_count
  have H3 := Lib.hid known_make
  have H4 := Lib.hid known_get
  have A7 : Hid (AllB [7]) := Lib.hid (AllB_one (by omega))
  have A4 : Hid (AllB [4]) := Lib.hid (AllB_one (by omega))
  go_enter Try.func10, Try.ntmps10
  go_wp2_with fail
  refine (bfirst_any _ [7] 5 _ (lit_one w 7) A7.out (by decide)).mono ?_
  rintro e w1 ⟨rfl, hB1⟩
  rw [H1.out]
  go_wp2_with fail
  refine (bcount_any _ [7] _ _ (lit_one w1 7) A7.out (by decide)).mono ?_
  rintro e w' ⟨rfl, rfl⟩
  rw [H2.out]
  go_wp2_with fail
  refine (bmake_row 9 _).mono ?_
  rintro e w2 ⟨rfl, -, hB2⟩
  rw [H3.out]
  go_wp2_with fail
  refine (bget_any _ [4] _ 2 _ (lit_one w2 4) A4.out (by omega) (by omega)).mono ?_
  rintro e w' ⟨rfl, rfl⟩
  rw [H4.out]
  go_wp2
  go_ret
  exact ⟨rfl, bseq ((Below.refl _ w).alloc (Nat.le_refl _) _) (bseq hB1 (bseq ((Below.refl _ w1).alloc (Nat.le_refl _) _) (bseq hB2 ((Below.refl _ w2).alloc (Nat.le_refl _) _))))⟩

end Go.Proofs.Ytdphkgknjgdjoaa
