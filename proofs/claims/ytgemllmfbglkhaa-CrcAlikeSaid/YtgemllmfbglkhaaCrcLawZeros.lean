/-
  The walk of layer 2's law CrcZeros: it returns true, and writes nothing that was there.
-/
import Derived.Test.YtgemllmfbglkhaaCrcKnown
namespace Go.Proofs.Ytgemllmfbglkhaa
open Go.RowKit Go.Deep

theorem nats_zeros (k : Nat) : nats (List.replicate k 0) = List.replicate k 0 := by simp [nats]
theorem AllB_zeros (k : Nat) : AllB (List.replicate k 0) := fun x hx => by rw [List.eq_of_mem_replicate hx]; omega
/-- make([]byte, k) -/
theorem make_bytes (w : World) (k : Nat) (hk : k ≤ 1000000) : Bytes (w.alloc (.cells (madeCells #[Value.int .u8 0] k) 5)) (w.heap.size + 1) (.slice (some ⟨w.heap.size, 0, none⟩) k k) (List.replicate k 0) := by
  have hrow := World.rowIs_made w (.int .u8 0) k 5
  refine ⟨_, k, by rw [List.length_replicate], by rw [List.length_replicate]; exact Nat.le_refl _, by omega, fun hp => ⟨_, _, rfl, by omega, fun j hj => ?_⟩⟩
  rw [List.length_replicate] at hj
  rw [Nat.zero_add, hrow.cell hj]
  simp [hj]
/-- it lasts: just made, another block behind it, another block ahead of it -/
theorem za (W : World) (k : Nat) (hk : k ≤ 1000000) : Bytes (W.alloc (.cells (madeCells #[Value.int .u8 0] k) 5)) (W.alloc (.cells (madeCells #[Value.int .u8 0] k) 5)).heap.size (.slice (some ⟨W.heap.size, 0, none⟩) k k) (List.replicate k 0) := (make_bytes W k hk).more (by simp)
theorem zb (W : World) (k : Nat) (o : Obj) (hk : k ≤ 1000000) : Bytes ((W.alloc (.cells (madeCells #[Value.int .u8 0] k) 5)).alloc o) ((W.alloc (.cells (madeCells #[Value.int .u8 0] k) 5)).alloc o).heap.size (.slice (some ⟨W.heap.size, 0, none⟩) k k) (List.replicate k 0) := (za W k hk).on ((Below.refl _ _).alloc (Nat.le_refl _) _)
theorem zc (W : World) (k : Nat) (o : Obj) (hk : k ≤ 1000000) : Bytes ((W.alloc o).alloc (.cells (madeCells #[Value.int .u8 0] k) 5)) ((W.alloc o).alloc (.cells (madeCells #[Value.int .u8 0] k) 5)).heap.size (.slice (some ⟨W.heap.size + 1, 0, none⟩) k k) (List.replicate k 0) := by
  have h := za (W.alloc o) k hk
  have e : (W.alloc o).heap.size = W.heap.size + 1 := World.size_alloc _ _
  rw [e] at h
  exact h
theorem ba (W : World) (o : Obj) : Below W.heap.size W (W.alloc o) := (Below.refl _ _).alloc (Nat.le_refl _) _
theorem bb (W : World) (o o' : Obj) : Below W.heap.size W ((W.alloc o).alloc o') := bseq (ba W o) (ba _ o')
theorem zeros_sum {x y : Nat} (hx : x < 1000) (hy : y < 1000) : ((crcSum (nats (List.replicate x 0)) : Int) == (crcSum (nats (List.replicate y 0)) : Int)) = ((x : Int) == (y : Int)) := by
  rw [nats_zeros, nats_zeros, Bool.eq_iff_iff, beq_iff_eq, beq_iff_eq]
  constructor
  · intro h
    rw [zeros_differ hx hy (Int.ofNat.inj h)]
  · intro h
    rw [Int.ofNat.inj h]

set_option maxHeartbeats 4000000 in
theorem zeros_walk (a b : Int) (w : World) (a0 : 0 ≤ a) (a1 : a ≤ 65535) (b0 : 0 ≤ b) (b1 : b ≤ 65535) :
    Calls Try.prog 9 #[.int .u16 a, .int .u16 b] w fun e w' => e = .returned (.bool true) ∧ Below w.heap.size w w' := by
  obtain ⟨x, hx⟩ := Int.eq_ofNat_of_zero_le (show 0 ≤ a % 1000 by omega)
  obtain ⟨y, hy⟩ := Int.eq_ofNat_of_zero_le (show 0 ≤ b % 1000 by omega)
  have x1 : x < 1000 := by omega
  have y1 : y < 1000 := by omega
  have HZ := Lib.hid (zeros_sum x1 y1)
  have x6 : x ≤ 1000000 := by omega
  have y6 : y ≤ 1000000 := by omega
  have hmx := run_make_row' (P := Try.prog) 23 5 (.int .u8 0) 1 Try.underlying23 Try.info5 rfl .i64 .i64 x (by omega) (by omega)
  have hmy := run_make_row' (P := Try.prog) 23 5 (.int .u8 0) 1 Try.underlying23 Try.info5 rfl .i64 .i64 y (by omega) (by omega)
  have hS0 := (Below.refl w.heap.size w).drew
  go_enter Try.func9, Try.ntmps9
  go_wp2
  go_region_with (first
    | (go_at_call 10; refine (known_any _).mono ?_; rintro e wP ⟨rfl, hP⟩; have hS := bseq (a := w) (by assumption) hP)
    | (go_at_call 17; with_reducible refine (sum_any (.slice _ x x) (List.replicate x 0) _ ?h (AllB_zeros x)).mono ?_; (case h => first | with_reducible exact za _ x x6 | with_reducible exact zb _ x _ x6 | with_reducible exact zc _ x _ x6); rintro e wQ ⟨rfl, hQ⟩; have hT : Below wP.heap.size wP wQ := by first | with_reducible exact bseq (ba _ _) hQ | with_reducible exact bseq (bb _ _ _) hQ)
    | (go_at_call 17; with_reducible refine (sum_any (.slice _ y y) (List.replicate y 0) _ ?h (AllB_zeros y)).mono ?_; (case h => first | with_reducible exact za _ y y6 | with_reducible exact (zb _ y _ y6).on hQ | with_reducible exact (zc _ y _ y6).on hQ); rintro e wR ⟨rfl, hR⟩; have hU : Below wQ.heap.size wQ wR := by first | with_reducible exact bseq (ba _ _) hR | with_reducible exact hR))
  all_goals
    rw [HZ.out]
    go_wp2
    go_ret
    exact ⟨by simp [Act.put], bseq hS (bseq hT hU)⟩

end Go.Proofs.Ytgemllmfbglkhaa
