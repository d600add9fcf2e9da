/-
  Plain facts and contracts for layer 2's law CrcFirst.
-/
import Derived.Test.YtgemllmfbglkhaaCrcKnown
namespace Go.Proofs.Ytgemllmfbglkhaa
open Go.RowKit Go.Deep

theorem ba (W : World) (o : Obj) : Below W.heap.size W (W.alloc o) := (Below.refl _ _).alloc (Nat.le_refl _) _
theorem first_more (c : Nat) : crcMore 4294967295 (nats [(c : Int)]) = Ts 8 c ^^^ ones := by
  have : nats [(c : Int)] = [c] := by simp [nats]
  rw [this]
  unfold crcMore U
  simp only [List.foldl_cons, List.foldl_nil, upd]
  rw [show (4294967295 : Nat) ^^^ ones = 0 from by decide, Nat.zero_xor]

theorem more_one (c b : Nat) (W : World) (hc : c < 256) (ht : TabAt W W.heap.size b) :
    Calls Try.prog 15 #[.pointer (some ⟨b, 0, none⟩), .int .u32 4294967295, .slice (some ⟨W.heap.size, 0, none⟩) 1 1] (W.alloc (.cells #[.int .u8 c] 5)) fun e w' => e = .returned (.int .u32 ((Ts 8 c ^^^ ones : Nat) : Int)) ∧ W.alloc (.cells #[.int .u8 c] 5) = w' := by
  have h := more_any 4294967295 b _ (.slice (some ⟨W.heap.size, 0, none⟩) 1 1) [(c : Int)] (W.alloc (.cells #[.int .u8 c] 5)) (by decide) ((lit_bytes W #[.int .u8 c] 1 (0, 0) [(c : Int)] rfl rfl (by simp)).more (Nat.le_of_eq (World.size_alloc _ _).symm)) (by intro x hx; simp at hx; omega) (ht.on (ba W _))
  rw [first_more] at h
  exact h
theorem sum_nil (W : World) : Calls Try.prog 17 #[.slice none 0 0] W fun e w' => e = .returned (.int .u32 0) ∧ Below W.heap.size W w' := by
  have h := sum_any (.slice none 0 0) [] W ⟨none, 0, rfl, Nat.le_refl _, by omega, fun h => by simp at h⟩ (fun _ h => by simp at h)
  rwa [show crcSum (nats []) = 0 from by decide] at h

theorem not_xor (tc : Nat) (h : tc < 4294967296) : bits BinOp.xor IntKind.u32 (if IntKind.u32.signed = true then -1 else IntKind.u32.max) (tc : Int) = ((tc ^^^ ones : Nat) : Int) := by
  have e : (if IntKind.u32.signed = true then -1 else IntKind.u32.max) = ((ones : Nat) : Int) := rfl
  rw [e, u32_xor_nat ones tc ones_lt h, Nat.xor_comm]

end Go.Proofs.Ytgemllmfbglkhaa
