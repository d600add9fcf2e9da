/-
  The walk of layer 2's law CrcFirst: it returns true, and writes nothing that was there.
-/
import Derived.Test.YtgemllmfbglkhaaCrcLawFirstA
import Derived.Test.YtgemllmfbglkhaaCrcLawFirstB
namespace Go.Proofs.Ytgemllmfbglkhaa
open Go.RowKit Go.Deep

theorem first_walk (c n : Nat) (w : World) (hc : c < 256) (hn : n < 4294967296) :
    Calls Try.prog 8 #[.int .u8 c, .int .u32 (n : Int)] w fun e w' => e = .returned (.bool true) ∧ Below w.heap.size w w' := by
  rcases Nat.mod_two_eq_zero_or_one n with h | h
  · obtain ⟨m, rfl⟩ : ∃ m, n = m * 2 := ⟨n / 2, by omega⟩
    exact first_even c m w hc hn
  · obtain ⟨m, rfl⟩ : ∃ m, n = m * 2 + 1 := ⟨n / 2, by omega⟩
    exact first_odd c m w hc hn

end Go.Proofs.Ytgemllmfbglkhaa
