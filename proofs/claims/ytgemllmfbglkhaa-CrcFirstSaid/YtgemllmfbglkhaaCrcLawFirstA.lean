/-
  The walk of layer 2's law CrcFirst, where the number is odd: it returns true, and writes nothing that was there.
-/
import Derived.Test.YtgemllmfbglkhaaCrcFirstFacts
namespace Go.Proofs.Ytgemllmfbglkhaa
open Go.RowKit Go.Deep

set_option maxRecDepth 100000 in
set_option maxHeartbeats 16000000 in
theorem first_odd (c m : Nat) (w : World) (hc : c < 256) (hn : m * 2 + 1 < 4294967296) :
    Calls Try.prog 8 #[.int .u8 c, .int .u32 ((m * 2 + 1 : Nat) : Int)] w fun e w' => e = .returned (.bool true) ∧ Below w.heap.size w w' := by
  have hc32 : Ts 8 c < 4294967296 := Ts_lt (by omega)
  have ht := T_top hn
  have h32 := T_lt hn
  have hT : T (m * 2 + 1) = m ^^^ poly := by
    unfold T
    rw [if_pos (by omega), show (m * 2 + 1) / 2 = m by omega]
  have hx : bits BinOp.xor IntKind.u32 (T (m * 2 + 1) : Nat) 2197175160 = ((m : Nat) : Int) := by
    rw [show (2197175160 : Int) = ((poly : Nat) : Int) from rfl, u32_xor_nat (T (m * 2 + 1)) poly h32 (by decide), hT, xor_twice]
  have ht' : ((T (m * 2 + 1) : Nat) : Int) / 2147483648 = 1 := by omega
  have HS := Lib.hid (step_any (m * 2 + 1) · hn)
  clear ht hT
  generalize T (m * 2 + 1) = t at *
  go_enter Try.func8, Try.ntmps8
  go_wp2_with fail
  refine (table_any w).mono ?_
  rintro e w1 ⟨rfl, htab, hB1⟩
  have htc := htab.2 c hc
  obtain ⟨tc, htcE⟩ : ∃ tc, Ts 8 c = tc := ⟨_, rfl⟩
  rw [htcE] at htc hc32
  have HTc := Lib.hid htcE
  have HTab := Lib.hid htab
  have hxu := not_xor tc hc32
  clear htcE htab
  go_wp2_with (go_at_call 13; refine (HS.out _).mono ?_; rintro e w' ⟨rfl, rfl⟩)
  have hS0 := (Below.refl w1.heap.size w1).drew
  go_region_with (first
    | (go_at_call 10; refine (known_any _).mono ?_; rintro e wP ⟨rfl, hP⟩; have hS := bseq (a := w1) (by assumption) hP; have hcP := (HTab.out.on hS).2 c hc; have hcA := ((HTab.out.on hS).on (ba wP (.cells #[.int .u8 c] 5))).2 c hc; rw [HTc.out] at hcP hcA)
    | (go_at_call 15; with_reducible refine (more_one c w.heap.size wP hc (HTab.out.on hS)).mono ?_; rintro e w' ⟨rfl, rfl⟩; rw [HTc.out])
    | (go_at_call 17; with_reducible refine (sum_nil _).mono ?_; rintro e wR ⟨rfl, hR⟩))
  all_goals
    go_wp2
    go_ret
    exact ⟨by simp [Act.put], bseq hB1 (bseq hS (bseq (ba _ _) hR))⟩

end Go.Proofs.Ytgemllmfbglkhaa
