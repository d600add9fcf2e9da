/-
  Contracts of layer 2's functions on numbers: crc.Step, the document's Step and Eight, crc.Table and its closure: each returns what the plain function says, and writes nothing that was there.
-/
import Derived.Test.YtgemllmfbglkhaaRows
import Derived.Test.YtgemllmfbglkhaaCrcMathB
import Derived.Test.YtgemllmfbglkhaaWordFacts
import Derived.WalkKit
import Derived.WalkSpells
import Derived.WalkLawsBesides
import Derived.Lib.Hide
namespace Go.Proofs.Ytgemllmfbglkhaa
open Go.RowKit

theorem T_odd {n : Nat} (hn : n < 4294967296) (h : n % 2 = 1) : bits BinOp.xor IntKind.u32 ((n : Int) / 2) 2197175160 = (T n : Nat) := by
  have e := u32_xor_nat (n / 2) 2197175160 (by omega) (by omega)
  unfold T
  rw [if_pos h]
  exact e
theorem T_even {n : Nat} (h : ¬ n % 2 = 1) : ((n : Int) / 2) = (T n : Nat) := by
  unfold T
  rw [if_neg h]
  rfl

set_option maxHeartbeats 400000 in
theorem step_any (n : Nat) (w : World) (hn : n < 4294967296) :
    Calls Try.prog 13 #[.int .u32 n] w fun e w' => e = .returned (.int .u32 (T n : Nat)) ∧ w = w' := by
  by_cases ho : n % 2 = 1
  · go_enter Try.func13, Try.ntmps13
    go_wp2
    go_ret
    exact ⟨congrArg (fun x => Ending.returned (.int .u32 x)) (T_odd hn ho), rfl⟩
  · go_enter Try.func13, Try.ntmps13
    go_wp2
    go_ret
    exact ⟨congrArg (fun x => Ending.returned (.int .u32 x)) (T_even ho), rfl⟩

set_option maxHeartbeats 400000 in
theorem stepr_any (n : Nat) (w : World) (hn : n < 4294967296) :
    Calls Try.prog 14 #[.int .u32 n] w fun e w' => e = .returned (.int .u32 (T n : Nat)) ∧ w = w' := by
  by_cases ho : n % 2 = 1
  · go_enter Try.func14, Try.ntmps14
    go_wp2
    go_ret
    exact ⟨congrArg (fun x => Ending.returned (.int .u32 x)) (T_odd hn ho), rfl⟩
  · go_enter Try.func14, Try.ntmps14
    go_wp2
    go_ret
    exact ⟨congrArg (fun x => Ending.returned (.int .u32 x)) (T_even ho), rfl⟩

set_option maxHeartbeats 400000 in
/-- the document's Eight -/
theorem eight_any (c : Nat) (w : World) (hc : c < 256) :
    Calls Try.prog 12 #[.int .u8 c] w fun e w' => e = .returned (.int .u32 (Ts 8 c : Nat)) ∧ w = w' := by
  go_enter Try.func12, Try.ntmps12
  go_wp2
  go_loop [3, 4] (fun n k => ∃ t : Nat, t ≤ 8 ∧ k = .int .i64 t ∧ n = .int .u32 (Ts t c : Nat)) (fun _ k => 8 - (intOf k).toNat)
  case atStart => exact ⟨0, by omega, rfl, by simp [Ts]⟩
  case round =>
    obtain ⟨t, ht, rfl, rfl⟩ := hrel
    by_cases hlt : t < 8
    · have hb : Ts t c < 4294967296 := Ts_lt (by omega)
      have HS := Lib.hid (Ts_succ t c)
      generalize Ts t c = q at *
      go_wp2_with (go_at_call 14; refine (stepr_any q _ hb).mono ?_; rintro e w' ⟨rfl, rfl⟩)
      go_round
      case rel => exact ⟨t + 1, by omega, by go_num, by rw [HS.out]⟩
      case measure => simp [intOf]; omega
    · obtain rfl : t = 8 := by omega
      go_wp2
      go_ret
      exact ⟨rfl, rfl⟩

set_option maxHeartbeats 400000 in
/-- what eight Steps make, by the closure -/
theorem steps1_any (n B : Nat) (w : World) (hn : n < 4294967296) (hB : w.cell? ⟨B, 0, none⟩ = some (.int .i64 8)) :
    Calls Try.prog 28 #[.int .u32 n, .pointer (some ⟨B, 0, none⟩)] w fun e w' => e = .returned (.int .u32 (Ts 8 n : Nat)) ∧ w = w' := by
  go_enter Try.func28, Try.ntmps28
  go_wp2
  go_loop [0, 5] (fun n' k => ∃ t : Nat, t ≤ 8 ∧ k = .int .i64 t ∧ n' = .int .u32 (Ts t n : Nat)) (fun _ k => 8 - (intOf k).toNat)
  case atStart => exact ⟨0, by omega, rfl, by simp [Ts]⟩
  case round =>
    obtain ⟨t, ht, rfl, rfl⟩ := hrel
    by_cases hlt : t < 8
    · have hb : Ts t n < 4294967296 := Ts_lt hn
      have HS := Lib.hid (Ts_succ t n)
      generalize Ts t n = q at *
      go_wp2_with (go_at_call 13; refine (step_any q _ hb).mono ?_; rintro e w' ⟨rfl, rfl⟩)
      go_round
      case rel => exact ⟨t + 1, by omega, by go_num, by rw [HS.out]⟩
      case measure => simp [intOf]; omega
    · obtain rfl : t = 8 := by omega
      go_wp2
      go_ret
      exact ⟨rfl, rfl⟩

set_option maxHeartbeats 400000 in
theorem steps_any (k : Int) (w : World) :
    Calls Try.prog 23 #[.int .i64 k] w fun e w' => e = .returned (.func (.func 28) #[] #[.pointer (some ⟨w.heap.size, 0, none⟩)]) ∧ w' = w.alloc (.cells #[.int .i64 k] 3) := by
  go_enter Try.func23, Try.ntmps23
  go_wp2
  go_ret
  exact ⟨rfl, rfl⟩

end Go.Proofs.Ytgemllmfbglkhaa
