/-
  The walk of layer 3's law BitsAsk: it returns true, and writes nothing that was there.
-/
import Derived.Test.YtdphkgknjgdjoaaBitsAsks
namespace Go.Proofs.Ytdphkgknjgdjoaa
open Go.RowKit Go.Deep

set_option maxRecDepth 100000 in
set_option maxHeartbeats 4000000 in
theorem ask_walk (i n : Int) (k : Nat) (A : Option Addr) (len cap : Nat) (l : List Int) (w : World) (hk : k < 256) (hlen : l.length = len) (hl : AllB l) (hb : Bytes w w.heap.size (.slice A len cap) l)
    (i0 : -9223372036854775808 ≤ i) (i1 : i ≤ 9223372036854775807) (n0 : -9223372036854775808 ≤ n) (n1 : n ≤ 9223372036854775807) :
    Calls Try.prog 3 #[.slice A len cap, .int .i64 i, .int .i64 n, .int .u8 k] w fun e w' => e = .returned (.bool true) ∧ Below w.heap.size w w' := by
  have HB := Lib.hid hb
  have HL := Lib.hid hlen
  by_cases hlong : 200 < len
  · clear hb hlen
    have d0 : decide (200 < (len : Int)) = true := decide_eq_true (by omega)
    go_enter Try.func3, Try.ntmps3
    go_wp2_with (go_at_call 10; refine (known_any _).mono ?_; rintro e w1 ⟨rfl, hB⟩)
    go_ret
    exact ⟨rfl, hB⟩
  · have d0 : decide (200 < (len : Int)) = false := decide_eq_false (by omega)
    have HA := Lib.hid hl
    have hle : len ≤ 1000000 := by omega
    obtain ⟨M, hM⟩ : ∃ M, makeN (k : Int) = M := ⟨_, rfl⟩
    have hM2 : M ≤ 8192 := by rw [← hM]; exact makeN_le _
    have HM := Lib.hid hM
    obtain ⟨N, hN⟩ : ∃ N, makeN ((k : Int) + 9) = N := ⟨_, rfl⟩
    have hN2 : N ≤ 8192 := by rw [← hN]; exact makeN_le _
    have HN := Lib.hid hN
    have HSA : Hid (AllB (setL (List.replicate N 0) (k : Nat))) := Lib.hid (setL_AllB (zerosL_AllB N) _)
    have HSL : Hid ((setL (List.replicate N 0) (k : Nat)).length = N) := Lib.hid ((setL_length _ _).trans (by simp))
    clear hb hlen hl hM hN
    go_enter Try.func3, Try.ntmps3
    go_wp2_with fail
    refine (known_any _).mono ?_
    rintro e w1 ⟨rfl, hB1⟩
    go_wp2_with fail
    refine (asks_any i n A len cap l _ HL.out HA.out (HB.out.on hB1) hle i0 i1 n0 n1).mono ?_
    rintro e w2 ⟨rfl, hB2⟩
    have hS2 := bseq hB1 hB2
    go_wp2_with fail
    refine (asks_any (k : Nat) _ A len cap l _ HL.out HA.out (HB.out.on hS2) hle (by omega) (by omega) (by omega) (by omega)).mono ?_
    rintro e w3 ⟨rfl, hB3⟩
    have hS3 := bseq hS2 hB3
    go_wp2_with fail
    refine (bmake_row _ _).mono ?_
    rintro e w4 ⟨rfl, hr4, hB4⟩
    rw [HM.out] at hr4 ⊢
    have HY4 := Lib.hid (hr4.whole (M := M) (by simp) (by omega))
    have hS4 := bseq hS3 hB4
    clear hr4
    go_wp2_with fail
    refine (asks_any _ _ _ M M (List.replicate M 0) _ (by simp) (zerosL_AllB M) HY4.out (by omega) (by omega) (by omega) (by omega) (by omega)).mono ?_
    rintro e w5 ⟨rfl, hB5⟩
    have hS5 := bseq hS4 hB5
    go_wp2_with fail
    refine (bmake_row _ _).mono ?_
    rintro e w6 ⟨rfl, hr6, hB6⟩
    rw [HN.out] at hr6 ⊢
    have HY6 := Lib.hid (hr6.whole (M := N) (by simp) (by omega))
    have hS6 := bseq hS5 hB6
    clear hr6
    go_wp2_with fail
    refine (rset_any _ (List.replicate N 0) _ _ HY6.out (zerosL_AllB N) (by simp; omega) (by omega) (by omega)).mono ?_
    rintro e w7 ⟨v7, rfl, hy7, hB7⟩
    obtain ⟨A7, c7, rfl⟩ := hy7.form HSL.out
    have HY7 := Lib.hid hy7
    have hS7 := bseq hS6 hB7
    clear hy7
    go_wp2_with fail
    refine (asks_any _ _ _ N _ _ _ HSL.out HSA.out HY7.out (by omega) (by omega) (by omega) (by omega) (by omega)).mono ?_
    rintro e w8 ⟨rfl, hB8⟩
    go_wp2_with fail
    go_ret
    exact ⟨rfl, bseq hS7 hB8⟩

end Go.Proofs.Ytdphkgknjgdjoaa
