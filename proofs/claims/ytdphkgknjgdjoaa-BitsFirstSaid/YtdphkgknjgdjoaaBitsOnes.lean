/-
  bits.ones, a range over a function: the bits that are set come, the least first. The iterator's contract.
-/
import Derived.RangeFuncNested
import Derived.RangeFuncBound
import Derived.RangeFuncCalls
import Derived.RangeFuncLeaves
import Derived.RangeFuncBox
import Derived.Shelf.Abstract
import Derived.Shelf.RegionOpen
import Derived.WalkKit
import Derived.OwnWalkIn
import Derived.TacticsInMore
import Derived.LoopNIn
import Derived.LoopIn
import Derived.Test.YtdphkgknjgdjoaaBitsMark
namespace Go.Proofs.Ytdphkgknjgdjoaa
open Go.RowKit Go.Shelf

attribute [local go_sem] Oper.semAt_some

/-- one of a row's bits -/
abbrev BitOf (l : List Int) := {i : Nat // i < 8 * l.length}
def vals {l : List Int} (ys : List (BitOf l)) : List Nat := ys.map (·.1)
theorem vals_snoc {l : List Int} (ys : List (BitOf l)) (y : BitOf l) : vals (ys ++ [y]) = vals ys ++ [y.1] := by simp [vals]
theorem vals_length {l : List Int} (ys : List (BitOf l)) : (vals ys).length = ys.length := by simp [vals]
theorem onesTo_prefix (l : List Int) {j k : Nat} (h : j ≤ k) : onesTo l j <+: onesTo l k := by
  unfold onesTo
  refine List.IsPrefix.filter _ ?_
  obtain ⟨d, rfl⟩ : ∃ d, k = j + d := ⟨k - j, by omega⟩
  rw [Nat.mul_add, range_add]
  exact ⟨_, rfl⟩
theorem and_pred (x : Nat) (h : x < 256) (h0 : 0 < x) : bits BinOp.and IntKind.u8 (x : Int) ((x : Int) - 1) = ((x &&& (x - 1) : Nat) : Int) := by
  have h2 : ∀ n : Fin 256, 0 < n.val → bits BinOp.and IntKind.u8 (n.val : Int) ((n.val : Int) - 1) = ((n.val &&& (n.val - 1) : Nat) : Int) := by decide +kernel
  exact h2 ⟨x, h⟩ h0
/-- one bit more has come -/
theorem come_step {l : List Int} {j x : Nat} {pre : List (BitOf l)} (hx : x < 256) (h0 : 0 < x) (h : vals pre ++ (onesM x).map (8 * j + ·) = onesTo l (j + 1)) (y : BitOf l) (hy : y.1 = 8 * j + Lib.trailingZeros8 x) :
    vals (pre ++ [y]) ++ (onesM (x &&& (x - 1))).map (8 * j + ·) = onesTo l (j + 1) := by
  rw [vals_snoc, hy, ← h, (onesM_step hx h0).1]
  simp
theorem come_pre {l : List Int} {j : Nat} {pre : List (BitOf l)} {rest : List Nat} (hj : j < l.length) (h : vals pre ++ rest = onesTo l (j + 1)) : vals pre <+: onesL l :=
  List.IsPrefix.trans ⟨rest, h⟩ (by rw [← onesTo_all]; exact onesTo_prefix l hj)

set_option maxRecDepth 100000 in
set_option maxHeartbeats 1000000 in
/-- the iterator's own loops: for every body that keeps what lay below n₀ -/
theorem ones1_in (n : Nat) (hn : 2 ≤ n) (loop Bs n₀ : Nat) (A : Option Addr) (c : Nat) (l : List Int) (hl : AllB l) (hlen : l.length ≤ 1000000000)
    (J Jx : List (BitOf l) → World → Prop)
    (hY : ∀ pre x W, J pre W → pre.length < 8 * l.length → YieldAt Fence.wide (n - 1) Try.prog loop #[.int .i64 (x.1 : Nat)] W fun e W' =>
      (e = .returned (.bool true) ∧ J (pre ++ [x]) W' ∧ Below n₀ W W') ∨ (e = .returned (.bool false) ∧ Jx (pre ++ [x]) W'))
    (W : World) (hcBs : W.cell? ⟨Bs, 0, none⟩ = some (.slice A l.length c))
    (hr : 0 < l.length → ∃ b off, A = some ⟨b, off, none⟩ ∧ b < n₀ ∧ ∀ j, j < l.length → W.cell? ⟨b, off + j, none⟩ = some (.int .u8 (l[j]?.getD 0))) (h0 : J [] W) :
    CallsIn Fence.wide n Try.prog 36 #[.func (.yield loop) #[] #[], .pointer (some ⟨Bs, 0, none⟩)] W fun e W' => (∃ v, e = .returned v) ∧
      ((∃ ys, vals ys = onesL l ∧ J ys W') ∨ (∃ pre, vals pre <+: onesL l ∧ Jx pre W')) := by
  have H := Lib.hid hr
  have HL := Lib.hid hl
  clear hr hl
  refine callsIn_of_wp Try.func36 rfl trivial ?_ rfl
  simp only [Try.ntmps36, List.size_toArray, List.length_cons, List.length_nil, Nat.reduceAdd, Nat.reduceSub, Array.replicate_succ, Array.replicate_zero, List.push_toArray, List.append_toArray, List.nil_append, List.cons_append]
  gi_wp2
  gi_loopw [7] (fun i wr => ∃ j : Nat, j ≤ l.length ∧ i = .int .i64 j ∧ ∃ pre : List (BitOf l), vals pre = onesTo l j ∧ J pre wr ∧ Below n₀ W wr)
    (fun i _ => l.length - (intOf i).toNat)
  case atStart => exact ⟨0, Nat.zero_le _, rfl, [], rfl, h0, Below.refl _ _⟩
  case round =>
    obtain ⟨j, hj, rfl, pre, hpre, hJs, hB⟩ := hrel
    by_cases hlt : j < l.length
    · obtain ⟨b, off, rfl, hb, hc⟩ := H.out (by omega)
      obtain ⟨x, hx, hx2⟩ := AllB_nat HL.out j
      have hcx : wr.cell? ⟨b, off + j, none⟩ = some (.int .u8 (x : Int)) := by
        rw [← hx]
        exact (hB.cell (p := ⟨b, off + j, none⟩) hb).trans (hc _ hlt)
      have HP : Hid (vals pre ++ (onesM x).map (8 * j + ·) = onesTo l (j + 1)) := Lib.hid (by rw [hpre, onesTo_succ hx])
      clear hc hx hpre
      gi_wp2
      gi_loopw [4] (fun y wr => ∃ x : Nat, x < 256 ∧ y = .int .u8 (x : Int) ∧ ∃ pre : List (BitOf l), vals pre ++ (onesM x).map (8 * j + ·) = onesTo l (j + 1) ∧ J pre wr ∧ Below n₀ W wr)
        (fun y _ => (intOf y).toNat)
      case atStart => exact ⟨x, hx2, rfl, pre, HP.out, hJs, hB⟩
      case round =>
        clear HP hJs hcx hB hx2
        clear pre
        obtain ⟨x, hx2, rfl, pre, hpre, hJs, hB⟩ := hrel
        have HP := Lib.hid hpre
        clear hpre
        by_cases hz : 0 < x
        · obtain ⟨s1, s2, s3⟩ := onesM_step hx2 hz
          have hlen2 : pre.length < 8 * l.length := by
            have e := congrArg List.length HP.out
            have h2 : (onesTo l (j + 1)).length ≤ 8 * (j + 1) := cntTo_le l (8 * (j + 1))
            rw [List.length_append, List.length_map, s1, List.length_cons, vals_length] at e
            omega
          obtain ⟨y, hyv⟩ : ∃ y : BitOf l, y.1 = 8 * j + Lib.trailingZeros8 x := ⟨⟨8 * j + Lib.trailingZeros8 x, by omega⟩, rfl⟩
          obtain ⟨fn, tmps, assign, body, hy, hR⟩ := hY pre y wr hJs hlen2
          have HC := Lib.hid (come_step hx2 hz HP.out y hyv)
          have HA := Lib.hid (and_pred x hx2 hz)
          have hx3 : x &&& (x - 1) < 256 := by omega
          have e0 : ((y.1 : Nat) : Int) = (j : Int) * 8 + (Lib.trailingZeros8 x : Nat) := by rw [hyv]; push_cast; omega
          rw [e0] at hy
          clear s1 e0 hyv
          have HP2 : Hid (vals (pre ++ [y]) <+: onesL l) := Lib.hid (come_pre hlt HC.out)
          generalize x &&& (x - 1) = x' at *
          have HT := Lib.hid (trail8_any x)
          generalize Lib.trailingZeros8 x = z at *
          gi_wp2
          refine ⟨trivial, fun _ => (by omega), ?_⟩
          refine (callsIn_wide.2 (HT.out _ hx2)).mono ?_
          rintro e w' ⟨rfl, rfl⟩
          gi_wp2
          refine ⟨fun _ => (by omega), ?_⟩
          refine hR.mono ?_
          rintro e W3 (⟨rfl, hJ3, hk3⟩ | ⟨rfl, hJx3⟩)
          · gi_wp2
            rw [HA.out]
            go_roundw
            case rel => exact ⟨x', hx3, rfl, pre ++ [y], HC.out, hJ3, hB.trans hk3⟩
            case measure => simp [intOf]; omega
          · gi_wp2
            refine bodyPost_ret (results_none rfl _ _ _) rfl ?_
            exact ⟨⟨_, rfl⟩, .inr ⟨pre ++ [y], HP2.out, hJx3⟩⟩
        · obtain rfl : x = 0 := by omega
          have HF : Hid (vals pre = onesTo l (j + 1)) := Lib.hid (by have := HP.out; rwa [onesM_zero, List.map_nil, List.append_nil] at this)
          gi_wp2
          go_roundw
          case rel => exact ⟨j + 1, by omega, by go_num, pre, HF.out, hJs, hB⟩
          case measure => simp [intOf]; omega
    · obtain rfl : j = l.length := by omega
      have HP := Lib.hid hpre
      clear hpre
      gi_wp2
      go_end0
      exact ⟨⟨_, rfl⟩, .inl ⟨pre, HP.out, hJs⟩⟩

set_option maxHeartbeats 400000 in
/-- bits.ones: the slice is boxed; the function value has the box -/
theorem ones_any (A : Option Addr) (len cap : Nat) (w : World) :
    Calls Try.prog 30 #[.slice A len cap] w fun e w' => e = .returned (.func (.func 36) #[] #[.pointer (some ⟨w.heap.size, 0, none⟩)]) ∧ w' = w.alloc (.cells #[.slice A len cap] 22) := by
  go_enter Try.func30, Try.ntmps30
  go_wp2
  go_ret
  exact ⟨rfl, rfl⟩

/-- all bits come that are set, or the first few of these -/
theorem ones_stops (n : Nat) (hn : 2 ≤ n) (Bs n₀ : Nat) (A : Option Addr) (m c : Nat) (l : List Int) (hm : m = l.length) (hl : AllB l) (hlen : l.length ≤ 1000000000) (w : World) (hBs : Bs < w.heap.size) (hn₀ : n₀ ≤ w.heap.size)
    (hc : w.cell? ⟨Bs, 0, none⟩ = some (.slice A m c))
    (hr : 0 < l.length → ∃ b off, A = some ⟨b, off, none⟩ ∧ b < n₀ ∧ ∀ j, j < l.length → w.cell? ⟨b, off + j, none⟩ = some (.int .u8 (l[j]?.getD 0))) :
    SeqStopsK Fence.wide n Try.prog 36 #[.pointer (some ⟨Bs, 0, none⟩)] (fun x : BitOf l => #[Value.int .i64 (x.1 : Nat)]) (Below n₀) (fun ys => vals ys = onesL l)
      (fun pre => vals pre <+: onesL l) (8 * l.length) w := fun lp J Jx W hW _ _ hY h0 => by
  subst hm
  have hW' := hW.mono hn₀
  have hc' := (hW.cell (p := ⟨Bs, 0, none⟩) hBs).trans hc
  refine ones1_in n hn lp Bs n₀ A c l hl hlen J Jx hY W hc' (fun hp => ?_) h0
  obtain ⟨b, off, e, hb, hcell⟩ := hr hp
  exact ⟨b, off, e, hb, fun j hj => (hW'.cell (p := ⟨b, off + j, none⟩) hb).trans (hcell j hj)⟩

end Go.Proofs.Ytdphkgknjgdjoaa
