/-
  The head of each law of layer 2: the chapter's example holds ('known' returns true), and nothing that was there is written.
-/
import Derived.Test.YtgemllmfbglkhaaCrcRight
import Derived.Lib.SlBytesConst
import Derived.Lib.SmallJoins
namespace Go.Proofs.Ytgemllmfbglkhaa
open Go.RowKit Go.Deep

/-- a row of bytes that was just laid, '[]byte("..")' -/
theorem lit_bytes (w : World) (C : Array Value) (n : Nat) (fr : Nat × Nat) (l : List Int) (hC : C = (l.map (Value.int .u8)).toArray) (hn : n = l.length) (hl : l.length ≤ 1000) : Bytes (w.alloc (.cells C 5 fr)) (w.heap.size + 1) (.slice (some ⟨w.heap.size, 0, none⟩) n n) l := by
  subst hn
  refine ⟨_, _, rfl, Nat.le_refl _, by omega, fun hp => ⟨_, _, rfl, by omega, fun j hj => ?_⟩⟩
  rw [Nat.zero_add, World.cell?_alloc_mark, hC]
  simp [hj]
theorem known_sum : crcSum (nats [49, 50, 51, 52, 53, 54, 55, 56, 57]) = 3808858755 := by decide +kernel

set_option maxHeartbeats 1000000 in
theorem known_any (w : World) : Calls Try.prog 10 #[] w fun e w' => e = .returned (.bool true) ∧ Below w.heap.size w w' := by
  have HK := Lib.hid known_sum
  have HA : Hid (AllB [97]) := Lib.hid (by intro x hx; simp at hx; omega)
  have HA3 : Hid (AllB [97, 98, 99]) := Lib.hid (by intro x hx; simp at hx; omega)
  have HA9 : Hid (AllB [49, 50, 51, 52, 53, 54, 55, 56, 57]) := Lib.hid (by intro x hx; simp at hx; omega)
  have HR := Lib.hid (rightB_seal HA.out)
  have HR3 := Lib.hid (rightB_short (l := [97, 98, 99]) (by decide))
  have kc := fun (w : World) (C : Array Value) (n c : Nat) => Lib.run_convert_bytes_const (P := Try.prog) w 23 5 C n c Try.underlying23 Try.underlying5
  go_enter Try.func10, Try.ntmps10
  go_wp2_with fail
  refine (sum_any _ [49, 50, 51, 52, 53, 54, 55, 56, 57] _ ((lit_bytes w _ 9 _ [49, 50, 51, 52, 53, 54, 55, 56, 57] rfl rfl (by decide)).more (by simp)) HA9.out).mono ?_
  rintro e w1 ⟨rfl, hB1⟩
  rw [HK.out]
  go_wp2_with fail
  refine (seal_any _ [97] _ ((lit_bytes w1 _ 1 _ [97] rfl rfl (by decide)).more (by simp)) HA.out (by decide)).mono ?_
  rintro e w2 ⟨v2, rfl, ho2, hB2⟩
  have HY := Lib.hid (own_bytes ho2)
  have HL := Lib.hid (sealL_length [97])
  obtain ⟨A2, c2, rfl⟩ := HY.out.form rfl
  clear ho2
  go_wp2_with fail
  refine (right_any _ _ _ (sealL [97]) _ rfl HY.out (sealL_AllB HA.out)).mono ?_
  rintro e w3 ⟨rfl, hB3⟩
  rw [HR.out]
  go_wp2_with fail
  refine (right_any _ _ _ [97, 98, 99] _ rfl ((lit_bytes w3 _ 3 _ [97, 98, 99] rfl rfl (by decide)).more (by simp)) HA3.out).mono ?_
  rintro e w4 ⟨rfl, hB4⟩
  rw [HR3.out]
  go_wp2
  go_ret
  exact ⟨rfl, bseq ((Below.refl _ w).alloc (Nat.le_refl _) _) (bseq hB1 (bseq ((Below.refl _ w1).alloc (Nat.le_refl _) _) (bseq hB2 (bseq hB3 (bseq ((Below.refl _ w3).alloc (Nat.le_refl _) _) hB4)))))⟩

end Go.Proofs.Ytgemllmfbglkhaa
