/-
  The walk of layer 2's law CrcTail: it returns true, and writes nothing that was there.
-/
import Derived.Test.YtgemllmfbglkhaaCrcKnown
import Derived.Test.YtgemllmfbglkhaaWordRow
namespace Go.Proofs.Ytgemllmfbglkhaa
open Go.RowKit Go.Deep

theorem rightB_tail {l : List Int} (hl : AllB l) {n : Nat} (hn : n < 4294967296) : rightB (l ++ putL n 4) = ((n : Int) == ((crcSum (nats l) : Nat) : Int)) := by
  have h4 : 4 ≤ (l ++ putL n 4).length := by rw [List.length_append, putL_length]; omega
  have hi := rightB_iff (hl.append (putL_AllB n 4)) h4
  have ht : (l ++ putL n 4).take ((l ++ putL n 4).length - 4) = l := by rw [List.length_append, putL_length, Nat.add_sub_cancel, List.take_left]
  rw [ht] at hi
  rw [Bool.eq_iff_iff, hi, beq_iff_eq]
  unfold sealL
  constructor
  · intro h
    have h2 := congrArg nats (List.append_cancel_left h)
    rw [nats_putL, nats_putL] at h2
    have h3 := congrArg leV h2
    rw [leV_le (by simpa using crcSum_lt (nats_BB hl)), leV_le (by simpa using hn)] at h3
    rw [h3]
  · intro h
    rw [Int.ofNat.inj h]

/-- a number's four bytes, as the law lays them -/
theorem four_bytes (n : Nat) (hn : n < 4294967296) : [(n : Int) % 256, (n : Int) / 256 % 256, (n : Int) / 65536 % 256, (n : Int) / 16777216] = putL n 4 := by
  have e : putL (n : Int) 4 = [byteAt n 0, byteAt n 1, byteAt n 2, byteAt n 3] := rfl
  have e0 : byteAt (n : Int) 0 = (n : Int) % 256 := by unfold byteAt; simp
  have e1 : byteAt (n : Int) 1 = (n : Int) / 256 % 256 := rfl
  have e2 : byteAt (n : Int) 2 = (n : Int) / 65536 % 256 := rfl
  have e3 : byteAt (n : Int) 3 = (n : Int) / 16777216 := by
    show (n : Int) / 16777216 % 256 = _
    omega
  rw [e, e0, e1, e2, e3]

set_option maxHeartbeats 2000000 in
theorem tail_walk (n : Nat) (A : Option Addr) (len cap : Nat) (l : List Int) (w : World) (hn : n < 4294967296) (hlen : l.length = len) (hl : AllB l) (hb : Bytes w w.heap.size (.slice A len cap) l) :
    Calls Try.prog 7 #[.slice A len cap, .int .u32 n] w fun e w' => e = .returned (.bool true) ∧ Below w.heap.size w w' := by
  have HB := Lib.hid hb
  have HL := Lib.hid hlen
  by_cases hlong : 300 < len
  · clear hb hlen
    go_enter Try.func7, Try.ntmps7
    go_wp2_with (go_at_call 10; refine (known_any _).mono ?_; rintro e w1 ⟨rfl, hB⟩)
    go_ret
    exact ⟨rfl, hB⟩
  · clear hb hlen
    obtain ⟨s, hss⟩ : ∃ s : Nat, s = crcSum (nats l) := ⟨_, rfl⟩
    have HS := Lib.hid hss.symm
    have hs : s < 4294967296 := by rw [hss]; exact crcSum_lt (nats_BB hl)
    have HR := Lib.hid (rightB_tail hl hn)
    clear hss
    go_enter Try.func7, Try.ntmps7
    go_wp2_with fail
    refine (sum_any _ l w HB.out hl).mono ?_
    rintro e w1 ⟨rfl, hB1⟩
    rw [HS.out]
    obtain ⟨v2, w2, hr2, ho2, hg2⟩ := append_bytes w1 w1.heap.size w1.heap.size 23 (.slice none 0 0) 0 [] (.slice A len cap) l (World.ownsRow_nil _ _ _ _) (HB.out.on hB1) (by rw [HL.out]; omega) (Nat.le_refl _)
    rw [Nat.zero_add, List.nil_append] at ho2
    have hB2 : Below w1.heap.size w1 w2 := (Below.refl _ _).grown hg2 (Nat.le_refl _) (fun g e => by cases e)
    have HR2 := Lib.hid hr2
    have HO2 := Lib.hid ho2
    clear hr2 ho2 hg2
    have hBa : Below w2.heap.size w2 (w2.alloc (.cells #[.int .u8 ((n : Int) % 256), .int .u8 ((n : Int) / 256 % 256), .int .u8 ((n : Int) / 65536 % 256), .int .u8 ((n : Int) / 16777216)] 5)) := (Below.refl _ w2).alloc (Nat.le_refl _) _
    have hlit := lit_bytes w2 #[.int .u8 ((n : Int) % 256), .int .u8 ((n : Int) / 256 % 256), .int .u8 ((n : Int) / 65536 % 256), .int .u8 ((n : Int) / 16777216)] 4 (0, 0) [(n : Int) % 256, (n : Int) / 256 % 256, (n : Int) / 65536 % 256, (n : Int) / 16777216] rfl rfl (by simp)
    rw [four_bytes n hn] at hlit
    obtain ⟨v3, w3, hr3, ho3, hg3⟩ := append_bytes _ w1.heap.size _ 23 v2 l.length (l.map (Value.int .u8)) _ _ (own_on HO2.out hBa) hlit (by rw [HL.out, putL_length]; omega) (Nat.le_trans hB2.size hBa.size)
    have hB3 : Below w1.heap.size w1 w3 := (hB2.trans (hBa.mono hB2.size)).grown hg3 (Nat.le_trans hB2.size hBa.size) (fun g e => (HO2.out.lt g e).1)
    rw [← List.map_append, ← List.length_append] at ho3
    have HY3 := Lib.hid (own_bytes ho3)
    have HR3 := Lib.hid hr3
    clear hr3 ho3 hg3 hlit
    have HLL : Hid ((l ++ putL n 4).length = len + 4) := Lib.hid (by rw [List.length_append, HL.out, putL_length])
    obtain ⟨A3, c3, rfl⟩ := HY3.out.form HLL.out
    go_wp2_with (first | (at_builtin; refine Lib.wpList_append_run _ rfl _ _ _ _ rfl _ _ rfl rfl _ _ HR2.out ?_) | (at_builtin; refine Lib.wpList_append_run _ rfl _ _ _ _ rfl _ _ rfl rfl _ _ HR3.out ?_) | (go_at_call 10; refine (known_any _).mono ?_; rintro e w4 ⟨rfl, hB4⟩) | (go_at_call 21; refine (right_any _ _ _ (l ++ putL n 4) _ HLL.out (HY3.out.on hB4) (hl.append (putL_AllB _ _))).mono ?_; rintro e w5 ⟨rfl, hB5⟩; rw [HR.out, HS.out]) | (go_at_call 19; refine (seal_any _ l _ (((HB.out.on hB1).on hB3).on (bseq hB4 hB5)) hl (by rw [HL.out]; omega)).mono ?_; rintro e w6 ⟨v6, rfl, ho6, hB6⟩; have hY6 := own_bytes ho6; obtain ⟨A6, c6, rfl⟩ := hY6.form ((sealL_length l).trans (by rw [HL.out])); clear ho6 hY6))
    go_ret
    exact ⟨rfl, bseq hB1 (bseq hB3 (bseq hB4 (bseq hB5 hB6)))⟩

end Go.Proofs.Ytgemllmfbglkhaa
