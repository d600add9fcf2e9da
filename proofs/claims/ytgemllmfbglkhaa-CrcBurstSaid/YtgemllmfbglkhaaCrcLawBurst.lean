/-
  The walk of layer 2's law CrcBurst: it returns true, and writes nothing that was there.
-/
import Derived.Test.YtgemllmfbglkhaaCrcBurstFacts
import Derived.Deep.DeepCutAuto
namespace Go.Proofs.Ytgemllmfbglkhaa
open Go.RowKit Go.Deep

set_option maxRecDepth 100000 in
set_option maxHeartbeats 4000000 in
theorem burst_walk (a p : Nat) (A : Option Addr) (len cap : Nat) (l : List Int) (w : World) (ha : a < 65536) (hp : p < 4294967296) (hlen : l.length = len) (hl : AllB l) (hb : Bytes w w.heap.size (.slice A len cap) l) :
    Calls Try.prog 5 #[.slice A len cap, .int .u16 a, .int .u32 p] w fun e w' => e = .returned (.bool true) ∧ Below w.heap.size w w' := by
  have HB := Lib.hid hb
  have HL := Lib.hid hlen
  by_cases hlong : 300 < len
  · clear hb hlen
    go_enter Try.func5, Try.ntmps5
    go_wp2_with (go_at_call 10; refine (known_any _).mono ?_; rintro e w1 ⟨rfl, hB⟩)
    go_ret
    exact ⟨rfl, hB⟩
  · clear hb hlen
    have hd1 : decide (300 < (len : Int)) = false := decide_eq_false (by omega)
    have hd2 : ((len : Int) + 4 == 0) = false := by rw [beq_eq_false_iff_ne]; omega
    go_enter Try.func5, Try.ntmps5
    go_wp2_with fail
    refine (seal_any _ l w HB.out hl (by rw [HL.out]; omega)).mono ?_
    rintro e w1 ⟨v1, rfl, ho1, hB1⟩
    rw [sealL_length, HL.out] at ho1
    obtain ⟨g, c, f, rfl, hg, hc1, hc2, hrow, hf⟩ := own_block ho1 (by omega)
    have hf' : ∀ i, i < len + 4 → f i = .int .u8 (byteN (leV (nats (sealL l))) i : Nat) := fun i hi => by
      rw [hf i hi, ← leI_get _ hi, show len + 4 = (sealL l).length by rw [sealL_length, HL.out], leI_of (sealL_AllB hl)]
    clear ho1 hf
    obtain ⟨first, hfi⟩ : ∃ first : Nat, first = a % (8 * (len + 4)) := ⟨_, rfl⟩
    have f1 : first < 8 * (len + 4) := by rw [hfi]; exact Nat.mod_lt _ (by omega)
    have HF : Hid ((a : Int) % (8 * ((len : Int) + 4)) = (first : Int)) := Lib.hid (by rw [hfi]; push_cast; rfl)
    obtain ⟨L, hL⟩ : ∃ L : Nat, L = min (8 * (len + 4) - first) 32 := ⟨_, rfl⟩
    have HLL := Lib.hid hL
    have l1 : L ≤ 32 := by omega
    have l2 : first + L ≤ 8 * (len + 4) := by omega
    have HR := Lib.hid (burst_right hl (p := p) (first := first) (L := L) (by rw [HL.out]; exact l2) l1)
    have HRr := HR.out
    rw [HL.out] at HRr
    have HRR := Lib.hid HRr
    clear HRr HR
    clear hfi hL
    have HSl := Lib.hid (show (sealL l).length = len + 4 by rw [sealL_length, HL.out])
    generalize leV (nats (sealL l)) = X at *
    have Hf := Lib.hid hf'
    clear hf'
    go_wp2_with fail
    rw [HF.out]
    go_loopw [9] (fun i wr => ∃ t : Nat, t ≤ L ∧ i = .int .i64 t ∧ (∃ f, wr.rowIs g 5 c f ∧ ∀ i, i < len + 4 → f i = .int .u8 (byteN (turn X p first t) i : Nat)) ∧ Below w.heap.size w wr) (fun i _ => L - (intOf i).toNat)
    case atStart => exact ⟨0, by omega, rfl, ⟨f, hrow, fun i hi => by rw [turn_zero]; exact Hf.out i hi⟩, hB1⟩
    case round =>
      obtain ⟨t, ht, rfl, ⟨f, hrow, hf⟩, hB⟩ := hrel
      by_cases hlt : t < L
      · have d1 : decide ((t : Int) < 32) = true := decide_eq_true (by omega)
        have d2 : decide ((first : Int) + (t : Int) < 8 * ((len : Int) + 4)) = true := decide_eq_true (by omega)
        have hi : (first + t) / 8 < len + 4 := by omega
        have hcell := hrow.cell (i := (first + t) / 8) (by omega)
        rw [hf _ hi] at hcell
        have hfz := hrow.frozen ((first + t) / 8)
        by_cases hbit : p / 2 ^ t % 2 = 1
        · have hb := bit_test p t true (decide_eq_true hbit).symm
          have HS := Lib.hid (turn_step (x := X) (first := first) hbit)
          have HX := Lib.hid (turn_bits (byteN (turn X p first t) ((first + t) / 8)) ((first + t) % 8) (byteN_lt _ _) (by omega))
          clear hbit
          go_wp2_with fail
          rw [HX.out]
          go_roundw
          case rel => exact ⟨t + 1, by omega, by go_num, ⟨_, hrow.set ((first + t) / 8) _, fun i hi => by rw [← HS.out i, ← hf i hi]⟩, hB.setCell (p := ⟨g, (first + t) / 8, none⟩) hg _⟩
          case measure => simp [intOf]; omega
        · have hb := bit_test p t false (decide_eq_false hbit).symm
          have HS := Lib.hid (turn_off (x := X) (first := first) hbit)
          clear hbit
          go_wp2_with fail
          go_roundw
          case rel => exact ⟨t + 1, by omega, by go_num, ⟨f, hrow, fun i hi => by rw [HS.out]; exact hf i hi⟩, hB⟩
          case measure => simp [intOf]; omega
      · obtain rfl : t = L := by omega
        have HY := Lib.hid (row_Bytes hrow hc1 hc2 (leI_length (len + 4) (turn X p first t)) (fun i hi => by rw [hf i hi, leI_get _ hi]))
        have HBw := Lib.hid hB
        clear hrow hf hB Hf ht hlt
        by_cases h32 : t = 32
        all_goals
          first
            | have d1 : decide ((t : Int) < 32) = false := decide_eq_false (by omega)
            | have d1 : decide ((t : Int) < 32) = true := decide_eq_true (by omega)
          try have d2 : decide ((first : Int) + (t : Int) < 8 * ((len : Int) + 4)) = false := decide_eq_false (by have := HLL.out; omega)
          have HT := Lib.hid h32
          clear h32
          go_upto_region 12 with fail
          go_cut [10] (fun s10 wx => s10 = .int .i64 t ∧ wr = wx)
          case first =>
            go_wp2_with fail
            all_goals
              go_meet
              exact ⟨congrArg (Value.int .i64) (by have := HLL.out; omega), rfl⟩
          case rest =>
            obtain ⟨rfl, rfl⟩ := hcut
            go_upto_region 13 with fail
            go_cut [11] (fun s11 wx => s11 = .bool (decide (p % 2 ^ t = 0)) ∧ wr = wx)
            case first =>
              obtain ⟨d, hd⟩ : ∃ d : Nat, d = 2 ^ t := ⟨_, rfl⟩
              have dp : 0 < d := by rw [hd]; exact Nat.two_pow_pos t
              have dq : (d : Int) ≠ 0 := by omega
              try have he : (2 : Int) ^ t % 4294967296 = (d : Int) := by rw [hd]; exact pow_u32 t (by have := of_decide_eq_true d1; omega)
              have HD := Lib.hid hd
              clear hd
              by_cases hp0 : p = 0
              all_goals
                first
                  | have q : ((p : Int) == 0) = true := by rw [beq_iff_eq]; omega
                  | have q : ((p : Int) == 0) = false := by rw [beq_eq_false_iff_ne]; omega
                have HP := Lib.hid hp0
                clear hp0
                go_wp2_with fail
                go_meet
                first
                  | exact ⟨congrArg Value.bool (same_zero HP.out), rfl⟩
                  | exact ⟨congrArg Value.bool (same_big hp HP.out HT.out), rfl⟩
                  | exact ⟨congrArg Value.bool (same_mod HD.out), rfl⟩
                  | exact ⟨congrArg Value.bool (same_tmod HD.out), rfl⟩
            case rest =>
              obtain ⟨rfl, rfl⟩ := hcut
              go_wp2_with fail
              refine (known_any _).mono ?_
              rintro e w2 ⟨rfl, hB2⟩
              go_wp2_with fail
              refine (right_any _ _ _ (leI (len + 4) (turn X p first t)) _ (leI_length _ _) (HY.out.on hB2) (leI_AllB _ _)).mono ?_
              rintro e w3 ⟨rfl, hB3⟩
              rw [HRR.out]
              go_wp2
              go_ret
              exact ⟨by simp, HBw.out.trans ((bseq hB2 hB3).mono HBw.out.size)⟩

end Go.Proofs.Ytgemllmfbglkhaa
