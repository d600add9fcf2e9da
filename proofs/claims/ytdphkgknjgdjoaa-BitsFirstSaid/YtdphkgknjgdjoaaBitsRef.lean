/-
  Layer 3, the document's functions: Set, Count, First, Right, Or, Within; and the program's Count.
-/
import Derived.Test.YtdphkgknjgdjoaaBitsMark
import Derived.Test.YtdphkgknjgdjoaaBytesKeep
import Derived.Test.YtdphkgknjgdjoaaBytesOwn
import Derived.Lib.SlicesS
namespace Go.Proofs.Ytdphkgknjgdjoaa
open Go.RowKit Go.Deep

theorem add_byte (x k : Nat) (hx : x < 256) (hk : k < 8) (h : bitM x k = false) : (x : Int) + 2 ^ k = ((x ||| 2 ^ k : Nat) : Int) ∧ (x : Int) + 2 ^ k ≤ 255 ∧ (2 : Int) ^ k % 256 = 2 ^ k ∧ (1 : Int) ≤ 2 ^ k := by
  have e := or_add hx hk h
  have e2 := or_lt256 hx (pow_lt256 hk)
  have e3 := pow_lt256 hk
  have e4 : ((2 : Int) ^ k) = ((2 ^ k : Nat) : Int) := by simp
  have e5 : 0 < 2 ^ k := Nat.two_pow_pos k
  rw [e4]
  generalize 2 ^ k = m at *
  refine ⟨by omega, by omega, by omega, by omega⟩

theorem getB_in {l : List Int} {k : Nat} : getB l (k : Int) = bitN (l[k / 8]?.getD 0) (k % 8) := getB_nat l k

set_option maxHeartbeats 1000000 in
theorem rset_any (v : Value) (l : List Int) (i : Int) (w : World) (h : Bytes w w.heap.size v l) (hl : AllB l) (hlen : l.length ≤ 1000000000) (h0 : -9223372036854775808 ≤ i) (h1 : i ≤ 9223372036854775807) :
    Calls Try.prog 13 #[v, .int .i64 i] w fun e w' => ∃ v', e = .returned v' ∧ Bytes w' w'.heap.size v' (setL l i) ∧ Below w.heap.size w w' := by
  obtain ⟨A, c, rfl, hc, hm, hr⟩ := h.parts
  obtain ⟨v1, w1, hrun, hown, hgr⟩ := append_bytes w w.heap.size w.heap.size 22 (.slice none 0 0) 0 [] (.slice A l.length c) l (World.ownsRow_nil _ _ _ _) h (by omega) (Nat.le_refl _)
  simp only [Nat.zero_add, List.nil_append] at hown
  have hB1 : Below w.heap.size w w1 := (Below.refl _ _).grown hgr (Nat.le_refl _) (fun g e => by cases e)
  have HB := Lib.hid (h.on hB1)
  have HY := Lib.hid (own_bytes hown)
  have HR := Lib.hid hrun
  obtain ⟨len, hn⟩ : ∃ n, n = l.length := ⟨_, rfl⟩
  rw [← hn] at hown
  have HO := Lib.hid hown
  have HN := Lib.hid hn
  have HL := Lib.hid hl
  rw [← hn] at HR HB ⊢
  have hlen' : len ≤ 1000000000 := by omega
  clear hown hrun hgr h hr hlen hl hc
  by_cases hin : 0 ≤ i ∧ i / 8 < len
  · obtain ⟨k, rfl⟩ := Int.eq_ofNat_of_zero_le hin.1
    have hk : k / 8 < len := by omega
    have HT : Hid (setL l (k : Int) = markL l k) := Lib.hid (by unfold setL; rw [if_pos (by rw [← HN.out]; exact hin), Int.toNat_natCast])
    clear hin
    obtain ⟨g, cap, f, rfl, hg, hc1, hc2, hrow, hf⟩ := own_block HO.out (by omega)
    obtain ⟨x, hx, hx2⟩ := AllB_nat HL.out (k / 8)
    have hcell := hrow.cell (i := k / 8) (by omega)
    rw [hf _ hk, hx] at hcell
    have hfz := hrow.frozen (k / 8)
    have HX := Lib.hid hx
    have HF := Lib.hid hf
    have HW := Lib.hid hrow
    cases hbit : bitM x (k % 8) with
    | true =>
      have hgt : getB l (k : Int) = true := by rw [getB_in, hx, bitN_nat]; exact hbit
      have HS := Lib.hid (setL_had HL.out hgt)
      have HG := Lib.hid hgt
      clear hx hbit hf hrow hn hgt
      go_enter Try.func13, Try.ntmps13
      go_wp2_with (at_builtin; refine Lib.wpList_append_run _ rfl _ _ _ _ rfl _ _ rfl rfl _ _ HR.out ?_)
      refine (rget_any _ l w1.heap.size k w1 HB.out HL.out h0 h1).mono ?_
      rintro e w' ⟨rfl, rfl⟩
      rw [HG.out]
      go_wp2
      go_ret
      exact ⟨_, rfl, by rw [HS.out]; exact row_Bytes HW.out hc1 hc2 HN.out.symm HF.out, hB1⟩
    | false =>
      have hgt : getB l (k : Int) = false := by rw [getB_in, hx, bitN_nat]; exact hbit
      obtain ⟨a1, a2, a3, a4⟩ := add_byte x (k % 8) hx2 (by omega) hbit
      have A1 := Lib.hid a1
      have A3 := Lib.hid a3
      have HG := Lib.hid hgt
      clear hx hbit hf hrow hn hgt a1 a3
      go_enter Try.func13, Try.ntmps13
      go_wp2_with (at_builtin; refine Lib.wpList_append_run _ rfl _ _ _ _ rfl _ _ rfl rfl _ _ HR.out ?_)
      refine (rget_any _ l w1.heap.size k w1 HB.out HL.out h0 h1).mono ?_
      rintro e w' ⟨rfl, rfl⟩
      rw [HG.out]
      go_wp2
      go_ret
      refine ⟨_, rfl, ?_, ?_⟩
      · rw [HT.out, A1.out]
        refine row_Bytes (HW.out.set (k / 8) _) hc1 hc2 (by rw [markL_length]; exact HN.out.symm) (fun j hj => ?_)
        rw [markL_get (by rw [← HN.out]; exact hk), HX.out, Int.toNat_natCast]
        by_cases e : j = k / 8
        · rw [if_pos e, if_pos e]
        · rw [if_neg e, if_neg e]; exact HF.out j hj
      · exact hB1.setCell (p := ⟨g, k / 8, none⟩) hg _
  · have HT : Hid (setL l i = l) := Lib.hid (by unfold setL; rw [if_neg (by rw [← HN.out]; exact hin)])
    clear hn
    by_cases hneg : i < 0
    · clear hin
      go_enter Try.func13, Try.ntmps13
      go_wp2_with (at_builtin; refine Lib.wpList_append_run _ rfl _ _ _ _ rfl _ _ rfl rfl _ _ HR.out ?_)
      go_ret
      exact ⟨_, rfl, by rw [HT.out]; exact HY.out, hB1⟩
    · have hge : (len : Int) ≤ i / 8 := by omega
      clear hin
      go_enter Try.func13, Try.ntmps13
      go_wp2_with (at_builtin; refine Lib.wpList_append_run _ rfl _ _ _ _ rfl _ _ rfl rfl _ _ HR.out ?_)
      go_ret
      exact ⟨_, rfl, by rw [HT.out]; exact HY.out, hB1⟩

end Go.Proofs.Ytdphkgknjgdjoaa
