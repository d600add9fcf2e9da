/-
  The walk of layer 2's law CrcAlike: it returns true, and writes nothing that was there.
-/
import Derived.Test.YtgemllmfbglkhaaCrcLawZeros
import Derived.Deep.DeepCutAuto
namespace Go.Proofs.Ytgemllmfbglkhaa
open Go.RowKit Go.Deep

/-- the byte j of the difference -/
def xat (l m : List Int) (j : Nat) : Nat := (l[j]?.getD 0).toNat ^^^ (m[j]?.getD 0).toNat
def xorL (l m : List Int) (n : Nat) : List Int := (List.range n).map (fun j => ((xat l m j : Nat) : Int))
theorem xorL_length (l m : List Int) (n : Nat) : (xorL l m n).length = n := by simp [xorL]
theorem xorL_get (l m : List Int) {n j : Nat} (h : j < n) : (xorL l m n)[j]?.getD 0 = (xat l m j : Nat) := by simp [xorL, h]
theorem xat_lt {l m : List Int} (hl : AllB l) (hm : AllB m) (j : Nat) : xat l m j < 256 := by
  have h1 := hl.at_ j
  have h2 := hm.at_ j
  exact Nat.xor_lt_two_pow (n := 8) (by omega) (by omega)
theorem xorL_AllB {l m : List Int} (hl : AllB l) (hm : AllB m) (n : Nat) : AllB (xorL l m n) := by
  intro x hx
  obtain ⟨j, _, rfl⟩ := List.mem_map.1 hx
  have := xat_lt hl hm j
  omega
theorem nats_xorL {l m : List Int} {n : Nat} (h1 : n ≤ l.length) (h2 : n ≤ m.length) : nats (xorL l m n) = List.zipWith (· ^^^ ·) (nats (l.take n)) (nats (m.take n)) := by
  apply List.ext_getElem?
  intro j
  by_cases hj : j < n
  · have e1 : (nats (xorL l m n))[j]? = some (xat l m j) := by
      unfold nats xorL
      simp [hj]
    have e2 : (nats (l.take n))[j]? = some (l[j]?.getD 0).toNat := by
      unfold nats
      rw [List.getElem?_map, List.getElem?_take_of_lt hj]
      simp [show j < l.length by omega]
    have e3 : (nats (m.take n))[j]? = some (m[j]?.getD 0).toNat := by
      unfold nats
      rw [List.getElem?_map, List.getElem?_take_of_lt hj]
      simp [show j < m.length by omega]
    rw [e1, List.getElem?_zipWith, e2, e3]
    rfl
  · rw [List.getElem?_eq_none (by rw [nats_length, xorL_length]; omega), List.getElem?_eq_none (by rw [List.length_zipWith, nats_length, List.length_take]; omega)]
theorem alike_sum {l m : List Int} {n : Nat} (h1 : n ≤ l.length) (h2 : n ≤ m.length) : crcSum (nats (l.take n)) ^^^ crcSum (nats (m.take n)) = crcSum (nats (xorL l m n)) ^^^ crcSum (nats (List.replicate n 0)) := by
  have h := crcSum_alike (nats (l.take n)) (nats (m.take n)) (by rw [nats_length, nats_length, List.length_take, List.length_take]; omega)
  rw [h, nats_xorL h1 h2, nats_zeros, nats_length, List.length_take, Nat.min_eq_left h1]
theorem xor_step (l m : List Int) (t j : Nat) : (if j = t then Value.int .u8 (xat l m t : Nat) else Value.int .u8 ((if j < t then xat l m j else 0 : Nat) : Int)) = Value.int .u8 ((if j < t + 1 then xat l m j else 0 : Nat) : Int) := by
  by_cases h : j = t
  · subst h; simp
  · rw [if_neg h]
    by_cases h2 : j < t
    · rw [if_pos h2, if_pos (by omega)]
    · rw [if_neg h2, if_neg (by omega)]

theorem alike_bits {l m : List Int} {n : Nat} (hl : AllB l) (hm : AllB m) (h1 : n ≤ l.length) (h2 : n ≤ m.length) : (bits BinOp.xor IntKind.u32 (crcSum (nats (l.take n)) : Nat) (crcSum (nats (m.take n)) : Nat) == bits BinOp.xor IntKind.u32 (crcSum (nats (xorL l m n)) : Nat) (crcSum (nats (List.replicate n 0)) : Nat)) = true := by
  rw [u32_xor_nat _ _ (crcSum_lt (nats_BB (hl.take n))) (crcSum_lt (nats_BB (hm.take n))), u32_xor_nat _ _ (crcSum_lt (nats_BB (xorL_AllB hl hm n))) (crcSum_lt (nats_BB (AllB_zeros n))), alike_sum h1 h2]
  exact beq_self_eq_true _

set_option maxRecDepth 100000 in
set_option maxHeartbeats 4000000 in
theorem alike_walk (A A' : Option Addr) (len cap len' cap' : Nat) (l l' : List Int) (w : World) (hlen : l.length = len) (hl : AllB l) (hb : Bytes w w.heap.size (.slice A len cap) l) (hlen' : l'.length = len') (hl' : AllB l') (hb' : Bytes w w.heap.size (.slice A' len' cap') l') :
    Calls Try.prog 6 #[.slice A len cap, .slice A' len' cap'] w fun e w' => e = .returned (.bool true) ∧ Below w.heap.size w w' := by
  obtain ⟨f1, f2, f3⟩ := hb.fits hlen
  obtain ⟨g1, g2, g3⟩ := hb'.fits hlen'
  have HB := Lib.hid hb
  have HL := Lib.hid hlen
  have HB' := Lib.hid hb'
  have HL' := Lib.hid hlen'
  obtain ⟨N, hN⟩ : ∃ N : Nat, N = min (min len len') 300 := ⟨_, rfl⟩
  have n1 : N ≤ len := by omega
  have n2 : N ≤ len' := by omega
  have n3 : N ≤ 300 := by omega
  have HN := Lib.hid hN
  have hmk := run_make_row' (P := Try.prog) 23 5 (.int .u8 0) 1 Try.underlying23 Try.info5 rfl .i64 .i64 N (by omega) (by omega)
  clear hb hlen hb' hlen' f3 g3 hN
  go_enter Try.func6, Try.ntmps6
  go_upto_region 1 with fail
  go_cut [5] (fun s5 wx => s5 = .int .i64 N ∧ w = wx)
  case first =>
    go_wp2_with fail
    all_goals
      go_meet
      exact ⟨congrArg (Value.int .i64) (by have := HN.out; omega), rfl⟩
  case rest =>
    obtain ⟨rfl, rfl⟩ := hcut
    go_wp2_with fail
    go_loopw [7] (fun i wr => ∃ t : Nat, t ≤ N ∧ i = .int .i64 t ∧ wr.rowIs w.heap.size 5 N (fun j => .int .u8 ((if j < t then xat l l' j else 0 : Nat) : Int)) ∧ Below w.heap.size w wr) (fun i _ => N - (intOf i).toNat)
    case atStart => exact ⟨0, by omega, rfl, (World.rowIs_made w (.int .u8 0) N 5).congr (fun i hi => by simp), (Below.refl _ _).alloc (Nat.le_refl _) _⟩
    case round =>
      obtain ⟨t, ht, rfl, hrow, hB⟩ := hrel
      by_cases hlt : t < N
      · obtain ⟨A1, c1, e1, _, _, hr1⟩ := HB.out
        injection e1 with e1 e2 e3
        subst e1
        obtain ⟨b, off, rfl, hb, hcA⟩ := hr1 (by rw [HL.out]; omega)
        obtain ⟨A2, c2, e4, _, _, hr2⟩ := HB'.out
        injection e4 with e4 e5 e6
        subst e4
        obtain ⟨b', off', rfl, hb', hcA'⟩ := hr2 (by rw [HL'.out]; omega)
        have hc1 := (hB.cell (p := ⟨b, off + t, none⟩) hb).trans (hcA t (by rw [HL.out]; omega))
        have hc2 := (hB.cell (p := ⟨b', off' + t, none⟩) hb').trans (hcA' t (by rw [HL'.out]; omega))
        have hc3 := hrow.cell hlt
        have hf3 := hrow.frozen t
        have hx1 := hl.at_ t
        have hx2 := hl'.at_ t
        have hxor : bits BinOp.xor IntKind.u8 (l[t]?.getD 0) (l'[t]?.getD 0) = ((xat l l' t : Nat) : Int) := u8_xor _ _ hx1.1 (by omega) hx2.1 (by omega)
        have HX := Lib.hid (xor_step l l' t)
        generalize l[t]?.getD 0 = x1 at *
        generalize l'[t]?.getD 0 = x2 at *
        clear hcA hcA' hr1 hr2 e2 e3 e5 e6
        go_wp2_with fail
        go_region
        go_wp2
        go_roundw
        case rel => exact ⟨t + 1, by omega, by go_num, ((hrow.set t _).congr (fun j _ => HX.out j)).drew, (hB.setCell (p := ⟨w.heap.size, t, none⟩) (Nat.le_refl _) _).drew⟩
        case measure => simp [intOf]; omega
      · obtain rfl : t = N := by omega
        have HX : Hid (Bytes wr wr.heap.size (.slice (some ⟨w.heap.size, 0, none⟩) t t) (xorL l l' t)) := Lib.hid ⟨_, t, by rw [xorL_length], by rw [xorL_length]; exact Nat.le_refl _, by omega, fun hp => ⟨_, _, rfl, hrow.lt, fun j hj => by
          rw [xorL_length] at hj
          rw [xorL_get _ _ hj, Nat.zero_add, hrow.cell hj, if_pos hj]⟩⟩
        have HC := Lib.hid ((HB.out.on hB).cut HL.out n1)
        have HC' := Lib.hid ((HB'.out.on hB).cut HL'.out n2)
        have HA := Lib.hid (alike_bits hl hl' (n := t) (by rw [HL.out]; omega) (by rw [HL'.out]; omega))
        have HAx := Lib.hid (xorL_AllB hl hl' t)
        have k1 : (t : Int) ≤ (cap : Int) := by omega
        have k2 : (t : Int) ≤ (cap' : Int) := by omega
        have k3 : (0 : Int) ≤ (t : Int) := by omega
        have t6 : t ≤ 1000000 := by omega
        have HBw := Lib.hid hB
        have hS0 := (Below.refl wr.heap.size wr).drew
        clear hrow hlt ht HN hB
        go_wp2_with fail
        go_region_held3 (fun _ => True) (trivial) (first
          | (go_at_call 10; refine (known_any _).mono ?_; rintro e wP ⟨rfl, hP⟩; have hS := bseq (a := wr) (by assumption) hP)
          | (go_at_call 17; with_reducible refine (sum_any (.slice A t cap) (l.take t) _ ?h (hl.take t)).mono ?_; (case h => first | with_reducible exact HC.out.on hS | with_reducible exact (HC.out.on hS).on (ba _ _)); rintro e wQ ⟨rfl, hQ⟩; have hT : Below wP.heap.size wP wQ := by first | with_reducible exact hQ | with_reducible exact bseq (ba _ _) hQ)
          | (go_at_call 17; with_reducible refine (sum_any (.slice A' t cap') (l'.take t) _ ?h (hl'.take t)).mono ?_; (case h => first | with_reducible exact HC'.out.on (bseq hS hT) | with_reducible exact (HC'.out.on (bseq hS hT)).on (ba _ _)); rintro e wR ⟨rfl, hR⟩; have hU : Below wQ.heap.size wQ wR := by first | with_reducible exact hR | with_reducible exact bseq (ba _ _) hR)
          | (go_at_call 17; with_reducible refine (sum_any (.slice (some ⟨w.heap.size, 0, none⟩) t t) (xorL l l' t) _ ?h HAx.out).mono ?_; (case h => first | with_reducible exact HX.out.on (bseq hS (bseq hT hU)) | with_reducible exact (HX.out.on (bseq hS (bseq hT hU))).on (ba _ _)); rintro e wT ⟨rfl, hTT⟩; have hV : Below wR.heap.size wR wT := by first | with_reducible exact hTT | with_reducible exact bseq (ba _ _) hTT)
          | (go_at_call 17; with_reducible refine (sum_any (.slice _ t t) (List.replicate t 0) _ ?h (AllB_zeros t)).mono ?_; (case h => first | with_reducible exact za _ t t6 | with_reducible exact (za _ t t6).on hTT | with_reducible exact ((za _ t t6).on hR).on hTT | with_reducible exact (((za _ t t6).on hQ).on hR).on hTT); rintro e wY ⟨rfl, hY⟩; have hW : Below wT.heap.size wT wY := by first | with_reducible exact hY | with_reducible exact bseq (ba _ _) hY))
        all_goals
          rw [HA.out]
          go_wp2
          go_ret
          exact ⟨rfl, HBw.out.trans ((bseq hS (bseq hT (bseq hU (bseq hV hW)))).mono HBw.out.size)⟩

end Go.Proofs.Ytgemllmfbglkhaa
