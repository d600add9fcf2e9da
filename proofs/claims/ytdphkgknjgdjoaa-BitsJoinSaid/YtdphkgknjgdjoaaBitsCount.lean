/-
  Layer 3: Count of the program and of the document; the document's First, Right and Within: each returns what the plain function says.
-/
import Derived.Test.YtdphkgknjgdjoaaBitsRef
namespace Go.Proofs.Ytdphkgknjgdjoaa
open Go.RowKit Go.Deep

theorem cnt_step {l : List Int} {t x : Nat} (hx : l[t]?.getD 0 = (x : Int)) (hx2 : x < 256) : (((onesTo l t).length : Nat) : Int) + (Lib.onesCount x : Nat) = ((onesTo l (t + 1)).length : Nat) := by
  rw [onesTo_succ hx, List.length_append, List.length_map, onesM_len x hx2]
  omega
theorem onesTo_len (l : List Int) (t : Nat) : (onesTo l t).length ≤ 8 * t := cntTo_le l (8 * t)
theorem onesC_le (x : Nat) (h : x < 256) : Lib.onesCount x ≤ 8 := Lib.onesCount_le8 ⟨x, h⟩

set_option maxHeartbeats 1000000 in
theorem bcount_any (v : Value) (l : List Int) (B : Nat) (w : World) (h : Bytes w B v l) (hl : AllB l) (hlen : l.length ≤ 1000000000) :
    Calls Try.prog 20 #[v] w fun e w' => e = .returned (.int .i64 (cntL l : Nat)) ∧ w = w' := by
  obtain ⟨A, c, rfl, hc, hm, hr⟩ := h.parts
  obtain ⟨len, hn⟩ : ∃ n, n = l.length := ⟨_, rfl⟩
  have H := Lib.hid hr
  have HN := Lib.hid hn
  have HA := Lib.hid hl
  have hlen' : len ≤ 1000000000 := by omega
  rw [← hn]
  clear hr h hl hn hlen hc
  go_enter Try.func20, Try.ntmps20
  go_wp2
  go_loop [3, 8] (fun n i => ∃ t : Nat, t ≤ len ∧ i = .int .i64 t ∧ n = .int .i64 ((onesTo l t).length : Nat)) (fun _ i => len - (intOf i).toNat)
  case atStart => exact ⟨0, by omega, rfl, rfl⟩
  case round =>
    obtain ⟨t, ht, rfl, rfl⟩ := hrel
    have hq := onesTo_len l t
    by_cases hlt : t < len
    · obtain ⟨b, off, rfl, hc⟩ := H.out (by rw [← HN.out]; omega)
      have hcell := hc t (by rw [← HN.out]; exact hlt)
      clear hc
      obtain ⟨x, hx, hx2⟩ := AllB_nat HA.out t
      rw [hx] at hcell
      have HS := Lib.hid (cnt_step hx hx2)
      have ho := onesC_le x hx2
      clear hx
      generalize (onesTo l t).length = q at *
      go_wp2_with (go_at_call 33; refine (ones8_any x _ hx2).mono ?_; rintro e w' ⟨rfl, rfl⟩)
      go_round
      case rel => exact ⟨t + 1, by omega, by go_num, by rw [HS.out]⟩
      case measure => simp [intOf]; omega
    · obtain rfl : t = len := by omega
      have HF : Hid ((onesTo l t).length = cntL l) := Lib.hid (by rw [HN.out, onesTo_all]; rfl)
      rw [HF.out] at hq ⊢
      go_wp2
      go_ret
      exact ⟨rfl, rfl⟩

set_option maxHeartbeats 1000000 in
theorem rcount_any (v : Value) (l : List Int) (B : Nat) (w : World) (h : Bytes w B v l) (hl : AllB l) (hlen : l.length ≤ 1000000000) :
    Calls Try.prog 25 #[v] w fun e w' => e = .returned (.int .i64 (cntL l : Nat)) ∧ w = w' := by
  have HB := Lib.hid h
  obtain ⟨A, c, rfl, hc, hm, hr⟩ := h.parts
  obtain ⟨len, hn⟩ : ∃ n, n = l.length := ⟨_, rfl⟩
  have HN := Lib.hid hn
  have HA := Lib.hid hl
  have hlen' : len ≤ 1000000000 := by omega
  rw [← hn] at HB ⊢
  clear hr h hl hn hlen hc
  go_enter Try.func25, Try.ntmps25
  go_wp2
  go_loop [3, 4] (fun n i => ∃ t : Nat, t ≤ 8 * len ∧ i = .int .i64 t ∧ n = .int .i64 (cntTo l t : Nat)) (fun _ i => 8 * len - (intOf i).toNat)
  case atStart => exact ⟨0, by omega, rfl, rfl⟩
  case round =>
    obtain ⟨t, ht, rfl, rfl⟩ := hrel
    have hq := cntTo_le l t
    by_cases hlt : t < 8 * len
    · have hi : (t : Int) < 8 * (len : Int) := by omega
      have HS := Lib.hid (cntTo_succ l t)
      cases hb : bt l t with
      | true =>
        have HG : Hid (getB l (t : Int) = true) := Lib.hid (by rw [getB_nat]; exact hb)
        have HS2 : Hid (cntTo l (t + 1) = cntTo l t + 1) := Lib.hid (by rw [HS.out, if_pos hb])
        clear hb HS
        generalize cntTo l t = q at *
        go_wp2_with (go_at_call 24; refine (rget_any _ l B t w HB.out HA.out (by omega) (by omega)).mono ?_; rintro e w' ⟨rfl, rfl⟩; rw [HG.out])
        go_round
        case rel => exact ⟨t + 1, by omega, by go_num, by rw [HS2.out]; go_num⟩
        case measure => simp [intOf]; omega
      | false =>
        have HG : Hid (getB l (t : Int) = false) := Lib.hid (by rw [getB_nat]; exact hb)
        have HS2 : Hid (cntTo l (t + 1) = cntTo l t) := Lib.hid (by rw [HS.out, if_neg (by rw [hb]; decide)]; rfl)
        clear hb HS
        generalize cntTo l t = q at *
        go_wp2_with (go_at_call 24; refine (rget_any _ l B t w HB.out HA.out (by omega) (by omega)).mono ?_; rintro e w' ⟨rfl, rfl⟩; rw [HG.out])
        go_round
        case rel => exact ⟨t + 1, by omega, by go_num, by rw [HS2.out]⟩
        case measure => simp [intOf]; omega
    · have hi : 8 * (len : Int) ≤ (t : Int) := by omega
      obtain rfl : t = 8 * len := by omega
      have HF : Hid (cntTo l (8 * len) = cntL l) := Lib.hid (by rw [HN.out, cntTo_all])
      rw [HF.out] at hq ⊢
      go_wp2
      go_ret
      exact ⟨rfl, rfl⟩

theorem first_end {l : List Int} {n : Int} {t : Nat} (h : ∀ j, j < t → bt l j = true) (ht : (t : Int) = max (min n 65536) 0) : max (min n 65536) 0 = firstV l n := by
  have e : clipN n = t := by unfold clipN; omega
  unfold firstV
  rw [e, ← fst_eq (k := t) ⟨Nat.le_refl _, h, .inl rfl⟩]
  omega
theorem first_mid {l : List Int} {n : Int} {t : Nat} (h : ∀ j, j < t → bt l j = true) (ht : (t : Int) < min n 65536) (hb : bt l t = false) : (t : Int) = firstV l n := by
  unfold firstV
  rw [← fst_eq (k := t) ⟨by unfold clipN; omega, h, .inr hb⟩]

set_option maxHeartbeats 1000000 in
theorem rfirst_any (v : Value) (l : List Int) (B : Nat) (n : Int) (w : World) (h : Bytes w B v l) (hl : AllB l) (h0 : -9223372036854775808 ≤ n) (h1 : n ≤ 9223372036854775807) :
    Calls Try.prog 26 #[v, .int .i64 n] w fun e w' => e = .returned (.int .i64 (firstV l n)) ∧ w = w' := by
  have HB := Lib.hid h
  have HA := Lib.hid hl
  clear h hl
  have HE := Lib.hid (fun t h ht => first_end (l := l) (n := n) (t := t) h ht)
  have HM := Lib.hid (fun t h ht hb => first_mid (l := l) (n := n) (t := t) h ht hb)
  obtain ⟨N, hN⟩ : ∃ N, N = min n 65536 := ⟨_, rfl⟩
  have n1 : N ≤ 65536 := by omega
  have n0 : -9223372036854775808 ≤ N := by omega
  rw [← hN] at HE HM
  have HN := Lib.hid hN
  clear hN
  go_enter Try.func26, Try.ntmps26
  go_wp2
  rw [← HN.out]
  go_loop [5] (fun i => ∃ t : Nat, (t : Int) ≤ max N 0 ∧ i = .int .i64 t ∧ ∀ j, j < t → bt l j = true) (fun i => 65536 - (intOf i).toNat)
  case atStart => exact ⟨0, by omega, rfl, fun j hj => by omega⟩
  case round =>
    obtain ⟨t, ht, rfl, hall⟩ := hrel
    have HL := Lib.hid hall
    clear hall
    by_cases hlt : (t : Int) < N
    · cases hb : bt l t with
      | true =>
        have HG : Hid (getB l (t : Int) = true) := Lib.hid (by rw [getB_nat]; exact hb)
        have HB2 := Lib.hid hb
        clear hb
        go_wp2_with (go_at_call 24; refine (rget_any _ l B t w HB.out HA.out (by omega) (by omega)).mono ?_; rintro e w' ⟨rfl, rfl⟩; rw [HG.out])
        go_round
        case rel =>
          refine ⟨t + 1, by omega, by go_num, fun j hj => ?_⟩
          by_cases e : j = t
          · rw [e]; exact HB2.out
          · exact HL.out j (by omega)
        case measure => simp [intOf]; omega
      | false =>
        have HG : Hid (getB l (t : Int) = false) := Lib.hid (by rw [getB_nat]; exact hb)
        have HB2 := Lib.hid hb
        clear hb
        go_wp2_with (go_at_call 24; refine (rget_any _ l B t w HB.out HA.out (by omega) (by omega)).mono ?_; rintro e w' ⟨rfl, rfl⟩; rw [HG.out])
        go_ret
        exact ⟨ret_int (HM.out t HL.out hlt HB2.out), rfl⟩
    · have HE2 := Lib.hid (HE.out t HL.out (by omega))
      go_wp2
      go_ret
      exact ⟨ret_int HE2.out, rfl⟩

set_option maxHeartbeats 1000000 in
theorem rwithin_any (v u : Value) (a b : List Int) (B : Nat) (w : World) (h : Bytes w B v a) (ha : AllB a) (h' : Bytes w B u b) (hb : AllB b) (hlen : a.length ≤ 1000000000) :
    Calls Try.prog 17 #[v, u] w fun e w' => e = .returned (.bool (withinL a b)) ∧ w = w' := by
  have HB := Lib.hid h
  have HB' := Lib.hid h'
  obtain ⟨A, c, rfl, hc, hm, hr⟩ := h.parts
  obtain ⟨len, hn⟩ : ∃ n, n = a.length := ⟨_, rfl⟩
  have HN := Lib.hid hn
  have HA := Lib.hid ha
  have HA' := Lib.hid hb
  have hlen' : len ≤ 1000000000 := by omega
  rw [← hn] at HB ⊢
  clear hr h h' ha hb hn hlen hc
  go_enter Try.func17, Try.ntmps17
  go_wp2
  go_loop [5] (fun i => ∃ t : Nat, t ≤ 8 * len ∧ i = .int .i64 t ∧ ∀ j, j < t → bt a j = true → bt b j = true) (fun i => 8 * len - (intOf i).toNat)
  case atStart => exact ⟨0, by omega, rfl, fun j hj => by omega⟩
  case round =>
    obtain ⟨t, ht, rfl, hall⟩ := hrel
    have HL := Lib.hid hall
    clear hall
    by_cases hlt : t < 8 * len
    · have hi : (t : Int) < 8 * (len : Int) := by omega
      cases hba : bt a t with
      | false =>
        have HG : Hid (getB a (t : Int) = false) := Lib.hid (by rw [getB_nat]; exact hba)
        have HB2 := Lib.hid hba
        clear hba
        go_wp2_with fail
        refine (rget_any _ a B t w HB.out HA.out (by omega) (by omega)).mono ?_
        rintro e w' ⟨rfl, rfl⟩
        rw [HG.out]
        go_wp2_with fail
        go_round
        case rel =>
          refine ⟨t + 1, by omega, by go_num, fun j hj hj2 => ?_⟩
          by_cases e : j = t
          · rw [e, HB2.out] at hj2; cases hj2
          · exact HL.out j (by omega) hj2
        case measure => simp [intOf]; omega
      | true =>
        have HG : Hid (getB a (t : Int) = true) := Lib.hid (by rw [getB_nat]; exact hba)
        have HB2 := Lib.hid hba
        clear hba
        cases hbb : bt b t with
        | true =>
          have HG' : Hid (getB b (t : Int) = true) := Lib.hid (by rw [getB_nat]; exact hbb)
          have HB3 := Lib.hid hbb
          clear hbb
          go_wp2_with fail
          refine (rget_any _ a B t w HB.out HA.out (by omega) (by omega)).mono ?_
          rintro e w' ⟨rfl, rfl⟩
          rw [HG.out]
          go_wp2_with fail
          refine (rget_any _ b B t w HB'.out HA'.out (by omega) (by omega)).mono ?_
          rintro e w' ⟨rfl, rfl⟩
          rw [HG'.out]
          go_wp2_with fail
          go_round
          case rel =>
            refine ⟨t + 1, by omega, by go_num, fun j hj hj2 => ?_⟩
            by_cases e : j = t
            · rw [e]; exact HB3.out
            · exact HL.out j (by omega) hj2
          case measure => simp [intOf]; omega
        | false =>
          have HG' : Hid (getB b (t : Int) = false) := Lib.hid (by rw [getB_nat]; exact hbb)
          have HW : Hid (false = withinL a b) := Lib.hid (by
            symm
            rw [Bool.eq_false_iff]
            intro h
            have := withinL_iff.1 h t HB2.out
            rw [hbb] at this
            cases this)
          clear hbb
          go_wp2_with fail
          refine (rget_any _ a B t w HB.out HA.out (by omega) (by omega)).mono ?_
          rintro e w' ⟨rfl, rfl⟩
          rw [HG.out]
          go_wp2_with fail
          refine (rget_any _ b B t w HB'.out HA'.out (by omega) (by omega)).mono ?_
          rintro e w' ⟨rfl, rfl⟩
          rw [HG'.out]
          go_wp2_with fail
          go_ret
          exact ⟨ret_bool HW.out, rfl⟩
    · have hi : 8 * (len : Int) ≤ (t : Int) := by omega
      have HW : Hid (true = withinL a b) := Lib.hid (by
        symm
        refine withinL_iff.2 (fun i hi => ?_)
        refine HL.out i ?_ hi
        have := onesL_lt (mem_onesL.2 hi)
        rw [← HN.out] at this
        omega)
      go_wp2_with fail
      go_ret
      exact ⟨ret_bool HW.out, rfl⟩

end Go.Proofs.Ytdphkgknjgdjoaa
