/-
  Layer 3, the document's Right and Or.
-/
import Derived.Test.YtdphkgknjgdjoaaBitsCount
namespace Go.Proofs.Ytdphkgknjgdjoaa
open Go.RowKit Go.Deep

theorem right_no {l : List Int} {n : Int} (h : ¬ (0 ≤ n ∧ n ≤ 65536 ∧ l.length = makeN n)) : false = rightOK l n := by
  unfold rightOK
  rw [decide_eq_false h, Bool.false_and]
theorem right_in {l : List Int} {n : Int} (h : 0 ≤ n ∧ n ≤ 65536 ∧ l.length = makeN n) : rightOK l n = noneFrom l n.toNat := by
  unfold rightOK
  rw [decide_eq_true h, Bool.true_and]

set_option maxHeartbeats 1000000 in
theorem rright_any (v : Value) (l : List Int) (n : Int) (w : World) (h : Bytes w w.heap.size v l) (hl : AllB l) (h0 : -9223372036854775808 ≤ n) (h1 : n ≤ 9223372036854775807) :
    Calls Try.prog 27 #[v, .int .i64 n] w fun e w' => e = .returned (.bool (rightOK l n)) ∧ Below w.heap.size w w' := by
  have HB := Lib.hid h
  obtain ⟨A, c, rfl, hc, hm, hr⟩ := h.parts
  have h2 : ¬ (0 ≤ n ∧ n ≤ 65536) → false = rightOK l n := fun h => right_no (fun h2 => h ⟨h2.1, h2.2.1⟩)
  by_cases hin : 0 ≤ n ∧ n ≤ 65536
  · obtain ⟨i1, i2⟩ := hin
    have hmk := makeN_le n
    by_cases hle : l.length = makeN n
    · obtain ⟨k, rfl⟩ := Int.eq_ofNat_of_zero_le i1
      have HR : Hid (rightOK l (k : Int) = noneFrom l k) := Lib.hid (by rw [right_in ⟨i1, i2, hle⟩, Int.toNat_natCast])
      have HA := Lib.hid hl
      rw [hle] at HB
      rw [hle]
      have HLE := Lib.hid hle
      obtain ⟨len, hln⟩ : ∃ len, makeN (k : Int) = len := ⟨_, rfl⟩
      rw [hln] at HB HLE hmk
      rw [hln]
      have HM := Lib.hid hln
      clear hln
      have d1 : ((len : Int) != (len : Int)) = false := by simp
      clear h hr h2 hle hl hc
      go_enter Try.func27, Try.ntmps27
      go_wp2_with fail
      refine (rmake_row _ _ h0 h1).mono ?_
      rintro e w1 ⟨rfl, _, hB1⟩
      rw [HM.out]
      go_wp2_with fail
      have HY := Lib.hid (HB.out.on hB1)
      go_loop [5] (fun i => ∃ t : Nat, (t ≤ 8 * len ∨ t ≤ k) ∧ k ≤ t ∧ i = .int .i64 t ∧ ∀ j, k ≤ j → j < t → bt l j = false) (fun i => 8 * len - (intOf i).toNat)
      case atStart => exact ⟨k, by omega, Nat.le_refl _, rfl, fun j hj hj2 => by omega⟩
      case round =>
        obtain ⟨t, ht, htk, rfl, hall⟩ := hrel
        have HL := Lib.hid hall
        clear hall
        by_cases hlt : t < 8 * len
        · have hi : (t : Int) < 8 * (len : Int) := by omega
          cases hb : bt l t with
          | true =>
            have HG : Hid (getB l (t : Int) = true) := Lib.hid (by rw [getB_nat]; exact hb)
            have HF : Hid (false = rightOK l (k : Int)) := Lib.hid (by
              rw [HR.out]
              symm
              rw [Bool.eq_false_iff]
              intro h
              have := noneFrom_iff.1 h t htk
              rw [hb] at this
              cases this)
            clear hb
            go_wp2_with (go_at_call 24; refine (rget_any _ l _ t w1 HY.out HA.out (by omega) (by omega)).mono ?_; rintro e w' ⟨rfl, rfl⟩; rw [HG.out])
            go_ret
            exact ⟨ret_bool HF.out, hB1⟩
          | false =>
            have HG : Hid (getB l (t : Int) = false) := Lib.hid (by rw [getB_nat]; exact hb)
            have HB2 := Lib.hid hb
            clear hb
            go_wp2_with (go_at_call 24; refine (rget_any _ l _ t w1 HY.out HA.out (by omega) (by omega)).mono ?_; rintro e w' ⟨rfl, rfl⟩; rw [HG.out])
            go_round
            case rel =>
              refine ⟨t + 1, by omega, by omega, by go_num, fun j hj hj2 => ?_⟩
              by_cases e : j = t
              · rw [e]; exact HB2.out
              · exact HL.out j hj (by omega)
            case measure => simp [intOf]; omega
        · have hi : 8 * (len : Int) ≤ (t : Int) := by omega
          have HT : Hid (true = rightOK l (k : Int)) := Lib.hid (by
            rw [HR.out]
            symm
            refine noneFrom_iff.2 (fun i hi => ?_)
            by_cases h : i < t
            · exact HL.out i hi h
            · exact bt_out (by rw [HLE.out]; omega))
          go_wp2_with fail
          go_ret
          exact ⟨ret_bool HT.out, hB1⟩
    · have HR := Lib.hid (right_no (l := l) (n := n) (fun h => hle h.2.2))
      obtain ⟨mk, hmn⟩ : ∃ mk, makeN n = mk := ⟨_, rfl⟩
      rw [hmn] at hle hmk
      have HM := Lib.hid hmn
      clear hmn
      have d1 : ((l.length : Int) == (mk : Int)) = false := by rw [beq_eq_false_iff_ne]; omega
      have d2 : ((l.length : Int) != (mk : Int)) = true := by rw [bne_iff_ne]; omega
      clear h hr h2 hle hl hc
      go_enter Try.func27, Try.ntmps27
      go_wp2_with fail
      refine (rmake_row _ _ h0 h1).mono ?_
      rintro e w1 ⟨rfl, _, hB1⟩
      rw [HM.out]
      go_wp2_with fail
      go_ret
      exact ⟨ret_bool HR.out, hB1⟩
  · have HR := Lib.hid (h2 hin)
    clear h hr h2 hl hc
    by_cases hneg : n < 0
    · clear hin
      go_enter Try.func27, Try.ntmps27
      go_wp2_with fail
      go_ret
      exact ⟨ret_bool HR.out, Below.refl _ _⟩
    · have hge : 65536 < n := by omega
      clear hin
      go_enter Try.func27, Try.ntmps27
      go_wp2_with fail
      go_ret
      exact ⟨ret_bool HR.out, Below.refl _ _⟩

/-! ### the document's Or -/
/-- so far as the first t bits go -/
def orTo (a b : List Int) (t : Nat) : List Int := (List.range t).foldl (fun o j => if bt a j || bt b j then setL o (j : Nat) else o) (List.replicate (max a.length b.length) 0)
theorem orTo_zero (a b : List Int) : orTo a b 0 = List.replicate (max a.length b.length) 0 := rfl
theorem orTo_on {a b : List Int} {t : Nat} (h : (bt a t || bt b t) = true) : orTo a b (t + 1) = setL (orTo a b t) (t : Nat) := by
  unfold orTo
  rw [List.range_succ, List.foldl_append, List.foldl_cons, List.foldl_nil, if_pos h]
theorem orTo_off {a b : List Int} {t : Nat} (h : (bt a t || bt b t) = false) : orTo a b (t + 1) = orTo a b t := by
  unfold orTo
  rw [List.range_succ, List.foldl_append, List.foldl_cons, List.foldl_nil, if_neg (by rw [h]; decide)]
theorem orTo_is (a b : List Int) (t : Nat) : (orTo a b t).length = max a.length b.length ∧ AllB (orTo a b t) ∧ ∀ j, bt (orTo a b t) j = ((bt a j || bt b j) && decide (j < t)) := by
  induction t with
  | zero =>
    rw [orTo_zero]
    refine ⟨List.length_replicate, fun x hx => by rw [List.eq_of_mem_replicate hx]; omega, fun j => ?_⟩
    have e : bt (List.replicate (max a.length b.length) 0) j = false := by
      unfold bt
      rw [List.getElem?_replicate]
      split <;> exact bitN_zero _
    rw [e]
    simp
  | succ t ih =>
    obtain ⟨h1, h2, h3⟩ := ih
    cases h : (bt a t || bt b t) with
    | false =>
      rw [orTo_off h]
      refine ⟨h1, h2, fun j => ?_⟩
      rw [h3]
      by_cases e : j = t
      · subst e; rw [h]; simp
      · congr 1
        rw [Bool.eq_iff_iff, decide_eq_true_iff, decide_eq_true_iff]
        omega
    | true =>
      rw [orTo_on h]
      have ht : t < 8 * max a.length b.length := by
        rcases Nat.lt_or_ge t (8 * max a.length b.length) with h4 | h4
        · exact h4
        · rw [bt_out (l := a) (by omega), bt_out (l := b) (by omega)] at h; cases h
      refine ⟨(setL_length _ _).trans h1, setL_AllB h2 _, fun j => ?_⟩
      rw [bt_setL h2, h3, show hasB (orTo a b t).length ((t : Nat) : Int) = true by simp [hasB, h1]; omega, Bool.true_and]
      by_cases e : j = t
      · subst e; rw [h]; simp
      · rw [decide_eq_false (p := ((j : Int) = (t : Int))) (by omega), Bool.or_false]
        congr 1
        rw [Bool.eq_iff_iff, decide_eq_true_iff, decide_eq_true_iff]
        omega
theorem orTo_all {a b : List Int} (ha : AllB a) : orTo a b (8 * max a.length b.length) = orL a b := by
  obtain ⟨h1, h2, h3⟩ := orTo_is a b (8 * max a.length b.length)
  refine bits_ext h2 (orL_AllB ha b) (h1.trans (orL_length a b).symm) (fun i hi => ?_)
  rw [h3, bt_orL ha]
  rw [h1] at hi
  rw [decide_eq_true hi, Bool.and_true]

set_option maxHeartbeats 4000000 in
theorem ror_any (v u : Value) (a b : List Int) (w : World) (h : Bytes w w.heap.size v a) (ha : AllB a) (h' : Bytes w w.heap.size u b) (hb : AllB b) (hla : a.length ≤ 1000000000) (hlb : b.length ≤ 1000000000) :
    Calls Try.prog 14 #[v, u] w fun e w' => ∃ v', e = .returned v' ∧ Bytes w' w'.heap.size v' (orL a b) ∧ Below w.heap.size w w' := by
  have HB := Lib.hid h
  have HB' := Lib.hid h'
  obtain ⟨A, c, rfl, hc, hm, hr⟩ := h.parts
  obtain ⟨A', c', rfl, hc', hm', hr'⟩ := h'.parts
  obtain ⟨M, hM⟩ : ∃ M, M = max a.length b.length := ⟨_, rfl⟩
  have HM : Hid (max (a.length : Int) (b.length : Int) = (M : Int)) := Lib.hid (by omega)
  have HA := Lib.hid ha
  have HA' := Lib.hid hb
  have HE := Lib.hid (orTo_all (b := b) ha)
  have HT := Lib.hid (orTo_is a b)
  have HZ := Lib.hid (orTo_zero a b)
  rw [← hM] at HE HT HZ
  have hmk := run_make_row' (P := Try.prog) 22 5 (.int .u8 0) 1 Try.underlying22 Try.info5 rfl .i64 .i64 M (by omega) (by omega)
  have hM2 : M ≤ 1000000000 := by omega
  generalize a.length = la at *
  generalize b.length = lb at *
  clear hr hr' h h' ha hb hM hc hc'
  go_enter Try.func14, Try.ntmps14
  go_wp2_with fail
  rw [HM.out, hmk]
  go_wp2
  go_loopw [5, 6] (fun o i wr => ∃ t : Nat, t ≤ 8 * M ∧ i = .int .i64 t ∧ Bytes wr wr.heap.size o (orTo a b t) ∧ Below w.heap.size w wr) (fun _ i _ => 8 * M - (intOf i).toNat)
  case atStart =>
    refine ⟨0, by omega, rfl, ?_, (Below.refl _ _).alloc (Nat.le_refl _) _⟩
    rw [HZ.out]
    have := (RowB.made w M).bytes (c := M) (by rw [List.length_replicate]; exact Nat.le_refl _) (by omega)
    rwa [List.length_replicate] at this
  case round =>
    obtain ⟨t, ht, rfl, hby, hB⟩ := hrel
    obtain ⟨A2, c2, rfl⟩ := hby.form (HT.out t).1
    have HBy := Lib.hid hby
    clear hby
    by_cases hlt : t < 8 * M
    · have hi : (t : Int) < 8 * (M : Int) := by omega
      have HYa := Lib.hid ((HB.out.below hB (Nat.le_refl _)))
      have HYb := Lib.hid ((HB'.out.below hB (Nat.le_refl _)))
      cases hba : bt a t with
      | true =>
        have HG : Hid (getB a (t : Int) = true) := Lib.hid (by rw [getB_nat]; exact hba)
        have HS := Lib.hid (orTo_on (a := a) (b := b) (t := t) (by rw [hba]; rfl))
        clear hba
        go_wp2_with fail
        refine (rget_any _ a _ t wr HYa.out HA.out (by omega) (by omega)).mono ?_
        rintro e w' ⟨rfl, rfl⟩
        rw [HG.out]
        go_wp2_with fail
        refine (rset_any _ _ t wr HBy.out (HT.out t).2.1 (by rw [(HT.out t).1]; exact hM2) (by omega) (by omega)).mono ?_
        rintro e w3 ⟨v3, rfl, hby3, hB3⟩
        have HBy3 := Lib.hid hby3
        clear hby3
        go_wp2_with fail
        go_roundw
        case rel => exact ⟨t + 1, by omega, by go_num, by rw [HS.out]; exact HBy3.out, hB.trans (hB3.mono hB.size)⟩
        case measure => simp [intOf]; omega
      | false =>
        have HG : Hid (getB a (t : Int) = false) := Lib.hid (by rw [getB_nat]; exact hba)
        cases hbb : bt b t with
        | true =>
          have HG' : Hid (getB b (t : Int) = true) := Lib.hid (by rw [getB_nat]; exact hbb)
          have HS := Lib.hid (orTo_on (a := a) (b := b) (t := t) (by rw [hbb, Bool.or_true]))
          clear hba hbb
          go_wp2_with fail
          refine (rget_any _ a _ t wr HYa.out HA.out (by omega) (by omega)).mono ?_
          rintro e w' ⟨rfl, rfl⟩
          rw [HG.out]
          go_wp2_with fail
          refine (rget_any _ b _ t wr HYb.out HA'.out (by omega) (by omega)).mono ?_
          rintro e w' ⟨rfl, rfl⟩
          rw [HG'.out]
          go_wp2_with fail
          refine (rset_any _ _ t wr HBy.out (HT.out t).2.1 (by rw [(HT.out t).1]; exact hM2) (by omega) (by omega)).mono ?_
          rintro e w3 ⟨v3, rfl, hby3, hB3⟩
          have HBy3 := Lib.hid hby3
          clear hby3
          go_wp2_with fail
          go_roundw
          case rel => exact ⟨t + 1, by omega, by go_num, by rw [HS.out]; exact HBy3.out, hB.trans (hB3.mono hB.size)⟩
          case measure => simp [intOf]; omega
        | false =>
          have HG' : Hid (getB b (t : Int) = false) := Lib.hid (by rw [getB_nat]; exact hbb)
          have HS := Lib.hid (orTo_off (a := a) (b := b) (t := t) (by rw [hba, hbb]; rfl))
          clear hba hbb
          go_wp2_with fail
          refine (rget_any _ a _ t wr HYa.out HA.out (by omega) (by omega)).mono ?_
          rintro e w' ⟨rfl, rfl⟩
          rw [HG.out]
          go_wp2_with fail
          refine (rget_any _ b _ t wr HYb.out HA'.out (by omega) (by omega)).mono ?_
          rintro e w' ⟨rfl, rfl⟩
          rw [HG'.out]
          go_wp2_with fail
          go_roundw
          case rel => exact ⟨t + 1, by omega, by go_num, by rw [HS.out]; exact HBy.out, hB⟩
          case measure => simp [intOf]; omega
    · have hi : 8 * (M : Int) ≤ (t : Int) := by omega
      obtain rfl : t = 8 * M := by omega
      have HF := Lib.hid HBy.out
      have HBy2 : Hid (Bytes wr wr.heap.size (.slice A2 M c2) (orL a b)) := Lib.hid (by rw [← HE.out]; exact HBy.out)
      clear HBy HF
      go_wp2
      go_ret
      exact ⟨_, rfl, HBy2.out, hB⟩

end Go.Proofs.Ytdphkgknjgdjoaa
