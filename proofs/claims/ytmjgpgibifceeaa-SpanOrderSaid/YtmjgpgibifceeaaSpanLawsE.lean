/-
  The walk of layer 4's law SpanOrder: it returns true, and writes nothing that was there.
-/
import Derived.Test.YtmjgpgibifceeaaSpanLawsC
namespace Go.Proofs.Ytmjgpgibifceeaa
open Go.RowKit Go.Deep

theorem Spans.tail {w : World} {B len cap i b off : Nat} {l : List Sp} (h : Spans w B (.slice (some ⟨b, off, none⟩) len cap) l) (hlen : l.length = len) (hi : i < len) : Spans w B (.slice (some ⟨b, off + i * 2, none⟩) (len - i) (cap - i)) (l.drop i) := by
  obtain ⟨A, c, e, hc, hm, hr⟩ := h
  cases e
  refine ⟨_, cap - i, by rw [List.length_drop], by rw [List.length_drop]; omega, by omega, fun hp => ?_⟩
  obtain ⟨b', off', e, hb, hcell⟩ := hr (by omega)
  cases e
  refine ⟨b, off + i * 2, rfl, hb, fun j hj => ?_⟩
  rw [List.length_drop] at hj
  have := hcell (i + j) (by omega)
  rw [List.getElem?_drop]
  rw [show off + (i + j) * 2 = off + i * 2 + j * 2 by omega] at this
  exact this
theorem order_norm (l : List Sp) (i : Nat) : normL (l.drop i ++ l) = normL l :=
  norm_same (fun x => by
    rw [places_append]
    constructor
    · rintro (⟨s, hs, h⟩ | h)
      · exact ⟨s, List.mem_of_mem_drop hs, h⟩
      · exact h
    · exact .inr)

set_option maxRecDepth 100000 in
set_option maxHeartbeats 4000000 in
theorem order_walk (k : Nat) (A : Option Addr) (len cap : Nat) (l : List Sp) (w : World) (hk : k < 256) (hlen : l.length = len) (hl : AllS l) (hs : Spans w w.heap.size (.slice A len cap) l) :
    Calls Try.prog 4 #[.slice A len cap, .int .u8 k] w fun e w' => e = .returned (.bool true) ∧ Below w.heap.size w w' := by
  have HSp := Lib.hid hs
  by_cases hlong : 60 < len
  · have d0 : decide (60 < (len : Int)) = true := decide_eq_true (by omega)
    clear hs hlen
    go_enter Try.func4, Try.ntmps4
    go_wp2_with (go_at_call 10; refine (known_any _).mono ?_; rintro e w1 ⟨rfl, hB⟩)
    go_ret
    exact ⟨rfl, hB⟩
  · have d0 : decide (60 < (len : Int)) = false := decide_eq_false (by omega)
    by_cases hz : len = 0
    · subst hz
      have d2 : (((0 : Nat) : Int) == 0) = true := rfl
      clear hs hlen
      go_enter Try.func4, Try.ntmps4
      go_wp2_with (go_at_call 10; refine (known_any _).mono ?_; rintro e w1 ⟨rfl, hB⟩)
      go_ret
      exact ⟨rfl, hB⟩
    · have d2 : ((len : Int) == 0) = false := by simpa using hz
      obtain ⟨A', c', e, hc, hm, hr⟩ := hs
      rw [hlen] at e
      cases e
      obtain ⟨b, off, rfl, hb, hcell⟩ := hr (by omega)
      obtain ⟨i, hi⟩ : ∃ i, i = k % len := ⟨_, rfl⟩
      have hi2 : i < len := by rw [hi]; exact Nat.mod_lt _ (by omega)
      have t1 : (k : Int).tmod (len : Int) = (i : Int) := by rw [Int.tmod_eq_emod_of_nonneg (by omega), hi, Int.natCast_emod]
      have HA := Lib.hid hl
      have HL := Lib.hid hlen
      have HT := Lib.hid (HSp.out.tail hlen hi2)
      have hcl : len ≤ cap := by omega
      have hzz : (len : Int) ≠ 0 := by omega
      have hdl : (l.drop i).length ≤ 60 := by rw [List.length_drop]; omega
      have hll : l.length ≤ 60 := by omega
      obtain ⟨v3, w3, hrun3, ho3, hg3⟩ := append_any w w.heap.size 22 _ _ [] (l.drop i) _ HT.out (OwnS.nil _ _) (by simp only [List.length_nil]; omega) (Nat.le_refl _)
      have HR3 := Lib.hid hrun3
      have hB3 : Below w.heap.size w w3 := (Below.refl _ _).grown hg3 (Nat.le_refl _) (fun k e => by cases e)
      obtain ⟨v4, w4, hrun4, ho4, hg4⟩ := append_any w3 w.heap.size 22 _ _ ([] ++ l.drop i) l _ (HSp.out.on hB3) ho3 (by simp only [List.nil_append]; omega) hB3.size
      have HR4 := Lib.hid hrun4
      have hB4 : Below w.heap.size w w4 := hB3.grown hg4 hB3.size (fun k e => (World.ownsRow.lt ho3 k e).1)
      rw [List.nil_append] at ho4
      have HM := Lib.hid ho4.spans
      have HLm : Hid ((l.drop i ++ l).length ≤ 120) := Lib.hid (by rw [List.length_append]; omega)
      have HON := Lib.hid (order_norm l i)
      have HNl : Hid ((normL l).length ≤ 60) := Lib.hid (by have := normL_length hl; omega)
      have HAn := Lib.hid (normL_all hl)
      have HRt := Lib.hid (right_true (norm_right l))
      have HSelf := Lib.hid (norm_self (norm_right l))
      have HLl := Lib.hid hll
      clear hr hcell hi hl hlen hc hrun3 hrun4 ho3 hg3 ho4 hg4 hB3 hdl hll
      go_enter Try.func4, Try.ntmps4
      go_wp2_with (first | (at_builtin; refine Lib.wpList_append_run _ rfl _ _ _ _ rfl _ _ rfl rfl _ _ HR3.out ?_) | (at_builtin; refine Lib.wpList_append_run _ rfl _ _ _ _ rfl _ _ rfl rfl _ _ HR4.out ?_))
      refine (norm_any _ l w4 (HSp.out.on hB4) (by have := HLl.out; omega)).mono ?_
      rintro e w5 ⟨v5, rfl, ho5, hB5⟩
      have HM5 := Lib.hid (HM.out.on hB5)
      go_wp2_with fail
      refine (norm_any _ (l.drop i ++ l) w5 HM5.out (by have := HLm.out; omega)).mono ?_
      rintro e w6 ⟨v6, rfl, ho6, hB6⟩
      rw [HON.out] at ho6
      have HA5 := Lib.hid (ho5.spans.on hB6)
      have HB6 := Lib.hid ho6.spans
      have hB06 : Below w.heap.size w w6 := bseq hB4 (bseq hB5 hB6)
      clear ho5 ho6
      generalize normL l = a at *
      go_wp2_with fail
      refine (known_any w6).mono ?_
      rintro e w7 ⟨rfl, hB7⟩
      go_wp2_with fail
      refine (same_below _ _ a a true _ _ w7 (HA5.out.on hB7) (HB6.out.on hB7) (by have := HNl.out; omega) (by have := HNl.out; omega) (same_refl a)).mono ?_
      rintro e w8 ⟨rfl, hB8⟩
      have hC8 := bseq hB7 hB8
      go_wp2_with fail
      refine (right_any _ a w8 (HA5.out.on hC8) (by have := HNl.out; omega)).mono ?_
      rintro e w9 ⟨rfl, hB9⟩
      rw [HRt.out]
      have hC9 := bseq hC8 hB9
      go_wp2_with fail
      refine (norm_any _ a w9 (HA5.out.on hC9) (by have := HNl.out; omega)).mono ?_
      rintro e w10 ⟨v10, rfl, ho10, hB10⟩
      rw [HSelf.out] at ho10
      have hC10 := bseq hC9 hB10
      have HD := Lib.hid ho10.spans
      clear ho10
      go_wp2_with fail
      refine (same_below _ _ a a true _ _ w10 HD.out (HA5.out.on hC10) (by have := HNl.out; omega) (by have := HNl.out; omega) (same_refl a)).mono ?_
      rintro e w11 ⟨rfl, hB11⟩
      have hC11 := bseq hC10 hB11
      go_wp2_with fail
      go_ret
      exact ⟨by simp, bseq hB06 hC11⟩

end Go.Proofs.Ytmjgpgibifceeaa
