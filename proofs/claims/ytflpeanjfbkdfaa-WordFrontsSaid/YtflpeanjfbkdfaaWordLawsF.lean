/-
  The walk of layer 1's law WordFronts: it returns true, and writes nothing that was there.
-/
import Derived.Test.YtflpeanjfbkdfaaWordLawsC
import Derived.Test.YtflpeanjfbkdfaaWordZeros
import Derived.Deep.RegionWith
import Derived.Deep.RegionHeld3
namespace Go.Proofs.Ytflpeanjfbkdfaa
open Go.RowKit

theorem Bytes.cut {w : World} {B len cap m : Nat} {A : Option Addr} {l : List Int} (h : Bytes w B (.slice A len cap) l) (hlen : l.length = len) (hm : m ≤ len) : Bytes w B (.slice A m cap) (l.take m) := by
  obtain ⟨A', c, e, h1, h2, hr⟩ := h
  injection e with e1 e2 e3
  subst e1 e3
  have hl : (l.take m).length = m := by rw [List.length_take]; omega
  refine ⟨A, cap, by rw [hl], by omega, h2, fun hp => ?_⟩
  obtain ⟨b, off, e, hb, hc⟩ := hr (by omega)
  refine ⟨b, off, e, hb, fun j hj => ?_⟩
  rw [List.getElem?_take_of_lt (by omega)]
  exact hc j (by omega)

theorem getV_zeros (k : Nat) : getV (List.replicate k 0) = 0 := by
  induction k with
  | zero => rfl
  | succ k ih => rw [List.replicate_succ, getV_cons, ih]; rfl
/-- noughts behind change nothing -/
theorem getV_behind (l : List Int) (k : Nat) : getV ((l ++ List.replicate k 0).take 8) = getV (l.take 8) := by
  rw [List.take_append, getV_append, List.take_replicate, getV_zeros, Int.mul_zero, Int.add_zero]
theorem AllB_zeros (k : Nat) : AllB (List.replicate k 0) := fun x hx => by rw [List.eq_of_mem_replicate hx]; omega

/-- append([]byte(nil), b...), b a row of bytes -/
theorem append_copy (w : World) (ty len cap : Nat) (A : Option Addr) (l : List Int) (hlen : l.length = len) (h60 : len ≤ 1000) (hb : Bytes w w.heap.size (.slice A len cap) l) :
    ∃ v' w', (Builtin.append_ #[23, 23] ty #[.slice none 0 0, .slice A len cap]).run Try.prog w = .ok v' w' ∧ w'.ownsRow w.heap.size 5 1 v' len (l.map (Value.int .u8)) ∧ w.grownBy w' none := by
  obtain ⟨i0, hi, hz0, hz1, hz2⟩ := info_parts Try.info5
  have ht := Try.underlying23
  obtain ⟨A', c, e, h1, h2, hr⟩ := hb
  injection e with e1 e2 e3
  subst e1 e3
  rcases A with _ | ad
  · have h0 : len = 0 := by
      rcases Nat.eq_zero_or_pos len with h | h
      · exact h
      · obtain ⟨b, off, e, _⟩ := hr (by omega)
        cases e
    subst h0
    have hl : l = [] := List.eq_nil_of_length_eq_zero hlen
    subst hl
    refine ⟨.slice none 0 0, w, ?_, World.ownsRow_nil _ _ _ _, ⟨rfl, rfl, rfl, Nat.le_refl _, fun _ _ _ => rfl⟩⟩
    simp [Builtin.append_, run_underlying ht, sizeOf, typeInfo, hi, Builtin.lenOf, Builtin.firstCells]
  · obtain ⟨v', w', hrun, ho, hg, _⟩ := run_append_own (P := Try.prog) w w.heap.size 23 ty 5 i0 (.int .u8 0) 1 1 ht hi hz0 hz1 hz2 rfl (by decide) (.slice none 0 0) 0 [] (World.ownsRow_nil _ _ _ _) ad len cap (l.map (Value.int .u8)) (by simp [hlen])
      (fun j u hu => by
        rw [List.getElem?_map, Option.map_eq_some_iff] at hu
        obtain ⟨x, hx, rfl⟩ := hu
        have hj : j < l.length := (List.getElem?_eq_some_iff.1 hx).1
        obtain ⟨b, off, e, _, hc⟩ := hr (by omega)
        injection e with e
        subst e
        have := hc j hj
        rw [hx, Option.getD_some] at this
        rw [Addr.add_lit]
        exact this)
      (fun u hu => by obtain ⟨x, _, rfl⟩ := List.mem_map.1 hu; rfl) (by unfold maxLen; omega) (by omega) (Nat.le_refl _)
    rw [Nat.zero_add, List.nil_append] at ho
    exact ⟨v', w', hrun, ho, hg⟩

set_option maxHeartbeats 16000000 in
theorem fronts_walk (n : Int) (A : Option Addr) (len cap : Nat) (l : List Int) (w : World) (k0 : 0 ≤ n) (k1 : n ≤ 255) (hlen : l.length = len) (hl : AllB l) (hb : Bytes w w.heap.size (.slice A len cap) l) :
    Calls Try.prog 10 #[.slice A len cap, .int .u8 n] w fun e w' => e = .returned (.bool true) ∧ Below w.heap.size w w' := by
  have HB := Lib.hid hb
  have HL := Lib.hid hlen
  by_cases hlong : 60 < len
  · clear hb hlen
    go_enter Try.func10, Try.ntmps10
    go_wp2_with (go_at_call 11; refine (known_any _).mono ?_; rintro e w1 ⟨rfl, hB⟩)
    go_ret
    exact ⟨rfl, hB⟩
  · obtain ⟨j, hj⟩ := Int.eq_ofNat_of_zero_le (show 0 ≤ n % 20 by omega)
    have j8 : j ≤ 19 := by omega
    have hcap : len ≤ cap := by
      obtain ⟨A', c, e, h1, _⟩ := hb
      injection e with e1 e2 e3
      omega
    clear hb hlen
    obtain ⟨v1, wA, hr1, ho1, hg1⟩ := append_copy w 23 len cap A l HL.out (by omega) HB.out
    have hB1 : Below w.heap.size w wA := (Below.refl _ _).grown hg1 (Nat.le_refl _) (fun g e => by cases e)
    obtain ⟨v2, wB, hr2, ho2, hg2⟩ := append_zeros wA w.heap.size 23 v1 len j (l.map (Value.int .u8)) ho1 (by omega) hB1.size
    have hB2 : Below w.heap.size w wB := hB1.grown hg2 hB1.size (fun g e => (ho1.lt g e).1)
    have ho2' : wB.ownsRow w.heap.size 5 1 v2 (l ++ List.replicate j 0).length ((l ++ List.replicate j 0).map (Value.int .u8)) := by
      rw [List.length_append, List.length_replicate, HL.out, List.map_append, List.map_replicate]; exact ho2
    have HY := Lib.hid (own_bytes ho2')
    have HR1 := Lib.hid hr1
    have HR2 := Lib.hid hr2
    have HGB := Lib.hid hB2
    clear ho1 hg1 hB1 ho2 hg2 ho2' hr1 hr2 hB2
    have HQ := Lib.hid (getV_behind l j)
    have HA := hl.append (AllB_zeros j)
    have hc1 : clip8 (-3) = 0 := rfl
    have hc2 : clip8 99 = 8 := rfl
    have HT : Hid ((l.take 8).take 8 = l.take 8) := Lib.hid (by rw [List.take_take]; rfl)
    go_enter Try.func10, Try.ntmps10
    go_wp2_with (at_builtin; first | (refine Lib.wpList_append_run _ rfl _ _ _ _ rfl _ _ rfl rfl _ _ HR1.out ?_) | (refine Lib.wpList_append_run _ rfl _ _ _ _ rfl _ _ rfl rfl _ _ HR2.out ?_))
    have hS0 := (Below.refl wB.heap.size wB).drew
    have b4 : (0 : Int) ≤ (cap : Int) := by omega
    by_cases h8 : 8 < len
    · have b1 : (8 : Int) ≤ (cap : Int) := by omega
      have b2 : 8 ≤ cap := by omega
      go_region_with (first | (go_at_call 11; refine (known_any _).mono ?_; rintro e wP ⟨rfl, hP⟩; have hS := bseq (a := wB) (by assumption) hP) | (go_at_call_of 14 (Value.slice A len cap); refine (get_any _ l _ (HB.out.on (bseq (b := wB) HGB.out (by assumption))) hl).mono ?_; rintro e wP ⟨rfl, hP⟩; have hS := bseq (a := wB) (by assumption) hP) | (go_at_call_of 14 v2; refine (get_any _ (l ++ List.replicate j 0) _ (HY.out.on (by assumption)) HA).mono ?_; rintro e wP ⟨rfl, hP⟩; rw [HQ.out]; have hS := bseq (a := wB) (by assumption) hP) | (go_at_call 14; refine (get_any _ (l.take 8) _ ((HB.out.cut HL.out (by omega)).on (bseq (b := wB) HGB.out (by assumption))) (hl.take 8)).mono ?_; rintro e wP ⟨rfl, hP⟩; rw [HT.out]; have hS := bseq (a := wB) (by assumption) hP) | (go_at_call 12; refine (put_row _ _ _).mono ?_; rintro e wP ⟨rfl, _, hP⟩; have hS := bseq (a := wB) (by assumption) hP))
      all_goals
        go_wp2
        go_ret
        exact ⟨by simp [Act.put], bseq HGB.out (by assumption)⟩
    · have b1 : (len : Int) ≤ (cap : Int) := by omega
      have b2 : (0 : Int) ≤ (len : Int) := by omega
      have b3 : (len : Int) ≤ 8 := by omega
      go_region_with (first | (go_at_call 11; refine (known_any _).mono ?_; rintro e wP ⟨rfl, hP⟩; have hS := bseq (a := wB) (by assumption) hP) | (go_at_call_of 14 (Value.slice A len cap); refine (get_any _ l _ (HB.out.on (bseq (b := wB) HGB.out (by assumption))) hl).mono ?_; rintro e wP ⟨rfl, hP⟩; have hS := bseq (a := wB) (by assumption) hP) | (go_at_call_of 14 v2; refine (get_any _ (l ++ List.replicate j 0) _ (HY.out.on (by assumption)) HA).mono ?_; rintro e wP ⟨rfl, hP⟩; rw [HQ.out]; have hS := bseq (a := wB) (by assumption) hP) | (go_at_call 12; refine (put_row _ _ _).mono ?_; rintro e wP ⟨rfl, _, hP⟩; have hS := bseq (a := wB) (by assumption) hP))
      all_goals
        go_wp2
        go_ret
        exact ⟨by simp [Act.put], bseq HGB.out (by assumption)⟩

end Go.Proofs.Ytflpeanjfbkdfaa
