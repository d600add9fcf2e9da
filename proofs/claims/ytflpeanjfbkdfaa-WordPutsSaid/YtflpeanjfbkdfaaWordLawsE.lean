/-
  The walk of layer 1's law WordPuts: it returns true, and writes nothing that was there. Besides: a row of bytes as a string.
-/
import Derived.Test.YtflpeanjfbkdfaaWordLawsC
import Derived.Laws.BytesArg
import Derived.Deep.RegionWith
import Derived.Deep.RegionHeld3
namespace Go.Proofs.Ytflpeanjfbkdfaa
open Go.RowKit

/-- string(v) of a row of bytes -/
theorem bytes_conv {w : World} {B : Nat} {v : Value} {l : List Int} (h : Bytes w B v l) : (convert 23 9 v).run Try.prog w = .ok (.string (strOfNums l)) w := by
  obtain ⟨A, c, rfl, _, _, hr⟩ := h
  rcases l with _ | ⟨x, l⟩
  · rcases A with _ | a
    · exact run_convert_bytes_nil w 23 5 Try.underlying23 Try.underlying5 _ _ 9 Try.underlying9
    · rw [run_convert_bytes_string w 23 9 5 (some a) _ c Try.underlying23 Try.underlying5 Try.underlying9]
      exact run_bytesToString w a 0 c [] (run_loadCells_list w a [] (fun j v h => by simp at h))
  · obtain ⟨b, off, rfl, _, hc⟩ := hr (by simp)
    refine run_convert_bytes_arg w 23 5 Try.underlying23 Try.underlying5 b off _ c (x :: l) rfl (fun i hi => ?_) 9 Try.underlying9
    rw [List.getD_eq_getElem?_getD]
    exact hc i hi

/-- what a call of Put leaves for the conversion behind it: the string, in every later world -/
theorem conv_later {w : World} {v : Value} {l : List Int} (h : Bytes w w.heap.size v l) : ∀ W, Below w.heap.size w W → (convert 23 9 v).run Try.prog W = .ok (.string (strOfNums l)) W := fun _ hb => bytes_conv (h.below hb (Nat.le_refl _))

set_option maxHeartbeats 16000000 in
theorem puts_walk (n wd k : Int) (A : Option Addr) (len cap : Nat) (l : List Int) (w : World) (n0 : 0 ≤ n) (n1 : n ≤ 18446744073709551615) (k0 : 0 ≤ k) (k1 : k ≤ 255)
    (hl : AllB l) (hb : Bytes w w.heap.size (.slice A len cap) l) :
    Calls Try.prog 3 #[.int .u64 n, .int .i64 wd, .slice A len cap, .int .u8 k] w fun e w' => e = .returned (.bool true) ∧ Below w.heap.size w w' := by
  have HB := Lib.hid hb
  clear hb
  by_cases hlong : 100 < len
  · go_enter Try.func3, Try.ntmps3
    go_wp2_with (go_at_call 11; refine (known_any _).mono ?_; rintro e w1 ⟨rfl, hB⟩)
    go_ret
    exact ⟨rfl, hB⟩
  · go_enter Try.func3, Try.ntmps3
    go_wp2_with (go_at_call 11; refine (known_any _).mono ?_; rintro e w1 ⟨rfl, hB⟩)
    have hS0 := (Below.refl w1.heap.size w1).drew
    go_region_with (first | (go_at_call 12; refine (put_any _ _ _).mono ?_; rintro e wP ⟨v, rfl, hby, hP⟩; have hcv := conv_later hby; have hrf := Below.refl wP.heap.size wP; have hS := bseq (a := w1) (by assumption) hP; clear hby hP) | (go_at_call 13; refine (putr_any _ _ _ n0 n1).mono ?_; rintro e wP ⟨v, rfl, hby, hP⟩; have hcv := conv_later hby; have hrf := Below.refl wP.heap.size wP; have hS := bseq (a := w1) (by assumption) hP; clear hby) | (go_at_call 14; refine (get_any _ l _ ((HB.out.on hB).on (by assumption)) hl).mono ?_; rintro e wP ⟨rfl, hP⟩; have hS := bseq (a := w1) (by assumption) hP) | (go_at_call 15; refine (getr_any _ l _ _ ((HB.out.on hB).on (by assumption)) hl).mono ?_; rintro e w' ⟨rfl, rfl⟩))
    all_goals
      go_wp2
      go_ret
      exact ⟨by simp [Act.put], bseq hB (by assumption)⟩

end Go.Proofs.Ytflpeanjfbkdfaa
