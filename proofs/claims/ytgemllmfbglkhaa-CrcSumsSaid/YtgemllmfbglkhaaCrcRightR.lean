/-
  The document's Right: are the last four bytes the sum of those ahead?
-/
import Derived.Test.YtgemllmfbglkhaaCrcRight
import Derived.Deep.QuietTactic
import Derived.BigQuiet
import Derived.Lib.SlicesS
import Derived.WalkSmall
namespace Go.Proofs.Ytgemllmfbglkhaa
open Go.RowKit Go.Deep

/-- the document's Right comes to the same -/
theorem rightB_str {l : List Int} (hl : AllB l) {k : Nat} (h4 : l.length = k + 4) : ((strOfNums (sealL (l.take k))).toList == (strOfNums l).toList) = rightB l := by
  have hi := rightB_iff hl (by omega)
  rw [h4, Nat.add_sub_cancel] at hi
  rw [Bool.eq_iff_iff, hi]
  constructor
  · intro h
    exact strOfNums_inj (sealL_AllB (hl.take k)) hl ((Go.Lib.bytes_beq_iff _ _).1 h)
  · intro h
    exact (Go.Lib.bytes_beq_iff _ _).2 (by rw [h])

set_option maxHeartbeats 4000000 in
theorem rightr_any (A : Option Addr) (len cap : Nat) (l : List Int) (w : World) (hlen : l.length = len) (h : Bytes w w.heap.size (.slice A len cap) l) (hl : AllB l) (h1000 : len ≤ 1000000) :
    Calls Try.prog 22 #[.slice A len cap] w fun e w' => e = .returned (.bool (rightB l)) ∧ Below w.heap.size w w' := by
  have HB := Lib.hid h
  have HL := Lib.hid hlen
  obtain ⟨f1, f2, f3⟩ := h.fits hlen
  clear h
  by_cases h4 : len < 4
  · have HE := Lib.hid (rightB_short (l := l) (by omega))
    have hS0 := (Below.refl w.heap.size w).drew
    have hd : decide (4 ≤ (len : Int)) = false := decide_eq_false (by omega)
    clear hlen f3 f1 f2 h1000
    go_enter Try.func22, Try.ntmps22
    go_wp2
    go_quiet (fail)
    go_wp2
    go_ret
    exact ⟨congrArg (fun b => Ending.returned (.bool b)) HE.out.symm, below_drewN (Below.refl _ _) _⟩
  · obtain ⟨b, off, rfl⟩ := f3 (by omega)
    clear f3 hlen
    obtain ⟨k, rfl⟩ : ∃ k, len = k + 4 := ⟨len - 4, by omega⟩
    have HC := HB.out.cut HL.out (m := k) (by omega)
    have HCc := Lib.hid HC
    clear HC
    have HR := Lib.hid (rightB_str hl HL.out)
    have hlk : (l.take k).length = k := by rw [List.length_take, HL.out]; omega
    have HV := Lib.hid (conv_later HB.out)
    have c1 : (k : Int) ≤ (cap : Int) := by omega
    have c2 : (0 : Int) ≤ (k : Int) := by omega
    have HK : Hid ((l.take k).length ≤ 1000000) := Lib.hid (by rw [hlk]; omega)
    clear h4 hlk
    go_enter Try.func22, Try.ntmps22
    go_wp2
    have hcv0 := HV.out w.drew (Below.refl w.heap.size w).drew
    have hS0 := (Below.refl w.heap.size w).drew
    go_region_with (go_at_call 20; refine (sealr_any _ (l.take k) _ (HCc.out.on (by assumption)) (hl.take k) HK.out).mono ?_; rintro e wP ⟨vP, rfl, hoP, hP⟩; have hcv := bytes_conv (own_bytes hoP); have hS := bseq (a := w) (by assumption) hP; have hcv1 := HV.out wP hS; clear hoP hP)
    all_goals
      go_wp2
      go_ret
      exact ⟨congrArg (fun b => Ending.returned (.bool b)) HR.out, by assumption⟩

end Go.Proofs.Ytgemllmfbglkhaa
