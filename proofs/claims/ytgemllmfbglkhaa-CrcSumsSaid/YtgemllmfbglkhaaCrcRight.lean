/-
  crc.Right and the document's: are the last four bytes the sum of those ahead?
-/
import Derived.Test.YtgemllmfbglkhaaCrcRightMath
import Derived.Test.YtgemllmfbglkhaaWordGet
import Derived.Deep.RegionWith
import Derived.Deep.RegionHeld3
namespace Go.Proofs.Ytgemllmfbglkhaa
open Go.RowKit Go.Deep

theorem Bytes.fits {w : World} {B len cap : Nat} {A : Option Addr} {l : List Int} (h : Bytes w B (.slice A len cap) l) (hlen : l.length = len) : len ≤ cap ∧ cap ≤ 9223372036854775807 ∧ (0 < len → ∃ b off, A = some ⟨b, off, none⟩) := by
  obtain ⟨A', c, e, h1, h2, hr⟩ := h
  injection e with e1 e2 e3
  subst e1 e3
  refine ⟨by omega, h2, fun hp => ?_⟩
  obtain ⟨b, off, e, _⟩ := hr (by omega)
  exact ⟨b, off, e⟩
/-- b[k:] -/
theorem Bytes.from {w : World} {B len cap b off k : Nat} {l : List Int} (h : Bytes w B (.slice (some ⟨b, off, none⟩) len cap) l) (hlen : l.length = len) (hk : k ≤ len) : Bytes w B (.slice (some ⟨b, off + k, none⟩) (len - k) (cap - k)) (l.drop k) := by
  obtain ⟨A', c, e, h1, h2, hr⟩ := h
  injection e with e1 e2 e3
  subst e1 e3
  have hl : (l.drop k).length = len - k := by rw [List.length_drop]; omega
  refine ⟨_, cap - k, by rw [hl], by omega, by omega, fun hp => ⟨b, off + k, rfl, ?_, fun j hj => ?_⟩⟩
  · obtain ⟨b', off', e, hb, hc⟩ := hr (by omega)
    cases e
    exact hb
  · obtain ⟨b', off', e, hb, hc⟩ := hr (by omega)
    cases e
    rw [List.getElem?_drop, Nat.add_assoc]
    exact hc (k + j) (by omega)

set_option maxHeartbeats 4000000 in
theorem right_any (A : Option Addr) (len cap : Nat) (l : List Int) (w : World) (hlen : l.length = len) (h : Bytes w w.heap.size (.slice A len cap) l) (hl : AllB l) :
    Calls Try.prog 21 #[.slice A len cap] w fun e w' => e = .returned (.bool (rightB l)) ∧ Below w.heap.size w w' := by
  have HB := Lib.hid h
  have HL := Lib.hid hlen
  obtain ⟨f1, f2, f3⟩ := h.fits hlen
  clear h
  by_cases h4 : len < 4
  · have HE := Lib.hid (rightB_short (l := l) (by omega))
    clear hlen f3
    go_enter Try.func21, Try.ntmps21
    go_wp2
    go_ret
    exact ⟨congrArg (fun b => Ending.returned (.bool b)) HE.out.symm, Below.refl _ _⟩
  · obtain ⟨b, off, rfl⟩ := f3 (by omega)
    clear f3 hlen
    obtain ⟨k, rfl⟩ : ∃ k, len = k + 4 := ⟨len - 4, by omega⟩
    have HG := HB.out.from HL.out (k := k) (by omega)
    have HC := HB.out.cut HL.out (m := k) (by omega)
    rw [Nat.add_sub_cancel_left] at HG
    have HGg := Lib.hid HG
    have HCc := Lib.hid HC
    clear HG HC
    have hd : (l.drop k).length = 4 := by rw [List.length_drop, HL.out]; omega
    have HT : Hid ((l.drop k).take 8 = l.drop k) := Lib.hid (List.take_of_length_le (by omega))
    have HR : Hid (rightB l = decide (getV (l.drop k) = (crcSum (nats (l.take k)) : Nat))) := Lib.hid (by
      unfold rightB
      rw [HL.out, decide_eq_true (by omega), Bool.true_and, Nat.add_sub_cancel])
    have c1 : (k : Int) ≤ (cap : Int) := by omega
    have c4 : ¬ (cap = k) := by omega
    have c2 : (0 : Int) ≤ (k : Int) := by omega
    have c3 : (k : Int) ≤ (k : Int) + 4 := by omega
    have HW : Hid (IntKind.u64.wrap (crcSum (nats (l.take k)) : Nat) = (crcSum (nats (l.take k)) : Nat)) := Lib.hid (by
      have := crcSum_lt (nats_BB (hl.take k))
      rw [IntKind.wrap_u64]; omega)
    clear hd h4
    go_enter Try.func21, Try.ntmps21
    go_wp2
    have hS0 := (Below.refl w.heap.size w).drew
    go_region_with (first | (go_at_call 27; refine (get_any _ (l.drop k) _ (HGg.out.on (by assumption)) (hl.drop k)).mono ?_; rintro e wP ⟨rfl, hP⟩; rw [HT.out]; have hS := bseq (a := w) (by assumption) hP) | (go_at_call 17; refine (sum_any _ (l.take k) _ (HCc.out.on (by assumption)) (hl.take k)).mono ?_; rintro e wP ⟨rfl, hP⟩; have hS := bseq (a := w) (by assumption) hP))
    all_goals
      rw [HW.out]
      go_wp2
      go_ret
      exact ⟨congrArg (fun b => Ending.returned (.bool b)) HR.out.symm, by assumption⟩

end Go.Proofs.Ytgemllmfbglkhaa
