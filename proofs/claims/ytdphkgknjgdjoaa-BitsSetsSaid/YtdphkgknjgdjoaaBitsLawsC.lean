/-
  The walk of layer 3's law BitsSpoil: it returns true, and writes nothing that was there.
-/
import Derived.Test.YtdphkgknjgdjoaaBitsLawsB
namespace Go.Proofs.Ytdphkgknjgdjoaa
open Go.RowKit Go.Deep

set_option maxHeartbeats 2000000 in
theorem spoil_walk (n : Nat) (A : Option Addr) (len cap : Nat) (l : List Int) (w : World) (hn : n < 256) (hlen : l.length = len) (hl : AllB l) (hb : Bytes w w.heap.size (.slice A len cap) l) :
    Calls Try.prog 7 #[.slice A len cap, .int .u8 n] w fun e w' => e = .returned (.bool true) ∧ Below w.heap.size w w' := by
  have HB := Lib.hid hb
  have HL := Lib.hid hlen
  by_cases hlong : 100 < len
  · clear hb hlen
    go_enter Try.func7, Try.ntmps7
    go_wp2_with (go_at_call 10; refine (known_any _).mono ?_; rintro e w1 ⟨rfl, hB⟩)
    go_ret
    exact ⟨rfl, hB⟩
  · have HLe : Hid (l.length ≤ 1000000000) := Lib.hid (by omega)
    have HA := Lib.hid hl
    have hcv := bytes_conv hb
    have HN : Hid (AllB []) := Lib.hid (fun x h => by simp at h)
    have HOL : Hid ((orL l []).length = len) := Lib.hid ((orL_length l []).trans (by simp; exact hlen))
    have HM : Hid (max l.length ([] : List Int).length = len) := Lib.hid (by simp; exact hlen)
    have HSL : Hid ((setL l (n : Nat)).length = len) := Lib.hid ((setL_length _ _).trans hlen)
    clear hb hlen hl
    go_enter Try.func7, Try.ntmps7
    go_wp2_with fail
    refine (bset_row _ l n _ HB.out HA.out HLe.out (by omega) (by omega)).mono ?_
    rintro e w1 ⟨rfl, hr1, hB1⟩
    rw [HL.out]
    have HR1 := Lib.hid hr1
    clear hr1 hcv
    go_wp2_with fail
    refine (bor_row _ _ l [] _ (HB.out.on hB1) HA.out (nil_bytes _ _) HN.out HLe.out (by simp)).mono ?_
    rintro e w2 ⟨rfl, hr2, hB2⟩
    rw [HM.out]
    have HR2 := Lib.hid hr2
    have HR1b := Lib.hid (HR1.out.below hB2 HR1.out.lt)
    have hg1 := HR1.out.lt
    have hg2 := hr2.lt
    have hBB := bseq hB1 hB2
    clear hr2
    go_wp2_with fail
    go_loopw [8] (fun i wr => ∃ t : Nat, t ≤ len ∧ i = .int .i64 t ∧ (∃ x, x.length = len ∧ RowB wr w.heap.size x) ∧ (∃ y, y.length = len ∧ RowB wr w1.heap.size y) ∧ Below w.heap.size w wr) (fun i _ => len - (intOf i).toNat)
    case atStart => exact ⟨0, by omega, rfl, ⟨_, HSL.out, HR1b.out⟩, ⟨_, HOL.out, HR2.out⟩, hBB⟩
    case round =>
      obtain ⟨t, ht, rfl, ⟨x, hx, hrx⟩, ⟨y, hy, hry⟩, hB⟩ := hrel
      by_cases hlt : t < len
      · have hfx := hrx.frozen t
        have hfy := hry.frozen t
        have hcx := hrx.cell (j := t) (by omega)
        have hcy := hry.cell (j := t) (by omega)
        have hne : w.heap.size ≠ w1.heap.size := by omega
        have hX := Lib.hid ((hrx.set t 165).other (g' := w1.heap.size) hne t (.int .u8 90))
        have hY := Lib.hid ((hry.other (g' := w.heap.size) (fun e => hne e.symm) t (.int .u8 165)).set t 90)
        have hX2 : Hid ((x.set t 165).length = len) := Lib.hid (by simp; exact hx)
        have hY2 : Hid ((y.set t 90).length = len) := Lib.hid (by simp; exact hy)
        clear hrx hry hx hy
        go_wp2_with fail
        go_roundw
        case rel => exact ⟨t + 1, by omega, by go_num, ⟨_, hX2.out, hX.out⟩, ⟨_, hY2.out, hY.out⟩, (hB.setCell (p := ⟨w.heap.size, t, none⟩) (Nat.le_refl _) _).setCell (p := ⟨w1.heap.size, t, none⟩) (by show w.heap.size ≤ w1.heap.size; omega) _⟩
        case measure => simp [intOf]; omega
      · have hge : len ≤ t := by omega
        go_wp2_with fail
        refine (known_any _).mono ?_
        rintro e w3 ⟨rfl, hB3⟩
        have hB4 : Below w.heap.size w w3 := hB.trans (hB3.mono hB.size)
        have hcv := bytes_conv (HB.out.on hB4)
        go_wp2_with fail
        go_ret
        exact ⟨rfl, hB4⟩

end Go.Proofs.Ytdphkgknjgdjoaa
