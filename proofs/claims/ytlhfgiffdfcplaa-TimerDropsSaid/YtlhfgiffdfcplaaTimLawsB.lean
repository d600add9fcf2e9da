/-
  Layer 5: the walk of TimerDoes, over any queue that is as TimerOK asks.
-/
import Derived.Test.YtlhfgiffdfcplaaTimDoes
namespace Go.Proofs.Ytlhfgiffdfcplaa
open Go.RowKit Go.Deep
variable {QR : World → (Nat → Prop) → Value → List Sp → Prop}

abbrev Dd := Int × Int × Int
def AllD (l : List Dd) : Prop := ∀ d ∈ l, (0 ≤ d.1 ∧ d.1 ≤ 255) ∧ In64 d.2.1 ∧ In64 d.2.2
/-- the slice value v has the deeds l, in memory below block B -/
def Deeds (w : World) (B : Nat) (v : Value) (l : List Dd) : Prop :=
  ∃ A c, v = .slice A l.length c ∧ (0 < l.length → ∃ b off, A = some ⟨b, off, none⟩ ∧ b < B ∧ ∀ j, j < l.length → w.cell? ⟨b, off + j * 3, none⟩ = some (.int .u8 (l[j]?.getD (0, 0, 0)).1) ∧ w.cell? ⟨b, off + j * 3 + 1, none⟩ = some (.int .i64 (l[j]?.getD (0, 0, 0)).2.1) ∧ w.cell? ⟨b, off + j * 3 + 2, none⟩ = some (.int .i64 (l[j]?.getD (0, 0, 0)).2.2))

set_option maxRecDepth 100000 in
set_option maxHeartbeats 2000000 in
theorem does_walk (T : TimerOK QR) (A : Option Addr) (len cap : Nat) (l : List Dd) (w : World) (hlen : l.length = len) (hl : AllD l) (hd : Deeds w w.heap.size (.slice A len cap) l) :
    Calls Try.prog 3 #[.slice A len cap] w fun e w' => e = .returned (.bool true) ∧ Below w.heap.size w w' := by
  have HT := Lib.hid T
  obtain ⟨A', c', e, hr⟩ := hd
  rw [hlen] at e
  cases e
  have H := Lib.hid hr
  have HN := Lib.hid hlen
  have HA := Lib.hid hl
  clear T hr hl
  by_cases hlong : 80 < len
  · have d0 : decide (80 < (len : Int)) = true := decide_eq_true (by omega)
    clear hlen
    go_enter Try.func3, Try.ntmps3
    go_wp2_with (go_at_call 10; refine (known_any HT.out _).mono ?_; rintro e w1 ⟨rfl, hB⟩)
    go_ret
    exact ⟨rfl, hB⟩
  · have d0 : decide (80 < (len : Int)) = false := decide_eq_false (by omega)
    clear hlen
    go_enter Try.func3, Try.ntmps3
    go_wp2_with fail
    refine (known_any HT.out w).mono ?_
    rintro e w1 ⟨rfl, hB1⟩
    go_wp2_with fail
    refine (HT.out.new w1).mono ?_
    rintro e w2 ⟨q, S, rfl, hq, hg⟩
    have HQ2 := Lib.hid hq
    have HG2 : Hid (Grows (fun _ => False) S w w2) := Lib.hid ((Grows.same hB1).trans hg)
    clear hq hg
    go_wp2_with fail
    go_loopw [4, 5] (fun v i wr => ∃ (t : Nat) (S' : Nat → Prop) (cur : List Sp), t ≤ len ∧ i = .int .i64 t ∧ QR wr S' q cur ∧ Beside wr S' v cur ∧ Grows (fun _ => False) S' w wr) (fun _ i _ => len - (intOf i).toNat)
    case atStart => exact ⟨0, S, [], by omega, rfl, HQ2.out, Beside.nil _ _, HG2.out⟩
    case round =>
      obtain ⟨t, S', cur, ht, rfl, hq, hv, hg⟩ := hrel
      have HQ := Lib.hid hq
      have HV := Lib.hid hv
      have HG := Lib.hid hg
      have hB := hg.new_below
      clear hq hv hg
      by_cases hlt : t < len
      · obtain ⟨b, off, rfl, hb, hcell⟩ := H.out (by rw [HN.out]; omega)
        obtain ⟨u0, u1, u2⟩ := hcell t (by rw [HN.out]; exact hlt)
        have hc0 := (hB.cell (p := ⟨b, off + t * 3, none⟩) hb).trans u0
        have hc1 := (hB.cell (p := ⟨b, off + t * 3 + 1, none⟩) hb).trans u1
        have hc2 := (hB.cell (p := ⟨b, off + t * 3 + 2, none⟩) hb).trans u2
        have hbd := HA.out (l[t]?.getD (0, 0, 0)) (by rw [List.getElem?_eq_getElem (by rw [HN.out]; exact hlt)]; exact List.getElem_mem _)
        clear hcell u0 u2
        obtain ⟨u, hu⟩ : ∃ u, l[t]?.getD (0, 0, 0) = u := ⟨_, rfl⟩
        rw [hu] at hc0 hc1 hc2 hbd u1
        clear hu
        obtain ⟨k, key, at_⟩ := u
        simp only at hc0 hc1 hc2 hbd u1
        have HU1 := Lib.hid u1
        have HBd := Lib.hid hbd
        clear hbd u1
        go_wp2_with fail
        refine (deed_any HT.out S' q _ cur k key at_ wr HQ.out HV.out HBd.out.1 HBd.out.2.1 HBd.out.2.2).mono ?_
        rintro e w3 ⟨v3, S3, rfl, hq3, hv3, hg3⟩
        have HQ3 := Lib.hid hq3
        have HV3 := Lib.hid hv3
        have HG3 := Lib.hid (HG.out.trans hg3)
        have hc4 := (HG3.out.new_below.cell (p := ⟨b, off + t * 3 + 1, none⟩) hb).trans HU1.out
        clear hq3 hv3 hg3
        go_wp2_with fail
        refine (like_any HT.out S3 q _ _ key w3 HQ3.out HV3.out HBd.out.2.1).mono ?_
        rintro e w4 ⟨S4, rfl, hq4, hv4, hg4⟩
        have HR := Lib.hid (And.intro hq4 (And.intro hv4 (HG3.out.trans hg4)))
        clear hq4 hv4 hg4
        go_wp2_with fail
        go_roundw
        case rel => exact ⟨t + 1, S4, _, by omega, by go_num, HR.out⟩
        case measure => simp [intOf]; omega
      · obtain rfl : t = len := by omega
        go_wp2_with fail
        go_ret
        exact ⟨rfl, hB⟩

end Go.Proofs.Ytlhfgiffdfcplaa
