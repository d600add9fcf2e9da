/-
  Layer 7, the landed package: Cut's answer, given what cut does.
-/
import Derived.Test.YthinhknfiaohlaaArPayC
namespace Go.Proofs.Ythinhknfiaohlaa
open Go.RowKit Go.Deep

set_option maxRecDepth 100000 in
set_option maxHeartbeats 1000000 in
theorem acutr_any (v u : Value) (l bs : List Int) (w : World) (h : NumS .i64 w w.heap.size v l) (hl : All64 l) (h' : Bytes w w.heap.size u bs) (hb : AllB bs) :
    Calls Try.prog 22 #[v, u] w fun e w' => ∃ x, e = .returned (.tuple #[x, .int .u16 (cutE l bs)]) ∧ OwnA w' w.heap.size x (cutR l bs) ∧ Below w.heap.size w w' := by
  have HF := Lib.hid (afits_any v l _ w h hl)
  have HV := Lib.hid h
  have HU := Lib.hid h'
  have HBs := Lib.hid hb
  obtain ⟨A, c, rfl, hc, hm, -⟩ := h
  obtain ⟨A', c', rfl, hc', hm', -⟩ := h'
  obtain ⟨len, hn⟩ : ∃ n, n = l.length := ⟨_, rfl⟩
  obtain ⟨bl, hn'⟩ : ∃ n, n = bs.length := ⟨_, rfl⟩
  have HN := Lib.hid hn
  have HN' := Lib.hid hn'
  rw [← hn] at hc HV HF ⊢
  rw [← hn'] at hc' HU ⊢
  clear hl hb hn hn'
  cases hf : fitsL l with
  | false =>
    rw [hf] at HF
    have HE : Hid (cutE l bs = 1 ∧ cutR l bs = []) := Lib.hid (by
      have : cutE l bs = 1 := by unfold cutE; rw [hf]; rfl
      exact ⟨this, by unfold cutR; rw [this]; rfl⟩)
    rw [HE.out.1, HE.out.2]
    clear hf HE
    go_enter Try.func22, Try.ntmps22
    go_wp2_with fail
    refine HF.out.mono ?_
    rintro e w' ⟨rfl, rfl⟩
    go_wp2_with fail
    go_ret2
    exact ⟨_, rfl, OwnA.nil _ _, Below.refl _ _⟩
  | true =>
    rw [hf] at HF
    have HFf := Lib.hid hf
    have hp : ∀ t, -1000000000000 ≤ (l.take t).sum ∧ (l.take t).sum ≤ 1000000000000 := fun t => by have := fits_take hf t; omega
    have HS := Lib.hid (asum_any _ l _ w HV.out hp)
    have hsb := fits_take hf l.length
    rw [List.take_length] at hsb
    obtain ⟨S, hS⟩ : ∃ S, l.sum = S := ⟨_, rfl⟩
    have HSS := Lib.hid hS
    rw [hS] at HS hsb
    have hw8 : IntKind.i64.wrap (8 * S) = 8 * S := IntWalk.i64_in _ (by omega)
    by_cases hbl : (bl : Int) = 8 * S
    · have d0 : ((bl : Int) != 8 * S) = false := by simp [hbl]
      have HE : Hid (cutE l bs = 0 ∧ cutR l bs = cutTo l bs l.length) := Lib.hid (by
        have : cutE l bs = 0 := by unfold cutE; rw [if_pos hf, if_pos (by rw [← HN'.out, hS]; exact hbl)]
        exact ⟨this, by unfold cutR; rw [if_pos this]⟩)
      have HC := Lib.hid (acut_any _ _ l bs w HV.out hf HU.out HBs.out (by rw [← HN'.out, hS]; exact hbl))
      rw [HE.out.1, HE.out.2]
      clear hf hp hS hbl HE hw8
      have hw8 : IntKind.i64.wrap (8 * S) = 8 * S := IntWalk.i64_in _ (by omega)
      go_enter Try.func22, Try.ntmps22
      go_wp2_with fail
      refine HF.out.mono ?_
      rintro e w' ⟨rfl, rfl⟩
      go_wp2_with fail
      refine HS.out.mono ?_
      rintro e w' ⟨rfl, rfl⟩
      go_wp2_with fail
      refine HC.out.mono ?_
      rintro e w1 ⟨x, rfl, ho, hB⟩
      obtain ⟨A9, c9, h9⟩ := ho.arV.form (cutTo_length l bs l.length)
      subst h9
      have HO := Lib.hid ho
      clear ho
      go_wp2_with fail
      go_ret2
      exact ⟨_, rfl, HO.out, hB⟩
    · have d0 : ((bl : Int) != 8 * S) = true := by simpa using hbl
      have HE : Hid (cutE l bs = 10 ∧ cutR l bs = []) := Lib.hid (by
        have : cutE l bs = 10 := by unfold cutE; rw [if_pos hf, if_neg (by rw [← HN'.out, hS]; exact hbl)]
        exact ⟨this, by unfold cutR; rw [this]; rfl⟩)
      rw [HE.out.1, HE.out.2]
      clear hf hp hS hbl HE
      go_enter Try.func22, Try.ntmps22
      go_wp2_with fail
      refine HF.out.mono ?_
      rintro e w' ⟨rfl, rfl⟩
      go_wp2_with fail
      refine HS.out.mono ?_
      rintro e w' ⟨rfl, rfl⟩
      go_wp2_with fail
      go_ret2
      exact ⟨_, rfl, OwnA.nil _ _, Below.refl _ _⟩

end Go.Proofs.Ythinhknfiaohlaa
