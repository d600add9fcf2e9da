/-
  Layer 8: the law's count of a tree that came in (many).
-/
import Derived.Test.YtofpjcmcpejnfaaDoorZTrIn
import Derived.Test.YtofpjcmcpejnfaaDoorZTrDeep
import Derived.WalkMore

namespace Go.Proofs.YtofpjcmcpejnfaaDoor
open Go.RowKit Go.Deep

theorem totalAll_take {ks : List Tr} {q : Nat} (h : q < ks.length) : totalAll (ks.take (q + 1)) = totalAll (ks.take q) + total (ks[q]?.getD Tr.nil) := by
  induction ks generalizing q with
  | nil => simp at h
  | cons t r ih =>
    cases q with
    | zero => simp [totalAll]
    | succ q =>
      rw [List.take_succ_cons, List.take_succ_cons]
      unfold totalAll
      rw [ih (by simpa using h), List.getElem?_cons_succ]
      omega
def ManyC (t : Tr) : Prop :=
  ∀ (v : Value) (left : Int) (w : World), TrW w w.heap.size t v → 0 ≤ left → left ≤ 400 →
    Calls Tryd.prog 9 #[v, .int .i64 left] w fun e w' => ∃ z : Int, e = .returned (.int .i64 z) ∧ (-562949953421312 ≤ z ∧ z ≤ 400) ∧ (0 ≤ z → (total t : Int) ≤ left - z) ∧ Below w.heap.size w w'

set_option maxRecDepth 100000 in
set_option maxHeartbeats 1000000 in
theorem many_step (k z : Int) (ws bs : List Int) (ks : List Tr) (ih : ∀ j, j < ks.length → ManyC (ks[j]?.getD Tr.nil)) : ManyC (.mk k z ws bs ks) := by
  intro v left w hT h0 h400
  unfold TrW at hT
  obtain ⟨vw, vb, A3, c3, rfl, hg, hw, hb, hk3, hk4, hkid⟩ := hT
  obtain ⟨A1, c1, rfl⟩ := hw.form rfl
  obtain ⟨A2, c2, eb, -⟩ := hb
  subst eb
  obtain ⟨-, -, g1, g2, g3, -⟩ := hg
  have htot : total (.mk k z ws bs ks) = 1 + ws.length + bs.length + totalAll ks := by rw [total]
  rw [htot]
  have hK : ∀ q, q < ks.length → ∃ b off, A3 = some ⟨b, off, none⟩ ∧ b < w.heap.size ∧ ∃ k z vw vb vk, w.cell? ⟨b, off + q * 5, none⟩ = some (.int .i64 k) ∧ w.cell? ⟨b, off + q * 5 + 1, none⟩ = some (.int .i64 z) ∧ w.cell? ⟨b, off + q * 5 + 2, none⟩ = some vw ∧ w.cell? ⟨b, off + q * 5 + 3, none⟩ = some vb ∧ w.cell? ⟨b, off + q * 5 + 4, none⟩ = some vk ∧ TrW w w.heap.size (ks[q]?.getD Tr.nil) (.agg (cellsT k z vw vb vk)) := fun q hq => by
    obtain ⟨b, off, ea, hlt, hk⟩ := hkid (by omega)
    obtain ⟨k, z, vw, vb, vk, e0, e1, e2, e3, e4, ht⟩ := KidsW.at_ ks off q hq hk
    rw [List.getElem?_eq_getElem hq]
    exact ⟨b, off, ea, hlt, k, z, vw, vb, vk, e0, e1, e2, e3, e4, ht⟩
  have HK := Lib.hid hK
  have HTake := Lib.hid (fun q (hq : q < ks.length) => totalAll_take hq)
  have HAll : Hid (totalAll (ks.take ks.length) = totalAll ks) := Lib.hid (by rw [List.take_length])
  have HIH := Lib.hid ih
  clear hw hkid hK ih htot
  generalize ws.length = nw at *
  generalize bs.length = nb at *
  obtain ⟨nk, hnk⟩ : ∃ nk, nk = ks.length := ⟨_, rfl⟩
  rw [← hnk] at HK HTake HAll HIH hk3 g3 ⊢
  obtain ⟨W1, hW1⟩ : ∃ W1, W1 = w.alloc (.cells (cellsT k z (.slice A1 nw c1) (.slice A2 nb c2) (.slice A3 nk c3)) 26) := ⟨_, rfl⟩
  have hB1 : Below w.heap.size w W1 := by rw [hW1]; exact (Below.refl _ _).alloc (Nat.le_refl _) _
  have hT1 : TBox W1 w.heap.size k z (.slice A1 nw c1) (.slice A2 nb c2) (.slice A3 nk c3) := by rw [hW1]; exact TBox.new _ _ _ _ _ _
  have HB1 := Lib.hid hB1
  have HT1 := Lib.hid hT1
  obtain ⟨x0, x1, x2, x3, x4⟩ := hT1.cells
  unfold cellsT at hW1 ⊢
  clear hB1 hT1 hnk
  go_enter Tryd.func9, Tryd.ntmps9
  go_upto_region 1 with fail
  rw [← hW1]
  clear hW1
  go_wp2_with fail
  clear x0 x1 x2 x3 x4
  go_loopw [1, 5] (fun l i wr => ∃ q : Nat, q ≤ nk ∧ i = .int .i64 q ∧ (∃ y : Int, l = .int .i64 y ∧ -562949953421312 ≤ y ∧ y ≤ 400 ∧ (0 ≤ y → ((1 + nw + nb + totalAll (ks.take q) : Nat) : Int) ≤ left - y)) ∧ TBox wr w.heap.size k z (.slice A1 nw c1) (.slice A2 nb c2) (.slice A3 nk c3) ∧ Below w.heap.size w wr) (fun _ i _ => nk - (intOf i).toNat)
  case atStart => exact ⟨0, by omega, rfl, ⟨_, rfl, by omega, by omega, fun _ => by simp [totalAll]; omega⟩, HT1.out, HB1.out⟩
  case round =>
    obtain ⟨q, hq, rfl, ⟨y, rfl, hy1, hy2, hy3⟩, hTb, hBr⟩ := hrel
    generalize wr = w2 at *
    have HTb := Lib.hid hTb
    have HBr := Lib.hid hBr
    have HY := Lib.hid hy3
    obtain ⟨x0, x1, x2, x3, x4⟩ := hTb.cells
    clear hTb hy3
    by_cases hlt : q < nk
    · have i1 : (q : Int) < (nk : Int) := by omega
      by_cases hy : 0 ≤ y
      · obtain ⟨b, off, ea, hb, kk, kz, kw, kb, kc, e0, e1, e2, e3, e4, hkt⟩ := HK.out q hlt
        subst ea
        have f0 := (hBr.cell (p := ⟨b, off + q * 5, none⟩) hb).trans e0
        have f1 := (hBr.cell (p := ⟨b, off + q * 5 + 1, none⟩) hb).trans e1
        have f2 := (hBr.cell (p := ⟨b, off + q * 5 + 2, none⟩) hb).trans e2
        have f3 := (hBr.cell (p := ⟨b, off + q * 5 + 3, none⟩) hb).trans e3
        have f4 := (hBr.cell (p := ⟨b, off + q * 5 + 4, none⟩) hb).trans e4
        have hCall := HIH.out q hlt _ y w2 (TrW.on hBr hBr.size _ _ hkt) hy hy2
        unfold cellsT at hCall
        have HCall := Lib.hid hCall
        have HTk := Lib.hid (HTake.out q hlt)
        clear e0 e1 e2 e3 e4 hkt hCall hBr hb
        go_wp2_with fail
        refine HCall.out.mono ?_
        rintro e w3 ⟨y', rfl, ⟨hy4, hy5⟩, hy6, hB3⟩
        have HFin : Hid ((0 ≤ y' → ((1 + nw + nb + totalAll (ks.take (q + 1)) : Nat) : Int) ≤ left - y') ∧ TBox w3 w.heap.size k z (.slice A1 nw c1) (.slice A2 nb c2) (.slice (some ⟨b, off, none⟩) nk c3) ∧ Below w.heap.size w w3) := Lib.hid ⟨fun h => by have h1 := hy6 h; have h2 := HY.out hy; rw [HTk.out]; omega, HTb.out.on hB3, HBr.out.trans (hB3.mono HBr.out.size)⟩
        clear hy6 hB3 hy
        go_wp2_with fail
        go_roundw
        case rel => exact ⟨q + 1, by omega, by go_num, ⟨y', rfl, hy4, hy5, HFin.out.1⟩, HFin.out.2⟩
        case measure => simp [intOf]; omega
      · have i2 : ¬ (0 : Int) ≤ y := hy
        have i3 : decide ((0 : Int) ≤ y) = false := decide_eq_false i2
        have hyn : y < 0 := by omega
        have i4 : ¬ y ≥ 0 := by omega
        clear hBr
        go_wp2_with fail
        go_ret
        exact ⟨y, rfl, ⟨hy1, hy2⟩, fun h => by omega, HBr.out⟩
    · obtain rfl : q = nk := by omega
      have i1 : ¬ (q : Int) < (q : Int) := by omega
      have i2 : decide ((q : Int) < (q : Int)) = false := decide_eq_false i1
      clear hBr
      go_wp2_with fail
      go_ret
      exact ⟨y, rfl, ⟨hy1, hy2⟩, fun h => by have := HY.out h; rw [HAll.out] at this; omega, HBr.out⟩
theorem many_any : (n : Nat) → (t : Tr) → SizeOf.sizeOf t ≤ n → ManyC t
  | 0, .mk k z ws bs ks, hn => by simp at hn
  | n+1, .mk k z ws bs ks, hn => many_step k z ws bs ks (fun j hj => many_any n _ (deep_kids hn hj))

end Go.Proofs.YtofpjcmcpejnfaaDoor
