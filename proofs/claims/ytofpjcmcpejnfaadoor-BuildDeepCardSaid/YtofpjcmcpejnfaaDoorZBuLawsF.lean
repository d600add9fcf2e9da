/-
  Layer 8: the law BuildDeep.
-/
import Derived.Test.YtofpjcmcpejnfaaDoorZBuOver

namespace Go.Proofs.YtofpjcmcpejnfaaDoor
open Go.RowKit Go.Deep

theorem chainT_step (f : Nat → Bool) (t : Nat) : chainT f (t + 1) = linkT (f t) (chainT f t) := rfl

set_option maxRecDepth 100000 in
set_option maxHeartbeats 1000000 in
theorem bdeep_walk (N : Nat) (A0 : Option Addr) (lw n0 : Nat) (f : Nat → Bool) (w : World) (hN : N ≤ 255) (hlm : lw ≤ 9223372036854775807) (h : 0 < lw → ∃ b off, A0 = some ⟨b, off, none⟩ ∧ b < w.heap.size ∧ ∀ j, j < lw → w.cell? ⟨b, off + j, none⟩ = some (.bool (f j))) (L : Laid w) :
    Calls Tryd.prog 5 #[.int .u8 N, .slice A0 lw n0] w fun e w' => e = .returned (.bool true) ∧ Below w.heap.size w w' := by
  have HKn := Lib.hid (fun X (hX : Below w.heap.size w X) => known8_any X (L.on hX))
  have HBd := Lib.hid (fun X (hX : Below w.heap.size w X) t x (ht : TrV X X.heap.size t x) => build_any t x 100 X (L.on hX) ht)
  have HRt := Lib.hid (fun X t x (ht : TrV X X.heap.size t x) => right8_any t x X ht)
  obtain ⟨W1, hW1⟩ : ∃ W1, W1 = w.alloc (.cells (cellsT 0 0 (.slice none 0 0) (.slice none 0 0) (.slice none 0 0)) 26) := ⟨_, rfl⟩
  have hB1 : Below w.heap.size w W1 := by rw [hW1]; exact (Below.refl _ _).alloc (Nat.le_refl _) _
  have hT1 : TBox W1 w.heap.size 0 0 (.slice none 0 0) (.slice none 0 0) (.slice none 0 0) := by rw [hW1]; exact TBox.new _ _ _ _ _ _
  have hz1 : w.heap.size + 1 ≤ W1.heap.size := by rw [hW1]; simp
  have HB1 := Lib.hid hB1
  have HT1 := Lib.hid hT1
  have HZ1 := Lib.hid hz1
  have HC := Lib.hid h
  obtain ⟨M, hM⟩ : ∃ M : Nat, M = N % 40 := ⟨_, rfl⟩
  have hwM : (N : Int) % 40 = (M : Int) := by omega
  have hM40 : M ≤ 39 := by omega
  obtain ⟨ff, hff⟩ : ∃ ff : Nat → Bool, ff = fun j => decide (j < lw) && f j := ⟨_, rfl⟩
  clear hB1 hT1 hz1 h hM
  unfold cellsT at hW1
  go_enter Tryd.func5, Tryd.ntmps5
  go_upto_region 2 with fail
  rw [hwM]
  clear hwM
  go_upto_region 3 with fail
  rw [← hW1]
  clear hW1
  go_wp2_with fail
  go_loopw [7] (fun i wr => ∃ t : Nat, t ≤ M ∧ i = .int .i64 t ∧ ∃ k z A n c, TBox wr w.heap.size k z (.slice none 0 0) (.slice none 0 0) (.slice A n c) ∧ TrP wr (fun b => w.heap.size + 1 ≤ b ∧ b < wr.heap.size) (chainT ff t) (.agg (cellsT k z (.slice none 0 0) (.slice none 0 0) (.slice A n c))) ∧ Below w.heap.size w wr ∧ w.heap.size + 1 ≤ wr.heap.size) (fun i _ => M - (intOf i).toNat)
  case atStart => exact ⟨0, by omega, rfl, 0, 0, none, 0, 0, HT1.out, nil_P _ _, HB1.out, HZ1.out⟩
  case round =>
    obtain ⟨t, ht, rfl, k, z, A, n, c, hT, hP, hB, hz⟩ := hrel
    generalize wr = w3 at *
    by_cases hlt : t < M
    · have i1 : (t : Int) < (M : Int) := by omega
      obtain ⟨X, hX⟩ : ∃ X, X = w3.alloc (.cells (cellsT k z (.slice none 0 0) (.slice none 0 0) (.slice A n c)) 26) := ⟨_, rfl⟩
      have hXz : X.heap.size = w3.heap.size + 1 := by rw [hX]; simp
      have hXB : Below w3.heap.size w3 X := by rw [hX]; exact (Below.refl _ _).alloc (Nat.le_refl _) _
      have hL := fun k0 z0 h1 h2 => link_P w3 (w.heap.size + 1) hz k0 z0 h1 h2 _ k z (.slice none 0 0) (.slice none 0 0) (.slice A n c) hP
      rw [← hX] at hL
      have hXT := hT.on hXB
      obtain ⟨W4, hW4⟩ : ∃ W4, W4 = ((((X.setCell ⟨w.heap.size, 0, none⟩ (.int .i64 1)).setCell ⟨w.heap.size, 1, none⟩ (.int .i64 0)).setCell ⟨w.heap.size, 2, none⟩ (.slice none 0 0)).setCell ⟨w.heap.size, 3, none⟩ (.slice none 0 0)).setCell ⟨w.heap.size, 4, none⟩ (.slice (some ⟨w3.heap.size, 0, none⟩) 1 1) := ⟨_, rfl⟩
      have hT4 : TBox W4 w.heap.size 1 0 (.slice none 0 0) (.slice none 0 0) (.slice (some ⟨w3.heap.size, 0, none⟩) 1 1) := by rw [hW4]; exact hXT.set5 _ _ _ _ _
      have hB4 : Below w.heap.size w W4 := by rw [hW4]; exact below_set5 (hB.trans (hXB.mono (by omega))) (Nat.le_refl _) _ _ _ _ _
      have hz4 : W4.heap.size = X.heap.size := by rw [hW4, nblk_setCell, nblk_setCell, nblk_setCell, nblk_setCell, nblk_setCell]
      have hL4 : ∀ k0 z0, In64 k0 → In64 z0 → ∀ Y, Y.heap.size = X.heap.size → (∀ b, b ≠ w.heap.size → Y.heap[b]? = X.heap[b]?) → TrP Y (fun b => w.heap.size + 1 ≤ b ∧ b < Y.heap.size) (.mk k0 z0 [] [] [chainT ff t]) (.agg (cellsT k0 z0 (.slice none 0 0) (.slice none 0 0) (.slice (some ⟨w3.heap.size, 0, none⟩) 1 1))) := fun k0 z0 h1 h2 Y hY hk => by
        rw [hY]
        exact TrP.keep (fun b hb => hk b (by omega)) _ _ (hL k0 z0 h1 h2)
      have hk4 : ∀ b, b ≠ w.heap.size → W4.heap[b]? = X.heap[b]? := fun b hb => by rw [hW4]; exact set5_other X w.heap.size _ _ _ _ _ hb
      have HL := Lib.hid hL4
      have HT4 := Lib.hid hT4
      have HB4 := Lib.hid hB4
      have HZ4 := Lib.hid hz4
      have HK4 := Lib.hid hk4
      have HXz := Lib.hid (show w.heap.size + 1 ≤ X.heap.size by omega)
      obtain ⟨x0, x1, x2, x3, x4⟩ := hT.cells
      have f0 := hT.frozen 0
      have f1 := hT.frozen 1
      have f2 := hT.frozen 2
      have f3 := hT.frozen 3
      have f4 := hT.frozen 4
      have g0 := hXT.frozen 0
      have g1 := hXT.frozen 1
      have g2 := hXT.frozen 2
      have g3 := hXT.frozen 3
      have g4 := hXT.frozen 4
      obtain ⟨y0, y1, y2, y3, y4⟩ := hXT.cells
      have hX' := hX
      unfold cellsT at hX'
      have HX := Lib.hid hX
      rw [hX'] at g0 g1 g2 g3 g4 y0 y1 y2 y3 y4 hW4
      clear hX hX' hXT hXB hL hL4 hT4 hB4 hz4 hk4 hT hP hB hXz
      go_upto_region 7 with fail
      rw [← hW4]
      clear hW4 x0 x1 x2 x3 x4 y0 y1 y2 y3 y4 f0 f1 f2 f3 f4 g0 g1 g2 g3 g4
      by_cases hlw : t < lw
      · obtain ⟨b, off, rfl, hb, hcell⟩ := HC.out (by omega)
        have u0 := (HB4.out.cell (p := ⟨b, off + t, none⟩) hb).trans (hcell t hlw)
        have i2 : (t : Int) < (lw : Int) := by omega
        have hft : ff t = f t := by rw [hff]; simp [hlw]
        cases hf : f t with
        | true =>
          rw [hf] at u0 hft
          obtain ⟨W5, hW5⟩ : ∃ W5, W5 = (W4.setCell ⟨w.heap.size, 0, none⟩ (.int .i64 2)).setCell ⟨w.heap.size, 1, none⟩ (.int .i64 6) := ⟨_, rfl⟩
          have HFin : Hid (∃ k z A n c, TBox W5 w.heap.size k z (.slice none 0 0) (.slice none 0 0) (.slice A n c) ∧ TrP W5 (fun b => w.heap.size + 1 ≤ b ∧ b < W5.heap.size) (chainT ff (t + 1)) (.agg (cellsT k z (.slice none 0 0) (.slice none 0 0) (.slice A n c))) ∧ Below w.heap.size w W5 ∧ w.heap.size + 1 ≤ W5.heap.size) := Lib.hid (by
            refine ⟨2, 6, _, _, _, by rw [hW5]; exact (HT4.out.set0 2).set1 6, ?_, by rw [hW5]; exact (HB4.out.setCell (p := ⟨w.heap.size, 0, none⟩) (Nat.le_refl _) _).setCell (p := ⟨w.heap.size, 1, none⟩) (Nat.le_refl _) _, by rw [hW5, nblk_setCell, nblk_setCell, HZ4.out]; exact HXz.out⟩
            rw [chainT_step, hft]
            unfold linkT
            rw [if_pos rfl]
            exact HL.out 2 6 ⟨by decide, by decide⟩ ⟨by decide, by decide⟩ W5 (by rw [hW5, nblk_setCell, nblk_setCell]; exact HZ4.out) (fun b hb => by
              rw [hW5, blk_setCell_other _ _ _ _ hb, blk_setCell_other _ _ _ _ hb]
              exact HK4.out b hb))
          have f0 := HT4.out.frozen 0
          have f1 := (HT4.out.set0 2).frozen 1
          obtain ⟨c0, c1, c2, c3, c4⟩ := HT4.out.cells
          obtain ⟨e0, e1, e2, e3, e4⟩ := (HT4.out.set0 2).cells
          clear hcell hb hf hft hff
          rw [hW5] at HFin
          go_wp2_with fail
          go_roundw
          case rel => exact ⟨t + 1, by omega, by go_num, HFin.out⟩
          case measure => simp [intOf]; omega
        | false =>
          rw [hf] at u0 hft
          have HFin : Hid (∃ k z A n c, TBox W4 w.heap.size k z (.slice none 0 0) (.slice none 0 0) (.slice A n c) ∧ TrP W4 (fun b => w.heap.size + 1 ≤ b ∧ b < W4.heap.size) (chainT ff (t + 1)) (.agg (cellsT k z (.slice none 0 0) (.slice none 0 0) (.slice A n c))) ∧ Below w.heap.size w W4 ∧ w.heap.size + 1 ≤ W4.heap.size) := Lib.hid (by
            refine ⟨1, 0, _, _, _, HT4.out, ?_, HB4.out, by rw [HZ4.out]; exact HXz.out⟩
            rw [chainT_step, hft]
            unfold linkT
            rw [if_neg (by decide)]
            exact HL.out 1 0 ⟨by decide, by decide⟩ ⟨by decide, by decide⟩ W4 HZ4.out HK4.out)
          clear hcell hb hf hft hff
          go_wp2_with fail
          go_roundw
          case rel => exact ⟨t + 1, by omega, by go_num, HFin.out⟩
          case measure => simp [intOf]; omega
      · have i2 : ¬ (t : Int) < (lw : Int) := by omega
        have i4 : decide ((t : Int) < (lw : Int)) = false := decide_eq_false i2
        have hft : ff t = false := by rw [hff]; simp [hlw]
        have HFin : Hid (∃ k z A n c, TBox W4 w.heap.size k z (.slice none 0 0) (.slice none 0 0) (.slice A n c) ∧ TrP W4 (fun b => w.heap.size + 1 ≤ b ∧ b < W4.heap.size) (chainT ff (t + 1)) (.agg (cellsT k z (.slice none 0 0) (.slice none 0 0) (.slice A n c))) ∧ Below w.heap.size w W4 ∧ w.heap.size + 1 ≤ W4.heap.size) := Lib.hid (by
          refine ⟨1, 0, _, _, _, HT4.out, ?_, HB4.out, by rw [HZ4.out]; exact HXz.out⟩
          rw [chainT_step, hft]
          unfold linkT
          rw [if_neg (by decide)]
          exact HL.out 1 0 ⟨by decide, by decide⟩ ⟨by decide, by decide⟩ W4 HZ4.out HK4.out)
        clear hft hff
        go_wp2_with fail
        go_roundw
        case rel => exact ⟨t + 1, by omega, by go_num, HFin.out⟩
        case measure => simp [intOf]; omega
    · obtain rfl : t = M := by omega
      have i1 : ¬ (t : Int) < (t : Int) := by omega
      obtain ⟨hr, he⟩ := chain_build ff t
      have hV := TrP.trV (B := w3.heap.size) (fun b hb => hb.2) _ _ hP
      have hCall := HBd.out w3 hB _ _ hV
      rw [he] at hCall
      have HCall := Lib.hid hCall
      have HR := Lib.hid (fun X (hX : Below w3.heap.size w3 X) => HRt.out X _ _ (hV.on hX))
      rw [hr] at HR
      have HT := Lib.hid (fun X (hX : Below w3.heap.size w3 X) => hT.on hX)
      have HB := Lib.hid hB
      obtain ⟨x0, x1, x2, x3, x4⟩ := hT.cells
      unfold cellsT at HCall HR
      clear hCall hr he hV hT hB hP
      by_cases hm : t ≤ 32
      · have j1 : (t : Int) ≤ 32 := by omega
        have j2 : decide ((t : Int) ≤ 32) = true := decide_eq_true j1
        rw [if_pos hm] at HCall
        rw [decide_eq_true hm] at HR
        go_wp2_with fail
        refine HCall.out.mono ?_
        rintro e w5 ⟨xa, rfl, hA, hB5⟩
        have HB5 := Lib.hid hB5
        obtain ⟨A9, c9, rfl⟩ := hA.arV.form rfl
        clear hA hB5 x0 x1 x2 x3 x4
        go_wp2_with fail
        refine (HKn.out _ (HB.out.trans (HB5.out.mono (by omega)))).mono ?_
        rintro e w6 ⟨rfl, hB6⟩
        have HB6 := Lib.hid (bseq8 HB5.out hB6)
        obtain ⟨x0, x1, x2, x3, x4⟩ := (HT.out _ HB6.out).cells
        have HR6 := Lib.hid (HR.out _ HB6.out)
        clear hB6
        go_wp2_with fail
        refine HR6.out.mono ?_
        rintro e w7 ⟨rfl, hB7⟩
        have HB7 := Lib.hid (HB.out.trans ((bseq8 HB6.out hB7).mono (by omega)))
        clear hB7
        go_wp2_with fail
        go_ret
        exact ⟨by simp, HB7.out⟩
      · have j1 : ¬ (t : Int) ≤ 32 := by omega
        have j2 : decide ((t : Int) ≤ 32) = false := decide_eq_false j1
        rw [if_neg hm] at HCall
        rw [decide_eq_false hm] at HR
        go_wp2_with fail
        refine HCall.out.mono ?_
        rintro e w5 ⟨xa, rfl, hA, hB5⟩
        have HB5 := Lib.hid hB5
        obtain ⟨A9, c9, rfl⟩ := hA.arV.form rfl
        clear hA hB5 x0 x1 x2 x3 x4
        go_wp2_with fail
        refine (HKn.out _ (HB.out.trans (HB5.out.mono (by omega)))).mono ?_
        rintro e w6 ⟨rfl, hB6⟩
        have HB6 := Lib.hid (bseq8 HB5.out hB6)
        obtain ⟨x0, x1, x2, x3, x4⟩ := (HT.out _ HB6.out).cells
        have HR6 := Lib.hid (HR.out _ HB6.out)
        clear hB6
        go_wp2_with fail
        refine HR6.out.mono ?_
        rintro e w7 ⟨rfl, hB7⟩
        have HB7 := Lib.hid (HB.out.trans ((bseq8 HB6.out hB7).mono (by omega)))
        clear hB7
        go_wp2_with fail
        go_ret
        exact ⟨by simp, HB7.out⟩

end Go.Proofs.YtofpjcmcpejnfaaDoor
