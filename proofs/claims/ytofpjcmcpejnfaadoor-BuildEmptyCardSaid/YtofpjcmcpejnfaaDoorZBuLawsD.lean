/-
  Layer 8: the law BuildEmpty.
-/
import Derived.Test.YtofpjcmcpejnfaaDoorZBuLawsA
import Derived.Test.YtofpjcmcpejnfaaDoorZPlain

namespace Go.Proofs.YtofpjcmcpejnfaaDoor
open Go.RowKit Go.Deep

theorem plain_P (w : World) (P : Nat → Prop) (k z : Int) (hk : In64 k) (hz : In64 z) : TrP w P (.mk k z [] [] []) (.agg (cellsT k z (.slice none 0 0) (.slice none 0 0) (.slice none 0 0))) := by
  unfold TrP
  exact ⟨_, _, none, 0, rfl, ⟨hk, hz, by simp, by simp, by simp, by simp, by simp⟩, NumP.nil _ _ _, NumP.nil _ _ _, by simp, by omega, fun h => by simp at h⟩

/-- a thing without words, laid behind the kids -/
theorem empty_app (w X : World) (ty : Nat) (t : Nat) (k z : Int) (A : Option Addr) (n : Nat) (ks : List Tr) (hk : In64 k) (hz : In64 z) (hT : TBox X w.heap.size 2 6 (.slice none 0 0) (.slice none 0 0) (.slice A t n)) (hB : Below w.heap.size w X)
    (hK : KRowN X (w.heap.size + 1) (.slice A t n) ks) (hl : ks.length = t) (ht : t ≤ 1000) (hs : w.heap.size + 1 ≤ X.heap.size) :
    ∃ A6 c6 w6, (Builtin.append_ #[24, 24] ty #[.slice A t n, .slice (some ⟨X.heap.size, 0, none⟩) 1 1]).run Tryd.prog (X.alloc (.cells #[.int .i64 k, .int .i64 z, .slice none 0 0, .slice none 0 0, .slice none 0 0] 26)) = .ok (.slice A6 (t + 1) c6) w6 ∧
      TBox w6 w.heap.size 2 6 (.slice none 0 0) (.slice none 0 0) (.slice A t n) ∧
      TBox (w6.setCell ⟨w.heap.size, 4, none⟩ (.slice A6 (t + 1) c6)) w.heap.size 2 6 (.slice none 0 0) (.slice none 0 0) (.slice A6 (t + 1) c6) ∧ KRowN (w6.setCell ⟨w.heap.size, 4, none⟩ (.slice A6 (t + 1) c6)) (w.heap.size + 1) (.slice A6 (t + 1) c6) (ks ++ [.mk k z [] [] []]) ∧
      Below w.heap.size w (w6.setCell ⟨w.heap.size, 4, none⟩ (.slice A6 (t + 1) c6)) ∧ w.heap.size + 1 ≤ (w6.setCell ⟨w.heap.size, 4, none⟩ (.slice A6 (t + 1) c6)).heap.size := by
  have hub : ∀ g, (Value.slice A t n).ownBlock = some g → w.heap.size + 1 ≤ g ∧ g < X.heap.size := fun g e => by
    obtain ⟨xs, ho, -⟩ := hK
    exact World.ownsRow.lt ho g e
  obtain ⟨v', w6, hrun, hk6, hg6, hv6⟩ := append_node X (w.heap.size + 1) ty (.slice A t n) ks (.mk k z [] [] []) k z none none none 0 0 0 0 0 0 hK (plain_P _ _ k z hk hz) (by omega) (by omega)
  obtain ⟨A6, c6, rfl, -⟩ := hk6.form
  rw [List.length_append, List.length_singleton, hl] at hk6 hrun hv6
  have hg5 : X.grownBy w6 (Value.slice A t n).ownBlock := grown_trans (World.grownBy_alloc X _ _) hg6
  have hP0 : (Value.slice A t n).ownBlock ≠ some w.heap.size := fun e => by have := (hub _ e).1; omega
  have hT6 : TBox w6 w.heap.size 2 6 (.slice none 0 0) (.slice none 0 0) (.slice A t n) := hT.kept hg5 hP0
  have hB6 : Below w.heap.size w w6 := hB.grown hg5 (by omega) (fun k e => by have := (hub _ e).1; omega)
  have hz6 := hg5.size
  exact ⟨A6, c6, w6, hrun, hT6, hT6.set4 _, KRow.keep hk6 (by rw [nblk_setCell]; exact Nat.le_refl _) (fun b hb1 _ => blk_setCell_other _ _ _ _ (by show b ≠ w.heap.size; omega)), hB6.setCell (p := ⟨w.heap.size, 4, none⟩) (Nat.le_refl _) _, by rw [nblk_setCell]; omega⟩

set_option maxRecDepth 100000 in
set_option maxHeartbeats 400000 in
theorem bempty_walk (N : Nat) (v : Value) (l : List Int) (w : World) (hN : N ≤ 255) (h : Bytes w w.heap.size v l) (hl : AllB l) (L : Laid w) :
    Calls Tryd.prog 8 #[.int .u8 N, v] w fun e w' => e = .returned (.bool true) ∧ Below w.heap.size w w' := by
  have HKn := Lib.hid (fun X (hX : Below w.heap.size w X) => known8_any X (L.on hX))
  have HBd := Lib.hid (fun X (hX : Below w.heap.size w X) t x (ht : TrV X X.heap.size t x) => build_any t x 100 X (L.on hX) ht)
  obtain ⟨W1, hW1⟩ : ∃ W1, W1 = w.alloc (.cells (cellsT 2 6 (.slice none 0 0) (.slice none 0 0) (.slice none 0 0)) 26) := ⟨_, rfl⟩
  have hB1 : Below w.heap.size w W1 := by rw [hW1]; exact (Below.refl _ _).alloc (Nat.le_refl _) _
  have hT1 : TBox W1 w.heap.size 2 6 (.slice none 0 0) (.slice none 0 0) (.slice none 0 0) := by rw [hW1]; exact TBox.new _ _ _ _ _ _
  have hz1 : w.heap.size + 1 ≤ W1.heap.size := by rw [hW1]; simp
  have HB1 := Lib.hid hB1
  have HT1 := Lib.hid hT1
  have HZ1 := Lib.hid hz1
  have HAll := Lib.hid hl
  obtain ⟨A0, n0, e0, hcn, hnm, hcell⟩ := h
  subst e0
  have HC := Lib.hid hcell
  obtain ⟨M, hM⟩ : ∃ M : Nat, M = N % 30 := ⟨_, rfl⟩
  have HM := Lib.hid hM
  have hM30 : M ≤ 29 := by omega
  clear hM
  obtain ⟨lw, hlw⟩ : ∃ lw, lw = l.length := ⟨_, rfl⟩
  have HLw := Lib.hid hlw
  rw [← hlw] at HC hcn ⊢
  have hlm : lw ≤ 9223372036854775807 := by omega
  clear hB1 hT1 hz1 hl hcell hcn hnm hlw
  unfold cellsT at hW1
  go_enter Tryd.func8, Tryd.ntmps8
  go_upto_region 2 with fail
  rw [← hW1]
  clear hW1
  go_wp2_with fail
  go_loopw [6] (fun i wr => ∃ t : Nat, t ≤ M ∧ i = .int .i64 t ∧ ∃ ks A n, ks.length = t ∧ (∀ u ∈ ks, noneT u) ∧ TBox wr w.heap.size 2 6 (.slice none 0 0) (.slice none 0 0) (.slice A t n) ∧ KRowN wr (w.heap.size + 1) (.slice A t n) ks ∧ Below w.heap.size w wr ∧ w.heap.size + 1 ≤ wr.heap.size) (fun i _ => M - (intOf i).toNat)
  case atStart => exact ⟨0, by omega, rfl, [], none, 0, rfl, (fun u hu => by simp at hu), HT1.out, KRow.nil _ _ _, HB1.out, HZ1.out⟩
  case round =>
    obtain ⟨t, ht, rfl, ks, A, n, hks, hnone, hT, hK, hB, hz⟩ := hrel
    generalize wr = w3 at *
    by_cases hlt : t < M
    · have i1 : (t : Int) < (N : Int) % 30 := by have := HM.out; omega
      obtain ⟨W4, hW4⟩ : ∃ W4, W4 = w3.alloc (.cells (cellsT 1 0 (.slice none 0 0) (.slice none 0 0) (.slice none 0 0)) 26) := ⟨_, rfl⟩
      have hB34 : Below w3.heap.size w3 W4 := by rw [hW4]; exact (Below.refl _ _).alloc (Nat.le_refl _) _
      have hG : TBox W4 w3.heap.size 1 0 (.slice none 0 0) (.slice none 0 0) (.slice none 0 0) := by rw [hW4]; exact TBox.new _ _ _ _ _ _
      have hT4 := hT.on hB34
      have hK4 : KRowN W4 (w.heap.size + 1) (.slice A t n) ks := KRow.keep hK hB34.size (fun b _ hb => hB34.block b hb)
      have hB4 := hB.trans (hB34.mono (by omega))
      have hz4 : w.heap.size + 1 ≤ W4.heap.size := by have := hB34.size; omega
      have HNo := Lib.hid hnone
      have HKs := Lib.hid hks
      have HT := Lib.hid hT4
      have HK := Lib.hid hK4
      have HB := Lib.hid hB4
      have HZ := Lib.hid hz4
      have HG := Lib.hid hG
      have HK3 := Lib.hid hK
      have HB34 := Lib.hid hB34
      have hg3 : w.heap.size + 1 ≤ w3.heap.size := hz
      clear hnone hT hK hB hB34 hG hT4 hK4 hB4 hz4 hz
      unfold cellsT at hW4
      go_upto_region 6 with fail
      rw [← hW4]
      clear hW4
      by_cases hlw : t < lw ∧ l[t]?.getD 0 % 3 > 0
      · obtain ⟨hl1, hl2⟩ := hlw
        have hbd : 0 ≤ l[t]?.getD 0 ∧ l[t]?.getD 0 ≤ 255 := by
          have hl3 : t < l.length := by rw [← HLw.out]; exact hl1
          rw [List.getElem?_eq_getElem hl3]
          exact HAll.out _ (List.getElem_mem hl3)
        obtain ⟨b, off, rfl, hb, hcell⟩ := HC.out (by omega)
        have x0 := (HB.out.cell (p := ⟨b, off + t, none⟩) hb).trans (hcell t hl1)
        generalize l[t]?.getD 0 = K' at *
        obtain ⟨K, rfl⟩ := Int.eq_ofNat_of_zero_le hbd.1
        have hK255 : K ≤ 255 := by omega
        have i2 : (t : Int) < (lw : Int) := by omega
        have i3 : (0 : Int) < (K : Int) % 3 := hl2
        obtain ⟨Z, hZ⟩ : ∃ Z : Int, Z = 4 + (K : Int) % 3 := ⟨_, rfl⟩
        have hZ2 : Z = 5 ∨ Z = 6 := by omega
        have hwZ : IntKind.i64.wrap ((4 : Int) + (K : Int) % 3) = Z := by rw [IntWalk.i64_in _ (by omega)]; omega
        have HZ2 := Lib.hid hZ2
        clear hZ hZ2 hl2 hl1 hbd hcell hb
        obtain ⟨g0, g1, g2, g3, g4⟩ := HG.out.cells
        have f0 := HG.out.frozen 0
        have f1 := HG.out.frozen 1
        have f2 := HG.out.frozen 2
        have f3 := HG.out.frozen 3
        have f4 := HG.out.frozen 4
        obtain ⟨W5, hW5⟩ : ∃ W5, W5 = ((((W4.setCell ⟨w3.heap.size, 0, none⟩ (.int .i64 2)).setCell ⟨w3.heap.size, 1, none⟩ (.int .i64 Z)).setCell ⟨w3.heap.size, 2, none⟩ (.slice none 0 0)).setCell ⟨w3.heap.size, 3, none⟩ (.slice none 0 0)).setCell ⟨w3.heap.size, 4, none⟩ (.slice none 0 0) := ⟨_, rfl⟩
        have hT5 : TBox W5 w.heap.size 2 6 (.slice none 0 0) (.slice none 0 0) (.slice A t n) := by rw [hW5]; exact (set5_other W4 w3.heap.size _ _ _ _ _ (by omega)).trans HT.out
        have hG5 : TBox W5 w3.heap.size 2 Z (.slice none 0 0) (.slice none 0 0) (.slice none 0 0) := by rw [hW5]; exact HG.out.set5 _ _ _ _ _
        have hB5 : Below w.heap.size w W5 := by rw [hW5]; exact below_set5 HB.out (by omega) _ _ _ _ _
        have hz5 : W5.heap.size = W4.heap.size := by rw [hW5, nblk_setCell, nblk_setCell, nblk_setCell, nblk_setCell, nblk_setCell]
        have hK5 : KRowN W5 (w.heap.size + 1) (.slice A t n) ks := KRow.keep HK3.out (by have := HB34.out.size; omega) (fun b _ hb => by rw [hW5, set5_other W4 w3.heap.size _ _ _ _ _ (by omega)]; exact HB34.out.block b hb)
        go_upto_region 8 with fail
        rw [← hW5]
        clear hW5 f0 f1 f2 f3 f4 g0 g1 g2 g3 g4 x0
        obtain ⟨A6, c6, w6, hrun, hT6, hT7, hK7, hB7, hz7⟩ := empty_app w W5 24 t 2 Z A n ks ⟨by decide, by decide⟩ ⟨by rcases HZ2.out with e | e <;> omega, by rcases HZ2.out with e | e <;> omega⟩ hT5 hB5 hK5 HKs.out (by omega) (by have := HZ.out; omega)
        have HFin := Lib.hid (And.intro hT7 (And.intro hK7 (And.intro hB7 hz7)))
        have HRun := Lib.hid hrun
        have HNt : Hid (noneT (.mk 2 Z [] [] [])) := Lib.hid (by rcases HZ2.out with rfl | rfl; exact .inr (.inl rfl); exact .inr (.inr rfl))
        obtain ⟨x1, x2, x3, x4, x5⟩ := hT5.cells
        obtain ⟨u0, u1, u2, u3, u4⟩ := hG5.cells
        obtain ⟨y0, y1, y2, y3, y4⟩ := hT6.cells
        have y5 := hT6.frozen 4
        clear hrun hT6 hT7 hK7 hB7 hz7 hT5 hG5 hB5 hK5 hz5
        go_wp2_with (at_builtin; refine Lib.wpList_append_run _ rfl _ _ _ _ rfl _ _ rfl rfl _ _ HRun.out ?_)
        go_roundw
        case rel => exact ⟨t + 1, by omega, by go_num, _, A6, c6, by rw [List.length_append, HKs.out]; rfl, (fun u hu => by
          rcases List.mem_append.1 hu with h | h
          · exact HNo.out u h
          · rw [List.mem_singleton.1 h]; exact HNt.out), HFin.out⟩
        case measure => simp [intOf]; omega
      · by_cases hl1 : t < lw
        · have hbd : 0 ≤ l[t]?.getD 0 ∧ l[t]?.getD 0 ≤ 255 := by
            have hl3 : t < l.length := by rw [← HLw.out]; exact hl1
            rw [List.getElem?_eq_getElem hl3]
            exact HAll.out _ (List.getElem_mem hl3)
          obtain ⟨b, off, rfl, hb, hcell⟩ := HC.out (by omega)
          have x0 := (HB.out.cell (p := ⟨b, off + t, none⟩) hb).trans (hcell t hl1)
          have hl2 : ¬ l[t]?.getD 0 % 3 > 0 := fun e => hlw ⟨hl1, e⟩
          generalize l[t]?.getD 0 = K' at *
          obtain ⟨K, rfl⟩ := Int.eq_ofNat_of_zero_le hbd.1
          have hK255 : K ≤ 255 := by omega
          have i2 : (t : Int) < (lw : Int) := by omega
          have i3 : ¬ (0 : Int) < (K : Int) % 3 := hl2
          have i4 : decide ((0 : Int) < (K : Int) % 3) = false := decide_eq_false i3
          clear hl2 hl1 hbd hcell hb hlw
          obtain ⟨A6, c6, w6, hrun, hT6, hT7, hK7, hB7, hz7⟩ := empty_app w W4 24 t 1 0 A n ks ⟨by decide, by decide⟩ ⟨by decide, by decide⟩ HT.out HB.out HK.out HKs.out (by omega) (by have := HZ.out; omega)
          have HFin := Lib.hid (And.intro hT7 (And.intro hK7 (And.intro hB7 hz7)))
          have HRun := Lib.hid hrun
          have HNt : Hid (noneT (.mk 1 0 [] [] [])) := Lib.hid (.inl rfl)
          obtain ⟨x1, x2, x3, x4, x5⟩ := HT.out.cells
          obtain ⟨u0, u1, u2, u3, u4⟩ := HG.out.cells
          obtain ⟨y0, y1, y2, y3, y4⟩ := hT6.cells
          have y5 := hT6.frozen 4
          clear hrun hT6 hT7 hK7 hB7 hz7
          go_wp2_with (at_builtin; refine Lib.wpList_append_run _ rfl _ _ _ _ rfl _ _ rfl rfl _ _ HRun.out ?_)
          go_roundw
          case rel => exact ⟨t + 1, by omega, by go_num, _, A6, c6, by rw [List.length_append, HKs.out]; rfl, (fun u hu => by
            rcases List.mem_append.1 hu with h | h
            · exact HNo.out u h
            · rw [List.mem_singleton.1 h]; exact HNt.out), HFin.out⟩
          case measure => simp [intOf]; omega
        · have i2 : ¬ (t : Int) < (lw : Int) := by omega
          have i4 : decide ((t : Int) < (lw : Int)) = false := decide_eq_false i2
          clear hlw hl1
          obtain ⟨A6, c6, w6, hrun, hT6, hT7, hK7, hB7, hz7⟩ := empty_app w W4 24 t 1 0 A n ks ⟨by decide, by decide⟩ ⟨by decide, by decide⟩ HT.out HB.out HK.out HKs.out (by omega) (by have := HZ.out; omega)
          have HFin := Lib.hid (And.intro hT7 (And.intro hK7 (And.intro hB7 hz7)))
          have HRun := Lib.hid hrun
          have HNt : Hid (noneT (.mk 1 0 [] [] [])) := Lib.hid (.inl rfl)
          obtain ⟨x1, x2, x3, x4, x5⟩ := HT.out.cells
          obtain ⟨u0, u1, u2, u3, u4⟩ := HG.out.cells
          obtain ⟨y0, y1, y2, y3, y4⟩ := hT6.cells
          have y5 := hT6.frozen 4
          clear hrun hT6 hT7 hK7 hB7 hz7
          go_wp2_with (at_builtin; refine Lib.wpList_append_run _ rfl _ _ _ _ rfl _ _ rfl rfl _ _ HRun.out ?_)
          go_roundw
          case rel => exact ⟨t + 1, by omega, by go_num, _, A6, c6, by rw [List.length_append, HKs.out]; rfl, (fun u hu => by
            rcases List.mem_append.1 hu with h | h
            · exact HNo.out u h
            · rw [List.mem_singleton.1 h]; exact HNt.out), HFin.out⟩
          case measure => simp [intOf]; omega
    · obtain rfl : t = M := by omega
      have i1 : ¬ (t : Int) < (N : Int) % 30 := by have := HM.out; omega
      have hMN : (t : Int) = (N : Int) % 30 := by have := HM.out; omega
      have hTP : TrP w3 (fun b => w.heap.size + 1 ≤ b ∧ b < w3.heap.size) (.mk 2 6 [] [] ks) (.agg (cellsT 2 6 (.slice none 0 0) (.slice none 0 0) (.slice A t n))) := by
        obtain ⟨A7, c7, e7, k1, k2, k3⟩ := hK.kids
        rw [e7]
        unfold TrP
        exact ⟨_, _, A7, c7, rfl, ⟨⟨by decide, by decide⟩, ⟨by decide, by decide⟩, by simp, by simp, by omega, by simp, by simp⟩, NumP.nil _ _ _, NumP.nil _ _ _, k1, k2, k3⟩
      have hCall := HBd.out w3 hB _ _ (TrP.trV (B := w3.heap.size) (fun b hb => hb.2) _ _ hTP)
      obtain ⟨q, hq, hql⟩ := none_build hnone (by omega)
      rw [hq] at hCall
      have HCall := Lib.hid hCall
      have HB := Lib.hid hB
      obtain ⟨lq, hlq⟩ : ∃ lq, lq = q.length := ⟨_, rfl⟩
      have hI : (1 : Int) + (N : Int) % 30 = (lq : Int) := by omega
      have HI := Lib.hid hI
      have hwI : IntKind.i64.wrap ((1 : Int) + (N : Int) % 30) = (lq : Int) := by rw [IntWalk.i64_in _ (by omega)]; omega
      obtain ⟨x0, x1, x2, x3, x4⟩ := hT.cells
      unfold cellsT at HCall
      clear hTP hCall hq hql hT hK hB hnone hMN hI
      go_wp2_with fail
      refine HCall.out.mono ?_
      rintro e w5 ⟨xa, rfl, hA, hB5⟩
      have HB5 := Lib.hid (HB.out.trans (hB5.mono (by omega)))
      obtain ⟨A', c', rfl, hc, hm, hseg⟩ := hA.arV
      obtain ⟨b, off, rfl, hb, hseg⟩ := hseg (by simp)
      obtain ⟨s, p0, hs⟩ := hseg 0 (by simp)
      obtain ⟨A2, c2, rfl, hc2, hm2, hw⟩ := hs
      have HP : Hid (∀ X, Below w5.heap.size w5 X → X.cell? ⟨b, off, none⟩ = some (.slice A2 lq c2)) := Lib.hid (fun X hX => (hX.cell (p := ⟨b, off, none⟩) hb).trans (by rw [Nat.add_zero] at p0; rw [p0, hlq]; rfl))
      have hc1 : 1 ≤ c' := by simpa using hc
      clear p0 hw hc2 hm2 hc hseg hA hB5 hlq x0 x1 x2 x3 x4
      go_wp2_with fail
      refine (HKn.out _ HB5.out).mono ?_
      rintro e w6 ⟨rfl, hB6⟩
      have p0 := HP.out _ hB6
      have HB6 := Lib.hid (bseq8 HB5.out hB6)
      clear hB6
      go_wp2_with fail
      go_ret
      exact ⟨by simp, HB6.out⟩

end Go.Proofs.YtofpjcmcpejnfaaDoor
