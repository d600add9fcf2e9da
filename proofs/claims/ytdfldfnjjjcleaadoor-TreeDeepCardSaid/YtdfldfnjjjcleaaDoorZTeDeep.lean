/-
  Layer 10: the law TreeDeep.
-/
import Derived.Test.YtdfldfnjjjcleaaDoorZTeKnown
import Derived.Test.YtdfldfnjjjcleaaDoorZTdPlain
import Derived.Test.YtdfldfnjjjcleaaDoorZTcA
import Derived.Test.YtdfldfnjjjcleaaDoorZPtrEnc
import Derived.Test.YtdfldfnjjjcleaaDoorZBuB

namespace Go.Proofs.YtdfldfnjjjcleaaDoor
open Go.RowKit Go.Deep

theorem encW10 (p : Pt) : 0 ≤ encW p ∧ encW p ≤ 18446744073709551615 := by
  have := rawW_bd p
  unfold encW
  split <;> omega
theorem wraps10d {k m : Nat} (h : m = k % 200) (_ : m ≤ 199) : wrap64 (m : Int) = (m : Int) ∧ IntKind.i64.wrap (m : Int) = (m : Int) ∧ IntKind.i64.wrap ((k : Int) % 200) = (m : Int) := by
  refine ⟨?_, ?_, ?_⟩
  · unfold wrap64; omega
  · exact IntWalk.i64_in _ (by omega)
  · rw [show (k : Int) % 200 = (m : Int) by omega]; exact IntWalk.i64_in _ (by omega)
theorem high_same : (m : Nat) → highAll (List.replicate m leafT) ≤ 1
  | 0 => by unfold highAll; simp
  | m+1 => by
    have h := high_same m
    have e : highT leafT = 0 := by unfold leafT highT highAll; rfl
    rw [List.replicate_succ]
    unfold highAll
    rw [e]
    omega
theorem same_u {m : Nat} {ps : List Int} {x : Int} (hl : ps.length = m) (hx : x = encW (listP m)) (hp : ∀ i, i < m → ps[i]?.getD 0 = encW (sameP m i)) : AllU [sameL m ps x] := by
  intro s hs z hz
  simp at hs
  subst hs
  unfold sameL at hz
  rcases List.mem_cons.1 hz with e | e
  · rw [e, hx]
    exact encW10 _
  · rcases List.mem_append.1 e with e | e
    · obtain ⟨i, hi, e2⟩ := List.getElem_of_mem e
      have := hp i (by omega)
      rw [List.getElem?_eq_getElem hi, Option.getD_some, e2] at this
      rw [this]
      exact encW10 _
    · rw [List.eq_of_mem_replicate e]
      decide
/-- an arena of one segment -/
theorem seg10_ar {X : World} {A : Option Addr} {n c : Nat} {l : List Int} (h : NumS .u64 X X.heap.size (.slice A n c) l) : ∀ Y, Y = X.alloc (.cells #[.slice A n c] 34) → ArV Y Y.heap.size (.slice (some ⟨X.heap.size, 0, none⟩) 1 1) [l] := by
  rintro Y rfl
  have hzz : (X.alloc (.cells #[.slice A n c] 34)).heap.size = X.heap.size + 1 := World.size_alloc _ _
  refine ⟨_, 1, rfl, by simp, by omega, fun _ => ⟨X.heap.size, 0, rfl, by omega, fun j hj => ?_⟩⟩
  obtain rfl : j = 0 := by simp at hj; omega
  refine ⟨.slice A n c, ?_, ?_⟩
  · have hb : (X.alloc (.cells #[.slice A n c] 34)).heap[X.heap.size]? = some (.cells #[.slice A n c] 34 (0, 0)) := blk_alloc_new _ _
    unfold World.cell?
    dsimp only
    rw [hb]
    rfl
  · exact (h.below ((Below.refl _ _).alloc (Nat.le_refl _) _) (Nat.le_refl _)).more (by omega)
theorem word10_s (w : World) (x : Int) : ∀ X, X = w.alloc (.cells #[.int .u64 x] 53) → NumS .u64 X X.heap.size (.slice (some ⟨w.heap.size, 0, none⟩) 1 1) [x] := by
  rintro X rfl
  have hb : (w.alloc (.cells #[.int .u64 x] 53)).heap[w.heap.size]? = some (.cells #[.int .u64 x] 53 (0, 0)) := blk_alloc_new _ _
  refine ⟨_, 1, rfl, by simp, by omega, fun _ => ⟨w.heap.size, 0, rfl, by simp, fun j hj => ?_⟩⟩
  obtain rfl : j = 0 := by simp at hj; omega
  unfold World.cell?
  dsimp only
  rw [hb]
  rfl
theorem word10_own (w : World) (x : Int) : ∀ X, X = w.alloc (.cells #[.int .u64 x] 53) → OwnU X w.heap.size (.slice (some ⟨w.heap.size, 0, none⟩) 1 1) [x] := by
  rintro X rfl
  have hb : (w.alloc (.cells #[.int .u64 x] 53)).heap[w.heap.size]? = some (.cells #[.int .u64 x] 53 (0, 0)) := blk_alloc_new _ _
  unfold OwnU OwnN World.ownsRow
  refine ⟨by simp, .inr ⟨w.heap.size, 1, _, rfl, Nat.le_refl _, hb, by simp, by simp [maxLen], by simp, by simp⟩⟩

set_option maxRecDepth 100000 in
set_option maxHeartbeats 4000000 in
theorem deep10_walk (k : Nat) (_ : k ≤ 65535) (w : World) (L : Laid w) :
    Calls Tryd.prog 8 #[.int .u16 k] w fun e w' => e = .returned (.bool true) ∧ Below w.heap.size w w' := by
  have HK := Lib.hid (fun X (hX : Below w.heap.size w X) => known10_any X (L.on hX))
  have HE := Lib.hid (fun (p : Pt) (X : World) => renc_any p X)
  obtain ⟨m, hm⟩ : ∃ m, m = k % 200 := ⟨_, rfl⟩
  have HM := Lib.hid (And.intro hm (show m ≤ 199 by omega))
  have HL := Lib.hid L
  clear hm L
  go_enter Tryd.func8, Tryd.ntmps8
  go_wp2_with fail
  refine (HE.out selfP w).mono ?_
  rintro e w1 ⟨rfl, hB1⟩
  obtain ⟨x, hx⟩ : ∃ x, x = encW selfP := ⟨_, rfl⟩
  rw [← hx]
  generalize encE selfP = y1
  obtain ⟨w2, hw2⟩ : ∃ w2, w2 = w1.alloc (.cells #[.int .u64 x] 53) := ⟨_, rfl⟩
  obtain ⟨w3, hw3⟩ : ∃ w3, w3 = w2.alloc (.cells #[.slice (some ⟨w1.heap.size, 0, none⟩) 1 1] 34) := ⟨_, rfl⟩
  have hs2 : w2.heap.size = w1.heap.size + 1 := by rw [hw2, World.size_alloc]
  have hA := seg10_ar (word10_s w1 x w2 hw2) w3 hw3
  have hB2 : Below w1.heap.size w1 w2 := by rw [hw2]; exact (Below.refl _ _).alloc (Nat.le_refl _) _
  have hB3 : Below w2.heap.size w2 w3 := by rw [hw3]; exact (Below.refl _ _).alloc (Nat.le_refl _) _
  have HB3 := Lib.hid (bseq8 hB1 (bseq8 hB2 hB3))
  have HD := Lib.hid (decode_any _ _ w3 (HL.out.on HB3.out) hA (by simp) (by
    intro s hs z hz
    simp at hs
    subst hs
    simp at hz
    subst hz
    have := encW10 selfP
    rw [← hx] at this
    exact this))
  rw [self_decodes hx, hs2] at HD
  rw [hw2] at hw3
  clear hx hA hB1 hB2 hB3 hs2 hw2
  go_wp2_with fail
  rw [← hw3]
  clear hw3
  refine HD.out.mono ?_
  unfold TrER
  rintro e w4 ⟨u, rfl, hP4, hB4⟩
  obtain ⟨k2, z2, A1, n1, c1, A2, n2, c2, A3, n3, c3, rfl⟩ := hP4.parts
  unfold cellsT
  dsimp only
  obtain ⟨w5, hw5⟩ : ∃ w5, w5 = w4.alloc (.cells #[.int .i64 k2, .int .i64 z2, .slice A1 n1 c1, .slice A2 n2 c2, .slice A3 n3 c3] 37) := ⟨_, rfl⟩
  have hB5 : Below w4.heap.size w4 w5 := by rw [hw5]; exact (Below.refl _ _).alloc (Nat.le_refl _) _
  have HB5 := Lib.hid (HB3.out.trans ((bseq8 hB4 hB5).mono HB3.out.size))
  clear hP4 hB4 hB5
  go_upto_region 3 with fail
  rw [← hw5]
  clear hw5
  obtain ⟨hk3, hk4, hk6⟩ := wraps10d HM.out.1 HM.out.2
  go_upto_region 4 with fail
  clear hk3 hk4 hk6
  go_wp2_with fail
  refine (HE.out (listP m) w5).mono ?_
  rintro e w6 ⟨rfl, hB6⟩
  obtain ⟨x2, hx2⟩ : ∃ x, x = encW (listP m) := ⟨_, rfl⟩
  rw [← hx2]
  generalize encE (listP m) = y2
  have HX2 := Lib.hid hx2
  obtain ⟨w7, hw7⟩ : ∃ w7, w7 = w6.alloc (.cells #[.int .u64 x2] 53) := ⟨_, rfl⟩
  have hB7 : Below w6.heap.size w6 w7 := by rw [hw7]; exact (Below.refl _ _).alloc (Nat.le_refl _) _
  have HO7 := Lib.hid (word10_own w6 x2 w7 hw7)
  have HB6 := Lib.hid (HB5.out.trans (hB6.mono HB5.out.size))
  have HB7 := Lib.hid hB7
  obtain ⟨base, hbase⟩ : ∃ n, n = w6.heap.size := ⟨_, rfl⟩
  rw [← hbase] at HO7 HB7
  have HBs := Lib.hid hbase
  clear hx2 hB6 hB7
  go_upto_region 6 with fail
  rw [← hw7, ← hbase]
  clear hw7 hbase
  go_wp2_with fail
  go_loopw [10, 11] (fun s10 i wr => ∃ q : Nat, q ≤ m ∧ i = .int .i64 q ∧ ∃ A c ps, s10 = .slice A (1 + q) c ∧ OwnU wr base s10 (x2 :: ps) ∧ ps.length = q ∧ (∀ i, i < q → ps[i]?.getD 0 = encW (sameP m i)) ∧ Below base w6 wr) (fun _ i _ => m - (intOf i).toNat)
  case atStart => exact ⟨0, by omega, rfl, _, _, [], rfl, HO7.out, rfl, fun i hi => by omega, HB7.out⟩
  case round =>
    obtain ⟨q, hq, rfl, A, c, ps, rfl, ho, hpl, hps, hBr⟩ := hrel
    generalize wr = wa at *
    have HO := Lib.hid ho
    have HP := Lib.hid (And.intro hpl hps)
    have HBr := Lib.hid hBr
    have hm := HM.out.2
    clear ho hpl hps hBr
    by_cases hlt : q < m
    · have i1 : (q : Int) < (m : Int) := by omega
      have a1 : IntKind.i64.wrap ((m : Int) - q) = (m : Int) - q := IntWalk.i64_in _ (by omega)
      have a2 : IntKind.i64.wrap ((m : Int) - q - 1) = (m : Int) - q - 1 := IntWalk.i64_in _ (by omega)
      go_wp2_with fail
      refine (HE.out (sameP m q) wa).mono ?_
      rintro e wb ⟨rfl, hBb⟩
      obtain ⟨xq, hxq⟩ : ∃ x, x = encW (sameP m q) := ⟨_, rfl⟩
      rw [← hxq]
      generalize encE (sameP m q) = yq
      have hbs := HBs.out
      have hBb2 : Below base w6 wb := HBr.out.trans (hBb.mono (by have := HBr.out.size; omega))
      obtain ⟨v', w', hrun, ho', hg'⟩ := append_u wb base 34 (.slice A (1 + q) c) (x2 :: ps) xq (HO.out.on hBb) (by rw [List.length_cons, HP.out.1]; omega) (by have := hBb2.size; omega)
      have hsl : ∃ A c, v' = .slice A (1 + (q + 1)) c := by
        obtain ⟨A, c, e, _⟩ := OwnN.numS ho'
        exact ⟨A, c, by rw [e, List.length_append, List.length_cons, HP.out.1, List.length_singleton]; congr 1; omega⟩
      obtain ⟨A', c', rfl⟩ := hsl
      have HR : Hid (∃ ps', OwnU w' base (.slice A' (1 + (q + 1)) c') (x2 :: ps') ∧ ps'.length = q + 1 ∧ (∀ i, i < q + 1 → ps'[i]?.getD 0 = encW (sameP m i)) ∧ Below base w6 w') := Lib.hid ⟨ps ++ [xq], ho', by rw [List.length_append, HP.out.1]; rfl, fun i hi => by
        by_cases e : i < q
        · rw [List.getElem?_append_left (by rw [HP.out.1]; exact e)]
          exact HP.out.2 i e
        · obtain rfl : i = q := by omega
          rw [List.getElem?_append_right (by rw [HP.out.1]; exact Nat.le_refl _), HP.out.1, Nat.sub_self]
          exact hxq, (hBb2.alloc (by have := hBb2.size; omega) _).grown hg' (by have := hBb2.size; simp; omega) (fun k e => (World.ownsRow.lt (HO.out.on hBb) k e).1)⟩
      have HRun := Lib.hid hrun
      clear hrun ho' hg' hBb hBb2 hxq hbs
      go_wp2_with (at_builtin; refine Lib.wpList_append_run _ rfl _ _ _ _ rfl _ _ rfl rfl _ _ HRun.out ?_)
      go_roundw
      case rel =>
        obtain ⟨ps', h1, h2, h3, h4⟩ := HR.out
        exact ⟨q + 1, by omega, by go_num, _, _, ps', rfl, h1, h2, h3, h4⟩
      case measure =>
        simp [intOf]
        omega
    · obtain rfl : q = m := by omega
      have i1 : ¬ (q : Int) < (q : Int) := by omega
      have hbs := HBs.out
      have hsz := HBr.out.size
      have ho := HO.out
      unfold OwnU OwnN at ho
      obtain ⟨v', wz, hrun, ho', hg'⟩ := append_zerosU wa base 34 (.slice A (1 + q) c) _ 100 _ ho (by rw [List.length_cons, HP.out.1]; omega) (by omega)
      have hN : OwnU wz base v' ((x2 :: ps) ++ List.replicate 100 0) := by
        unfold OwnU OwnN
        rw [List.length_append, List.length_replicate, List.map_append, List.map_replicate]
        exact ho'
      obtain ⟨A', c', rfl⟩ : ∃ A c, v' = .slice A (1 + q + 100) c := by
        obtain ⟨A, c, e, _⟩ := OwnN.numS hN
        exact ⟨A, c, by rw [e, List.length_append, List.length_replicate, List.length_cons, HP.out.1]; congr 1; omega⟩
      have hN2 := OwnN.numS hN
      rw [show (x2 :: ps) ++ List.replicate 100 0 = sameL q ps x2 from rfl] at hN2
      have HBz : Hid (Below w.heap.size w wz) := Lib.hid (HB6.out.trans ((HBr.out.grown hg' (by omega) (fun k e => (World.ownsRow.lt ho k e).1)).mono (by have := HB6.out.size; omega)))
      obtain ⟨w8, hw8⟩ : ∃ w8, w8 = wz.alloc (.cells #[.slice A' (1 + q + 100) c'] 34) := ⟨_, rfl⟩
      have hA8 := seg10_ar hN2 w8 hw8
      have hB8 : Below wz.heap.size wz w8 := by rw [hw8]; exact (Below.refl _ _).alloc (Nat.le_refl _) _
      have HB8 := Lib.hid (bseq8 HBz.out hB8)
      have HD8 := Lib.hid (decode_any _ _ w8 (HL.out.on HB8.out) hA8 (by simp) (same_u HP.out.1 HX2.out HP.out.2))
      rw [same_decodes HP.out.1 HM.out.2 HX2.out HP.out.2] at HD8
      have HRun := Lib.hid hrun
      obtain ⟨Co, hCo⟩ : ∃ Co : Nat, Co = 1 + q + 101 * q := ⟨_, rfl⟩
      rw [← hCo] at HD8
      have HCo := Lib.hid hCo
      have b1 : IntKind.i64.wrap (1 + (q : Int)) = 1 + (q : Int) := IntWalk.i64_in _ (by omega)
      have b2 : IntKind.i64.wrap (101 * (q : Int)) = 101 * (q : Int) := IntWalk.i64_in _ (by omega)
      have b3 : IntKind.i64.wrap (1 + (q : Int) + 101 * (q : Int)) = (Co : Int) := by rw [IntWalk.i64_in _ (by omega)]; omega
      clear hN hN2 hrun ho' hg' ho hA8 hB8 hbs hsz hCo
      by_cases hC : Co ≤ 8192
      · rw [if_pos hC] at HD8
        have c1 : (Co : Int) ≤ 8192 := by omega
        go_wp2_with (at_builtin; refine Lib.wpList_append_run _ rfl _ _ _ _ rfl _ _ rfl rfl _ _ HRun.out ?_)
        rw [← hw8]
        clear hw8
        refine HD8.out.mono ?_
        unfold TrER
        rintro e w9 ⟨u, rfl, hP9, hB9⟩
        obtain ⟨A4, c4, A5, c5, A6, c6, rfl, -⟩ := (TrP.trV (B := w9.heap.size) (fun b hb => hb.2) _ _ hP9).parts
        rw [show ([] : List Int).length = 0 from rfl, List.length_replicate] at hP9
        rw [show ([] : List Int).length = 0 from rfl, List.length_replicate]
        have HP9 := Lib.hid hP9
        unfold cellsT
        dsimp only
        obtain ⟨wt, hwt⟩ : ∃ wt, wt = w9.alloc (.cells #[.int .i64 2, .int .i64 6, .slice A4 0 c4, .slice A5 0 c5, .slice A6 q c6] 37) := ⟨_, rfl⟩
        have hBt : Below w9.heap.size w9 wt := by rw [hwt]; exact (Below.refl _ _).alloc (Nat.le_refl _) _
        have HTt : Hid (TBox wt w9.heap.size 2 6 (.slice A4 0 c4) (.slice A5 0 c5) (.slice A6 q c6)) := Lib.hid (by rw [hwt]; exact TBox.new _ _ _ _ _ _)
        have HBt := Lib.hid (HB8.out.trans ((bseq8 hB9 hBt).mono HB8.out.size))
        have HC := Lib.hid (fun X (hX : Below w9.heap.size w9 X) => cost_any _ _ X (TrP.mono (fun b hb => Nat.lt_of_lt_of_le hb.2 hX.size) _ _ (TrP.keep (fun b hb => hX.block b hb.2) _ _ HP9.out)) (by
          have := high_same q
          unfold highT
          omega))
        rw [same_cost q HM.out.2, ← HCo.out] at HC
        unfold cellsT at HC
        have HBt9 := Lib.hid hBt
        clear hP9 hB9 hBt
        go_upto_region 14 with fail
        rw [← hwt]
        clear hwt b1 b2 b3
        obtain ⟨d0, d1, d2, d3, d4⟩ := HTt.out.cells
        go_wp2_with fail
        refine (HK.out wt HBt.out).mono ?_
        rintro e wu ⟨rfl, hBu⟩
        have HCu := Lib.hid (HC.out wu (bseq8 HBt9.out hBu))
        have HBu := Lib.hid (HBt.out.trans (hBu.mono HBt.out.size))
        clear d0 d1 d2 d3 d4
        obtain ⟨d0, d1, d2, d3, d4⟩ := (HTt.out.on hBu).cells
        clear hBu
        go_wp2_with fail
        refine HCu.out.mono ?_
        rintro e wv ⟨rfl, hBv⟩
        go_wp2_with fail
        go_ret
        exact ⟨by simp; try omega, HBu.out.trans (hBv.mono HBu.out.size)⟩
      · rw [if_neg hC] at HD8
        have c1 : ¬ (Co : Int) ≤ 8192 := by omega
        go_wp2_with (at_builtin; refine Lib.wpList_append_run _ rfl _ _ _ _ rfl _ _ rfl rfl _ _ HRun.out ?_)
        rw [← hw8]
        clear hw8
        refine HD8.out.mono ?_
        unfold TrER
        rintro e w9 ⟨u, rfl, hP9, hB9⟩
        obtain ⟨k9, z9, A4, n4, c4, A5, n5, c5, A6, n6, c6, rfl⟩ := hP9.parts
        unfold cellsT
        dsimp only
        obtain ⟨wt, hwt⟩ : ∃ wt, wt = w9.alloc (.cells #[.int .i64 k9, .int .i64 z9, .slice A4 n4 c4, .slice A5 n5 c5, .slice A6 n6 c6] 37) := ⟨_, rfl⟩
        have hBt : Below w9.heap.size w9 wt := by rw [hwt]; exact (Below.refl _ _).alloc (Nat.le_refl _) _
        have HBt := Lib.hid (HB8.out.trans ((bseq8 hB9 hBt).mono HB8.out.size))
        clear hP9 hB9 hBt
        go_upto_region 14 with fail
        rw [← hwt]
        clear hwt b1 b2 b3
        go_wp2_with fail
        refine (HK.out wt HBt.out).mono ?_
        rintro e wu ⟨rfl, hBu⟩
        go_wp2_with fail
        go_ret
        exact ⟨by simp; omega, HBt.out.trans (hBu.mono HBt.out.size)⟩

end Go.Proofs.YtdfldfnjjjcleaaDoor
