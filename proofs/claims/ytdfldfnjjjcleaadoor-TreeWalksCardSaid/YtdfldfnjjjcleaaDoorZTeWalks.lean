/-
  Layer 10: the law TreeWalks.
-/
import Derived.Test.YtdfldfnjjjcleaaDoorZTeKnown
import Derived.Test.YtdfldfnjjjcleaaDoorZTdPlain
import Derived.Test.YtdfldfnjjjcleaaDoorZTcA
import Derived.Test.YtdfldfnjjjcleaaDoorZTbBent
import Derived.Test.YtdfldfnjjjcleaaDoorZRdPath
import Derived.Test.YtdfldfnjjjcleaaDoorZTsB
import Derived.Deep.RegionHeldLaw

namespace Go.Proofs.YtdfldfnjjjcleaaDoor
open Go.RowKit Go.Deep

/-- what an arena of small things says of a short path, its tree says, at its own cost -/
theorem walks10_plain {ls : List (List Int)} (hn : ls.length ≤ 16) (hu : AllU ls) (hw : AllW ls) (hl : ∀ l ∈ ls, l.length ≤ 4096) (hd : (decodeT ls).2 = 0) {ks : List Int} (hk : ks.length ≤ 6) (i : Int) :
    ofV ls ks i 8192 = askT (decodeT ls).1 ks i ∧ ofV ls ks i ((costT (decodeT ls).1 : Int) + ks.length) = askT (decodeT ls).1 ks i ∧ costT (decodeT ls).1 ≤ 8192 := by
  have h64 : All64 (sizesL ls) := by
    intro x hx
    obtain ⟨l, h1, rfl⟩ := List.mem_map.1 hx
    have := hl l h1
    refine ⟨?_, ?_⟩ <;> omega
  have hg := srA_good (by omega) hu h64
  have hp : (decN (srA ls) 32 0 0 0).err = 0 ∧ (decodeT ls).1 = (decN (srA ls) 32 0 0 0).t := by
    unfold decodeT at hd ⊢
    split
    · rename_i hf
      rw [if_pos hf] at hd
      split
      · rename_i he
        rw [if_pos he] at hd
        exact absurd hd he
      · rename_i he
        exact ⟨Decidable.of_not_not he, rfl⟩
    · rename_i hf
      rw [if_neg hf] at hd
      exact absurd hd (by decide)
  obtain ⟨⟨-, -, h3, -⟩, -⟩ := dec_r hg 32 0 0 0 hp.1
  have h4 := dec_total hg 32 0 0 0 hp.1
  rw [← hp.2] at h4
  have h5 := cost_total (decodeT ls).1 (by omega)
  exact ⟨of_most hg hw hl hd ks hk i, of_ask hg hd ks i _ (by rw [h5]; omega), by omega⟩

set_option maxRecDepth 100000 in
set_option maxHeartbeats 4000000 in
theorem walks10_walk (c d e : List Int) (vc vd ve : Value) (k q : Nat) (w : World) (hc : Bytes w w.heap.size vc c) (hd : Bytes w w.heap.size vd d) (he : Bytes w w.heap.size ve e) (hcb : AllB c) (hdb : AllB d) (heb : AllB e) (hk : k ≤ 255) (hq : q ≤ 255) (L : Laid w) :
    Calls Tryd.prog 6 #[vc, vd, ve, .int .u8 k, .int .u8 q] w fun e w' => e = .returned (.bool true) ∧ Below w.heap.size w w' := by
  have HK := Lib.hid (fun X (hX : Below w.heap.size w X) => known10_any X (L.on hX))
  have HBe := Lib.hid (bent_any c d vc vd k w hc hd hcb hdb hk)
  have HPt := Lib.hid (fun X (hX : Below w.heap.size w X) => path9_any e ve q X (he.on hX) heb hq)
  have HL := Lib.hid L
  have HKs : Hid ((stepsC e (min e.length 6)).length ≤ 6 ∧ All64 (stepsC e (min e.length 6))) := Lib.hid ⟨by rw [stepsC_len (by omega)]; omega, stepsC_pos.2⟩
  obtain ⟨Ac, cc, rfl⟩ := hc.form rfl
  obtain ⟨Ad, cd, rfl⟩ := hd.form rfl
  obtain ⟨Ae, ce, rfl⟩ := he.form rfl
  generalize stepsC e (min e.length 6) = ks at *
  obtain ⟨lc, hlc⟩ : ∃ lc, lc = c.length := ⟨_, rfl⟩
  rw [← hlc] at HBe ⊢
  generalize d.length = ld at *
  generalize e.length = le at *
  clear hc hd he hcb hdb heb hk hq L hlc
  go_enter Tryd.func6, Tryd.ntmps6
  by_cases hl : (lc : Int) > 200
  · go_wp2_with fail
    refine (HK.out w (Below.refl _ _)).mono ?_
    rintro e w2 ⟨rfl, hB2⟩
    have HB2 := Lib.hid hB2
    clear hB2
    go_wp2_with fail
    go_ret
    exact ⟨rfl, HB2.out⟩
  · go_wp2_with fail
    refine HBe.out.mono ?_
    intro e1 w1 hR
    obtain ⟨v1, ls, he1, ha1, hu1, hw1, hl1, hn1, hB1⟩ := hR
    subst he1
    obtain ⟨Aa, ca, rfl⟩ := ha1.form rfl
    have HA1 := Lib.hid ha1
    have HPl := Lib.hid (fun hz i => walks10_plain hn1 hu1 hw1 hl1 hz HKs.out.1 i)
    have HFn := Lib.hid (decode_fine (srA_good (by omega) hu1 (sizes_all64 ha1)))
    have HDe := Lib.hid (decode_any _ ls w1 (HL.out.on hB1) ha1 (by omega) hu1)
    have HOf := Lib.hid (fun X (hX : Below w1.heap.size w1 X) sv i cost (hs : NumS .i64 X X.heap.size sv ks) (hi : In64 i) (hcost : In64 cost) => of9_any _ ls X sv ks i cost (HL.out.on (bseq8 hB1 hX)) (ha1.on hX) (by omega) hu1 hs HKs.out.2 hi hcost)
    have HB1 := Lib.hid hB1
    generalize ls.length = na at *
    clear ha1 hu1 hw1 hl1 hn1 hB1
    go_wp2_with fail
    refine HDe.out.mono ?_
    unfold TrER
    rintro e2 w2 ⟨u, rfl, hP2, hB2⟩
    obtain ⟨k2, z2, A1, n1, c1, A2, n2, c2, A3, n3, c3, rfl⟩ := hP2.parts
    unfold cellsT
    dsimp only
    obtain ⟨w3, hw3⟩ : ∃ w3, w3 = w2.alloc (.cells #[.int .i64 k2, .int .i64 z2, .slice A1 n1 c1, .slice A2 n2 c2, .slice A3 n3 c3] 37) := ⟨_, rfl⟩
    have hB3 : Below w2.heap.size w2 w3 := by rw [hw3]; exact (Below.refl _ _).alloc (Nat.le_refl _) _
    have HT3 : Hid (TBox w3 w2.heap.size k2 z2 (.slice A1 n1 c1) (.slice A2 n2 c2) (.slice A3 n3 c3)) := Lib.hid (by rw [hw3]; exact TBox.new _ _ _ _ _ _)
    have HC3 := Lib.hid (bseq8 hB2 hB3)
    have HB3 := Lib.hid (bseq8 HB1.out HC3.out)
    generalize decodeT ls = D at *
    obtain ⟨t, f⟩ := D
    dsimp only at hP2 HPl HFn ⊢
    have HCo := Lib.hid (fun X (hX : Below w3.heap.size w3 X) => cost_any t _ X (TrP.mono (fun b hb => Nat.lt_of_lt_of_le hb.2 (bseq8 hB3 hX).size) _ _ (TrP.keep (fun b hb => (bseq8 hB3 hX).block b hb.2) _ _ hP2)) (by have := HFn.out.2; omega))
    have HAs := Lib.hid (fun X (hX : Below w3.heap.size w3 X) sv i (hs : NumS .i64 X X.heap.size sv ks) (hi : In64 i) => ask_any t _ X sv ks i ((TrP.trV (fun b hb => hb.2) _ _ hP2).on (bseq8 hB3 hX)) HFn.out.1 hs HKs.out.2 hi)
    unfold cellsT at HCo HAs
    clear hP2 hB2 hB3
    go_upto_region 5 with fail
    rw [← hw3]
    clear hw3
    by_cases hz : f = 0
    · subst hz
      have HPl2 := Lib.hid (HPl.out rfl)
      obtain ⟨Co, hCo⟩ : ∃ n, n = costT t := ⟨_, rfl⟩
      rw [← hCo] at HPl2 HCo
      clear hCo
      go_wp2_with fail
      refine (HPt.out w3 HB3.out).mono ?_
      rintro e3 w4 ⟨sv, i, rfl, hi, hs4, hB4⟩
      obtain ⟨A6, c6, rfl⟩ := hs4.form rfl
      obtain ⟨w5, hw5⟩ : ∃ w5, w5 = w4.alloc (.cells #[.slice A6 ks.length c6, .int .i64 i] 33) := ⟨_, rfl⟩
      have hB5 : Below w4.heap.size w4 w5 := by rw [hw5]; exact (Below.refl _ _).alloc (Nat.le_refl _) _
      have HX5 : Hid (PaBox w5 w4.heap.size (.slice A6 ks.length c6) i) := Lib.hid (by rw [hw5]; unfold PaBox; exact blk_alloc_new _ _)
      have HN5 := Lib.hid (hs4.on hB5)
      have HC5 := Lib.hid (bseq8 hB4 hB5)
      obtain ⟨p1, p2, p3⟩ := HPl2.out i
      have HOf := Lib.hid (fun X (hX : Below w5.heap.size w5 X) cost (hcost : In64 cost) => HOf.out X (bseq8 HC3.out (bseq8 HC5.out hX)) _ i cost (HN5.out.on hX) hi hcost)
      have HO1 := Lib.hid (fun X (hX : Below w5.heap.size w5 X) => HOf.out X hX 8192 ⟨by decide, by decide⟩)
      have HO2 := Lib.hid (fun X (hX : Below w5.heap.size w5 X) => HOf.out X hX ((Co : Int) + ks.length) ⟨by omega, by have := HKs.out.1; omega⟩)
      have HA := Lib.hid (fun X (hX : Below w5.heap.size w5 X) => HAs.out X (bseq8 HC5.out hX) _ i (HN5.out.on hX) hi)
      rw [p1] at HO1
      rw [p2] at HO2
      generalize askT t ks i = V at *
      obtain ⟨⟨va, vb, vc, vd, ve⟩, er⟩ := V
      have HSm : Hid (Co ≤ 8192 ∧ ks.length ≤ 6) := Lib.hid ⟨p3, HKs.out.1⟩
      generalize ks.length = nk at *
      clear hi hs4 hB4 hB5 p1 p2 p3 HOf HAs HPl HPl2
      go_upto_region 8 with fail
      rw [← hw5]
      clear hw5
      obtain ⟨x0, x1⟩ := HX5.out.cells
      go_wp2_with fail
      refine (HO1.out w5 (Below.refl _ _)).mono ?_
      unfold VaR
      rintro e4 w6 ⟨rfl, hB6⟩
      unfold cellsV
      dsimp only
      obtain ⟨w7, hw7⟩ : ∃ w7, w7 = w6.alloc (.cells #[.int .i64 va, .int .i64 vb, .int .i64 vc, .int .i64 vd, .int .u64 ve] 55) := ⟨_, rfl⟩
      have hB7 : Below w6.heap.size w6 w7 := by rw [hw7]; exact (Below.refl _ _).alloc (Nat.le_refl _) _
      have HV7 : Hid (VBox w7 w6.heap.size ⟨va, vb, vc, vd, ve⟩) := Lib.hid (by rw [hw7]; exact VBox.new w6 ⟨va, vb, vc, vd, ve⟩)
      have HC7 := Lib.hid (bseq8 hB6 hB7)
      clear hB6 hB7 x0 x1
      obtain ⟨d0, d1, d2, d3, d4⟩ := (HT3.out.on (bseq8 HC5.out HC7.out)).cells
      obtain ⟨x0, x1⟩ := (HX5.out.on HC7.out HX5.out.lt).cells
      go_upto_region 9 with fail
      rw [← hw7]
      clear hw7
      go_wp2_with fail
      with_reducible refine (HA.out w7 HC7.out).mono ?_
      unfold VaR
      rintro e5 w8 ⟨rfl, hB8⟩
      unfold cellsV
      dsimp only
      obtain ⟨w9, hw9⟩ : ∃ w9, w9 = w8.alloc (.cells #[.int .i64 va, .int .i64 vb, .int .i64 vc, .int .i64 vd, .int .u64 ve] 55) := ⟨_, rfl⟩
      have hB9 : Below w8.heap.size w8 w9 := by rw [hw9]; exact (Below.refl _ _).alloc (Nat.le_refl _) _
      have HV9 : Hid (VBox w9 w8.heap.size ⟨va, vb, vc, vd, ve⟩) := Lib.hid (by rw [hw9]; exact VBox.new w8 ⟨va, vb, vc, vd, ve⟩)
      have HC9 := Lib.hid (bseq8 hB8 hB9)
      have HD9 := Lib.hid (bseq8 HC7.out HC9.out)
      have HT9 := Lib.hid (HT3.out.on (bseq8 HC5.out HD9.out))
      have HX9 := Lib.hid (HX5.out.on HD9.out HX5.out.lt)
      have HV79 := Lib.hid (HV7.out.on HC9.out)
      have HB9 := Lib.hid (bseq8 HB3.out (bseq8 HC5.out HD9.out))
      have HO9 := Lib.hid (fun X (hX : Below w9.heap.size w9 X) => HO2.out X (bseq8 HD9.out hX))
      have HCo9 := Lib.hid (fun X (hX : Below w9.heap.size w9 X) => HCo.out X (bseq8 (bseq8 HC5.out HD9.out) hX))
      clear hB8 hB9 d0 d1 d2 d3 d4 x0 x1
      go_upto_region 10 with fail
      rw [← hw9]
      clear hw9
      have hw1 : IntKind.i64.wrap ((Co : Int) + nk) = (Co : Int) + nk := IntWalk.i64_in _ (by have := HSm.out; omega)
      have HCel : Hid (∀ X, Below w9.heap.size w9 X → (X.cell? ⟨w2.heap.size, 0, none⟩ = some (.int .i64 k2) ∧ X.cell? ⟨w2.heap.size, 1, none⟩ = some (.int .i64 z2) ∧ X.cell? ⟨w2.heap.size, 2, none⟩ = some (.slice A1 n1 c1) ∧ X.cell? ⟨w2.heap.size, 3, none⟩ = some (.slice A2 n2 c2) ∧ X.cell? ⟨w2.heap.size, 4, none⟩ = some (.slice A3 n3 c3)) ∧ X.cell? ⟨w4.heap.size, 0, none⟩ = some (.slice A6 nk c6) ∧ X.cell? ⟨w4.heap.size, 1, none⟩ = some (.int .i64 i)) := Lib.hid (fun X hX => ⟨(HT9.out.on hX).cells, (HX9.out.on hX HX9.out.lt).cells⟩)
      have HEnd1 : Hid (∀ w11, Below w9.heap.size w9 w11 → ∃ g, (Value.pointer (some ⟨w11.heap.size, 0, none⟩) = .pointer (some ⟨g, 0, none⟩)) ∧ (Value.int .u16 er = .int .u16 er) ∧ VBox (w11.alloc (.cells #[.int .i64 va, .int .i64 vb, .int .i64 vc, .int .i64 vd, .int .u64 ve] 55)) g ⟨va, vb, vc, vd, ve⟩ ∧ Below w9.heap.size w9 (w11.alloc (.cells #[.int .i64 va, .int .i64 vb, .int .i64 vc, .int .i64 vd, .int .u64 ve] 55))) := Lib.hid (fun w11 h => ⟨_, rfl, rfl, VBox.new w11 ⟨va, vb, vc, vd, ve⟩, h.alloc h.size _⟩)
      have HEnd2 : Hid (∀ g w11, Below w9.heap.size w9 w11 → w9.heap.size ≤ g → VBox w11 g ⟨0, 0, 0, 0, 0⟩ → ∃ g', (Value.pointer (some ⟨g, 0, none⟩) = .pointer (some ⟨g', 0, none⟩)) ∧ (Value.int .u16 er = .int .u16 er) ∧ VBox (((((w11.setCell ⟨g, 0, none⟩ (.int .i64 va)).setCell ⟨g, 1, none⟩ (.int .i64 vb)).setCell ⟨g, 2, none⟩ (.int .i64 vc)).setCell ⟨g, 3, none⟩ (.int .i64 vd)).setCell ⟨g, 4, none⟩ (.int .u64 ve)) g' ⟨va, vb, vc, vd, ve⟩ ∧ Below w9.heap.size w9 (((((w11.setCell ⟨g, 0, none⟩ (.int .i64 va)).setCell ⟨g, 1, none⟩ (.int .i64 vb)).setCell ⟨g, 2, none⟩ (.int .i64 vc)).setCell ⟨g, 3, none⟩ (.int .i64 vd)).setCell ⟨g, 4, none⟩ (.int .u64 ve))) := Lib.hid (fun g w11 h hg hv => ⟨_, rfl, rfl, hv.set5 va vb vc vd ve, below_val5 h hg _ _ _ _ _⟩)
      go_cut [19, 20] (fun x19 x20 wx => ∃ g, x19 = .pointer (some ⟨g, 0, none⟩) ∧ x20 = .int .u16 er ∧ VBox wx g ⟨va, vb, vc, vd, ve⟩ ∧ Below w9.heap.size w9 wx)
      case first =>
        have hD : Below w9.heap.size w9 w9.drew := (Below.refl _ _).drew
        have hDa : Below w9.heap.size w9 (w9.alloc (.cells #[.int .i64 0, .int .i64 0, .int .i64 0, .int .i64 0, .int .u64 0] 55)).drew := ((Below.refl _ _).alloc (Nat.le_refl _) _).drew
        have HQ9 : Hid (∀ X, Below (w9.alloc (.cells #[.int .i64 0, .int .i64 0, .int .i64 0, .int .i64 0, .int .u64 0] 55)).drew.heap.size (w9.alloc (.cells #[.int .i64 0, .int .i64 0, .int .i64 0, .int .i64 0, .int .u64 0] 55)).drew X → VBox X w9.heap.size ⟨0, 0, 0, 0, 0⟩) := Lib.hid (fun X hX => VBox.on (w := (w9.alloc (.cells #[.int .i64 0, .int .i64 0, .int .i64 0, .int .i64 0, .int .u64 0] 55)).drew) (VBox.new w9 Va.zero) hX)
        have HQn : Hid (∀ (w10 X : World), Below (w10.alloc (.cells #[.int .i64 0, .int .i64 0, .int .i64 0, .int .i64 0, .int .u64 0] 55)).heap.size (w10.alloc (.cells #[.int .i64 0, .int .i64 0, .int .i64 0, .int .i64 0, .int .u64 0] 55)) X → VBox X w10.heap.size ⟨0, 0, 0, 0, 0⟩) := Lib.hid (fun w10 X hX => VBox.on (VBox.new w10 Va.zero) hX)
        unfold VaR cellsV at HO9
        dsimp only at HO9
        go_region_held_law (fun X => (X.cell? ⟨w2.heap.size, 0, none⟩ = some (.int .i64 k2) ∧ X.cell? ⟨w2.heap.size, 1, none⟩ = some (.int .i64 z2) ∧ X.cell? ⟨w2.heap.size, 2, none⟩ = some (.slice A1 n1 c1) ∧ X.cell? ⟨w2.heap.size, 3, none⟩ = some (.slice A2 n2 c2) ∧ X.cell? ⟨w2.heap.size, 4, none⟩ = some (.slice A3 n3 c3)) ∧ X.cell? ⟨w4.heap.size, 0, none⟩ = some (.slice A6 nk c6) ∧ X.cell? ⟨w4.heap.size, 1, none⟩ = some (.int .i64 i)) (with_reducible first | exact HCel.out _ hD | exact HCel.out _ hDa | exact HCel.out _ hE | exact HCel.out _ hEa | exact HCel.out _ hF | exact HCel.out _ (hF.alloc hF.size _) | exact HCel.out _ (below_val5 hF hE.size _ _ _ _ _) | exact HCel.out _ (below_val5 hF (Nat.le_refl _) _ _ _ _ _)) (first
          | (go_at_call 19; with_reducible refine (HCo9.out _ hD).mono ?_; intro e w10 hR; obtain ⟨he10, hB10⟩ := hR; subst he10; have hE := bseq8 hD hB10; have hEa := hE.alloc hE.size (.cells #[.int .i64 0, .int .i64 0, .int .i64 0, .int .i64 0, .int .u64 0] 55))
          | (go_at_call 19; with_reducible refine (HCo9.out _ hDa).mono ?_; intro e w10 hR; obtain ⟨he10, hB10⟩ := hR; subst he10; have hE := bseq8 hDa hB10; have hEa := hE.alloc hE.size (.cells #[.int .i64 0, .int .i64 0, .int .i64 0, .int .i64 0, .int .u64 0] 55); have HQ := Lib.hid (HQ9.out _ hB10))
          | (go_at_call 24; with_reducible refine (HO9.out _ hE).mono ?_; intro e w11 hR; obtain ⟨he11, hB11⟩ := hR; subst he11; have hF := bseq8 hE hB11; have HE1 := Lib.hid (HEnd1.out _ hF); (try have HQ2 := Lib.hid (VBox.on HQ.out hB11)); (try have HE2 := Lib.hid (HEnd2.out _ _ hF (Nat.le_refl _) HQ2.out)); (try obtain ⟨y0, y1, y2, y3, y4⟩ := HQ2.out.cells); (try obtain ⟨f0, f1, f2, f3, f4⟩ := HQ2.out.frozens); (try dsimp only at y0 y1 y2 y3 y4))
          | (go_at_call 24; with_reducible refine (HO9.out _ hEa).mono ?_; intro e w11 hR; obtain ⟨he11, hB11⟩ := hR; subst he11; have hF := bseq8 hEa hB11; have HQ2 := Lib.hid (HQn.out _ _ hB11); have HE2 := Lib.hid (HEnd2.out _ _ hF hE.size HQ2.out); obtain ⟨y0, y1, y2, y3, y4⟩ := HQ2.out.cells; obtain ⟨f0, f1, f2, f3, f4⟩ := HQ2.out.frozens; (try dsimp only at y0 y1 y2 y3 y4)))
        all_goals go_wp2_with fail
        all_goals go_meet
        all_goals first
          | (obtain ⟨g', q1, -, q2, q3⟩ := HE1.out; exact ⟨g', q1, rfl, q2, q3⟩)
          | (obtain ⟨g', q1, -, q2, q3⟩ := HE2.out; exact ⟨g', q1, rfl, q2, q3⟩)
      case rest =>
        obtain ⟨g, rfl, rfl, hVg, hBg⟩ := hcut
        have HB10 := Lib.hid (bseq8 HB9.out hBg)
        have HVg := Lib.hid hVg
        have HVa := Lib.hid (HV79.out.on hBg)
        have HVb := Lib.hid (HV9.out.on hBg)
        clear hVg hBg
        generalize w6.heap.size = ga at *
        generalize w8.heap.size = gb at *
        go_wp2_with fail
        refine (HK.out wc HB10.out).mono ?_
        rintro e6 w11 ⟨rfl, hB11⟩
        obtain ⟨y0, y1, y2, y3, y4⟩ := (HVa.out.on hB11).cells
        obtain ⟨z0, z1, z2', z3, z4⟩ := (HVb.out.on hB11).cells
        obtain ⟨u0, u1, u2, u3, u4⟩ := (HVg.out.on hB11).cells
        dsimp only at y0 y1 y2 y3 y4 z0 z1 z2' z3 z4 u0 u1 u2 u3 u4
        have HBe := Lib.hid (bseq8 HB10.out hB11)
        have hqv : eqV ⟨va, vb, vc, vd, ve⟩ ⟨va, vb, vc, vd, ve⟩ = true := by unfold eqV; simp
        have hqe : ∀ X, (binOp .eql 55 (.agg #[.int .i64 va, .int .i64 vb, .int .i64 vc, .int .i64 vd, .int .u64 ve]) (.agg #[.int .i64 va, .int .i64 vb, .int .i64 vc, .int .i64 vd, .int .u64 ve])).run Tryd.prog X = .ok (.bool true) X := fun X => by
          have := run_eql_V X ⟨va, vb, vc, vd, ve⟩ ⟨va, vb, vc, vd, ve⟩
          rw [hqv] at this
          exact this
        have hgd := fun w op x y xs ys => run_eqGuard_agg (P := Tryd.prog) w op 55 x y xs ys (by kernel_rfl)
        clear hB11 hqv
        go_wp2_with fail
        go_ret
        exact ⟨by simp, HBe.out⟩
    · go_wp2_with fail
      refine (HK.out w3 HB3.out).mono ?_
      rintro e4 w4 ⟨rfl, hB4⟩
      have HB4 := Lib.hid (bseq8 HB3.out hB4)
      clear hB4
      go_wp2_with fail
      go_ret
      exact ⟨rfl, HB4.out⟩

end Go.Proofs.YtdfldfnjjjcleaaDoor
