/-
  Layer 10: the law TreePaths.
-/
import Derived.Test.YtdfldfnjjjcleaaDoorZTeKnown
import Derived.Test.YtdfldfnjjjcleaaDoorZTdIn
import Derived.Test.YtdfldfnjjjcleaaDoorZTrGenE
import Derived.Test.YtdfldfnjjjcleaaDoorZRdC
import Derived.Deep.RegionHeldLaw

namespace Go.Proofs.YtdfldfnjjjcleaaDoor
open Go.RowKit Go.Deep

/-- a path of a row -/
theorem PRow.at_ {w : World} {P : Nat → Prop} {base : Nat} {v : Value} {ps : List (List Int × Int)} (h : PRow w P base v ps) (hP : ∀ b, P b → b < w.heap.size) : ∃ A c, v = .slice A ps.length c ∧ ps.length ≤ c ∧ c ≤ 9223372036854775807 ∧ ∀ j, (hj : j < ps.length) → ∃ g A' c', A = some ⟨g, 0, none⟩ ∧ g < w.heap.size ∧ w.cell? ⟨g, j * 2, none⟩ = some (.slice A' ps[j].1.length c') ∧ w.cell? ⟨g, j * 2 + 1, none⟩ = some (.int .i64 ps[j].2) ∧ NumS .i64 w w.heap.size (.slice A' ps[j].1.length c') ps[j].1 := by
  have hlt := h.lt
  obtain ⟨xs, ⟨hl, ho⟩, hp, hx⟩ := h
  rcases ho with ⟨rfl, h0⟩ | ⟨g, cap, cur, rfl, hg, hh, hc, hm, hs, ht⟩
  · exact ⟨none, 0, by rw [h0], by omega, by omega, fun j hj => absurd hj (by omega)⟩
  · refine ⟨_, cap, rfl, hc, by unfold maxLen at hm; omega, fun j hj => ?_⟩
    obtain ⟨sv, e0, e1, e2⟩ := hx j hj
    obtain ⟨A', c', rfl⟩ := e2.form
    have hcell : ∀ i u, xs[i]? = some u → w.cell? ⟨g, i, none⟩ = some u := fun i u hu => by
      have hi : i < ps.length * 2 := by rw [← hl]; exact (List.getElem?_eq_some_iff.1 hu).1
      rw [← ht, List.getElem?_take_of_lt hi] at hu
      unfold World.cell?
      dsimp only
      rw [hh]
      dsimp only
      rw [← Array.getElem?_toList]
      exact hu
    exact ⟨g, A', c', rfl, (hlt g rfl).2, hcell _ _ e0, hcell _ _ e1, e2.numS (fun b hb => hP b hb.1)⟩

def put5V (w : World) (g : Nat) (v : Va) : World := ((((w.setCell ⟨g, 0, none⟩ (.int .i64 v.kind)).setCell ⟨g, 1, none⟩ (.int .i64 v.size)).setCell ⟨g, 2, none⟩ (.int .i64 v.words)).setCell ⟨g, 3, none⟩ (.int .i64 v.kids)).setCell ⟨g, 4, none⟩ (.int .u64 v.word)
theorem below_put5V {B : Nat} {w W : World} {g : Nat} (h : Below B w W) (hg : B ≤ g) (v : Va) : Below B w (put5V W g v) :=
  ((((h.setCell (p := ⟨g, 0, none⟩) hg _).setCell (p := ⟨g, 1, none⟩) hg _).setCell (p := ⟨g, 2, none⟩) hg _).setCell (p := ⟨g, 3, none⟩) hg _).setCell (p := ⟨g, 4, none⟩) hg _
theorem vbox_put {w : World} {g : Nat} {u : Va} (h : VBox w g u) (v : Va) : VBox (put5V w g v) g v := by
  have h0 : w.heap[g]? = some (.cells (cellsV u) 55 (0, 0)) := h
  have h1 := heap_setCell_same _ g 0 _ _ (.int .i64 v.kind) h0
  have h2 := heap_setCell_same _ g 1 _ _ (.int .i64 v.size) h1
  have h3 := heap_setCell_same _ g 2 _ _ (.int .i64 v.words) h2
  have h4 := heap_setCell_same _ g 3 _ _ (.int .i64 v.kids) h3
  have h5 := heap_setCell_same _ g 4 _ _ (.int .u64 v.word) h4
  unfold VBox put5V
  rw [h5]
  simp [cellsV]

set_option maxRecDepth 100000 in
set_option maxHeartbeats 1000000 in
theorem rof_none (sv : Value) (i cost : Int) (A : Option Addr) (n c : Nat) (w : World) (hs : sv = .slice A n c) :
    Calls Tryd.prog 28 #[.slice none 0 0, .agg #[sv, .int .i64 i], .int .i64 cost] w fun e w' => ∃ v, e = .returned (.tuple #[.agg (cellsV v), .int .i64 1]) ∧ Below w.heap.size w w' := by
  subst hs
  obtain ⟨W1, hW1⟩ : ∃ W1, W1 = (w.alloc (.cells #[.slice A n c, .int .i64 i] 33)).alloc (.cells #[.int .i64 0, .int .i64 0, .int .i64 0, .int .i64 0, .int .u64 0] 55) := ⟨_, rfl⟩
  obtain ⟨-, hv, hB, hs⟩ := two_new10 w _ _ _ _ W1 hW1
  have HV : Hid (VBox W1 (w.heap.size + 1) Va.zero) := Lib.hid hv
  have HB := Lib.hid hB
  have hr := fun X => rright7_any (.slice none 0 0) [] X ⟨none, 0, rfl, by simp, by omega, fun h => by simp at h⟩ (by simp)
  rw [show fitsL (sizesL []) = false by decide] at hr
  have HR := Lib.hid hr
  clear hv hB hs hr
  go_enter Tryd.func28, Tryd.ntmps28
  go_upto_region 1 with fail
  rw [← hW1]
  clear hW1
  go_wp2_with fail
  refine (HR.out W1).mono ?_
  rintro e w2 ⟨rfl, hB2⟩
  have HB2 := Lib.hid (HB.out.trans (hB2.mono HB.out.size))
  have HV2 := Lib.hid (HV.out.on hB2)
  obtain ⟨x0, x1, x2, x3, x4⟩ := HV2.out.cells
  have hz : ∀ j, w2.frozen? ⟨w.heap.size + 1, j, none⟩ = false := fun j => by
    have := HV2.out
    unfold VBox at this
    simp [World.frozen?, this]
  have z0 := hz 0
  have z1 := hz 1
  have z2 := hz 2
  have z3 := hz 3
  have z4 := hz 4
  clear hB2 hz
  go_wp2_with fail
  clear x0 x1 x2 x3 x4
  have HX := Lib.hid (vbox_put HV2.out Va.zero)
  have HBX : Hid (Below w.heap.size w (put5V w2 (w.heap.size + 1) Va.zero)) := Lib.hid (below_put5V HB2.out (Nat.le_succ _) _)
  unfold put5V Va.zero at HX HBX
  dsimp only at HX HBX
  obtain ⟨x0, x1, x2, x3, x4⟩ := HX.out.cells
  refine bodyPost_ret (v := .tuple #[.agg (cellsV Va.zero), .int .i64 1]) ?_ rfl ⟨Va.zero, rfl, HBX.out⟩
  simp [results, Tryd.f28, go_sem, cellsV, Va.zero, x0, x1, x2, x3, x4]

theorem below_behind {a b : World} (h : Below a.drew.heap.size a.drew b) : Below a.heap.size a b := (Below.refl a.heap.size a).drew.trans (show Below a.heap.size a.drew b from h)
theorem wrapsP {i j n a b : Nat} (hi : i ≤ 255) (hj : j ≤ 255) (ha : a = i % n) (hb : b = j % n) : wrap64 (i : Int) = i ∧ wrap64 (j : Int) = j ∧ (i : Int) % (n : Int) = (a : Int) ∧ (j : Int) % (n : Int) = (b : Int) ∧ (i : Int).tmod (n : Int) = (a : Int) ∧ (j : Int).tmod (n : Int) = (b : Int) ∧ IntKind.i64.wrap (i : Int) = i ∧ IntKind.i64.wrap (j : Int) = j ∧ IntKind.i64.wrap ((i : Int).tmod (n : Int)) = (a : Int) ∧ IntKind.i64.wrap ((j : Int).tmod (n : Int)) = (b : Int) := by
  subst ha hb
  have ea : (i : Int).tmod (n : Int) = ((i % n : Nat) : Int) := by rw [Int.tmod_eq_emod_of_nonneg (by omega)]; simp
  have eb : (j : Int).tmod (n : Int) = ((j % n : Nat) : Int) := by rw [Int.tmod_eq_emod_of_nonneg (by omega)]; simp
  have la : i % n ≤ i := Nat.mod_le _ _
  have lb : j % n ≤ j := Nat.mod_le _ _
  refine ⟨?_, ?_, ?_, ?_, ea, eb, IntWalk.i64_in _ (by omega), IntWalk.i64_in _ (by omega), by rw [ea, IntWalk.i64_in _ (by omega)], by rw [eb, IntWalk.i64_in _ (by omega)]⟩
  · unfold wrap64; omega
  · unfold wrap64; omega
  · simp
  · simp

set_option maxRecDepth 100000 in
set_option maxHeartbeats 4000000 in
theorem paths10_walk (c : List Int) (v : Value) (i j : Nat) (w : World) (h : Bytes w w.heap.size v c) (hb : AllB c) (hi : i ≤ 255) (hj : j ≤ 255) (L : Laid w) :
    Calls Tryd.prog 7 #[v, .int .u8 i, .int .u8 j] w fun e w' => e = .returned (.bool true) ∧ Below w.heap.size w w' := by
  have HK := Lib.hid (fun X (hX : Below w.heap.size w X) => known10_any X (L.on hX))
  obtain ⟨A, cc, rfl⟩ := h.form rfl
  by_cases hlen : 200 < c.length
  · have hlen2 : (200 : Int) < (c.length : Int) := by omega
    generalize c.length = len at *
    clear h hb L hlen
    go_enter Tryd.func7, Tryd.ntmps7
    go_wp2_with fail
    refine (HK.out w (Below.refl _ _)).mono ?_
    rintro e w2 ⟨rfl, hB2⟩
    go_wp2_with fail
    go_ret
    exact ⟨rfl, hB2⟩
  · have hlen2 : ¬ (200 : Int) < (c.length : Int) := by omega
    have HTr := Lib.hid (tree_all 6 (by omega) c _ w w.heap.size (Nat.le_refl _) h hb)
    have hdp : deepB (treeC 6 c).1 6 = true := (treeC_fine 6 c).1
    obtain ⟨hf, hh⟩ := deep_fine _ 6 hdp
    have HTo := Lib.hid (told_of hdp (by omega) 200)
    have HAp := Lib.hid (told_apart (treeC 6 c).1 200)
    obtain ⟨hs1, hs2⟩ := told_some (treeC 6 c).1 (most := 200) (by omega)
    generalize (treeC 6 c).1 = x at *
    generalize (treeC 6 c).2 = rest at *
    have HPa := Lib.hid (fun X u (hu : TrV X X.heap.size x u) => paths10_any x u 200 X hu hf (by omega))
    have HFi := Lib.hid hf
    generalize pathsT x 200 = l at *
    obtain ⟨n, hn⟩ : ∃ n, n = l.length := ⟨_, rfl⟩
    obtain ⟨a, ha⟩ : ∃ a, a = i % n := ⟨_, rfl⟩
    obtain ⟨b, hb'⟩ : ∃ b, b = j % n := ⟨_, rfl⟩
    have HWr := Lib.hid (wrapsP hi hj ha hb')
    have HA : Hid (a < l.length ∧ b < l.length) := Lib.hid (by rw [ha, hb', hn]; exact ⟨Nat.mod_lt _ hs1, Nat.mod_lt _ hs1⟩)
    have HN := Lib.hid hn
    have HS : Hid (0 < n ∧ n ≤ 10000) := Lib.hid (by omega)
    generalize c.length = len at *
    clear h hb L hlen hdp hf hh hs1 hs2 hi hj hn ha hb'
    go_enter Tryd.func7, Tryd.ntmps7
    go_wp2_with fail
    refine HTr.out.mono ?_
    rintro e w1 ⟨x', y', rfl, hP1, hy1, hB1⟩
    obtain ⟨Ay, cy, rfl⟩ := hy1.form rfl
    obtain ⟨k2, z2, A1, n1, c1, A2, n2, c2, A3, n3, c3, rfl⟩ := hP1.parts
    unfold cellsT
    dsimp only
    obtain ⟨w2, hw2⟩ : ∃ w2, w2 = w1.alloc (.cells #[.int .i64 k2, .int .i64 z2, .slice A1 n1 c1, .slice A2 n2 c2, .slice A3 n3 c3] 37) := ⟨_, rfl⟩
    have hB2 : Below w1.heap.size w1 w2 := by rw [hw2]; exact (Below.refl _ _).alloc (Nat.le_refl _) _
    have HT2 : Hid (TBox w2 w1.heap.size k2 z2 (.slice A1 n1 c1) (.slice A2 n2 c2) (.slice A3 n3 c3)) := Lib.hid (by rw [hw2]; exact TBox.new _ _ _ _ _ _)
    have HV2 := Lib.hid ((TrP.trV (fun b hb => hb.2) _ _ hP1).on hB2)
    have HB2 := Lib.hid (bseq8 hB1 hB2)
    have hC := HPa.out w2 _ HV2.out
    unfold cellsT at hC
    have HC := Lib.hid hC
    generalize rest.length = nr at *
    clear hP1 hy1 hB1 hB2 hC
    go_upto_region 4 with fail
    rw [← hw2]
    clear hw2
    obtain ⟨d0, d1, d2, d3, d4⟩ := HT2.out.cells
    go_wp2_with fail
    with_reducible refine HC.out.mono ?_
    rintro e w3 ⟨u, rfl, hr3, hB3⟩
    obtain ⟨Al, cl, rfl, hcl, hcm, hat⟩ := hr3.at_ (fun b hb => hb.2)
    obtain ⟨g, A5, c5, rfl, hg, p0, p1, hnp⟩ := hat a HA.out.1
    obtain ⟨g', A6, c6, eg, -, q0, q1, hnq⟩ := hat b HA.out.2
    injection eg with eg
    injection eg with eg
    subst eg
    rw [← HN.out] at hcl ⊢
    obtain ⟨t1, t2, t3, t4, t5⟩ := HTo.out a HA.out.1
    obtain ⟨v1, v2, v3, v4, v5⟩ := HTo.out b HA.out.2
    have hab := HAp.out a b HA.out.1 HA.out.2
    generalize l[a]'HA.out.1 = pp at *
    generalize l[b]'HA.out.2 = qq at *
    obtain ⟨ps, pa⟩ := pp
    obtain ⟨qs, qa⟩ := qq
    dsimp only at p0 p1 q0 q1 hnp hnq t2 t3 t4 t5 v2 v3 v4 v5
    obtain ⟨wr1, wr2, wr3, wr4, wr5, wr6, -⟩ := HWr.out
    have HB3 := Lib.hid hB3
    have hn0 : ¬ (n : Int) = 0 := by have := HS.out; omega
    have hn1 : ((n : Int) == 0) = false := by have := HS.out; simp; omega
    have ha1 : (a : Int) < (n : Int) := by have := HA.out.1; rw [← HN.out] at this; omega
    have hb1 : (b : Int) < (n : Int) := by have := HA.out.2; rw [← HN.out] at this; omega
    have HP := Lib.hid (And.intro hnp (And.intro hnq (And.intro t1 (And.intro t2 (And.intro t3 (And.intro t4 t5))))))
    have HQ := Lib.hid (And.intro v2 (And.intro v3 (And.intro v4 v5)))
    have HAb := Lib.hid hab
    have HG := Lib.hid hg
    clear hr3 hat hnp hnq t1 t2 t3 t4 t5 v1 v2 v3 v4 v5 hB3 hab hg d0 d1 d2 d3 d4
    go_upto_region 8 with fail
    obtain ⟨w4, hw4⟩ : ∃ w4, w4 = w3.alloc (.cells #[.slice A5 ps.length c5, .int .i64 pa] 33) := ⟨_, rfl⟩
    have hB4 : Below w3.heap.size w3 w4 := by rw [hw4]; exact (Below.refl _ _).alloc (Nat.le_refl _) _
    have HX4 : Hid (PaBox w4 w3.heap.size (.slice A5 ps.length c5) pa) := Lib.hid (by rw [hw4]; unfold PaBox; exact blk_alloc_new _ _)
    rw [← hw4]
    clear hw4
    have HB4 := Lib.hid hB4
    have r0 := (HB4.out.cell (p := ⟨g, b * 2, none⟩) HG.out).trans q0
    have r1 := (HB4.out.cell (p := ⟨g, b * 2 + 1, none⟩) HG.out).trans q1
    clear p0 p1 q0 q1 hB4
    go_upto_region 9 with fail
    obtain ⟨w5, hw5⟩ : ∃ w5, w5 = w4.alloc (.cells #[.slice A6 qs.length c6, .int .i64 qa] 33) := ⟨_, rfl⟩
    have hB5 : Below w4.heap.size w4 w5 := by rw [hw5]; exact (Below.refl _ _).alloc (Nat.le_refl _) _
    have HY5 : Hid (PaBox w5 w4.heap.size (.slice A6 qs.length c6) qa) := Lib.hid (by rw [hw5]; unfold PaBox; exact blk_alloc_new _ _)
    rw [← hw5]
    clear hw5
    have HX5 := Lib.hid (HX4.out.on hB5 HX4.out.lt)
    have HC5 := Lib.hid (bseq8 HB4.out hB5)
    have HD5 := Lib.hid (bseq8 HB3.out HC5.out)
    have HNp := Lib.hid (HP.out.1.on HC5.out)
    have HNq := Lib.hid (HP.out.2.1.on HC5.out)
    have HAs := Lib.hid (fun X (hX : Below w5.heap.size w5 X) (z : Int) (hz : In64 z) => ask_any x _ X (.slice A5 ps.length c5) ps z (HV2.out.on (bseq8 HD5.out hX)) HFi.out (HNp.out.on hX) (fun k hk => ⟨by have := (HP.out.2.2.2.2.1 k hk); omega, by have := (HP.out.2.2.2.2.1 k hk); omega⟩) hz)
    have HLd := Lib.hid (leads_ask HP.out.2.2.1 HP.out.2.2.2.1)
    have hI : In64 pa := ⟨by have := HP.out.2.2.2.2.2; omega, by have := HP.out.2.2.2.2.2; omega⟩
    have hA5 := HAs.out w5 (Below.refl _ _) pa hI
    obtain ⟨l1, l2, l3, l4⟩ := HLd.out
    dsimp only at l1 l2 l3 l4
    have HAs2 := Lib.hid (fun X (hX : Below w5.heap.size w5 X) => HAs.out X hX (-1) ⟨by decide, by decide⟩)
    generalize askT x ps pa = r1' at *
    generalize askT x ps (-1) = r2' at *
    obtain ⟨⟨va, vb, vc, vd, ve⟩, er⟩ := r1'
    obtain ⟨⟨ua, ub, uc, ud, ue⟩, fr⟩ := r2'
    dsimp only at l1 l2 l3 l4
    subst l1 l2 l3
    have HL4 := Lib.hid l4
    unfold cellsT at hA5 HAs2
    have HA5 := Lib.hid hA5
    clear hA5 hI l4 hB5 r0 r1
    obtain ⟨d0, d1, d2, d3, d4⟩ := (HT2.out.on HD5.out).cells
    obtain ⟨x0, x1⟩ := HX5.out.cells
    go_wp2_with fail
    with_reducible refine HA5.out.mono ?_
    unfold VaR
    rintro e w6 ⟨rfl, hB6⟩
    unfold cellsV
    dsimp only
    obtain ⟨w7, hw7⟩ : ∃ w7, w7 = w6.alloc (.cells #[.int .i64 va, .int .i64 vb, .int .i64 vc, .int .i64 vd, .int .u64 ve] 55) := ⟨_, rfl⟩
    have hB7 : Below w6.heap.size w6 w7 := by rw [hw7]; exact (Below.refl _ _).alloc (Nat.le_refl _) _
    have HV7 : Hid (VBox w7 w6.heap.size ⟨va, vb, vc, vd, ve⟩) := Lib.hid (by rw [hw7]; exact VBox.new w6 ⟨va, vb, vc, vd, ve⟩)
    have HC7 := Lib.hid (bseq8 hB6 hB7)
    clear hB6 hB7 d0 d1 d2 d3 d4 x0 x1
    obtain ⟨d0, d1, d2, d3, d4⟩ := (HT2.out.on (bseq8 HD5.out HC7.out)).cells
    obtain ⟨x0, x1⟩ := (HX5.out.on HC7.out HX5.out.lt).cells
    go_upto_region 10 with fail
    rw [← hw7]
    clear hw7
    go_wp2_with fail
    with_reducible refine (HAs2.out w7 HC7.out).mono ?_
    unfold VaR
    rintro e w8 ⟨rfl, hB8⟩
    unfold cellsV
    dsimp only
    obtain ⟨w9, hw9⟩ : ∃ w9, w9 = w8.alloc (.cells #[.int .i64 va, .int .i64 ub, .int .i64 uc, .int .i64 ud, .int .u64 ue] 55) := ⟨_, rfl⟩
    have hB9 : Below w8.heap.size w8 w9 := by rw [hw9]; exact (Below.refl _ _).alloc (Nat.le_refl _) _
    have HV9 : Hid (VBox w9 w8.heap.size ⟨va, ub, uc, ud, ue⟩) := Lib.hid (by rw [hw9]; exact VBox.new w8 ⟨va, ub, uc, ud, ue⟩)
    have HC9 := Lib.hid (bseq8 hB8 hB9)
    have HD9 := Lib.hid (bseq8 HC7.out HC9.out)
    clear hB8 hB9 d0 d1 d2 d3 d4 x0 x1
    go_upto_region 11 with fail
    rw [← hw9]
    clear hw9
    obtain ⟨S, hS⟩ : ∃ S, S = (decide (pa = qa) && sameN ps qs) := ⟨_, rfl⟩
    have HSe := Lib.hid hS
    have HSs : Hid (S = decide (a = b)) := Lib.hid (by
      rw [hS, Bool.eq_iff_iff]
      unfold sameN
      simp only [Bool.and_eq_true, decide_eq_true_eq]
      rw [← HAb.out, Prod.mk.injEq]
      exact And.comm)
    have HSm := Lib.hid (rsame_any (.slice A5 ps.length c5) (.slice A6 qs.length c6) ps qs w9.heap.size w9.heap.size w9 (HNp.out.on HD9.out) (HNq.out.on HD9.out) (by have := HP.out.2.2.2.1; omega))
    obtain ⟨x0, x1⟩ := (HX5.out.on HD9.out HX5.out.lt).cells
    obtain ⟨y0, y1⟩ := (HY5.out.on HD9.out HY5.out.lt).cells
    clear hS
    go_cut [16] (fun z wx => z = .bool S ∧ Below w9.heap.size w9 wx)
    case first =>
      by_cases hpq : pa = qa
      · subst hpq
        have f1 : (pa == pa) = true := by simp
        have hs2 : sameN ps qs = S := by rw [HSe.out]; simp
        rw [hs2] at HSm
        clear hs2
        go_wp2_with fail
        with_reducible refine HSm.out.mono ?_
        rintro e w10 ⟨rfl, hB10⟩
        go_wp2_with fail
        go_meet
        exact ⟨by first | rfl | (cases S <;> rfl), hB10⟩
      · have f1 : (pa == qa) = false := by simpa using hpq
        have hs2 : S = false := by rw [HSe.out]; simp [hpq]
        clear hpq
        go_wp2_with fail
        go_meet
        exact ⟨by rw [hs2], Below.refl _ _⟩
    case rest =>
      obtain ⟨rfl, hB10⟩ := hcut
      have HB10 := Lib.hid (bseq8 HD9.out hB10)
      have HC10 := Lib.hid hB10
      have HOf := Lib.hid (rof_none (.slice A5 ps.length c5) pa 1 A5 ps.length c5 wc rfl)
      clear hB10 x0 x1 y0 y1
      obtain ⟨x0, x1⟩ := (HX5.out.on HB10.out HX5.out.lt).cells
      go_wp2_with fail
      with_reducible refine HOf.out.mono ?_
      rintro e w11 ⟨⟨o1, o2, o3, o4, o5⟩, rfl, hB11⟩
      unfold cellsV
      dsimp only
      obtain ⟨w12, hw12⟩ : ∃ w12, w12 = w11.alloc (.cells #[.int .i64 o1, .int .i64 o2, .int .i64 o3, .int .i64 o4, .int .u64 o5] 55) := ⟨_, rfl⟩
      have hB12 : Below w11.heap.size w11 w12 := by rw [hw12]; exact (Below.refl _ _).alloc (Nat.le_refl _) _
      have HC12 := Lib.hid (bseq8 HC10.out (bseq8 hB11 hB12))
      have HD12 := Lib.hid (bseq8 HD9.out HC12.out)
      have HB12 := Lib.hid (bseq8 HB2.out (bseq8 HD5.out HD12.out))
      clear hB11 hB12 x0 x1
      go_upto_region 13 with fail
      rw [← hw12]
      clear hw12
      have HXx := Lib.hid (HX5.out.on HD12.out HX5.out.lt)
      have HVv := Lib.hid (HV7.out.on (bseq8 HC9.out HC12.out))
      have HWw := Lib.hid (HV9.out.on HC12.out)
      have HE0 : Hid (∀ X, Below w12.heap.size w12 X → X.cell? ⟨w6.heap.size, 0, none⟩ = some (.int .i64 va) ∧ X.cell? ⟨w8.heap.size, 0, none⟩ = some (.int .i64 va) ∧ X.cell? ⟨w8.heap.size, 2, none⟩ = some (.int .i64 uc) ∧ X.cell? ⟨w3.heap.size, 1, none⟩ = some (.int .i64 pa)) := Lib.hid (fun X hX => by
        obtain ⟨g1, -, -, -, -⟩ := (HVv.out.on hX).cells
        obtain ⟨g2, -, g3, -, -⟩ := (HWw.out.on hX).cells
        exact ⟨g1, g2, g3, (HXx.out.on hX HXx.out.lt).cells.2⟩)
      have HKn := Lib.hid (HK.out w12.drew (HB12.out.drew))
      have HM0 := Lib.hid (HE0.out w12.drew ((Below.refl _ _).drew))
      have hd1 : decide (pa < uc) = true := decide_eq_true HL4.out
      have hd2 : (S == ((a : Int) == (b : Int))) = true := by
        have := HSs.out
        by_cases hab : a = b
        · subst hab; simp at this; subst this; simp
        · have h2 : ((a : Int) == (b : Int)) = false := by simp; omega
          rw [h2, this]
          simp [hab]
      have hd3 : (va == va) = true := by simp
      obtain ⟨wr1, wr2, wr3, wr4, wr5, wr6, wr7, wr8, wr9, wr10⟩ := HWr.out
      have hn2 : ((n : Int) = 0) = False := eq_false (by have := HS.out; omega)
      have hn4 : ((n : Int) == 0) = false := by have := HS.out; simp; omega
      have hn5 : (0 : Int) < (n : Int) := by have := HS.out; omega
      have hn3 : decide ((n : Int) = 0) = false := decide_eq_false (by have := HS.out; omega)
      go_region_held_law (fun w' => w'.cell? ⟨w6.heap.size, 0, none⟩ = some (.int .i64 va) ∧ w'.cell? ⟨w8.heap.size, 0, none⟩ = some (.int .i64 va) ∧ w'.cell? ⟨w8.heap.size, 2, none⟩ = some (.int .i64 uc) ∧ w'.cell? ⟨w3.heap.size, 1, none⟩ = some (.int .i64 pa)) (with_reducible first | exact HM0.out | exact HM1.out) (first
        | (go_at_call 11; with_reducible refine HKn.out.mono ?_; intro e w13 hR; obtain ⟨he13, hB13⟩ := hR; subst he13; have HF : Hid (Below w12.heap.size w12 w13) := Lib.hid (below_behind hB13); have HM1 := Lib.hid (HE0.out w13 HF.out); clear hB13))
      all_goals go_wp2_with fail
      all_goals go_ret
      all_goals exact ⟨rfl, bseq8 HB12.out HF.out⟩

end Go.Proofs.YtdfldfnjjjcleaaDoor
