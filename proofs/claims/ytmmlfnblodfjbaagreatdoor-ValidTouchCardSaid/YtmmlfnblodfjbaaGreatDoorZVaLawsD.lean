/-
  Layer 11: the law ValidTouch, given what the four calls pay.
-/
import Derived.Test.YtmmlfnblodfjbaaGreatDoorZVaK
import Derived.Test.YtmmlfnblodfjbaaGreatDoorZGenZ
import Derived.Test.YtmmlfnblodfjbaaGreatDoorZRsC
import Derived.Test.YtmmlfnblodfjbaaGreatDoorZAr
import Derived.Test.YtmmlfnblodfjbaaGreatDoorZCut
import Derived.Deep.RegionHeldLaw

namespace Go.Proofs.YtmmlfnblodfjbaaGreatDoor
open Go.RowKit Go.Deep

def stepsD (d : List Int) (t : Nat) : List Int := (d.take t).map (fun x => x % 5)
theorem stepsD_len {d : List Int} {t : Nat} (h : t ≤ d.length) : (stepsD d t).length = t := by simp [stepsD]; omega
theorem stepsD_next {d : List Int} {t : Nat} (h : t < d.length) : stepsD d (t + 1) = stepsD d t ++ [d[t]?.getD 0 % 5] := by
  unfold stepsD
  rw [List.take_add_one, List.getElem?_eq_getElem h, List.map_append]
  rfl
theorem stepsD_64 {d : List Int} {t : Nat} : All64 (stepsD d t) := by
  intro k hk
  obtain ⟨x, _, rfl⟩ := List.mem_map.1 hk
  exact ⟨by omega, by omega⟩
theorem nextD {j n : Nat} (h : j < n) (hn : n ≤ 5) : wrap64 ((j : Int) + 1) = ((j + 1 : Nat) : Int) := by unfold wrap64; omega
theorem nextX {x y : Int} (h0 : 0 ≤ x) (h : x < y) (hn : y ≤ 4096) : wrap64 (x + 1) = x + 1 := by unfold wrap64; omega
theorem nextT {t n : Nat} (h : t < n) (hn : n ≤ 100) : wrap64 ((t : Int) + 1) = ((t + 1 : Nat) : Int) := by unfold wrap64; omega
theorem wrapY {y : Int} (h : 0 ≤ y ∧ y ≤ 255) : y.tmod 5 = y % 5 ∧ IntKind.u8.wrap (y % 5) = y % 5 ∧ IntKind.i64.wrap (y % 5) = y % 5 ∧ y % 5 = y % 5 :=
  ⟨Int.tmod_eq_emod_of_nonneg h.1, by rw [IntKind.wrap_u8]; omega, IntWalk.i64_in _ (by omega), rfl⟩
theorem measD {j n : Nat} (h : j < n) (hn : n ≤ 5) : n - (wrap64 ((j : Int) + 1)).toNat < n - ((j : Int)).toNat := by rw [nextD h hn]; omega
theorem measT {j n : Nat} (h : j < n) (hn : n ≤ 100) : n - (wrap64 ((j : Int) + 1)).toNat < n - ((j : Int)).toNat := by rw [nextT h hn]; omega
theorem measX {x s2 : Int} (e : wrap64 (x + 1) = x + 1) (h : x < s2) : (s2 - wrap64 (x + 1)).toNat < (s2 - x).toNat := by rw [e]; omega
theorem RightL.sRight {l : List Sp} (h : RightL l) : rightB l = true := rightB_iff.2 h
/-- what is built of choices in one segment -/
theorem one_built {c : List Int} (hc : c.length ≤ 100) (hb : InB c) : ∃ l, buildT (treeC 6 c).1 4096 = ([l], 0) ∧ AllU [l] ∧ 1 ≤ l.length ∧ l.length ≤ 4096 := by
  have hr : rightT (treeC 6 c).1 = true := deepB_mono _ 6 32 (by omega) (treeC_fine 6 c).1
  have hn := (treeC_fine 6 c).2.2
  obtain ⟨l, h1, h2⟩ := build_one (sz := 4096) hr (by omega) (by omega) (by omega)
  have h1' : buildT (treeC 6 c).1 4096 = ([l], 0) := h1
  refine ⟨l, h1', ?_, by omega, by omega⟩
  have := build_ub (treeC_ub 6 c hb).1 4096
  rw [h1'] at this
  exact this
/-- what a path touches in one segment -/
theorem touch_one {l : List Int} {ks : List Int} {i : Int} (h : (touchV [l] ks i).2 = 0) :
    RightL (touchV [l] ks i).1 ∧ (∀ s ∈ (touchV [l] ks i).1, 0 ≤ s.1 ∧ s.1 < s.2 ∧ s.2 ≤ l.length) ∧ inS (touchV [l] ks i).1 0 = true ∧ 0 < (touchV [l] ks i).1.length := by
  have hr : RightL (touchV [l] ks i).1 := by
    rw [touch_err] at h
    unfold touchV
    rw [if_neg (fun e => e h)]
    exact norm_right _
  have h0 := touch_first h
  refine ⟨hr, fun s hs => ?_, inS_iff.2 h0, ?_⟩
  · have h1 := hr.1 s hs
    have a1 := touch_last h s.1 ⟨s, hs, by omega, by omega⟩
    have a2 := touch_last h (s.2 - 1) ⟨s, hs, by omega, by omega⟩
    omega
  · obtain ⟨s, hs, -⟩ := h0
    exact List.length_pos_of_mem hs
theorem touch_bad {ls : List (List Int)} {ks : List Int} {i : Int} (h : (touchV ls ks i).2 ≠ 0) : (touchV ls ks i).1 = [] := by
  rw [touch_err] at h
  unfold touchV
  rw [if_pos h]
theorem wrapsT {k n m : Nat} (hk : k ≤ 255) (hm : m = k % (n + 1)) (hn : n ≤ 5) : IntKind.i64.wrap (k : Int) = k ∧ IntKind.i64.wrap ((n : Int) + 1) = (n : Int) + 1 ∧ (k : Int) % ((n : Int) + 1) = (m : Int) ∧ (k : Int).tmod ((n : Int) + 1) = (m : Int) ∧ wrap64 (k : Int) = k ∧ m ≤ n := by
  subst hm
  have e : (k : Int).tmod ((n : Int) + 1) = ((k % (n + 1) : Nat) : Int) := by rw [Int.tmod_eq_emod_of_nonneg (by omega)]; simp
  have hlt : k % (n + 1) < n + 1 := Nat.mod_lt _ (by omega)
  exact ⟨IntWalk.i64_in _ (by omega), IntWalk.i64_in _ (by omega), by simp, e, by unfold wrap64; omega, by omega⟩

set_option maxRecDepth 100000 in
set_option maxHeartbeats 8000000 in
theorem touch11_walk (H : ValidOK) (c d : List Int) (vc vd : Value) (k q : Nat) (w : World) (hc : Bytes w w.heap.size vc c) (hcb : AllB c) (hd : Bytes w w.heap.size vd d) (hdb : AllB d) (hk : k ≤ 255) (hq : q ≤ 255) (L : Laid w) :
    Calls Tryz.prog 8 #[vc, vd, .int .u8 k, .int .u8 q] w fun e w' => e = .returned (.bool true) ∧ Below w.heap.size w w' := by
  have HK := Lib.hid (fun X (hX : Below w.heap.size w X) => known11_any H X (L.on hX))
  have HD := Lib.hid (fun X (hX : Below w.heap.size w X) => hd.on hX)
  have HDb := Lib.hid hdb
  have HL := Lib.hid L
  have HH := Lib.hid H
  have HKq := Lib.hid (And.intro hk hq)
  obtain ⟨Ac, cc, rfl⟩ := hc.form rfl
  obtain ⟨Ad, cd, hdm, hdr⟩ : ∃ A c, vd = .slice A d.length c ∧ True := by
    obtain ⟨A, c, e⟩ := hd.form rfl
    exact ⟨A, c, e, trivial⟩
  subst hdm
  obtain ⟨ld, hld⟩ : ∃ n, n = d.length := ⟨_, rfl⟩
  have HLd := Lib.hid hld
  rw [← hld] at HD ⊢
  by_cases hlen : 100 < c.length
  · have hlen2 : (100 : Int) < (c.length : Int) := by omega
    generalize c.length = len at *
    clear hc hcb hd hdb hk hq L hlen hld hdr H
    go_enter Tryz.func8, Tryz.ntmps8
    go_wp2_with fail
    refine (HK.out w (Below.refl _ _)).mono ?_
    rintro e w2 ⟨rfl, hB2⟩
    go_wp2_with fail
    go_ret
    exact ⟨rfl, hB2⟩
  · have hlen2 : ¬ (100 : Int) < (c.length : Int) := by omega
    obtain ⟨l, hl1, hl2, hl3, hl4⟩ := one_built (c := c) (by omega) hcb
    have HTr := Lib.hid (tree_all 6 (by omega) c _ w w.heap.size (Nat.le_refl _) hc hcb)
    generalize (treeC 6 c).1 = t at *
    generalize (treeC 6 c).2 = rest at *
    have HBz := Lib.hid (fun X v (hv : TrV X X.heap.size t v) => rbuild_any t v 4096 X hv)
    rw [hl1] at HBz
    have HU := Lib.hid hl2
    have HLl := Lib.hid (And.intro hl3 hl4)
    generalize c.length = len at *
    clear hc hcb hd hdb hk hq L hlen hld hdr H hl1 hl2 hl3 hl4
    go_enter Tryz.func8, Tryz.ntmps8
    go_wp2_with fail
    refine HTr.out.mono ?_
    rintro e w1 ⟨x', y', rfl, hP1, hy1, hB1⟩
    obtain ⟨Ay, cy, rfl⟩ := hy1.form rfl
    obtain ⟨k2, zz2, A1, n1, c1, A2, n2, c2, A3, n3, c3, rfl⟩ := hP1.parts
    unfold cellsT
    dsimp only
    obtain ⟨w2, hw2⟩ : ∃ w2, w2 = w1.alloc (.cells #[.int .i64 k2, .int .i64 zz2, .slice A1 n1 c1, .slice A2 n2 c2, .slice A3 n3 c3] 34) := ⟨_, rfl⟩
    have hB2 : Below w1.heap.size w1 w2 := by rw [hw2]; exact (Below.refl _ _).alloc (Nat.le_refl _) _
    have HT2 : Hid (TBox w2 w1.heap.size k2 zz2 (.slice A1 n1 c1) (.slice A2 n2 c2) (.slice A3 n3 c3)) := Lib.hid (by rw [hw2]; exact TBox.new _ _ _ _ _ _)
    have HV2 := Lib.hid ((TrP.trV (fun b hb => hb.2) _ _ hP1).on hB2)
    have HB2 := Lib.hid (bseqS hB1 hB2)
    generalize rest.length = nr at *
    clear hP1 hy1 hB1 hB2
    go_upto_region 4 with fail
    rw [← hw2]
    clear hw2
    obtain ⟨d0, d1, d2, d3, d4⟩ := HT2.out.cells
    have hC := HBz.out w2 _ HV2.out
    unfold cellsT at hC
    have HC := Lib.hid hC
    clear hC
    go_wp2_with fail
    with_reducible refine HC.out.mono ?_
    rintro e w3 ⟨Aa, na, ca, rfl, ha3, hB3⟩
    have HA3 := Lib.hid ha3
    have HB3 := Lib.hid (bseqS HB2.out hB3)
    clear ha3 hB3 d0 d1 d2 d3 d4
    obtain ⟨n5, hn5⟩ : ∃ n, n = min ld 5 := ⟨_, rfl⟩
    have HN5 := Lib.hid hn5
    clear hn5
    go_wp2_with fail
    go_loopw [13, 14] (fun s ii wr => ∃ t : Nat, t ≤ n5 ∧ ii = .int .i64 t ∧ OwnI wr w3.heap.size s (stepsD d t) ∧ Below w3.heap.size w3 wr) (fun _ ii _ => n5 - (intOf ii).toNat)
    case atStart => exact ⟨0, by omega, rfl, OwnI.nil _ _, Below.refl _ _⟩
    case round =>
      obtain ⟨j, hj, rfl, ho, hBr⟩ := hrel
      generalize wr = wa at *
      have HO := Lib.hid ho
      have HBr := Lib.hid hBr
      have HJ := Lib.hid hj
      obtain ⟨As, cs, rfl⟩ : ∃ A c, u13 = .slice A j c := by
        obtain ⟨A, c', e, _⟩ := ho.numS
        rw [stepsD_len (by have := HN5.out; have := HLd.out; omega)] at e
        exact ⟨A, c', e⟩
      obtain ⟨C, hC⟩ : ∃ C, C = decide (j < n5) := ⟨_, rfl⟩
      have HC2 := Lib.hid hC
      clear ho hBr hj hC
      go_upto_region 9 with fail
      go_cut [46] (fun x wx => x = .bool C ∧ wa = wx)
      case first =>
        by_cases e1 : j < ld
        · have i1 : (j : Int) < (ld : Int) := by omega
          by_cases e2 : j < 5
          · have i2 : (j : Int) < 5 := by omega
            have hCt : C = true := by rw [HC2.out]; exact decide_eq_true (by have := HN5.out; omega)
            go_wp2_with fail
            go_meet
            exact ⟨by rw [hCt], rfl⟩
          · have i2 : ¬ (j : Int) < 5 := by omega
            have hCt : C = false := by rw [HC2.out]; exact decide_eq_false (by have := HN5.out; omega)
            go_wp2_with fail
            go_meet
            exact ⟨by rw [hCt], rfl⟩
        · have i1 : ¬ (j : Int) < (ld : Int) := by omega
          have hCt : C = false := by rw [HC2.out]; exact decide_eq_false (by have := HN5.out; omega)
          go_wp2_with fail
          go_meet
          exact ⟨by rw [hCt], rfl⟩
      case rest =>
        obtain ⟨rfl, rfl⟩ := hcut
        by_cases hlt : j < n5
        · obtain rfl : C = true := by rw [HC2.out]; exact decide_eq_true hlt
          have hjd : j < ld := by have := HN5.out; omega
          have i1 : (j : Int) < (ld : Int) := by omega
          obtain ⟨A9, c9, e9, -, -, hr9⟩ := HD.out wa (bseqS HB3.out HBr.out)
          obtain ⟨b, off, ea, hbl, hcell⟩ := hr9 (by rw [← HLd.out]; omega)
          rw [← HLd.out] at e9
          injection e9 with e91 e92 e93
          subst e91 ea
          have p1 := hcell j (by rw [← HLd.out]; exact hjd)
          have hy := HDb.out (d[j]?.getD 0) (by rw [List.getElem?_eq_getElem (by rw [← HLd.out]; exact hjd)]; exact List.getElem_mem _)
          have HE : Hid (stepsD d (j + 1) = stepsD d j ++ [d[j]?.getD 0 % 5]) := Lib.hid (stepsD_next (by rw [← HLd.out]; exact hjd))
          have HLn : Hid ((stepsD d j).length = j) := Lib.hid (stepsD_len (by rw [← HLd.out]; omega))
          generalize d[j]?.getD 0 = y at *
          obtain ⟨y5, hy5⟩ : ∃ z, z = y % 5 := ⟨_, rfl⟩
          rw [← hy5] at HE
          have HY5 : Hid (y.tmod 5 = y5 ∧ IntKind.u8.wrap y5 = y5 ∧ IntKind.i64.wrap y5 = y5 ∧ y % 5 = y5) := Lib.hid (by rw [hy5]; exact wrapY hy)
          obtain ⟨v', w', hrun, ho', hg⟩ := append_int wa w3.heap.size 45 _ _ y5 HO.out (by rw [HLn.out]; have := HN5.out; omega) HBr.out.size
          rw [← HE.out] at ho'
          have HRun := Lib.hid hrun
          have HR : Hid (OwnI w' w3.heap.size v' (stepsD d (j + 1)) ∧ Below w3.heap.size w3 w') := Lib.hid ⟨ho', (HBr.out.alloc HBr.out.size _).grown hg (by have := HBr.out.size; simp; omega) (fun k e => (World.ownsRow.lt HO.out k e).1)⟩
          have HJt := Lib.hid hlt
          have hn5b : n5 ≤ 5 := by have := HN5.out; omega
          clear hrun ho' hg hr9 hcell hbl e92 e93 hlt hy5
          obtain ⟨m0, m1, m2, m3⟩ := HY5.out
          go_wp2_with (at_builtin; refine Lib.wpList_append_run _ rfl _ _ _ _ rfl _ _ rfl rfl _ _ HRun.out ?_)
          go_roundw
          case rel => exact ⟨j + 1, by have := HJt.out; clear hn5b m0 m1 m2 m3; omega, by clear m0 m1 m2 m3; rw [nextD HJt.out hn5b], HR.out.1, HR.out.2⟩
          case measure =>
            have h1 := measD HJt.out hn5b
            generalize wrap64 ((j : Int) + 1) = z at *
            as_aux_lemma => exact h1
        · obtain rfl : C = false := by rw [HC2.out]; exact decide_eq_false hlt
          obtain rfl : j = n5 := by have := HJ.out; omega
          have hn5b : j ≤ 5 := by have := HN5.out; omega
          have HD64 := Lib.hid (stepsD_64 (d := d) (t := j))
          have HDl : Hid ((stepsD d j).length = j) := Lib.hid (stepsD_len (by have := HN5.out; have := HLd.out; omega))
          generalize stepsD d j = D at *
          obtain ⟨hk, hq⟩ := HKq.out
          obtain ⟨i, hi⟩ : ∃ i, i = (q : Int) - 1 := ⟨_, rfl⟩
          have h64 : In64 i := ⟨by omega, by omega⟩
          have HO3 := Lib.hid (HO.out.numS)
          have HB4 := Lib.hid (bseqS HB3.out HBr.out)
          have HA4 := Lib.hid (HA3.out.on HBr.out)
          have HTc := Lib.hid (HH.out.touched _ _ [l] D i wa (HL.out.on HB4.out) HA4.out (by simp) HU.out HO3.out HD64.out h64)
          obtain ⟨m, hm⟩ : ∃ m, m = k % (j + 1) := ⟨_, rfl⟩
          have hm2 := hm
          have t6 : m ≤ j := by rw [hm]; exact Nat.le_of_lt_succ (Nat.mod_lt _ (by omega))
          have HT6 := Lib.hid t6
          have HF := Lib.hid (HO3.out.front HDl.out t6)
          have hmc : m ≤ cs := by
            obtain ⟨A9, c9, e9, hc9, -, -⟩ := HO3.out
            rw [HDl.out] at hc9
            injection e9 with e91 e92 e93
            omega
          have hmi : (m : Int) ≤ (cs : Int) := by omega
          have HF64 : Hid (All64 (D.take m)) := Lib.hid (fun x hx => HD64.out x (List.mem_of_mem_take hx))
          have HTd := Lib.hid (fun X (hX : Below wa.heap.size wa X) => HH.out.touched _ _ [l] (D.take m) (-1) X (HL.out.on (bseqS HB4.out hX)) (HA4.out.on hX) (by simp) HU.out (HF.out.on hX) HF64.out ⟨by decide, by decide⟩)
          have HTm := Lib.hid (fun h => touch_front (ls := [l]) (ks := D) (i := i) h m)
          have HTo := Lib.hid (fun h => touch_one (l := l) (ks := D) (i := i) h)
          have HTq := Lib.hid (fun h => touch_one (l := l) (ks := D.take m) (i := -1) h)
          have HTb := Lib.hid (fun h => touch_bad (ls := [l]) (ks := D) (i := i) h)
          have HTn := Lib.hid (touch_len [l] D i)
          have HTn2 := Lib.hid (touch_len [l] (D.take m) (-1))
          have HOf := Lib.hid (fun X (hX : Below wa.heap.size wa X) => rof_any _ [l] _ D i 8192 X (HA4.out.on hX) (by simp) HU.out (HO3.out.on hX) HD64.out h64 ⟨by decide, by decide⟩)
          have HTe := Lib.hid (touch_err [l] D i)
          obtain ⟨T, hT⟩ : ∃ T, T = touchV [l] D i := ⟨_, rfl⟩
          obtain ⟨T2, hT2⟩ : ∃ T, T = touchV [l] (D.take m) (-1) := ⟨_, rfl⟩
          rw [← hT] at HTc HTm HTo HTb HTn HTe
          rw [← hT2] at HTd HTm HTn2 HTq
          have HLt : Hid ((D.take m).length = m) := Lib.hid (by rw [List.length_take, HDl.out]; omega)
          rw [HLt.out] at HTn2
          rw [HDl.out] at HTn
          have hi2 : (q : Int) - 1 = i := hi.symm
          clear hT hT2 hi h64 hm
          obtain ⟨t1, t2, t3, t4, -, -⟩ := wrapsT hk hm2 hn5b
          clear hm2
          go_wp2_with fail
          with_reducible refine HTc.out.mono ?_
          rintro e w5 ⟨u, rfl, hsp, hB5⟩
          obtain ⟨A5, c5, rfl⟩ := hsp.form rfl
          have HS5 := Lib.hid hsp
          have HB5 := Lib.hid hB5
          clear hsp hB5
          go_wp2_with fail
          with_reducible refine (HTd.out w5 HB5.out).mono ?_
          rintro e w6 ⟨u, rfl, hsp, hB6⟩
          obtain ⟨A6, c6, rfl⟩ := hsp.form rfl
          have HS6 := Lib.hid hsp
          have HS5 := Lib.hid (HS5.out.on hB6)
          have HC6 := Lib.hid (bseqS HB5.out hB6)
          have HB6 := Lib.hid (bseqS HB4.out HC6.out)
          clear hsp hB6 t1 t2 t3 t4 t6 hmc hmi
          by_cases hz : T.2 = 0
          · rw [hz]
            obtain ⟨hT2, hsub⟩ := HTm.out hz
            rw [hT2]
            obtain ⟨hr, hbd, hin0, hpos⟩ := HTo.out hz
            have HBd2 := Lib.hid (HTq.out hT2).2.1
            have HSub : Hid (∀ x, places T2.1 x → inS T.1 x = true) := Lib.hid (fun x hx => inS_iff.2 (hsub x hx))
            have HE8 : Hid ((ofV [l] D i 8192).2 = 0) := Lib.hid (by rw [← HTe.out]; exact hz)
            have HR := Lib.hid (And.intro hr hbd)
            have HIn0 := Lib.hid hin0
            have HPos := Lib.hid hpos
            obtain ⟨n2, hn2⟩ : ∃ n, n = T2.1.length := ⟨_, rfl⟩
            obtain ⟨n1, hn1⟩ : ∃ n, n = T.1.length := ⟨_, rfl⟩
            have HN2 := Lib.hid hn2
            have HN1' := Lib.hid hn1
            have HNb : Hid (n2 ≤ 100 ∧ n1 ≤ 100 ∧ 0 < n1) := Lib.hid (by have := HTn.out; have := HTn2.out; have := HT6.out; omega)
            rw [← hn2, ← hn1]
            have HHas := Lib.hid (fun X (hX : Below w6.heap.size w6 X) n => has11_any _ T.1 n X.heap.size X (HS5.out.on hX))
            rw [← hn1] at HHas
            clear hz hT2 hsub hr hbd hin0 hpos hn2 hn1 HTm HTo HTq HTb HTe HTc
            go_wp2_with fail
            go_loopw [19] (fun ii wr => ∃ t : Nat, t ≤ n2 ∧ ii = .int .i64 t ∧ w6 = wr) (fun ii _ => n2 - (intOf ii).toNat)
            case atStart => exact ⟨0, by omega, rfl, rfl⟩
            case round =>
              obtain ⟨t, ht, rfl, rfl⟩ := hrel
              by_cases hlt : t < n2
              · have i1 : (t : Int) < (n2 : Int) := by omega
                obtain ⟨A9, c9, e9, -, -, hr9⟩ := HS6.out.parts
                rw [← HN2.out] at e9
                injection e9 with e91 e92 e93
                subst e91
                obtain ⟨b, off, rfl, hcell⟩ := hr9 (by rw [← HN2.out]; omega)
                obtain ⟨p0, p1⟩ := hcell t (by rw [← HN2.out]; exact hlt)
                have HM : Hid (T2.1[t]?.getD (0, 0) ∈ T2.1) := Lib.hid (by rw [List.getElem?_eq_getElem (by rw [← HN2.out]; exact hlt)]; exact List.getElem_mem _)
                have HBs := Lib.hid (HBd2.out _ HM.out)
                generalize T2.1[t]?.getD (0, 0) = s at *
                obtain ⟨s1, s2⟩ := s
                dsimp only at p0 p1 HBs
                have HBs2 : Hid (s2 ≤ 4096) := Lib.hid (by have := HBs.out; have := HLl.out; omega)
                have HLt2 := Lib.hid hlt
                have HNb2 : Hid (n2 ≤ 100) := Lib.hid HNb.out.1
                clear hr9 hcell e92 e93 hlt
                go_wp2_with fail
                go_loopw [20] (fun pp wr => ∃ x : Int, pp = .int .i64 x ∧ s1 ≤ x ∧ x ≤ s2 ∧ w6 = wr) (fun pp _ => (s2 - intOf pp).toNat)
                case atStart => exact ⟨s1, rfl, by omega, by have := HBs.out; omega, rfl⟩
                case round =>
                  obtain ⟨x, rfl, hx1, hx2, rfl⟩ := hrel
                  by_cases hxl : x < s2
                  · have HHx := Lib.hid (HHas.out w6 (Below.refl _ _) x)
                    have hin : inS T.1 x = true := HSub.out x ⟨_, HM.out, hx1, hxl⟩
                    rw [hin] at HHx
                    have HNx : Hid (wrap64 (x + 1) = x + 1) := Lib.hid (nextX (by have := HBs.out; omega) hxl HBs2.out)
                    clear hin
                    go_wp2_with fail
                    with_reducible refine HHx.out.mono ?_
                    rintro e wx ⟨rfl, rfl⟩
                    go_wp2_with fail
                    go_roundw
                    case rel => exact ⟨x + 1, by first | rfl | rw [HNx.out], by omega, by omega, by first | rfl | trivial⟩
                    case measure =>
                      have h1 := measX HNx.out hxl
                      generalize wrap64 (x + 1) = z at *
                      as_aux_lemma => exact h1
                  · obtain rfl : x = s2 := by omega
                    have hx3 : ¬ x < x := by omega
                    have HNt : Hid (wrap64 ((t : Int) + 1) = ((t + 1 : Nat) : Int)) := Lib.hid (nextT HLt2.out HNb2.out)
                    go_wp2_with fail
                    go_roundw
                    case rel => exact ⟨t + 1, by have := HLt2.out; omega, by first | rfl | rw [HNt.out], by first | rfl | trivial⟩
                    case measure =>
                      have h1 := measT HLt2.out HNb2.out
                      generalize wrap64 ((t : Int) + 1) = z at *
                      as_aux_lemma => exact h1
              · obtain rfl : t = n2 := by omega
                have i1 : ¬ (t : Int) < (t : Int) := by omega
                have hOf := HOf.out w6 HC6.out
                have h0 := HE8.out
                generalize ofV [l] D i 8192 = V at *
                obtain ⟨⟨va, vb, vc, vd, ve⟩, er⟩ := V
                dsimp only at h0
                subst h0
                unfold VaJ cellsV at hOf
                dsimp only at hOf
                have HOf6 := Lib.hid hOf
                clear hOf
                go_wp2_with fail
                with_reducible refine HOf6.out.mono ?_
                intro e w7 hR
                obtain ⟨he, hB7⟩ := hR
                subst he
                obtain ⟨w8, hw8⟩ : ∃ w8, w8 = w7.alloc (.cells #[.int .i64 va, .int .i64 vb, .int .i64 vc, .int .i64 vd, .int .u64 ve] 54) := ⟨_, rfl⟩
                have hB8 : Below w7.heap.size w7 w8 := by rw [hw8]; exact (Below.refl _ _).alloc (Nat.le_refl _) _
                have HC8 := Lib.hid (bseqS hB7 hB8)
                have HB8 := Lib.hid (bseqS HB6.out HC8.out)
                have hA8 := HA4.out.on (bseqS HC6.out HC8.out)
                have HS8 := Lib.hid (HS5.out.on HC8.out)
                obtain ⟨N, hN⟩ : ∃ N, n1 = N + 1 := ⟨n1 - 1, by have := HNb.out; omega⟩
                have hNn : N < T.1.length := by rw [← HN1'.out]; omega
                obtain ⟨A9, c9, e9, -, -, hr9⟩ := HS8.out
                rw [← HN1'.out] at e9
                injection e9 with e91 e92 e93
                subst e91
                obtain ⟨b, off, rfl, hbl, hcell⟩ := hr9 (by omega)
                obtain ⟨-, p1⟩ := hcell N hNn
                have HM : Hid (T.1[N]?.getD (0, 0) ∈ T.1) := Lib.hid (by rw [List.getElem?_eq_getElem hNn]; exact List.getElem_mem _)
                have HBs := Lib.hid (HR.out.2 _ HM.out)
                generalize T.1[N]?.getD (0, 0) = s at *
                obtain ⟨s1, y⟩ := s
                dsimp only at p1 HBs
                obtain ⟨A7, c7, e7, -, -, hr7⟩ := hA8
                obtain ⟨g, og, ea, hg, hcell7⟩ := hr7 (by simp)
                injection e7 with e71 e72 e73
                obtain rfl : na = 1 := e72
                subst e71 ea
                obtain ⟨sg, r0, rN⟩ := hcell7 0 (by simp)
                simp only [List.getElem?_cons_zero, Option.getD_some] at rN
                obtain ⟨A3', c3', rfl⟩ := rN.form rfl
                have HCel : Hid (∀ X, Below w8.heap.size w8 X → X.cell? ⟨b, off + N * 2 + 1, none⟩ = some (.int .i64 y) ∧ X.cell? ⟨g, og, none⟩ = some (.slice A3' l.length c3')) := Lib.hid (fun X hX => ⟨(hX.cell (p := ⟨b, off + N * 2 + 1, none⟩) hbl).trans p1, (hX.cell (p := ⟨g, og, none⟩) hg).trans r0⟩)
                have HRr := Lib.hid (fun X (hX : Below w8.heap.size w8 X) => rright_any _ T.1 X.heap.size X (HS8.out.on hX) (fun s hs => by have := HR.out.2 s hs; have := HLl.out; omega) (by rw [← HN1'.out]; have := HNb.out; omega))
                have HHs := Lib.hid (fun X (hX : Below w8.heap.size w8 X) => HHas.out X (bseqS HC8.out hX) 0)
                have HKn := Lib.hid (fun X (hX : Below w8.heap.size w8 X) => HK.out X (HB8.out.trans (hX.mono HB8.out.size)))
                rw [HR.out.1.sRight, ← HN1'.out] at HRr
                rw [HIn0.out] at HHs
                have d1 : decide (y ≤ (l.length : Int)) = true := decide_eq_true HBs.out.2.2
                have d2 : IntKind.i64.wrap ((n1 : Int) - 1) = (N : Int) := by rw [hN]; exact (IntWalk.i64_in _ (by have := HNb.out; omega)).trans (by omega)
                have d3 : (N : Int) < (n1 : Int) := by omega
                have d4 : (0 : Int) ≤ (N : Int) := by omega
                clear hB7 hB8 hr9 hcell p1 hr7 hcell7 r0 rN hbl hg e92 e93 e73 hNn hN
                generalize l.length = ll at *
                go_upto_region 25 with fail
                rw [← hw8]
                clear hw8
                have hD : Below w8.heap.size w8 w8.drew := (Below.refl _ _).drew
                go_region_held_law (fun X => X.cell? ⟨b, off + N * 2 + 1, none⟩ = some (.int .i64 y) ∧ X.cell? ⟨g, og, none⟩ = some (.slice A3' ll c3')) (with_reducible exact HCel.out _ hD) (first
                  | (go_at_call 10; with_reducible refine (HKn.out _ hD).mono ?_; intro e wx hR; obtain ⟨he, hB⟩ := hR; subst he; have hD := bseqS hD hB)
                  | (go_at_call 21; with_reducible refine (HHs.out _ hD).mono ?_; intro e wx hR; obtain ⟨he, hB⟩ := hR; subst he; subst hB)
                  | (go_at_call 28; with_reducible refine (HRr.out _ hD).mono ?_; intro e wx hR; obtain ⟨he, nd, hB⟩ := hR; subst he; subst hB; have hD := below_drewN hD nd))
                all_goals go_wp2_with fail
                all_goals go_ret
                all_goals exact ⟨by first | rfl | simp, bseqS HB8.out hD⟩
          · have hz1 : (T.2 != 0) = true := by simp [hz]
            rw [HTb.out hz]
            clear HTm HTo HTb HTe
            go_wp2_with fail
            refine (HK.out w6 HB6.out).mono ?_
            rintro e w7 ⟨rfl, hB7⟩
            have HB7 := Lib.hid (bseqS HB6.out hB7)
            clear hB7
            go_wp2_with fail
            go_ret
            exact ⟨rfl, HB7.out⟩

end Go.Proofs.YtmmlfnblodfjbaaGreatDoor
