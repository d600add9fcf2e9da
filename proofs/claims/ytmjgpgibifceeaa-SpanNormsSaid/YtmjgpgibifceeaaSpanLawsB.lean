/-
  The walk of layer 4's law SpanGrows: it returns true, and writes nothing that was there.
-/
import Derived.Test.YtmjgpgibifceeaaSpanCount
namespace Go.Proofs.Ytmjgpgibifceeaa
open Go.RowKit Go.Deep

theorem append_any (w : World) (base ty : Nat) (v u : Value) (l m : List Sp) (B : Nat) (hs : Spans w B u m) (hown : OwnS w base v l) (hk : l.length + m.length ≤ 1000000000) (hbase : base ≤ w.heap.size) :
    ∃ v' w', (Builtin.append_ #[22, 22] ty #[v, u]).run Try.prog w = .ok v' w' ∧ OwnS w' base v' (l ++ m) ∧ w.grownBy w' v.ownBlock := by
  obtain ⟨A, c, rfl, hc, hm, hr⟩ := hs
  cases A with
  | some A => exact append_spans w base ty v l m A c B ⟨some A, c, rfl, hc, hm, hr⟩ hown hk hbase
  | none =>
    have hl : m = [] := by
      rcases Nat.eq_zero_or_pos m.length with h | h
      · exact List.eq_nil_of_length_eq_zero h
      · obtain ⟨b, off, e, _⟩ := hr h; cases e
    subst hl
    obtain ⟨i0, hi, _, _, _⟩ := info_parts Try.info24
    have hrun : (Builtin.append_ #[22, 22] ty #[v, .slice none 0 c]).run Try.prog w = .ok v w := by
      have ht := Try.underlying22
      rcases hown.2 with ⟨rfl, h0⟩ | ⟨g, cap, cur, rfl, _, _, hnc, _⟩
      · simp [Builtin.append_, run_underlying ht, sizeOf, typeInfo, hi, Builtin.lenOf, Builtin.firstCells]
      · simp [Builtin.append_, run_underlying ht, sizeOf, typeInfo, hi, Builtin.lenOf, Builtin.firstCells, hnc, storeCells]
    exact ⟨v, w, hrun, by rw [List.append_nil]; exact hown, ⟨rfl, rfl, rfl, Nat.le_refl _, fun _ _ _ => rfl⟩⟩

set_option maxRecDepth 100000 in
set_option maxHeartbeats 4000000 in
theorem grows_walk (k : Nat) (A A' : Option Addr) (len cap len' cap' : Nat) (c d : List Int) (w : World) (hk : k < 256) (hc : AllB c) (hb : Bytes w w.heap.size (.slice A len cap) c) (hd : AllB d) (hb' : Bytes w w.heap.size (.slice A' len' cap') d) :
    Calls Try.prog 7 #[.slice A len cap, .slice A' len' cap', .int .u8 k] w fun e w' => e = .returned (.bool true) ∧ Below w.heap.size w w' := by
  have HY := Lib.hid hb
  have HY' := Lib.hid hb'
  have HA := Lib.hid hc
  have HA' := Lib.hid hd
  have HAl := Lib.hid (rowL_all hc)
  have HAm := Lib.hid (rowL_all hd)
  have HLl := Lib.hid (rowL_length c)
  have HLm := Lib.hid (rowL_length d)
  have HG := Lib.hid (long_grows (l := rowL c) (m := rowL d) (lo := 0) (N := 72) (fun s hs => by have := rowL_bounds hc s hs; omega) (fun s hs => by have := rowL_bounds hd s hs; omega) (by decide))
  clear hc hb hd hb'
  go_enter Try.func7, Try.ntmps7
  go_wp2_with fail
  refine (row_any _ c w HY.out HA.out).mono ?_
  rintro e w1 ⟨v1, rfl, ho1, hB1⟩
  have HL1 := Lib.hid ho1.spans
  go_wp2_with fail
  refine (row_any _ d w1 (HY'.out.on hB1) HA'.out).mono ?_
  rintro e w2 ⟨v2, rfl, ho2, hB2⟩
  have HL2 := Lib.hid (HL1.out.on hB2)
  have HM2 := Lib.hid ho2.spans
  clear ho1 ho2 HL1
  generalize rowL c = l at *
  generalize rowL d = m at *
  obtain ⟨v3, w3, hrun3, ho3, hg3⟩ := append_any w2 w2.heap.size 22 _ _ [] l _ HL2.out (OwnS.nil _ _) (by have := HLl.out; simp; omega) (Nat.le_refl _)
  have HR3 := Lib.hid hrun3
  have hB3 : Below w2.heap.size w2 w3 := (Below.refl _ _).grown hg3 (Nat.le_refl _) (fun k e => by cases e)
  obtain ⟨v4, w4, hrun4, ho4, hg4⟩ := append_any w3 w2.heap.size 22 _ _ ([] ++ l) m _ (HM2.out.on hB3) ho3 (by have := HLl.out; have := HLm.out; simp; omega) hB3.size
  have HR4 := Lib.hid hrun4
  have hB4 : Below w2.heap.size w2 w4 := hB3.grown hg4 hB3.size (fun k e => (World.ownsRow.lt ho3 k e).1)
  rw [List.nil_append] at ho4
  have HALL := Lib.hid ho4.spans
  have HL4 := Lib.hid (HL2.out.on hB4)
  have HM4 := Lib.hid (HM2.out.on hB4)
  have HAlm : Hid (AllS (l ++ m)) := Lib.hid (fun s hs => (List.mem_append.1 hs).elim (HAl.out s) (HAm.out s))
  have HLlm : Hid ((l ++ m).length ≤ 1000) := Lib.hid (by have := HLl.out; have := HLm.out; simp; omega)
  have hB04 : Below w.heap.size w w4 := bseq (bseq hB1 hB2) hB4
  obtain ⟨A1, c1, hv1, -⟩ := HL4.out.parts
  obtain ⟨n, hn⟩ : ∃ n, n = l.length := ⟨_, rfl⟩
  rw [← hn] at hv1
  have HN := Lib.hid hn
  have hn2 : n ≤ 30 := by rw [hn]; exact HLl.out
  clear hrun3 hrun4 ho3 hg3 ho4 hg4 hB3 hB4 hn
  subst hv1
  go_wp2_with (first | (at_builtin; refine Lib.wpList_append_run _ rfl _ _ _ _ rfl _ _ rfl rfl _ _ HR3.out ?_) | (at_builtin; refine Lib.wpList_append_run _ rfl _ _ _ _ rfl _ _ rfl rfl _ _ HR4.out ?_))
  go_loopw [10] (fun i wr => ∃ t : Nat, t ≤ n ∧ i = .int .i64 t ∧ Below w4.heap.size w4 wr) (fun i _ => n - (intOf i).toNat)
  case atStart => exact ⟨0, by omega, rfl, Below.refl _ _⟩
  case round =>
    obtain ⟨t, ht, rfl, hB⟩ := hrel
    by_cases hlt : t < n
    · obtain ⟨b, off, c2, e2, hcell⟩ := HL4.out.at_ (by rw [← HN.out]; omega)
      obtain ⟨A5, c5, hv5, _, _, hr5⟩ := HL4.out
      rw [← HN.out] at hv5
      cases hv5
      obtain ⟨b5, off5, rfl, hb5, hc5⟩ := hr5 (by rw [← HN.out]; omega)
      obtain ⟨u0, u1⟩ := hc5 t (by rw [← HN.out]; exact hlt)
      have hc0 := (hB.cell (p := ⟨b5, off5 + t * 2, none⟩) hb5).trans u0
      have hc1 := (hB.cell (p := ⟨b5, off5 + t * 2 + 1, none⟩) hb5).trans u1
      have HH := Lib.hid (has_more (l := l) (m := m) (s := l[t]?.getD (0, 0)) (by rw [List.getElem?_eq_getElem (by rw [← HN.out]; exact hlt)]; exact List.getElem_mem _))
      clear hr5 hc5 hcell u0 u1 e2
      obtain ⟨u, hu⟩ : ∃ u, l[t]?.getD (0, 0) = u := ⟨_, rfl⟩
      rw [hu] at hc0 hc1 HH
      clear hu
      obtain ⟨x, y⟩ := u
      simp only at hc0 hc1
      go_wp2_with fail
      refine (has_any _ (l ++ m) x y wr (HALL.out.on hB) HAlm.out (by have := HLlm.out; omega)).mono ?_
      rintro e w5 ⟨rfl, hB5⟩
      rw [HH.out]
      go_wp2_with fail
      go_roundw
      case rel => exact ⟨t + 1, by omega, by go_num, bseq hB hB5⟩
      case measure => simp [intOf]; omega
    · obtain rfl : t = n := by omega
      obtain ⟨la, hla⟩ : ∃ x, longL (l ++ m) = x := ⟨_, rfl⟩
      obtain ⟨ll, hll⟩ : ∃ x, longL l = x := ⟨_, rfl⟩
      obtain ⟨lm, hlm⟩ : ∃ x, longL m = x := ⟨_, rfl⟩
      have hg := HG.out
      rw [hla, hll, hlm] at hg
      obtain ⟨g1, g2, g3, g4, g5, g6⟩ := hg
      have d1 : decide (ll ≤ la) = true := decide_eq_true g1
      have d2 : decide (la ≤ ll + lm) = true := decide_eq_true g2
      have HLA := Lib.hid hla
      have HLL := Lib.hid hll
      have HLM := Lib.hid hlm
      have HHo : Hid (holesL l ((k : Int), (k : Int)) = []) := Lib.hid ((right_nil_iff (holes_right _ _)).2 (fun x h => by have := ((holes_places _ _ x).1 h).1; simp only at this; omega))
      clear hla hll hlm
      go_wp2_with fail
      refine (known_any wr).mono ?_
      rintro e w5 ⟨rfl, hB5⟩
      have hC5 := bseq hB hB5
      go_wp2_with fail
      refine (long_any _ (l ++ m) w5 (HALL.out.on hC5) HAlm.out (by have := HLlm.out; omega)).mono ?_
      rintro e w6 ⟨rfl, hB6⟩
      rw [HLA.out]
      have hC6 := bseq hC5 hB6
      go_wp2_with fail
      refine (long_any _ l w6 (HL4.out.on hC6) HAl.out (by have := HLl.out; omega)).mono ?_
      rintro e w7 ⟨rfl, hB7⟩
      rw [HLL.out]
      have hC7 := bseq hC6 hB7
      go_wp2_with fail
      refine (long_any _ (l ++ m) w7 (HALL.out.on hC7) HAlm.out (by have := HLlm.out; omega)).mono ?_
      rintro e w8 ⟨rfl, hB8⟩
      rw [HLA.out]
      have hC8 := bseq hC7 hB8
      go_wp2_with fail
      refine (long_any _ l w8 (HL4.out.on hC8) HAl.out (by have := HLl.out; omega)).mono ?_
      rintro e w9 ⟨rfl, hB9⟩
      rw [HLL.out]
      have hC9 := bseq hC8 hB9
      go_wp2_with fail
      refine (long_any _ m w9 (HM4.out.on hC9) HAm.out (by have := HLm.out; omega)).mono ?_
      rintro e w10 ⟨rfl, hB10⟩
      rw [HLM.out]
      have hC10 := bseq hC9 hB10
      have hwr : IntKind.i64.wrap (ll + lm) = ll + lm := IntWalk.i64_in _ (by omega)
      go_wp2_with fail
      refine (holes_any _ l k k w10 (HL4.out.on hC10) HAl.out (by have := HLl.out; omega)).mono ?_
      rintro e w11 ⟨v11, rfl, ho11, hB11⟩
      rw [HHo.out] at ho11
      obtain ⟨A11, c11, rfl, -⟩ := ho11.spans
      have hC11 := bseq hC10 hB11
      go_wp2_with fail
      go_ret
      exact ⟨by simp, bseq hB04 hC11⟩

end Go.Proofs.Ytmjgpgibifceeaa
