/-
  The walk of layer 4's law SpanMoved: it returns true, and writes nothing that was there.
-/
import Derived.Test.YtmjgpgibifceeaaSpanLawsC
namespace Go.Proofs.Ytmjgpgibifceeaa
open Go.RowKit Go.Deep

/-- the first so many, moved -/
def mvTo (d : Int) (l : List Sp) (t : Nat) : List Sp := (l.take t).map (mv d)
theorem mvTo_succ {d : Int} {l : List Sp} {t : Nat} (h : t < l.length) : mvTo d l (t + 1) = mvTo d l t ++ [((l[t]?.getD (0, 0)).1 + d, (l[t]?.getD (0, 0)).2 + d)] := by
  unfold mvTo
  rw [List.take_add_one, List.map_append]
  simp [h, mv]
theorem mvTo_length {d : Int} {l : List Sp} {t : Nat} (h : t ≤ l.length) : (mvTo d l t).length = t := by
  unfold mvTo
  rw [List.length_map, List.length_take]
  omega
theorem mv_get (d : Int) (l : List Sp) (t : Nat) (h : t < l.length) : (l.map (mv d))[t]?.getD (0, 0) = ((l[t]?.getD (0, 0)).1 + d, (l[t]?.getD (0, 0)).2 + d) := by
  simp [h, mv]

set_option maxRecDepth 100000 in
set_option maxHeartbeats 4000000 in
theorem moved_walk (d : Int) (A : Option Addr) (len cap : Nat) (c : List Int) (w : World) (d0 : -2147483648 ≤ d) (d1 : d ≤ 2147483647) (hc : AllB c) (hb : Bytes w w.heap.size (.slice A len cap) c) :
    Calls Try.prog 9 #[.slice A len cap, .int .i32 d] w fun e w' => e = .returned (.bool true) ∧ Below w.heap.size w w' := by
  have HY := Lib.hid hb
  have HA := Lib.hid hc
  have HAl := Lib.hid (rowL_all hc)
  have HLl := Lib.hid (rowL_length c)
  have HBd := Lib.hid (rowL_bounds hc)
  have hwd : IntKind.i64.wrap d = d := IntWalk.i64_in _ (by omega)
  clear hc hb
  go_enter Try.func9, Try.ntmps9
  go_wp2_with fail
  refine (row_any _ c w HY.out HA.out).mono ?_
  rintro e w1 ⟨v1, rfl, ho1, hB1⟩
  have HL1 := Lib.hid ho1.spans
  clear ho1
  generalize rowL c = l at *
  obtain ⟨n, hn⟩ : ∃ n, n = l.length := ⟨_, rfl⟩
  obtain ⟨A1, c1, hv1, -, -, hr1⟩ := HL1.out
  rw [← hn] at hv1
  have HN := Lib.hid hn
  have HR1 := Lib.hid hr1
  have hn2 : n ≤ 30 := by rw [hn]; exact HLl.out
  clear hn hr1
  subst hv1
  go_wp2_with fail
  go_loopw [6, 7] (fun o i wr => ∃ t : Nat, t ≤ n ∧ i = .int .i64 t ∧ OwnS wr w1.heap.size o (mvTo d l t) ∧ Below w1.heap.size w1 wr) (fun _ i _ => n - (intOf i).toNat)
  case atStart => exact ⟨0, by omega, rfl, OwnS.nil _ _, Below.refl _ _⟩
  case round =>
    obtain ⟨t, ht, rfl, hown, hB⟩ := hrel
    have HO := Lib.hid hown
    clear hown
    by_cases hlt : t < n
    · obtain ⟨b, off, rfl, hb, hcell⟩ := HR1.out (by rw [← HN.out]; omega)
      obtain ⟨u0, u1⟩ := hcell t (by rw [← HN.out]; exact hlt)
      have hc0 := (hB.cell (p := ⟨b, off + t * 2, none⟩) hb).trans u0
      have hc1 := (hB.cell (p := ⟨b, off + t * 2 + 1, none⟩) hb).trans u1
      have hbd := HBd.out (l[t]?.getD (0, 0)) (by rw [List.getElem?_eq_getElem (by rw [← HN.out]; exact hlt)]; exact List.getElem_mem _)
      have HS := Lib.hid (mvTo_succ (d := d) (l := l) (t := t) (by rw [← HN.out]; exact hlt))
      have HLt := Lib.hid (mvTo_length (d := d) (l := l) (t := t) (by rw [← HN.out]; exact ht))
      clear hcell u0 u1
      obtain ⟨u, hu⟩ : ∃ u, l[t]?.getD (0, 0) = u := ⟨_, rfl⟩
      rw [hu] at hc0 hc1 hbd HS
      clear hu
      obtain ⟨x, y⟩ := u
      simp only at hc0 hc1 hbd
      generalize mvTo d l t = out at *
      obtain ⟨X, hX⟩ : ∃ X, x + d = X := ⟨_, rfl⟩
      obtain ⟨Y, hY⟩ : ∃ Y, y + d = Y := ⟨_, rfl⟩
      have i1 : IntKind.i64.wrap (x + d) = X := by rw [hX]; exact IntWalk.i64_in _ (by omega)
      have i2 : IntKind.i64.wrap (y + d) = Y := by rw [hY]; exact IntWalk.i64_in _ (by omega)
      have HS2 : Hid (mvTo d l (t + 1) = out ++ [(X, Y)]) := Lib.hid (by rw [HS.out]; simp only; rw [hX, hY])
      have hO1 : OwnS wr.drew w1.heap.size _ out := HO.out
      have hB2 : Below w1.heap.size w1 wr.drew := hB.drew
      obtain ⟨v', w', hrun, ho', hg'⟩ := append_span _ w1.heap.size 22 _ out X Y hO1 (by have := HLt.out; omega) hB2.size
      have HRun := Lib.hid hrun
      obtain ⟨f1, f2⟩ := app_below hO1 rfl hB2 hg' ho'
      have HF1 := Lib.hid f1
      have q1 : (t : Int) < (n : Int) := by omega
      have q3 : (0 : Int) ≤ (t : Int) := by omega
      clear hX hY hrun ho' hg' f1 hO1 hB2
      go_wp2_with fail
      go_region_law (refine step_append HRun.out rfl rfl rfl rfl ?_)
      all_goals
        go_wp2_with fail
        go_roundw
        case rel => exact ⟨t + 1, by omega, by go_num, by rw [HS2.out]; exact HF1.out, f2⟩
        case measure => simp [intOf]; omega
    · obtain rfl : t = n := by omega
      have HO2 : Hid (mvTo d l t = l.map (mv d)) := Lib.hid (by unfold mvTo; rw [HN.out, List.take_length])
      rw [HO2.out] at HO
      have HM := Lib.hid HO.out.spans
      have HAm : Hid (AllS (l.map (mv d))) := Lib.hid (fun s hs => by obtain ⟨u, hu, rfl⟩ := List.mem_map.1 hs; have := HBd.out u hu; simp only [mv]; omega)
      have HLm : Hid ((l.map (mv d)).length ≤ 30) := Lib.hid (by rw [List.length_map]; exact HLl.out)
      have HL2 := Lib.hid (HL1.out.on hB)
      clear ht hlt
      go_wp2_with fail
      refine (norm_any _ l wr HL2.out (by have := HLl.out; omega)).mono ?_
      rintro e w2 ⟨v2, rfl, ho2, hB2⟩
      have HM2 := Lib.hid (HM.out.on hB2)
      go_wp2_with fail
      refine (norm_any _ (l.map (mv d)) w2 HM2.out (by have := HLm.out; omega)).mono ?_
      rintro e w3 ⟨v3, rfl, ho3, hB3⟩
      rw [norm_mv] at ho3
      have HLo : Hid (longL (normL l) = longL ((normL l).map (mv d))) := Lib.hid (by rw [← norm_mv]; exact (long_mv d l).symm)
      have HAa := Lib.hid (normL_all HAl.out)
      have HAb : Hid (AllS ((normL l).map (mv d))) := Lib.hid (by rw [← norm_mv]; exact normL_all HAm.out)
      have HLa : Hid ((normL l).length ≤ 30) := Lib.hid (by have := normL_length HAl.out; have := HLl.out; omega)
      have HW := Lib.hid (norm_within (l := l) (lo := 0) (hi := 72) (fun s hs => by have := HBd.out s hs; omega))
      have HW2 := Lib.hid (norm_right l)
      have HGm := Lib.hid (mv_get d (normL l))
      have HPa := Lib.hid (ho2.spans.on hB3)
      have HPb := Lib.hid ho3.spans
      have hB03 : Below w.heap.size w w3 := bseq hB1 (bseq (bseq hB hB2) hB3)
      clear ho2 ho3
      generalize normL l = a at *
      obtain ⟨k, hk⟩ : ∃ k, k = a.length := ⟨_, rfl⟩
      have hk2 : k ≤ 30 := by rw [hk]; exact HLa.out
      have hkb : (a.map (mv d)).length = k := by rw [List.length_map, hk]
      obtain ⟨A2, c2, hv2, -, -, hr2⟩ := HPa.out
      obtain ⟨A3, c3, hv3, -, -, hr3⟩ := HPb.out
      rw [← hk] at hv2
      rw [hkb] at hv3
      have HK := Lib.hid hk
      have HKb := Lib.hid hkb
      have HR2 := Lib.hid hr2
      have HR3 := Lib.hid hr3
      have e0 : ((k : Int) != (k : Int)) = false := by simp
      clear hk hkb hr2 hr3
      subst hv2 hv3
      go_wp2_with fail
      go_loopw [10] (fun i wr => ∃ t : Nat, t ≤ k ∧ i = .int .i64 t ∧ Below w3.heap.size w3 wr) (fun i _ => k - (intOf i).toNat)
      case atStart => exact ⟨0, by omega, rfl, Below.refl _ _⟩
      case round =>
        obtain ⟨t, ht, rfl, hBr⟩ := hrel
        by_cases hlt : t < k
        · obtain ⟨b, off, rfl, hb, hcell⟩ := HR2.out (by rw [← HK.out]; omega)
          obtain ⟨b', off', rfl, hb', hcell'⟩ := HR3.out (by rw [HKb.out]; omega)
          obtain ⟨u0, u1⟩ := hcell t (by rw [← HK.out]; exact hlt)
          obtain ⟨z0, z1⟩ := hcell' t (by rw [HKb.out]; exact hlt)
          rw [HGm.out t (by rw [← HK.out]; exact hlt)] at z0 z1
          have hc0 := (hBr.cell (p := ⟨b, off + t * 2, none⟩) hb).trans u0
          have hc1 := (hBr.cell (p := ⟨b, off + t * 2 + 1, none⟩) hb).trans u1
          have hc2 := (hBr.cell (p := ⟨b', off' + t * 2, none⟩) hb').trans z0
          have hc3 := (hBr.cell (p := ⟨b', off' + t * 2 + 1, none⟩) hb').trans z1
          have hmem : a[t]?.getD (0, 0) ∈ a := by rw [List.getElem?_eq_getElem (by rw [← HK.out]; exact hlt)]; exact List.getElem_mem _
          have hbd := HW.out _ hmem
          have hbd2 := HW2.out.1 _ hmem
          clear hcell hcell' u0 u1 z0 z1 hmem
          obtain ⟨u, hu⟩ : ∃ u, a[t]?.getD (0, 0) = u := ⟨_, rfl⟩
          rw [hu] at hc0 hc1 hc2 hc3 hbd hbd2
          clear hu
          obtain ⟨x, y⟩ := u
          simp only at hc0 hc1 hc2 hc3 hbd hbd2
          obtain ⟨X, hX⟩ : ∃ X, x + d = X := ⟨_, rfl⟩
          obtain ⟨Y, hY⟩ : ∃ Y, y + d = Y := ⟨_, rfl⟩
          rw [hX] at hc2
          rw [hY] at hc3
          have i1 : IntKind.i64.wrap (x + d) = X := by rw [hX]; exact IntWalk.i64_in _ (by omega)
          have i2 : IntKind.i64.wrap (y + d) = Y := by rw [hY]; exact IntWalk.i64_in _ (by omega)
          have e1 : (X != X) = false := by simp
          have e2 : (Y != Y) = false := by simp
          have q1 : (t : Int) < (k : Int) := by omega
          have q3 : (0 : Int) ≤ (t : Int) := by omega
          clear hX hY
          go_wp2_with fail
          go_quiet (fail)
          go_wp2_with fail
          go_roundw
          case rel => exact ⟨t + 1, by omega, by go_num, below_drewN hBr _⟩
          case measure => simp [intOf]; omega
        · obtain rfl : t = k := by omega
          obtain ⟨la, hla⟩ : ∃ q, longL a = q := ⟨_, rfl⟩
          have hlb : longL (a.map (mv d)) = la := by rw [← HLo.out]; exact hla
          have HLA := Lib.hid hla
          have HLB := Lib.hid hlb
          have e3 : (la == la) = true := by simp
          clear hla hlb
          go_wp2_with fail
          refine (known_any _).mono ?_
          rintro e w5 ⟨rfl, hB5⟩
          have hC5 := bseq hBr hB5
          go_wp2_with fail
          refine (long_any _ a w5 (HPa.out.on hC5) HAa.out (by have := HLa.out; omega)).mono ?_
          rintro e w6 ⟨rfl, hB6⟩
          rw [HLA.out]
          have hC6 := bseq hC5 hB6
          go_wp2_with fail
          refine (long_any _ (a.map (mv d)) w6 (HPb.out.on hC6) HAb.out (by rw [HKb.out]; omega)).mono ?_
          rintro e w7 ⟨rfl, hB7⟩
          rw [HLB.out]
          have hC7 := bseq hC6 hB7
          go_wp2_with fail
          go_ret
          exact ⟨by simp, bseq hB03 hC7⟩

end Go.Proofs.Ytmjgpgibifceeaa
