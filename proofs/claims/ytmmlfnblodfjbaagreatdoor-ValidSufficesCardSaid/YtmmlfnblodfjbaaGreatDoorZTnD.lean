/-
  Layer 10, the document: node, however deep; Decode.
-/
import Derived.Test.YtmmlfnblodfjbaaGreatDoorZTnOk
import Derived.BigRegion
import Derived.Test.YtmmlfnblodfjbaaGreatDoorZTeC
import Derived.Test.YtmmlfnblodfjbaaGreatDoorZCut

namespace Go.Proofs.YtmmlfnblodfjbaaGreatDoor
open Go.RowKit Go.Deep

end Go.Proofs.YtmmlfnblodfjbaaGreatDoor

namespace Go.Proofs.YtmmlfnblodfjbaaGreatDoor
open Go.RowKit Go.Deep

end Go.Proofs.YtmmlfnblodfjbaaGreatDoor

namespace Go.Proofs.YtmmlfnblodfjbaaGreatDoor
open Go.RowKit Go.Deep

theorem append_intB (w : World) (base ty : Nat) (v : Value) (xs : List Int) (x : Int) (hown : OwnI w base v xs) (hk : xs.length ≤ 10000000000000) (hbase : base ≤ w.heap.size) :
    ∃ v' w', (Builtin.append_ #[45, 45] ty #[v, .slice (some ⟨w.heap.size, 0, none⟩) 1 1]).run Tryz.prog (w.alloc (.cells #[.int .i64 x] 3)) = .ok v' w' ∧ OwnI w' base v' (xs ++ [x]) ∧ (w.alloc (.cells #[.int .i64 x] 3)).grownBy w' v.ownBlock := by
  obtain ⟨i0, hi, hz0, hz1, hz2⟩ := info_parts Tryz.info3
  obtain ⟨v', w', hrun, ho, hg, _, hl⟩ := run_append_own_at (P := Tryz.prog) (w := w.alloc (.cells #[.int .i64 x] 3)) base 45 ty 3 i0 _ 1 8 Tryz.underlying45 hi hz0 hz1 hz2 rfl (by decide) v xs.length (xs.map (Value.int .i64)) (World.ownsRow.alloc hown _) ⟨w.heap.size, 0, none⟩ 1 1 [.int .i64 x] rfl (cell_one_new _ _ _) (fun u hu => by simp at hu; subst hu; rfl) (by unfold maxLen; omega) (by omega) (by simp; omega)
  refine ⟨v', w', hrun, ?_, hg⟩
  unfold OwnI OwnN
  rw [List.length_append, List.map_append]
  exact ho

set_option maxRecDepth 100000 in
set_option maxHeartbeats 1000000 in
theorem rsizes_anyB (v : Value) (ls : List (List Int)) (w : World) (h : ArV w w.heap.size v ls) (hlen : ls.length ≤ 10000000000000) :
    Calls Tryz.prog 75 #[v] w fun e w' => ∃ u, e = .returned u ∧ OwnI w' w.heap.size u (sizesL ls) ∧ Below w.heap.size w w' := by
  have HV := Lib.hid h
  obtain ⟨A, c, rfl, hc, hm, hr⟩ := h
  obtain ⟨len, hn⟩ : ∃ n, n = ls.length := ⟨_, rfl⟩
  rw [← hn] at hc hlen ⊢
  have HN := Lib.hid hn
  rw [← hn] at HV
  clear hr hn
  go_enter Tryz.func75, Tryz.ntmps75
  go_wp2_with fail
  go_loopw [3, 4] (fun o i wr => ∃ t : Nat, t ≤ len ∧ i = .int .i64 t ∧ OwnI wr w.heap.size o ((sizesL ls).take t) ∧ Below w.heap.size w wr) (fun _ i _ => len - (intOf i).toNat)
  case atStart => exact ⟨0, by omega, rfl, OwnI.nil _ _, Below.refl _ _⟩
  case round =>
    obtain ⟨t, ht, rfl, ho, hB⟩ := hrel
    have HO := Lib.hid ho
    have HB := Lib.hid hB
    clear ho hB
    by_cases hlt : t < len
    · obtain ⟨A', c', e', _, _, hr⟩ := HV.out.on HB.out
      obtain ⟨b, off, ea, _, hcell⟩ := hr (by rw [← HN.out]; omega)
      cases e'
      subst ea
      obtain ⟨s, p1, hs1⟩ := hcell t (by rw [← HN.out]; exact hlt)
      obtain ⟨m, hm1⟩ : ∃ m, (ls[t]?.getD []).length = m := ⟨_, rfl⟩
      obtain ⟨A1, c1, rfl⟩ := hs1.form hm1
      have HE : Hid ((sizesL ls).take (t + 1) = (sizesL ls).take t ++ [(m : Int)]) := Lib.hid (by rw [sizesL_take (by rw [← HN.out]; exact hlt), hm1])
      obtain ⟨v', w', hrun, ho', hg'⟩ := append_intB wr w.heap.size 45 u3 ((sizesL ls).take t) m HO.out (by rw [List.length_take]; omega) HB.out.size
      have HRun := Lib.hid hrun
      have HR : Hid (OwnI w' w.heap.size v' ((sizesL ls).take (t + 1)) ∧ Below w.heap.size w w') := Lib.hid ⟨by rw [HE.out]; exact ho', app_belowI HO.out rfl HB.out hg'⟩
      clear hcell hs1 hm1 hrun ho' hg' hr
      go_wp2_with (at_builtin; refine Lib.wpList_append_run _ rfl _ _ _ _ rfl _ _ rfl rfl _ _ HRun.out ?_)
      go_roundw
      case rel => exact ⟨t + 1, by omega, by go_num, HR.out.1, HR.out.2⟩
      case measure => simp [intOf]; omega
    · obtain rfl : t = len := by omega
      have HE : Hid ((sizesL ls).take t = sizesL ls) := Lib.hid (by rw [HN.out, ← sizesL_length, List.take_length])
      rw [HE.out] at HO
      go_wp2_with fail
      go_ret
      exact ⟨_, rfl, HO.out, HB.out⟩

set_option maxRecDepth 100000 in
set_option maxHeartbeats 1000000 in
theorem asizes_anyB (v : Value) (ls : List (List Int)) (w : World) (h : ArV w w.heap.size v ls) (hs : ls.length ≤ 10000000000000) :
    Calls Tryz.prog 63 #[v] w fun e w' => ∃ u, e = .returned u ∧ OwnI w' w.heap.size u (sizesL ls) ∧ Below w.heap.size w w' := by
  have HV := Lib.hid h
  have hlen := hs
  obtain ⟨A, c, rfl, hc, hm, hr⟩ := h
  obtain ⟨len, hn⟩ : ∃ n, n = ls.length := ⟨_, rfl⟩
  rw [← hn] at hc hlen ⊢
  have HN := Lib.hid hn
  rw [← hn] at HV
  have hmk := run_make_row' (P := Tryz.prog) 45 3 (.int .i64 0) 8 Tryz.underlying45 Tryz.info3 rfl .i64 .i64 len (by omega) (by omega)
  have HR0 : Hid (RowV (w.alloc (.cells (madeCells #[Value.int .i64 0] len) 3)) w.heap.size 3 (sizesTo ls 0)) := Lib.hid (by
    unfold sizesTo
    rw [← hn]
    exact RowV.made w _ _ _)
  clear hr hn hs
  go_enter Tryz.func63, Tryz.ntmps63
  go_wp2_with fail
  go_loopw [11] (fun i wr => ∃ t : Nat, t ≤ len ∧ i = .int .i64 t ∧ RowV wr w.heap.size 3 (sizesTo ls t) ∧ Below w.heap.size w wr) (fun i _ => len - (intOf i).toNat)
  case atStart => exact ⟨0, by omega, rfl, HR0.out, (Below.refl _ _).alloc (Nat.le_refl _) _⟩
  case round =>
    obtain ⟨t, ht, rfl, ho, hB⟩ := hrel
    have HO := Lib.hid ho
    have HB := Lib.hid hB
    by_cases hlt : t < len
    · obtain ⟨b, off, A1, c1, rfl, p1, k1, -⟩ := below_cells HV.out HB.out rfl (j := t) (by rw [← HN.out]; exact hlt)
      have q1 := ho.cell (j := t) (by rw [sizesTo_length (by rw [← HN.out]; omega), ← HN.out]; exact hlt)
      have q2 := ho.frozen t
      obtain ⟨z, hz⟩ : ∃ z, (sizesTo ls t)[t]?.getD undef = z := ⟨_, rfl⟩
      rw [hz] at q1
      have HS : Hid ((sizesTo ls t).set t (.int .i64 ((ls[t]?.getD []).length : Int)) = sizesTo ls (t + 1)) := Lib.hid (sizesTo_succ (by rw [← HN.out]; exact hlt))
      obtain ⟨m, hm1⟩ : ∃ m, (ls[t]?.getD []).length = m := ⟨_, rfl⟩
      rw [hm1] at p1 k1 HS
      have i1 : (t : Int) < (len : Int) := by omega
      clear ho hB hz hm1
      go_wp2_with fail
      go_roundw
      case rel => exact ⟨t + 1, by omega, by go_num, by rw [← HS.out]; exact HO.out.set t _, HB.out.setCell (p := ⟨w.heap.size, t, none⟩) (Nat.le_refl _) _⟩
      case measure => simp [intOf]; omega
    · obtain rfl : t = len := by omega
      have HE : Hid (OwnI wr w.heap.size (.slice (some ⟨w.heap.size, 0, none⟩) t t) (sizesL ls)) := Lib.hid (by
        have := HO.out
        rw [sizesTo_end HN.out] at this
        unfold OwnI OwnN
        rw [sizesL_length, ← HN.out]
        exact this.owns (Nat.le_refl _) (by rw [List.length_map, sizesL_length]; exact HN.out.symm) (by unfold maxLen; omega))
      clear ho hB
      go_wp2_with fail
      go_ret
      exact ⟨_, rfl, HE.out, HB.out⟩

set_option maxRecDepth 100000 in
theorem aright_anyB (v : Value) (ls : List (List Int)) (w : World) (h : ArV w w.heap.size v ls) (hs : ls.length ≤ 10000000000000) :
    Calls Tryz.prog 38 #[v] w fun e w' => e = .returned (.bool (fitsL (sizesL ls))) ∧ Below w.heap.size w w' := by
  have HS := Lib.hid (asizes_anyB v ls w h hs)
  have HA := Lib.hid (sizes_all64 h)
  clear h hs
  go_enter Tryz.func38, Tryz.ntmps38
  go_wp2_with fail
  refine HS.out.mono ?_
  rintro e w1 ⟨u, rfl, ho, hB⟩
  have HO := Lib.hid (OwnN.numS ho)
  clear ho
  go_wp2_with fail
  refine (afits_any u (sizesL ls) _ w1 HO.out HA.out).mono ?_
  rintro e w' ⟨rfl, rfl⟩
  go_wp2_with fail
  go_ret
  exact ⟨rfl, hB⟩

set_option maxRecDepth 100000 in
set_option maxHeartbeats 2000000 in
theorem decode_big (v : Value) (ls : List (List Int)) (w : World) (_L : Laid w) (h : ArV w w.heap.size v ls) (hl : ls.length ≤ 10000000000000) (hb : ¬ ls.length ≤ 1000000000) :
    Calls Tryz.prog 58 #[v] w (TrER (decodeT ls) w) := by
  have HR := Lib.hid (fun X (hX : Below w.heap.size w X) => aright_anyB v ls X (h.on hX) hl)
  have HL : Hid (decodeT ls = if fitsL (sizesL ls) = true then (if (decN (srA ls) 32 0 0 0).err ≠ 0 then (Tr.nil, (decN (srA ls) 32 0 0 0).err) else ((decN (srA ls) 32 0 0 0).t, 0)) else (Tr.nil, 1)) := Lib.hid rfl
  obtain ⟨Z, hZ⟩ : ∃ Z, Z = decodeT ls := ⟨_, rfl⟩
  rw [← hZ] at HL ⊢
  have hF : fitsL (sizesL ls) = false := by
    cases h2 : fitsL (sizesL ls) with
    | false => rfl
    | true =>
      have h1 := (of_decide_eq_true h2).2.1
      rw [sizesL_length] at h1
      omega
  rw [hF] at HL HR
  generalize decN (srA ls) 32 0 0 0 = dn at *
  have hb1 := TBox.new w 0 0 (.slice none 0 0) (.slice none 0 0) (.slice none 0 0)
  have hB1 : Below w.heap.size w (w.alloc (.cells (cellsT 0 0 (.slice none 0 0) (.slice none 0 0) (.slice none 0 0)) 34)) := (Below.refl _ _).alloc (Nat.le_refl _) _
  obtain ⟨A, q, rfl⟩ := h.form rfl
  obtain ⟨W1, hW1⟩ : ∃ W1, W1 = w.alloc (.cells (cellsT 0 0 (.slice none 0 0) (.slice none 0 0) (.slice none 0 0)) 34) := ⟨_, rfl⟩
  rw [← hW1] at hb1 hB1
  have HN1 := Lib.hid hb1
  have HB1 := Lib.hid hB1
  have HRc := Lib.hid (HR.out W1 HB1.out)
  unfold cellsT at hW1
  clear hZ hb1 hB1 h _L hl hb hF HR
  generalize ls.length = m at *
  obtain rfl : Z = (Tr.nil, 1) := HL.out.trans (if_neg (by decide))
  go_enter Tryz.func58, Tryz.ntmps58
  go_upto_region 1 with fail
  rw [← hW1]
  clear hW1
  go_wp2_with fail
  refine HRc.out.mono ?_
  rintro e w2 ⟨rfl, hB2⟩
  have HN2 := Lib.hid (HN1.out.on hB2)
  have HB2 := Lib.hid (HB1.out.trans (hB2.mono HB1.out.size))
  clear hB2
  obtain ⟨x0, x1, x2, x3, x4⟩ := HN2.out.cells
  obtain ⟨f0, f1, f2, f3, f4⟩ := HN2.out.frozens
  have HX := Lib.hid (HN2.out.put 0 0 (.slice none 0 0) (.slice none 0 0) (.slice none 0 0))
  have HBX := Lib.hid (below_put5 (g := w.heap.size) HB2.out (Nat.le_refl _) 0 0 0 (.slice none 0 0) (.slice none 0 0) (.slice none 0 0))
  go_wp2_with fail
  unfold put5 at HX HBX
  simp only [Nat.zero_add] at HX HBX
  clear x0 x1 x2 x3 x4
  obtain ⟨x0, x1, x2, x3, x4⟩ := HX.out.cells
  refine bodyPost_ret (v := .tuple #[.agg (cellsT 0 0 (.slice none 0 0) (.slice none 0 0) (.slice none 0 0)), .int .u16 1]) ?_ rfl (by unfold TrER; exact ⟨_, rfl, trP_nil _ _, HBX.out⟩)
  simp [results, Tryz.f58, go_sem, cellsT, x0, x1, x2, x3, x4]

theorem decode_anyB (v : Value) (ls : List (List Int)) (w : World) (L : Laid w) (h : ArV w w.heap.size v ls) (hl : ls.length ≤ 10000000000000) (hu : AllU ls) :
    Calls Tryz.prog 58 #[v] w (TrER (decodeT ls) w) := by
  by_cases hb : ls.length ≤ 1000000000
  · exact decode_any v ls w L h hb hu
  · exact decode_big v ls w L h hl hb
end Go.Proofs.YtmmlfnblodfjbaaGreatDoor
