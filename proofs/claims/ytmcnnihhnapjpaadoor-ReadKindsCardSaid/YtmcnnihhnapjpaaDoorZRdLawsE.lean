/-
  Layer 9: the law ReadKinds.
-/
import Derived.Test.YtmcnnihhnapjpaaDoorZRdLawsD

namespace Go.Proofs.YtmcnnihhnapjpaaDoor
open Go.RowKit Go.Deep

set_option maxRecDepth 100000 in
set_option maxHeartbeats 4000000 in
theorem kinds_walk (c : List Int) (v : Value) (a : Nat) (ws : Bool) (w : World) (h : Bytes w w.heap.size v c) (hb : AllB c) (ha : a ≤ 255) (L : Laid w) :
    Calls Tryd.prog 5 #[v, .int .u8 a, .bool ws] w fun e w' => e = .returned (.bool true) ∧ Below w.heap.size w w' := by
  have HL := Lib.hid (fun X (hX : Below w.heap.size w X) => L.on hX)
  have HK := Lib.hid (fun X (hX : Below w.heap.size w X) => known9_any X (L.on hX))
  have HBy := Lib.hid h
  have HAb := Lib.hid hb
  obtain ⟨A, n, rfl, hc, hm, hr⟩ := h
  obtain ⟨len, hn⟩ : ∃ n, n = c.length := ⟨_, rfl⟩
  rw [← hn] at hc hr ⊢
  rw [← hn] at HBy
  have HR := Lib.hid hr
  have HN := Lib.hid hn
  clear hr hn hb L
  by_cases hl : 100 < len
  · have i1 : (len : Int) > 100 := by omega
    go_enter Tryd.func5, Tryd.ntmps5
    go_wp2_with fail
    refine (HK.out w (Below.refl _ _)).mono ?_
    rintro e w1 ⟨rfl, hB⟩
    go_wp2_with fail
    go_ret
    exact ⟨rfl, hB⟩
  · have i1 : ¬ (len : Int) > 100 := by omega
    cases ws with
    | false =>
      have HT1 := Lib.hid (TBox.new w 2 2 (.slice none 0 0) (.slice A len n) (.slice none 0 0))
      have hB1 : Below w.heap.size w (w.alloc (.cells (cellsT 2 2 (.slice none 0 0) (.slice A len n) (.slice none 0 0)) 46)) := (Below.refl _ _).alloc (Nat.le_refl _) _
      obtain ⟨W1, hW1⟩ : ∃ W1, W1 = w.alloc (.cells (cellsT 2 2 (.slice none 0 0) (.slice A len n) (.slice none 0 0)) 46) := ⟨_, rfl⟩
      rw [← hW1] at HT1 hB1
      have HB1 := Lib.hid hB1
      have hTr : TrV W1 W1.heap.size (.mk 2 2 [] c []) (.agg (cellsT 2 2 (.slice none 0 0) (.slice A len n) (.slice none 0 0))) := by
        unfold TrV
        exact ⟨_, _, none, 0, rfl, ⟨⟨by decide, by decide⟩, ⟨by decide, by decide⟩, by simp, by rw [← HN.out]; omega, by simp, by simp, HAb.out⟩, ⟨none, 0, rfl, by simp, by omega, fun h => by simp at h⟩, HBy.out.on hB1, by simp, by omega, fun h => by simp at h⟩
      unfold cellsT at hW1
      clear hB1
      go_enter Tryd.func5, Tryd.ntmps5
      go_upto_region 4 with fail
      rw [← hW1]
      clear hW1
      go_upto_region 10 with fail
      have hLf : LeafT 2 [] c := .inl ⟨rfl, rfl, by rw [← HN.out]; omega⟩
      have hcq : c = if (2 : Int) = 5 then [] else c := by rw [if_neg (by decide)]
      obtain ⟨kf1, kf2, kf3⟩ := kinds_of hLf c hcq HAb.out a
      obtain ⟨ku, kl⟩ := kinds_in hLf (fun x hx => by simp at hx) HAb.out
      have hBd := rbuild_any (.mk 2 2 [] c []) _ 200 W1 hTr
      have h0 : (buildT (.mk 2 2 [] c []) 200).2 = 0 := by rw [leaf_build hLf]
      rw [h0] at hBd
      generalize (buildT (.mk 2 2 [] c []) 200).1 = ls at *
      unfold cellsT at hBd
      obtain ⟨V2, hV2⟩ : ∃ V2, V2 = ofV ls [] a 500 := ⟨_, rfl⟩
      rw [← hV2] at kf3
      have HV2 := Lib.hid hV2
      have HF3 := Lib.hid kf3
      obtain ⟨⟨v1, v2, v3, v4, v5⟩, E2⟩ := V2
      rw [← HN.out] at kf1
      have HF1 := Lib.hid kf1
      have HF2 := Lib.hid kf2
      have HKu := Lib.hid ku
      have HKl := Lib.hid kl
      obtain ⟨d0, d1, d2, d3, d4⟩ := HT1.out.cells
      clear hLf hcq h0 hV2 kf1 kf2 kf3 ku kl
      go_wp2_with fail
      refine hBd.mono ?_
      rintro e w2 ⟨A2, n2, c2, rfl, hAr, hB2⟩
      have HAr := Lib.hid hAr
      have HT2 := Lib.hid (HT1.out.on hB2)
      have HB2 := Lib.hid (HB1.out.trans (hB2.mono HB1.out.size))
      have HO := Lib.hid (fun (X : World) (u : Value) (ks : List Int) (i : Int) (hX : Below w2.heap.size w2 X) (hu : NumS .i64 X X.heap.size u ks) (h64 : All64 ks) (hi : In64 i) => of_any _ ls X u ks i 500 (HL.out X (HB2.out.trans (hX.mono HB2.out.size))) (HAr.out.on hX) HKl.out HKu.out hu h64 hi ⟨by decide, by decide⟩)
      have hO1 := HO.out w2 (.slice none 0 0) [] (-1) (Below.refl _ _) ⟨none, 0, rfl, by simp, by omega, fun h => by simp at h⟩ (fun x hx => by simp at hx) ⟨by decide, by decide⟩
      rw [HF1.out] at hO1
      clear hAr hB2 hBd d0 d1 d2 d3 d4
      go_wp2_with fail
      refine hO1.mono ?_
      rintro e w3 ⟨rfl, hB3⟩
      unfold cellsV
      dsimp only
      have hB4 : Below w3.heap.size w3 (w3.alloc (.cells (cellsV ⟨2, 2, len, 0, 0⟩) 32)) := (Below.refl _ _).alloc (Nat.le_refl _) _
      have HV4 := Lib.hid (VBox.new w3 ⟨2, 2, len, 0, 0⟩)
      have HT4 := Lib.hid ((HT2.out.on hB3).on hB4)
      have HR4 := Lib.hid (hB3.trans (hB4.mono hB3.size))
      obtain ⟨W4, hW4⟩ : ∃ W4, W4 = w3.alloc (.cells (cellsV ⟨2, 2, len, 0, 0⟩) 32) := ⟨_, rfl⟩
      rw [← hW4] at HV4 HT4 HR4
      unfold cellsV at hW4
      dsimp only at hW4
      clear hB3 hB4 hO1
      have hO2 := HO.out W4 (.slice none 0 0) [] a HR4.out ⟨none, 0, rfl, by simp, by omega, fun h => by simp at h⟩ (fun x hx => by simp at hx) ⟨by omega, by omega⟩
      rw [← HV2.out] at hO2
      go_upto_region 12 with fail
      rw [← hW4]
      clear hW4
      go_wp2_with fail
      refine hO2.mono ?_
      rintro e w5 ⟨rfl, hB5⟩
      unfold cellsV
      dsimp only
      have hB6 : Below w5.heap.size w5 (w5.alloc (.cells (cellsV ⟨v1, v2, v3, v4, v5⟩) 32)) := (Below.refl _ _).alloc (Nat.le_refl _) _
      have HU6 := Lib.hid (VBox.new w5 ⟨v1, v2, v3, v4, v5⟩)
      have HV6 := Lib.hid ((HV4.out.on hB5).on hB6)
      have HT6 := Lib.hid ((HT4.out.on hB5).on hB6)
      have HR6 := Lib.hid (HR4.out.trans ((hB5.trans (hB6.mono hB5.size)).mono HR4.out.size))
      obtain ⟨W6, hW6⟩ : ∃ W6, W6 = w5.alloc (.cells (cellsV ⟨v1, v2, v3, v4, v5⟩) 32) := ⟨_, rfl⟩
      rw [← hW6] at HU6 HV6 HT6 HR6
      unfold cellsV at hW6
      dsimp only at hW6
      clear hB5 hB6 hO2
      have hB7 : Below W6.heap.size W6 (W6.alloc (.cells #[.int .i64 0] 3)) := (Below.refl _ _).alloc (Nat.le_refl _) _
      have hO3 := HO.out (W6.alloc (.cells #[.int .i64 0] 3)) _ [0] 0 (HR6.out.trans (hB7.mono HR6.out.size)) (int_one W6) (fun x hx => by obtain rfl := List.mem_singleton.1 hx; exact ⟨by decide, by decide⟩) ⟨by decide, by decide⟩
      rw [HF2.out] at hO3
      have HR7 := Lib.hid hB7
      clear hB7
      go_upto_region 13 with fail
      rw [← hW6]
      clear hW6
      go_wp2_with fail
      refine hO3.mono ?_
      rintro e w7 ⟨rfl, hB8⟩
      unfold cellsV Va.zero
      dsimp only
      have hB9 : Below w7.heap.size w7 (w7.alloc (.cells (cellsV Va.zero) 32)) := (Below.refl _ _).alloc (Nat.le_refl _) _
      have hRa := HR7.out.trans ((hB8.trans (hB9.mono hB8.size)).mono HR7.out.size)
      have HU8 := Lib.hid (HU6.out.on hRa)
      have HV8 := Lib.hid (HV6.out.on hRa)
      have HT8 := Lib.hid (HT6.out.on hRa)
      have HB8 := Lib.hid (HB2.out.trans ((HR6.out.trans (hRa.mono HR6.out.size)).mono HB2.out.size))
      obtain ⟨W8, hW8⟩ : ∃ W8, W8 = w7.alloc (.cells (cellsV Va.zero) 32) := ⟨_, rfl⟩
      rw [← hW8] at HU8 HV8 HT8 HB8
      unfold cellsV Va.zero at hW8
      dsimp only at hW8
      clear hB8 hB9 hRa hO3
      go_upto_region 14 with fail
      rw [← hW8]
      clear hW8
      obtain ⟨x0, x1, x2, x3, x4⟩ := HV8.out.cells
      obtain ⟨d0, d1, d2, d3, d4⟩ := HT8.out.cells
      dsimp only at x0 x1 x2 x3 x4
      have j1 : ((len : Int) != (len : Int)) = false := by simp
      by_cases hle : len ≤ a
      · have j2 : (a : Int) ≥ (len : Int) := by omega
        have hf := HF3.out
        rw [if_pos (by rw [← HN.out]; exact hle)] at hf
        obtain rfl : E2 = 20 := congrArg Prod.snd hf
        clear hf
        go_wp2_with fail
        refine (HK.out W8 HB8.out).mono ?_
        rintro e w9 ⟨rfl, hB9⟩
        have HB9 := Lib.hid (HB8.out.trans (hB9.mono HB8.out.size))
        clear hB9
        go_wp2_with fail
        go_ret
        exact ⟨rfl, HB9.out⟩
      · have j2 : ¬ (a : Int) ≥ (len : Int) := by omega
        have hf := HF3.out
        rw [if_neg (by rw [← HN.out]; exact hle)] at hf
        obtain rfl : E2 = 0 := congrArg Prod.snd hf
        obtain rfl : v5 = c[a]?.getD 0 := congrArg (fun p => p.1.word) hf
        have hlt : a < len := by omega
        obtain ⟨b, off, rfl, hbl, hcell⟩ := HR.out (by omega)
        have hyb := HAb.out (c[a]?.getD 0) (by rw [List.getElem?_eq_getElem (by rw [← HN.out]; exact hlt)]; exact List.getElem_mem _)
        have HCa := Lib.hid (fun (X : World) (hX : Below w.heap.size w X) => (hX.cell (p := ⟨b, off + a, none⟩) hbl).trans (hcell a hlt))
        have HKn := Lib.hid (HK.out W8.drew HB8.out.drew)
        have HTr := Lib.hid (fun (X : World) (hX : Below W8.drew.heap.size W8.drew X) => HB8.out.drew.trans (hX.mono HB8.out.drew.size))
        have HUx := Lib.hid (fun (X : World) (hX : Below W8.drew.heap.size W8.drew X) => VBox.on (w := W8.drew) HU8.out hX)
        have hw5 : IntKind.u64.wrap (c[a]?.getD 0) = c[a]?.getD 0 := IntWalk.u64_in _ (by omega)
        have HW5 := Lib.hid hw5
        generalize c[a]?.getD 0 = y at *
        have j3 : (a : Int) < (len : Int) := by omega
        have j4 := HCa.out W8 HB8.out
        obtain ⟨y0, y1, y2, y3, y4⟩ := HU8.out.cells
        dsimp only at y0 y1 y2 y3 y4
        clear hf hcell hw5
        go_upto_region 18 with fail
        go_region_held3 (fun w' => w'.cell? ⟨w5.heap.size, 4, none⟩ = some (.int .u64 y) ∧ w'.cell? ⟨b, off + a, none⟩ = some (.int .u8 y)) (first | exact ⟨z4, j5⟩ | exact ⟨y4, j4⟩) (first
          | (go_at_call 8; with_reducible refine HKn.out.mono ?_; intro e w9 hR; obtain ⟨hR1, hB9⟩ := hR; subst hR1; have j5 := HCa.out w9 (HTr.out w9 hB9); obtain ⟨z0, z1, z2, z3, z4⟩ := (HUx.out w9 hB9).cells; dsimp only at z0 z1 z2 z3 z4; have HB9 := Lib.hid (HTr.out w9 hB9); clear hB9))
        all_goals go_wp2_with fail
        all_goals go_ret
        all_goals exact ⟨by rw [HW5.out]; simp, HB9.out⟩
    | true =>
      have HT1 := Lib.hid (TBox.new w 2 5 (.slice none 0 0) (.slice none 0 0) (.slice none 0 0))
      have hB1 : Below w.heap.size w (w.alloc (.cells (cellsT 2 5 (.slice none 0 0) (.slice none 0 0) (.slice none 0 0)) 46)) := (Below.refl _ _).alloc (Nat.le_refl _) _
      obtain ⟨W1, hW1⟩ : ∃ W1, W1 = w.alloc (.cells (cellsT 2 5 (.slice none 0 0) (.slice none 0 0) (.slice none 0 0)) 46) := ⟨_, rfl⟩
      rw [← hW1] at HT1 hB1
      have HB1 := Lib.hid hB1
      have HZ1 : Hid (w.heap.size + 1 ≤ W1.heap.size) := Lib.hid HT1.out.lt
      unfold cellsT at hW1
      clear hB1
      go_enter Tryd.func5, Tryd.ntmps5
      go_upto_region 6 with fail
      rw [← hW1]
      clear hW1
      go_wp2_with fail
      go_loopw [8] (fun x wr => ∃ t : Nat, t ≤ len ∧ x = .int .i64 t ∧ ∃ A' n', TBox wr w.heap.size 2 5 (.slice A' t n') (.slice none 0 0) (.slice none 0 0) ∧ OwnU wr (w.heap.size + 1) (.slice A' t n') (c.take t) ∧ Below w.heap.size w wr ∧ w.heap.size + 1 ≤ wr.heap.size) (fun x _ => len - (intOf x).toNat)
      case atStart => exact ⟨0, by omega, rfl, none, 0, HT1.out, World.ownsRow_nil _ _ _ _, HB1.out, HZ1.out⟩
      case round =>
        obtain ⟨t, ht, rfl, A', n', hT, hO, hBr, hzr⟩ := hrel
        generalize wr = w1 at *
        have HT := Lib.hid hT
        have HO5 := Lib.hid hO
        have HBr := Lib.hid hBr
        have HZr := Lib.hid hzr
        clear hT hO hBr hzr
        by_cases hlt : t < len
        · have i2 : (t : Int) < (len : Int) := by omega
          obtain ⟨b, off, rfl, hbl, hcell⟩ := HR.out (by omega)
          have p1 := (HBr.out.cell (p := ⟨b, off + t, none⟩) hbl).trans (hcell t hlt)
          have hy := HAb.out (c[t]?.getD 0) (by rw [List.getElem?_eq_getElem (by rw [← HN.out]; exact hlt)]; exact List.getElem_mem _)
          have HE : Hid (c.take (t + 1) = c.take t ++ [c[t]?.getD 0]) := Lib.hid (by rw [List.take_add_one, List.getElem?_eq_getElem (by rw [← HN.out]; exact hlt)]; rfl)
          have HLn : Hid ((c.take t).length = t) := Lib.hid (by rw [List.length_take, ← HN.out]; omega)
          have HLm : Hid ((c.take (t + 1)).length = t + 1) := Lib.hid (by rw [List.length_take, ← HN.out]; omega)
          generalize c[t]?.getD 0 = y at *
          clear hcell hbl
          have HY : Hid (IntKind.u64.wrap y = y) := Lib.hid (IntWalk.u64_in _ (by omega))
          have hOd : OwnU w1.drew (w.heap.size + 1) (.slice A' t n') (c.take t) := HO5.out
          obtain ⟨v', w4, hrun, ho', hg⟩ := append_u w1.drew (w.heap.size + 1) 23 _ _ y hOd (by rw [HLn.out]; omega) HZr.out
          rw [← HE.out] at ho'
          obtain ⟨A2, n2, hv', -⟩ := OwnN.numS ho'
          rw [HLm.out] at hv'
          subst hv'
          have hown : ∀ k, (Value.slice A' t n').ownBlock = some k → w.heap.size + 1 ≤ k := fun k e => (World.ownsRow.lt HO5.out k e).1
          have hTa : TBox (w1.drew.alloc (.cells #[.int .u64 y] 30)) w.heap.size 2 5 (.slice A' t n') (.slice none 0 0) (.slice none 0 0) := HT.out.on (((Below.refl w1.heap.size w1).drew).alloc (Nat.le_refl _) _)
          have hT4 := nbox_kept hTa hg (fun e => by have := hown _ e; omega)
          have hBa : Below w.heap.size w (w1.drew.alloc (.cells #[.int .u64 y] 30)) := HBr.out.drew.alloc (by have := HZr.out; show _ ≤ w1.heap.size; omega) _
          have hB4 := hBa.grown hg (by have := HZr.out; show _ ≤ (w1.drew.alloc _).heap.size; simp; omega) (fun k e => by have := hown k e; omega)
          have hz4 : w.heap.size + 1 ≤ w4.heap.size := by
            have h1 := hg.size
            have h2 : (w1.drew.alloc (.cells #[.int .u64 y] 30)).heap.size = w1.heap.size + 1 := World.size_alloc _ _
            have h3 := HZr.out
            omega
          have HFin : Hid (TBox (w4.setCell ⟨w.heap.size, 2, none⟩ (.slice A2 (t + 1) n2)) w.heap.size 2 5 (.slice A2 (t + 1) n2) (.slice none 0 0) (.slice none 0 0) ∧ OwnU (w4.setCell ⟨w.heap.size, 2, none⟩ (.slice A2 (t + 1) n2)) (w.heap.size + 1) (.slice A2 (t + 1) n2) (c.take (t + 1)) ∧ Below w.heap.size w (w4.setCell ⟨w.heap.size, 2, none⟩ (.slice A2 (t + 1) n2)) ∧ w.heap.size + 1 ≤ (w4.setCell ⟨w.heap.size, 2, none⟩ (.slice A2 (t + 1) n2)).heap.size) := Lib.hid ⟨nbox_set2 hT4 _, ownu_below ho' (by omega) _ _, hB4.setCell (p := ⟨w.heap.size, 2, none⟩) (Nat.le_refl _) _, by rw [nblk_setCell]; exact hz4⟩
          rw [← HY.out] at hrun
          have HRun := Lib.hid hrun
          obtain ⟨d0, d1, d2, d3, d4⟩ := HT.out.cells
          obtain ⟨y0, y1, y2, y3, y4⟩ := hT4.cells
          have y5 := nbox_frozen hT4 2
          have q1 := fun o => (HT.out.on ((Below.refl w1.heap.size w1).alloc (Nat.le_refl _) o)).cells.2.2.1
          have q2 := fun o => (((Below.refl w1.heap.size w1).alloc (Nat.le_refl _) o).cell (p := ⟨b, off + t, none⟩) (World.block_lt_of_cell? _ _ p1)).trans p1
          clear hrun ho' hg hown hTa hT4 hBa hB4 hz4 hOd
          go_upto_region 9 with fail
          go_region_law (first | (refine step_app HRun.out rfl rfl rfl rfl ?_))
          all_goals go_wp2_with fail
          all_goals go_roundw
          all_goals first | exact ⟨t + 1, by omega, by go_num, A2, n2, HFin.out⟩ | (simp [intOf]; omega)
        · have i2 : ¬ (t : Int) < (len : Int) := by omega
          obtain rfl : t = len := by omega
          have hall : c.take t = c := List.take_of_length_le (by rw [← HN.out]; exact Nat.le_refl _)
          have hO := HO5.out
          rw [hall] at hO
          have hTr : TrV w1 w1.heap.size (.mk 2 5 c [] []) (.agg (cellsT 2 5 (.slice A' t n') (.slice none 0 0) (.slice none 0 0))) := by
            unfold TrV
            exact ⟨_, _, none, 0, rfl, ⟨⟨by decide, by decide⟩, ⟨by decide, by decide⟩, by rw [← HN.out]; omega, by simp, by simp, fun x hx => by have := HAb.out x hx; omega, by simp⟩, OwnN.numS hO, ⟨none, 0, rfl, by simp, by omega, fun h => by simp at h⟩, by simp, by omega, fun h => by simp at h⟩
          have HTw := Lib.hid HT.out
          clear hO
          go_upto_region 10 with fail
          have hLf : LeafT 5 c [] := .inr ⟨rfl, rfl, by rw [← HN.out]; omega⟩
          have hcq : c = if (5 : Int) = 5 then c else [] := by rw [if_pos rfl]
          obtain ⟨kf1, kf2, kf3⟩ := kinds_of hLf c hcq HAb.out a
          obtain ⟨ku, kl⟩ := kinds_in hLf HAb.out (fun x hx => by simp at hx)
          have hBd := rbuild_any (.mk 2 5 c [] []) _ 200 w1 hTr
          have h0 : (buildT (.mk 2 5 c [] []) 200).2 = 0 := by rw [leaf_build hLf]
          rw [h0] at hBd
          generalize (buildT (.mk 2 5 c [] []) 200).1 = ls at *
          unfold cellsT at hBd
          obtain ⟨V2, hV2⟩ : ∃ V2, V2 = ofV ls [] a 500 := ⟨_, rfl⟩
          rw [← hV2] at kf3
          have HV2 := Lib.hid hV2
          have HF3 := Lib.hid kf3
          obtain ⟨⟨v1, v2, v3, v4, v5⟩, E2⟩ := V2
          rw [← HN.out] at kf1
          have HF1 := Lib.hid kf1
          have HF2 := Lib.hid kf2
          have HKu := Lib.hid ku
          have HKl := Lib.hid kl
          obtain ⟨d0, d1, d2, d3, d4⟩ := HTw.out.cells
          clear hLf hcq h0 hV2 kf1 kf2 kf3 ku kl
          go_wp2_with fail
          refine hBd.mono ?_
          rintro e w2 ⟨A2, n2, c2, rfl, hAr, hB2⟩
          have HAr := Lib.hid hAr
          have HT2 := Lib.hid (HTw.out.on hB2)
          have HB2 := Lib.hid (HBr.out.trans (hB2.mono HBr.out.size))
          have HO := Lib.hid (fun (X : World) (u : Value) (ks : List Int) (i : Int) (hX : Below w2.heap.size w2 X) (hu : NumS .i64 X X.heap.size u ks) (h64 : All64 ks) (hi : In64 i) => of_any _ ls X u ks i 500 (HL.out X (HB2.out.trans (hX.mono HB2.out.size))) (HAr.out.on hX) HKl.out HKu.out hu h64 hi ⟨by decide, by decide⟩)
          have hO1 := HO.out w2 (.slice none 0 0) [] (-1) (Below.refl _ _) ⟨none, 0, rfl, by simp, by omega, fun h => by simp at h⟩ (fun x hx => by simp at hx) ⟨by decide, by decide⟩
          rw [HF1.out] at hO1
          clear hAr hB2 hBd d0 d1 d2 d3 d4
          go_wp2_with fail
          refine hO1.mono ?_
          rintro e w3 ⟨rfl, hB3⟩
          unfold cellsV
          dsimp only
          have hB4 : Below w3.heap.size w3 (w3.alloc (.cells (cellsV ⟨2, 5, t, 0, 0⟩) 32)) := (Below.refl _ _).alloc (Nat.le_refl _) _
          have HV4 := Lib.hid (VBox.new w3 ⟨2, 5, t, 0, 0⟩)
          have HT4 := Lib.hid ((HT2.out.on hB3).on hB4)
          have HR4 := Lib.hid (hB3.trans (hB4.mono hB3.size))
          obtain ⟨W4, hW4⟩ : ∃ W4, W4 = w3.alloc (.cells (cellsV ⟨2, 5, t, 0, 0⟩) 32) := ⟨_, rfl⟩
          rw [← hW4] at HV4 HT4 HR4
          unfold cellsV at hW4
          dsimp only at hW4
          clear hB3 hB4 hO1
          have hO2 := HO.out W4 (.slice none 0 0) [] a HR4.out ⟨none, 0, rfl, by simp, by omega, fun h => by simp at h⟩ (fun x hx => by simp at hx) ⟨by omega, by omega⟩
          rw [← HV2.out] at hO2
          go_upto_region 12 with fail
          rw [← hW4]
          clear hW4
          go_wp2_with fail
          refine hO2.mono ?_
          rintro e w5 ⟨rfl, hB5⟩
          unfold cellsV
          dsimp only
          have hB6 : Below w5.heap.size w5 (w5.alloc (.cells (cellsV ⟨v1, v2, v3, v4, v5⟩) 32)) := (Below.refl _ _).alloc (Nat.le_refl _) _
          have HU6 := Lib.hid (VBox.new w5 ⟨v1, v2, v3, v4, v5⟩)
          have HV6 := Lib.hid ((HV4.out.on hB5).on hB6)
          have HT6 := Lib.hid ((HT4.out.on hB5).on hB6)
          have HR6 := Lib.hid (HR4.out.trans ((hB5.trans (hB6.mono hB5.size)).mono HR4.out.size))
          obtain ⟨W6, hW6⟩ : ∃ W6, W6 = w5.alloc (.cells (cellsV ⟨v1, v2, v3, v4, v5⟩) 32) := ⟨_, rfl⟩
          rw [← hW6] at HU6 HV6 HT6 HR6
          unfold cellsV at hW6
          dsimp only at hW6
          clear hB5 hB6 hO2
          have hB7 : Below W6.heap.size W6 (W6.alloc (.cells #[.int .i64 0] 3)) := (Below.refl _ _).alloc (Nat.le_refl _) _
          have hO3 := HO.out (W6.alloc (.cells #[.int .i64 0] 3)) _ [0] 0 (HR6.out.trans (hB7.mono HR6.out.size)) (int_one W6) (fun x hx => by obtain rfl := List.mem_singleton.1 hx; exact ⟨by decide, by decide⟩) ⟨by decide, by decide⟩
          rw [HF2.out] at hO3
          have HR7 := Lib.hid hB7
          clear hB7
          go_upto_region 13 with fail
          rw [← hW6]
          clear hW6
          go_wp2_with fail
          refine hO3.mono ?_
          rintro e w7 ⟨rfl, hB8⟩
          unfold cellsV Va.zero
          dsimp only
          have hB9 : Below w7.heap.size w7 (w7.alloc (.cells (cellsV Va.zero) 32)) := (Below.refl _ _).alloc (Nat.le_refl _) _
          have hRa := HR7.out.trans ((hB8.trans (hB9.mono hB8.size)).mono HR7.out.size)
          have HU8 := Lib.hid (HU6.out.on hRa)
          have HV8 := Lib.hid (HV6.out.on hRa)
          have HT8 := Lib.hid (HT6.out.on hRa)
          have HB8 := Lib.hid (HB2.out.trans ((HR6.out.trans (hRa.mono HR6.out.size)).mono HB2.out.size))
          obtain ⟨W8, hW8⟩ : ∃ W8, W8 = w7.alloc (.cells (cellsV Va.zero) 32) := ⟨_, rfl⟩
          rw [← hW8] at HU8 HV8 HT8 HB8
          unfold cellsV Va.zero at hW8
          dsimp only at hW8
          clear hB8 hB9 hRa hO3
          go_upto_region 14 with fail
          rw [← hW8]
          clear hW8
          obtain ⟨x0, x1, x2, x3, x4⟩ := HV8.out.cells
          obtain ⟨d0, d1, d2, d3, d4⟩ := HT8.out.cells
          dsimp only at x0 x1 x2 x3 x4
          have j1 : ((t : Int) != (t : Int)) = false := by simp
          by_cases hle : t ≤ a
          · have j2 : (a : Int) ≥ (t : Int) := by omega
            have hf := HF3.out
            rw [if_pos (by rw [← HN.out]; exact hle)] at hf
            obtain rfl : E2 = 20 := congrArg Prod.snd hf
            clear hf
            go_wp2_with fail
            refine (HK.out W8 HB8.out).mono ?_
            rintro e w9 ⟨rfl, hB9⟩
            have HB9 := Lib.hid (HB8.out.trans (hB9.mono HB8.out.size))
            clear hB9
            go_wp2_with fail
            go_ret
            exact ⟨rfl, HB9.out⟩
          · have j2 : ¬ (a : Int) ≥ (t : Int) := by omega
            have hf := HF3.out
            rw [if_neg (by rw [← HN.out]; exact hle)] at hf
            obtain rfl : E2 = 0 := congrArg Prod.snd hf
            obtain rfl : v5 = c[a]?.getD 0 := congrArg (fun p => p.1.word) hf
            have hlt : a < t := by omega
            obtain ⟨b, off, rfl, hbl, hcell⟩ := HR.out (by omega)
            have hyb := HAb.out (c[a]?.getD 0) (by rw [List.getElem?_eq_getElem (by rw [← HN.out]; exact hlt)]; exact List.getElem_mem _)
            have HCa := Lib.hid (fun (X : World) (hX : Below w.heap.size w X) => (hX.cell (p := ⟨b, off + a, none⟩) hbl).trans (hcell a hlt))
            have HKn := Lib.hid (HK.out W8.drew HB8.out.drew)
            have HTr := Lib.hid (fun (X : World) (hX : Below W8.drew.heap.size W8.drew X) => HB8.out.drew.trans (hX.mono HB8.out.drew.size))
            have HUx := Lib.hid (fun (X : World) (hX : Below W8.drew.heap.size W8.drew X) => VBox.on (w := W8.drew) HU8.out hX)
            have hw5 : IntKind.u64.wrap (c[a]?.getD 0) = c[a]?.getD 0 := IntWalk.u64_in _ (by omega)
            have HW5 := Lib.hid hw5
            generalize c[a]?.getD 0 = y at *
            have j3 : (a : Int) < (t : Int) := by omega
            have j4 := HCa.out W8 HB8.out
            obtain ⟨y0, y1, y2, y3, y4⟩ := HU8.out.cells
            dsimp only at y0 y1 y2 y3 y4
            clear hf hcell hw5
            go_upto_region 18 with fail
            go_region_held3 (fun w' => w'.cell? ⟨w5.heap.size, 4, none⟩ = some (.int .u64 y) ∧ w'.cell? ⟨b, off + a, none⟩ = some (.int .u8 y)) (first | exact ⟨z4, j5⟩ | exact ⟨y4, j4⟩) (first
              | (go_at_call 8; with_reducible refine HKn.out.mono ?_; intro e w9 hR; obtain ⟨hR1, hB9⟩ := hR; subst hR1; have j5 := HCa.out w9 (HTr.out w9 hB9); obtain ⟨z0, z1, z2, z3, z4⟩ := (HUx.out w9 hB9).cells; dsimp only at z0 z1 z2 z3 z4; have HB9 := Lib.hid (HTr.out w9 hB9); clear hB9))
            all_goals go_wp2_with fail
            all_goals go_ret
            all_goals exact ⟨by rw [HW5.out]; simp, HB9.out⟩

end Go.Proofs.YtmcnnihhnapjpaaDoor
