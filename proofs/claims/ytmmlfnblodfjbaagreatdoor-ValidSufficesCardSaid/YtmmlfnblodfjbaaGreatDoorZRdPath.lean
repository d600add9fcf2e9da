/-
  Layer 9: the law's Path: what choices say.
-/
import Derived.Test.YtmmlfnblodfjbaaGreatDoorZRdC
import Derived.Test.YtmmlfnblodfjbaaGreatDoorZBuD

namespace Go.Proofs.YtmmlfnblodfjbaaGreatDoor
open Go.RowKit Go.Deep

def stepsC (c : List Int) (t : Nat) : List Int := (c.take t).map (fun x => x % 6)
theorem stepsC_len {c : List Int} {t : Nat} (h : t ≤ c.length) : (stepsC c t).length = t := by simp [stepsC]; omega
theorem stepsC_next {c : List Int} {t : Nat} (h : t < c.length) : stepsC c (t + 1) = stepsC c t ++ [c[t]?.getD 0 % 6] := by
  unfold stepsC
  rw [List.take_add_one, List.getElem?_eq_getElem h, List.map_append]
  rfl
theorem stepsC_pos {c : List Int} {t : Nat} : negs (stepsC c t) = false ∧ All64 (stepsC c t) := by
  have h : ∀ k ∈ stepsC c t, 0 ≤ k ∧ k < 6 := by
    intro k hk
    obtain ⟨x, _, rfl⟩ := List.mem_map.1 hk
    omega
  refine ⟨?_, fun k hk => ⟨by have := h k hk; omega, by have := h k hk; omega⟩⟩
  unfold negs
  rw [List.any_eq_false]
  intro k hk
  have := h k hk
  simp
  omega
theorem PaBox.set0 {w : World} {g : Nat} {v : Value} {i : Int} (h : PaBox w g v i) (u : Value) : PaBox (w.setCell ⟨g, 0, none⟩ u) g u i := by
  have := heap_setCell_same _ g 0 _ _ u h
  unfold PaBox
  rw [this]
  simp
theorem PaBox.frozen {w : World} {g : Nat} {v : Value} {i : Int} (h : PaBox w g v i) (j : Nat) : w.frozen? ⟨g, j, none⟩ = false := by
  unfold PaBox at h
  simp [World.frozen?, h]
theorem PaBox.other {w : World} {g b : Nat} {v : Value} {i : Int} (h : PaBox w g v i) (hne : g ≠ b) (j : Nat) (u : Value) : PaBox (w.setCell ⟨b, j, none⟩ u) g v i := (blk_setCell_other _ _ _ _ hne).trans h
theorem PaBox.kept {w w' : World} {g : Nat} {v : Value} {i : Int} {row : Option Nat} (h : PaBox w g v i) (hg : w.grownBy w' row) (hne : row ≠ some g) : PaBox w' g v i := (hg.block g h.lt (fun e => hne e.symm)).trans h
theorem PaBox.set2 {w : World} {g : Nat} {v : Value} {i : Int} (h : PaBox w g v i) (u : Value) (j : Int) : PaBox ((w.setCell ⟨g, 0, none⟩ u).setCell ⟨g, 1, none⟩ (.int .i64 j)) g u j := by
  have h1 := heap_setCell_same _ g 0 _ _ u h
  have h2 := heap_setCell_same _ g 1 _ _ (.int .i64 j) h1
  unfold PaBox
  rw [h2]
  simp

set_option maxRecDepth 100000 in
set_option maxHeartbeats 4000000 in
theorem path9_any (c : List Int) (v : Value) (q : Nat) (w : World) (h : Bytes w w.heap.size v c) (hb : AllB c) (hq : q ≤ 255) :
    Calls Tryz.prog 19 #[v, .int .u8 q] w fun e w' => ∃ u i, e = .returned (.agg #[u, .int .i64 i]) ∧ In64 i ∧ NumS .i64 w' w'.heap.size u (stepsC c (min c.length 6)) ∧ Below w.heap.size w w' := by
  obtain ⟨A, n, rfl, hc, hm, hr⟩ := h
  obtain ⟨len, hn⟩ : ∃ n, n = c.length := ⟨_, rfl⟩
  rw [← hn] at hc hr ⊢
  have HR := Lib.hid hr
  have HN := Lib.hid hn
  have HBy := Lib.hid hb
  obtain ⟨e1, e2, -⟩ := two_new w #[.slice none 0 0, .int .i64 0] #[.slice none 0 0, .int .i64 ((q : Int) % 12 - 2)] 47 47
  have hB1 : Below w.heap.size w ((w.alloc (.cells #[.slice none 0 0, .int .i64 0] 47)).alloc (.cells #[.slice none 0 0, .int .i64 ((q : Int) % 12 - 2)] 47)) := ((Below.refl _ _).alloc (Nat.le_refl _) _).alloc (by simp) _
  obtain ⟨W1, hW1⟩ : ∃ W1, W1 = (w.alloc (.cells #[.slice none 0 0, .int .i64 0] 47)).alloc (.cells #[.slice none 0 0, .int .i64 ((q : Int) % 12 - 2)] 47) := ⟨_, rfl⟩
  rw [← hW1] at hB1
  have h1 : PaBox W1 w.heap.size (.slice none 0 0) 0 := by rw [hW1]; exact e1
  have h2 : PaBox W1 (w.heap.size + 1) (.slice none 0 0) ((q : Int) % 12 - 2) := by rw [hW1]; exact e2
  have H1 := Lib.hid h1
  have H2 := Lib.hid h2
  have HB1 := Lib.hid hB1
  have hin : In64 ((q : Int) % 12 - 2) := ⟨by omega, by omega⟩
  have HIn := Lib.hid hin
  have HSz : Hid (w.heap.size + 2 ≤ W1.heap.size) := Lib.hid h2.lt
  obtain ⟨M, hM⟩ : ∃ M, M = min len 6 := ⟨_, rfl⟩
  rw [← hM]
  have HM := Lib.hid hM
  clear hr hn hb h1 h2 hB1 e1 e2 hin hM
  go_enter Tryz.func19, Tryz.ntmps19
  go_upto_region 2 with fail
  rw [← hW1]
  clear hW1
  generalize (q : Int) % 12 - 2 = i at *
  go_wp2_with fail
  go_loopw [6] (fun x wr => ∃ t : Nat, t ≤ len ∧ t ≤ 6 ∧ x = .int .i64 t ∧ ∃ A n, PaBox wr (w.heap.size + 1) (.slice A t n) i ∧ PaBox wr w.heap.size (.slice none 0 0) 0 ∧ OwnI wr (w.heap.size + 2) (.slice A t n) (stepsC c t) ∧ Below w.heap.size w wr ∧ w.heap.size + 2 ≤ wr.heap.size) (fun x _ => len - (intOf x).toNat)
  case atStart => exact ⟨0, by omega, by omega, rfl, none, 0, H2.out, H1.out, World.ownsRow_nil _ _ _ _, HB1.out, HSz.out⟩
  case round =>
    obtain ⟨t, ht, ht6, rfl, A', n', hP, hP0, hO, hBr, hzr⟩ := hrel
    generalize wr = w3 at *
    have HP := Lib.hid hP
    have HP0 := Lib.hid hP0
    have HO := Lib.hid hO
    have HBr := Lib.hid hBr
    have HZr := Lib.hid hzr
    clear hP hP0 hO hBr hzr
    by_cases hlt : t < len
    · have i1 : (t : Int) < (len : Int) := by omega
      by_cases h6 : t < 6
      · have i2 : (t : Int) < 6 := by omega
        obtain ⟨b, off, rfl, hbl, hcell⟩ := HR.out (by omega)
        have p1 := (HBr.out.cell (p := ⟨b, off + t, none⟩) hbl).trans (hcell t hlt)
        have hy := HBy.out (c[t]?.getD 0) (by rw [List.getElem?_eq_getElem (by rw [← HN.out]; exact hlt)]; exact List.getElem_mem _)
        have HE : Hid (stepsC c (t + 1) = stepsC c t ++ [c[t]?.getD 0 % 6]) := Lib.hid (stepsC_next (by rw [← HN.out]; exact hlt))
        have HLn : Hid ((stepsC c t).length = t) := Lib.hid (stepsC_len (by rw [← HN.out]; exact ht))
        generalize c[t]?.getD 0 = y at *
        clear hcell hbl
        have ex : y % 6 = IntKind.i64.wrap (y.tmod 6) := by rw [IntWalk.rem_in _ _ hy.1]; exact (IntWalk.i64_in _ (by omega)).symm
        have HEx := Lib.hid ex
        clear ex
        have hOd : OwnI w3.drew (w.heap.size + 2) (.slice A' t n') (stepsC c t) := HO.out
        obtain ⟨v', w4, hrun, ho', hg⟩ := append_int w3.drew (w.heap.size + 2) 45 _ _ (y % 6) hOd (by rw [HLn.out]; omega) HZr.out
        rw [← HE.out] at ho'
        obtain ⟨A2, n2, hv', -⟩ := ho'.numS
        rw [show (stepsC c (t + 1)).length = t + 1 from stepsC_len (by rw [← HN.out]; omega)] at hv'
        subst hv'
        have hown : ∀ k, (Value.slice A' t n').ownBlock = some k → w.heap.size + 2 ≤ k := fun k e => (World.ownsRow.lt HO.out k e).1
        have hPa : PaBox (w3.drew.alloc (.cells #[.int .i64 (y % 6)] 3)) (w.heap.size + 1) (.slice A' t n') i := HP.out.on (B := w3.heap.size) ((Below.refl _ _).drew.alloc (Nat.le_refl _) _) HP.out.lt
        have hPb : PaBox (w3.drew.alloc (.cells #[.int .i64 (y % 6)] 3)) w.heap.size (.slice none 0 0) 0 := HP0.out.on (B := w3.heap.size) ((Below.refl _ _).drew.alloc (Nat.le_refl _) _) HP0.out.lt
        have hP4 := hPa.kept hg (fun e => by have := hown _ e; omega)
        have hP04 := hPb.kept hg (fun e => by have := hown _ e; omega)
        have hBa : Below w.heap.size w (w3.drew.alloc (.cells #[.int .i64 (y % 6)] 3)) := HBr.out.drew.alloc (by have := HZr.out; show _ ≤ w3.heap.size; omega) _
        have hB4 := hBa.grown hg (by have := HZr.out; show _ ≤ (w3.drew.alloc _).heap.size; simp; omega) (fun k e => by have := hown k e; omega)
        have hz4 : w.heap.size + 2 ≤ w4.heap.size := by
          have h1 := hg.size
          have h2 : (w3.drew.alloc (.cells #[.int .i64 (y % 6)] 3)).heap.size = w3.heap.size + 1 := World.size_alloc _ _
          have h3 := HZr.out
          omega
        have HFin : Hid (PaBox (w4.setCell ⟨w.heap.size + 1, 0, none⟩ (.slice A2 (t + 1) n2)) (w.heap.size + 1) (.slice A2 (t + 1) n2) i ∧ PaBox (w4.setCell ⟨w.heap.size + 1, 0, none⟩ (.slice A2 (t + 1) n2)) w.heap.size (.slice none 0 0) 0 ∧ OwnI (w4.setCell ⟨w.heap.size + 1, 0, none⟩ (.slice A2 (t + 1) n2)) (w.heap.size + 2) (.slice A2 (t + 1) n2) (stepsC c (t + 1)) ∧ Below w.heap.size w (w4.setCell ⟨w.heap.size + 1, 0, none⟩ (.slice A2 (t + 1) n2)) ∧ w.heap.size + 2 ≤ (w4.setCell ⟨w.heap.size + 1, 0, none⟩ (.slice A2 (t + 1) n2)).heap.size) := Lib.hid ⟨hP4.set0 _, hP04.other (by omega) _ _, OwnI.setBelow ho' (by omega) _ _, hB4.setCell (p := ⟨w.heap.size + 1, 0, none⟩) (by show w.heap.size ≤ w.heap.size + 1; omega) _, by rw [nblk_setCell]; exact hz4⟩
        rw [HEx.out] at hrun
        have HRun := Lib.hid hrun
        obtain ⟨c1, c2⟩ := HP.out.cells
        obtain ⟨d1, d2⟩ := hP4.cells
        have d3 := hP4.frozen 0
        have q1 := fun o => (HP.out.on (B := w3.heap.size) ((Below.refl w3.heap.size w3).alloc (Nat.le_refl _) o) HP.out.lt).cells.1
        have q2 := fun o => (((Below.refl w3.heap.size w3).alloc (Nat.le_refl _) o).cell (p := ⟨b, off + t, none⟩) (World.block_lt_of_cell? _ _ p1)).trans p1
        clear hrun ho' hg hown hPa hPb hP4 hP04 hBa hB4 hz4 hOd
        go_upto_region 5 with fail
        go_region_law (first | (refine step_app HRun.out rfl rfl rfl rfl ?_))
        all_goals go_wp2_with fail
        all_goals go_roundw
        all_goals first | exact ⟨t + 1, by omega, by omega, by go_num, A2, n2, HFin.out⟩ | (simp [intOf]; omega)
      · have i2 : ¬ (t : Int) < 6 := by omega
        obtain rfl : t = 6 := by omega
        obtain ⟨c1, c2⟩ := HP.out.cells
        obtain ⟨d1, d2⟩ := HP0.out.cells
        have d3 := HP0.out.frozen 0
        have d4 := HP0.out.frozen 1
        have HX := Lib.hid (HP0.out.set2 (.slice A' 6 n') i)
        have HOx := Lib.hid (OwnI.setBelow (OwnI.setBelow HO.out (g := w.heap.size) (by omega) 0 (.slice A' 6 n')) (g := w.heap.size) (by omega) 1 (.int .i64 i)).numS
        have HBx := Lib.hid ((HBr.out.setCell (p := ⟨w.heap.size, 0, none⟩) (Nat.le_refl _) (.slice A' 6 n')).setCell (p := ⟨w.heap.size, 1, none⟩) (Nat.le_refl _) (.int .i64 i))
        have HMin : stepsC c 6 = stepsC c M := by rw [HM.out]; congr 1; omega
        rw [HMin] at HOx
        clear HMin
        go_wp2_with fail
        clear d1 d2 c1 c2
        obtain ⟨d1, d2⟩ := HX.out.cells
        refine bodyPost_ret (v := .agg #[.slice A' 6 n', .int .i64 i]) ?_ rfl ⟨_, _, rfl, HIn.out, HOx.out, HBx.out⟩
        simp [results, Tryz.f19, go_sem, d1, d2]
    · have i1 : ¬ (t : Int) < (len : Int) := by omega
      obtain rfl : t = len := by omega
      obtain ⟨c1, c2⟩ := HP.out.cells
      obtain ⟨d1, d2⟩ := HP0.out.cells
      have d3 := HP0.out.frozen 0
      have d4 := HP0.out.frozen 1
      have HX := Lib.hid (HP0.out.set2 (.slice A' t n') i)
      have HOx := Lib.hid (OwnI.setBelow (OwnI.setBelow HO.out (g := w.heap.size) (by omega) 0 (.slice A' t n')) (g := w.heap.size) (by omega) 1 (.int .i64 i)).numS
      have HBx := Lib.hid ((HBr.out.setCell (p := ⟨w.heap.size, 0, none⟩) (Nat.le_refl _) (.slice A' t n')).setCell (p := ⟨w.heap.size, 1, none⟩) (Nat.le_refl _) (.int .i64 i))
      have HMin : stepsC c t = stepsC c M := by rw [HM.out]; congr 1; omega
      rw [HMin] at HOx
      clear HMin
      go_wp2_with fail
      clear d1 d2 c1 c2
      obtain ⟨d1, d2⟩ := HX.out.cells
      refine bodyPost_ret (v := .agg #[.slice A' t n', .int .i64 i]) ?_ rfl ⟨_, _, rfl, HIn.out, HOx.out, HBx.out⟩
      simp [results, Tryz.f19, go_sem, d1, d2]

end Go.Proofs.YtmmlfnblodfjbaaGreatDoor
