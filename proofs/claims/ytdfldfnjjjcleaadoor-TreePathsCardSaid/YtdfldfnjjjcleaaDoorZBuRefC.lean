/-
  Layer 8: the document's builder: a thing's own words.
-/
import Derived.Test.YtdfldfnjjjcleaaDoorZZerosU
import Derived.Test.YtdfldfnjjjcleaaDoorZSeq
import Derived.Test.YtdfldfnjjjcleaaDoorZBuRefA

namespace Go.Proofs.YtdfldfnjjjcleaaDoor
open Go.RowKit Go.Deep

/-- b[p:p+m] -/
theorem Bytes.part {w : World} {B b off len cap p m : Nat} {l : List Int} (h : Bytes w B (.slice (some ⟨b, off, none⟩) len cap) l) (hlen : l.length = len) (hp : p + m ≤ len) (h0 : 0 < m) : Bytes w B (.slice (some ⟨b, off + p, none⟩) m (cap - p)) ((l.drop p).take m) := by
  obtain ⟨A, c, e, hc, hm, hr⟩ := h
  rw [hlen] at e
  cases e
  have hl : ((l.drop p).take m).length = m := by rw [List.length_take, List.length_drop]; omega
  refine ⟨_, _, by rw [hl], by omega, by omega, fun _ => ?_⟩
  obtain ⟨b', off', ea, hlt, hcell⟩ := hr (by omega)
  cases ea
  refine ⟨b, off + p, rfl, hlt, fun j hj => ?_⟩
  rw [hl] at hj
  have := hcell (p + j) (by omega)
  rw [Nat.add_assoc, this, List.getElem?_take_of_lt hj, List.getElem?_drop]
theorem wordsB_len (bs : List Int) : (wordsB bs).length = (bs.length + 7) / 8 := by simp [wordsB]
theorem wordsB_take {bs : List Int} {q : Nat} (h : q < (bs.length + 7) / 8) : (wordsB bs).take (q + 1) = (wordsB bs).take q ++ [wordB bs q] := by
  rw [List.take_add_one]
  congr 1
  rw [wordsB_eq, List.getElem?_map, List.getElem?_range h]
  rfl

set_option maxRecDepth 100000 in
set_option maxHeartbeats 1000000 in
theorem rcontent_any (k z : Int) (ws bs : List Int) (ks : List Tr) (v : Value) (w : World) (h : TrV w w.heap.size (.mk k z ws bs ks) v) :
    Calls Tryd.prog 64 #[v] w fun e w' => ∃ A n c, e = .returned (.slice A n c) ∧ NumS .u64 w' w'.heap.size (.slice A n c) (contentT (.mk k z ws bs ks)) ∧ Below w.heap.size w w' := by
  obtain ⟨A1, c1, A2, c2, A3, c3, rfl, hg, h1, h2, hk3, hk4, -⟩ := h.parts
  obtain ⟨g1, g2, g3, g4, g5, -, hbb⟩ := hg
  clear h
  have hct : contentT (.mk k z ws bs ks) = ws ++ wordsB bs ++ List.replicate ks.length 0 := rfl
  rw [hct]
  clear hct
  obtain ⟨nk, hnk⟩ : ∃ nk, nk = ks.length := ⟨_, rfl⟩
  obtain ⟨nw, hnw⟩ : ∃ nw, nw = ws.length := ⟨_, rfl⟩
  obtain ⟨nb, hnb⟩ : ∃ nb, nb = bs.length := ⟨_, rfl⟩
  obtain ⟨nq, hnq⟩ : ∃ nq, nq = (nb + 7) / 8 := ⟨_, rfl⟩
  rw [← hnk] at g5 hk3 ⊢
  obtain ⟨W1, hW1⟩ : ∃ W1, W1 = w.alloc (.cells (cellsT k z (.slice A1 ws.length c1) (.slice A2 bs.length c2) (.slice A3 nk c3)) 37) := ⟨_, rfl⟩
  have hB1 : Below w.heap.size w W1 := by rw [hW1]; exact (Below.refl _ _).alloc (Nat.le_refl _) _
  have hT1 : TBox W1 w.heap.size k z (.slice A1 ws.length c1) (.slice A2 bs.length c2) (.slice A3 nk c3) := by rw [hW1]; exact TBox.new _ _ _ _ _ _
  obtain ⟨v2, w2, hrun, ho2, hg2⟩ := append_words W1 W1.heap.size w.heap.size 34 (.slice none 0 0) [] (.slice A1 ws.length c1) ws (OwnU.nil _ _) (h1.below hB1 (Nat.le_refl _)) (by simp; omega) (Nat.le_refl _)
  rw [List.nil_append] at ho2
  have hB12 : Below W1.heap.size W1 w2 := (Below.refl _ _).grown hg2 (Nat.le_refl _) (fun k e => by cases e)
  have hzz : w.heap.size + 1 ≤ W1.heap.size := by rw [hW1]; simp
  have HO2 := Lib.hid ho2
  have HB12 := Lib.hid hB12
  have HB1 := Lib.hid hB1
  have HT := Lib.hid hT1
  have HRun2 := Lib.hid hrun
  have HBy := Lib.hid (fun X (hX : Below W1.heap.size W1 X) => (h2.below hB1 (Nat.le_refl _)).below (hX.mono (by omega)) (Nat.le_refl w.heap.size))
  have HAll := Lib.hid hbb
  have HNw := Lib.hid hnw
  have HNb := Lib.hid hnb
  have HNq := Lib.hid hnq
  rw [← hnw] at hW1 HT HRun2 g3 ⊢
  rw [← hnb] at hW1 HT HBy g4 ⊢
  have hv2 : ∃ A c, v2 = .slice A nw c := by
    obtain ⟨A, c, e, _⟩ := OwnN.numS ho2
    exact ⟨A, c, by rw [e, hnw]⟩
  obtain ⟨Av, cv, rfl⟩ := hv2
  obtain ⟨x0, x1, x2, x3, x4⟩ := HT.out.cells
  have hN8 : nq ≤ 125001 := by omega
  clear hT1 hB1 hB12 hg2 ho2 hrun h1 h2 hnk hnw hbb hnb
  unfold cellsT at hW1 ⊢
  go_enter Tryd.func64, Tryd.ntmps64
  go_upto_region 1 with fail
  rw [← hW1]
  clear hW1 hnq
  go_wp2_with (at_builtin; refine Lib.wpList_append_run _ rfl _ _ _ _ rfl _ _ rfl rfl _ _ HRun2.out ?_)
  clear x0 x1 x2 x3 x4
  go_loopw [3, 4] (fun s3 i wr => ∃ q : Nat, q ≤ nq ∧ i = .int .i64 ((8 * q : Nat) : Int) ∧ (∃ A c, s3 = .slice A (nw + q) c ∧ OwnU wr W1.heap.size s3 (ws ++ (wordsB bs).take q)) ∧ Below W1.heap.size W1 wr) (fun _ i _ => 8 * nq - (intOf i).toNat)
  case atStart => exact ⟨0, by omega, rfl, ⟨Av, cv, rfl, by simpa using HO2.out⟩, HB12.out⟩
  case round =>
    obtain ⟨q, hq, rfl, ⟨A, c, rfl, ho⟩, hBr⟩ := hrel
    generalize wr = w3 at *
    have HO := Lib.hid ho
    have HBr := Lib.hid hBr
    obtain ⟨x0, x1, x2, x3, x4⟩ := (HT.out.on hBr).cells
    have hnq2 := HNq.out
    clear ho hBr
    by_cases hlt : q < nq
    · have i1 : ((8 * q : Nat) : Int) < (nb : Int) := by omega
      obtain ⟨M, hM⟩ : ∃ M : Nat, M = if 8 * q + 8 ≤ nb then 8 else nb - 8 * q := ⟨_, rfl⟩
      have hM2 : 8 * q + M ≤ nb ∧ 0 < M ∧ M ≤ 8 := by rw [hM]; split <;> omega
      have hy := HBy.out _ HBr.out
      obtain ⟨A5, c5, e5, hc5, hm5, hr5⟩ := hy
      rw [← HNb.out] at e5 hc5 hr5
      obtain ⟨b, off, ea, hb, hcell⟩ := hr5 (by omega)
      subst ea
      cases e5
      have hPart := (HBy.out _ HBr.out).part (p := 8 * q) (m := M) HNb.out.symm (by omega) (by omega)
      have hwd : getV (((bs.drop (8 * q)).take M).take 8) = wordB bs q := by
        unfold wordB
        congr 1
        rw [List.take_take, hM]
        by_cases e : 8 * q + 8 ≤ nb
        · rw [if_pos e]; rfl
        · rw [if_neg e, show min 8 (nb - 8 * q) = nb - 8 * q by omega]
          rw [List.take_of_length_le (by rw [List.length_drop, ← HNb.out]; exact Nat.le_refl _), List.take_of_length_le (by rw [List.length_drop, ← HNb.out]; omega)]
      have hGet := getr_any _ _ _ w3 hPart (fun x hx => HAll.out x (List.mem_of_mem_drop (List.mem_of_mem_take hx)))
      rw [hwd] at hGet
      have HGet := Lib.hid hGet
      have hql : (ws ++ (wordsB bs).take q).length = nw + q := by rw [List.length_append, ← HNw.out, List.length_take, wordsB_len, ← HNb.out, ← hnq2]; omega
      obtain ⟨v', w', hrun, ho', hg'⟩ := append_u w3 W1.heap.size 34 (.slice A (nw + q) c) (ws ++ (wordsB bs).take q) (wordB bs q) HO.out (by rw [hql]; omega) HBr.out.size
      rw [List.append_assoc, ← wordsB_take (by rw [← HNb.out, ← hnq2]; exact hlt)] at ho'
      have hsl : ∃ A c, v' = .slice A (nw + (q + 1)) c := by
        obtain ⟨A, c, e, _⟩ := OwnN.numS ho'
        exact ⟨A, c, by rw [e, List.length_append, ← HNw.out, List.length_take, wordsB_len, ← HNb.out, ← hnq2, show min (q + 1) nq = q + 1 by omega]⟩
      obtain ⟨A', c', rfl⟩ := hsl
      have HR : Hid (OwnU w' W1.heap.size (.slice A' (nw + (q + 1)) c') (ws ++ (wordsB bs).take (q + 1)) ∧ Below W1.heap.size W1 w') := Lib.hid ⟨ho', (HBr.out.alloc HBr.out.size _).grown hg' (by have := HBr.out.size; simp; omega) (fun k e => (World.ownsRow.lt HO.out k e).1)⟩
      have HRun := Lib.hid hrun
      clear hrun ho' hg' hGet hPart hwd hql hcell hr5 hnq2
      generalize wordB bs q = wd at *
      by_cases e8 : 8 * q + 8 ≤ nb
      · rw [if_pos e8] at hM
        subst hM
        have j1 : ((8 * q : Nat) : Int) + 8 ≤ (nb : Int) := by omega
        have j2 : ¬ (nb : Int) < ((8 * q : Nat) : Int) + 8 := by omega
        clear hM2
        go_wp2_with fail
        refine HGet.out.mono ?_
        rintro e w5 ⟨rfl, rfl⟩
        go_wp2_with (at_builtin; refine Lib.wpList_append_run _ rfl _ _ _ _ rfl _ _ rfl rfl _ _ HRun.out ?_)
        go_roundw
        case rel => exact ⟨q + 1, by omega, by go_num, ⟨_, _, rfl, HR.out.1⟩, HR.out.2⟩
        case measure => simp [intOf]; omega
      · rw [if_neg e8] at hM
        subst hM
        have j1 : ¬ ((8 * q : Nat) : Int) + 8 ≤ (nb : Int) := by omega
        have j2 : (nb : Int) < ((8 * q : Nat) : Int) + 8 := by omega
        clear hM2
        go_wp2_with fail
        refine HGet.out.mono ?_
        rintro e w5 ⟨rfl, rfl⟩
        go_wp2_with (at_builtin; refine Lib.wpList_append_run _ rfl _ _ _ _ rfl _ _ rfl rfl _ _ HRun.out ?_)
        go_roundw
        case rel => exact ⟨q + 1, by omega, by go_num, ⟨_, _, rfl, HR.out.1⟩, HR.out.2⟩
        case measure => simp [intOf]; omega
    · obtain rfl : q = nq := by omega
      have i1 : ¬ ((8 * q : Nat) : Int) < (nb : Int) := by omega
      have hqb : (wordsB bs).take q = wordsB bs := List.take_of_length_le (by rw [wordsB_len, ← HNb.out, ← hnq2]; exact Nat.le_refl _)
      have ho := HO.out
      rw [hqb] at ho
      have hwl : (ws ++ wordsB bs).length = nw + q := by rw [List.length_append, ← HNw.out, wordsB_len, ← HNb.out, ← hnq2]
      unfold OwnU OwnN at ho
      obtain ⟨v', w', hrun, ho', hg'⟩ := append_zerosU w3 W1.heap.size 34 (.slice A (nw + q) c) _ nk _ ho (by rw [hwl]; omega) HBr.out.size
      have hN : OwnU w' W1.heap.size v' (ws ++ wordsB bs ++ List.replicate nk 0) := by
        unfold OwnU OwnN
        rw [List.length_append, List.length_replicate, List.map_append, List.map_replicate]
        exact ho'
      obtain ⟨A', c', rfl⟩ : ∃ A c, v' = .slice A (nw + q + nk) c := by
        obtain ⟨A, c, e, _⟩ := OwnN.numS hN
        exact ⟨A, c, by rw [e, List.length_append, List.length_replicate, hwl]⟩
      have hN2 := OwnN.numS hN
      rw [List.append_assoc] at hN2
      have HFin := Lib.hid (And.intro hN2 (HB1.out.trans ((HBr.out.grown hg' HBr.out.size (fun k e => (World.ownsRow.lt ho k e).1)).mono (by omega))))
      have HRun := Lib.hid hrun
      clear hN hN2 hrun ho' hg' ho hwl hqb hnq2
      go_wp2_with (at_builtin; refine Lib.wpList_append_run _ rfl _ _ _ _ rfl _ _ rfl rfl _ _ HRun.out ?_)
      go_ret
      exact ⟨_, _, _, rfl, HFin.out⟩

end Go.Proofs.YtdfldfnjjjcleaaDoor
