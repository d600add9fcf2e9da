/-
  Layer 7: the document's Cut.
-/
import Derived.Test.YthinhknfiaohlaaArOwn
namespace Go.Proofs.Ythinhknfiaohlaa
open Go.RowKit Go.Deep

def wordAt (bs : List Int) (p : Nat) : Int := getV ((bs.drop (8 * p)).take 8)
def cutSeg (bs : List Int) (p n : Nat) : List Int := (List.range n).map (fun i => wordAt bs (p + i))
def cutTo (l bs : List Int) (t : Nat) : List (List Int) := (List.range t).map (fun j => cutSeg bs (l.take j).sum.toNat (l[j]?.getD 0).toNat)
def cutE (l bs : List Int) : Int := if fitsL l = true then (if (bs.length : Int) = 8 * l.sum then 0 else 10) else 1
def cutR (l bs : List Int) : List (List Int) := if cutE l bs = 0 then cutTo l bs l.length else []
theorem cutSeg_succ (bs : List Int) (p k : Nat) : cutSeg bs p (k + 1) = cutSeg bs p k ++ [wordAt bs (p + k)] := by simp [cutSeg, List.range_succ]
theorem cutTo_succ (l bs : List Int) (t : Nat) : cutTo l bs (t + 1) = cutTo l bs t ++ [cutSeg bs (l.take t).sum.toNat (l[t]?.getD 0).toNat] := by simp [cutTo, List.range_succ]
theorem cutSeg_length (bs : List Int) (p k : Nat) : (cutSeg bs p k).length = k := by simp [cutSeg]
theorem cutTo_length (l bs : List Int) (t : Nat) : (cutTo l bs t).length = t := by simp [cutTo]

/-- b[p:p+8] -/
theorem Bytes.mid {w : World} {B b off len cap p : Nat} {l : List Int} (h : Bytes w B (.slice (some ⟨b, off, none⟩) len cap) l) (hlen : l.length = len) (hp : p + 8 ≤ len) : Bytes w B (.slice (some ⟨b, off + p, none⟩) 8 (cap - p)) ((l.drop p).take 8) := by
  obtain ⟨A, c, e, hc, hm, hr⟩ := h
  rw [hlen] at e
  cases e
  have hl : ((l.drop p).take 8).length = 8 := by rw [List.length_take, List.length_drop]; omega
  refine ⟨_, _, by rw [hl], by omega, by omega, fun _ => ?_⟩
  obtain ⟨b', off', ea, hlt, hcell⟩ := hr (by omega)
  cases ea
  refine ⟨b, off + p, rfl, hlt, fun j hj => ?_⟩
  rw [hl] at hj
  have := hcell (p + j) (by omega)
  rw [Nat.add_assoc, this, List.getElem?_take_of_lt hj, List.getElem?_drop]

set_option maxRecDepth 100000 in
set_option maxHeartbeats 2000000 in
theorem rcut_any (v u : Value) (l bs : List Int) (w : World) (h : NumS .i64 w w.heap.size v l) (hl : All64 l) (h' : Bytes w w.heap.size u bs) (hb : AllB bs) :
    Calls Try.prog 39 #[v, u] w fun e w' => ∃ x, e = .returned (.tuple #[x, .int .i64 (cutE l bs)]) ∧ OwnA w' w.heap.size x (cutR l bs) ∧ Below w.heap.size w w' := by
  have HF := Lib.hid (rfits_any v l _ w h hl)
  have HV := Lib.hid h
  have HU := Lib.hid h'
  obtain ⟨A, c, rfl, hc, hm, hr⟩ := h
  obtain ⟨A', c', rfl, hc', hm', -⟩ := h'
  obtain ⟨len, hn⟩ : ∃ n, n = l.length := ⟨_, rfl⟩
  obtain ⟨bl, hn'⟩ : ∃ n, n = bs.length := ⟨_, rfl⟩
  have HN := Lib.hid hn
  have HN' := Lib.hid hn'
  rw [← hn] at hc HV HF ⊢
  rw [← hn'] at hc' HU ⊢
  have H := Lib.hid hr
  have HL := Lib.hid hl
  have HBs := Lib.hid hb
  clear hr hl hb hn hn'
  cases hf : fitsL l with
  | false =>
    rw [hf] at HF
    have HE : Hid (cutE l bs = 1 ∧ cutR l bs = []) := Lib.hid (by
      have : cutE l bs = 1 := by unfold cutE; rw [hf]; rfl
      exact ⟨this, by unfold cutR; rw [this]; rfl⟩)
    rw [HE.out.1, HE.out.2]
    clear hf HE
    go_enter Try.func39, Try.ntmps39
    go_wp2_with fail
    refine HF.out.mono ?_
    rintro e w' ⟨rfl, rfl⟩
    go_wp2_with fail
    go_ret2
    exact ⟨_, rfl, OwnA.nil _ _, Below.refl _ _⟩
  | true =>
    rw [hf] at HF
    have HFt := Lib.hid (fits_take hf)
    have HFf := Lib.hid hf
    have h16 : len ≤ 16 := by rw [HN.out]; exact (fits_all hf).2.1
    clear hf
    go_enter Try.func39, Try.ntmps39
    go_wp2_with fail
    refine HF.out.mono ?_
    rintro e w' ⟨rfl, rfl⟩
    go_wp2_with fail
    go_loopw [6, 7] (fun s i wr => ∃ t : Nat, t ≤ len ∧ i = .int .i64 t ∧ s = .int .i64 (l.take t).sum ∧ w = wr) (fun _ i _ => len - (intOf i).toNat)
    case atStart => exact ⟨0, by omega, rfl, by simp, rfl⟩
    case round =>
      obtain ⟨t, ht, rfl, rfl, rfl⟩ := hrel
      have f1 := HFt.out t
      obtain ⟨S, hS⟩ : ∃ S, (l.take t).sum = S := ⟨_, rfl⟩
      rw [hS] at f1 ⊢
      have HS := Lib.hid hS
      clear hS
      by_cases hlt : t < len
      · obtain ⟨b, off, rfl, _, hcell⟩ := H.out (by rw [← HN.out]; omega)
        have p1 := hcell t (by rw [← HN.out]; omega)
        have HE : Hid ((l.take (t + 1)).sum = S + l[t]?.getD 0) := Lib.hid (by rw [sum_take_succ (by rw [← HN.out]; omega), HS.out])
        have f2 := HFt.out (t + 1)
        rw [HE.out] at f2
        obtain ⟨y, hy⟩ : ∃ y, l[t]?.getD 0 = y := ⟨_, rfl⟩
        rw [hy] at p1 HE f2
        clear hcell hy
        have i1 : (t : Int) < (len : Int) := by omega
        go_wp2_with fail
        go_roundw
        case rel => exact ⟨t + 1, by omega, by go_num, by rw [HE.out], trivial⟩
        case measure => simp [intOf]; omega
      · obtain rfl : t = len := by omega
        have HSS : Hid (l.sum = S) := Lib.hid (by rw [← HS.out, HN.out, List.take_length])
        have hw8 : IntKind.i64.wrap (8 * S) = 8 * S := IntWalk.i64_in _ (by omega)
        by_cases hbl : (bl : Int) = 8 * S
        · have d0 : ((bl : Int) != 8 * S) = false := by simp [hbl]
          have HE : Hid (cutE l bs = 0 ∧ cutR l bs = cutTo l bs l.length) := Lib.hid (by
            have : cutE l bs = 0 := by unfold cutE; rw [if_pos HFf.out, if_pos (by rw [← HN'.out, HSS.out]; exact hbl)]
            exact ⟨this, by unfold cutR; rw [if_pos this]⟩)
          have HBL := Lib.hid hbl
          clear hbl
          go_wp2_with fail
          go_loopw [8, 9, 10] (fun o a i wr => ∃ q : Nat, q ≤ t ∧ i = .int .i64 q ∧ a = .int .i64 ((8 * (l.take q).sum.toNat : Nat) : Int) ∧ OwnA wr w.heap.size o (cutTo l bs q) ∧ Below w.heap.size w wr) (fun _ _ i _ => t - (intOf i).toNat)
          case atStart => exact ⟨0, by omega, rfl, by simp, OwnA.nil _ _, Below.refl _ _⟩
          case round =>
            obtain ⟨q, hq, rfl, rfl, ho, hB⟩ := hrel
            generalize wr = w1 at *
            have HO := Lib.hid ho
            have HB := Lib.hid hB
            clear ho hB
            by_cases hlt : q < t
            · have HQT := Lib.hid hlt
              have hy0 : 0 ≤ l[q]?.getD 0 := (fits_all HFf.out).2.2.2.1 _ (by rw [List.getElem?_eq_getElem (by rw [← HN.out]; exact hlt)]; exact List.getElem_mem _)
              obtain ⟨m, hm2⟩ := Int.eq_ofNat_of_zero_le hy0
              have HM := Lib.hid hm2
              have f1 := HFt.out q
              have f2 := HFt.out (q + 1)
              have HE2 : Hid ((l.take (q + 1)).sum.toNat = (l.take q).sum.toNat + m) := Lib.hid (by rw [sum_take_succ (by rw [← HN.out]; exact hlt), hm2]; omega)
              have hbound : (l.take q).sum.toNat + m ≤ S.toNat := by
                have h7 := sum_split l (q + 1)
                have h8 : 0 ≤ (l.drop (q + 1)).sum := sum_nonneg (fun s hs => (fits_all HFf.out).2.2.2.1 s (List.mem_of_mem_drop hs))
                rw [← HE2.out]
                have := HSS.out
                omega
              have HSl := Lib.hid hbound
              obtain ⟨P, hP⟩ : ∃ P, (l.take q).sum.toNat = P := ⟨_, rfl⟩
              have HP := Lib.hid hP
              rw [hP] at HE2 HSl
              clear hbound hy0 hm2 hP f1 f2
              have hPm : P + m ≤ 4096 := by have := HSl.out; omega
              obtain ⟨A1, c1, e1, _, _, hr1⟩ := HV.out.on HB.out
              obtain ⟨b1, off1, ea, hb1, hcell1⟩ := hr1 (by rw [← HN.out]; omega)
              have p1 := hcell1 q (by rw [← HN.out]; exact hlt)
              rw [← HN.out] at e1
              cases e1
              subst ea
              rw [HM.out] at p1
              clear hr1 hcell1
              have i1 : (q : Int) < (t : Int) := by omega
              rw [HP.out]
              go_wp2_with fail
              go_loopw [9, 11, 12] (fun a s k wx => ∃ i : Nat, i ≤ m ∧ k = .int .i64 i ∧ a = .int .i64 ((8 * (P + i) : Nat) : Int) ∧ OwnU wx w1.heap.size s (cutSeg bs P i) ∧ Below w1.heap.size w1 wx) (fun _ _ k _ => m - (intOf k).toNat)
              case atStart => exact ⟨0, by omega, rfl, rfl, OwnU.nil _ _, Below.refl _ _⟩
              case round =>
                obtain ⟨i, hi, rfl, rfl, hs, hBx⟩ := hrel
                have HSg := Lib.hid hs
                have HBx := Lib.hid hBx
                have p2 := (hBx.cell (p := ⟨b1, off1 + q, none⟩) hb1).trans p1
                clear hs hBx
                by_cases hli : i < m
                · have HBy := Lib.hid (HU.out.on (bseq HB.out HBx.out))
                  have hbl2 : 8 * (P + i) + 8 ≤ bl := by have := HSl.out; have := HBL.out; omega
                  obtain ⟨A3, c3, e3, _, _, hr3⟩ := HBy.out
                  obtain ⟨b3, off3, ea3, _, _⟩ := hr3 (by rw [← HN'.out]; omega)
                  rw [← HN'.out] at e3
                  cases e3
                  subst ea3
                  have HMid := Lib.hid (HBy.out.mid (p := 8 * (P + i)) HN'.out.symm hbl2)
                  clear hr3
                  go_wp2_with fail
                  refine (getr_any _ ((bs.drop (8 * (P + i))).take 8) _ wr HMid.out ((HBs.out.drop _).take _)).mono ?_
                  rintro e w2 ⟨rfl, rfl⟩
                  have HWd : Hid (getV (((bs.drop (8 * (P + i))).take 8).take 8) = wordAt bs (P + i)) := Lib.hid (by rw [List.take_take]; rfl)
                  rw [HWd.out]
                  obtain ⟨v', w', hrun, ho', hg'⟩ := append_u wr w1.heap.size 42 u11 (cutSeg bs P i) (wordAt bs (P + i)) HSg.out (by rw [cutSeg_length]; omega) HBx.out.size
                  have HRun := Lib.hid hrun
                  have HR : Hid (OwnU w' w1.heap.size v' (cutSeg bs P (i + 1)) ∧ Below w1.heap.size w1 w') := Lib.hid ⟨by rw [cutSeg_succ]; exact ho', (HBx.out.alloc HBx.out.size _).grown hg' (by have := HBx.out.size; simp; omega) (fun k e => (World.ownsRow.lt HSg.out k e).1)⟩
                  clear hrun ho' hg'
                  generalize wordAt bs (P + i) = wd at *
                  go_wp2_with (at_builtin; refine Lib.wpList_append_run _ rfl _ _ _ _ rfl _ _ rfl rfl _ _ HRun.out ?_)
                  go_roundw
                  case rel => exact ⟨i + 1, by omega, by go_num, by go_num, HR.out.1, HR.out.2⟩
                  case measure => simp [intOf]; omega
                · obtain rfl : i = m := by omega
                  have hO1 := HO.out.on HBx.out
                  have hB1 := bseq HB.out HBx.out
                  obtain ⟨v', w', hrun, ho', hg'⟩ := append_seg wr w.heap.size 23 u8 u11 (cutTo l bs q) (cutSeg bs P i) hO1 (HSg.out.base HB.out.size) (by rw [cutTo_length]; omega) hB1.size
                  have HRun := Lib.hid hrun
                  have HR : Hid (OwnA w' w.heap.size v' (cutTo l bs (q + 1)) ∧ Below w.heap.size w w') := Lib.hid ⟨by rw [cutTo_succ, HP.out, HM.out]; exact ho', (hB1.alloc hB1.size _).grown hg' (by have := hB1.size; simp; omega) (fun k e => by
                    obtain ⟨vs, _, h2, _⟩ := hO1
                    exact (World.ownsRow.lt h2 k e).1)⟩
                  obtain ⟨A9, c9, h9⟩ : ∃ A c, u11 = .slice A i c := by
                    obtain ⟨A, c, e, _⟩ := OwnN.numS HSg.out
                    rw [cutSeg_length] at e
                    exact ⟨A, c, e⟩
                  subst h9
                  clear hrun ho' hg' hO1
                  go_wp2_with (at_builtin; refine Lib.wpList_append_run _ rfl _ _ _ _ rfl _ _ rfl rfl _ _ HRun.out ?_)
                  go_roundw
                  case rel => exact ⟨q + 1, by omega, by go_num, by rw [HE2.out]; simp, HR.out.1, HR.out.2⟩
                  case measure => simp [intOf]; omega
            · obtain rfl : q = t := by omega
              have HE2 : Hid (cutTo l bs q = cutR l bs) := Lib.hid (by rw [HE.out.2, HN.out])
              go_wp2_with fail
              go_ret2
              exact ⟨_, by rw [HE.out.1]; rfl, by rw [← HE2.out]; exact HO.out, HB.out⟩
        · have d0 : ((bl : Int) != 8 * S) = true := by simpa using hbl
          have HE : Hid (cutE l bs = 10 ∧ cutR l bs = []) := Lib.hid (by
            have : cutE l bs = 10 := by unfold cutE; rw [if_pos HFf.out, if_neg (by rw [← HN'.out, HSS.out]; exact hbl)]
            exact ⟨this, by unfold cutR; rw [this]; rfl⟩)
          clear hbl
          go_wp2_with fail
          go_ret2
          exact ⟨_, by rw [HE.out.1]; rfl, by rw [HE.out.2]; exact OwnA.nil _ _, Below.refl _ _⟩

end Go.Proofs.Ythinhknfiaohlaa
