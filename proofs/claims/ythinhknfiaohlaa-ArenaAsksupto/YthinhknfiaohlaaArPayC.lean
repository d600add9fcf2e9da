/-
  Layer 7, the landed package: Cut (word by word off the bytes; each segment of memory of its own).
-/
import Derived.Test.YthinhknfiaohlaaArPayA
import Derived.Test.YthinhknfiaohlaaWordGet
import Derived.Deep.RegionLaw
import Derived.WalkMore
namespace Go.Proofs.Ythinhknfiaohlaa
open Go.RowKit Go.Deep

theorem step_app {P : Program} {ops : Array Oper} {o : Oper} {a : Act} {w w' : World} {K : Act → World → Prop} {Q : Exit → Act → World → Prop} {E : Prop} {s x : Operand} {t : TypeId} {v u v' : Value}
    (hrun : (Builtin.append_ #[t, t] o.type #[v, u]).run P w = .ok v' w') (hg : o.guard = none) (hop : o.op = Op.call { callee := Callee.builtin Builtin.append, args := #[s, x], argTypes := #[t, t] }) (hs : a.eval s = v) (hx : a.eval x = u) (hK : K (a.put o.dst v') w') :
    if Region.wanted o (yielded ops a.tmps) = true then Oper.wp P o a w K Q else E := by
  have hw : Region.wanted o (yielded ops a.tmps) = true := by simp [Region.wanted, hg]
  rw [if_pos hw]
  unfold Oper.wp
  simp [execOp, hop, resolve, invoke, builtin, hs, hx, hrun, Result.andThen]
  exact hK

def sLen : Value → Nat
  | .slice _ n _ => n
  | _ => 0
/-- b[8:] -/
theorem Bytes.past8 {w : World} {B b off len cap : Nat} {l : List Int} (h : Bytes w B (.slice (some ⟨b, off, none⟩) len cap) l) (hlen : l.length = len) (hp : 8 ≤ len) : Bytes w B (.slice (if cap = 8 then some ⟨b, off, none⟩ else some ⟨b, off + 8, none⟩) (len - 8) (cap - 8)) (l.drop 8) := by
  obtain ⟨A, c, e, hc, hm, hr⟩ := h
  rw [hlen] at e hc
  cases e
  have hl : (l.drop 8).length = len - 8 := by rw [List.length_drop, hlen]
  refine ⟨_, _, by rw [hl], by omega, by omega, fun h1 => ?_⟩
  rw [hl] at h1
  obtain ⟨b', off', ea, hlt, hcell⟩ := hr (by omega)
  cases ea
  rw [if_neg (by omega)]
  refine ⟨b, off + 8, rfl, hlt, fun j hj => ?_⟩
  rw [hl] at hj
  have := hcell (8 + j) (by omega)
  rw [Nat.add_assoc, this, List.getElem?_drop]

/-- what the call's own row of segments holds when t of them are cut -/
def CutV (w : World) (G : Nat) (l bs : List Int) (t : Nat) (xs : List Value) : Prop :=
  xs.length = l.length ∧ RowV w G 42 xs ∧ (∀ j, j < t → OwnU w (G + 1) (xs[j]?.getD undef) (cutSeg bs (l.take j).sum.toNat (l[j]?.getD 0).toNat)) ∧ ∀ j, t ≤ j → j < l.length → xs[j]?.getD undef = .slice none 0 0
theorem OwnU.form {w : World} {base m : Nat} {v : Value} {xs : List Int} (h : OwnU w base v xs) (hm : xs.length = m) : ∃ A c, v = .slice A m c := by
  obtain ⟨A, c, e, _⟩ := OwnN.numS (q := .u64) (t := 44) h
  exact ⟨A, c, by rw [e, hm]⟩
theorem below_drew_in {a b : World} (h : Below a.drew.heap.size a.drew b) : Below a.heap.size a b := ⟨h.os, h.tape, h.output, h.size, h.block⟩
theorem grown_below {a b : World} (row : Option Nat) (h : Below a.heap.size a b) : a.grownBy b row := ⟨h.os, h.tape, h.output, h.size, fun j hj _ => h.block j hj⟩
theorem cut_step {w1 wx w2 w' : World} {G k ty : Nat} {s v' : Value} {o : Obj} {xs : List Value} {ys ys' : List Int} (hg : w1.grownBy wx (some G)) (hB : Below wx.heap.size wx w2) (ho : OwnU wx w1.heap.size s ys) (hg' : (w2.alloc o).grownBy w' s.ownBlock) (ho' : OwnU w' w1.heap.size v' ys') (hG : G < w1.heap.size) (hr : RowV wx G ty (xs.set k s)) :
    RowV w' G ty (xs.set k s) ∧ RowV (w'.setCell ⟨G, k, none⟩ v') G ty (xs.set k v') ∧ OwnU (w'.setCell ⟨G, k, none⟩ v') w1.heap.size v' ys' ∧ w1.grownBy (w'.setCell ⟨G, k, none⟩ v') (some G) ∧ Below G wx (w'.setCell ⟨G, k, none⟩ v') := by
  have hsz := hg.size
  have hB2 : Below wx.heap.size wx (w2.alloc o) := hB.alloc hB.size o
  have hs2 := hB2.size
  have hown : ∀ k, s.ownBlock = some k → w1.heap.size ≤ k := fun k e => (World.ownsRow.lt ho k e).1
  have h1 : RowV w' G ty (xs.set k s) := (hr.below hB2 (by omega)).of_block (hg'.block G (by omega) (fun e => by have := hown G e.symm; omega))
  refine ⟨h1, ?_, ?_, ?_, ?_⟩
  · have := h1.set k v'
    rw [List.set_set] at this
    exact this
  · exact own_kept2 ho' (grown_set _ _ _ _) (fun g hg3 e => by
      have := (World.ownsRow.lt ho' g hg3).1
      cases e
      omega)
  · refine grown_trans (b := w') ?_ (grown_set _ _ _ _)
    refine ⟨hg'.os.trans (hB2.os.trans hg.os), hg'.tape.trans (hB2.tape.trans hg.tape), hg'.output.trans (hB2.output.trans hg.output), Nat.le_trans hsz (Nat.le_trans hs2 hg'.size), fun j hj hne => ?_⟩
    exact ((hg'.block j (by omega) (fun e => by have := hown j e.symm; omega)).trans (hB2.block j (by omega))).trans (hg.block j hj hne)
  · have b1 : Below G wx (w2.alloc o) := hB2.mono (by omega)
    have b2 : Below G wx w' := b1.grown hg' (by omega) (fun k e => by have := hown k e; omega)
    exact b2.setCell (p := ⟨G, k, none⟩) (Nat.le_refl _) _

set_option maxRecDepth 100000 in
set_option maxHeartbeats 400000 in
theorem acut_any (v u : Value) (l bs : List Int) (w : World) (h : NumS .i64 w w.heap.size v l) (hf : fitsL l = true) (h' : Bytes w w.heap.size u bs) (hb : AllB bs) (hbl : (bs.length : Int) = 8 * l.sum) :
    Calls Try.prog 43 #[v, u] w fun e w' => ∃ x, e = .returned x ∧ OwnA w' w.heap.size x (cutTo l bs l.length) ∧ Below w.heap.size w w' := by
  have HV := Lib.hid h
  have HBs := Lib.hid hb
  have HBL := Lib.hid hbl
  have HFt := Lib.hid (fits_take hf)
  have HFa := Lib.hid (fits_all hf)
  have h16 : l.length ≤ 16 := (fits_all hf).2.1
  obtain ⟨A, c, rfl, hc, hm, -⟩ := h
  have HU := Lib.hid h'
  obtain ⟨A', c', rfl, hc', hm', -⟩ := h'
  obtain ⟨len, hn⟩ : ∃ n, n = l.length := ⟨_, rfl⟩
  obtain ⟨bl, hn'⟩ : ∃ n, n = bs.length := ⟨_, rfl⟩
  have HN := Lib.hid hn
  have HN' := Lib.hid hn'
  rw [← hn] at hc HV h16 ⊢
  rw [← hn'] at hc' HU ⊢
  have hmk := run_make_row' (P := Try.prog) 23 42 (.slice none 0 0) 24 Try.underlying23 Try.info42 rfl .i64 .i64 len (by omega) (by omega)
  have HR0 : Hid (CutV (w.alloc (.cells (madeCells #[Value.slice none 0 0] len) 42)) w.heap.size l bs 0 (List.replicate len (.slice none 0 0))) := Lib.hid (by
    refine ⟨by rw [List.length_replicate, hn], RowV.made w _ _ _, fun j hj => by omega, fun j _ hj => ?_⟩
    rw [List.getElem?_replicate, if_pos (by omega)]
    rfl)
  have HB0 : Hid (Bytes (w.alloc (.cells (madeCells #[Value.slice none 0 0] len) 42)) w.heap.size (.slice A' bl c') bs) := Lib.hid (HU.out.below ((Below.refl _ _).alloc (Nat.le_refl _) _) (Nat.le_refl _))
  clear hb hbl hf hn hn'
  go_enter Try.func43, Try.ntmps43
  go_wp2_with fail
  go_step3
  go_wp2_with fail
  go_step3
  go_wp2_with fail
  go_loopw [1, 13] (fun b i wr => ∃ t : Nat, t ≤ len ∧ i = .int .i64 t ∧ Bytes wr w.heap.size b (bs.drop (8 * (l.take t).sum.toNat)) ∧ (∃ xs, CutV wr w.heap.size l bs t xs) ∧ Below w.heap.size w wr) (fun _ i _ => len - (intOf i).toNat)
  case atStart => exact ⟨0, by omega, rfl, HB0.out, ⟨_, HR0.out⟩, (Below.refl _ _).alloc (Nat.le_refl _) _⟩
  case round =>
    obtain ⟨t, ht, rfl, hby, ⟨xs, hx⟩, hB⟩ := hrel
    have HBy := Lib.hid hby
    have HX := Lib.hid hx
    have HB := Lib.hid hB
    clear hby hx hB
    generalize wr = w1 at *
    by_cases hlt : t < len
    · have HLt := Lib.hid hlt
      have hy0 : 0 ≤ l[t]?.getD 0 := HFa.out.2.2.2.1 _ (by rw [List.getElem?_eq_getElem (by rw [← HN.out]; exact hlt)]; exact List.getElem_mem _)
      obtain ⟨m, hm2⟩ := Int.eq_ofNat_of_zero_le hy0
      have HM := Lib.hid hm2
      have f1 := HFt.out t
      have f2 := HFt.out (t + 1)
      have HE2 : Hid ((l.take (t + 1)).sum.toNat = (l.take t).sum.toNat + m) := Lib.hid (by rw [sum_take_succ (by rw [← HN.out]; exact hlt), hm2]; omega)
      have HSl : Hid (8 * ((l.take t).sum.toNat + m) ≤ bl) := Lib.hid (by
        have h7 := sum_split l (t + 1)
        have h8 : 0 ≤ (l.drop (t + 1)).sum := sum_nonneg (fun s hs => HFa.out.2.2.2.1 s (List.mem_of_mem_drop hs))
        have := HBL.out
        have := HN'.out
        rw [← HE2.out]
        omega)
      obtain ⟨P, hP⟩ : ∃ P, (l.take t).sum.toNat = P := ⟨_, rfl⟩
      have HP := Lib.hid hP
      rw [hP] at HE2 HSl HBy
      have hPm : P + m ≤ 4096 := by have := HE2.out; omega
      obtain ⟨A1, c1, e1, _, _, hr1⟩ := HV.out.on HB.out
      obtain ⟨b1, off1, ea, hb1, hcell1⟩ := hr1 (by rw [← HN.out]; omega)
      have p1 := hcell1 t (by rw [← HN.out]; exact hlt)
      rw [← HN.out] at e1
      cases e1
      subst ea
      rw [hm2] at p1
      have i1 : (t : Int) < (len : Int) := by omega
      have hG : w.heap.size < w1.heap.size := HX.out.2.1.lt
      have HG := Lib.hid hG
      have HS0 : Hid (xs.set t (.slice none 0 0) = xs) := Lib.hid (by
        have h1 := HX.out.2.2.2 t (Nat.le_refl _) (by rw [← HN.out]; exact hlt)
        have h2 : t < xs.length := by rw [HX.out.1, ← HN.out]; exact hlt
        rw [List.getElem?_eq_getElem h2, Option.getD_some] at h1
        rw [← h1, List.set_getElem_self])
      clear hr1 hcell1 hy0 hm2 hP f1 f2 hG
      go_wp2_with fail
      go_loopw [1] (fun b wx => ∃ i : Nat, i ≤ m ∧ ∃ s, Bytes wx w.heap.size b (bs.drop (8 * (P + i))) ∧ RowV wx w.heap.size 42 (xs.set t s) ∧ OwnU wx w1.heap.size s (cutSeg bs P i) ∧ w1.grownBy wx (some w.heap.size)) (fun b _ => sLen b)
      case atStart => exact ⟨0, by omega, .slice none 0 0, by rw [Nat.add_zero]; exact HBy.out, by rw [HS0.out]; exact HX.out.2.1, OwnU.nil _ _, ⟨rfl, rfl, rfl, Nat.le_refl _, fun _ _ _ => rfl⟩⟩
      case round =>
        obtain ⟨i, hi, s, hby, hrow, ho, hg⟩ := hrel
        generalize wr = wx at *
        have HY := Lib.hid hby
        have HRow := Lib.hid hrow
        have HO := Lib.hid ho
        have HGr := Lib.hid hg
        have hk : t < (xs.set t s).length := by rw [List.length_set, HX.out.1, ← HN.out]; exact HLt.out
        have c1 := hrow.cell hk
        rw [show (xs.set t s)[t]?.getD undef = s by rw [List.length_set] at hk; rw [List.getElem?_set_self hk]; rfl] at c1
        obtain ⟨A9, c9, h9⟩ : ∃ A c, s = .slice A i c := by
          obtain ⟨A, c, e, _⟩ := OwnN.numS ho
          rw [cutSeg_length] at e
          exact ⟨A, c, e⟩
        subst h9
        clear hby hrow ho hg
        by_cases hli : i < m
        · have d1 : ((i : Int) == (m : Int)) = false := by rw [beq_eq_false_iff_ne]; omega
          have hbl2 : 8 * (P + i) + 8 ≤ bl := by have := HSl.out; omega
          have hdl : (bs.drop (8 * (P + i))).length = bl - 8 * (P + i) := by rw [List.length_drop, ← HN'.out]
          obtain ⟨A3, c3, e3, g1, g2, hr3⟩ := HY.out
          obtain ⟨b3, off3, ea3, _, _⟩ := hr3 (by omega)
          rw [hdl] at e3 g1
          subst e3
          subst ea3
          have HP8 := Lib.hid (HY.out.past8 hdl (by omega))
          have hY2 : Bytes wx.drew wx.drew.heap.size (.slice (some ⟨b3, off3, none⟩) (bl - 8 * (P + i)) c3) (bs.drop (8 * (P + i))) := HY.out.more (B' := wx.heap.size) (by have := HGr.out.size; have := HG.out; omega)
          have HGet := Lib.hid (get_any _ _ wx.drew hY2 (HBs.out.drop _))
          have HWd : Hid (getV ((bs.drop (8 * (P + i))).take 8) = wordAt bs (P + i)) := Lib.hid rfl
          rw [HWd.out] at HGet
          have HDD : Hid ((bs.drop (8 * (P + i))).drop 8 = bs.drop (8 * (P + (i + 1)))) := Lib.hid (by rw [List.drop_drop]; congr 1)
          have HCS : Hid (cutSeg bs P i ++ [wordAt bs (P + i)] = cutSeg bs P (i + 1)) := Lib.hid (cutSeg_succ bs P i).symm
          have HSP := Lib.hid (fun w2 (hB2 : Below wx.heap.size wx w2) => append_u w2 w1.heap.size 42 (.slice A9 i c9) (cutSeg bs P i) (wordAt bs (P + i)) (HO.out.on hB2) (by rw [cutSeg_length]; omega) (Nat.le_trans HGr.out.size hB2.size))
          obtain ⟨bn, hbn⟩ : ∃ n, n = bl - 8 * (P + i) := ⟨_, rfl⟩
          rw [← hbn] at HGet HP8 g1 HY ⊢
          have hbn8 : 8 ≤ bn := by omega
          have HBN := Lib.hid hbn
          clear hbn
          have HStep := Lib.hid (fun (w2 w' : World) (v' : Value) hB hg' ho' => cut_step (o := .cells #[.int .u64 (wordAt bs (P + i))] 44) (w2 := w2) (w' := w') (v' := v') (ys' := cutSeg bs P i ++ [wordAt bs (P + i)]) HGr.out hB HO.out hg' ho' HG.out HRow.out)
          have HCell := Lib.hid (fun (w2 : World) (hB : Below wx.heap.size wx w2) => (hB.cell (p := ⟨w.heap.size, t, none⟩) HRow.out.lt).trans c1)
          have HLn : Hid ((cutSeg bs P i ++ [wordAt bs (P + i)]).length = i + 1) := Lib.hid (by rw [List.length_append, cutSeg_length]; rfl)
          have HK : Hid (∀ s, t < (xs.set t s).length) := Lib.hid (fun s => by rw [List.length_set]; rw [List.length_set] at hk; exact hk)
          have HKs : Hid (∀ s, (xs.set t s)[t]?.getD undef = s) := Lib.hid (fun s => by have h1 := HK.out s; rw [List.length_set] at h1; rw [List.getElem?_set_self h1]; rfl)
          clear hr3 hdl hbl2 hY2 hk
          generalize wordAt bs (P + i) = wd at *
          have hk2 : (t : Int) < (len : Int) := by omega
          have j1 : (8 : Int) ≤ (bn : Int) := by omega
          have j2 : (8 : Int) ≤ (c3 : Int) := by omega
          go_wp2_with fail
          go_region_law (first | (refine step_app HRun.out rfl rfl rfl rfl ?_) | (go_simp; go_at_call 49; with_reducible refine HGet.out.mono ?_; rintro e w2 ⟨rfl, hB0⟩; have hB2 := below_drew_in hB0; obtain ⟨v', w', hrun, ho', hg'⟩ := HSP.out w2 hB2; have HRun := Lib.hid hrun; obtain ⟨z1, z2, z3, z4, z5⟩ := HStep.out w2 w' v' hB2 hg' ho'; obtain ⟨A7, c7, h7⟩ : ∃ A c, v' = .slice A (i + 1) c := ho'.form HLn.out; subst h7; have k2 := HCell.out w2 hB2; have k3 := HCell.out (w2.alloc (.cells #[.int .u64 wd] 44)) (hB2.alloc hB2.size _); have k4 := z1.cell (j := t) (HK.out _); rw [HKs.out] at k4; have k5 := z1.frozen t; have HZ := Lib.hid (And.intro z2 (And.intro z3 (And.intro z4 z5))); clear z1 z2 z3 z4 z5 hrun ho' hg'))
          all_goals
            have HZ2 : Hid (Bytes _ w.heap.size _ (bs.drop (8 * (P + (i + 1)))) ∧ _) := Lib.hid ⟨by rw [← HDD.out]; exact HP8.out.below HZ.out.2.2.2 (Nat.le_refl _), by have := HZ.out; rw [HCS.out] at this; exact this⟩
            clear HZ
            by_cases hc8 : c3 = 8
            · subst hc8
              obtain rfl : bn = 8 := by omega
              rw [if_pos rfl] at HZ2
              go_wp2_with fail
              go_roundw
              case rel => exact ⟨i + 1, by omega, _, HZ2.out.1, HZ2.out.2.1, HZ2.out.2.2.1, HZ2.out.2.2.2.1⟩
              case measure => simp [sLen]
            · rw [if_neg hc8] at HZ2
              go_wp2_with fail
              go_roundw
              case rel => exact ⟨i + 1, by omega, _, HZ2.out.1, HZ2.out.2.1, HZ2.out.2.2.1, HZ2.out.2.2.2.1⟩
              case measure => simp [sLen]; omega
        · obtain rfl : i = m := by omega
          have d1 : ((i : Int) == (i : Int)) = true := by simp
          have HX2 : Hid (CutV wx w.heap.size l bs (t + 1) (xs.set t (.slice A9 i c9))) := Lib.hid (by
            have hx := HX.out
            refine ⟨by rw [List.length_set]; exact hx.1, HRow.out, fun j hj => ?_, fun j hj hj2 => ?_⟩
            · by_cases e : j = t
              · subst e
                rw [List.length_set] at hk
                rw [List.getElem?_set_self hk, HP.out, HM.out, Option.getD_some]
                exact HO.out.base HG.out
              · rw [List.getElem?_set_ne (fun h => e h.symm)]
                exact own_kept2 (hx.2.2.1 j (by omega)) HGr.out (fun g hg e => by
                  have := (World.ownsRow.lt (hx.2.2.1 j (by omega)) g hg).1
                  cases e
                  omega)
            · rw [List.getElem?_set_ne (by omega)]
              exact hx.2.2.2 j (by omega) hj2)
          have HBx : Hid (Below w.heap.size w wx) := Lib.hid (HB.out.grown HGr.out (Nat.le_of_lt HG.out) (fun k e => by cases e; exact Nat.le_refl _))
          have HY2 : Hid (Bytes wx w.heap.size u1 (bs.drop (8 * (l.take (t + 1)).sum.toNat))) := Lib.hid (by rw [HE2.out]; exact HY.out)
          clear hk
          go_wp2_with fail
          go_roundw
          case rel => exact ⟨t + 1, by omega, by go_num, HY2.out, ⟨_, HX2.out⟩, HBx.out⟩
          case measure => simp [intOf]; omega
    · obtain rfl : t = len := by omega
      have HE : Hid (OwnA w1 w.heap.size (.slice (some ⟨w.heap.size, 0, none⟩) t t) (cutTo l bs t)) := Lib.hid (by
        have hx := HX.out
        refine ⟨xs, by rw [cutTo_length, hx.1, ← HN.out], ?_, fun j hj => ?_⟩
        · rw [cutTo_length]
          exact hx.2.1.owns (Nat.le_refl _) (by rw [hx.1, ← HN.out]) (by unfold maxLen; omega)
        · rw [cutTo_length] at hj
          have e : (cutTo l bs t)[j]?.getD [] = cutSeg bs (l.take j).sum.toNat (l[j]?.getD 0).toNat := by
            unfold cutTo
            rw [List.getElem?_map, List.getElem?_range hj]
            rfl
          rw [e]
          exact (hx.2.2.1 j hj).base (by omega))
      go_wp2_with fail
      rw [Exit.noGoto_ret]
      go_ret
      exact ⟨_, rfl, HE.out, HB.out⟩

end Go.Proofs.Ythinhknfiaohlaa
