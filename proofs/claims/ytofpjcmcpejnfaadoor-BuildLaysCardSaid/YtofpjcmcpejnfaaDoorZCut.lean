/-
  Layer 7: the document's Cut.
-/
import Derived.Test.YtofpjcmcpejnfaaDoorZAr
import Derived.Test.YtofpjcmcpejnfaaDoorZWord

namespace Go.Proofs.YtofpjcmcpejnfaaDoor
open Go.RowKit Go.Deep

def wordAt (bs : List Int) (p : Nat) : Int := getV ((bs.drop (8 * p)).take 8)
def cutSeg (bs : List Int) (p n : Nat) : List Int := (List.range n).map (fun i => wordAt bs (p + i))
def cutTo (l bs : List Int) (t : Nat) : List (List Int) := (List.range t).map (fun j => cutSeg bs (l.take j).sum.toNat (l[j]?.getD 0).toNat)
def cutE (l bs : List Int) : Int := if fitsL l = true then (if (bs.length : Int) = 8 * l.sum then 0 else 10) else 1
def cutR (l bs : List Int) : List (List Int) := if cutE l bs = 0 then cutTo l bs l.length else []
theorem cutSeg_succ (bs : List Int) (p k : Nat) : cutSeg bs p (k + 1) = cutSeg bs p k ++ [wordAt bs (p + k)] := by simp [cutSeg, List.range_succ]
theorem cutTo_succ (l bs : List Int) (t : Nat) : cutTo l bs (t + 1) = cutTo l bs t ++ [cutSeg bs (l.take t).sum.toNat (l[t]?.getD 0).toNat] := by simp [cutTo, List.range_succ]
theorem cutSeg_length (bs : List Int) (p k : Nat) : (cutSeg bs p k).length = k := by simp [cutSeg]
theorem cutTo_length (l bs : List Int) (t : Nat) : (cutTo l bs t).length = t := by simp [cutTo]

/-- b[p:p+8] -/
theorem Bytes.mid {w : World} {B b off len cap p : Nat} {l : List Int} (h : Bytes w B (.slice (some ⟨b, off, none⟩) len cap) l) (hlen : l.length = len) (hp : p + 8 ≤ len) : Bytes w B (.slice (some ⟨b, off + p, none⟩) 8 (cap - p)) ((l.drop p).take 8) := by
  obtain ⟨A, c, e, hc, hm, hr⟩ := h
  rw [hlen] at e
  cases e
  have hl : ((l.drop p).take 8).length = 8 := by rw [List.length_take, List.length_drop]; omega
  refine ⟨_, _, by rw [hl], by omega, by omega, fun _ => ?_⟩
  obtain ⟨b', off', ea, hlt, hcell⟩ := hr (by omega)
  cases ea
  refine ⟨b, off + p, rfl, hlt, fun j hj => ?_⟩
  rw [hl] at hj
  have := hcell (p + j) (by omega)
  rw [Nat.add_assoc, this, List.getElem?_take_of_lt hj, List.getElem?_drop]

end Go.Proofs.YtofpjcmcpejnfaaDoor

namespace Go.Proofs.YtofpjcmcpejnfaaDoor
open Go.RowKit Go.Deep

/-- an arena of a modest size -/
def Sm (ls : List (List Int)) : Prop := ls.length ≤ 1000000000 ∧ (sizesL ls).sum ≤ 1000000000 ∧ AllU ls

theorem bsq {a b c : World} (h : Below a.heap.size a b) (k : Below b.heap.size b c) : Below a.heap.size a c := h.trans (k.mono h.size)

end Go.Proofs.YtofpjcmcpejnfaaDoor

namespace Go.Proofs.YtofpjcmcpejnfaaDoor
open Go.RowKit Go.Deep

/-- block g is a row, none of it frozen, that holds just the values xs -/
def RowV (w : World) (g t : Nat) (xs : List Value) : Prop := w.heap[g]? = some (.cells xs.toArray t (0, 0))
theorem RowV.lt {w : World} {g t : Nat} {xs : List Value} (h : RowV w g t xs) : g < w.heap.size := (Array.getElem?_eq_some_iff.1 h).1
theorem RowV.cell {w : World} {g t : Nat} {xs : List Value} (h : RowV w g t xs) {j : Nat} (hj : j < xs.length) : w.cell? ⟨g, j, none⟩ = some (xs[j]?.getD undef) := by
  unfold RowV at h
  simp [World.cell?, h, hj]
theorem RowV.frozen {w : World} {g t : Nat} {xs : List Value} (h : RowV w g t xs) (j : Nat) : w.frozen? ⟨g, j, none⟩ = false := by
  unfold RowV at h
  simp [World.frozen?, h]
theorem RowV.of_block {w w' : World} {g t : Nat} {xs : List Value} (h : RowV w g t xs) (e : w'.heap[g]? = w.heap[g]?) : RowV w' g t xs := e.trans h
theorem RowV.below {w w' : World} {g t B : Nat} {xs : List Value} (h : RowV w g t xs) (hb : Below B w w') (hg : g < B) : RowV w' g t xs := h.of_block (hb.block g hg)
theorem RowV.set {w : World} {g t : Nat} {xs : List Value} (h : RowV w g t xs) (i : Nat) (v : Value) : RowV (w.setCell ⟨g, i, none⟩ v) g t (xs.set i v) := by
  unfold RowV at h ⊢
  simp [World.setCell, Array.getElem?_modify, h]
theorem RowV.other {w : World} {g g' t : Nat} {xs : List Value} (h : RowV w g t xs) (hne : g ≠ g') (j : Nat) (v : Value) : RowV (w.setCell ⟨g', j, none⟩ v) g t xs := h.of_block (blk_setCell_other _ _ _ _ hne)
theorem RowV.made (w : World) (t : Nat) (z : Value) (n : Nat) : RowV (w.alloc (.cells (madeCells #[z] n) t)) w.heap.size t (List.replicate n z) := by
  unfold RowV
  rw [blk_alloc_new]
  congr 2
  apply Array.ext'
  rw [toList_madeCells_one]
theorem RowV.owns {w : World} {g t base n : Nat} {xs : List Value} (h : RowV w g t xs) (hb : base ≤ g) (hn : xs.length = n) (hm : n ≤ maxLen) : w.ownsRow base t 1 (.slice (some ⟨g, 0, none⟩) n n) n xs :=
  ⟨by rw [hn, Nat.mul_one], .inr ⟨g, n, xs.toArray, rfl, hb, h, Nat.le_refl _, hm, by simp [hn], by subst hn; simp⟩⟩

/-! ### Sizes, Words -/
/-- the first t sizes are there; behind them noughts -/
def sizesTo (ls : List (List Int)) (t : Nat) : List Value := ((sizesL ls).take t).map (Value.int .i64) ++ List.replicate (ls.length - t) (.int .i64 0)
theorem sizesTo_length {ls : List (List Int)} {t : Nat} (h : t ≤ ls.length) : (sizesTo ls t).length = ls.length := by
  unfold sizesTo
  rw [List.length_append, List.length_map, List.length_take, List.length_replicate, sizesL_length]
  omega
theorem sizesTo_succ {ls : List (List Int)} {t : Nat} (h : t < ls.length) : (sizesTo ls t).set t (.int .i64 ((ls[t]?.getD []).length : Int)) = sizesTo ls (t + 1) := by
  have e : (((sizesL ls).take t).map (Value.int .i64)).length = t := by rw [List.length_map, List.length_take, sizesL_length]; omega
  unfold sizesTo
  rw [List.set_append, if_neg (by omega), e, Nat.sub_self, sizesL_take h, List.map_append, List.append_assoc]
  obtain ⟨k, hk⟩ : ∃ k, ls.length - t = k + 1 := ⟨ls.length - t - 1, by omega⟩
  rw [hk, show ls.length - (t + 1) = k by omega, List.replicate_succ, List.set_cons_zero]
  rfl
theorem sizesTo_end {ls : List (List Int)} {t : Nat} (h : t = ls.length) : sizesTo ls t = (sizesL ls).map (Value.int .i64) := by
  subst h
  unfold sizesTo
  rw [Nat.sub_self, List.replicate_zero, List.append_nil, ← sizesL_length, List.take_length]

set_option maxRecDepth 100000 in
set_option maxHeartbeats 1000000 in
theorem asizes_anyL (v : Value) (ls : List (List Int)) (w : World) (h : ArV w w.heap.size v ls) (hs : ls.length ≤ 1000000000) :
    Calls Tryd.prog 58 #[v] w fun e w' => ∃ u, e = .returned u ∧ OwnI w' w.heap.size u (sizesL ls) ∧ Below w.heap.size w w' := by
  have HV := Lib.hid h
  have hlen := hs
  obtain ⟨A, c, rfl, hc, hm, hr⟩ := h
  obtain ⟨len, hn⟩ : ∃ n, n = ls.length := ⟨_, rfl⟩
  rw [← hn] at hc hlen ⊢
  have HN := Lib.hid hn
  rw [← hn] at HV
  have hmk := run_make_row' (P := Tryd.prog) 96 3 (.int .i64 0) 8 Tryd.underlying96 Tryd.info3 rfl .i64 .i64 len (by omega) (by omega)
  have HR0 : Hid (RowV (w.alloc (.cells (madeCells #[Value.int .i64 0] len) 3)) w.heap.size 3 (sizesTo ls 0)) := Lib.hid (by
    unfold sizesTo
    rw [← hn]
    exact RowV.made w _ _ _)
  clear hr hn hs
  go_enter Tryd.func58, Tryd.ntmps58
  go_wp2_with fail
  go_loopw [11] (fun i wr => ∃ t : Nat, t ≤ len ∧ i = .int .i64 t ∧ RowV wr w.heap.size 3 (sizesTo ls t) ∧ Below w.heap.size w wr) (fun i _ => len - (intOf i).toNat)
  case atStart => exact ⟨0, by omega, rfl, HR0.out, (Below.refl _ _).alloc (Nat.le_refl _) _⟩
  case round =>
    obtain ⟨t, ht, rfl, ho, hB⟩ := hrel
    have HO := Lib.hid ho
    have HB := Lib.hid hB
    by_cases hlt : t < len
    · obtain ⟨b, off, A1, c1, rfl, p1, k1, -⟩ := below_cells HV.out HB.out rfl (j := t) (by rw [← HN.out]; exact hlt)
      have q1 := ho.cell (j := t) (by rw [sizesTo_length (by rw [← HN.out]; omega), ← HN.out]; exact hlt)
      have q2 := ho.frozen t
      obtain ⟨z, hz⟩ : ∃ z, (sizesTo ls t)[t]?.getD undef = z := ⟨_, rfl⟩
      rw [hz] at q1
      have HS : Hid ((sizesTo ls t).set t (.int .i64 ((ls[t]?.getD []).length : Int)) = sizesTo ls (t + 1)) := Lib.hid (sizesTo_succ (by rw [← HN.out]; exact hlt))
      obtain ⟨m, hm1⟩ : ∃ m, (ls[t]?.getD []).length = m := ⟨_, rfl⟩
      rw [hm1] at p1 k1 HS
      have i1 : (t : Int) < (len : Int) := by omega
      clear ho hB hz hm1
      go_wp2_with fail
      go_roundw
      case rel => exact ⟨t + 1, by omega, by go_num, by rw [← HS.out]; exact HO.out.set t _, HB.out.setCell (p := ⟨w.heap.size, t, none⟩) (Nat.le_refl _) _⟩
      case measure => simp [intOf]; omega
    · obtain rfl : t = len := by omega
      have HE : Hid (OwnI wr w.heap.size (.slice (some ⟨w.heap.size, 0, none⟩) t t) (sizesL ls)) := Lib.hid (by
        have := HO.out
        rw [sizesTo_end HN.out] at this
        unfold OwnI OwnN
        rw [sizesL_length, ← HN.out]
        exact this.owns (Nat.le_refl _) (by rw [List.length_map, sizesL_length]; exact HN.out.symm) (by unfold maxLen; omega))
      clear ho hB
      go_wp2_with fail
      go_ret
      exact ⟨_, rfl, HE.out, HB.out⟩

theorem asizes_any (v : Value) (ls : List (List Int)) (w : World) (h : ArV w w.heap.size v ls) (hs : Sm ls) :
    Calls Tryd.prog 58 #[v] w fun e w' => ∃ u, e = .returned u ∧ OwnI w' w.heap.size u (sizesL ls) ∧ Below w.heap.size w w' := asizes_anyL v ls w h hs.1

/-! ### Fits, Right -/
set_option maxRecDepth 100000 in
set_option maxHeartbeats 1000000 in
theorem afits_any (v : Value) (l : List Int) (B : Nat) (w : World) (h : NumS .i64 w B v l) (hl : All64 l) :
    Calls Tryd.prog 57 #[v] w fun e w' => e = .returned (.bool (fitsL l)) ∧ w = w' := by
  obtain ⟨A, c, rfl, hc, hm, hr⟩ := h
  obtain ⟨len, hn⟩ : ∃ n, n = l.length := ⟨_, rfl⟩
  rw [← hn] at hc ⊢
  have H := Lib.hid hr
  have HN := Lib.hid hn
  have HL := Lib.hid hl
  clear hr hl
  by_cases h0 : len < 1
  · have HF : Hid (fitsL l = false) := Lib.hid (decide_eq_false (fun ⟨a, _⟩ => by omega))
    rw [HF.out]
    have d0 : decide ((len : Int) < 1) = true := decide_eq_true (by omega)
    clear hn
    go_enter Tryd.func57, Tryd.ntmps57
    go_wp2_with fail
    go_ret
    exact ⟨rfl, rfl⟩
  have d0 : decide ((len : Int) < 1) = false := decide_eq_false (by omega)
  by_cases h1 : 16 < len
  · have HF : Hid (fitsL l = false) := Lib.hid (decide_eq_false (fun ⟨_, a, _⟩ => by omega))
    rw [HF.out]
    have d1 : decide (16 < (len : Int)) = true := decide_eq_true (by omega)
    clear hn
    go_enter Tryd.func57, Tryd.ntmps57
    go_wp2_with fail
    go_ret
    exact ⟨rfl, rfl⟩
  have d1 : decide (16 < (len : Int)) = false := decide_eq_false (by omega)
  obtain ⟨b, off, rfl, _, hcell⟩ := H.out (by omega)
  have HC := Lib.hid hcell
  have c0 := hcell 0 (by omega)
  obtain ⟨x, hx⟩ : ∃ x, l[0]?.getD 0 = x := ⟨_, rfl⟩
  rw [hx, Nat.add_zero] at c0
  have HX := Lib.hid hx
  have i0 : (0 : Int) < (len : Int) := by omega
  clear hcell hx
  by_cases h2 : x < 1
  · have HF : Hid (fitsL l = false) := Lib.hid (decide_eq_false (fun ⟨_, _, a, _⟩ => by rw [HX.out] at a; omega))
    rw [HF.out]
    have d2 : decide (x < 1) = true := decide_eq_true h2
    clear hn
    go_enter Tryd.func57, Tryd.ntmps57
    go_wp2_with fail
    go_ret
    exact ⟨rfl, rfl⟩
  have d2 : decide (x < 1) = false := decide_eq_false h2
  have h2' : 1 ≤ x := by omega
  clear hn
  go_enter Tryd.func57, Tryd.ntmps57
  go_wp2_with fail
  go_loopw [3, 4, 23] (fun s o i wr => ∃ t : Nat, t ≤ len ∧ i = .int .i64 t ∧ s = .int .i64 (l.take t).sum ∧ (∃ q, o = .bool q) ∧ FitTo l t ∧ w = wr) (fun _ _ i _ => len - (intOf i).toNat)
  case atStart => exact ⟨0, by omega, rfl, by simp, ⟨_, rfl⟩, FitTo.zero l, rfl⟩
  case round =>
    obtain ⟨t, ht, rfl, rfl, ⟨q, rfl⟩, hft, rfl⟩ := hrel
    have HFt := Lib.hid hft
    have g1 := hft.2.1
    have g2 := hft.2.2
    obtain ⟨S, hS⟩ : ∃ S, (l.take t).sum = S := ⟨_, rfl⟩
    rw [hS] at g1 g2 ⊢
    have HS := Lib.hid hS
    clear hS hft
    by_cases hlt : t < len
    · have p1 := HC.out t (by rw [← HN.out]; exact hlt)
      have y1 := HL.out.at_ t
      obtain ⟨y, hy⟩ : ∃ y, l[t]?.getD 0 = y := ⟨_, rfl⟩
      rw [hy] at p1 y1
      have HY := Lib.hid hy
      have HYB := Lib.hid y1
      clear hy y1
      have i1 : (t : Int) < (len : Int) := by omega
      go_wp2_with fail
      refine (add_any S y 4096 _ (by omega) (by omega) HYB.out.1 HYB.out.2 (by omega) (by omega)).mono ?_
      rintro e w' ⟨rfl, rfl⟩
      by_cases hok : 0 ≤ S ∧ 0 ≤ y ∧ S + y ≤ 4096
      · have HA : Hid (addV S y 4096 = S + y ∧ addB S y 4096 = true) := Lib.hid ⟨addV_of hok, addB_of hok⟩
        rw [HA.out.1, HA.out.2]
        have HF2 : Hid (FitTo l (t + 1)) := Lib.hid (HFt.out.next (by rw [← HN.out]; exact hlt) (by rw [HY.out]; exact hok.2.1) (by rw [HY.out, HS.out]; omega))
        have HE : Hid ((l.take (t + 1)).sum = S + y) := Lib.hid (by rw [sum_take_succ (by rw [← HN.out]; omega), HS.out, HY.out])
        clear hok HA
        go_wp2_with fail
        go_roundw
        case rel => exact ⟨t + 1, by omega, by go_num, by rw [HE.out], ⟨_, rfl⟩, HF2.out, trivial⟩
        case measure => simp [intOf]; omega
      · have HA : Hid (addV S y 4096 = 0 ∧ addB S y 4096 = false) := Lib.hid ⟨addV_not hok, addB_not hok⟩
        rw [HA.out.1, HA.out.2]
        have HF : Hid (fitsL l = false) := Lib.hid (fits_not (t := t) (by rw [← HN.out]; exact hlt) (by rw [HY.out, HS.out]; omega))
        clear hok HA
        go_wp2_with fail
        go_ret
        exact ⟨by rw [HF.out]; rfl, rfl⟩
    · obtain rfl : t = len := by omega
      have HF : Hid (fitsL l = true) := Lib.hid (fits_yes (by rw [← HN.out]; exact HFt.out) (by rw [← HN.out]; omega) (by rw [← HN.out]; omega) (by rw [HX.out]; exact h2'))
      go_wp2_with fail
      go_ret
      exact ⟨by rw [HF.out]; rfl, rfl⟩

set_option maxRecDepth 100000 in
theorem aright_anyL (v : Value) (ls : List (List Int)) (w : World) (h : ArV w w.heap.size v ls) (hs : ls.length ≤ 1000000000) :
    Calls Tryd.prog 48 #[v] w fun e w' => e = .returned (.bool (fitsL (sizesL ls))) ∧ Below w.heap.size w w' := by
  have HS := Lib.hid (asizes_anyL v ls w h hs)
  have HA := Lib.hid (sizes_all64 h)
  clear h hs
  go_enter Tryd.func48, Tryd.ntmps48
  go_wp2_with fail
  refine HS.out.mono ?_
  rintro e w1 ⟨u, rfl, ho, hB⟩
  have HO := Lib.hid (OwnN.numS ho)
  clear ho
  go_wp2_with fail
  refine (afits_any u (sizesL ls) _ w1 HO.out HA.out).mono ?_
  rintro e w' ⟨rfl, rfl⟩
  go_wp2_with fail
  go_ret
  exact ⟨rfl, hB⟩

theorem aright_any (v : Value) (ls : List (List Int)) (w : World) (h : ArV w w.heap.size v ls) (hs : Sm ls) :
    Calls Tryd.prog 48 #[v] w fun e w' => e = .returned (.bool (fitsL (sizesL ls))) ∧ Below w.heap.size w w' := aright_anyL v ls w h hs.1

/-- a front of a slice of numbers -/
theorem NumS.front {q : IntKind} {w : World} {B len c j : Nat} {A : Option Addr} {l : List Int} (h : NumS q w B (.slice A len c) l) (hlen : l.length = len) (hj : j ≤ len) : NumS q w B (.slice A j c) (l.take j) := by
  obtain ⟨A', c', e, hc, hm, hr⟩ := h
  rw [hlen] at e hc
  cases e
  have hl : (l.take j).length = j := by rw [List.length_take]; omega
  refine ⟨_, _, by rw [hl], by omega, hm, fun hp => ?_⟩
  obtain ⟨b, off, ea, hlt, hcell⟩ := hr (by omega)
  refine ⟨b, off, ea, hlt, fun i hi => ?_⟩
  rw [hl] at hi
  rw [List.getElem?_take_of_lt hi]
  exact hcell i (by omega)

end Go.Proofs.YtofpjcmcpejnfaaDoor

namespace Go.Proofs.YtofpjcmcpejnfaaDoor
open Go.RowKit Go.Deep

def sameU (a b : List Int) : Bool := decide (a = b)
theorem sameU_no {a b : List Int} {t : Nat} (h : a[t]?.getD 0 ≠ b[t]?.getD 0) : sameU a b = false := decide_eq_false (fun e => h (by rw [e]))
set_option maxRecDepth 100000 in
set_option maxHeartbeats 1000000 in
theorem aequal_any (v u : Value) (a b : List Int) (B B' : Nat) (w : World) (h : NumS .u64 w B v a) (h' : NumS .u64 w B' u b) :
    Calls Tryd.prog 33 #[v, u] w fun e w' => e = .returned (.bool (sameU a b)) ∧ Below w.heap.size w w' := by
  obtain ⟨A, c, rfl, hc, hm, hr⟩ := h
  obtain ⟨A', c', rfl, hc', hm', hr'⟩ := h'
  obtain ⟨len, hn⟩ : ∃ n, n = a.length := ⟨_, rfl⟩
  obtain ⟨len', hn'⟩ : ∃ n, n = b.length := ⟨_, rfl⟩
  have HN := Lib.hid hn
  have HN' := Lib.hid hn'
  have HR := Lib.hid hr
  have HR' := Lib.hid hr'
  rw [← hn] at hc ⊢
  rw [← hn'] at hc' ⊢
  by_cases hne : len = len'
  · subst hne
    have d0 : ((len : Int) != (len : Int)) = false := by simp
    clear hn hn' hr hr'
    go_enter Tryd.func33, Tryd.ntmps33
    go_wp2_with fail
    go_loopw [13] (fun i wr => ∃ t : Nat, t ≤ len ∧ i = .int .i64 t ∧ (∀ i, i < t → a[i]?.getD 0 = b[i]?.getD 0) ∧ ∃ n, wr = w.drewN n) (fun i _ => len - (intOf i).toNat)
    case atStart => exact ⟨0, by omega, rfl, fun i hi => by omega, 0, rfl⟩
    case round =>
      obtain ⟨t, ht, rfl, hall, n, rfl⟩ := hrel
      have HL := Lib.hid hall
      clear hall
      by_cases hlt : t < len
      · obtain ⟨b1, o1, rfl, _, x1⟩ := HR.out (by rw [← HN.out]; omega)
        obtain ⟨b2, o2, rfl, _, x2⟩ := HR'.out (by rw [← HN'.out]; omega)
        have x1 := x1 t (by rw [← HN.out]; exact hlt)
        have x2 := x2 t (by rw [← HN'.out]; exact hlt)
        obtain ⟨x, hx⟩ : ∃ x, a[t]?.getD 0 = x := ⟨_, rfl⟩
        obtain ⟨y, hy⟩ : ∃ y, b[t]?.getD 0 = y := ⟨_, rfl⟩
        rw [hx] at x1
        rw [hy] at x2
        have HX := Lib.hid hx
        have HY := Lib.hid hy
        have i1 : (t : Int) < (len : Int) := by omega
        clear hx hy
        by_cases hxy : x = y
        · have d2 : (x != y) = false := by simp [hxy]
          have HL2 : Hid (∀ i, i < t + 1 → a[i]?.getD 0 = b[i]?.getD 0) := Lib.hid (fun i hi => by
            by_cases e : i = t
            · subst e; rw [HX.out, HY.out]; exact hxy
            · exact HL.out i (by omega))
          clear hxy
          go_wp2_with fail
          go_quiet (fail)
          go_wp2_with fail
          go_roundw
          case rel => exact ⟨t + 1, by omega, by go_num, HL2.out, _, by first | rfl | exact World.drewN_drewN _ _ _⟩
          case measure => simp [intOf]; omega
        · have d2 : (x != y) = true := by simpa using hxy
          have HF : Hid (false = sameU a b) := Lib.hid (sameU_no (t := t) (fun e => hxy (by rw [← HX.out, ← HY.out, e]))).symm
          clear hxy
          go_wp2_with fail
          go_quiet (fail)
          go_wp2_with fail
          go_ret
          exact ⟨by rw [← HF.out]; rfl, ⟨rfl, rfl, rfl, Nat.le_refl _, fun _ _ => rfl⟩⟩
      · obtain rfl : t = len := by omega
        have HF : Hid (true = sameU a b) := Lib.hid (decide_eq_true (row_ext (by rw [← HN.out, ← HN'.out]) (fun i h1 => HL.out i (by rw [HN.out]; exact h1)))).symm
        go_wp2_with fail
        go_ret
        exact ⟨by rw [← HF.out]; rfl, ⟨rfl, rfl, rfl, Nat.le_refl _, fun _ _ => rfl⟩⟩
  · have d0 : ((len : Int) != (len' : Int)) = true := by rw [bne_iff_ne]; omega
    have HF : Hid (false = sameU a b) := Lib.hid (decide_eq_false (fun e => hne (by rw [HN.out, HN'.out, e]))).symm
    clear hn hn' hr hr'
    go_enter Tryd.func33, Tryd.ntmps33
    go_wp2_with fail
    go_ret
    exact ⟨by rw [← HF.out]; rfl, Below.refl _ _⟩

/-- a segment's value and its words, later -/
theorem below_seg {a b : World} {v : Value} {ls : List (List Int)} {A : Option Addr} {n c : Nat} (h : ArV a a.heap.size v ls) (k : Below a.heap.size a b) (hv : v = .slice A n c) {j : Nat} (hj : j < ls.length) : ∃ g off A1 c1, A = some ⟨g, off, none⟩ ∧ b.cell? ⟨g, off + j, none⟩ = some (.slice A1 (ls[j]?.getD []).length c1) ∧ NumS .u64 b b.heap.size (.slice A1 (ls[j]?.getD []).length c1) (ls[j]?.getD []) := by
  obtain ⟨A', c', e, _, _, hr⟩ := h.on k
  rw [hv] at e
  cases e
  obtain ⟨g, off, ea, _, hcell⟩ := hr (by omega)
  obtain ⟨s, p1, hs⟩ := hcell j hj
  obtain ⟨A1, c1, rfl⟩ := hs.form rfl
  exact ⟨g, off, A1, c1, ea, p1, hs⟩

end Go.Proofs.YtofpjcmcpejnfaaDoor
