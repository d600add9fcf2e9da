/-
  Layer 7, the landed package: Bytes (eight bytes of each word, copied to their place).
-/
import Derived.Test.YthinhknfiaohlaaArPayE
import Derived.Test.YthinhknfiaohlaaWordZeros
import Derived.Test.YthinhknfiaohlaaWordRow
namespace Go.Proofs.Ythinhknfiaohlaa
open Go.RowKit Go.Shelf Go.Deep

attribute [local go_sem] Oper.semAt_some

/-- the bytes of the first k words; behind them noughts -/
def bytesTo (l : List Int) (k : Nat) : List Int := segB (l.take k) ++ List.replicate (8 * (l.length - k)) 0
theorem bytesTo_length {l : List Int} {k : Nat} (h : k ≤ l.length) : (bytesTo l k).length = 8 * l.length := by
  unfold bytesTo
  rw [List.length_append, segB_length, List.length_take, List.length_replicate]
  omega
theorem bytesTo_zero (l : List Int) : bytesTo l 0 = List.replicate (8 * l.length) 0 := by
  unfold bytesTo
  rw [List.take_zero, Nat.sub_zero]
  rfl
theorem bytesTo_end (ls : List (List Int)) : bytesTo ls.flatten ls.flatten.length = bytesA ls := by
  unfold bytesTo bytesA
  rw [List.take_length, Nat.sub_self, Nat.mul_zero, List.replicate_zero, List.append_nil]
  induction ls with
  | nil => rfl
  | cons s ls ih =>
    rw [List.flatten_cons, List.flatMap_cons, ← ih]
    unfold segB
    rw [List.flatMap_append]
theorem map_splice (f : Int → Value) (l bs : List Int) (o : Nat) : (splice l o bs).map f = splice (l.map f) o (bs.map f) := by
  unfold splice
  rw [List.map_append, List.map_append, List.map_take, List.map_drop, List.length_map]
theorem bytesTo_next {l : List Int} {k : Nat} (h : k < l.length) : splice (bytesTo l k) (8 * k) (putL (l[k]?.getD 0) 8) = bytesTo l (k + 1) := by
  have h1 : (segB (l.take k)).length = 8 * k := by rw [segB_length, List.length_take]; omega
  unfold splice
  rw [putL_length]
  unfold bytesTo
  rw [segB_take h, List.take_append_of_le_length (by omega), List.take_of_length_le (by omega), List.append_assoc]
  congr 2
  rw [List.drop_append, List.drop_of_length_le (by omega), List.nil_append, h1, List.drop_replicate]
  congr 1
  omega
theorem at7_last {n y : Nat} {l : List Nat} (h : l ++ [y] = List.range (n + 1)) : l = List.range n ∧ y = n := by
  rw [List.range_succ] at h
  obtain ⟨h1, h2⟩ := List.append_inj' h rfl
  exact ⟨h1, by simpa using h2⟩
theorem grown_bel7 {a b : World} (row : Option Nat) (h : Below a.heap.size a b) : a.grownBy b row := ⟨h.os, h.tape, h.output, h.size, fun j hj _ => h.block j hj⟩

theorem rowB_own7 {β : Type} (g : Nat) (f : β → List Int) : ∀ (s : β) (A B : World) (row : Option Nat), RowB A g (f s) → A.grownBy B row → (∀ r, row = some r → ∃ o : Obj, A.heap[r]? = some o ∧ o.isCells = false) → RowB B g (f s) := fun s A B row h hg hr => by
  refine h.of_block (hg.block g h.lt (fun e => ?_))
  obtain ⟨o, ho, hc⟩ := hr g e.symm
  unfold RowB at h
  rw [h] at ho
  cases ho
  simp [Obj.isCells] at hc

/-- copy of eight bytes into a row of the call's own -/
theorem copy_at (w : World) (g M o ty : Nat) (A : Option Addr) (c B : Nat) (l bs : List Int) (hg : RowB w g l) (hl : l.length = M) (ho : o + 8 ≤ M) (h : Bytes w B (.slice A 8 c) bs) (hb : bs.length = 8) :
    ∃ w3, (Builtin.copy_ #[24, 24] ty #[.slice (some ⟨g, o, none⟩) (M - o) (M - o), .slice A 8 c]).run Try.prog w = .ok (.int .i64 8) w3 ∧ w3.heap[g]? = some (.cells (splice (l.map (Value.int .u8)) o (bs.map (Value.int .u8))).toArray 5 (0, 0)) ∧ w.grownBy w3 (some g) := by
  obtain ⟨s1, s2⟩ := h.source g 8 (Nat.le_refl _)
  obtain ⟨_, ad, rfl, hsrc⟩ := s2 (by rw [List.length_map]; omega)
  have s3 : (bs.map (Value.int .u8)).length = Nat.min 8 (M - o) := by rw [List.length_map, hb]; exact (Nat.min_eq_left (by omega)).symm
  have hrun := run_copy_row (P := Try.prog) w 24 24 ty 5 g o (M - o) (M - o) ad 8 c _ 5 (bs.map (Value.int .u8)) Try.underlying24 (by kernel_rfl) hg s3 hsrc (by simp; omega) (ones_cells bs)
  rw [List.length_map, hb] at hrun
  refine ⟨_, hrun, ?_, ⟨rfl, rfl, rfl, by simp [World.setRow], fun k _ hne => setRow_other w g k _ (fun e => hne (by rw [e]))⟩⟩
  have h2 := setRow_heap w g _ ((((l.map (Value.int .u8)).toArray).toList.take o ++ bs.map (Value.int .u8) ++ ((l.map (Value.int .u8)).toArray).toList.drop (o + 8)).toArray) 5 (0, 0) hg
  rw [h2]
  unfold splice
  rw [List.length_map, hb]
  simp

set_option maxRecDepth 100000 in
set_option maxHeartbeats 1000000 in
theorem abytes_core (A : Option Addr) (c len : Nat) (ls : List (List Int)) (w : World) (hn : len = ls.length) (h : ArV w w.heap.size (.slice A len c) ls) (hs : Sm ls) :
    CallsIn Fence.wide 5 Try.prog 21 #[.slice A len c] w fun e w' => ∃ u, e = .returned u ∧ OwnB w' w.heap.size u (bytesA ls) ∧ Below w.heap.size w w' := by
  have HW := Lib.hid (awords_any _ ls w h hs)
  have HV := Lib.hid h
  have HN := Lib.hid hn
  have HU := Lib.hid hs.2.2
  have hsum := flat_sum ls
  obtain ⟨N, hNN⟩ : ∃ N, ls.flatten.length = N := ⟨_, rfl⟩
  have hN : N ≤ 1000000000 := by have := hs.2.1; omega
  rw [← hsum, hNN] at HW
  have HNN := Lib.hid hNN
  obtain ⟨M, hM⟩ : ∃ M, M = 8 * N := ⟨_, rfl⟩
  have HM : Hid (8 * (N : Int) = (M : Int)) := Lib.hid (by omega)
  have HMN := Lib.hid hM
  have hmk := run_make_row' (P := Try.prog) 24 5 (.int .u8 0) 1 Try.underlying24 Try.info5 rfl .i64 .i64 M (by omega) (by omega)
  clear h hn hs hsum hNN hM
  refine callsIn_of_wp_marks Try.func21 rfl trivial ?_ rfl
  simp only [Try.ntmps21, List.size_toArray, List.length_cons, List.length_nil, Nat.reduceAdd, Nat.reduceSub, Array.replicate_succ, Array.replicate_zero, List.push_toArray, List.append_toArray, List.nil_append, List.cons_append]
  refine wpIn_wide.2 ?_
  go_wp2_with fail
  refine HW.out.mono ?_
  rintro e w1 ⟨rfl, hB1⟩
  have HB1 := Lib.hid hB1
  clear hB1
  go_wp2_with fail
  rw [HM.out, hmk]
  go_wp2_with fail
  refine (placed_any _ _ _ _).mono ?_
  rintro e w' ⟨rfl, rfl⟩
  have b1 := Boxed.new (w1.alloc (.cells (madeCells #[Value.int .u8 0] M) 5)) 24 (.slice (some ⟨w1.heap.size, 0, none⟩) M M)
  have b2 := Boxed.new ((w1.alloc (.cells (madeCells #[Value.int .u8 0] M) 5)).alloc (.cells #[.slice (some ⟨w1.heap.size, 0, none⟩) M M] 24)) 23 (.slice A len c)
  have hR0 := ((RowB.made w1 M).below ((Below.refl _ _).alloc (Nat.le_refl _) (.cells #[.slice (some ⟨w1.heap.size, 0, none⟩) M M] 24)) (by simp)).below ((Below.refl _ _).alloc (Nat.le_refl _) (.cells #[.slice A len c] 23)) (by simp; omega)
  have hB3 : Below w1.heap.size w1 (((w1.alloc (.cells (madeCells #[Value.int .u8 0] M) 5)).alloc (.cells #[.slice (some ⟨w1.heap.size, 0, none⟩) M M] 24)).alloc (.cells #[.slice A len c] 23)) := (((Below.refl _ w1).alloc (Nat.le_refl _) _).alloc (by simp) _).alloc (by simp; omega) _
  have hB0 := bseq HB1.out hB3
  have hA0 := (HV.out.on HB1.out).below hB3 (Nat.le_refl _)
  have hc1 := b1.alloc (.cells #[.slice A len c] 23)
  simp only [World.size_alloc] at b1 b2 hc1
  have HR0 := Lib.hid hR0
  clear hR0
  have hw1 := HB1.out.size
  go_wp2_with fail
  refine (wpIn_wide (n := 5)).1 ?_
  refine wpIn_rangeFunc_ownG rfl (by omega) (gf := 47) (lb := #[.pointer (some ⟨w1.heap.size + 1 + 1, 0, none⟩)]) rfl trivial (enters_of Try.func47 (by kernel_rfl) rfl)
    (placed_stops 4 (by omega) (w1.heap.size + 1 + 1) w1.heap.size A len c ls HN.out (by rw [HNN.out]; exact hN) _ (by simp) (by simp; omega) b2.cell hA0) belowK_t (belowK_b (by simp; omega)) (Below.refl _ _) (fun _ => rfl)
    (fun pre W => ((∃ l, RowB W w1.heap.size l ∧ l.length = M ∧ (at7 pre = List.range pre.length → l = bytesTo ls.flatten pre.length)) ∧ W.cell? ⟨w1.heap.size + 1, 0, none⟩ = some (.slice (some ⟨w1.heap.size, 0, none⟩) M M)) ∧ Below w.heap.size w W)
    (fun _ _ _ => False)
    (OwnFrom.and (Own.from (fun s A B row hs hg hr => ⟨by obtain ⟨l, h1, h2⟩ := hs.1; exact ⟨l, rowB_own7 w1.heap.size (fun _ : Unit => l) () A B row h1 hg hr, h2⟩, cell_kept hs.2 hg hr⟩) _) (ownFrom_below (Nat.le_refl _) (by simp; omega)))
    (fun _ _ _ _ _ hs _ _ => hs)
    ⟨⟨⟨_, HR0.out, by rw [List.length_replicate], fun _ => by rw [List.length_nil, bytesTo_zero, HNN.out, HMN.out]⟩, hc1.cell⟩, hB0⟩
    (fun x => { tmps := #[.slice A len c, undef, .slice none 0 0, .pointer (some ⟨w1.heap.size + 1, 0, none⟩), .int .i64 (x.1 : Nat), .int .u64 (ls.flatten[x.1]?.getD 0), .slice A len c, .int .i64 N, .int .i64 M, .slice (some ⟨w1.heap.size, 0, none⟩) M M, .slice A len c, .func (.func 47) #[] #[.pointer (some ⟨w1.heap.size + 1 + 1, 0, none⟩)], .int .i64 (x.1 : Nat), .int .u64 (ls.flatten[x.1]?.getD 0), undef, undef, undef, undef, undef, undef, undef, undef], defers := [] }) ?assign ?body ?done ?stop
  case assign =>
    intro l x W K hK
    gi_wp2
    exact hK
  case body =>
    rintro lp pre x W ⟨⟨⟨l, hrow, hl, hpre⟩, ck⟩, hB⟩ _
    have HRow := Lib.hid hrow
    have HPre := Lib.hid hpre
    have hx : x.1 < N := Nat.lt_of_lt_of_eq x.2 HNN.out
    have HSn : Hid (at7 (pre ++ [x]) = at7 pre ++ [x.1]) := Lib.hid (at7_snoc pre x)
    clear hrow hpre
    obtain ⟨y, hy⟩ : ∃ y, y = x.1 := ⟨_, rfl⟩
    rw [← hy] at hx HSn ⊢
    have HY := Lib.hid hy
    clear hy
    obtain ⟨v, hv⟩ : ∃ v, ls.flatten[y]?.getD 0 = v := ⟨_, rfl⟩
    rw [hv]
    have HX := Lib.hid hv
    clear hv
    have n1 : (8 * (y : Int)).toNat = 8 * y := by omega
    have n2 : (0 : Int) ≤ 8 * (y : Int) := by omega
    have n3 : 8 * (y : Int) ≤ (M : Int) := by have := HMN.out; omega
    have n4 : ¬ M = 8 * y := by have := HMN.out; omega
    have n5 : IntKind.i64.wrap (8 * (y : Int)) = 8 * (y : Int) := IntWalk.i64_in _ (by omega)
    have HPut := put_any v 8 W.drew
    rw [show clip8 8 = 8 by decide] at HPut
    have HPu := Lib.hid HPut
    clear HPut
    have hYM : 8 * y + 8 ≤ M := by have := HMN.out; omega
    have HCk := Lib.hid (fun (w2 : World) (hB : Below W.heap.size W w2) => (hB.cell (p := ⟨w1.heap.size + 1, 0, none⟩) (cell_lt ck)).trans ck)
    have HCp := Lib.hid (fun (w2 : World) (hB : Below W.heap.size W w2) A c B h => copy_at w2 w1.heap.size M (8 * y) 3 A c B l (putL v 8) (HRow.out.below hB HRow.out.lt) hl hYM h (putL_length v 8))
    have HLl := Lib.hid hl
    clear hl
    gi_wp2
    gi_region_with (first
      | (refine ⟨trivial, ?_⟩; refine (CallsIn.inRound lp (callsIn_wide.2 HPu.out)).mono ?_; rintro e w2 ⟨v6, rfl, hby, hB2'⟩; have hB2 : Below W.heap.size W w2 := ⟨hB2'.os, hB2'.tape, hB2'.output, hB2'.size, hB2'.block⟩; obtain ⟨A6, c6, rfl⟩ := hby.form (putL_length v 8); have ck2 := HCk.out w2 hB2; obtain ⟨w3, hrun, hr3, hg3⟩ := HCp.out w2 hB2 _ _ _ hby; have HRun := Lib.hid hrun; have HR3 := Lib.hid (And.intro hr3 (And.intro hg3 hB2)); clear hrun hr3 hg3 hby hB2')
      | (rw [HRun.out]))
    all_goals
      have HG : Hid (W.grownBy w3 (some w1.heap.size)) := Lib.hid (grown_trans (grown_bel7 _ HR3.out.2.2) HR3.out.2.1)
      have HZ : Hid (RowB w3 w1.heap.size (splice l (8 * y) (putL v 8)) ∧ (splice l (8 * y) (putL v 8)).length = M ∧ (at7 (pre ++ [x]) = List.range (pre ++ [x]).length → splice l (8 * y) (putL v 8) = bytesTo ls.flatten (pre ++ [x]).length)) := Lib.hid (by
        refine ⟨by unfold RowB; rw [map_splice]; exact HR3.out.1, by rw [length_splice _ _ _ (by rw [putL_length, HLl.out]; exact hYM)]; exact HLl.out, fun h => ?_⟩
        rw [HSn.out, List.length_append] at h
        obtain ⟨h1, h2⟩ := at7_last h
        rw [List.length_append, HPre.out h1, ← HX.out, h2]
        exact bytesTo_next (by rw [← h2, HNN.out]; exact hx))
      clear HR3 HRun
      gi_wp2
      exact ⟨KeepsFrom.of_grownBy HG.out (fun j e => by cases e; simp; omega), (Below.refl _ _).grown HG.out (Nat.le_of_lt HRow.out.lt) (fun k e => by cases e; exact Nat.le_refl _), ⟨⟨_, HZ.out⟩, (World.cell?_of_block (w := W) (HG.out.block _ (cell_lt ck) (fun e => by injection e with e; simp at e))).trans ck⟩, hB.grown HG.out (Nat.le_trans hw1 (Nat.le_of_lt HRow.out.lt)) (fun k e => by cases e; exact hw1)⟩
  case done =>
    rintro D ys W hD hys ⟨⟨⟨l, hrow, hl, hpre⟩, ck⟩, hB⟩ hKD
    have HE : Hid (RowB W w1.heap.size (bytesA ls) ∧ (bytesA ls).length = M) := Lib.hid (by
      have h1 := at7_len hys
      have h2 := hpre (by rw [h1]; exact hys)
      rw [h1, bytesTo_end] at h2
      rw [← h2]
      exact ⟨hrow, hl⟩)
    clear hrow hpre hys hl
    go_wp2
    refine ⟨by simp, .inl ⟨_, _, rfl, run_takeDeferred hKD, ?_⟩⟩
    refine ⟨_, results_tmp rfl _ _ _, _, rfl, ?_, hB.trans (belowK_b (w := w) (Nat.le_refl _) W D _ _ (by simp at hD; omega) hKD rfl rfl)⟩
    unfold OwnB
    rw [HE.out.2]
    exact RowV.owns (xs := (bytesA ls).map (Value.int .u8)) (HE.out.1.of_block (World.putObj_heap_other (by simp at hD; omega))) hw1 (by rw [List.length_map]; exact HE.out.2) (by unfold maxLen; have := HMN.out; omega)
  case stop =>
    rintro D cc pre W _ _ h _
    exact h.elim

theorem abytes_any (v : Value) (ls : List (List Int)) (w : World) (h : ArV w w.heap.size v ls) (hs : Sm ls) :
    Calls Try.prog 21 #[v] w fun e w' => ∃ u, e = .returned u ∧ OwnB w' w.heap.size u (bytesA ls) ∧ Below w.heap.size w w' := by
  obtain ⟨A, c, rfl⟩ := h.form rfl
  exact (callsIn_wide (n := 5)).1 (abytes_core A c ls.length ls w rfl h hs)

end Go.Proofs.Ythinhknfiaohlaa
