/-
  bits.Or: new memory, as long as the longer one, with the bits of either.
-/
import Derived.Test.YtdphkgknjgdjoaaBitsWithin
import Derived.Test.YtdphkgknjgdjoaaWordRow
namespace Go.Proofs.Ytdphkgknjgdjoaa
open Go.RowKit Go.Shelf

attribute [local go_sem] Oper.semAt_some

theorem rowB_own {β : Type} (g : Nat) (f : β → List Int) : Own (fun s W => RowB W g (f s)) := fun s X Y row hs hg hrow =>
  RowB.of_block hs (hg.block g hs.lt (fun e' => by obtain ⟨o, ho, hc⟩ := hrow g e'.symm; rw [show X.heap[g]? = _ from hs] at ho; cases ho; cases hc))
theorem pad_row (l : List Int) (n : Nat) : (l ++ List.replicate (n - l.length) 0) = padL l n := rfl

set_option maxRecDepth 100000 in
set_option maxHeartbeats 2000000 in
theorem bor_core (A B' : Option Addr) (c c' la lb M : Nat) (a b : List Int) (w : World) (hna : la = a.length) (hnb : lb = b.length) (hla : la ≤ 1000000000) (hlb : lb ≤ 1000000000) (ha : AllB a) (hb : AllB b) (hM : M = max la lb)
    (hBa : Bytes w w.heap.size (.slice A la c) a)
    (hr : 0 < b.length → ∃ g off, B' = some ⟨g, off, none⟩ ∧ g < w.heap.size ∧ ∀ j, j < b.length → w.cell? ⟨g, off + j, none⟩ = some (.int .u8 (b[j]?.getD 0))) :
    CallsIn Fence.wide 5 Try.prog 15 #[.slice A la c, .slice B' lb c'] w fun e w' => e = .returned (.slice (some ⟨w.heap.size, 0, none⟩) M M) ∧ RowB w' w.heap.size (orL a b) ∧ Below w.heap.size w w' := by
  have H := Lib.hid hr
  have HLb := Lib.hid hb
  have HNa := Lib.hid hna
  have HNb := Lib.hid hnb
  have HM : Hid (max (la : Int) (lb : Int) = (M : Int)) := Lib.hid (by omega)
  have hM2 : M ≤ 1000000000 := by omega
  have hMa : la ≤ M := by omega
  have hMb : lb ≤ M := by omega
  have HO : Hid (orL a b = marks (padL a M) (onesL b)) := Lib.hid (by unfold orL; rw [← hna, ← hnb, ← hM])
  have HPl : Hid ((padL a M).length = M) := Lib.hid (padL_length (by omega))
  have HPA : Hid (AllB (padL a M)) := Lib.hid (padL_AllB ha M)
  have hmk := run_make_row' (P := Try.prog) 22 5 (.int .u8 0) 1 Try.underlying22 Try.info5 rfl .i64 .i64 M (by omega) (by omega)
  -- the world ahead of copy
  obtain ⟨W1, hW1⟩ : ∃ W1, (w.alloc (.cells (madeCells #[Value.int .u8 0] M) 5)).alloc (.cells #[.slice (some ⟨w.heap.size, 0, none⟩) M M] 22) = W1 := ⟨_, rfl⟩
  have hR0 := RowB.made w M
  have b0 := Boxed.new (w.alloc (.cells (madeCells #[Value.int .u8 0] M) 5)) 22 (.slice (some ⟨w.heap.size, 0, none⟩) M M)
  rw [World.size_alloc, hW1] at b0
  have hR1 : RowB W1 w.heap.size (List.replicate M 0) := by rw [← hW1]; exact hR0.below ((Below.refl _ _).alloc (Nat.le_refl _) _) (by simp)
  have hB1 : Below w.heap.size w W1 := by rw [← hW1]; exact ((Below.refl _ w).alloc (Nat.le_refl _) _).alloc (by simp) _
  obtain ⟨w2, hrun, hR2, hG2⟩ := copy_row W1 w.heap.size M la 3 A c W1.heap.size a hR1 hna hMa (hBa.on hB1)
  rw [hna, pad_row] at hR2
  have c2 : Boxed w2 (w.heap.size + 1) 22 (.slice (some ⟨w.heap.size, 0, none⟩) M M) := b0.kept hG2 (fun e => by injection e with e; omega)
  have hB2 : Below w.heap.size w w2 := hB1.grown hG2 (by have := b0.lt; omega) (fun k e => by cases e; exact Nat.le_refl _)
  rw [← hW1] at hrun
  have HR := Lib.hid hrun
  have hc2 := c2.cell
  have hz2 : w.heap.size + 1 < w2.heap.size := c2.lt
  clear hR0 hR1 hW1 hr hna hnb hM ha hb hBa b0 hrun hG2 hB1
  clear W1
  have b2 := Boxed.new w2 22 (.slice B' lb c')
  have hB0 : Below w.heap.size w (w2.alloc (.cells #[.slice B' lb c'] 22)) := hB2.alloc (by omega) _
  have hc0 := c2.alloc (.cells #[.slice B' lb c'] 22)
  have hR3 : RowB (w2.alloc (.cells #[.slice B' lb c'] 22)) w.heap.size (padL a M) := hR2.below ((Below.refl _ _).alloc (Nat.le_refl _) _) (by omega)
  have HR3 := Lib.hid hR3
  clear hR2 hR3
  refine callsIn_of_wp_marks Try.func15 rfl trivial ?_ rfl
  simp only [Try.ntmps15, List.size_toArray, List.length_cons, List.length_nil, Nat.reduceAdd, Nat.reduceSub, Array.replicate_succ, Array.replicate_zero, List.push_toArray, List.append_toArray, List.nil_append, List.cons_append]
  refine wpIn_wide.2 ?_
  go_wp2_with fail
  rw [HM.out, hmk]
  go_wp2_with fail
  rw [HR.out]
  go_wp2_with fail
  refine (ones_any _ _ _ _).mono ?_
  rintro e w' ⟨rfl, rfl⟩
  go_wp2_with fail
  refine (wpIn_wide (n := 5)).1 ?_
  refine wpIn_rangeFunc_ownG rfl (by omega) (gf := 36) (lb := #[.pointer (some ⟨w2.heap.size, 0, none⟩)]) rfl trivial (enters_of Try.func36 (by kernel_rfl) rfl)
    (ones_stops 4 (by omega) w2.heap.size w.heap.size B' lb c' b HNb.out HLb.out (by rw [← HNb.out]; omega) _ (by simp) (by simp; omega) b2.cell (rows_on hB0 H.out)) belowK_t (belowK_b (by simp; omega)) (Below.refl _ _) (fun _ => rfl)
    (fun pre W => (RowB W w.heap.size (marks (padL a M) (vals pre)) ∧ W.cell? ⟨w.heap.size + 1, 0, none⟩ = some (.slice (some ⟨w.heap.size, 0, none⟩) M M)) ∧ Below w.heap.size w W)
    (fun _ _ _ => False)
    (OwnFrom.and (Own.from (fun s A B row hs hg hr => ⟨rowB_own w.heap.size (fun pre => marks (padL a M) (vals pre)) s A B row hs.1 hg hr, cell_kept hs.2 hg hr⟩) _) (ownFrom_below (Nat.le_refl _) (by simp; omega)))
    (fun _ _ _ _ _ hs _ _ => hs)
    ⟨⟨HR3.out, hc0.cell⟩, hB0⟩
    (fun x => { tmps := #[.slice A la c, .slice B' lb c', undef, undef, .slice none 0 0, .pointer (some ⟨w.heap.size + 1, 0, none⟩), .int .i64 (x.1 : Nat), .slice A la c, .int .i64 la, .slice B' lb c', .int .i64 lb, .int .i64 M, .slice (some ⟨w.heap.size, 0, none⟩) M M, .slice (some ⟨w.heap.size, 0, none⟩) M M, .slice A la c, .int .i64 la, .slice B' lb c', .func (.func 36) #[] #[.pointer (some ⟨w2.heap.size, 0, none⟩)], .int .i64 (x.1 : Nat), undef, undef, undef, undef], defers := [] }) ?assign ?body ?done ?stop
  case assign =>
    intro l x W K hK
    gi_wp2
    exact hK
  case body =>
    rintro lp pre x W ⟨⟨hrow, ck⟩, hB⟩ _
    have HRow := Lib.hid hrow
    have hx2 : x.1 < 8 * M := by have := x.2; have := HNb.out; omega
    have HV : Hid (vals (pre ++ [x]) = vals pre ++ [x.1]) := Lib.hid (vals_snoc pre x)
    clear hrow
    obtain ⟨y, hy⟩ : ∃ y, y = x.1 := ⟨_, rfl⟩
    rw [← hy] at hx2 HV ⊢
    have HY := Lib.hid hy
    clear hy
    have HL : Hid ((marks (padL a M) (vals pre)).length = M) := Lib.hid ((marks_length _ _).trans HPl.out)
    have HG := mark_row w.heap.size M y _ W (marks_AllB HPA.out _) HRow.out (by rw [HL.out]; exact hx2) (by omega)
    rw [HL.out] at HG
    have HGG := Lib.hid HG
    clear HG
    gi_wp2
    refine ⟨trivial, ?_⟩
    refine (CallsIn.inRound lp (callsIn_wide.2 HGG.out)).mono ?_
    rintro e w' ⟨⟨v, rfl⟩, hrow', hg'⟩
    have HRow' := Lib.hid hrow'
    have HGr := Lib.hid hg'
    clear hrow' hg'
    gi_wp2
    refine ⟨KeepsFrom.of_grownBy HGr.out (fun j e => by cases e; simp; omega), (Below.refl _ _).grown HGr.out (Nat.le_of_lt HRow.out.lt) (fun k e => by cases e; exact Nat.le_refl _), ⟨?_, ?_⟩, hB.grown HGr.out (Nat.le_of_lt HRow.out.lt) (fun k e => by cases e; exact Nat.le_refl _)⟩
    · rw [HV.out, marks_snoc]; exact HRow'.out
    · rw [← ck]
      exact World.cell?_of_block (w := W) (HGr.out.block _ (cell_lt ck) (fun e => by injection e with e; simp at e))
  case done =>
    rintro D ys W hD hys ⟨⟨hrow, ck⟩, hB⟩ hKD
    rw [hys, ← HO.out] at hrow
    have HRow := Lib.hid hrow
    clear hys hrow
    go_wp2
    refine ⟨by simp, .inl ⟨_, _, rfl, run_takeDeferred hKD, ?_⟩⟩
    refine ⟨_, results_tmp rfl _ _ _, rfl, ?_, hB.trans (belowK_b (w := w) (Nat.le_refl _) W D _ _ (by simp at hD; omega) hKD rfl rfl)⟩
    exact HRow.out.of_block (World.putObj_heap_other (by simp at hD; omega))
  case stop =>
    rintro D cc pre W _ _ h _
    exact h.elim

/-- Or of two rows of bytes: a row of its own -/
theorem bor_row (v u : Value) (a b : List Int) (w : World) (h : Bytes w w.heap.size v a) (ha : AllB a) (h' : Bytes w w.heap.size u b) (hb : AllB b) (hla : a.length ≤ 1000000000) (hlb : b.length ≤ 1000000000) :
    Calls Try.prog 15 #[v, u] w fun e w' => e = .returned (.slice (some ⟨w.heap.size, 0, none⟩) (max a.length b.length) (max a.length b.length)) ∧ RowB w' w.heap.size (orL a b) ∧ Below w.heap.size w w' := by
  obtain ⟨A, c, rfl, -⟩ := h.parts
  obtain ⟨B', c', rfl, -, -, hr⟩ := h'
  exact (callsIn_wide (n := 5)).1 (bor_core A B' c c' a.length b.length _ a b w rfl rfl hla hlb ha hb rfl h hr)

end Go.Proofs.Ytdphkgknjgdjoaa
