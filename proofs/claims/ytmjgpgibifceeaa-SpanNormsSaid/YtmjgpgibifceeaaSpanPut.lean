/-
  Layer 4, the program's isEmpty and join: one span more, laid behind those of a row of the call's own.
-/
import Derived.Test.YtmjgpgibifceeaaSpanJoin
namespace Go.Proofs.Ytmjgpgibifceeaa
open Go.RowKit Go.Deep

set_option maxHeartbeats 400000 in
theorem isEmpty_any (x y : Int) (w : World) :
    Calls Try.prog 31 #[.agg #[.int .i64 x, .int .i64 y]] w fun e w' => e = .returned (.bool (decide (y ≤ x))) ∧ w' = w.alloc (.cells #[.int .i64 x, .int .i64 y] 24) := by
  obtain ⟨c0, c1⟩ := (Box2.new w x y).cells
  go_enter Try.func31, Try.ntmps31
  go_wp2
  go_ret
  exact ⟨rfl, rfl⟩

theorem cellsS_set (l : List Sp) (j : Nat) (z : Int) : (cellsS l).set (j * 2 + 1) (.int .i64 z) = cellsS (l.set j ((l[j]?.getD (0, 0)).1, z)) := by
  induction l generalizing j with
  | nil => simp [cellsS]
  | cons s l ih =>
    have e : ∀ (s : Sp) (l : List Sp), cellsS (s :: l) = .int .i64 s.1 :: .int .i64 s.2 :: cellsS l := fun s l => by simp [cellsS]
    cases j with
    | zero => simp [e]
    | succ j =>
      rw [e, show (j + 1) * 2 + 1 = j * 2 + 1 + 1 + 1 by omega, List.set_cons_succ, List.set_cons_succ, ih, List.set_cons_succ, e]
      simp
theorem OwnS.form {w : World} {base : Nat} {v : Value} {l : List Sp} (h : OwnS w base v l) (hn : 0 < l.length) : ∃ g cap, v = .slice (some ⟨g, 0, none⟩) l.length cap ∧ base ≤ g ∧ g < w.heap.size := by
  have hlt := World.ownsRow.lt h
  obtain ⟨_, ⟨_, h0⟩ | ⟨g, cap, cur, rfl, _⟩⟩ := h
  · omega
  · obtain ⟨h1, h2⟩ := hlt g rfl
    exact ⟨g, cap, rfl, h1, h2⟩
theorem OwnS.setTo {w : World} {base g cap n k : Nat} {l : List Sp} (h : OwnS w base (.slice (some ⟨g, 0, none⟩) n cap) l) (hn : l.length = n) (z : Int) :
    OwnS (w.setCell ⟨g, k * 2 + 1, none⟩ (.int .i64 z)) base (.slice (some ⟨g, 0, none⟩) n cap) (l.set k ((l[k]?.getD (0, 0)).1, z)) ∧ w.grownBy (w.setCell ⟨g, k * 2 + 1, none⟩ (.int .i64 z)) (some g) := by
  subst hn
  obtain ⟨a, b⟩ := World.ownsRow.stored h (k * 2 + 1) (.int .i64 z)
  refine ⟨?_, b⟩
  unfold OwnS
  rw [← cellsS_set, List.length_set]
  exact a
theorem OwnS.cellTo {w : World} {base g cap n k : Nat} {l : List Sp} (h : OwnS w base (.slice (some ⟨g, 0, none⟩) n cap) l) (hn : l.length = n) (hk : k < n) :
    w.cell? ⟨g, k * 2 + 1, none⟩ = some (.int .i64 (l[k]?.getD (0, 0)).2) ∧ w.frozen? ⟨g, k * 2 + 1, none⟩ = false := by
  subst hn
  refine ⟨?_, World.ownsRow.frozenAt h _⟩
  rw [World.ownsRow.cellAt h _ (by omega), (cellsS_get l k hk).2]
theorem grown_any {a b : World} {row : Option Nat} (h : a.grownBy b none) : a.grownBy b row := ⟨h.os, h.tape, h.output, h.size, fun i hi _ => h.block i hi (by simp)⟩
theorem grown_drew' {a b : World} {row : Option Nat} (h : a.grownBy b row) : a.grownBy b.drew row := ⟨h.os, h.tape, h.output, h.size, h.block⟩
theorem grown_drewN {a b : World} {row : Option Nat} (h : a.grownBy b row) (n : Nat) : a.grownBy (b.drewN n) row := ⟨h.os, h.tape, h.output, h.size, h.block⟩

theorem after_box {w w' : World} {base : Nat} {v : Value} {l : List Sp} {x y : Int} (h : OwnS w base v l) (e : w' = (w.alloc (.cells #[.int .i64 x, .int .i64 y] 24)).alloc (.cells #[.int .i64 x, .int .i64 y] 24)) :
    OwnS w' base v l ∧ w.grownBy w' none ∧ Box2 w' w.heap.size x y := by
  subst e
  exact ⟨World.ownsRow.alloc (World.ownsRow.alloc h _) _, grown_trans (World.grownBy_alloc _ _ _) (World.grownBy_alloc _ _ _), (Box2.new w x y).of_block (Below.heap_alloc _ _ _ (by simp))⟩

set_option maxRecDepth 100000 in
set_option maxHeartbeats 1000000 in
theorem join_any (base : Nat) (v : Value) (l : List Sp) (x y : Int) (w : World) (h : OwnS w base v l) (hlen : l.length ≤ 1000000) (hb : base ≤ w.heap.size) :
    Calls Try.prog 28 #[v, .agg #[.int .i64 x, .int .i64 y]] w fun e w' => ∃ v', e = .returned v' ∧ OwnS w' base v' (joinL l (x, y)) ∧ w.grownBy w' v.ownBlock := by
  obtain ⟨c0, c1⟩ := (Box2.new w x y).cells
  obtain ⟨A, c, hv, hc, hm, hr⟩ := h.spans
  obtain ⟨len, hn⟩ : ∃ n, n = l.length := ⟨_, rfl⟩
  rw [← hn] at hv
  have HN := Lib.hid hn
  have HO := Lib.hid h
  have hlen' : len ≤ 1000000 := by omega
  clear hr hc h hn
  subst hv
  by_cases h1 : y ≤ x
  · have d1 : decide (y ≤ x) = true := decide_eq_true h1
    have HJ := Lib.hid (show joinL l (x, y) = l by unfold joinL; rw [if_pos h1])
    go_enter Try.func28, Try.ntmps28
    go_wp2_with (go_at_call 31; refine (isEmpty_any x y _).mono ?_; rintro e w' ⟨rfl, hw⟩; obtain ⟨hO2, hG2, hX2⟩ := after_box HO.out hw; have HO2 := Lib.hid hO2; have HG2 := Lib.hid hG2; clear hO2 hG2 hX2 hw c0 c1)
    go_ret
    exact ⟨_, rfl, by rw [HJ.out]; exact HO2.out, grown_any HG2.out⟩
  · have d1 : decide (y ≤ x) = false := decide_eq_false h1
    cases hk : len with
    | zero =>
      subst hk
      have hl0 : l = [] := List.eq_nil_of_length_eq_zero HN.out.symm
      subst hl0
      have HJ := Lib.hid (show joinL [] (x, y) = [(x, y)] by rw [join_nil, if_neg h1])
      go_enter Try.func28, Try.ntmps28
      go_wp2_with (first | (go_at_call 31; refine (isEmpty_any x y _).mono ?_; rintro e w2 ⟨rfl, hw⟩; obtain ⟨hO2, hG2, hX2⟩ := after_box HO.out hw; clear hw c0 c1; obtain ⟨c0, c1⟩ := hX2.cells; obtain ⟨v', w', hrun, ho', hg'⟩ := append_span w2 base 22 _ [] x y hO2 (by simp) (by have := hG2.size; omega); have HRun := Lib.hid hrun; have HO' := Lib.hid ho'; have HG := Lib.hid (grown_trans (grown_trans (grown_any hG2) (World.grownBy_alloc _ _ _)) hg'); clear hrun ho' hg' hO2 hG2 hX2) | (at_builtin; refine Lib.wpList_append_run _ rfl _ _ _ _ rfl _ _ rfl rfl _ _ HRun.out ?_))
      go_ret
      exact ⟨_, rfl, by rw [HJ.out]; exact HO'.out, HG.out⟩
    | succ k =>
      subst hk
      have hlk : l.length = k + 1 := HN.out.symm
      obtain ⟨g, cap, hv, hbg, hgl⟩ := OwnS.form HO.out (by omega)
      rw [hlk] at hv
      cases hv
      have HLK := Lib.hid hlk
      clear hlk
      obtain ⟨z, hz⟩ : ∃ z, z = (l[k]?.getD (0, 0)).2 := ⟨_, rfl⟩
      obtain ⟨a, ha⟩ : ∃ a, a = (l[k]?.getD (0, 0)).1 := ⟨_, rfl⟩
      have HZ := Lib.hid hz
      have HAA := Lib.hid ha
      have HLS : Hid (lastS l = (a, z)) := Lib.hid (by unfold lastS; rw [HLK.out, Nat.add_sub_cancel, hz, ha])
      clear hz ha
      have hw : IntKind.i64.wrap ((k : Int) + 1 - 1) = (k : Int) := by rw [Int.add_sub_cancel]; exact IntWalk.i64_in _ (by omega)
      by_cases h2 : x ≤ z
      · have d2 : decide (x ≤ z) = true := decide_eq_true h2
        have HJ := Lib.hid (show joinL l (x, y) = l.set k (a, max z y) by unfold joinL; rw [if_neg h1, if_pos ⟨by rw [HLK.out]; omega, by rw [HLS.out]; exact h2⟩, HLS.out, HLK.out, Nat.add_sub_cancel])
        go_enter Try.func28, Try.ntmps28
        go_wp2_with (go_at_call 31; refine (isEmpty_any x y _).mono ?_; rintro e w2 ⟨rfl, hw2⟩; obtain ⟨hO2, hG2, hX2⟩ := after_box HO.out hw2; clear hw2 c0 c1; obtain ⟨c0, c1⟩ := hX2.cells; obtain ⟨lc, lf⟩ := hO2.cellTo (k := k) HLK.out (by omega); rw [← HZ.out] at lc; have HO2 := Lib.hid hO2; have HG2 := Lib.hid hG2; clear hO2 hG2 hX2)
        go_quiet (fail)
        have hO3 : OwnS (w2.drewN nq) base _ l := HO2.out
        have hG3 : w.grownBy (w2.drewN nq) none := grown_drewN HG2.out nq
        have d3 : (w2.drewN nq).cell? ⟨w.heap.size, 0, none⟩ = some (.int .i64 x) := c0
        have d4 : (w2.drewN nq).cell? ⟨w.heap.size, 1, none⟩ = some (.int .i64 y) := c1
        clear c0 c1 lc lf HO2 HG2
        generalize w2.drewN nq = W at *
        obtain ⟨lc, lf⟩ := hO3.cellTo (k := k) HLK.out (by omega)
        rw [← HZ.out] at lc
        have HO3 := Lib.hid hO3
        have HG3 := Lib.hid hG3
        clear hO3 hG3
        go_wp2
        go_still_tail 10, (by kernel_rfl)
        rw [show (if z < y then y else z) = max z y by split <;> omega]
        change wpList _ _ _ _ _ W.drew
        have hO4 : OwnS W.drew base _ l := HO3.out
        have hG4 : w.grownBy W.drew none := grown_drew' HG3.out
        generalize W.drew = W2 at *
        clear HO3 HG3 lc lf d3 d4
        obtain ⟨lc, lf⟩ := hO4.cellTo (k := k) HLK.out (by omega)
        obtain ⟨s1, s2⟩ := hO4.setTo (k := k) HLK.out (max z y)
        have HS := Lib.hid s1
        have HG := Lib.hid (grown_trans (grown_any hG4) s2)
        rw [← HAA.out] at HS
        clear hO4 hG4 s1 s2
        go_wp2
        go_ret
        exact ⟨_, rfl, by rw [HJ.out]; exact HS.out, HG.out⟩
      · have d2 : decide (x ≤ z) = false := decide_eq_false h2
        have HJ := Lib.hid (show joinL l (x, y) = l ++ [(x, y)] by unfold joinL; rw [if_neg h1, if_neg (fun h => by have := h.2; rw [HLS.out] at this; exact h2 this)])
        go_enter Try.func28, Try.ntmps28
        go_wp2_with (go_at_call 31; refine (isEmpty_any x y _).mono ?_; rintro e w2 ⟨rfl, hw2⟩; obtain ⟨hO2, hG2, hX2⟩ := after_box HO.out hw2; clear hw2 c0 c1; obtain ⟨c0, c1⟩ := hX2.cells; obtain ⟨lc, lf⟩ := hO2.cellTo (k := k) HLK.out (by omega); rw [← HZ.out] at lc; have HO2 := Lib.hid hO2; have HG2 := Lib.hid hG2; clear hO2 hG2 hX2)
        go_quiet (fail)
        have hO3 : OwnS (w2.drewN nq) base _ l := HO2.out
        have hG3 : w.grownBy (w2.drewN nq) none := grown_drewN HG2.out nq
        have d3 : (w2.drewN nq).cell? ⟨w.heap.size, 0, none⟩ = some (.int .i64 x) := c0
        have d4 : (w2.drewN nq).cell? ⟨w.heap.size, 1, none⟩ = some (.int .i64 y) := c1
        clear c0 c1 lc lf HO2 HG2
        generalize w2.drewN nq = W at *
        obtain ⟨v', w', hrun, ho', hg'⟩ := append_span W base 22 _ l x y hO3 (by rw [HLK.out]; omega) (by have := hG3.size; omega)
        have HRun := Lib.hid hrun
        have HO' := Lib.hid ho'
        have HG := Lib.hid (grown_trans (grown_trans (grown_any hG3) (World.grownBy_alloc _ _ _)) hg')
        clear hrun ho' hg' hO3 hG3
        go_wp2_with (at_builtin; refine Lib.wpList_append_run _ rfl _ _ _ _ rfl _ _ rfl rfl _ _ HRun.out ?_)
        go_ret
        exact ⟨_, rfl, by rw [HJ.out]; exact HO'.out, HG.out⟩

end Go.Proofs.Ytmjgpgibifceeaa
