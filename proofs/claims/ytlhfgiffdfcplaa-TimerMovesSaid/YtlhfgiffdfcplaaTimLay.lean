/-
  Layer 5: lay, and the program's Set as a whole.
-/
import Derived.Test.YtlhfgiffdfcplaaTimSet
import Derived.WalkSpells
namespace Go.Proofs.Ytlhfgiffdfcplaa
open Go.RowKit Go.Deep Go.Sort

theorem made_map {w : World} {a : Nat} {lv : Value} {d : Array It} {m : List (Int × Value)} {l : List Sp} (h : QL w a (.map none) lv d m l) :
    QL ((w.alloc (.map #[] 0)).setCell ⟨a, 1, none⟩ (.map (some w.heap.size))) a (.map (some w.heap.size)) lv d m l ∧ Grows (Own a (.map none) lv d) (Own a (.map (some w.heap.size)) lv d) w ((w.alloc (.map #[] 0)).setCell ⟨a, 1, none⟩ (.map (some w.heap.size))) := by
  have hm : m = [] := by
    rcases h.mp with ⟨_, e⟩ | ⟨_, _, _, e, _⟩
    · exact e
    · cases e
  have hO : ∀ k, Own a (.map none) lv d k → k < w.heap.size := fun k hk => Own.lt h.mem h.mp.lt hk
  have hA : Mem (w.alloc (.map #[] 0)) a (.map none) lv d := h.mem.other (fun k hk _ => blk_alloc_lt _ _ _ (hO k hk))
  have ha := h.mem.q.lt
  refine ⟨⟨⟨hA.q.map _, hA.row.other hA.ar _ _, fun i hi => (hA.item i hi).other (hA.aq _ (at_mem hi)) _ _, hA.aq, hA.ar, ?_, ?_, hA.rx, ?_, hA.xx⟩, h.heap, ?_, h.mks, h.ls, h.keys, h.small⟩, ?_⟩
  · intro e; cases e; omega
  · intro g hg e
    cases e
    have := (World.ownsRow.lt h.mem.row _ hg).2
    omega
  · intro x hx e
    obtain ⟨i, hi, rfl⟩ := mem_at hx
    have e2 : w.heap.size = d[i]!.1 := by simpa [mapB] using e
    have := (h.mem.item i hi).lt
    omega
  · refine .inr ⟨w.heap.size, #[], 0, rfl, ?_, by rw [hm]; rfl⟩
    rw [blk_setCell_other _ _ _ _ (by show w.heap.size ≠ a; omega), blk_alloc_new]
  · refine ⟨rfl, rfl, rfl, by simp, fun k hk hn => ?_, fun k hk => ?_⟩
    · rw [blk_setCell_other _ _ _ _ (fun e => hn (.inl e)), blk_alloc_lt _ _ _ hk]
    · rcases hk with hk | hk | hk | hk
      · exact .inl (.inl hk)
      · cases hk; exact .inr (Nat.le_refl _)
      · exact .inl (.inr (.inr (.inl hk)))
      · exact .inl (.inr (.inr (.inr hk)))

theorem lay_ready {w : World} {a b : Nat} {lv : Value} {d : Array It} {m : List (Int × Value)} {l : List Sp} (h : QL w a (.map (some b)) lv d m l) {key t : Int} (hk : ∀ s ∈ l, s.1 ≠ key) (hd : d.size < 1000) :
    ∃ w3, (Instr.mapUpdate 55 (.map (some b)) (.int .i64 key) (.pointer (some ⟨w.heap.size, 0, none⟩))).run Try.prog (w.alloc (.cells #[.int .i64 key, .int .i64 t, .int .i64 0] 70)) = .ok () w3 ∧
      Calls Try.prog 32 #[.iface 72 (.pointer (some ⟨a, 0, none⟩)), .iface 67 (.pointer (some ⟨w.heap.size, 0, none⟩))] w3 fun e W => e = .returned (.tuple #[]) ∧ ∃ lv' d' m', QL W a (.map (some b)) lv' d' m' (l ++ [(key, t)]) ∧ Grows (Own a (.map (some b)) lv d) (Own a (.map (some b)) lv' d') w W := by
  have hO : ∀ k, Own a (.map (some b)) lv d k → k < w.heap.size := fun k hk => Own.lt h.mem h.mp.lt hk
  obtain ⟨x, hx⟩ : ∃ x : It, x = (w.heap.size, key, t) := ⟨_, rfl⟩
  have h2 : QL (w.alloc (.cells #[.int .i64 key, .int .i64 t, .int .i64 0] 70)) a (.map (some b)) lv d m l := h.frame (fun k hk => blk_alloc_lt _ _ _ (hO k hk))
  obtain ⟨w3, hrun, hmp, hg⟩ := run_put h2.mp key (ptrOf x) (h.out_m hk)
  have hb : b < w.heap.size := hO b (.inr (.inl rfl))
  have hm3 : Mem w3 a (.map (some b)) lv d := h2.mem.other (fun k hk hn => hg.block k (by have := hO k hk; simp; omega) (fun e => hn (by rw [e]; rfl)))
  have hbx : WBox w3 x 0 := by
    unfold WBox
    rw [hx, hg.block w.heap.size (by simp) (by omega), blk_alloc_new]
  have hsz : w3.heap.size ≥ w.heap.size + 1 := by have := hg.size; simp at this; omega
  have hS : HQ w3 (fun k => Own a (.map (some b)) lv d k ∨ k = x.1) a (.map (some b)) [] w3 d :=
    ⟨⟨lv, hm3, ⟨rfl, rfl, rfl, Nat.le_refl _, fun _ _ _ => rfl, fun _ hk => .inl (.inl hk)⟩, fun y hy => by simp at hy⟩, fun k hk => ⟨hmp.lt k hk, rfl⟩, fun y hy => by simp at hy, by omega⟩
  have hx1 : x.1 = w.heap.size := by rw [hx]
  refine ⟨w3, by rw [← hrun, hx]; rfl, ?_⟩
  have hP := push_any (heap_on w3 (fun k => Own a (.map (some b)) lv d k ∨ k = x.1) a (.map (some b)) []) (heap_more w3 (fun k => Own a (.map (some b)) lv d k ∨ k = x.1) a (.map (some b)) []) ltI_swo w3 d x (.iface 67 (ptrOf x)) hS
    ⟨rfl, rfl, ⟨0, hbx⟩, .inr rfl, by have := h.mem.q.lt; omega, by intro e; cases e; omega, fun y hy e => by
      obtain ⟨i, hi, rfl⟩ := mem_at hy
      have := (h.mem.item i hi).lt
      omega, fun lv2 hm2 e => by
      have e2 := hm2.q.cells.1
      rw [hm3.q.cells.1] at e2
      cases e2
      have := (World.ownsRow.lt h.mem.row _ e).2
      omega, by omega⟩ h.heap (by omega)
  rw [hx] at hP
  refine hP.mono ?_
  rintro e W ⟨rfl, d', hq, hp, hh⟩
  obtain ⟨lv', hm, hgg, -⟩ := hq.mem
  rw [← hx] at hp hgg
  have hp2 : d'.toList.Perm (x :: d.toList) := hp.trans (List.perm_append_singleton _ _)
  have hls : (d'.toList.map (·.2)).Perm (l ++ [(key, t)]) := by
    refine (hp.map _).trans ?_
    rw [List.map_append]
    have : [x].map (fun y : It => y.2) = [(key, t)] := by rw [hx]; rfl
    rw [this]
    exact h.ls.append_right _
  have hnd : ((l ++ [(key, t)]).map (·.1)).Nodup := by
    rw [List.map_append]
    refine List.nodup_append.2 ⟨h.keys, by simp, fun u hu v hv => ?_⟩
    obtain ⟨s, hs, rfl⟩ := List.mem_map.1 hu
    simp at hv
    subst hv
    exact hk s hs
  refine ⟨rfl, lv', d', m ++ [(key, ptrOf x)], ⟨hm, hh, hmp.kept (fun k hk => (hq.map k hk).2), ?_, hls, hnd, ?_⟩, ?_⟩
  · refine (h.mks.append_right _).trans ?_
    have : [(key, ptrOf x)] = [x].map (fun y : It => (y.2.1, ptrOf y)) := by rw [hx]; rfl
    rw [this, ← List.map_append]
    exact (hp.map _).symm
  · have := h.len
    rw [List.length_append]
    simp only [List.length_cons, List.length_nil]
    omega
  · refine ⟨hgg.os.trans hg.os, hgg.tape.trans hg.tape, hgg.output.trans hg.output, by have := hgg.size; omega, fun k hk hn => ?_, fun k hk => ?_⟩
    · rw [hgg.block k (by omega) (by rintro (h1 | h1); exact hn h1; omega), hg.block k (by simp; omega) (fun e => hn (.inr (.inl (by rw [e]; rfl)))), blk_alloc_lt _ _ _ hk]
    · rcases hgg.own k hk with (h1 | h1) | h1
      · exact .inl h1
      · exact .inr (by omega)
      · exact .inr (by omega)

def LayPost (a : Nat) (mv lv : Value) (d : Array It) (w : World) (l' : List Sp) (W : World) : Prop := ∃ mv' lv' d' m', QL W a mv' lv' d' m' l' ∧ Grows (Own a mv lv d) (Own a mv' lv' d') w W
set_option maxRecDepth 100000 in
set_option maxHeartbeats 1000000 in
theorem qlay_any {w : World} {a : Nat} {mv lv : Value} {d : Array It} {m : List (Int × Value)} {l : List Sp} (h : QL w a mv lv d m l) {key t : Int} (hk : ∀ s ∈ l, s.1 ≠ key) (hd : d.size < 1000) :
    Calls Try.prog 28 #[.pointer (some ⟨a, 0, none⟩), .int .i64 key, .int .i64 t] w fun e W => e = .returned (.tuple #[]) ∧ LayPost a mv lv d w (l ++ [(key, t)]) W := by
  have qM : ∀ (w : World) (r : Option Nat), (binOp .eql 55 (.map r) (.map none)).run Try.prog w = .ok (.bool r.isNone) w := fun w r => run_eql_map_nil w _ _ _ r Try.underlying55
  have c1 := h.mem.q.cells.2
  rcases h.mp with ⟨rfl, _⟩ | ⟨b, _, _, rfl, _⟩
  · obtain ⟨h1, hg1⟩ := made_map h
    have f1 := h.mem.q.frozen 1
    have ha := h.mem.q.lt
    have hsz : ((w.alloc (.map #[] 0)).setCell ⟨a, 1, none⟩ (.map (some w.heap.size))).heap.size = w.heap.size + 1 := by simp
    obtain ⟨w3, hput, hpush⟩ := lay_ready h1 (t := t) hk hd
    rw [hsz] at hput hpush
    have hsa := World.setCell_alloc_past (w := w) (.map #[] 0) a 1 (.map (some w.heap.size)) ha
    rw [hsa] at hput
    have c2 : (((w.alloc (.map #[] 0)).setCell ⟨a, 1, none⟩ (.map (some w.heap.size))).alloc (.cells #[.int .i64 key, .int .i64 t, .int .i64 0] 70)).cell? ⟨a, 1, none⟩ = some (.map (some w.heap.size)) := (World.cell?_of_block (blk_alloc_lt _ _ _ h1.mem.q.lt)).trans h1.mem.q.cells.2
    rw [hsa] at c2
    have c3 : (w.alloc (.map #[] 0)).cell? ⟨a, 1, none⟩ = some (.map none) := (World.cell?_of_block (blk_alloc_lt _ _ _ h.mem.q.lt)).trans c1
    have f3 : (w.alloc (.map #[] 0)).frozen? ⟨a, 1, none⟩ = false := ((h.mem.other (fun k hk _ => blk_alloc_lt w (.map #[] 0) k (Own.lt h.mem h.mp.lt hk))).q.frozen 1)
    have HP := Lib.hid hpush
    have HG := Lib.hid hg1
    clear h h1 hk hd hpush hg1 hsz f1 hsa
    have hmm := @run_makeMap Try.prog
    go_enter Try.func28, Try.ntmps28
    go_wp2_with fail
    refine HP.out.mono ?_
    rintro e W ⟨rfl, lv', d', m', hq, hg⟩
    have HR := Lib.hid (show LayPost a (.map none) lv d w (l ++ [(key, t)]) W from ⟨_, lv', d', m', hq, HG.out.trans hg⟩)
    clear hq hg
    go_wp2_with fail
    go_end0
    exact ⟨rfl, HR.out⟩
  · obtain ⟨w3, hput, hpush⟩ := lay_ready h (t := t) hk hd
    have HP := Lib.hid hpush
    have c2 : (w.alloc (.cells #[.int .i64 key, .int .i64 t, .int .i64 0] 70)).cell? ⟨a, 1, none⟩ = some (.map (some b)) := (World.cell?_of_block (blk_alloc_lt _ _ _ h.mem.q.lt)).trans c1
    clear h hk hd hpush
    go_enter Try.func28, Try.ntmps28
    go_wp2_with fail
    refine HP.out.mono ?_
    rintro e W ⟨rfl, lv', d', m', hq, hg⟩
    have HR := Lib.hid (show LayPost a (.map (some b)) lv d w (l ++ [(key, t)]) W from ⟨_, lv', d', m', hq, hg⟩)
    clear hq hg
    go_wp2_with fail
    go_end0
    exact ⟨rfl, HR.out⟩

set_option maxRecDepth 100000 in
set_option maxHeartbeats 1000000 in
theorem qset_any {w : World} {a : Nat} {mv lv : Value} {d : Array It} {m : List (Int × Value)} {l : List Sp} (h : QL w a mv lv d m l) (key t : Int) :
    Calls Try.prog 14 #[.pointer (some ⟨a, 0, none⟩), .int .i64 key, .int .i64 t] w fun e W => e = .returned (.bool (setB l key)) ∧ LayPost a mv lv d w (setL l key t) W := by
  have hF := qfind_any h key
  rcases h.has key with ⟨i, hi, hk⟩ | hk
  · have hless := drop_less (h.at_l hi)
    rw [hk] at hless
    have HB : Hid (setB l key = true) := Lib.hid (by unfold setB; rw [decide_eq_true_iff]; have := h.small; omega)
    have e1 := h.look_in hi
    rw [hk] at e1
    rw [e1] at hF
    unfold ptrOf at hF
    obtain ⟨-, c1, c2⟩ := (h.mem.item i hi).cells
    have f1 := (h.mem.item i hi).frozen 1
    have c3 : (w.setCell ⟨d[i]!.1, 1, none⟩ (.int .i64 t)).cell? ⟨d[i]!.1, 2, none⟩ = some (.int .i64 i) := ((h.mem.item i hi).setAt t).cells.2.2
    have hq0 : HQ (w.setCell ⟨d[i]!.1, 1, none⟩ (.int .i64 t)) (Own a mv lv d) a mv [] (w.setCell ⟨d[i]!.1, 1, none⟩ (.int .i64 t)) (d.setIfInBounds i (d[i]!.1, d[i]!.2.1, t)) :=
      ⟨⟨lv, h.mem.setAt hi t, ⟨rfl, rfl, rfl, Nat.le_refl _, fun _ _ _ => rfl, fun k hk => .inl ((own_set hi a mv lv t k).1 hk)⟩, fun y hy => by simp at hy⟩, fun k hk => ⟨by simpa using h.mp.lt k hk, rfl⟩, fun y hy => by simp at hy, by rw [Array.size_setIfInBounds]; have := h.len; have := h.small; omega⟩
    have hFix := fix_any (heap_on (w.setCell ⟨d[i]!.1, 1, none⟩ (.int .i64 t)) (Own a mv lv d) a mv []) ltI_swo (w.setCell ⟨d[i]!.1, 1, none⟩ (.int .i64 t)).drew (d.setIfInBounds i (d[i]!.1, d[i]!.2.1, t)) i (hq0.drewN 1) (by rw [Array.size_setIfInBounds]; exact hi) (by rw [Array.size_setIfInBounds]; exact heap_set ltI_swo h.heap _) (by rw [Array.size_setIfInBounds]; have := h.len; have := h.small; omega)
    have HFix := Lib.hid (hFix.mono (R' := fun e W => e = .returned (.tuple #[]) ∧ LayPost a mv lv d w (setL l key t) W) (by
      rintro e W ⟨rfl, d', hq, hp, hh⟩
      refine ⟨rfl, ?_⟩
      obtain ⟨lv', d', m', h1, h2⟩ := was_set h hi hq hp hh
      rw [hk] at h1
      exact ⟨mv, lv', d', m', h1, h2⟩))
    rw [HB.out]
    clear HB hFix hq0 hless e1 h hk hi
    generalize d[i]!.1 = g at *
    have HF := Lib.hid hF
    clear hF
    go_enter Try.func14, Try.ntmps14
    go_wp2_with fail
    refine HF.out.mono ?_
    rintro e w' ⟨rfl, rfl⟩
    go_wp2_with fail
    go_region_with (go_at_call 27; with_reducible refine HFix.out.mono ?_; rintro e W ⟨rfl, hW⟩; have HW := Lib.hid hW; clear hW)
    all_goals
      go_wp2_with fail
      go_ret
      exact ⟨rfl, HW.out⟩
  · have hdl := drop_none hk
    rw [h.look_out hk] at hF
    have HF := Lib.hid hF
    obtain ⟨A, cap, rfl⟩ := h.mem.lv_any
    have c1 := h.mem.q.cells.1
    have hlen := h.len
    by_cases hd : d.size < 1000
    · have HB : Hid (setB l key = true ∧ setL l key t = l ++ [(key, t)]) := Lib.hid (by unfold setB setL; rw [hdl, ← hlen, decide_eq_true_iff]; exact ⟨hd, by rw [if_neg (by omega)]⟩)
      have HL := Lib.hid (qlay_any h (t := t) hk hd)
      rw [HB.out.1, HB.out.2]
      clear HB h hk hdl hF hlen
      generalize LayPost a mv (.slice A d.size cap) d w (l ++ [(key, t)]) = Post at *
      generalize d.size = n at *
      have i0 : ¬ (1000 : Int) ≤ (n : Int) := by omega
      have i1 : decide ((1000 : Int) ≤ (n : Int)) = false := decide_eq_false i0
      go_enter Try.func14, Try.ntmps14
      go_wp2_with fail
      refine HF.out.mono ?_
      rintro e w' ⟨rfl, rfl⟩
      go_wp2_with fail
      refine HL.out.mono ?_
      rintro e W ⟨rfl, hW⟩
      have HW := Lib.hid hW
      clear hW
      go_wp2_with fail
      go_ret
      exact ⟨rfl, HW.out⟩
    · have HB : Hid (setB l key = false ∧ setL l key t = l) := Lib.hid (by unfold setB setL; rw [hdl, ← hlen, decide_eq_false_iff_not]; exact ⟨by omega, by rw [if_pos (by omega)]⟩)
      have HL : Hid (LayPost a mv (.slice A d.size cap) d w l w) := Lib.hid ⟨mv, _, d, m, h, own_same a mv _ d w⟩
      rw [HB.out.1, HB.out.2]
      clear HB h hk hdl hF hlen
      generalize LayPost a mv (.slice A d.size cap) d w l = Post at *
      generalize d.size = n at *
      have i0 : (1000 : Int) ≤ (n : Int) := by omega
      have i1 : decide ((1000 : Int) ≤ (n : Int)) = true := decide_eq_true i0
      go_enter Try.func14, Try.ntmps14
      go_wp2_with fail
      refine HF.out.mono ?_
      rintro e w' ⟨rfl, rfl⟩
      go_wp2_with fail
      go_ret
      exact ⟨rfl, HL.out⟩
set_option maxRecDepth 100000 in
theorem qset_nil (w : World) (key t : Int) : Calls Try.prog 14 #[.pointer none, .int .i64 key, .int .i64 t] w fun e w' => e = .returned (.bool false) ∧ w' = w := by
  go_enter Try.func14, Try.ntmps14
  go_wp2_with fail
  refine (qfind_nil w key).mono ?_
  rintro e w' ⟨rfl, rfl⟩
  go_wp2_with fail
  go_ret
  exact ⟨rfl, rfl⟩

end Go.Proofs.Ytlhfgiffdfcplaa
