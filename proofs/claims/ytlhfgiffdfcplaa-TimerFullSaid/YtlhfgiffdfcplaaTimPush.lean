/-
  Layer 5: the program's Push, as container/heap meets it.
-/
import Derived.Test.YtlhfgiffdfcplaaTimHeap
import Derived.Deep.OwnRows
import Derived.Lib.AppendZeros
namespace Go.Proofs.Ytlhfgiffdfcplaa
open Go.RowKit Go.Deep Go.Sort

theorem Try.info67 : (Try.prog.info? 67).map (fun i => (i.zero, i.size, i.bytes)) = some (some (.pointer none), 1, 8) := by kernel_rfl
theorem append_p (w : World) (ty : Nat) (v : Value) (d : Array It) (x : It) (h : RowP w v d) (hk : d.size ≤ 1000000) :
    ∃ v' w', (Builtin.append_ #[54, 54] ty #[v, .slice (some ⟨w.heap.size, 0, none⟩) 1 1]).run Try.prog (w.alloc (.cells #[ptrOf x] 67)) = .ok v' w' ∧ RowP w' v' (d.push x) ∧ (w.alloc (.cells #[ptrOf x] 67)).grownBy w' v.ownBlock ∧ (v'.ownBlock = v.ownBlock ∨ v'.ownBlock = some (w.heap.size + 1)) := by
  obtain ⟨i0, hi, hz0, hz1, hz2⟩ := info_parts Try.info67
  obtain ⟨v', w', hrun, ho, hg, _, hl⟩ := run_append_own_at (P := Try.prog) (w := w.alloc (.cells #[ptrOf x] 67)) 0 54 ty 67 i0 _ 1 8 Try.underlying54 hi hz0 hz1 hz2 rfl (by decide) v d.size (d.toList.map ptrOf) (h.alloc _) ⟨w.heap.size, 0, none⟩ 1 1 [ptrOf x] rfl (cell_one_new _ _ _) (fun u hu => by simp at hu; subst hu; rfl) (by unfold maxLen; omega) (by omega) (Nat.zero_le _)
  refine ⟨v', w', hrun, ?_, hg, by simpa using hl⟩
  unfold RowP
  rw [Array.size_push, Array.toList_push, List.map_append]
  exact ho

set_option maxRecDepth 100000 in
set_option maxHeartbeats 400000 in
theorem wpush_any {W : World} {a : Nat} {mv lv : Value} {d : Array It} {x : It} (h : Mem W a mv lv d) (hx : ∃ p, WBox W x p) (hxa : x.1 ≠ a) (hxr : lv.ownBlock ≠ some x.1) (hxm : mapB mv ≠ some x.1) (hmm : ∀ k, mapB mv = some k → k < W.heap.size) (hxd : ∀ y ∈ d.toList, y.1 ≠ x.1) (hm : d.size ≤ 1000000) :
    Calls Try.prog 54 #[.pointer (some ⟨a, 0, none⟩), .iface 67 (ptrOf x)] W fun e w' => e = .returned (.tuple #[]) ∧ ∃ lv', Mem w' a mv lv' (d.push x) ∧ Grows (fun k => k = a ∨ lv.ownBlock = some k ∨ k = x.1) (fun k => k = a ∨ lv'.ownBlock = some k ∨ k = x.1) W w' := by
  obtain ⟨p, hp⟩ := hx
  obtain ⟨A, cap, rfl⟩ := h.lv_any
  have hpc := hp.cells.2.2
  have hpf := hp.frozen 2
  have c2 := h.q.cells.1
  have e1 : (W.setCell ⟨x.1, 2, none⟩ (.int .i64 d.size)).cell? ⟨a, 0, none⟩ = some (.slice A d.size cap) := (h.q.other (fun e => hxa e.symm) 2 (.int .i64 d.size)).cells.1
  have r1 : RowP (W.setCell ⟨x.1, 2, none⟩ (.int .i64 d.size)) (.slice A d.size cap) d := h.row.other hxr _ _
  obtain ⟨v', w', hrun, hr', hg, hl⟩ := append_p _ 54 _ d x r1 hm
  obtain ⟨B, c', rfl⟩ : ∃ B c', v' = .slice B (d.size + 1) c' := by
    obtain ⟨_, ⟨h0, h1⟩ | ⟨g, c, cur, e, _⟩⟩ := hr'
    · rw [Array.size_push] at h1; omega
    · exact ⟨_, c, by rw [e, Array.size_push]⟩
  generalize hv' : Value.slice B (d.size + 1) c' = v' at hrun hr' hg hl
  have hszW : (W.setCell ⟨x.1, 2, none⟩ (.int .i64 d.size)).heap.size = W.heap.size := by simp
  have hgr : Grows (fun k => k = a ∨ (Value.slice A d.size cap).ownBlock = some k ∨ k = x.1) (fun k => k = a ∨ v'.ownBlock = some k ∨ k = x.1) W w' := by
    refine ⟨hg.os, hg.tape, hg.output, ?_, ?_, ?_⟩
    · have := hg.size
      simp at this
      omega
    · intro k hk hn
      simp only [not_or] at hn
      rw [hg.block k (by simp; omega) (fun e => hn.2.1 e.symm), blk_alloc_lt _ _ _ (by simp; exact hk), blk_setCell_other _ _ _ _ hn.2.2]
    · intro k hk
      rcases hk with hk | hk | hk
      · exact .inl (.inl hk)
      · rcases hl with hl | hl
        · exact .inl (.inr (.inl (by rw [← hl]; exact hk)))
        · rw [hl] at hk
          cases hk
          exact .inr (by rw [hszW]; omega)
      · exact .inl (.inr (.inr hk))
  have hbl : ∀ k, k < W.heap.size → (Value.slice A d.size cap).ownBlock ≠ some k → w'.heap[k]? = (W.setCell ⟨x.1, 2, none⟩ (.int .i64 d.size)).heap[k]? := fun k hk hn => by
    rw [hg.block k (by simp; omega) (fun e => hn e.symm), blk_alloc_lt _ _ _ (by simp; exact hk)]
  have hqw : QBox w' a mv (.slice A d.size cap) := (hbl a h.q.lt h.ar).trans (h.q.other (fun e => hxa e.symm) _ _)
  have c3 := hqw.cells.1
  have f3 := hqw.frozen 0
  have hnew : ∀ g, v'.ownBlock = some g → g = W.heap.size + 1 ∨ (Value.slice A d.size cap).ownBlock = some g := fun g e => by
    rcases hl with hl | hl
    · exact .inr (by rw [← hl]; exact e)
    · rw [hl] at e; cases e; exact .inl (by rw [hszW])
  have hva : v'.ownBlock ≠ some a := fun e => by
    rcases hnew _ e with e2 | e2
    · have := h.q.lt; omega
    · exact h.ar e2
  have hItem : ∀ y : It, (∃ i, i < d.size ∧ y = d[i]!) → y.1 < W.heap.size ∧ y.1 ≠ x.1 ∧ (Value.slice A d.size cap).ownBlock ≠ some y.1 := fun y ⟨i, hi, e⟩ => by
    subst e
    exact ⟨(h.item i hi).lt, hxd _ (at_mem hi), fun e => h.rx _ e _ (at_mem hi) rfl⟩
  have HE : Hid (Mem (w'.setCell ⟨a, 0, none⟩ v') a mv v' (d.push x) ∧ Grows (fun k => k = a ∨ (Value.slice A d.size cap).ownBlock = some k ∨ k = x.1) (fun k => k = a ∨ v'.ownBlock = some k ∨ k = x.1) W (w'.setCell ⟨a, 0, none⟩ v')) := by
    refine Lib.hid ⟨⟨hqw.line _, hr'.other hva _ _, ?_, ?_, hva, h.am, ?_, ?_, ?_, ?_⟩, ?_⟩
    · intro i hi
      rw [Array.size_push] at hi
      by_cases e : i = d.size
      · subst e
        rw [getElem!_pos (d.push x) d.size (by simp), Array.getElem_push_eq]
        have : WBox w' x d.size := (hbl x.1 hp.lt hxr).trans (hp.set _)
        exact this.other hxa _ _
      · have hi' : i < d.size := by omega
        obtain ⟨b1, b2, b3⟩ := hItem d[i]! ⟨i, hi', rfl⟩
        rw [push_get d x hi']
        have : WBox w' d[i]! i := (hbl _ b1 b3).trans ((h.item i hi').other b2 _ _)
        exact this.other (h.aq _ (at_mem hi')) _ _
    · intro y hy
      rw [Array.toList_push, List.mem_append, List.mem_singleton] at hy
      rcases hy with hy | rfl
      · exact h.aq y hy
      · exact hxa
    · intro g hg1 hg2
      rcases hnew g hg1 with e | e
      · have := hmm g hg2; omega
      · exact h.rm g e hg2
    · intro g hg1 y hy
      rw [Array.toList_push, List.mem_append, List.mem_singleton] at hy
      rcases hnew g hg1 with e | e
      · rcases hy with hy | rfl
        · obtain ⟨i, hi, rfl⟩ := mem_at hy
          have := (h.item i hi).lt
          omega
        · have := hp.lt
          omega
      · rcases hy with hy | rfl
        · exact h.rx g e y hy
        · exact fun e2 => hxr (by rw [e2]; exact e)
    · intro y hy
      rw [Array.toList_push, List.mem_append, List.mem_singleton] at hy
      rcases hy with hy | rfl
      · exact h.xm y hy
      · exact hxm
    · rw [Array.toList_push, List.map_append]
      refine List.nodup_append.2 ⟨h.xx, by simp, fun u hu v hv => ?_⟩
      obtain ⟨y, hy, rfl⟩ := List.mem_map.1 hu
      simp at hv
      subst hv
      exact hxd y hy
    · exact ⟨hgr.os, hgr.tape, hgr.output, by simpa using hgr.size, fun k hk hn => (blk_setCell_other _ _ _ _ (fun e => hn (.inl e))).trans (hgr.block k hk hn), hgr.own⟩
  rw [hszW, ← hv'] at hrun
  have HV := Lib.hid hv'
  have HRun := Lib.hid hrun
  have HX : Hid (ptrOf x = .pointer (some ⟨x.1, 0, none⟩)) := Lib.hid rfl
  rw [HX.out] at HRun
  rw [HX.out]
  clear hv' hrun hr' hg hl hgr hbl hqw hnew hva hItem r1 hp h hxa hxr hxm hmm hxd hszW HX
  obtain ⟨n, hn⟩ : ∃ n, n = d.size := ⟨_, rfl⟩
  rw [← hn] at c2 e1 c3 HRun HV
  have HN := Lib.hid hn
  clear hn
  have hta := run_assert_w (.pointer (some ⟨x.1, 0, none⟩))
  go_enter Try.func54, Try.ntmps54
  go_wp2_with (at_builtin; refine Lib.wpList_append_run _ rfl _ _ _ _ rfl _ _ rfl rfl _ _ HRun.out ?_)
  go_end0
  rw [HV.out]
  exact ⟨rfl, v', HE.out⟩

end Go.Proofs.Ytlhfgiffdfcplaa
