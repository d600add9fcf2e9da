/-
  Layer 5: the program's Set: a key that is there gets another time, and the heap is mended; another one is laid into the map and pushed.
-/
import Derived.Test.YtlhfgiffdfcplaaTimDrop
import Derived.Deep.RegionWith
namespace Go.Proofs.Ytlhfgiffdfcplaa
open Go.RowKit Go.Deep Go.Sort

set_option maxRecDepth 100000 in
theorem qdue_nil (w : World) (now : Int) : Calls Try.prog 15 #[.pointer none, .int .i64 now] w fun e w' => e = .returned (.slice none 0 0) ∧ w' = w := by
  go_enter Try.func15, Try.ntmps15
  go_wp2_with fail
  go_loopw [5] (fun v wr => v = .slice none 0 0 ∧ wr = w) (fun _ _ => 0)
  case atStart => exact ⟨rfl, rfl⟩
  case round =>
    obtain ⟨rfl, rfl⟩ := hrel
    go_wp2_with fail
    refine (qlen_nil wr).mono ?_
    rintro e w2 ⟨rfl, rfl⟩
    have e0 : decide ((0 : Int) < 0) = false := rfl
    go_wp2_with fail
    go_ret
    exact ⟨rfl, rfl⟩

/-! ### a key that is there -/
theorem Mem.setAt {w : World} {a : Nat} {mv lv : Value} {d : Array It} (h : Mem w a mv lv d) {i : Nat} (hi : i < d.size) (t : Int) : Mem (w.setCell ⟨d[i]!.1, 1, none⟩ (.int .i64 t)) a mv lv (d.setIfInBounds i (d[i]!.1, d[i]!.2.1, t)) := by
  have hm := at_mem hi
  have hs : ∀ k, k ≠ i → (d.setIfInBounds i (d[i]!.1, d[i]!.2.1, t))[k]! = d[k]! := fun k hk => by simp only [getElem!_def, Array.getElem?_setIfInBounds, if_neg (Ne.symm hk)]
  have hsi : (d.setIfInBounds i (d[i]!.1, d[i]!.2.1, t))[i]! = (d[i]!.1, d[i]!.2.1, t) := by simp [hi]
  have hmap : ∀ {β : Type} (f : It → β), f (d[i]!.1, d[i]!.2.1, t) = f d[i]! → ((d.setIfInBounds i (d[i]!.1, d[i]!.2.1, t)).toList.map f) = d.toList.map f := fun f hf => by
    rw [Array.toList_setIfInBounds, List.map_set, hf]
    refine List.ext_getElem? (fun k => ?_)
    rw [List.getElem?_set]
    by_cases e : i = k
    · subst e
      rw [if_pos rfl, List.length_map, Array.length_toList, if_pos hi, List.getElem?_map, Array.getElem?_toList, Array.getElem?_eq_getElem hi, getElem!_pos d i hi]; rfl
    · rw [if_neg e]
  have h1 := hmap (fun x => x.1) rfl
  have hmem : ∀ x ∈ (d.setIfInBounds i (d[i]!.1, d[i]!.2.1, t)).toList, ∃ y ∈ d.toList, y.1 = x.1 := fun x hx => by
    have := List.mem_map_of_mem (f := fun x : It => x.1) hx
    rw [h1] at this
    obtain ⟨y, hy, e⟩ := List.mem_map.1 this
    exact ⟨y, hy, e⟩
  refine ⟨h.q.other (fun e => h.aq _ hm e.symm) _ _, ?_, ?_, ?_, h.ar, h.am, h.rm, ?_, ?_, by rw [h1]; exact h.xx⟩
  · have := h.row.other (g := d[i]!.1) (fun e => h.rx _ e _ hm rfl) 1 (.int .i64 t)
    unfold RowP at this ⊢
    rw [hmap ptrOf rfl, Array.size_setIfInBounds]
    exact this
  · intro k hk
    rw [Array.size_setIfInBounds] at hk
    by_cases e : k = i
    · subst e
      rw [hsi]
      exact (h.item k hk).setAt t
    · rw [hs k e]
      exact (h.item k hk).other (fun e2 => e (h.ne hk hi e2)) _ _
  · intro x hx
    obtain ⟨y, hy, e⟩ := hmem x hx
    rw [← e]; exact h.aq y hy
  · intro g hg x hx
    obtain ⟨y, hy, e⟩ := hmem x hx
    rw [← e]; exact h.rx g hg y hy
  · intro x hx
    obtain ⟨y, hy, e⟩ := hmem x hx
    rw [← e]; exact h.xm y hy
theorem set_split {d : Array It} {i : Nat} (hi : i < d.size) (x : It) : ∃ r, d.toList.Perm (d[i]! :: r) ∧ (d.setIfInBounds i x).toList.Perm (x :: r) := by
  have hl : i < d.toList.length := by simpa using hi
  refine ⟨d.toList.eraseIdx i, ?_, ?_⟩
  · have := erase_perm hl
    rw [getElem!_pos d i hi]
    simpa using this
  · have hl2 : i < (d.toList.set i x).length := by simpa using hi
    have := erase_perm hl2
    rw [List.getElem_set_self, List.eraseIdx_set_eq] at this
    rw [Array.toList_setIfInBounds]
    exact this
theorem own_set {d : Array It} {i : Nat} (hi : i < d.size) (a : Nat) (mv lv : Value) (t : Int) (k : Nat) : Own a mv lv (d.setIfInBounds i (d[i]!.1, d[i]!.2.1, t)) k ↔ Own a mv lv d k := by
  obtain ⟨r, h1, h2⟩ := set_split hi (d[i]!.1, d[i]!.2.1, t)
  have e : (∃ x ∈ (d.setIfInBounds i (d[i]!.1, d[i]!.2.1, t)).toList, x.1 = k) ↔ ∃ x ∈ d.toList, x.1 = k := by
    constructor
    · rintro ⟨x, hx, rfl⟩
      rcases List.mem_cons.1 (h2.subset hx) with rfl | hx
      · exact ⟨d[i]!, at_mem hi, rfl⟩
      · exact ⟨x, h1.symm.subset (List.mem_cons_of_mem _ hx), rfl⟩
    · rintro ⟨x, hx, rfl⟩
      rcases List.mem_cons.1 (h1.subset hx) with rfl | hx
      · exact ⟨_, h2.symm.subset (List.mem_cons_self ..), rfl⟩
      · exact ⟨x, h2.symm.subset (List.mem_cons_of_mem _ hx), rfl⟩
  unfold Own
  rw [e]
/-- what is there when a key that was there was set -/
theorem was_set {w W : World} {a : Nat} {mv lv : Value} {d d' : Array It} {m : List (Int × Value)} {l : List Sp} {i : Nat} {t : Int} (h : QL w a mv lv d m l) (hi : i < d.size)
    (hq : HQ (w.setCell ⟨d[i]!.1, 1, none⟩ (.int .i64 t)) (Own a mv lv d) a mv [] W d') (hp : d'.toList.Perm (d.setIfInBounds i (d[i]!.1, d[i]!.2.1, t)).toList) (hh : HeapN ltI d'.size d') :
    ∃ lv' d' m', QL W a mv lv' d' m' (setL l d[i]!.2.1 t) ∧ Grows (Own a mv lv d) (Own a mv lv' d') w W := by
  obtain ⟨lv', hm, hg, -⟩ := hq.mem
  obtain ⟨r, h1, h2⟩ := set_split hi (d[i]!.1, d[i]!.2.1, t)
  have hd : (dropL l d[i]!.2.1).Perm (r.map (·.2)) := drop_one h.keys (h.ls.symm.trans (h1.map _))
  have hlen : ¬ 1000 ≤ (dropL l d[i]!.2.1).length := by
    have := drop_less (h.at_l hi)
    have := h.small
    omega
  have hls : (d'.toList.map (·.2)).Perm (setL l d[i]!.2.1 t) := by
    unfold setL
    rw [if_neg hlen]
    refine ((hp.trans h2).map _).trans ?_
    rw [List.map_cons]
    exact (List.perm_append_singleton _ _).symm.trans (hd.symm.append_right _) |>.trans (List.Perm.refl _)
  refine ⟨lv', d', m, ⟨hm, hh, h.mp.kept (fun k hk => ?_), ?_, hls, ?_, ?_⟩, ?_⟩
  · rw [(hq.map k hk).2]
    exact blk_setCell_other _ _ _ _ (fun e => h.mem.xm _ (at_mem hi) (by rw [hk, e]))
  · exact h.mks.trans ((h1.map _).trans ((hp.trans h2).map (fun x => (x.2.1, ptrOf x))).symm)
  · unfold setL
    rw [if_neg hlen, List.map_append]
    refine List.nodup_append.2 ⟨drop_keys h.keys _, by simp, fun u hu v hv => ?_⟩
    obtain ⟨s, hs, rfl⟩ := List.mem_map.1 hu
    simp at hv
    subst hv
    exact (drop_mem.1 hs).2
  · unfold setL
    rw [if_neg hlen, List.length_append]
    simp only [List.length_cons, List.length_nil]
    omega
  · exact ⟨hg.os, hg.tape, hg.output, by simpa using hg.size, fun k hk hn => (hg.block k (by simpa using hk) hn).trans (blk_setCell_other _ _ _ _ (fun e => hn (.inr (.inr (.inr ⟨_, at_mem hi, e.symm⟩))))), fun k hk => by simpa using hg.own k hk⟩

end Go.Proofs.Ytlhfgiffdfcplaa
