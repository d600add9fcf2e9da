/-
  Layer 5, the program's queue in memory: the queue's struct, the row of pointers, each one's box; what a swap, a push, a pop leave.
-/
import Derived.Test.YtlhfgiffdfcplaaHeapOps
import Derived.Test.YtlhfgiffdfcplaaTimLawsA
import Derived.Test.YtlhfgiffdfcplaaTimSpec
import Derived.Maps.AppendAt
namespace Go.Proofs.Ytlhfgiffdfcplaa
open Go.RowKit Go.Deep Go.Sort

/-- what waits: its block, its key and its time -/
abbrev It := Nat × Sp
def ltI (x y : It) : Bool := ahead x.2 y.2
theorem ltI_swo : SWO ltI := by
  refine ⟨fun x => ?_, fun x y z h1 h2 => ?_, fun x y z h1 h2 => ?_⟩
  · unfold ltI; rw [ahead_no]; omega
  · unfold ltI at *; rw [ahead_iff] at *; omega
  · unfold ltI at *; rw [ahead_no] at *; omega
def ptrOf (x : It) : Value := .pointer (some ⟨x.1, 0, none⟩)
def mapB : Value → Option Nat
  | .map r => r
  | _ => none
def QBox (w : World) (a : Nat) (mv lv : Value) : Prop := w.heap[a]? = some (.cells #[lv, mv] 57 (0, 0))
def WBox (w : World) (x : It) (p : Int) : Prop := w.heap[x.1]? = some (.cells #[.int .i64 x.2.1, .int .i64 x.2.2, .int .i64 p] 70 (0, 0))
def RowP (w : World) (lv : Value) (d : Array It) : Prop := w.ownsRow 0 67 1 lv d.size (d.toList.map ptrOf)

theorem WBox.cells {w : World} {x : It} {p : Int} (h : WBox w x p) : w.cell? ⟨x.1, 0, none⟩ = some (.int .i64 x.2.1) ∧ w.cell? ⟨x.1, 1, none⟩ = some (.int .i64 x.2.2) ∧ w.cell? ⟨x.1, 2, none⟩ = some (.int .i64 p) := by
  unfold WBox at h
  simp [World.cell?, h]
theorem WBox.frozen {w : World} {x : It} {p : Int} (h : WBox w x p) (j : Nat) : w.frozen? ⟨x.1, j, none⟩ = false := by
  unfold WBox at h
  simp [World.frozen?, h]
theorem WBox.lt {w : World} {x : It} {p : Int} (h : WBox w x p) : x.1 < w.heap.size := (Array.getElem?_eq_some_iff.1 h).1
theorem WBox.other {w : World} {x : It} {p : Int} (h : WBox w x p) {g : Nat} (hg : x.1 ≠ g) (j : Nat) (v : Value) : WBox (w.setCell ⟨g, j, none⟩ v) x p := (blk_setCell_other w ⟨g, j, none⟩ v x.1 hg).trans h
theorem WBox.set {w : World} {x : It} {p : Int} (h : WBox w x p) (p' : Int) : WBox (w.setCell ⟨x.1, 2, none⟩ (.int .i64 p')) x p' := by
  unfold WBox at h ⊢
  simp [World.setCell, Array.getElem?_modify, h]
theorem WBox.setAt {w : World} {x : It} {p : Int} (h : WBox w x p) (t : Int) : WBox (w.setCell ⟨x.1, 1, none⟩ (.int .i64 t)) (x.1, x.2.1, t) p := by
  unfold WBox at h ⊢
  simp [World.setCell, Array.getElem?_modify, h]
theorem WBox.any {w : World} {x : It} (h : ∃ p, WBox w x p) (g : Nat) (p' : Int) : ∃ p, WBox (w.setCell ⟨g, 2, none⟩ (.int .i64 p')) x p := by
  obtain ⟨p, h⟩ := h
  by_cases e : x.1 = g
  · subst e; exact ⟨p', h.set p'⟩
  · exact ⟨p, h.other e _ _⟩
theorem QBox.cells {w : World} {a : Nat} {mv lv : Value} (h : QBox w a mv lv) : w.cell? ⟨a, 0, none⟩ = some lv ∧ w.cell? ⟨a, 1, none⟩ = some mv := by
  unfold QBox at h
  simp [World.cell?, h]
theorem QBox.frozen {w : World} {a : Nat} {mv lv : Value} (h : QBox w a mv lv) (j : Nat) : w.frozen? ⟨a, j, none⟩ = false := by
  unfold QBox at h
  simp [World.frozen?, h]
theorem QBox.lt {w : World} {a : Nat} {mv lv : Value} (h : QBox w a mv lv) : a < w.heap.size := (Array.getElem?_eq_some_iff.1 h).1
theorem QBox.other {w : World} {a : Nat} {mv lv : Value} (h : QBox w a mv lv) {g : Nat} (hg : a ≠ g) (j : Nat) (v : Value) : QBox (w.setCell ⟨g, j, none⟩ v) a mv lv := (blk_setCell_other w ⟨g, j, none⟩ v a hg).trans h
theorem QBox.line {w : World} {a : Nat} {mv lv : Value} (h : QBox w a mv lv) (lv' : Value) : QBox (w.setCell ⟨a, 0, none⟩ lv') a mv lv' := by
  unfold QBox at h ⊢
  simp [World.setCell, Array.getElem?_modify, h]
theorem QBox.map {w : World} {a : Nat} {mv lv : Value} (h : QBox w a mv lv) (mv' : Value) : QBox (w.setCell ⟨a, 1, none⟩ mv') a mv' lv := by
  unfold QBox at h ⊢
  simp [World.setCell, Array.getElem?_modify, h]
theorem RowP.other {w : World} {lv : Value} {d : Array It} (h : RowP w lv d) {g : Nat} (hg : lv.ownBlock ≠ some g) (j : Nat) (v : Value) : RowP (w.setCell ⟨g, j, none⟩ v) lv d := by
  obtain ⟨h1, h2 | ⟨k, c, cur, e, hk, hh, r⟩⟩ := h
  · exact ⟨h1, .inl h2⟩
  · exact ⟨h1, .inr ⟨k, c, cur, e, hk, (blk_setCell_other _ _ _ _ (by show k ≠ g; intro e2; apply hg; rw [e, e2]; rfl)).trans hh, r⟩⟩

/-- the queue at block a: its line lv, its map mv, and what waits in its row's order -/
structure Mem (w : World) (a : Nat) (mv lv : Value) (d : Array It) : Prop where
  q : QBox w a mv lv
  row : RowP w lv d
  item : ∀ i, i < d.size → WBox w d[i]! i
  aq : ∀ x ∈ d.toList, x.1 ≠ a
  ar : lv.ownBlock ≠ some a
  am : mapB mv ≠ some a
  rm : ∀ g, lv.ownBlock = some g → mapB mv ≠ some g
  rx : ∀ g, lv.ownBlock = some g → ∀ x ∈ d.toList, x.1 ≠ g
  xm : ∀ x ∈ d.toList, mapB mv ≠ some x.1
  xx : (d.toList.map (·.1)).Nodup
def Own (a : Nat) (mv lv : Value) (d : Array It) (k : Nat) : Prop := k = a ∨ mapB mv = some k ∨ lv.ownBlock = some k ∨ ∃ x ∈ d.toList, x.1 = k

theorem at_mem {d : Array It} {i : Nat} (h : i < d.size) : d[i]! ∈ d.toList := by
  rw [getElem!_pos d i h]; exact Array.getElem_mem_toList h
theorem mem_at {d : Array It} {x : It} (h : x ∈ d.toList) : ∃ i, i < d.size ∧ d[i]! = x := by
  obtain ⟨i, hi, e⟩ := List.getElem_of_mem h
  exact ⟨i, by simpa using hi, by rw [getElem!_pos d i (by simpa using hi)]; simpa using e⟩
theorem Mem.ne {w : World} {a : Nat} {mv lv : Value} {d : Array It} (h : Mem w a mv lv d) {i j : Nat} (hi : i < d.size) (hj : j < d.size) (e : d[i]!.1 = d[j]!.1) : i = j := by
  have h1 := (List.getElem_inj (h₀ := by simpa using hi) (h₁ := by simpa using hj) h.xx).1 (by simpa [getElem!_pos, hi, hj] using e)
  exact h1
theorem Mem.lv_form {w : World} {a : Nat} {mv lv : Value} {d : Array It} (h : Mem w a mv lv d) (hd : 0 < d.size) : ∃ g cap, lv = .slice (some ⟨g, 0, none⟩) d.size cap ∧ d.size ≤ cap ∧ cap ≤ 9223372036854775807 := by
  obtain ⟨_, ⟨_, h0⟩ | ⟨g, cap, cur, rfl, hb, hh, hc, hm, _⟩⟩ := h.row
  · omega
  · exact ⟨g, cap, rfl, hc, hm⟩
theorem Mem.lv_any {w : World} {a : Nat} {mv lv : Value} {d : Array It} (h : Mem w a mv lv d) : ∃ A cap, lv = .slice A d.size cap := by
  obtain ⟨_, ⟨h0, h1⟩ | ⟨g, cap, cur, rfl, hb, hh, hc, hm, _⟩⟩ := h.row
  · exact ⟨none, 0, by rw [h0, h1]⟩
  · exact ⟨_, cap, rfl⟩
theorem Mem.cell {w : World} {a g cap : Nat} {mv : Value} {d : Array It} (h : Mem w a mv (.slice (some ⟨g, 0, none⟩) d.size cap) d) {i : Nat} (hi : i < d.size) : w.cell? ⟨g, i, none⟩ = some (.pointer (some ⟨d[i]!.1, 0, none⟩)) := by
  rw [World.ownsRow.cellAt h.row i (by omega), List.getElem?_map, Array.getElem?_toList, Array.getElem?_eq_getElem hi, getElem!_pos d i hi]
  rfl
theorem Own.lt {w : World} {a : Nat} {mv lv : Value} {d : Array It} (h : Mem w a mv lv d) (hm : ∀ k, mapB mv = some k → k < w.heap.size) {k : Nat} (hk : Own a mv lv d k) : k < w.heap.size := by
  rcases hk with rfl | hk | hk | ⟨x, hx, rfl⟩
  · exact h.q.lt
  · exact hm k hk
  · exact (World.ownsRow.lt h.row k hk).2
  · obtain ⟨i, hi, rfl⟩ := mem_at hx
    exact (h.item i hi).lt

/-! ### a swap -/
theorem perm_swap {d : Array It} {i j : Nat} (hi : i < d.size) (hj : j < d.size) : (swp d i j).toList.Perm d.toList := swp_perm d hi hj
def swapW (w : World) (g : Nat) (d : Array It) (i j : Nat) : World := (w.setCell ⟨g, i, none⟩ (.pointer (some ⟨d[j]!.1, 0, none⟩))).setCell ⟨g, j, none⟩ (.pointer (some ⟨d[i]!.1, 0, none⟩))
def placeW (w : World) (d : Array It) (i j : Nat) : World := (w.setCell ⟨d[j]!.1, 2, none⟩ (.int .i64 i)).setCell ⟨d[i]!.1, 2, none⟩ (.int .i64 j)
theorem Mem.swap {w : World} {a g cap : Nat} {mv : Value} {d : Array It} (h : Mem w a mv (.slice (some ⟨g, 0, none⟩) d.size cap) d) {i j : Nat} (hi : i < d.size) (hj : j < d.size) :
    Mem (placeW (swapW w g d i j) d i j) a mv (.slice (some ⟨g, 0, none⟩) d.size cap) (swp d i j) ∧
    (∀ k, k ≠ g → (∀ x ∈ d.toList, x.1 ≠ k) → (placeW (swapW w g d i j) d i j).heap[k]? = w.heap[k]?) ∧
    (∀ x : It, (∃ p, WBox w x p) → x.1 ≠ g → ∃ p, WBox (placeW (swapW w g d i j) d i j) x p) := by
  have hp := perm_swap hi hj
  have hmi := at_mem hi
  have hmj := at_mem hj
  have hrow : ∀ x ∈ d.toList, x.1 ≠ g := h.rx g rfl
  have hag : a ≠ g := fun e => h.ar (by rw [e]; rfl)
  have hbl : ∀ x : It, x.1 ≠ g → ∀ p, WBox w x p → WBox (swapW w g d i j) x p := fun x hx p hb => (hb.other hx _ _).other hx _ _
  refine ⟨⟨?_, ?_, ?_, fun x hx => h.aq x (hp.subset hx), h.ar, h.am, h.rm, fun k hk x hx => h.rx k hk x (hp.subset hx), fun x hx => h.xm x (hp.subset hx), (hp.map _).nodup_iff.2 h.xx⟩, ?_, ?_⟩
  · exact (((h.q.other hag _ _).other hag _ _).other (fun e => h.aq _ hmj e.symm) _ _).other (fun e => h.aq _ hmi e.symm) _ _
  · have r1 := (World.ownsRow.stored h.row i (.pointer (some ⟨d[j]!.1, 0, none⟩))).1
    have r2 := (World.ownsRow.stored r1 j (.pointer (some ⟨d[i]!.1, 0, none⟩))).1
    have e : ((d.toList.map ptrOf).set i (.pointer (some ⟨d[j]!.1, 0, none⟩))).set j (.pointer (some ⟨d[i]!.1, 0, none⟩)) = (swp d i j).toList.map ptrOf := by
      unfold swp
      rw [Array.toList_setIfInBounds, Array.toList_setIfInBounds, List.map_set, List.map_set]
      rfl
    rw [e] at r2
    have r3 : RowP (swapW w g d i j) (.slice (some ⟨g, 0, none⟩) d.size cap) (swp d i j) := by
      unfold RowP
      rw [size_swp]
      exact r2
    exact (r3.other (fun e => by cases e; exact hrow _ hmj rfl) _ _).other (fun e => by cases e; exact hrow _ hmi rfl) _ _
  · intro t ht
    rw [size_swp] at ht
    rw [swp_at d hi hj t]
    have b1 := hbl _ (hrow _ hmi) _ (h.item i hi)
    have b2 := hbl _ (hrow _ hmj) _ (h.item j hj)
    by_cases e1 : t = j
    · rw [if_pos e1, e1]
      obtain ⟨p, b3⟩ := WBox.any ⟨_, b1⟩ d[j]!.1 i
      exact b3.set j
    · rw [if_neg e1]
      by_cases e2 : t = i
      · rw [if_pos e2, e2]
        exact (b2.set i).other (fun e => e1 (by rw [e2]; exact (h.ne hj hi e).symm)) _ _
      · rw [if_neg e2]
        exact ((hbl _ (hrow _ (at_mem ht)) _ (h.item t ht)).other (fun e => e1 (h.ne ht hj e)) _ _).other (fun e => e2 (h.ne ht hi e)) _ _
  · intro k hk hx
    unfold placeW swapW
    rw [blk_setCell_other _ _ _ _ (fun e => hx _ hmi e.symm), blk_setCell_other _ _ _ _ (fun e => hx _ hmj e.symm), blk_setCell_other _ _ _ _ hk, blk_setCell_other _ _ _ _ hk]
  · intro x ⟨p, hb⟩ hx
    exact WBox.any (WBox.any ⟨p, hbl x hx p hb⟩ _ _) _ _

/-! ### a pop -/
def popW (w : World) (a g n cap : Nat) : World := (w.setCell ⟨g, n, none⟩ (.pointer none)).setCell ⟨a, 0, none⟩ (.slice (some ⟨g, 0, none⟩) n cap)
theorem own_less {w : World} {base e g n cap : Nat} {xs : List Value} (h : w.ownsRow base e 1 (.slice (some ⟨g, 0, none⟩) (n + 1) cap) (n + 1) xs) : w.ownsRow base e 1 (.slice (some ⟨g, 0, none⟩) n cap) n (xs.take n) := by
  obtain ⟨h1, ⟨h0, _⟩ | ⟨g', cap', cur, e0, hb, hg, hc, hmx, hs, ht⟩⟩ := h
  · cases h0
  · cases e0
    refine ⟨by rw [List.length_take, h1]; omega, .inr ⟨g, cap, cur, rfl, hb, hg, by omega, hmx, hs, ?_⟩⟩
    rw [← ht, List.take_take]
    congr 1
    omega
theorem Mem.pop {w : World} {a g n cap : Nat} {mv : Value} {d : Array It} (hn : d.size = n + 1) (h : Mem w a mv (.slice (some ⟨g, 0, none⟩) d.size cap) d) :
    Mem (popW w a g n cap) a mv (.slice (some ⟨g, 0, none⟩) n cap) d.pop ∧
    (∀ k, k ≠ g → k ≠ a → (popW w a g n cap).heap[k]? = w.heap[k]?) := by
  have hag : a ≠ g := fun e => h.ar (by rw [e]; rfl)
  have hs : d.pop.toList = d.toList.take n := by
    rw [Array.toList_pop, List.dropLast_eq_take, Array.length_toList, hn]; rfl
  have hsub : ∀ x ∈ d.pop.toList, x ∈ d.toList := fun x hx => by rw [hs] at hx; exact List.mem_of_mem_take hx
  have hps : d.pop.size = n := by simp [hn]
  refine ⟨⟨(h.q.other hag _ _).line _, ?_, ?_, fun x hx => h.aq x (hsub x hx), h.ar, h.am, h.rm, fun k hk x hx => h.rx k hk x (hsub x hx), fun x hx => h.xm x (hsub x hx), ?_⟩, ?_⟩
  · have r1 := (World.ownsRow.stored h.row n (.pointer none)).1
    rw [hn] at r1
    have r2 := own_less r1
    have e : ((d.toList.map ptrOf).set n (.pointer none)).take n = d.pop.toList.map ptrOf := by
      rw [hs, List.map_take, List.take_set]
      exact List.set_eq_of_length_le (by simp; omega)
    rw [e] at r2
    have r3 : RowP (w.setCell ⟨g, n, none⟩ (.pointer none)) (.slice (some ⟨g, 0, none⟩) n cap) d.pop := by unfold RowP; rw [hps]; exact r2
    exact r3.other h.ar _ _
  · intro t ht
    rw [hps] at ht
    rw [pop_get d (by omega)]
    have hm := at_mem (d := d) (i := t) (by omega)
    exact ((h.item t (by omega)).other (h.rx g rfl _ hm) _ _).other (h.aq _ hm) _ _
  · rw [hs, List.map_take]
    exact h.xx.sublist (List.take_sublist _ _)
  · intro k hk hka
    unfold popW
    rw [blk_setCell_other _ _ _ _ hka, blk_setCell_other _ _ _ _ hk]

end Go.Proofs.Ytlhfgiffdfcplaa
