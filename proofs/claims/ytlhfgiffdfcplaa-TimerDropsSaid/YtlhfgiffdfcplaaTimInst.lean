/-
  Layer 5: the program's line, as container/heap meets it: what HeapOn and HeapMore ask is paid.
-/
import Derived.Test.YtlhfgiffdfcplaaTimPush
namespace Go.Proofs.Ytlhfgiffdfcplaa
open Go.RowKit Go.Deep Go.Sort

/-! ### the methods behind the interface -/
theorem meth_any (f : FuncId) (name : String) (hm : (Try.prog.info? 72).map (fun i => (i.methods.find? (·.name == name)).map (fun m => (m.func, m.path))) = some (some (some (f, false), #[]))) {a : Nat} {W : World} {v : Value} (h : W.cell? ⟨a, 0, none⟩ = some v) : Sem.run Try.prog (method (Try.prog.types.size + 100) 72 (.pointer (some ⟨a, 0, none⟩)) name) W = .ok (f, v) W := by
  cases hi : Try.prog.info? 72 with
  | none => rw [hi] at hm; cases hm
  | some i =>
    rw [hi] at hm
    simp only [Option.map_some, Option.some.injEq] at hm
    cases hf : i.methods.find? (·.name == name) with
    | none => rw [hf] at hm; cases hm
    | some m =>
      rw [hf] at hm
      simp only [Option.map_some, Option.some.injEq, Prod.mk.injEq] at hm
      rw [show Try.prog.types.size + 100 = (Try.prog.types.size + 99) + 1 from rfl]
      unfold method
      have hs : ∀ (s t : String), Builtin.ssaWrapNilChk_ #[72] 72 #[.pointer (some ⟨a, 0, none⟩), strVal s, strVal t] = pure (.pointer (some ⟨a, 0, none⟩)) := fun _ _ => rfl
      simp [typeInfo, go_sem, hi, hf, hm.1, hm.2, follow, receiverAt, run_underlying Try.underlying72, Place.get, hs, asAddr, h]
theorem meth_len {a : Nat} {W : World} {v : Value} (h : W.cell? ⟨a, 0, none⟩ = some v) : Sem.run Try.prog (method (Try.prog.types.size + 100) 72 (.pointer (some ⟨a, 0, none⟩)) "Len") W = .ok (50, v) W := meth_any _ _ (by kernel_rfl) h
theorem meth_less {a : Nat} {W : World} {v : Value} (h : W.cell? ⟨a, 0, none⟩ = some v) : Sem.run Try.prog (method (Try.prog.types.size + 100) 72 (.pointer (some ⟨a, 0, none⟩)) "Less") W = .ok (51, v) W := meth_any _ _ (by kernel_rfl) h
theorem meth_swap {a : Nat} {W : World} {v : Value} (h : W.cell? ⟨a, 0, none⟩ = some v) : Sem.run Try.prog (method (Try.prog.types.size + 100) 72 (.pointer (some ⟨a, 0, none⟩)) "Swap") W = .ok (52, v) W := meth_any _ _ (by kernel_rfl) h
theorem meth_push (a : Nat) (W : World) : Sem.run Try.prog (method (Try.prog.types.size + 100) 72 (.pointer (some ⟨a, 0, none⟩)) "Push") W = .ok (54, .pointer (some ⟨a, 0, none⟩)) W := by
  rw [Try.types_size]; kernel_rfl
theorem meth_pop (a : Nat) (W : World) : Sem.run Try.prog (method (Try.prog.types.size + 100) 72 (.pointer (some ⟨a, 0, none⟩)) "Pop") W = .ok (53, .pointer (some ⟨a, 0, none⟩)) W := by
  rw [Try.types_size]; kernel_rfl

/-! ### what holds while container/heap works on the line -/
structure HQ (W0 : World) (S0 : Nat → Prop) (a : Nat) (mv : Value) (All : List It) (W : World) (d : Array It) : Prop where
  mem : ∃ lv, Mem W a mv lv d ∧ Grows S0 (Own a mv lv d) W0 W ∧ ∀ x ∈ All, lv.ownBlock ≠ some x.1
  map : ∀ k, mapB mv = some k → k < W0.heap.size ∧ W.heap[k]? = W0.heap[k]?
  all : ∀ x ∈ All, (∃ p, WBox W x p) ∧ x.1 ≠ a
  small : d.size ≤ 1000000

theorem Grows.drewN {S S' : Nat → Prop} {a b : World} (h : Grows S S' a b) (n : Nat) : Grows S S' a (b.drewN n) := ⟨h.os, h.tape, h.output, h.size, h.block, h.own⟩
theorem Mem.drewN {w : World} {a : Nat} {mv lv : Value} {d : Array It} (h : Mem w a mv lv d) (n : Nat) : Mem (w.drewN n) a mv lv d := ⟨h.q, h.row, h.item, h.aq, h.ar, h.am, h.rm, h.rx, h.xm, h.xx⟩
theorem HQ.drewN {W0 : World} {S0 : Nat → Prop} {a : Nat} {mv : Value} {All : List It} {W : World} {d : Array It} (h : HQ W0 S0 a mv All W d) (n : Nat) : HQ W0 S0 a mv All (W.drewN n) d := by
  obtain ⟨lv, h1, h2, h3⟩ := h.mem
  exact ⟨⟨lv, h1.drewN n, h2.drewN n, h3⟩, h.map, h.all, h.small⟩

theorem swap_HQ {W0 : World} {S0 : Nat → Prop} {a : Nat} {mv : Value} {All : List It} {W : World} {d : Array It} (h : HQ W0 S0 a mv All W d) {g cap : Nat} (hm : Mem W a mv (.slice (some ⟨g, 0, none⟩) d.size cap) d) (hg : Grows S0 (Own a mv (.slice (some ⟨g, 0, none⟩) d.size cap) d) W0 W) (ha : ∀ x ∈ All, (Value.slice (some ⟨g, 0, none⟩) d.size cap).ownBlock ≠ some x.1) {i j : Nat} (hi : i < d.size) (hj : j < d.size) :
    HQ W0 S0 a mv All (placeW (swapW W g d i j) d i j) (swp d i j) := by
  obtain ⟨m1, m2, m3⟩ := hm.swap hi hj
  refine ⟨⟨_, m1, ?_, ha⟩, fun k hk => ⟨(h.map k hk).1, ?_⟩, fun x hx => ⟨m3 x (h.all x hx).1 (fun e => ha x hx (by rw [e]; rfl)), (h.all x hx).2⟩, by rw [size_swp]; exact h.small⟩
  · refine hg.trans ⟨rfl, rfl, rfl, by simp [placeW, swapW], fun k hk hn => m2 k (fun e => hn (.inr (.inr (.inl (by rw [e]; rfl))))) (fun x hx e => hn (.inr (.inr (.inr ⟨x, hx, e⟩)))), ?_⟩
    intro k hk
    refine .inl ?_
    rcases hk with hk | hk | hk | ⟨x, hx, rfl⟩
    · exact .inl hk
    · exact .inr (.inl hk)
    · exact .inr (.inr (.inl hk))
    · exact .inr (.inr (.inr ⟨x, (perm_swap hi hj).subset hx, rfl⟩))
  · rw [m2 k (fun e => hm.rm g rfl (by rw [← e]; exact hk)) (fun x hx e => hm.xm x hx (by rw [e]; exact hk))]
    exact (h.map k hk).2

set_option maxRecDepth 100000 in
theorem heap_on (W0 : World) (S0 : Nat → Prop) (a : Nat) (mv : Value) (All : List It) : HeapOn 72 (.pointer (some ⟨a, 0, none⟩)) (HQ W0 S0 a mv All) ltI := by
  refine ⟨?_, ?_, ?_⟩
  · intro W d i j h hi hj
    obtain ⟨lv, hm, hg, ha⟩ := h.mem
    obtain ⟨g, cap, rfl, hc, -⟩ := hm.lv_form (by omega)
    refine ⟨51, .slice (some ⟨g, 0, none⟩) d.size cap, meth_less hm.q.cells.1, fun _ _ => rfl, (wless_any hm hi hj).mono ?_⟩
    rintro e w' ⟨rfl, n, rfl⟩
    exact ⟨rfl, h.drewN n⟩
  · intro W d i j h hi hj
    obtain ⟨lv, hm, hg, ha⟩ := h.mem
    obtain ⟨g, cap, rfl, hc, -⟩ := hm.lv_form (by omega)
    refine ⟨52, .slice (some ⟨g, 0, none⟩) d.size cap, meth_swap hm.q.cells.1, fun _ _ => rfl, (wswap_any hm hi hj).mono ?_⟩
    rintro e w' ⟨rfl, n, m, rfl⟩
    exact ⟨rfl, (swap_HQ (h.drewN n) (hm.drewN n) (hg.drewN n) ha hi hj).drewN m⟩
  · intro W d h
    obtain ⟨lv, hm, hg, ha⟩ := h.mem
    obtain ⟨A, cap, rfl⟩ := hm.lv_any
    refine ⟨50, .slice A d.size cap, meth_len hm.q.cells.1, fun _ _ => rfl, (wlen_any W A d.size cap).mono ?_⟩
    rintro e w' ⟨rfl, rfl⟩
    exact ⟨rfl, h⟩

/-- what is pushed: a box of its own -/
def NewW (S0 : Nat → Prop) (a : Nat) (mv : Value) (W : World) (d : Array It) (x : It) (v : Value) : Prop :=
  v = .iface 67 (ptrOf x) ∧ (∃ p, WBox W x p) ∧ S0 x.1 ∧ x.1 ≠ a ∧ mapB mv ≠ some x.1 ∧ (∀ y ∈ d.toList, y.1 ≠ x.1) ∧ (∀ lv, Mem W a mv lv d → lv.ownBlock ≠ some x.1) ∧ d.size < 1000000
set_option maxRecDepth 100000 in
theorem heap_more (W0 : World) (S0 : Nat → Prop) (a : Nat) (mv : Value) (All : List It) : HeapMore 72 (.pointer (some ⟨a, 0, none⟩)) (HQ W0 S0 a mv All) (fun W d x v => All = [] ∧ NewW S0 a mv W d x v) (fun x => .iface 67 (ptrOf x)) := by
  refine ⟨?_, ?_⟩
  · rintro W d x v h ⟨rfl, rfl, hx, hs, hxa, hxm, hxd, hxr, hsz⟩
    obtain ⟨lv, hm, hg, -⟩ := h.mem
    have hmm : ∀ k, mapB mv = some k → k < W.heap.size := fun k hk => Nat.lt_of_lt_of_le (h.map k hk).1 hg.size
    refine ⟨54, .pointer (some ⟨a, 0, none⟩), meth_push a W, fun _ _ => rfl, (wpush_any hm hx hxa (hxr lv hm) hxm hmm hxd (by omega)).mono ?_⟩
    rintro e w' ⟨rfl, lv', hm', hg'⟩
    refine ⟨rfl, ⟨lv', hm', ?_, fun y hy => by simp at hy⟩, fun k hk => ⟨(h.map k hk).1, ?_⟩, fun y hy => by simp at hy, by rw [Array.size_push]; omega⟩
    · refine ⟨hg'.os.trans hg.os, hg'.tape.trans hg.tape, hg'.output.trans hg.output, Nat.le_trans hg.size hg'.size, ?_, ?_⟩
      · intro k hk hn
        rw [hg'.block k (Nat.lt_of_lt_of_le hk hg.size) ?_, hg.block k hk hn]
        intro hk2
        have : Own a mv lv d k ∨ k = x.1 := hk2.elim (fun e => .inl (.inl e)) (fun e => e.elim (fun e => .inl (.inr (.inr (.inl e)))) .inr)
        rcases this with h2 | rfl
        · exact (hg.own k h2).elim hn (fun h3 => by omega)
        · exact hn hs
      · intro k hk
        have key : ∀ k, (k = a ∨ lv.ownBlock = some k ∨ k = x.1) → S0 k ∨ W0.heap.size ≤ k := fun k hk => by
          rcases hk with rfl | hk | rfl
          · exact hg.own _ (.inl rfl)
          · exact hg.own k (.inr (.inr (.inl hk)))
          · exact .inl hs
        have key2 : ∀ k, (k = a ∨ lv'.ownBlock = some k ∨ k = x.1) → S0 k ∨ W0.heap.size ≤ k := fun k hk => (hg'.own k hk).elim (key k) (fun h2 => .inr (Nat.le_trans hg.size h2))
        rcases hk with hk | hk | hk | ⟨y, hy, rfl⟩
        · exact key2 k (.inl hk)
        · exact hg.own k (.inr (.inl hk))
        · exact key2 k (.inr (.inl hk))
        · rw [Array.toList_push, List.mem_append, List.mem_singleton] at hy
          rcases hy with hy | rfl
          · exact hg.own _ (.inr (.inr (.inr ⟨y, hy, rfl⟩)))
          · exact .inl hs
    · rw [hg'.block k (hmm k hk) ?_]
      · exact (h.map k hk).2
      · rintro (rfl | hk2 | rfl)
        · exact hm.am hk
        · exact hm.rm k hk2 hk
        · exact hxm hk
  · intro W d n h hn
    obtain ⟨lv, hm, hg, ha⟩ := h.mem
    obtain ⟨g, cap, rfl, hc, -⟩ := hm.lv_form (by omega)
    refine ⟨53, .pointer (some ⟨a, 0, none⟩), meth_pop a W, fun _ _ => rfl, (wpop_any hm hn hc h.small).mono ?_⟩
    rintro e w' ⟨rfl, m, rfl⟩
    obtain ⟨m1, m2⟩ := hm.pop hn
    have hsub : ∀ x ∈ d.pop.toList, x ∈ d.toList := fun x hx => by
      rw [Array.toList_pop] at hx; exact List.dropLast_subset _ hx
    refine ⟨rfl, HQ.drewN ⟨⟨_, m1, ?_, ha⟩, fun k hk => ⟨(h.map k hk).1, ?_⟩, fun x hx => ⟨?_, (h.all x hx).2⟩, by have := h.small; simp; omega⟩ m⟩
    · refine hg.trans ⟨rfl, rfl, rfl, by simp [popW], fun k hk hn => m2 k (fun e => hn (.inr (.inr (.inl (by rw [e]; rfl))))) (fun e => hn (.inl e)), ?_⟩
      intro k hk
      refine .inl ?_
      rcases hk with hk | hk | hk | ⟨x, hx, rfl⟩
      · exact .inl hk
      · exact .inr (.inl hk)
      · exact .inr (.inr (.inl hk))
      · exact .inr (.inr (.inr ⟨x, hsub x hx, rfl⟩))
    · rw [m2 k (fun e => hm.rm g rfl (by rw [← e]; exact hk)) (fun e => hm.am (by rw [← e]; exact hk))]
      exact (h.map k hk).2
    · obtain ⟨p, hp⟩ := (h.all x hx).1
      exact ⟨p, (hp.other (fun e => ha x hx (by rw [e]; rfl)) _ _).other (h.all x hx).2 _ _⟩

end Go.Proofs.Ytlhfgiffdfcplaa
