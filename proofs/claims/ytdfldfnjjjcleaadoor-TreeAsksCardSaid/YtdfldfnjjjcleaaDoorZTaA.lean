/-
  Plain facts for layer 10 (tree): trees each of whose things has what its kind has; how high trees are. No program is named here.
-/
import Derived.Test.YtdfldfnjjjcleaaDoorZTdPlain
import Derived.Test.YtdfldfnjjjcleaaDoorZMem
import Derived.Test.YtdfldfnjjjcleaaDoorZTeA
import Derived.Test.YtdfldfnjjjcleaaDoorZBuA
import Derived.Test.YtdfldfnjjjcleaaDoorZRdC
import Derived.BigRegion
import Derived.Deep.DeepCutAuto
import Derived.Carry
import Derived.Laws.EntriesVeiled

namespace Go.Proofs.YtdfldfnjjjcleaaDoor

/-- something has what its kind has, and nothing else -/
def fine1 (k z : Int) (nw nb nk : Nat) : Prop :=
  (k = 0 ∧ z = 0 ∧ nw = 0 ∧ nb = 0 ∧ nk = 0) ∨ (k = 1 ∧ z = 0 ∧ nb = 0) ∨ (k = 2 ∧ ((z = 2 ∧ nw = 0 ∧ nk = 0) ∨ (z = 5 ∧ nb = 0 ∧ nk = 0) ∨ (z = 6 ∧ nw = 0 ∧ nb = 0)))
mutual
def FineT : Tr → Prop
  | .mk k z w b ks => fine1 k z w.length b.length ks.length ∧ FineAll ks
def FineAll : List Tr → Prop
  | [] => True
  | t :: r => FineT t ∧ FineAll r
end
mutual
/-- how high a tree is -/
def highT : Tr → Nat
  | .mk _ _ _ _ ks => highAll ks
def highAll : List Tr → Nat
  | [] => 0
  | t :: r => max (highT t + 1) (highAll r)
end
theorem fine_nil : FineT Tr.nil := by
  unfold Tr.nil FineT FineAll
  exact ⟨.inl ⟨rfl, rfl, rfl, rfl, rfl⟩, trivial⟩
theorem fineAll_at : (l : List Tr) → FineAll l → (j : Nat) → FineT (l[j]?.getD Tr.nil)
  | [], _, _ => by simpa using fine_nil
  | t :: r, h, 0 => by
    unfold FineAll at h
    simpa using h.1
  | t :: r, h, j+1 => by
    unfold FineAll at h
    rw [List.getElem?_cons_succ]
    exact fineAll_at r h.2 j
theorem high_kid : (l : List Tr) → (j : Nat) → j < l.length → highT (l[j]?.getD Tr.nil) + 1 ≤ highAll l
  | [], _, h => by simp at h
  | t :: r, 0, _ => by
    unfold highAll
    simp
    omega
  | t :: r, j+1, h => by
    unfold highAll
    rw [List.getElem?_cons_succ]
    have := high_kid r j (by simpa using h)
    omega
theorem step_fine {t : Tr} (h : FineT t) (k : Int) : FineT (stepT t k).1 := by
  obtain ⟨kk, z, w, b, ks⟩ := t
  unfold FineT at h
  unfold stepT
  split
  · exact fine_nil
  · split
    · exact fine_nil
    · split
      · exact fine_nil
      · exact fineAll_at ks h.2 _
theorem one_fine {k z : Int} {nw nb nk : Nat} (h : oneB k z nw nb nk = true) : fine1 k z nw nb nk := by
  unfold oneB at h
  by_cases hk : k = 2
  · rw [if_pos hk] at h
    have h := of_decide_eq_true h
    unfold fine1
    omega
  · rw [if_neg hk] at h
    have h := of_decide_eq_true h
    unfold fine1
    omega
mutual
theorem deep_fine : (t : Tr) → (left : Nat) → deepB t left = true → FineT t ∧ highT t ≤ left
  | .mk k z w b ks, left, h => by
    unfold deepB at h
    unfold FineT highT
    by_cases hk : k = 0
    · rw [if_pos hk] at h
      obtain ⟨h1, h2⟩ := of_decide_eq_true h
      obtain rfl : ks = [] := List.eq_nil_of_length_eq_zero (by omega)
      refine ⟨⟨.inl ⟨hk, h1, by omega, by omega, by simp⟩, by unfold FineAll; trivial⟩, by unfold highAll; omega⟩
    · rw [if_neg hk, Bool.and_eq_true, Bool.and_eq_true] at h
      obtain ⟨h1, h2, h3⟩ := h
      have h2 := of_decide_eq_true h2
      obtain ⟨h4, h5⟩ := deepAll_fine ks (left - 1) h3
      exact ⟨⟨one_fine h1, h4⟩, by omega⟩
theorem deepAll_fine : (l : List Tr) → (left : Nat) → deepAll l left = true → FineAll l ∧ highAll l ≤ left + 1
  | [], _, _ => by
    unfold FineAll highAll
    exact ⟨trivial, by omega⟩
  | t :: r, left, h => by
    unfold deepAll at h
    rw [Bool.and_eq_true] at h
    obtain ⟨h1, h2⟩ := deep_fine t left h.1
    obtain ⟨h3, h4⟩ := deepAll_fine r left h.2
    unfold FineAll highAll
    exact ⟨⟨h1, h3⟩, by omega⟩
end
end Go.Proofs.YtdfldfnjjjcleaaDoor

namespace Go.Proofs.YtdfldfnjjjcleaaDoor
open Go.RowKit Go.Deep

theorem two_new10 (w : World) (c1 c2 : Array Value) (t1 t2 : TypeId) : ∀ W, W = (w.alloc (.cells c1 t1)).alloc (.cells c2 t2) →
    W.heap[w.heap.size]? = some (.cells c1 t1 (0, 0)) ∧ W.heap[w.heap.size + 1]? = some (.cells c2 t2 (0, 0)) ∧ Below w.heap.size w W ∧ W.heap.size = w.heap.size + 2 := by
  rintro W rfl
  refine ⟨?_, ?_, ((Below.refl _ _).alloc (Nat.le_refl _) _).alloc (by simp) _, by simp⟩
  · rw [blk_alloc_lt _ _ _ (by simp), blk_alloc_new]
  · have := blk_alloc_new (w.alloc (.cells c1 t1)) (.cells c2 t2)
    rwa [World.size_alloc] at this

set_option maxRecDepth 100000 in
set_option maxHeartbeats 4000000 in
theorem next10_any (t : Tr) (v : Value) (k : Int) (w : World) (B : Nat) (hB : B ≤ w.heap.size) (h : TrV w B t v) (hf : FineT t) (hk : 0 ≤ k ∧ k ≤ 9223372036854775807) :
    Calls Tryd.prog 77 #[v, .int .i64 k] w fun e w' => ∃ u, e = .returned (.tuple #[u, .int .u16 (stepT t k).2]) ∧ TrV w' B (stepT t k).1 u ∧ Below w.heap.size w w' := by
  obtain ⟨kk, z, ws, bs, ks⟩ := t
  have hst : stepT (.mk kk z ws bs ks) k = if kk = 0 ∨ (kk = 1 ∧ (ks.length : Int) ≤ k) then (Tr.nil, 0) else if kk ≠ 1 ∧ z ≠ 6 then (Tr.nil, 23) else if (ks.length : Int) ≤ k then (Tr.nil, 20) else (ks[k.toNat]?.getD Tr.nil, 0) := rfl
  unfold FineT at hf
  obtain ⟨hf1, -⟩ := hf
  obtain ⟨A1, c1, A2, c2, A3, c3, rfl, hg, -, -, hc3, hm3, hkid⟩ := h.parts
  obtain ⟨hb1, hb2, hB0, hs0⟩ := two_new10 w (cellsT kk z (.slice A1 ws.length c1) (.slice A2 bs.length c2) (.slice A3 ks.length c3)) (cellsT 0 0 (.slice none 0 0) (.slice none 0 0) (.slice none 0 0)) 37 37 _ rfl
  obtain ⟨nw, hnw⟩ : ∃ n, n = ws.length := ⟨_, rfl⟩
  obtain ⟨nb, hnb⟩ : ∃ n, n = bs.length := ⟨_, rfl⟩
  obtain ⟨nk, hnk⟩ : ∃ n, n = ks.length := ⟨_, rfl⟩
  rw [← hnw, ← hnb, ← hnk] at hb1 hb2 hB0 hs0 hf1
  rw [← hnk] at hst hkid hc3
  rw [← hnw, ← hnb, ← hnk]
  obtain ⟨W1, hW1⟩ : ∃ W1, W1 = (w.alloc (.cells (cellsT kk z (.slice A1 nw c1) (.slice A2 nb c2) (.slice A3 nk c3)) 37)).alloc (.cells (cellsT 0 0 (.slice none 0 0) (.slice none 0 0) (.slice none 0 0)) 37) := ⟨_, rfl⟩
  rw [← hW1] at hb1 hb2 hB0 hs0
  have HO1 : Hid (TBox W1 w.heap.size kk z (.slice A1 nw c1) (.slice A2 nb c2) (.slice A3 nk c3)) := Lib.hid hb1
  have HN1 : Hid (TBox W1 (w.heap.size + 1) 0 0 (.slice none 0 0) (.slice none 0 0) (.slice none 0 0)) := Lib.hid hb2
  have HB1 := Lib.hid hB0
  have HKid := Lib.hid hkid
  have HNk := Lib.hid hnk
  obtain ⟨k0, k1⟩ := hk
  unfold cellsT at hW1 ⊢
  obtain ⟨x0, x1, x2, x3, x4⟩ := HO1.out.cells
  clear h hkid hb1 hb2 hB0 hs0 hnw hnb hnk hg
  by_cases e0 : kk = 0
  · subst e0
    rw [hst, if_pos (.inl rfl)]
    clear hst
    obtain ⟨y0, y1, y2, y3, y4⟩ := HN1.out.cells
    obtain ⟨f0, f1, f2, f3, f4⟩ := HN1.out.frozens
    have HX := Lib.hid (HN1.out.put 0 0 (.slice none 0 0) (.slice none 0 0) (.slice none 0 0))
    have HBX := Lib.hid (below_put5 (g := w.heap.size + 1) HB1.out (Nat.le_succ _) 0 0 0 (.slice none 0 0) (.slice none 0 0) (.slice none 0 0))
    go_enter Tryd.func77, Tryd.ntmps77
    go_upto_region 1 with fail
    rw [← hW1]
    clear hW1
    go_wp2_with fail
    unfold put5 at HX HBX
    simp only [Nat.zero_add] at HX HBX
    clear y0 y1 y2 y3 y4
    obtain ⟨y0, y1, y2, y3, y4⟩ := HX.out.cells
    refine bodyPost_ret (v := .tuple #[.agg (cellsT 0 0 (.slice none 0 0) (.slice none 0 0) (.slice none 0 0)), .int .u16 0]) ?_ rfl ⟨_, rfl, TrV.nil _ _, HBX.out⟩
    simp [results, Tryd.f77, go_sem, cellsT, y0, y1, y2, y3, y4]
  · by_cases e1 : kk = 1
    · subst e1
      by_cases hle : (nk : Int) ≤ k
      · rw [hst, if_pos (.inr ⟨rfl, hle⟩)]
        clear hst
        obtain ⟨y0, y1, y2, y3, y4⟩ := HN1.out.cells
        obtain ⟨f0, f1, f2, f3, f4⟩ := HN1.out.frozens
        have HX := Lib.hid (HN1.out.put 0 0 (.slice none 0 0) (.slice none 0 0) (.slice none 0 0))
        have HBX := Lib.hid (below_put5 (g := w.heap.size + 1) HB1.out (Nat.le_succ _) 0 0 0 (.slice none 0 0) (.slice none 0 0) (.slice none 0 0))
        go_enter Tryd.func77, Tryd.ntmps77
        go_upto_region 1 with fail
        rw [← hW1]
        clear hW1
        go_wp2_with fail
        unfold put5 at HX HBX
        simp only [Nat.zero_add] at HX HBX
        clear y0 y1 y2 y3 y4
        obtain ⟨y0, y1, y2, y3, y4⟩ := HX.out.cells
        refine bodyPost_ret (v := .tuple #[.agg (cellsT 0 0 (.slice none 0 0) (.slice none 0 0) (.slice none 0 0)), .int .u16 0]) ?_ rfl ⟨_, rfl, TrV.nil _ _, HBX.out⟩
        simp [results, Tryd.f77, go_sem, cellsT, y0, y1, y2, y3, y4]
      · rw [hst, if_neg (fun e => e.elim (fun e => by omega) (fun e => hle e.2)), if_neg (fun e => e.1 rfl), if_neg hle]
        clear hst
        obtain ⟨j, rfl⟩ : ∃ j : Nat, k = j := ⟨k.toNat, by omega⟩
        rw [Int.toNat_natCast]
        have hlt : (j : Int) < (nk : Int) := by omega
        obtain ⟨b, off, rfl, hbB, hkj⟩ := HKid.out (by omega)
        obtain ⟨k', z', vw, vb, vk, q0, q1, q2, q3, q4, hTk⟩ := hkj j (by omega)
        obtain ⟨u, hu⟩ : ∃ u, u = ks[j]?.getD Tr.nil := ⟨_, rfl⟩
        rw [← hu] at hTk ⊢
        obtain ⟨A4, n4, c4, A5, n5, c5, A6, n6, c6, rfl, rfl, rfl⟩ := hTk.three
        have hc := fun i => HB1.out.cell (p := ⟨b, i, none⟩) (by show b < w.heap.size; omega)
        have p0 := (hc _).trans q0
        have p1 := (hc _).trans q1
        have p2 := (hc _).trans q2
        have p3 := (hc _).trans q3
        have p4 := (hc _).trans q4
        clear hkj q0 q1 q2 q3 q4 hc hu
        obtain ⟨y0, y1, y2, y3, y4⟩ := HN1.out.cells
        obtain ⟨f0, f1, f2, f3, f4⟩ := HN1.out.frozens
        have HX := Lib.hid (HN1.out.put k' z' (.slice A4 n4 c4) (.slice A5 n5 c5) (.slice A6 n6 c6))
        have HBX := Lib.hid (below_put5 (g := w.heap.size + 1) HB1.out (Nat.le_succ _) 0 k' z' (.slice A4 n4 c4) (.slice A5 n5 c5) (.slice A6 n6 c6))
        have HTV : Hid (TrV (put5 W1 (w.heap.size + 1) 0 k' z' (.slice A4 n4 c4) (.slice A5 n5 c5) (.slice A6 n6 c6)) B u (.agg (cellsT k' z' (.slice A4 n4 c4) (.slice A5 n5 c5) (.slice A6 n6 c6)))) := Lib.hid (TrV.below (HBX.out) hB _ _ hTk)
        clear hTk
        go_enter Tryd.func77, Tryd.ntmps77
        go_upto_region 1 with fail
        rw [← hW1]
        clear hW1
        go_wp2_with fail
        unfold put5 at HX HBX HTV
        simp only [Nat.zero_add] at HX HBX HTV
        clear y0 y1 y2 y3 y4
        obtain ⟨y0, y1, y2, y3, y4⟩ := HX.out.cells
        refine bodyPost_ret (v := .tuple #[.agg (cellsT k' z' (.slice A4 n4 c4) (.slice A5 n5 c5) (.slice A6 n6 c6)), .int .u16 0]) ?_ rfl ⟨_, rfl, HTV.out, HBX.out⟩
        simp [results, Tryd.f77, go_sem, cellsT, y0, y1, y2, y3, y4]
    · have e2 : kk = 2 := by unfold fine1 at hf1; omega
      subst e2
      by_cases z6 : z = 6
      · subst z6
        by_cases hle : (nk : Int) ≤ k
        · rw [hst, if_neg (by omega), if_neg (fun e => e.2 rfl), if_pos hle]
          clear hst
          obtain ⟨y0, y1, y2, y3, y4⟩ := HN1.out.cells
          obtain ⟨f0, f1, f2, f3, f4⟩ := HN1.out.frozens
          have HX := Lib.hid (HN1.out.put 0 0 (.slice none 0 0) (.slice none 0 0) (.slice none 0 0))
          have HBX := Lib.hid (below_put5 (g := w.heap.size + 1) HB1.out (Nat.le_succ _) 0 0 0 (.slice none 0 0) (.slice none 0 0) (.slice none 0 0))
          go_enter Tryd.func77, Tryd.ntmps77
          go_upto_region 1 with fail
          rw [← hW1]
          clear hW1
          go_wp2_with fail
          unfold put5 at HX HBX
          simp only [Nat.zero_add] at HX HBX
          clear y0 y1 y2 y3 y4
          obtain ⟨y0, y1, y2, y3, y4⟩ := HX.out.cells
          refine bodyPost_ret (v := .tuple #[.agg (cellsT 0 0 (.slice none 0 0) (.slice none 0 0) (.slice none 0 0)), .int .u16 20]) ?_ rfl ⟨_, rfl, TrV.nil _ _, HBX.out⟩
          simp [results, Tryd.f77, go_sem, cellsT, y0, y1, y2, y3, y4]
        · rw [hst, if_neg (by omega), if_neg (fun e => e.2 rfl), if_neg hle]
          clear hst
          obtain ⟨j, rfl⟩ : ∃ j : Nat, k = j := ⟨k.toNat, by omega⟩
          rw [Int.toNat_natCast]
          have hlt : (j : Int) < (nk : Int) := by omega
          obtain ⟨b, off, rfl, hbB, hkj⟩ := HKid.out (by omega)
          obtain ⟨k', z', vw, vb, vk, q0, q1, q2, q3, q4, hTk⟩ := hkj j (by omega)
          obtain ⟨u, hu⟩ : ∃ u, u = ks[j]?.getD Tr.nil := ⟨_, rfl⟩
          rw [← hu] at hTk ⊢
          obtain ⟨A4, n4, c4, A5, n5, c5, A6, n6, c6, rfl, rfl, rfl⟩ := hTk.three
          have hc := fun i => HB1.out.cell (p := ⟨b, i, none⟩) (by show b < w.heap.size; omega)
          have p0 := (hc _).trans q0
          have p1 := (hc _).trans q1
          have p2 := (hc _).trans q2
          have p3 := (hc _).trans q3
          have p4 := (hc _).trans q4
          clear hkj q0 q1 q2 q3 q4 hc hu
          obtain ⟨y0, y1, y2, y3, y4⟩ := HN1.out.cells
          obtain ⟨f0, f1, f2, f3, f4⟩ := HN1.out.frozens
          have HX := Lib.hid (HN1.out.put k' z' (.slice A4 n4 c4) (.slice A5 n5 c5) (.slice A6 n6 c6))
          have HBX := Lib.hid (below_put5 (g := w.heap.size + 1) HB1.out (Nat.le_succ _) 0 k' z' (.slice A4 n4 c4) (.slice A5 n5 c5) (.slice A6 n6 c6))
          have HTV : Hid (TrV (put5 W1 (w.heap.size + 1) 0 k' z' (.slice A4 n4 c4) (.slice A5 n5 c5) (.slice A6 n6 c6)) B u (.agg (cellsT k' z' (.slice A4 n4 c4) (.slice A5 n5 c5) (.slice A6 n6 c6)))) := Lib.hid (TrV.below (HBX.out) hB _ _ hTk)
          clear hTk
          go_enter Tryd.func77, Tryd.ntmps77
          go_upto_region 1 with fail
          rw [← hW1]
          clear hW1
          go_wp2_with fail
          unfold put5 at HX HBX HTV
          simp only [Nat.zero_add] at HX HBX HTV
          clear y0 y1 y2 y3 y4
          obtain ⟨y0, y1, y2, y3, y4⟩ := HX.out.cells
          refine bodyPost_ret (v := .tuple #[.agg (cellsT k' z' (.slice A4 n4 c4) (.slice A5 n5 c5) (.slice A6 n6 c6)), .int .u16 0]) ?_ rfl ⟨_, rfl, HTV.out, HBX.out⟩
          simp [results, Tryd.f77, go_sem, cellsT, y0, y1, y2, y3, y4]
      · rw [hst, if_neg (by omega), if_pos ⟨by decide, z6⟩]
        clear hst
        have z61 : (z != 6) = true := by simp [z6]
        obtain ⟨y0, y1, y2, y3, y4⟩ := HN1.out.cells
        obtain ⟨f0, f1, f2, f3, f4⟩ := HN1.out.frozens
        have HX := Lib.hid (HN1.out.put 0 0 (.slice none 0 0) (.slice none 0 0) (.slice none 0 0))
        have HBX := Lib.hid (below_put5 (g := w.heap.size + 1) HB1.out (Nat.le_succ _) 0 0 0 (.slice none 0 0) (.slice none 0 0) (.slice none 0 0))
        go_enter Tryd.func77, Tryd.ntmps77
        go_upto_region 1 with fail
        rw [← hW1]
        clear hW1
        go_wp2_with fail
        unfold put5 at HX HBX
        simp only [Nat.zero_add] at HX HBX
        clear y0 y1 y2 y3 y4
        obtain ⟨y0, y1, y2, y3, y4⟩ := HX.out.cells
        refine bodyPost_ret (v := .tuple #[.agg (cellsT 0 0 (.slice none 0 0) (.slice none 0 0) (.slice none 0 0)), .int .u16 23]) ?_ rfl ⟨_, rfl, TrV.nil _ _, HBX.out⟩
        simp [results, Tryd.f77, go_sem, cellsT, y0, y1, y2, y3, y4]

end Go.Proofs.YtdfldfnjjjcleaaDoor

namespace Go.Proofs.YtdfldfnjjjcleaaDoor
open Go.RowKit Go.Deep

def shapeT (t : Tr) : Va := ⟨t.kind, t.size, ((t.words.length + t.bytes.length : Nat) : Int), (t.kids.length : Int), 0⟩
set_option maxRecDepth 100000 in
set_option maxHeartbeats 2000000 in
theorem shape10_any (t : Tr) (v : Value) (w : World) (h : TrV w w.heap.size t v) (hf : FineT t) :
    Calls Tryd.prog 46 #[v] w fun e w' => e = .returned (.agg (cellsV (shapeT t))) ∧ Below w.heap.size w w' := by
  obtain ⟨k, z, ws, bs, ks⟩ := t
  unfold FineT at hf
  obtain ⟨hf1, -⟩ := hf
  obtain ⟨A1, c1, A2, c2, A3, c3, rfl, hg, -⟩ := h.parts
  obtain ⟨V, hV⟩ : ∃ V, V = shapeT (.mk k z ws bs ks) := ⟨_, rfl⟩
  have HV : Hid (V = ⟨k, z, ((ws.length + bs.length : Nat) : Int), (ks.length : Int), 0⟩) := Lib.hid hV
  rw [← hV]
  generalize ws.length = nw at *
  generalize bs.length = nb at *
  generalize ks.length = nk at *
  clear h hV hg
  unfold cellsT
  have HB : ∀ cs1 cs2 cs3 t1 t2 t3, Below w.heap.size w (((w.alloc (.cells cs1 t1)).alloc (.cells cs2 t2)).alloc (.cells cs3 t3)) := fun cs1 cs2 cs3 t1 t2 t3 => (((Below.refl _ _).alloc (Nat.le_refl _) _).alloc (by simp) _).alloc (by simp; omega) _
  rcases hf1 with ⟨rfl, rfl, rfl, rfl, rfl⟩ | ⟨rfl, rfl, rfl⟩ | ⟨rfl, hf2⟩
  · obtain rfl : V = ⟨0, 0, 0, 0, 0⟩ := HV.out
    go_enter Tryd.func46, Tryd.ntmps46
    go_wp2_with fail
    refine bodyPost_ret (v := .agg (cellsV ⟨0, 0, 0, 0, 0⟩)) ?_ rfl ⟨rfl, by first | exact HB _ _ _ _ _ _ | exact (HB _ _ _ _ _ _).drew⟩
    simp [results, Tryd.f46, go_sem, cellsV]
  · obtain rfl : V = ⟨1, 0, nw, nk, 0⟩ := HV.out
    go_enter Tryd.func46, Tryd.ntmps46
    go_upto_region 3 with fail
    go_region
    all_goals go_wp2_with fail
    all_goals
      refine bodyPost_ret (v := .agg (cellsV ⟨1, 0, nw, nk, 0⟩)) ?_ rfl ⟨rfl, by first | exact HB _ _ _ _ _ _ | exact (HB _ _ _ _ _ _).drew⟩
      simp [results, Tryd.f46, go_sem, cellsV]
  · rcases hf2 with ⟨rfl, rfl, rfl⟩ | ⟨rfl, rfl, rfl⟩ | ⟨rfl, rfl, rfl⟩
    · obtain rfl : V = ⟨2, 2, nb, 0, 0⟩ := HV.out.trans (by simp)
      go_enter Tryd.func46, Tryd.ntmps46
      go_wp2_with fail
      refine bodyPost_ret (v := .agg (cellsV ⟨2, 2, nb, 0, 0⟩)) ?_ rfl ⟨rfl, by first | exact HB _ _ _ _ _ _ | exact (HB _ _ _ _ _ _).drew⟩
      simp [results, Tryd.f46, go_sem, cellsV]
    · obtain rfl : V = ⟨2, 5, nw, 0, 0⟩ := HV.out
      go_enter Tryd.func46, Tryd.ntmps46
      go_wp2_with fail
      refine bodyPost_ret (v := .agg (cellsV ⟨2, 5, nw, 0, 0⟩)) ?_ rfl ⟨rfl, by first | exact HB _ _ _ _ _ _ | exact (HB _ _ _ _ _ _).drew⟩
      simp [results, Tryd.f46, go_sem, cellsV]
    · obtain rfl : V = ⟨2, 6, 0, nk, 0⟩ := HV.out
      go_enter Tryd.func46, Tryd.ntmps46
      go_wp2_with fail
      refine bodyPost_ret (v := .agg (cellsV ⟨2, 6, 0, nk, 0⟩)) ?_ rfl ⟨rfl, by first | exact HB _ _ _ _ _ _ | exact (HB _ _ _ _ _ _).drew⟩
      simp [results, Tryd.f46, go_sem, cellsV]

set_option maxRecDepth 100000 in
set_option maxHeartbeats 2000000 in
theorem number10_any (t : Tr) (v : Value) (i : Int) (w : World) (h : TrV w w.heap.size t v) (hf : FineT t) (hi : 0 ≤ i ∧ i ≤ 9223372036854775807) :
    Calls Tryd.prog 47 #[v, .int .i64 i] w fun e w' => e = .returned (.tuple #[.int .u64 (wordT t i).1, .int .u16 (wordT t i).2]) ∧ Below w.heap.size w w' := by
  obtain ⟨k, z, ws, bs, ks⟩ := t
  unfold FineT at hf
  obtain ⟨hf1, -⟩ := hf
  obtain ⟨A1, c1, A2, c2, A3, c3, rfl, hg, hw, hb, -⟩ := h.parts
  obtain ⟨-, -, -, -, -, hwd, hby⟩ := hg
  have hV : wordT (.mk k z ws bs ks) i = if k = 0 ∨ (k = 1 ∧ (ws.length : Int) ≤ i) then (0, 0) else if k ≠ 1 ∧ z = 6 then (0, 23) else if i < ws.length then (ws[i.toNat]?.getD 0, 0) else if k ≠ 1 ∧ z = 2 ∧ i < bs.length then (bs[i.toNat]?.getD 0, 0) else (0, 20) := rfl
  obtain ⟨V, hVV⟩ : ∃ V, V = wordT (.mk k z ws bs ks) i := ⟨_, rfl⟩
  rw [← hVV] at hV ⊢
  have HV := Lib.hid hV
  obtain ⟨nw, hnw⟩ : ∃ n, n = ws.length := ⟨_, rfl⟩
  obtain ⟨nb, hnb⟩ : ∃ n, n = bs.length := ⟨_, rfl⟩
  generalize ks.length = nk at *
  rw [← hnw, ← hnb] at HV hf1
  rw [← hnw] at hw
  rw [← hnb] at hb
  rw [← hnw, ← hnb]
  have HNl := Lib.hid (And.intro hnw hnb)
  obtain ⟨A1', c1', e1, -, -, hwr⟩ := hw
  injection e1 with e1 e2 e3
  obtain ⟨A2', c2', e4, -, -, hbr⟩ := hb
  injection e4 with e4 e5 e6
  subst e1 e4
  have HWr := Lib.hid hwr
  have HBr := Lib.hid hbr
  have HBy := Lib.hid hby
  have hB1 : ∀ c : Array Value, Below w.heap.size w (w.alloc (.cells c 37)) := fun c => (Below.refl _ _).alloc (Nat.le_refl _) _
  have HB1 := Lib.hid hB1
  obtain ⟨i0, i1⟩ := hi
  clear h hV hVV hnw hnb hwr hbr hwd hby e2 e3 e5 e6 hB1
  unfold cellsT
  rcases hf1 with ⟨rfl, rfl, rfl, rfl, rfl⟩ | ⟨rfl, rfl, rfl⟩ | ⟨rfl, hf2⟩
  · obtain rfl : V = (0, 0) := HV.out.trans (if_pos (.inl rfl))
    go_enter Tryd.func47, Tryd.ntmps47
    go_wp2_with fail
    go_ret2
    exact ⟨rfl, HB1.out _⟩
  · by_cases hlt : i < nw
    · obtain rfl : V = (ws[i.toNat]?.getD 0, 0) := HV.out.trans (by rw [if_neg (by omega), if_neg (by omega), if_pos hlt])
      obtain ⟨j, rfl⟩ : ∃ j : Nat, i = j := ⟨i.toNat, by omega⟩
      rw [Int.toNat_natCast]
      obtain ⟨b, off, rfl, hbB, hc⟩ := HWr.out (by rw [← HNl.out.1]; omega)
      have p1 := fun o => ((HB1.out o).cell (p := ⟨b, off + j, none⟩) hbB).trans (hc j (by rw [← HNl.out.1]; omega))
      clear hc
      generalize ws[j]?.getD 0 = x at *
      go_enter Tryd.func47, Tryd.ntmps47
      go_wp2_with fail
      go_ret2
      exact ⟨rfl, HB1.out _⟩
    · have hle : (nw : Int) ≤ i := by omega
      obtain rfl : V = (0, 0) := HV.out.trans (if_pos (.inr ⟨rfl, hle⟩))
      go_enter Tryd.func47, Tryd.ntmps47
      go_wp2_with fail
      go_ret2
      exact ⟨rfl, HB1.out _⟩
  · rcases hf2 with ⟨rfl, rfl, rfl⟩ | ⟨rfl, rfl, rfl⟩ | ⟨rfl, rfl, rfl⟩
    · by_cases hlt : i < nb
      · obtain rfl : V = (bs[i.toNat]?.getD 0, 0) := HV.out.trans (by rw [if_neg (by omega), if_neg (by omega), if_neg (by omega), if_pos (by omega)])
        obtain ⟨j, rfl⟩ : ∃ j : Nat, i = j := ⟨i.toNat, by omega⟩
        rw [Int.toNat_natCast]
        have hjb : j < bs.length := by rw [← HNl.out.2]; omega
        obtain ⟨b, off, rfl, hbB, hc⟩ := HBr.out (by omega)
        have p1 := fun o => ((HB1.out o).cell (p := ⟨b, off + j, none⟩) hbB).trans (hc j hjb)
        have hx : 0 ≤ bs[j]?.getD 0 ∧ bs[j]?.getD 0 ≤ 255 := HBy.out _ (by rw [List.getElem?_eq_getElem hjb]; exact List.getElem_mem hjb)
        clear hc hjb
        generalize bs[j]?.getD 0 = x at *
        have hw1 : IntKind.u64.wrap x = x := by rw [IntKind.wrap_u64]; omega
        obtain ⟨hx1, hx2⟩ := hx
        go_enter Tryd.func47, Tryd.ntmps47
        go_wp2_with fail
        go_ret2
        exact ⟨rfl, HB1.out _⟩
      · obtain rfl : V = (0, 20) := HV.out.trans (by rw [if_neg (by omega), if_neg (by omega), if_neg (by omega), if_neg (by omega)])
        go_enter Tryd.func47, Tryd.ntmps47
        go_wp2_with fail
        go_ret2
        exact ⟨rfl, HB1.out _⟩
    · by_cases hlt : i < nw
      · obtain rfl : V = (ws[i.toNat]?.getD 0, 0) := HV.out.trans (by rw [if_neg (by omega), if_neg (by omega), if_pos hlt])
        obtain ⟨j, rfl⟩ : ∃ j : Nat, i = j := ⟨i.toNat, by omega⟩
        rw [Int.toNat_natCast]
        obtain ⟨b, off, rfl, hbB, hc⟩ := HWr.out (by rw [← HNl.out.1]; omega)
        have p1 := fun o => ((HB1.out o).cell (p := ⟨b, off + j, none⟩) hbB).trans (hc j (by rw [← HNl.out.1]; omega))
        clear hc
        generalize ws[j]?.getD 0 = x at *
        go_enter Tryd.func47, Tryd.ntmps47
        go_wp2_with fail
        go_ret2
        exact ⟨rfl, HB1.out _⟩
      · have hle : (nw : Int) ≤ i := by omega
        obtain rfl : V = (0, 20) := HV.out.trans (by rw [if_neg (by omega), if_neg (by omega), if_neg (by omega), if_neg (by omega)])
        go_enter Tryd.func47, Tryd.ntmps47
        go_wp2_with fail
        go_ret2
        exact ⟨rfl, HB1.out _⟩
    · obtain rfl : V = (0, 23) := HV.out.trans (by rw [if_neg (by omega), if_pos ⟨by decide, rfl⟩])
      go_enter Tryd.func47, Tryd.ntmps47
      go_wp2_with fail
      go_ret2
      exact ⟨rfl, HB1.out _⟩

end Go.Proofs.YtdfldfnjjjcleaaDoor

namespace Go.Proofs.YtdfldfnjjjcleaaDoor
open Go.RowKit Go.Deep

theorem step_err {t : Tr} {k : Int} (h : (stepT t k).2 ≠ 0) : (stepT t k).1 = Tr.nil := by
  unfold stepT at h ⊢
  repeat' split
  all_goals first | rfl | skip
  rename_i h1 h2 h3
  rw [if_neg h1, if_neg h2, if_neg h3] at h
  exact absurd rfl h
/-- an answer of a node and an error -/
def NdR (T : Tr × Int) (B : Nat) (w : World) (e : Ending) (w' : World) : Prop := ∃ u, e = .returned (.tuple #[u, .int .u16 T.2]) ∧ TrV w' B T.1 u ∧ Below w.heap.size w w'
/-- a step's node in a box of its own -/
def StpR (T : Tr × Int) (B : Nat) (w : World) (x6 x7 : Value) (wx : World) : Prop := ∃ g k z A1 n1 c1 A2 n2 c2 A3 n3 c3, x6 = .pointer (some ⟨g, 0, none⟩) ∧ x7 = .int .u16 T.2 ∧ TBox wx g k z (.slice A1 n1 c1) (.slice A2 n2 c2) (.slice A3 n3 c3) ∧ TrV wx B T.1 (.agg (cellsT k z (.slice A1 n1 c1) (.slice A2 n2 c2) (.slice A3 n3 c3))) ∧ Below w.heap.size w wx ∧ w.heap.size ≤ g
theorem TrV.parts2 {w : World} {B : Nat} {t : Tr} {v : Value} (h : TrV w B t v) : ∃ k z A1 n1 c1 A2 n2 c2 A3 n3 c3, v = .agg (cellsT k z (.slice A1 n1 c1) (.slice A2 n2 c2) (.slice A3 n3 c3)) := by
  obtain ⟨k, z, ws, bs, ks⟩ := t
  obtain ⟨A1, c1, A2, c2, A3, c3, rfl, -⟩ := h.parts
  exact ⟨_, _, _, _, _, _, _, _, _, _, _, rfl⟩

set_option maxRecDepth 100000 in
set_option maxHeartbeats 4000000 in
theorem goal_step (s : List Int) (ih : ∀ k r, s = k :: r → ∀ (t : Tr) (v sv : Value) (w : World) (B : Nat), B ≤ w.heap.size → TrV w B t v → FineT t → NumS .i64 w w.heap.size sv r → (∀ k ∈ r, 0 ≤ k ∧ k ≤ 9223372036854775807) → Calls Tryd.prog 45 #[v, sv] w (NdR (goT r (t, 0)) B w))
    (t : Tr) (v sv : Value) (w : World) (B : Nat) (hBw : B ≤ w.heap.size) (h : TrV w B t v) (hf : FineT t) (hs : NumS .i64 w w.heap.size sv s) (hk : ∀ k ∈ s, 0 ≤ k ∧ k ≤ 9223372036854775807) :
    Calls Tryd.prog 45 #[v, sv] w (NdR (goT s (t, 0)) B w) := by
  have HV := Lib.hid (fun X (hX : Below w.heap.size w X) => TrV.below hX hBw _ _ h)
  have HNx := Lib.hid (fun k X (hX : Below w.heap.size w X) hk => next10_any t v k X B (Nat.le_trans hBw hX.size) (TrV.below hX hBw _ _ h) hf hk)
  obtain ⟨k0, z0, A1, n1, c1, A2, n2, c2, A3, n3, c3, rfl⟩ := h.parts2
  obtain ⟨hb1, hb2, hB0, hs0⟩ := two_new10 w (cellsT k0 z0 (.slice A1 n1 c1) (.slice A2 n2 c2) (.slice A3 n3 c3)) (cellsT 0 0 (.slice none 0 0) (.slice none 0 0) (.slice none 0 0)) 37 37 _ rfl
  obtain ⟨W1, hW1⟩ : ∃ W1, W1 = (w.alloc (.cells (cellsT k0 z0 (.slice A1 n1 c1) (.slice A2 n2 c2) (.slice A3 n3 c3)) 37)).alloc (.cells (cellsT 0 0 (.slice none 0 0) (.slice none 0 0) (.slice none 0 0)) 37) := ⟨_, rfl⟩
  rw [← hW1] at hb1 hb2 hB0 hs0
  have HO1 : Hid (TBox W1 w.heap.size k0 z0 (.slice A1 n1 c1) (.slice A2 n2 c2) (.slice A3 n3 c3)) := Lib.hid hb1
  have HN1 : Hid (TBox W1 (w.heap.size + 1) 0 0 (.slice none 0 0) (.slice none 0 0) (.slice none 0 0)) := Lib.hid hb2
  have HB1 := Lib.hid hB0
  have HBw : Hid (B ≤ W1.heap.size) := Lib.hid (Nat.le_trans hBw hB0.size)
  have HSs := Lib.hid (fun X (hX : Below w.heap.size w X) => hs.on hX)
  obtain ⟨T, hT⟩ : ∃ T, T = goT s (t, 0) := ⟨_, rfl⟩
  have HT := Lib.hid hT
  rw [← hT]
  unfold cellsT at hW1 HNx ⊢
  clear h hb1 hb2 hB0 hs0 hT
  obtain ⟨x0, x1, x2, x3, x4⟩ := HO1.out.cells
  cases s with
  | nil =>
    obtain rfl : T = (t, 0) := HT.out
    obtain ⟨A, q, rfl⟩ := hs.form rfl
    obtain ⟨y0, y1, y2, y3, y4⟩ := HN1.out.cells
    obtain ⟨f0, f1, f2, f3, f4⟩ := HN1.out.frozens
    have HX := Lib.hid (HN1.out.put k0 z0 (.slice A1 n1 c1) (.slice A2 n2 c2) (.slice A3 n3 c3))
    have HBX := Lib.hid (below_put5 (g := w.heap.size + 1) HB1.out (Nat.le_succ _) 0 k0 z0 (.slice A1 n1 c1) (.slice A2 n2 c2) (.slice A3 n3 c3))
    have HTV : Hid (TrV (put5 W1 (w.heap.size + 1) 0 k0 z0 (.slice A1 n1 c1) (.slice A2 n2 c2) (.slice A3 n3 c3)) B t (.agg (cellsT k0 z0 (.slice A1 n1 c1) (.slice A2 n2 c2) (.slice A3 n3 c3)))) := Lib.hid (HV.out _ HBX.out)
    clear hs ih hk hf
    go_enter Tryd.func45, Tryd.ntmps45
    go_upto_region 1 with fail
    rw [← hW1]
    clear hW1
    go_wp2_with fail
    unfold put5 at HX HBX HTV
    simp only [Nat.zero_add] at HX HBX HTV
    clear y0 y1 y2 y3 y4
    obtain ⟨y0, y1, y2, y3, y4⟩ := HX.out.cells
    refine bodyPost_ret (v := .tuple #[.agg (cellsT k0 z0 (.slice A1 n1 c1) (.slice A2 n2 c2) (.slice A3 n3 c3)), .int .u16 0]) ?_ rfl (by unfold NdR; exact ⟨_, rfl, HTV.out, HBX.out⟩)
    simp [results, Tryd.f45, go_sem, cellsT, y0, y1, y2, y3, y4]
  | cons k r =>
    have HIh := Lib.hid (ih k r rfl)
    have HSr := Lib.hid (fun X (hX : Below w.heap.size w X) => (HSs.out X hX).rest)
    obtain ⟨bb, off, c, rfl, hc1, hc2, hbb, hcell, hrest⟩ := hs.rest
    have HRest := Lib.hid (fun X (hX : Below w.heap.size w X) => NumS.on hrest hX)
    have HCk := Lib.hid (fun X (hX : Below w.heap.size w X) => (hX.cell (p := ⟨bb, off, none⟩) hbb).trans hcell)
    have hk0 := hk k (List.mem_cons_self ..)
    have HKs := Lib.hid (fun k' (h' : k' ∈ r) => hk k' (List.mem_cons_of_mem _ h'))
    have hst : T = goT r (stepT t k) := by rw [HT.out, goT, if_neg (by simp)]
    have HSt := Lib.hid hst
    have HSf := Lib.hid (step_fine hf k)
    obtain ⟨m, hlen⟩ : ∃ m, m = r.length := ⟨_, rfl⟩
    rw [← hlen]
    have HLn := Lib.hid hlen
    clear hs ih hk hrest hcell hst hf HT hlen HSr
    obtain ⟨S, hS⟩ : ∃ S, S = stepT t k := ⟨_, rfl⟩
    rw [← hS] at HSt HSf
    have HNk := Lib.hid (fun X (hX : Below w.heap.size w X) => HNx.out k X hX hk0)
    rw [← hS] at HNk
    have HSe : Hid (S.2 ≠ 0 → S.1 = Tr.nil) := Lib.hid (by rw [hS]; exact step_err)
    clear HNx hS hk0
    go_enter Tryd.func45, Tryd.ntmps45
    go_upto_region 1 with fail
    rw [← hW1]
    clear hW1
    go_upto_region 3 with fail
    clear x0 x1 x2 x3 x4
    have HCel : Hid (∀ X, Below W1.heap.size W1 X → (X.cell? ⟨w.heap.size, 0, none⟩ = some (.int .i64 k0) ∧ X.cell? ⟨w.heap.size, 1, none⟩ = some (.int .i64 z0) ∧ X.cell? ⟨w.heap.size, 2, none⟩ = some (.slice A1 n1 c1) ∧ X.cell? ⟨w.heap.size, 3, none⟩ = some (.slice A2 n2 c2) ∧ X.cell? ⟨w.heap.size, 4, none⟩ = some (.slice A3 n3 c3)) ∧ X.cell? ⟨bb, off, none⟩ = some (.int .i64 k)) := Lib.hid (fun X hX => ⟨(HO1.out.on hX).cells, HCk.out X (HB1.out.trans (hX.mono HB1.out.size))⟩)
    have HNk1 := Lib.hid (fun X (hX : Below W1.heap.size W1 X) => HNk.out X (HB1.out.trans (hX.mono HB1.out.size)))
    go_cut [6, 7] (fun x6 x7 wx => StpR S B W1 x6 x7 wx)
    case first =>
      have hD0 : Below W1.heap.size W1 W1.drew := (Below.refl _ _).drew
      have hDa0 : Below W1.heap.size W1 (W1.alloc (.cells #[.int .i64 0, .int .i64 0, .slice none 0 0, .slice none 0 0, .slice none 0 0] 37)).drew := ((Below.refl _ _).alloc (Nat.le_refl _) _).drew
      have HBa : Hid (∀ X, Below (W1.alloc (.cells #[.int .i64 0, .int .i64 0, .slice none 0 0, .slice none 0 0, .slice none 0 0] 37)).drew.heap.size (W1.alloc (.cells #[.int .i64 0, .int .i64 0, .slice none 0 0, .slice none 0 0, .slice none 0 0] 37)).drew X → TBox X W1.heap.size 0 0 (.slice none 0 0) (.slice none 0 0) (.slice none 0 0)) := Lib.hid (fun X hX => TBox.on (w := (W1.alloc (.cells #[.int .i64 0, .int .i64 0, .slice none 0 0, .slice none 0 0, .slice none 0 0] 37)).drew) (TBox.new W1 0 0 (.slice none 0 0) (.slice none 0 0) (.slice none 0 0)) hX)
      have HEnd1 : Hid (∀ w6 k' z' A4 n4 c4 A5 n5 c5 A6 n6 c6, Below W1.heap.size W1 w6 → TrV w6 B S.1 (.agg (cellsT k' z' (.slice A4 n4 c4) (.slice A5 n5 c5) (.slice A6 n6 c6))) → StpR S B W1 (.pointer (some ⟨w6.heap.size, 0, none⟩)) (.int .u16 S.2) (w6.alloc (.cells (cellsT k' z' (.slice A4 n4 c4) (.slice A5 n5 c5) (.slice A6 n6 c6)) 37))) := Lib.hid (fun w6 k' z' A4 n4 c4 A5 n5 c5 A6 n6 c6 hD ht => ⟨_, _, _, _, _, _, _, _, _, _, _, _, rfl, rfl, TBox.new w6 k' z' (.slice A4 n4 c4) (.slice A5 n5 c5) (.slice A6 n6 c6), TrV.below ((Below.refl _ _).alloc (Nat.le_refl _) _) (Nat.le_trans HBw.out hD.size) _ _ ht, hD.alloc hD.size _, hD.size⟩)
      have HEnd2 : Hid (∀ w6 k' z' A4 n4 c4 A5 n5 c5 A6 n6 c6, Below W1.heap.size W1 w6 → TBox w6 W1.heap.size 0 0 (.slice none 0 0) (.slice none 0 0) (.slice none 0 0) → TrV w6 B S.1 (.agg (cellsT k' z' (.slice A4 n4 c4) (.slice A5 n5 c5) (.slice A6 n6 c6))) → StpR S B W1 (.pointer (some ⟨W1.heap.size, 0, none⟩)) (.int .u16 S.2) (put5 w6 W1.heap.size 0 k' z' (.slice A4 n4 c4) (.slice A5 n5 c5) (.slice A6 n6 c6))) := Lib.hid (fun w6 k' z' A4 n4 c4 A5 n5 c5 A6 n6 c6 hD hq ht => ⟨_, _, _, _, _, _, _, _, _, _, _, _, rfl, rfl, hq.put k' z' (.slice A4 n4 c4) (.slice A5 n5 c5) (.slice A6 n6 c6), TrV.below (below_put5 (Below.refl W1.heap.size w6) (Nat.le_refl _) 0 k' z' (.slice A4 n4 c4) (.slice A5 n5 c5) (.slice A6 n6 c6)) HBw.out _ _ ht, below_put5 hD (Nat.le_refl _) 0 k' z' (.slice A4 n4 c4) (.slice A5 n5 c5) (.slice A6 n6 c6), Nat.le_refl _⟩)
      obtain ⟨⟨x0, x1, x2, x3, x4⟩, p0⟩ := HCel.out _ hD0
      obtain ⟨⟨xa0, xa1, xa2, xa3, xa4⟩, pa0⟩ := HCel.out _ hDa0
      go_region_law (first
        | (go_simp; go_at_call 77; with_reducible refine (HNk1.out _ hD0).mono ?_; rintro e w6 ⟨u, rfl, ht6, hB6⟩; have hD6 := bseq8 hD0 hB6; obtain ⟨k', z', A4, n4, c4, A5, n5, c5, A6, n6, c6, rfl⟩ := ht6.parts2; unfold cellsT; have HE1 := Lib.hid (HEnd1.out w6 k' z' A4 n4 c4 A5 n5 c5 A6 n6 c6 hD6 ht6); unfold cellsT at HE1; clear ht6 x0 x1 x2 x3 x4 p0; obtain ⟨⟨x0, x1, x2, x3, x4⟩, p0⟩ := HCel.out _ hD6)
        | (go_simp; go_at_call 77; with_reducible refine (HNk1.out _ hDa0).mono ?_; rintro e w6 ⟨u, rfl, ht6, hB6⟩; have hD6 := bseq8 hDa0 hB6; obtain ⟨k', z', A4, n4, c4, A5, n5, c5, A6, n6, c6, rfl⟩ := ht6.parts2; unfold cellsT; have HQ := Lib.hid (HBa.out _ hB6); have HE2 := Lib.hid (HEnd2.out w6 k' z' A4 n4 c4 A5 n5 c5 A6 n6 c6 hD6 HQ.out ht6); unfold put5 at HE2; (simp only [Nat.zero_add] at HE2); clear ht6 x0 x1 x2 x3 x4 p0; obtain ⟨⟨x0, x1, x2, x3, x4⟩, p0⟩ := HCel.out _ hD6; obtain ⟨y0, y1, y2, y3, y4⟩ := HQ.out.cells; obtain ⟨f0, f1, f2, f3, f4⟩ := HQ.out.frozens))
      all_goals go_wp2_with fail
      all_goals go_meet
      all_goals with_reducible first | exact HE1.out | exact HE2.out
    case rest =>
      obtain ⟨g, k', z', A4, n4, c4, A5, n5, c5, A6, n6, c6, rfl, rfl, hT6, hV6, hB6, hg6⟩ := hcut
      have HT6 := Lib.hid hT6
      have HV6 := Lib.hid hV6
      have HD6 := Lib.hid hB6
      have HN6 := Lib.hid (HN1.out.on hB6)
      have HB6 := Lib.hid (HB1.out.trans (hB6.mono HB1.out.size))
      obtain ⟨S1, E⟩ := S
      dsimp only at HSt HSf HSe HV6 ⊢
      clear hT6 hV6 hB6 hg6
      by_cases hE : E = 0
      · subst hE
        have HIw := Lib.hid (HIh.out S1 (.agg (cellsT k' z' (.slice A4 n4 c4) (.slice A5 n5 c5) (.slice A6 n6 c6))) (.slice (if c = 0 then some ⟨bb, off, none⟩ else some ⟨bb, off + 1, none⟩) r.length c) wc.drew B (Nat.le_trans HBw.out HD6.out.size) (TrV.below (Below.refl wc.heap.size wc).drew (Nat.le_trans HBw.out HD6.out.size) _ _ HV6.out) HSf.out (HRest.out wc.drew (HB6.out.drew)) HKs.out)
        rw [← HSt.out, ← HLn.out] at HIw
        have HCel2 : Hid (∀ X, Below wc.heap.size wc X → (X.cell? ⟨g, 0, none⟩ = some (.int .i64 k') ∧ X.cell? ⟨g, 1, none⟩ = some (.int .i64 z') ∧ X.cell? ⟨g, 2, none⟩ = some (.slice A4 n4 c4) ∧ X.cell? ⟨g, 3, none⟩ = some (.slice A5 n5 c5) ∧ X.cell? ⟨g, 4, none⟩ = some (.slice A6 n6 c6)) ∧ TBox X (w.heap.size + 1) 0 0 (.slice none 0 0) (.slice none 0 0) (.slice none 0 0)) := Lib.hid (fun X hX => ⟨(HT6.out.on hX).cells, HN6.out.on hX⟩)
        have HPut : Hid (∀ X, Below wc.heap.size wc X → ∀ k z a b c u, TrV X B T.1 u → u = .agg (cellsT k z a b c) → TBox (put5 X (w.heap.size + 1) 0 k z a b c) (w.heap.size + 1) k z a b c ∧ NdR T B w (.returned (.tuple #[.agg (cellsT k z a b c), .int .u16 T.2])) (put5 X (w.heap.size + 1) 0 k z a b c)) := Lib.hid (fun X hX k z a b c u hu e => by
          have hB := HB6.out.trans (hX.mono HB6.out.size)
          refine ⟨(HN6.out.on hX).put _ _ _ _ _, u, by rw [e], TrV.below (below_put5 (Below.refl w.heap.size X) (Nat.le_succ _) 0 k z a b c) hBw _ _ hu, below_put5 hB (Nat.le_succ _) 0 k z a b c⟩)
        unfold NdR at HIw
        unfold cellsT at HIw
        have hm1 : (1 : Int) ≤ (m : Int) + 1 := by omega
        go_upto_region 6 with fail
        have hD0 : Below wc.heap.size wc wc.drew := (Below.refl _ _).drew
        obtain ⟨⟨q0, q1, q2, q3, q4⟩, hq⟩ := HCel2.out _ hD0
        clear hq
        go_region_law (first
          | (go_simp; go_at_call 45; with_reducible refine HIw.out.mono ?_; intro e w9 hR; obtain ⟨u, he9, hu9, hB9⟩ := hR; subst he9; obtain ⟨k9, z9, A7, n7, c7, A8, n8, c8, A9, n9, c9, hu⟩ := hu9.parts2; subst hu; have hD9 := bseq8 hD0 hB9; have HE9 := Lib.hid (HPut.out _ hD9 _ _ _ _ _ _ hu9 rfl); unfold cellsT; clear q0 q1 q2 q3 q4; obtain ⟨⟨q0, q1, q2, q3, q4⟩, hq⟩ := HCel2.out _ hD9; obtain ⟨y0, y1, y2, y3, y4⟩ := hq.cells; obtain ⟨f0, f1, f2, f3, f4⟩ := hq.frozens; clear hq))
        all_goals go_wp2_with fail
        all_goals
          unfold put5 at HE9
          simp only [Nat.zero_add] at HE9
          clear y0 y1 y2 y3 y4
          obtain ⟨y0, y1, y2, y3, y4⟩ := HE9.out.1.cells
          refine bodyPost_ret (v := .tuple #[.agg (cellsT k9 z9 (.slice A7 n7 c7) (.slice A8 n8 c8) (.slice A9 n9 c9)), .int .u16 T.2]) ?_ rfl HE9.out.2
          simp [results, Tryd.f45, go_sem, cellsT, y0, y1, y2, y3, y4]
      · have hE1 : (E != 0) = true := by simp [hE]
        obtain rfl : S1 = Tr.nil := HSe.out hE
        obtain rfl : T = (Tr.nil, E) := HSt.out.trans (goT_err r _ hE)
        obtain ⟨y0, y1, y2, y3, y4⟩ := HN6.out.cells
        obtain ⟨f0, f1, f2, f3, f4⟩ := HN6.out.frozens
        have HX := Lib.hid (HN6.out.put 0 0 (.slice none 0 0) (.slice none 0 0) (.slice none 0 0))
        have HBX := Lib.hid (below_put5 (g := w.heap.size + 1) HB6.out (Nat.le_succ _) 0 0 0 (.slice none 0 0) (.slice none 0 0) (.slice none 0 0))
        go_wp2_with fail
        unfold put5 at HX HBX
        simp only [Nat.zero_add] at HX HBX
        clear y0 y1 y2 y3 y4
        obtain ⟨y0, y1, y2, y3, y4⟩ := HX.out.cells
        refine bodyPost_ret (v := .tuple #[.agg (cellsT 0 0 (.slice none 0 0) (.slice none 0 0) (.slice none 0 0)), .int .u16 E]) ?_ rfl (by unfold NdR; exact ⟨_, rfl, TrV.nil _ _, HBX.out⟩)
        simp [results, Tryd.f45, go_sem, cellsT, y0, y1, y2, y3, y4]

theorem goal10_any : (s : List Int) → (t : Tr) → (v sv : Value) → (w : World) → (B : Nat) → B ≤ w.heap.size → TrV w B t v → FineT t → NumS .i64 w w.heap.size sv s → (∀ k ∈ s, 0 ≤ k ∧ k ≤ 9223372036854775807) → Calls Tryd.prog 45 #[v, sv] w (NdR (goT s (t, 0)) B w)
  | [], t, v, sv, w, B, hB, h, hf, hs, hk => goal_step [] (fun k r e => by cases e) t v sv w B hB h hf hs hk
  | k :: r, t, v, sv, w, B, hB, h, hf, hs, hk => goal_step (k :: r) (fun k' r' e => by
    cases e
    exact fun t v sv w B hB h hf hs hk => goal10_any r t v sv w B hB h hf hs hk) t v sv w B hB h hf hs hk

end Go.Proofs.YtdfldfnjjjcleaaDoor

namespace Go.Proofs.YtdfldfnjjjcleaaDoor
open Go.RowKit Go.Deep

theorem neg10_any (k : Int) (w : World) : Calls Tryd.prog 44 #[.int .i64 k] w fun e w' => e = .returned (.bool (decide (k < 0))) ∧ w = w' := by
  go_enter Tryd.func44, Tryd.ntmps44
  go_wp2_with fail
  go_ret
  exact ⟨rfl, rfl⟩

set_option maxRecDepth 100000 in
set_option maxHeartbeats 1000000 in
theorem idx10_any (v : Value) (l : List Int) (B : Nat) (w : World) (h : NumS .i64 w B v l) :
    Calls Tryd.prog 76 #[v, .func (.func 44) #[] #[]] w fun e w' => (∃ x : Int, e = .returned (.int .i64 x) ∧ decide (x ≥ 0) = negs l) ∧ w = w' := by
  obtain ⟨A, c, rfl, hc, hm, hr⟩ := h
  obtain ⟨len, hn⟩ : ∃ n, n = l.length := ⟨_, rfl⟩
  rw [← hn] at hc ⊢
  have H := Lib.hid hr
  have HN := Lib.hid hn
  clear hr hn
  go_enter Tryd.func76, Tryd.ntmps76
  go_wp2_with fail
  go_loopw [8] (fun i wr => ∃ t : Nat, t ≤ len ∧ i = .int .i64 t ∧ (∀ k ∈ l.take t, ¬ k < 0) ∧ w = wr) (fun i _ => len - (intOf i).toNat)
  case atStart => exact ⟨0, by omega, rfl, by simp, rfl⟩
  case round =>
    obtain ⟨t, ht, rfl, hall, rfl⟩ := hrel
    have HAll := Lib.hid hall
    clear hall
    by_cases hlt : t < len
    · obtain ⟨b, off, rfl, _, hcell⟩ := H.out (by rw [← HN.out]; omega)
      have p1 := hcell t (by rw [← HN.out]; omega)
      have HT : Hid (l.take (t + 1) = l.take t ++ [l[t]?.getD 0]) := Lib.hid (by rw [List.take_add_one, List.getElem?_eq_getElem (by rw [← HN.out]; exact hlt)]; rfl)
      have HM : Hid (l[t]?.getD 0 ∈ l) := Lib.hid (by rw [List.getElem?_eq_getElem (by rw [← HN.out]; exact hlt)]; exact List.getElem_mem _)
      obtain ⟨y, hy⟩ : ∃ y, l[t]?.getD 0 = y := ⟨_, rfl⟩
      rw [hy] at p1 HT HM
      clear hcell hy
      have i1 : (t : Int) < (len : Int) := by omega
      by_cases hy : y < 0
      · have hy1 : decide (y < 0) = true := decide_eq_true hy
        go_wp2_with fail
        refine (neg10_any y w).mono ?_
        rintro e w' ⟨rfl, rfl⟩
        rw [hy1]
        go_wp2_with fail
        go_ret
        exact ⟨⟨_, rfl, by rw [decide_eq_true (by omega)]; exact (List.any_eq_true.2 ⟨y, HM.out, hy1⟩).symm⟩, rfl⟩
      · have hy1 : decide (y < 0) = false := decide_eq_false hy
        go_wp2_with fail
        refine (neg10_any y w).mono ?_
        rintro e w' ⟨rfl, rfl⟩
        rw [hy1]
        go_wp2_with fail
        go_roundw
        case rel =>
          refine ⟨t + 1, by omega, by go_num, fun k hk => ?_, trivial⟩
          rw [HT.out, List.mem_append, List.mem_singleton] at hk
          rcases hk with hk | rfl
          · have := HAll.out k hk; omega
          · omega
        case measure => simp [intOf]; omega
    · obtain rfl : t = len := by omega
      go_wp2_with fail
      go_ret
      refine ⟨⟨_, rfl, ?_⟩, rfl⟩
      have hall := HAll.out
      rw [HN.out, List.take_length] at hall
      have hf : negs l = false := by
        unfold negs
        rw [List.any_eq_false]
        intro k hk
        simpa using hall k hk
      rw [hf]
      decide

set_option maxRecDepth 100000 in
theorem contains10_any (v : Value) (l : List Int) (B : Nat) (w : World) (h : NumS .i64 w B v l) :
    Calls Tryd.prog 43 #[v, .func (.func 44) #[] #[]] w fun e w' => e = .returned (.bool (negs l)) ∧ w = w' := by
  have HI := Lib.hid (idx10_any v l B w h)
  obtain ⟨A, c, rfl, -⟩ := h
  generalize l.length = n at *
  go_enter Tryd.func43, Tryd.ntmps43
  go_wp2_with fail
  refine HI.out.mono ?_
  rintro e w' ⟨⟨x, rfl, hx⟩, rfl⟩
  have HX := Lib.hid hx
  clear hx
  go_wp2_with fail
  go_ret
  exact ⟨by rw [← HX.out]; rfl, rfl⟩

set_option maxRecDepth 100000 in
set_option maxHeartbeats 4000000 in
theorem ask_any (t : Tr) (v : Value) (w : World) (sv : Value) (ks : List Int) (i : Int) (h : TrV w w.heap.size t v) (hf : FineT t) (hs : NumS .i64 w w.heap.size sv ks) (h64 : All64 ks) (hi : In64 i) :
    Calls Tryd.prog 25 #[v, .agg #[sv, .int .i64 i]] w (VaR (askT t ks i) w) := by
  have HS := Lib.hid (fun X (hX : Below w.heap.size w X) => hs.on hX)
  have HC := Lib.hid (fun X (hX : Below w.heap.size w X) => contains10_any sv ks _ X (hs.on hX))
  have HGo := Lib.hid (fun X (hX : Below w.heap.size w X) (hk : ∀ k ∈ ks, 0 ≤ k ∧ k ≤ 9223372036854775807) => goal10_any ks t v sv X w.heap.size hX.size (TrV.below hX (Nat.le_refl _) _ _ h) hf (hs.on hX) hk)
  have HFin : Hid (∀ (r : List Int) (x : Tr × Int), FineT x.1 → FineT (goT r x).1) := Lib.hid (fun r => by
    induction r with
    | nil => intro x hx; unfold goT; exact hx
    | cons k r ih =>
      intro x hx
      rw [goT]
      split
      · exact hx
      · exact ih _ (step_fine hx k))
  have HFg := Lib.hid (HFin.out ks (t, 0) hf)
  have HL : Hid (askT t ks i = if negs ks = true then (Va.zero, 1) else if 32 < ks.length then (Va.zero, 3) else if (goT ks (t, 0)).2 ≠ 0 then (Va.zero, (goT ks (t, 0)).2) else endT (goT ks (t, 0)).1 i) := Lib.hid rfl
  obtain ⟨Z, hZ⟩ : ∃ Z, Z = askT t ks i := ⟨_, rfl⟩
  rw [← hZ] at HL ⊢
  obtain ⟨T, hT⟩ : ∃ T, T = goT ks (t, 0) := ⟨_, rfl⟩
  rw [← hT] at HL HGo HFg
  obtain ⟨k0, z0, A1, n1, c1, A2, n2, c2, A3, n3, c3, rfl⟩ := h.parts2
  obtain ⟨A, q, rfl⟩ := hs.form rfl
  obtain ⟨hb1, hb2, hb3, hB0, hs0⟩ := three_new w (cellsT k0 z0 (.slice A1 n1 c1) (.slice A2 n2 c2) (.slice A3 n3 c3)) #[.slice A ks.length q, .int .i64 i] (cellsV Va.zero) 37 33 55 _ rfl
  obtain ⟨W1, hW1⟩ : ∃ W1, W1 = ((w.alloc (.cells (cellsT k0 z0 (.slice A1 n1 c1) (.slice A2 n2 c2) (.slice A3 n3 c3)) 37)).alloc (.cells #[.slice A ks.length q, .int .i64 i] 33)).alloc (.cells (cellsV Va.zero) 55) := ⟨_, rfl⟩
  rw [← hW1] at hb1 hb2 hb3 hB0 hs0
  have HT1 : Hid (TBox W1 w.heap.size k0 z0 (.slice A1 n1 c1) (.slice A2 n2 c2) (.slice A3 n3 c3)) := Lib.hid hb1
  have HP1 : Hid (PaBox W1 (w.heap.size + 1) (.slice A ks.length q) i) := Lib.hid hb2
  have HV : Hid (VBox W1 (w.heap.size + 1 + 1) Va.zero) := Lib.hid hb3
  have HB := Lib.hid hB0
  have HPos : Hid (negs ks = false → ∀ k ∈ ks, 0 ≤ k ∧ k ≤ 9223372036854775807) := Lib.hid (fun h k hk => by
    unfold negs at h
    rw [List.any_eq_false] at h
    have h1 := h k hk
    have h2 := h64 k hk
    unfold In64 at h2
    simp at h1
    omega)
  obtain ⟨c1', c2'⟩ := HP1.out.cells
  obtain ⟨t0, t1, t2, t3, t4⟩ := HT1.out.cells
  unfold cellsT cellsV Va.zero at hW1
  unfold cellsT at HGo ⊢
  dsimp only at hW1
  generalize negs ks = N at *
  clear hZ hT hb1 hb2 hb3 hB0 hs0 hs h64 h hf HFin
  cases N with
  | true =>
    obtain rfl : Z = (Va.zero, 1) := HL.out.trans (if_pos rfl)
    go_enter Tryd.func25, Tryd.ntmps25
    go_upto_region 1 with fail
    rw [← hW1]
    clear hW1
    go_wp2_with fail
    refine (HC.out W1 HB.out).mono ?_
    rintro e w' ⟨rfl, rfl⟩
    have HX := Lib.hid (HV.out.set5 0 0 0 0 0)
    have HBX := Lib.hid (below_val5 (g := w.heap.size + 1 + 1) HB.out (by omega) (.int .i64 0) (.int .i64 0) (.int .i64 0) (.int .i64 0) (.int .u64 0))
    obtain ⟨x0, x1, x2, x3, x4⟩ := HV.out.cells
    obtain ⟨f0, f1, f2, f3, f4⟩ := HV.out.frozens
    unfold Va.zero at x0 x1 x2 x3 x4
    dsimp only at x0 x1 x2 x3 x4
    go_wp2_with fail
    clear x0 x1 x2 x3 x4
    obtain ⟨x0, x1, x2, x3, x4⟩ := HX.out.cells
    dsimp only at x0 x1 x2 x3 x4
    refine bodyPost_ret (v := .tuple #[.agg (cellsV ⟨0, 0, 0, 0, 0⟩), .int .u16 1]) ?_ rfl ⟨rfl, HBX.out⟩
    simp [results, Tryd.f25, go_sem, cellsV, x0, x1, x2, x3, x4]
  | false =>
    have HL1 := Lib.hid (HL.out.trans (if_neg (by decide)))
    by_cases hl : 32 < ks.length
    · obtain rfl : Z = (Va.zero, 3) := HL1.out.trans (if_pos hl)
      have hl1 : (ks.length : Int) > 32 := by omega
      go_enter Tryd.func25, Tryd.ntmps25
      go_upto_region 1 with fail
      rw [← hW1]
      clear hW1
      go_wp2_with fail
      refine (HC.out W1 HB.out).mono ?_
      rintro e w' ⟨rfl, rfl⟩
      have HX := Lib.hid (HV.out.set5 0 0 0 0 0)
      have HBX := Lib.hid (below_val5 (g := w.heap.size + 1 + 1) HB.out (by omega) (.int .i64 0) (.int .i64 0) (.int .i64 0) (.int .i64 0) (.int .u64 0))
      obtain ⟨x0, x1, x2, x3, x4⟩ := HV.out.cells
      obtain ⟨f0, f1, f2, f3, f4⟩ := HV.out.frozens
      unfold Va.zero at x0 x1 x2 x3 x4
      dsimp only at x0 x1 x2 x3 x4
      go_wp2_with fail
      clear x0 x1 x2 x3 x4
      obtain ⟨x0, x1, x2, x3, x4⟩ := HX.out.cells
      dsimp only at x0 x1 x2 x3 x4
      refine bodyPost_ret (v := .tuple #[.agg (cellsV ⟨0, 0, 0, 0, 0⟩), .int .u16 3]) ?_ rfl ⟨rfl, HBX.out⟩
      simp [results, Tryd.f25, go_sem, cellsV, x0, x1, x2, x3, x4]
    · have hl1 : ¬ (ks.length : Int) > 32 := by omega
      have HL2 := Lib.hid (HL1.out.trans (if_neg hl))
      have HG1 := Lib.hid (HGo.out W1 HB.out (HPos.out rfl))
      clear hl HL HL1 HPos HGo
      go_enter Tryd.func25, Tryd.ntmps25
      go_upto_region 1 with fail
      rw [← hW1]
      clear hW1
      go_wp2_with fail
      refine (HC.out W1 HB.out).mono ?_
      rintro e w' ⟨rfl, rfl⟩
      go_wp2_with fail
      refine HG1.out.mono ?_
      intro e w3 hR
      obtain ⟨u, he, hu, hB3⟩ := hR
      subst he
      obtain ⟨k', z', A4, n4, c4, A5, n5, c5, A6, n6, c6, rfl⟩ := hu.parts2
      have hu2 := hu
      unfold cellsT
      have hBa : Below w3.heap.size w3 (w3.alloc (.cells (cellsT k' z' (.slice A4 n4 c4) (.slice A5 n5 c5) (.slice A6 n6 c6)) 37)) := (Below.refl _ _).alloc (Nat.le_refl _) _
      have HP4 := Lib.hid (HP1.out.on (hB3.trans (hBa.mono hB3.size)) HP1.out.lt)
      have HV4 := Lib.hid ((HV.out.on hB3).on hBa)
      have HB4 := Lib.hid ((HB.out.trans (hB3.mono HB.out.size)).trans (hBa.mono (HB.out.trans (hB3.mono HB.out.size)).size))
      have HT4 := Lib.hid (TBox.new w3 k' z' (.slice A4 n4 c4) (.slice A5 n5 c5) (.slice A6 n6 c6))
      have HU4 := Lib.hid (TrV.below hBa (Nat.le_trans HB.out.size hB3.size) _ _ hu2)
      obtain ⟨W4, hW4⟩ : ∃ W4, W4 = w3.alloc (.cells (cellsT k' z' (.slice A4 n4 c4) (.slice A5 n5 c5) (.slice A6 n6 c6)) 37) := ⟨_, rfl⟩
      obtain ⟨g, hg⟩ : ∃ g, g = w3.heap.size := ⟨_, rfl⟩
      rw [← hW4] at HP4 HV4 HB4 HT4 HU4
      rw [← hg] at HT4
      unfold cellsT at hW4
      clear hB3 hBa hu hu2 c1' c2' t0 t1 t2 t3 t4
      go_upto_region 6 with fail
      rw [← hW4, ← hg]
      clear hW4 hg
      obtain ⟨t, E⟩ := T
      dsimp only at HL2 HFg HU4 ⊢
      obtain ⟨c1', c2'⟩ := HP4.out.cells
      obtain ⟨t0, t1, t2, t3, t4⟩ := HT4.out.cells
      by_cases hE : E = 0
      · subst hE
        have HL3 := Lib.hid (HL2.out.trans (if_neg (by simp)))
        clear HL2
        by_cases hi0 : i < 0
        · have hzz : Z = (shapeT t, 0) := HL3.out.trans (by unfold endT; rw [if_pos hi0]; rfl)
          have HSh := Lib.hid (shape10_any t _ W4 (TrV.more HB4.out.size _ _ HU4.out) HFg.out)
          subst hzz
          generalize shapeT t = V at *
          obtain ⟨v1, v2, v3, v4, v5⟩ := V
          unfold cellsV cellsT at HSh
          dsimp only at HSh
          go_wp2_with fail
          refine HSh.out.mono ?_
          rintro e w5 ⟨rfl, hB5⟩
          have HV := Lib.hid (HV4.out.on hB5)
          have HB := Lib.hid (HB4.out.trans (hB5.mono HB4.out.size))
          clear hB5 c1' c2' t0 t1 t2 t3 t4
          have HX := Lib.hid (HV.out.set5 v1 v2 v3 v4 v5)
          have HBX := Lib.hid (below_val5 (g := w.heap.size + 1 + 1) HB.out (by omega) (.int .i64 v1) (.int .i64 v2) (.int .i64 v3) (.int .i64 v4) (.int .u64 v5))
          obtain ⟨x0, x1, x2, x3, x4⟩ := HV.out.cells
          obtain ⟨f0, f1, f2, f3, f4⟩ := HV.out.frozens
          unfold Va.zero at x0 x1 x2 x3 x4
          dsimp only at x0 x1 x2 x3 x4
          go_wp2_with fail
          clear x0 x1 x2 x3 x4
          obtain ⟨x0, x1, x2, x3, x4⟩ := HX.out.cells
          dsimp only at x0 x1 x2 x3 x4
          refine bodyPost_ret (v := .tuple #[.agg (cellsV ⟨v1, v2, v3, v4, v5⟩), .int .u16 0]) ?_ rfl ⟨rfl, HBX.out⟩
          simp [results, Tryd.f25, go_sem, cellsV, x0, x1, x2, x3, x4]
        · have hi1 : 0 ≤ i ∧ i ≤ 9223372036854775807 := by unfold In64 at hi; omega
          have HL4 : Hid (Z = if (wordT t i).2 ≠ 0 then (Va.zero, (wordT t i).2) else (⟨t.kind, 0, 0, 0, (wordT t i).1⟩, 0)) := Lib.hid (HL3.out.trans (by unfold endT; rw [if_neg hi0]))
          have HN4 := Lib.hid (number10_any t _ i W4 (TrV.more HB4.out.size _ _ HU4.out) HFg.out hi1)
          have hkt : t.kind = k' := by
            obtain ⟨a1, a2, a3, a4, a5⟩ := t
            obtain ⟨_, _, _, _, _, _, e, -⟩ := HU4.out.parts
            unfold cellsT at e
            injection e with e
            have := congrArg (fun x => x[0]?) e
            simp at this
            exact this.symm
          rw [hkt] at HL4
          clear hkt HL3 hi1
          generalize wordT t i = X at *
          obtain ⟨x, D⟩ := X
          dsimp only at HL4 HN4
          unfold cellsT at HN4
          go_wp2_with fail
          refine HN4.out.mono ?_
          rintro e w5 ⟨rfl, hB5⟩
          have HV := Lib.hid (HV4.out.on hB5)
          have HB := Lib.hid (HB4.out.trans (hB5.mono HB4.out.size))
          have HT5 := Lib.hid (HT4.out.on hB5)
          clear hB5 c1' c2' t0 t1 t2 t3 t4
          obtain ⟨t0, t1, t2, t3, t4⟩ := HT5.out.cells
          by_cases hD : D = 0
          · subst hD
            obtain rfl : Z = (⟨k', 0, 0, 0, x⟩, 0) := HL4.out.trans (if_neg (by simp))
            have HX := Lib.hid (HV.out.set5 k' 0 0 0 x)
            have HBX := Lib.hid (below_val5 (g := w.heap.size + 1 + 1) HB.out (by omega) (.int .i64 k') (.int .i64 0) (.int .i64 0) (.int .i64 0) (.int .u64 x))
            obtain ⟨x0, x1, x2, x3, x4⟩ := HV.out.cells
            obtain ⟨f0, f1, f2, f3, f4⟩ := HV.out.frozens
            unfold Va.zero at x0 x1 x2 x3 x4
            dsimp only at x0 x1 x2 x3 x4
            go_wp2_with fail
            clear x0 x1 x2 x3 x4
            obtain ⟨x0, x1, x2, x3, x4⟩ := HX.out.cells
            dsimp only at x0 x1 x2 x3 x4
            refine bodyPost_ret (v := .tuple #[.agg (cellsV ⟨k', 0, 0, 0, x⟩), .int .u16 0]) ?_ rfl ⟨rfl, HBX.out⟩
            simp [results, Tryd.f25, go_sem, cellsV, x0, x1, x2, x3, x4]
          · have hD1 : (D != 0) = true := by simp [hD]
            obtain rfl : Z = (Va.zero, D) := HL4.out.trans (if_pos hD)
            have HX := Lib.hid (HV.out.set5 0 0 0 0 0)
            have HBX := Lib.hid (below_val5 (g := w.heap.size + 1 + 1) HB.out (by omega) (.int .i64 0) (.int .i64 0) (.int .i64 0) (.int .i64 0) (.int .u64 0))
            obtain ⟨x0, x1, x2, x3, x4⟩ := HV.out.cells
            obtain ⟨f0, f1, f2, f3, f4⟩ := HV.out.frozens
            unfold Va.zero at x0 x1 x2 x3 x4
            dsimp only at x0 x1 x2 x3 x4
            go_wp2_with fail
            clear x0 x1 x2 x3 x4
            obtain ⟨x0, x1, x2, x3, x4⟩ := HX.out.cells
            dsimp only at x0 x1 x2 x3 x4
            refine bodyPost_ret (v := .tuple #[.agg (cellsV ⟨0, 0, 0, 0, 0⟩), .int .u16 D]) ?_ rfl ⟨rfl, HBX.out⟩
            simp [results, Tryd.f25, go_sem, cellsV, x0, x1, x2, x3, x4]
      · have hE1 : (E != 0) = true := by simp [hE]
        obtain rfl : Z = (Va.zero, E) := HL2.out.trans (if_pos hE)
        have HV := HV4
        have HB := HB4
        have HX := Lib.hid (HV.out.set5 0 0 0 0 0)
        have HBX := Lib.hid (below_val5 (g := w.heap.size + 1 + 1) HB.out (by omega) (.int .i64 0) (.int .i64 0) (.int .i64 0) (.int .i64 0) (.int .u64 0))
        obtain ⟨x0, x1, x2, x3, x4⟩ := HV.out.cells
        obtain ⟨f0, f1, f2, f3, f4⟩ := HV.out.frozens
        unfold Va.zero at x0 x1 x2 x3 x4
        dsimp only at x0 x1 x2 x3 x4
        go_wp2_with fail
        clear x0 x1 x2 x3 x4
        obtain ⟨x0, x1, x2, x3, x4⟩ := HX.out.cells
        dsimp only at x0 x1 x2 x3 x4
        refine bodyPost_ret (v := .tuple #[.agg (cellsV ⟨0, 0, 0, 0, 0⟩), .int .u16 E]) ?_ rfl ⟨rfl, HBX.out⟩
        simp [results, Tryd.f25, go_sem, cellsV, x0, x1, x2, x3, x4]

end Go.Proofs.YtdfldfnjjjcleaaDoor

namespace Go.Proofs.YtdfldfnjjjcleaaDoor
open Go.RowKit Go.Deep

/-- where Cost's closure finds its map and itself -/
structure CostW (W : World) (mb cb r : Nat) : Prop where
  map : Bx W mb 76 (.map (some r))
  self : Bx W cb 77 (.func (.func 33) #[] #[.pointer (some ⟨mb, 0, none⟩), .pointer (some ⟨cb, 0, none⟩)])

set_option maxRecDepth 100000 in
set_option maxHeartbeats 1000000 in
theorem cost_wrap (t : Tr) (v : Value) (x : Int) (w : World) (h : TrV w w.heap.size t v)
    (hcl : ∀ (W : World) (mb cb r : Nat), CostW W mb cb r → W.heap[r]? = some (.map #[] 0) → Below w.heap.size w W → w.heap.size ≤ r → r ≠ mb → r ≠ cb → Calls Tryd.prog 33 #[v, .int .i64 0, .pointer (some ⟨mb, 0, none⟩), .pointer (some ⟨cb, 0, none⟩)] W fun e w' => e = .returned (.int .i64 x) ∧ Below w.heap.size w w') :
    Calls Tryd.prog 19 #[v] w fun e w' => e = .returned (.int .i64 x) ∧ Below w.heap.size w w' := by
  obtain ⟨k0, z0, A1, n1, c1, A2, n2, c2, A3, n3, c3, rfl⟩ := (show ∃ k z A1 n1 c1 A2 n2 c2 A3 n3 c3, v = .agg (cellsT k z (.slice A1 n1 c1) (.slice A2 n2 c2) (.slice A3 n3 c3)) from by
    obtain ⟨k, z, ws, bs, ks⟩ := t
    obtain ⟨A1, c1, A2, c2, A3, c3, rfl, -⟩ := h.parts
    exact ⟨_, _, _, _, _, _, _, _, _, _, _, rfl⟩)
  have HCl := Lib.hid hcl
  have hmf : ∀ (fn : Fn) (first cap : Array Value) (w : World), (Instr.makeFunc fn first cap).run Tryd.prog w = .ok (.func fn first cap) w := fun _ _ _ _ => rfl
  have hmm := @run_makeMap Tryd.prog
  clear h hcl
  unfold cellsT at HCl ⊢
  go_enter Tryd.func19, Tryd.ntmps19
  obtain ⟨W4, hW4⟩ : ∃ W4, W4 = (((w.alloc (.cells #[.int .i64 k0, .int .i64 z0, .slice A1 n1 c1, .slice A2 n2 c2, .slice A3 n3 c3] 37)).alloc (.map #[] 0)).alloc (.cells #[.map (some (w.heap.size + 1))] 76)).alloc (.cells #[.nilFunc] 77) := ⟨_, rfl⟩
  have hB4 : Below w.heap.size w W4 := by
    rw [hW4]
    exact ((((Below.refl _ _).alloc (Nat.le_refl _) _).alloc (by simp) _).alloc (by simp; omega) _).alloc (by simp; omega) _
  have h0 : W4.heap[w.heap.size]? = some (.cells #[.int .i64 k0, .int .i64 z0, .slice A1 n1 c1, .slice A2 n2 c2, .slice A3 n3 c3] 37 (0, 0)) := by
    rw [hW4, blk_alloc_lt _ _ _ (by simp; omega), blk_alloc_lt _ _ _ (by simp; omega), blk_alloc_lt _ _ _ (by simp), blk_alloc_new]
  have h1 : W4.heap[w.heap.size + 1]? = some (.map #[] 0) := by
    have := blk_alloc_new (w.alloc (.cells #[.int .i64 k0, .int .i64 z0, .slice A1 n1 c1, .slice A2 n2 c2, .slice A3 n3 c3] 37)) (.map #[] 0)
    rw [World.size_alloc] at this
    rw [hW4, blk_alloc_lt _ _ _ (by simp), blk_alloc_lt _ _ _ (by simp), this]
  have h2 : Bx W4 (w.heap.size + 1 + 1) 76 (.map (some (w.heap.size + 1))) := by
    have := blk_alloc_new ((w.alloc (.cells #[.int .i64 k0, .int .i64 z0, .slice A1 n1 c1, .slice A2 n2 c2, .slice A3 n3 c3] 37)).alloc (.map #[] 0)) (.cells #[.map (some (w.heap.size + 1))] 76)
    rw [World.size_alloc, World.size_alloc] at this
    unfold Bx
    rw [hW4, blk_alloc_lt _ _ _ (by simp), this]
  have h3 : Bx W4 (w.heap.size + 1 + 1 + 1) 77 .nilFunc := by
    have := blk_alloc_new (((w.alloc (.cells #[.int .i64 k0, .int .i64 z0, .slice A1 n1 c1, .slice A2 n2 c2, .slice A3 n3 c3] 37)).alloc (.map #[] 0)).alloc (.cells #[.map (some (w.heap.size + 1))] 76)) (.cells #[.nilFunc] 77)
    rw [World.size_alloc, World.size_alloc, World.size_alloc] at this
    unfold Bx
    rw [hW4, this]
  have HT4 : Hid (TBox W4 w.heap.size k0 z0 (.slice A1 n1 c1) (.slice A2 n2 c2) (.slice A3 n3 c3)) := Lib.hid h0
  have HF := Lib.hid h3
  have HEnd : Hid (∀ u, CostW (W4.setCell ⟨w.heap.size + 1 + 1 + 1, 0, none⟩ u) (w.heap.size + 1 + 1) (w.heap.size + 1 + 1 + 1) (w.heap.size + 1) ∧ True ∨ True) := Lib.hid (fun u => .inr trivial)
  have HMp := Lib.hid (And.intro h1 h2)
  have HB4 := Lib.hid hB4
  obtain ⟨c0, f0⟩ := h3.cell
  clear h0 h1 h2 h3 hB4
  go_upto_region 3 with fail
  rw [← hW4]
  clear hW4
  have HC5 : Hid (CostW (W4.setCell ⟨w.heap.size + 1 + 1 + 1, 0, none⟩ (.func (.func 33) #[] #[.pointer (some ⟨w.heap.size + 1 + 1, 0, none⟩), .pointer (some ⟨w.heap.size + 1 + 1 + 1, 0, none⟩)])) (w.heap.size + 1 + 1) (w.heap.size + 1 + 1 + 1) (w.heap.size + 1)) := Lib.hid ⟨HMp.out.2.other (by omega) 0 _, HF.out.set _⟩
  have HT5 : Hid (TBox (W4.setCell ⟨w.heap.size + 1 + 1 + 1, 0, none⟩ (.func (.func 33) #[] #[.pointer (some ⟨w.heap.size + 1 + 1, 0, none⟩), .pointer (some ⟨w.heap.size + 1 + 1 + 1, 0, none⟩)])) w.heap.size k0 z0 (.slice A1 n1 c1) (.slice A2 n2 c2) (.slice A3 n3 c3)) := Lib.hid (HT4.out.other (by omega) 0 _)
  have HB5 : Hid (Below w.heap.size w (W4.setCell ⟨w.heap.size + 1 + 1 + 1, 0, none⟩ (.func (.func 33) #[] #[.pointer (some ⟨w.heap.size + 1 + 1, 0, none⟩), .pointer (some ⟨w.heap.size + 1 + 1 + 1, 0, none⟩)]))) := Lib.hid (HB4.out.setCell (p := ⟨w.heap.size + 1 + 1 + 1, 0, none⟩) (by show w.heap.size ≤ w.heap.size + 1 + 1 + 1; omega) _)
  have HM5 : Hid ((W4.setCell ⟨w.heap.size + 1 + 1 + 1, 0, none⟩ (.func (.func 33) #[] #[.pointer (some ⟨w.heap.size + 1 + 1, 0, none⟩), .pointer (some ⟨w.heap.size + 1 + 1 + 1, 0, none⟩)])).heap[w.heap.size + 1]? = some (.map #[] 0)) := Lib.hid ((blk_setCell_other _ _ _ _ (by show w.heap.size + 1 ≠ w.heap.size + 1 + 1 + 1; omega)).trans HMp.out.1)
  clear HEnd HMp HF
  go_upto_region 4 with fail
  generalize W4.setCell ⟨w.heap.size + 1 + 1 + 1, 0, none⟩ (.func (.func 33) #[] #[.pointer (some ⟨w.heap.size + 1 + 1, 0, none⟩), .pointer (some ⟨w.heap.size + 1 + 1 + 1, 0, none⟩)]) = W5 at *
  clear c0 f0
  obtain ⟨c0, f0⟩ := HC5.out.self.cell
  obtain ⟨t0, t1, t2, t3, t4⟩ := HT5.out.cells
  have HCa := Lib.hid (HCl.out W5 _ _ _ HC5.out HM5.out HB5.out (by omega) (by omega) (by omega))
  go_wp2_with fail
  refine HCa.out.mono ?_
  rintro e w6 ⟨rfl, hB6⟩
  go_wp2_with fail
  go_ret
  exact ⟨rfl, hB6⟩

set_option maxRecDepth 100000 in
set_option maxHeartbeats 1000000 in
theorem cost1_leaf (k z : Int) (ws bs : List Int) (v : Value) (lv : Int) (w : World) (mb cb : Nat) (h : TrV w w.heap.size (.mk k z ws bs []) v) :
    Calls Tryd.prog 33 #[v, .int .i64 lv, .pointer (some ⟨mb, 0, none⟩), .pointer (some ⟨cb, 0, none⟩)] w fun e w' => e = .returned (.int .i64 ((1 + needT (.mk k z ws bs []) : Nat) : Int)) ∧ Below w.heap.size w w' := by
  have HN := Lib.hid (fun X (hX : Below w.heap.size w X) => need_any (.mk k z ws bs []) v X (h.on hX))
  have hnb : needT (.mk k z ws bs []) ≤ 3000000 := by
    obtain ⟨A1, c1, A2, c2, A3, c3, -, hg, -⟩ := h.parts
    obtain ⟨-, -, g3, g4, g5, -⟩ := hg
    unfold needT Tr.kind Tr.words Tr.kids Tr.bytes
    dsimp only
    split
    · simp; omega
    · split
      · simp; omega
      · omega
  obtain ⟨A1, c1, A2, c2, A3, c3, rfl, -⟩ := h.parts
  obtain ⟨n, hn⟩ : ∃ n, n = needT (.mk k z ws bs []) := ⟨_, rfl⟩
  rw [← hn] at HN hnb ⊢
  have hT1 := TBox.new w k z (.slice A1 ws.length c1) (.slice A2 bs.length c2) (.slice A3 0 c3)
  have hB1 : Below w.heap.size w (w.alloc (.cells (cellsT k z (.slice A1 ws.length c1) (.slice A2 bs.length c2) (.slice A3 0 c3)) 37)) := (Below.refl _ _).alloc (Nat.le_refl _) _
  generalize ws.length = nw at *
  generalize bs.length = nb at *
  rw [show ([] : List Tr).length = 0 from rfl] at HN ⊢
  have HN1 := Lib.hid (HN.out _ hB1)
  obtain ⟨W1, hW1⟩ : ∃ W1, W1 = w.alloc (.cells (cellsT k z (.slice A1 nw c1) (.slice A2 nb c2) (.slice A3 0 c3)) 37) := ⟨_, rfl⟩
  rw [← hW1] at hT1 hB1 HN1
  have HT1 := Lib.hid hT1
  have HB1 := Lib.hid hB1
  have hw : IntKind.i64.wrap (1 + (n : Int)) = 1 + (n : Int) := IntWalk.i64_in _ (by omega)
  clear h hn hT1 hB1 HN
  unfold cellsT at hW1 HN1 ⊢
  obtain ⟨t0, t1, t2, t3, t4⟩ := HT1.out.cells
  go_enter Tryd.func33, Tryd.ntmps33
  go_upto_region 1 with fail
  rw [← hW1]
  clear hW1
  go_wp2_with fail
  refine HN1.out.mono ?_
  rintro e w2 ⟨rfl, hB2⟩
  have HT2 := Lib.hid (HT1.out.on hB2)
  have HB2 := Lib.hid (HB1.out.trans (hB2.mono HB1.out.size))
  clear hB2 t0 t1 t2 t3 t4
  obtain ⟨t0, t1, t2, t3, t4⟩ := HT2.out.cells
  go_wp2_with fail
  go_ret
  exact ⟨by simp, HB2.out⟩

/-- what something without Kids costs -/
theorem cost_leaf (k z : Int) (ws bs : List Int) (v : Value) (w : World) (h : TrV w w.heap.size (.mk k z ws bs []) v) :
    Calls Tryd.prog 19 #[v] w fun e w' => e = .returned (.int .i64 ((costT (.mk k z ws bs []) : Nat) : Int)) ∧ Below w.heap.size w w' := by
  rw [show costT (.mk k z ws bs []) = 1 + needT (.mk k z ws bs []) by unfold costT costAll; rfl]
  exact cost_wrap _ v _ w h (fun W mb cb r _ _ hB _ _ _ => (cost1_leaf k z ws bs v 0 W mb cb (h.on hB)).mono (fun e w' he => ⟨he.1, hB.trans (he.2.mono hB.size)⟩))

end Go.Proofs.YtdfldfnjjjcleaaDoor
