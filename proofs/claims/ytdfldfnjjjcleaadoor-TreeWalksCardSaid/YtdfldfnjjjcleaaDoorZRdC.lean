/-
  Layer 9, the landed package: an arena as a source: its methods; word and sizes, whose deferred closures find nothing to recover.
-/
import Derived.Test.YtdfldfnjjjcleaaDoorZRdA
import Derived.Test.YtdfldfnjjjcleaaDoorZRdPlain
import Derived.Defers
import Derived.Recover
import Derived.Test.YtdfldfnjjjcleaaDoorZRdB
import Derived.StillTailTactics
import Derived.WalkMore

namespace Go.Proofs.YtdfldfnjjjcleaaDoor
open Go.RowKit Go.Deep

/-- a box of one value -/
def Bx (w : World) (b t : Nat) (v : Value) : Prop := w.heap[b]? = some (.cells #[v] t (0, 0))
theorem Bx.lt {w : World} {b t : Nat} {v : Value} (h : Bx w b t v) : b < w.heap.size := (Array.getElem?_eq_some_iff.1 h).1
theorem Bx.on {w w' : World} {b t : Nat} {v : Value} (h : Bx w b t v) (hB : Below w.heap.size w w') : Bx w' b t v := (hB.block b h.lt).trans h
theorem Bx.cell {w : World} {b t : Nat} {v : Value} (h : Bx w b t v) : w.cell? ⟨b, 0, none⟩ = some v ∧ w.frozen? ⟨b, 0, none⟩ = false := by
  unfold Bx at h
  simp [World.cell?, World.frozen?, h]
theorem Bx.set {w : World} {b t : Nat} {v : Value} (h : Bx w b t v) (y : Value) : Bx (w.setCell ⟨b, 0, none⟩ y) b t y := by
  have := heap_setCell_same _ b 0 _ _ y h
  unfold Bx
  rw [this]
  simp
theorem Bx.other {w : World} {g b t : Nat} {x : Value} (h : Bx w g t x) (hne : g ≠ b) (j : Nat) (v : Value) : Bx (w.setCell ⟨b, j, none⟩ v) g t x := (blk_setCell_other _ _ _ _ hne).trans h
/-- the block b is an arena as a source -/
def WhBox (w : World) (b : Nat) (v : Value) : Prop := w.heap[b]? = some (.cells #[v] 97 (0, 0))
theorem WhBox.lt {w : World} {b : Nat} {v : Value} (h : WhBox w b v) : b < w.heap.size := (Array.getElem?_eq_some_iff.1 h).1
theorem WhBox.on {w w' : World} {b : Nat} {v : Value} (h : WhBox w b v) (hB : Below w.heap.size w w') : WhBox w' b v := (hB.block b h.lt).trans h
theorem WhBox.cell {w : World} {b : Nat} {v : Value} (h : WhBox w b v) : w.cell? ⟨b, 0, none⟩ = some v := by
  unfold WhBox at h
  simp [World.cell?, h]

theorem meth_sizes (a : Nat) (W : World) : Sem.run Tryd.prog (method (Tryd.prog.types.size + 100) 95 (.pointer (some ⟨a, 0, none⟩)) "Sizes") W = .ok (145, .pointer (some ⟨a, 0, none⟩)) W := by
  rw [Tryd.types_size]; kernel_rfl
theorem meth_word (a : Nat) (W : World) : Sem.run Tryd.prog (method (Tryd.prog.types.size + 100) 95 (.pointer (some ⟨a, 0, none⟩)) "Word") W = .ok (146, .pointer (some ⟨a, 0, none⟩)) W := by
  rw [Tryd.types_size]; kernel_rfl

set_option maxRecDepth 100000 in
set_option maxHeartbeats 400000 in
theorem wsizes_any (b : Nat) (v : Value) (ls : List (List Int)) (w : World) (hb : WhBox w b v) (h : ArV w w.heap.size v ls) (hs : ls.length ≤ 1000000000) :
    Calls Tryd.prog 145 #[.pointer (some ⟨b, 0, none⟩)] w fun e w' => ∃ u, e = .returned u ∧ OwnI w' w.heap.size u (sizesL ls) ∧ Below w.heap.size w w' := by
  have HS := Lib.hid (asizes_anyL v ls w h hs)
  have hc := hb.cell
  obtain ⟨A, c, rfl, -⟩ := h
  generalize ls.length = n at *
  clear hb hs
  go_enter Tryd.func145, Tryd.ntmps145
  go_wp2_with fail
  refine HS.out.mono ?_
  rintro e w2 ⟨u, rfl, h1, h2⟩
  go_wp2_with fail
  go_ret
  exact ⟨_, rfl, h1, h2⟩

set_option maxRecDepth 100000 in
set_option maxHeartbeats 400000 in
theorem wword_any (b : Nat) (v : Value) (ls : List (List Int)) (g a : Int) (w : World) (hb : WhBox w b v) (h : ArV w w.heap.size v ls) :
    Calls Tryd.prog 146 #[.pointer (some ⟨b, 0, none⟩), .int .i64 g, .int .i64 a] w fun e w' => e = .returned (.tuple #[.int .u64 (wordA ls g a), .int .u16 (wordE7 ls g a)]) ∧ Below w.heap.size w w' := by
  have HS := Lib.hid (aword_any v ls g a w h)
  have hc := hb.cell
  obtain ⟨A, c, rfl, -⟩ := h
  generalize ls.length = n at *
  generalize wordA ls g a = x at *
  generalize wordE7 ls g a = y at *
  clear hb
  go_enter Tryd.func146, Tryd.ntmps146
  go_wp2_with fail
  refine HS.out.mono ?_
  rintro e w2 ⟨rfl, h2⟩
  go_wp2_with fail
  go_ret2
  exact ⟨rfl, h2⟩

theorem catch_word (a b : Value) (w : World) :
    CallsD Tryd.prog 112 #[a, b] .returning w fun e u' w' => e = .returned (.tuple #[]) ∧ u' = .returning ∧ w' = w := by
  refine callsD_of_wpS Tryd.func112 rfl fun c₀ cs hu => ?_
  apply wpS_seq
  apply wpS_region
  simp [wpOpsS, go_sem, recoverD, hu, Tryd.ntmps112, Exit.thenS]
  refine wpS_cond (t := false) (by simp [Act.eval, Array.replicate]) ?_
  simp only [Bool.false_eq_true, if_false]
  refine wpS_of_wp (wp_skip ?_)
  cases c₀
  simp_all [bodyPostS, results, Tryd.results112]
theorem catch_sizes (a : Value) (w : World) :
    CallsD Tryd.prog 120 #[a] .returning w fun e u' w' => e = .returned (.tuple #[]) ∧ u' = .returning ∧ w' = w := by
  refine callsD_of_wpS Tryd.func120 rfl fun c₀ cs hu => ?_
  apply wpS_seq
  apply wpS_region
  simp [wpOpsS, go_sem, recoverD, hu, Tryd.ntmps120, Exit.thenS]
  refine wpS_cond (t := false) (by simp [Act.eval, Array.replicate]) ?_
  simp only [Bool.false_eq_true, if_false]
  refine wpS_of_wp (wp_skip ?_)
  cases c₀
  simp_all [bodyPostS, results, Tryd.results120]

set_option maxRecDepth 100000 in
set_option maxHeartbeats 1000000 in
theorem word_whole (b : Nat) (v : Value) (ls : List (List Int)) (g a : Int) (w : World) (hb : WhBox w b v) (h : ArV w w.heap.size v ls) :
    Calls Tryd.prog 96 #[.iface 95 (.pointer (some ⟨b, 0, none⟩)), .int .i64 g, .int .i64 a] w fun e w' => e = .returned (.tuple #[.int .u64 (wordA ls g a), .int .u16 (wordE7 ls g a)]) ∧ Below w.heap.size w w' := by
  have hmf : ∀ (fn : Fn) (first cap : Array Value) (w : World), (Instr.makeFunc fn first cap).run Tryd.prog w = .ok (.func fn first cap) w := fun _ _ _ _ => rfl
  have hm := meth_word b
  simp only [Tryd.types_size, Nat.reduceAdd] at hm
  have HS := Lib.hid (fun X (hX : Below w.heap.size w X) => wword_any b v ls g a X (hb.on hX) (h.on hX))
  obtain ⟨e1, e2, -⟩ := two_new w #[.int .u64 0] #[.int .u16 0] 53 48
  have HS1 := HS.out _ ((((Below.refl _ _).alloc (Nat.le_refl _) _).alloc (by simp) _) : Below w.heap.size w ((w.alloc (.cells #[.int .u64 0] 53)).alloc (.cells #[.int .u16 0] 48)))
  clear hb h
  generalize wordA ls g a = x at *
  generalize wordE7 ls g a = y at *
  go_enter_defers Tryd.func96, Tryd.ntmps96
  go_wp2_with fail
  refine HS1.mono ?_
  rintro e w2 ⟨rfl, hB2⟩
  have h1 : Bx w2 w.heap.size 53 (.int .u64 0) := Bx.on (w := (w.alloc (.cells #[.int .u64 0] 53)).alloc (.cells #[.int .u16 0] 48)) e1 hB2
  have h2 : Bx w2 (w.heap.size + 1) 48 (.int .u16 0) := Bx.on (w := (w.alloc (.cells #[.int .u64 0] 53)).alloc (.cells #[.int .u16 0] 48)) e2 hB2
  have hB3 : Below w.heap.size w w2 := bseq' ((((Below.refl _ _).alloc (Nat.le_refl _) _).alloc (by simp) _) : Below w.heap.size w ((w.alloc (.cells #[.int .u64 0] 53)).alloc (.cells #[.int .u16 0] 48))) hB2
  have H1 := Lib.hid ((h1.set (.int .u64 x)).other (by omega : w.heap.size ≠ w.heap.size + 1) 0 (.int .u16 y))
  have H2 := Lib.hid ((h2.other (by omega : w.heap.size + 1 ≠ w.heap.size) 0 (.int .u64 x)).set (.int .u16 y))
  have HB := Lib.hid ((hB3.setCell (p := ⟨w.heap.size, 0, none⟩) (Nat.le_refl _) (.int .u64 x)).setCell (p := ⟨w.heap.size + 1, 0, none⟩) (Nat.le_succ _) (.int .u16 y))
  obtain ⟨c1, f1⟩ := h1.cell
  obtain ⟨c2, f2⟩ := h2.cell
  have c3 := ((h2.other (by omega : w.heap.size + 1 ≠ w.heap.size) 0 (.int .u64 x))).cell
  obtain ⟨c3, f3⟩ := c3
  clear hB2 hB3 e1 e2 h1 h2 hm
  go_wp2_with fail
  obtain ⟨d1, -⟩ := H1.out.cell
  obtain ⟨d2, -⟩ := H2.out.cell
  refine leaves_cons (f := 112) (args := #[.pointer (some ⟨w.heap.size, 0, none⟩), .pointer (some ⟨w.heap.size + 1, 0, none⟩)]) (by simp) (by simp [go_sem]) ?_
  refine (catch_word _ _ _).mono ?_
  rintro e u' w'' ⟨rfl, rfl, rfl⟩
  simp [Leaves, settle, results, Tryd.results96, go_sem, d1, d2]
  exact HB.out

theorem OwnI.setBelow {w : World} {base g : Nat} {v : Value} {xs : List Int} (h : OwnI w base v xs) (hg : g < base) (j : Nat) (x : Value) : OwnI (w.setCell ⟨g, j, none⟩ x) base v xs := by
  obtain ⟨h1, h2 | ⟨k, c, cur, e, hk, hh, r⟩⟩ := h
  · exact ⟨h1, .inl h2⟩
  · exact ⟨h1, .inr ⟨k, c, cur, e, hk, (blk_setCell_other _ _ _ _ (by show k ≠ g; omega)).trans hh, r⟩⟩

set_option maxRecDepth 100000 in
set_option maxHeartbeats 1000000 in
theorem sizes_whole (b : Nat) (v : Value) (ls : List (List Int)) (w : World) (hb : WhBox w b v) (h : ArV w w.heap.size v ls) (hs : ls.length ≤ 1000000000) :
    Calls Tryd.prog 110 #[.iface 95 (.pointer (some ⟨b, 0, none⟩))] w fun e w' => ∃ u, e = .returned u ∧ NumS .i64 w' w'.heap.size u (sizesL ls) ∧ Below w.heap.size w w' := by
  have hmf : ∀ (fn : Fn) (first cap : Array Value) (w : World), (Instr.makeFunc fn first cap).run Tryd.prog w = .ok (.func fn first cap) w := fun _ _ _ _ => rfl
  have hm := meth_sizes b
  simp only [Tryd.types_size, Nat.reduceAdd] at hm
  have hB1 : Below w.heap.size w (w.alloc (.cells #[.slice none 0 0] 31)) := (Below.refl _ _).alloc (Nat.le_refl _) _
  have HB1 := Lib.hid hB1
  have h0 : Bx (w.alloc (.cells #[.slice none 0 0] 31)) w.heap.size 31 (.slice none 0 0) := by unfold Bx; rw [blk_alloc_new]
  have H0 := Lib.hid h0
  have HS1 := wsizes_any b v ls _ (hb.on hB1) (h.on hB1) hs
  clear hb h hB1 h0
  go_enter_defers Tryd.func110, Tryd.ntmps110
  go_wp2_with fail
  refine HS1.mono ?_
  rintro e w2 ⟨u, rfl, hO, hB2⟩
  have h1 := H0.out.on hB2
  have hB3 := bseq' HB1.out hB2
  have hO2 := OwnI.setBelow hO (g := w.heap.size) (by simp) 0 u
  have HO := Lib.hid hO2.numS
  have H1 := Lib.hid (h1.set u)
  have HB := Lib.hid (hB3.setCell (p := ⟨w.heap.size, 0, none⟩) (Nat.le_refl _) u)
  obtain ⟨A, c, rfl, -⟩ := hO.numS
  generalize (sizesL ls).length = n at *
  obtain ⟨c1, f1⟩ := h1.cell
  clear hB2 hB3 h1 hO hO2 hm
  go_wp2_with fail
  obtain ⟨d1, -⟩ := H1.out.cell
  refine leaves_cons (f := 120) (args := #[.pointer (some ⟨w.heap.size, 0, none⟩)]) (by simp) (by simp [go_sem]) ?_
  refine (catch_sizes _ _).mono ?_
  rintro e u' w'' ⟨rfl, rfl, rfl⟩
  simp [Leaves, settle, results, Tryd.results110, go_sem, d1]
  exact ⟨by simpa using HO.out, HB.out⟩

/-- what a source of an arena stands on -/
structure WhK (b : Nat) (v : Value) (ls : List (List Int)) (w : World) : Prop where
  box : WhBox w b v
  ar : ArV w w.heap.size v ls
  laid : Laid w
theorem wordA_bd {ls : List (List Int)} (h : AllU ls) (g a : Int) : 0 ≤ wordA ls g a ∧ wordA ls g a ≤ 18446744073709551615 := by
  unfold wordA
  split
  · exact h.at_ _ _
  · decide
theorem wordE9_bd (ls : List (List Int)) (g a : Int) : 0 ≤ wordE7 ls g a ∧ wordE7 ls g a ≤ 65535 := by
  unfold wordE7
  split <;> decide
theorem whole_ok (b : Nat) (v : Value) (ls : List (List Int)) (hs : ls.length ≤ 1000000000) (hu : AllU ls) (h64 : All64 (sizesL ls)) : SrcOK (WhK b v ls) (.iface 95 (.pointer (some ⟨b, 0, none⟩))) (srA ls) where
  good := ⟨fun g a => wordA_bd hu g a, fun g a => wordE9_bd ls g a, h64, by show (sizesL ls).length ≤ _; rw [sizesL_length]; exact hs⟩
  on := fun h hB => ⟨h.box.on hB, h.ar.on hB, h.laid.on hB⟩
  laid := fun h => h.laid
  form := ⟨_, _, rfl⟩
  word := fun g a w h _ _ => word_whole b v ls g a w h.box h.ar
  sizes := fun w h => sizes_whole b v ls w h.box h.ar hs

end Go.Proofs.YtdfldfnjjjcleaaDoor

namespace Go.Proofs.YtdfldfnjjjcleaaDoor
open Go.RowKit Go.Deep

/-- what pay does to the purse -/
def PayR (w : World) (pb : Nat) (c n : Int) (e : Ending) (w' : World) : Prop :=
  ∃ w1, Below w.heap.size w w1 ∧ ((n ≤ c ∧ e = .returned (.bool true) ∧ w' = w1.setCell ⟨pb, 0, none⟩ (.int .i64 (c - n))) ∨ (c < n ∧ e = .returned (.bool false) ∧ w' = w1))
set_option maxRecDepth 100000 in
set_option maxHeartbeats 1000000 in
theorem pay_any (o : Ob) (pb : Nat) (c : Int) (w : World) (ho : OkQ (ptrO o)) (hp : Bx w pb 135 (.int .i64 c)) (hc : In64 c) :
    Calls Tryd.prog 73 #[.pointer (some ⟨pb, 0, none⟩), .agg (cellsO o)] w (PayR w pb c (1 + wordsO o)) := by
  have hb := wordN_bd ho
  have hB0 : Below w.heap.size w (w.alloc (.cells (cellsO o) 131)) := (Below.refl _ _).alloc (Nat.le_refl _) _
  have HW := Lib.hid (words9_any o (w.alloc (.cells (cellsO o) 131)) ho)
  have HE : Hid (wordsO o = wordN (ptrO o)) := Lib.hid rfl
  rw [← HE.out] at hb
  generalize wordsO o = n at *
  have hw1 : IntKind.i64.wrap (1 + n) = 1 + n := IntWalk.i64_in _ (by omega)
  obtain ⟨h1, h2⟩ := hc
  have HP := Lib.hid hp
  have HB0 := Lib.hid hB0
  clear HE ho hp hB0
  unfold cellsO at *
  by_cases hlt : 1 + n ≤ c
  · have hw2 : IntKind.i64.wrap (c - (1 + n)) = c - (1 + n) := IntWalk.i64_in _ (by omega)
    have i1 : ¬ c < 1 + n := by omega
    go_enter Tryd.func73, Tryd.ntmps73
    go_wp2_with fail
    refine HW.out.mono ?_
    rintro e w2 ⟨rfl, hB2⟩
    have HP2 := Lib.hid (HP.out.on (bseq' HB0.out hB2))
    have HB2 := Lib.hid (bseq' HB0.out hB2)
    obtain ⟨c1, f1⟩ := HP2.out.cell
    clear hB2
    go_wp2_with fail
    go_ret
    exact ⟨_, HB2.out, .inl ⟨hlt, rfl, rfl⟩⟩
  · have i1 : c < 1 + n := by omega
    go_enter Tryd.func73, Tryd.ntmps73
    go_wp2_with fail
    refine HW.out.mono ?_
    rintro e w2 ⟨rfl, hB2⟩
    have HP2 := Lib.hid (HP.out.on (bseq' HB0.out hB2))
    have HB2 := Lib.hid (bseq' HB0.out hB2)
    obtain ⟨c1, f1⟩ := HP2.out.cell
    clear hB2
    go_wp2_with fail
    go_ret
    exact ⟨_, HB2.out, .inr ⟨i1, rfl, rfl⟩⟩

def cellsV (v : Va) : Array Value := #[.int .i64 v.kind, .int .i64 v.size, .int .i64 v.words, .int .i64 v.kids, .int .u64 v.word]
def VBox (w : World) (g : Nat) (v : Va) : Prop := w.heap[g]? = some (.cells (cellsV v) 55 (0, 0))
theorem VBox.new (w : World) (v : Va) : VBox (w.alloc (.cells (cellsV v) 55)) w.heap.size v := by unfold VBox; rw [blk_alloc_new]
theorem VBox.lt {w : World} {g : Nat} {v : Va} (h : VBox w g v) : g < w.heap.size := (Array.getElem?_eq_some_iff.1 h).1
theorem VBox.on {w w' : World} {g : Nat} {v : Va} (h : VBox w g v) (hB : Below w.heap.size w w') : VBox w' g v := (hB.block g h.lt).trans h
theorem VBox.cells {w : World} {g : Nat} {v : Va} (h : VBox w g v) : w.cell? ⟨g, 0, none⟩ = some (.int .i64 v.kind) ∧ w.cell? ⟨g, 1, none⟩ = some (.int .i64 v.size) ∧ w.cell? ⟨g, 2, none⟩ = some (.int .i64 v.words) ∧ w.cell? ⟨g, 3, none⟩ = some (.int .i64 v.kids) ∧ w.cell? ⟨g, 4, none⟩ = some (.int .u64 v.word) := by
  unfold VBox at h
  simp [World.cell?, h, cellsV]
theorem VBox.frozen {w : World} {g : Nat} {v : Va} (h : VBox w g v) (j : Nat) : w.frozen? ⟨g, j, none⟩ = false := by
  unfold VBox at h
  simp [World.frozen?, h]
theorem VBox.frozens {w : World} {g : Nat} {v : Va} (h : VBox w g v) : w.frozen? ⟨g, 0, none⟩ = false ∧ w.frozen? ⟨g, 1, none⟩ = false ∧ w.frozen? ⟨g, 2, none⟩ = false ∧ w.frozen? ⟨g, 3, none⟩ = false ∧ w.frozen? ⟨g, 4, none⟩ = false :=
  ⟨h.frozen 0, h.frozen 1, h.frozen 2, h.frozen 3, h.frozen 4⟩
theorem VBox.set5 {w : World} {g : Nat} {v : Va} (h : VBox w g v) (a b c d e : Int) :
    VBox (((((w.setCell ⟨g, 0, none⟩ (.int .i64 a)).setCell ⟨g, 1, none⟩ (.int .i64 b)).setCell ⟨g, 2, none⟩ (.int .i64 c)).setCell ⟨g, 3, none⟩ (.int .i64 d)).setCell ⟨g, 4, none⟩ (.int .u64 e)) g ⟨a, b, c, d, e⟩ := by
  have h0 : w.heap[g]? = some (.cells (cellsV v) 55 (0, 0)) := h
  have h1 := heap_setCell_same _ g 0 _ _ (.int .i64 a) h0
  have h2 := heap_setCell_same _ g 1 _ _ (.int .i64 b) h1
  have h3 := heap_setCell_same _ g 2 _ _ (.int .i64 c) h2
  have h4 := heap_setCell_same _ g 3 _ _ (.int .i64 d) h3
  have h5 := heap_setCell_same _ g 4 _ _ (.int .u64 e) h4
  unfold VBox
  rw [h5]
  simp [cellsV]
theorem below_val5 {w W : World} {g : Nat} (h : Below w.heap.size w W) (hg : w.heap.size ≤ g) (a0 a1 a2 a3 a4 : Value) :
    Below w.heap.size w (((((W.setCell ⟨g, 0, none⟩ a0).setCell ⟨g, 1, none⟩ a1).setCell ⟨g, 2, none⟩ a2).setCell ⟨g, 3, none⟩ a3).setCell ⟨g, 4, none⟩ a4) :=
  ((((h.setCell (p := ⟨g, 0, none⟩) hg a0).setCell (p := ⟨g, 1, none⟩) hg a1).setCell (p := ⟨g, 2, none⟩) hg a2).setCell (p := ⟨g, 3, none⟩) hg a3).setCell (p := ⟨g, 4, none⟩) hg a4

set_option maxRecDepth 100000 in
set_option maxHeartbeats 1000000 in
theorem shape_any (o : Ob) (w : World) :
    Calls Tryd.prog 74 #[.agg (cellsO o)] w fun e w' => e = .returned (.agg (cellsV (shapeV o))) ∧ Below w.heap.size w w' := by
  obtain ⟨o1, o2, o3, o4, o5, o6, o7⟩ := o
  have HL : Hid (shapeV ⟨o1, o2, o3, o4, o5, o6, o7⟩ = if o1 = 1 then ⟨o1, o6, o4, o5, 0⟩ else if o6 = 6 then ⟨o1, o6, 0, o7, 0⟩ else ⟨o1, o6, o7, 0, 0⟩) := Lib.hid rfl
  obtain ⟨Z, hZ⟩ : ∃ Z, Z = shapeV ⟨o1, o2, o3, o4, o5, o6, o7⟩ := ⟨_, rfl⟩
  rw [← hZ] at HL ⊢
  unfold cellsO
  dsimp only
  clear hZ
  have HB : ∀ cs1 cs2 cs3 t1 t2 t3, Below w.heap.size w (((w.alloc (.cells cs1 t1)).alloc (.cells cs2 t2)).alloc (.cells cs3 t3)) := fun cs1 cs2 cs3 t1 t2 t3 => (((Below.refl _ _).alloc (Nat.le_refl _) _).alloc (by simp) _).alloc (by simp; omega) _
  by_cases h1 : o1 = 1
  · subst h1
    obtain rfl := HL.out.trans (if_pos rfl)
    go_enter Tryd.func74, Tryd.ntmps74
    go_upto_region 4 with fail
    go_region
    all_goals go_wp2_with fail
    all_goals
      refine bodyPost_ret (v := .agg (cellsV ⟨1, o6, o4, o5, 0⟩)) ?_ rfl ⟨rfl, by first | exact HB _ _ _ _ _ _ | exact (HB _ _ _ _ _ _).drew⟩
      simp [results, Tryd.f74, go_sem, cellsV]
  · have h11 : (o1 == 1) = false := by simp [h1]
    by_cases h6 : o6 = 6
    · subst h6
      obtain rfl := HL.out.trans (by rw [if_neg h1, if_pos rfl])
      go_enter Tryd.func74, Tryd.ntmps74
      go_wp2_with fail
      refine bodyPost_ret (v := .agg (cellsV ⟨o1, 6, 0, o7, 0⟩)) ?_ rfl ⟨rfl, by first | exact HB _ _ _ _ _ _ | exact (HB _ _ _ _ _ _).drew⟩
      simp [results, Tryd.f74, go_sem, cellsV]
    · have h61 : (o6 == 6) = false := by simp [h6]
      obtain rfl := HL.out.trans (by rw [if_neg h1, if_neg h6])
      go_enter Tryd.func74, Tryd.ntmps74
      go_wp2_with fail
      refine bodyPost_ret (v := .agg (cellsV ⟨o1, o6, o7, 0, 0⟩)) ?_ rfl ⟨rfl, by first | exact HB _ _ _ _ _ _ | exact (HB _ _ _ _ _ _).drew⟩
      simp [results, Tryd.f74, go_sem, cellsV]

end Go.Proofs.YtdfldfnjjjcleaaDoor

namespace Go.Proofs.YtdfldfnjjjcleaaDoor
open Go.RowKit Go.Deep

/-- a number and an error -/
def NumR (t : Int × Int) (w : World) (e : Ending) (w' : World) : Prop := e = .returned (.tuple #[.int .u64 t.1, .int .u16 t.2]) ∧ Below w.heap.size w w'

set_option maxRecDepth 100000 in
set_option maxHeartbeats 4000000 in
theorem number_any {K : World → Prop} {s : Value} {sr : Sr} (H : SrcOK K s sr) (o : Ob) (i : Int) (w : World) (hK : K w) (ho : GoodO sr.sz o) (hk : 0 ≤ i ∧ i ≤ 9223372036854775807) :
    Calls Tryd.prog 75 #[s, .agg (cellsO o), .int .i64 i] w (NumR (numW sr o i) w) := by
  have hbd := ho.bd H.good
  have hq := okq_bd ho.okq
  have hwd : wordsO o = wordN (ptrO o) := rfl
  have hgk : o.kind = 0 ∨ o.kind = 1 ∨ o.kind = 2 ∧ (o.size = 2 ∨ o.size = 5 ∨ o.size = 6) := by
    rcases ho with rfl | ⟨h | h, -, h2, -⟩
    · exact .inl rfl
    · exact .inr (.inl h)
    · refine .inr (.inr ⟨h, ?_⟩)
      unfold ptrO wordE at h2
      dsimp only at h2
      rw [h, if_neg (by decide), if_neg (by decide), if_pos rfl] at h2
      by_cases hx : o.size = 2 ∨ o.size = 5 ∨ o.size = 6
      · exact hx
      · rw [if_neg hx] at h2
        exact absurd h2 (by decide)
  obtain ⟨t, v, rfl⟩ := H.form
  have hB0 : Below w.heap.size w (w.alloc (.cells (cellsO o) 131)) := (Below.refl _ _).alloc (Nat.le_refl _) _
  have hb1 := OBox.new w o
  have HK1 := Lib.hid (H.on hK hB0)
  have HF := Lib.hid (fun g a X (hX : K X) (ha : In64 a) => fun (hg : In64 g) => H.word g a X hX hg ha)
  have HWb := Lib.hid (fun g a => (H.good.wd g a))
  obtain ⟨o1, o2, o3, o4, o5, o6, o7⟩ := o
  have HL : Hid (numW sr ⟨o1, o2, o3, o4, o5, o6, o7⟩ i = if o1 = 0 ∨ (o1 = 1 ∧ o4 ≤ i) then (0, 0) else if o1 = 1 then (sr.wd o2 (o3 + i), sr.we o2 (o3 + i)) else if o6 = 6 then (0, 23) else if o7 ≤ i then (0, 20) else if o6 = 5 then (sr.wd o2 (o3 + i), sr.we o2 (o3 + i)) else (sr.wd o2 (o3 + i / 8) / 2 ^ (8 * (i % 8).toNat) % 256, sr.we o2 (o3 + i / 8))) := Lib.hid rfl
  obtain ⟨Z, hZ⟩ : ∃ Z, Z = numW sr ⟨o1, o2, o3, o4, o5, o6, o7⟩ i := ⟨_, rfl⟩
  rw [← hZ] at HL ⊢
  unfold ptrO wordN at hwd
  unfold ptrO at hq
  dsimp only at hbd hq hwd hgk hb1
  rw [hwd] at hbd
  obtain ⟨q1, q2, q3, q4, -⟩ := hq
  obtain ⟨hg, ha0, ha1⟩ := hbd
  have HG := Lib.hid hg
  obtain ⟨W1, hW1⟩ : ∃ W1, W1 = w.alloc (.cells (cellsO ⟨o1, o2, o3, o4, o5, o6, o7⟩) 131) := ⟨_, rfl⟩
  rw [← hW1] at hb1 hB0 HK1
  have HB1 := Lib.hid hB0
  obtain ⟨y0, y1, y2, y3, y4, y5, y6⟩ := hb1.cells
  dsimp only at y0 y1 y2 y3 y4 y5 y6
  unfold cellsO at hW1
  dsimp only at hW1
  unfold cellsO
  dsimp only
  clear hZ hb1 hB0 hK H ho hwd hg
  by_cases h0 : o1 = 0
  · subst h0
    obtain rfl : Z = (0, 0) := HL.out.trans (if_pos (.inl rfl))
    clear ha1 q1 q2 q3 q4 HL
    go_enter Tryd.func75, Tryd.ntmps75
    go_upto_region 1 with fail
    rw [← hW1]
    clear hW1
    go_wp2_with fail
    go_ret2
    exact ⟨rfl, HB1.out⟩
  by_cases h1 : o1 = 1
  · subst h1
    rw [if_pos rfl] at ha1
    by_cases hp : o4 ≤ i
    · obtain rfl : Z = (0, 0) := HL.out.trans (if_pos (.inr ⟨rfl, hp⟩))
      clear ha1 q1 q2 q3 q4 HL
      go_enter Tryd.func75, Tryd.ntmps75
      go_upto_region 1 with fail
      rw [← hW1]
      clear hW1
      go_wp2_with fail
      go_ret2
      exact ⟨rfl, HB1.out⟩
    · obtain rfl : Z = (sr.wd o2 (o3 + i), sr.we o2 (o3 + i)) := HL.out.trans (by rw [if_neg (by omega), if_pos rfl])
      have hw1 : IntKind.i64.wrap (o3 + i) = o3 + i := IntWalk.i64_in _ (by omega)
      have HF4 := HF.out o2 (o3 + i) W1 HK1.out ⟨by omega, by omega⟩ HG.out
      generalize sr.wd o2 (o3 + i) = X at *
      generalize sr.we o2 (o3 + i) = E at *
      clear HL q1 q2 q3 q4 ha1
      go_enter Tryd.func75, Tryd.ntmps75
      go_upto_region 1 with fail
      rw [← hW1]
      clear hW1
      go_wp2_with fail
      refine HF4.mono ?_
      rintro e w2 ⟨rfl, hB2⟩
      have HB2 := Lib.hid (bseq' HB1.out hB2)
      clear hB2
      go_wp2_with fail
      go_ret2
      exact ⟨rfl, HB2.out⟩
  · have h2 : o1 = 2 ∧ (o6 = 2 ∨ o6 = 5 ∨ o6 = 6) := by omega
    obtain ⟨rfl, h6⟩ := h2
    rw [if_neg (by decide), if_pos rfl] at ha1
    by_cases h66 : o6 = 6
    · subst h66
      obtain rfl : Z = (0, 23) := HL.out.trans (by rw [if_neg (by omega), if_neg (by decide), if_pos rfl])
      clear ha1 q1 q2 q3 q4 HL h6
      go_enter Tryd.func75, Tryd.ntmps75
      go_upto_region 1 with fail
      rw [← hW1]
      clear hW1
      go_wp2_with fail
      go_ret2
      exact ⟨rfl, HB1.out⟩
    · have h61 : (o6 == 6) = false := by simp [h66]
      by_cases hp : o7 ≤ i
      · obtain rfl : Z = (0, 20) := HL.out.trans (by rw [if_neg (by omega), if_neg (by decide), if_neg h66, if_pos hp])
        clear ha1 q1 q2 q3 q4 HL h6
        go_enter Tryd.func75, Tryd.ntmps75
        go_upto_region 1 with fail
        rw [← hW1]
        clear hW1
        go_wp2_with fail
        go_ret2
        exact ⟨rfl, HB1.out⟩
      · by_cases h5 : o6 = 5
        · subst h5
          rw [if_neg (by decide), if_pos (.inl rfl)] at ha1
          obtain rfl : Z = (sr.wd o2 (o3 + i), sr.we o2 (o3 + i)) := HL.out.trans (by rw [if_neg (by omega), if_neg (by decide), if_neg h66, if_neg hp, if_pos rfl])
          have hw1 : IntKind.i64.wrap (o3 + i) = o3 + i := IntWalk.i64_in _ (by omega)
          have HF4 := HF.out o2 (o3 + i) W1 HK1.out ⟨by omega, by omega⟩ HG.out
          generalize sr.wd o2 (o3 + i) = X at *
          generalize sr.we o2 (o3 + i) = E at *
          clear HL q1 q2 q3 q4 ha1 h6
          go_enter Tryd.func75, Tryd.ntmps75
          go_upto_region 1 with fail
          rw [← hW1]
          clear hW1
          go_wp2_with fail
          refine HF4.mono ?_
          rintro e w2 ⟨rfl, hB2⟩
          have HB2 := Lib.hid (bseq' HB1.out hB2)
          clear hB2
          go_wp2_with fail
          go_ret2
          exact ⟨rfl, HB2.out⟩
        · obtain rfl : o6 = 2 := by omega
          rw [if_pos rfl] at ha1
          obtain rfl : Z = (sr.wd o2 (o3 + i / 8) / 2 ^ (8 * (i % 8).toNat) % 256, sr.we o2 (o3 + i / 8)) := HL.out.trans (by rw [if_neg (by omega), if_neg (by decide), if_neg h66, if_neg hp, if_neg h5])
          have hw1 : IntKind.i64.wrap (o3 + i / 8) = o3 + i / 8 := IntWalk.i64_in _ (by omega)
          have hw2 : IntKind.i64.wrap (i.tdiv 8) = i / 8 := IntWalk.i64_quo _ _ (by omega)
          have hw3 : IntKind.i64.wrap (i.tmod 8) = i % 8 := by rw [IntWalk.rem_in _ _ (by omega)]; exact IntWalk.i64_in _ (by omega)
          have HF4 := HF.out o2 (o3 + i / 8) W1 HK1.out ⟨by omega, by omega⟩ HG.out
          have HX := Lib.hid (HWb.out o2 (o3 + i / 8))
          generalize sr.wd o2 (o3 + i / 8) = X at *
          generalize sr.we o2 (o3 + i / 8) = E at *
          clear HL q1 q2 q3 q4 ha1 h6
          go_enter Tryd.func75, Tryd.ntmps75
          go_upto_region 1 with fail
          rw [← hW1]
          clear hW1
          go_wp2_with fail
          refine HF4.mono ?_
          rintro e w2 ⟨rfl, hB2⟩
          have HB2 := Lib.hid (bseq' HB1.out hB2)
          clear hB2
          go_wp2_with fail
          have he : (i % 8 * 8).toNat = 8 * (i % 8).toNat := by omega
          have hbt : bits BinOp.and IntKind.u64 (X / 2 ^ (i % 8 * 8).toNat) 255 = X / 2 ^ (8 * (i % 8).toNat) % 256 := by
            rw [he]
            obtain ⟨x0, x1⟩ := HX.out
            have hp2 : (0 : Int) < 2 ^ (8 * (i % 8).toNat) := Int.pow_pos (by decide)
            have hle := Int.ediv_le_self (2 ^ (8 * (i % 8).toNat)) x0
            exact and_lowC _ 255 256 (Int.ediv_nonneg x0 (Int.le_of_lt hp2)) (by omega) ⟨8, by decide, by decide, by decide⟩
          rw [hbt]
          go_ret2
          exact ⟨rfl, HB2.out⟩

end Go.Proofs.YtdfldfnjjjcleaaDoor

namespace Go.Proofs.YtdfldfnjjjcleaaDoor
open Go.RowKit Go.Deep

theorem OBox.other {w : World} {g b : Nat} {o : Ob} (h : OBox w g o) (hne : g ≠ b) (j : Nat) (v : Value) : OBox (w.setCell ⟨b, j, none⟩ v) g o := (blk_setCell_other _ _ _ _ hne).trans h
theorem goalO_err (s : Sr) (r : List Int) (c : Int) (o : Ob) (e : Int) (h : e ≠ 0) : goalO s r c (o, e) = (Ob.zero, e) := by
  cases r <;> (unfold goalO; rw [if_pos h])
theorem goalO_cost (s : Sr) (r : List Int) (c : Int) (o : Ob) (h : c < 1 + wordsO o) : goalO s r c (o, 0) = (Ob.zero, 22) := by
  cases r <;> (unfold goalO; rw [if_neg (by simp), if_pos h])
theorem goalO_end (s : Sr) (c : Int) (o : Ob) (h : ¬ c < 1 + wordsO o) : goalO s [] c (o, 0) = (o, 0) := by
  unfold goalO; rw [if_neg (by simp), if_neg h]
theorem goalO_next (s : Sr) (k : Int) (r : List Int) (c : Int) (o : Ob) (h : ¬ c < 1 + wordsO o) : goalO s (k :: r) c (o, 0) = goalO s r (c - (1 + wordsO o)) (nextO s o k) := by
  rw [goalO, if_neg (by simp), if_neg h]
def lenS9 : Value → Nat
  | .slice _ n _ => n
  | _ => 0
/-- the rest of a row of numbers -/
theorem NumS.rest {q : IntKind} {w : World} {B : Nat} {v : Value} {k : Int} {r : List Int} (h : NumS q w B v (k :: r)) :
    ∃ b off c, v = .slice (some ⟨b, off, none⟩) (r.length + 1) (c + 1) ∧ r.length ≤ c ∧ c < 9223372036854775807 ∧ b < B ∧ w.cell? ⟨b, off, none⟩ = some (.int q k) ∧ NumS q w B (.slice (if c = 0 then some ⟨b, off, none⟩ else some ⟨b, off + 1, none⟩) r.length c) r := by
  obtain ⟨A, c, rfl, hc, hm, hr⟩ := h
  obtain ⟨b, off, rfl, hb, hcell⟩ := hr (by simp)
  rw [List.length_cons] at hc
  obtain ⟨d, rfl⟩ : ∃ d, c = d + 1 := ⟨c - 1, by omega⟩
  refine ⟨b, off, d, by rw [List.length_cons], by omega, by omega, hb, ?_, _, d, rfl, by omega, by omega, fun hl => ⟨b, off + 1, if_neg (by omega), hb, fun j hj => ?_⟩⟩
  · have := hcell 0 (by simp)
    simpa using this
  · have := hcell (j + 1) (by simpa using hj)
    rw [show off + 1 + j = off + (j + 1) by omega]
    simpa using this

set_option maxRecDepth 100000 in
set_option maxHeartbeats 4000000 in
theorem goal_any {K : World → Prop} {s : Value} {sr : Sr} (H : SrcOK K s sr) (w0 w : World) (pb : Nat) (c : Int) (sv : Value) (ks : List Int) (hK : K w0) (hB : Below w0.heap.size w0 w) (hpb : w0.heap.size ≤ pb) (hp : Bx w pb 135 (.int .i64 c)) (hc : In64 c) (hs : NumS .i64 w0 w0.heap.size sv ks) (hk : ∀ k ∈ ks, 0 ≤ k ∧ k ≤ 9223372036854775807) :
    Calls Tryd.prog 72 #[s, sv, .func (.func 73) #[.pointer (some ⟨pb, 0, none⟩)] #[]] w fun e w' => e = .returned (.tuple #[.agg (cellsO (goalO sr ks c (followO sr 0 0)).1), .int .u16 (goalO sr ks c (followO sr 0 0)).2]) ∧ Below w0.heap.size w0 w' := by
  have HF := Lib.hid (fun X (hX : K X) => follow_any H 0 0 X hX ⟨by decide, by decide⟩ ⟨by decide, by decide⟩)
  have HGf := Lib.hid (follow_good H.good 0 0)
  have HGn := Lib.hid (fun o k => next_good H.good o k)
  have HN := Lib.hid (fun o k X (hX : K X) (ho : GoodO sr.sz o) (hk : 0 ≤ k ∧ k ≤ 9223372036854775807) => next_any H o k X hX ho hk)
  have HPay := Lib.hid (fun (o : Ob) (c : Int) (X : World) (ho : OkQ (ptrO o)) (hp : Bx X pb 135 (.int .i64 c)) (hc : In64 c) => pay_any o pb c X ho hp hc)
  have HK := Lib.hid (fun X (hX : Below w0.heap.size w0 X) => H.on hK hX)
  obtain ⟨t, v, rfl⟩ := H.form
  obtain ⟨S, hS⟩ : ∃ S, S = followO sr 0 0 := ⟨_, rfl⟩
  rw [← hS] at HF HGf ⊢
  obtain ⟨T, hT⟩ : ∃ T, T = goalO sr ks c S := ⟨_, rfl⟩
  rw [← hT]
  have HS := Lib.hid hs
  obtain ⟨A0, c0, hsv, -⟩ := hs
  have HT := Lib.hid hT
  have HKs := Lib.hid hk
  have HC := Lib.hid hc
  have HPb := Lib.hid (And.intro hpb hp.lt)
  have hB1 : Below w.heap.size w (w.alloc (.cells (cellsO Ob.zero) 131)) := (Below.refl _ _).alloc (Nat.le_refl _) _
  have HO1 := Lib.hid (OBox.new w Ob.zero)
  have HP1 := Lib.hid (hp.on hB1)
  have HB1 := Lib.hid (hB.trans (hB1.mono hB.size))
  have HSz := Lib.hid hB.size
  obtain ⟨W1, hW1⟩ : ∃ W1, W1 = w.alloc (.cells (cellsO Ob.zero) 131) := ⟨_, rfl⟩
  rw [← hW1] at HO1 HP1 HB1
  unfold cellsO Ob.zero at hW1
  dsimp only at hW1
  subst hsv
  clear hK hB hpb hp hc hk hS hT hB1 H
  go_enter Tryd.func72, Tryd.ntmps72
  go_upto_region 1 with fail
  rw [← hW1]
  clear hW1
  go_step3
  go_wp2_with fail
  refine (HF.out W1 (HK.out W1 HB1.out)).mono ?_
  obtain ⟨⟨s1, s2, s3, s4, s5, s6, s7⟩, D⟩ := S
  rintro e w2 ⟨rfl, hB2⟩
  unfold cellsO
  dsimp only
  have HO2 := Lib.hid (HO1.out.on hB2)
  have HP2 := Lib.hid (HP1.out.on hB2)
  have HB2 := Lib.hid (HB1.out.trans (hB2.mono HB1.out.size))
  have hB3 : Below w2.heap.size w2 (w2.alloc (.cells (cellsO ⟨s1, s2, s3, s4, s5, s6, s7⟩) 131)) := (Below.refl _ _).alloc (Nat.le_refl _) _
  have HO3 := Lib.hid (HO2.out.on hB3)
  have HP3 := Lib.hid (HP2.out.on hB3)
  have HB3 := Lib.hid (HB2.out.trans (hB3.mono HB2.out.size))
  have HQ3 := Lib.hid (OBox.new w2 ⟨s1, s2, s3, s4, s5, s6, s7⟩)
  obtain ⟨W3, hW3⟩ : ∃ W3, W3 = w2.alloc (.cells (cellsO ⟨s1, s2, s3, s4, s5, s6, s7⟩) 131) := ⟨_, rfl⟩
  rw [← hW3] at HO3 HP3 HB3 HQ3
  unfold cellsO at hW3
  dsimp only at hW3
  have HNe : Hid (w.heap.size ≠ w2.heap.size ∧ pb ≠ w2.heap.size ∧ w0.heap.size ≤ w2.heap.size) := Lib.hid ⟨by have := HO2.out.lt; omega, by have := HP2.out.lt; omega, HB2.out.size⟩
  clear hB3 hB2
  go_wp2_with fail
  rw [← hW3]
  clear hW3
  go_step3
  go_wp2_with fail
  obtain ⟨bo, hbo⟩ : ∃ bo, bo = w2.heap.size := ⟨_, rfl⟩
  rw [← hbo] at HNe HQ3 ⊢
  clear hbo
  go_loopw [1, 9] (fun x y wr => ∃ (r : List Int) (c' : Int) (o : Ob) (e : Int), NumS .i64 w0 w0.heap.size x r ∧ y = .int .u16 e ∧ OBox wr bo o ∧ OBox wr w.heap.size Ob.zero ∧ Bx wr pb 135 (.int .i64 c') ∧ In64 c' ∧ T = goalO sr r c' (o, e) ∧ GoodO sr.sz o ∧ (∀ k ∈ r, 0 ≤ k ∧ k ≤ 9223372036854775807) ∧ Below w0.heap.size w0 wr) (fun x _ _ => lenS9 x)
  case atStart => exact ⟨ks, c, _, D, HS.out, rfl, HQ3.out, HO3.out, HP3.out, HC.out, HT.out, HGf.out, HKs.out, HB3.out⟩
  case round =>
    obtain ⟨r, c', o, e, hs, rfl, hQ, hO, hP, hc, hT, hG, hr, hB⟩ := hrel
    generalize wr = w4 at *
    have HQ4 := Lib.hid hQ
    have HO4 := Lib.hid hO
    have HP4 := Lib.hid hP
    have HB4 := Lib.hid hB
    have HT4 := Lib.hid hT
    have HG4 := Lib.hid hG
    have HC4 := Lib.hid hc
    have HR4 := Lib.hid hr
    have HS4 := Lib.hid hs
    clear hQ hO hP hB hT hG hc hr HQ3 HO3 HP3 HB3 HC HT HGf HKs HS
    by_cases he : e = 0
    · subst he
      obtain ⟨y0, y1, y2, y3, y4, y5, y6⟩ := HQ4.out.cells
      obtain ⟨o1, o2, o3, o4, o5, o6, o7⟩ := o
      dsimp only at y0 y1 y2 y3 y4 y5 y6
      have HPay4 := Lib.hid (HPay.out _ c' w4 HG4.out.okq HP4.out HC4.out)
      have hwd := wordN_bd HG4.out.okq
      have HWd : Hid (0 ≤ wordsO ⟨o1, o2, o3, o4, o5, o6, o7⟩ ∧ wordsO ⟨o1, o2, o3, o4, o5, o6, o7⟩ ≤ 536870911) := Lib.hid hwd
      unfold cellsO at HPay4
      dsimp only at HPay4
      clear hwd
      cases r with
      | nil =>
        obtain ⟨A, q, rfl⟩ := hs.form rfl
        go_wp2_with fail
        refine HPay4.out.mono ?_
        rintro e w5 ⟨w6, hB6, ⟨hle, rfl, rfl⟩ | ⟨hlt, rfl, rfl⟩⟩
        · have HQ6 := Lib.hid ((HQ4.out.on hB6).other HNe.out.2.1.symm 0 (.int .i64 (c' - (1 + wordsO ⟨o1, o2, o3, o4, o5, o6, o7⟩))))
          have HO6 := Lib.hid ((HO4.out.on hB6).other (show w.heap.size ≠ pb by have := HPb.out; omega) 0 (.int .i64 (c' - (1 + wordsO ⟨o1, o2, o3, o4, o5, o6, o7⟩))))
          have HB6 := Lib.hid ((HB4.out.trans (hB6.mono HB4.out.size)).setCell (p := ⟨pb, 0, none⟩) HPb.out.1 (.int .i64 (c' - (1 + wordsO ⟨o1, o2, o3, o4, o5, o6, o7⟩))))
          obtain rfl := HT4.out.trans (goalO_end sr c' _ (by omega))
          clear y0 y1 y2 y3 y4 y5 y6 hB6 HT4
          generalize w6.setCell _ _ = W7 at *
          obtain ⟨y0, y1, y2, y3, y4, y5, y6⟩ := HQ6.out.cells
          dsimp only at y0 y1 y2 y3 y4 y5 y6
          obtain ⟨x0, x1, x2, x3, x4, x5, x6⟩ := HO6.out.cells
          obtain ⟨f0, f1, f2, f3, f4, f5, f6⟩ := HO6.out.frozens
          unfold Ob.zero at x0 x1 x2 x3 x4 x5 x6
          dsimp only at x0 x1 x2 x3 x4 x5 x6
          have HX := Lib.hid (HO6.out.set7 o1 o2 o3 o4 o5 o6 o7)
          have HBX := Lib.hid (below_set7 (g := w.heap.size) HB6.out HSz.out (.int .i64 o1) (.int .i64 o2) (.int .i64 o3) (.int .i64 o4) (.int .i64 o5) (.int .i64 o6) (.int .i64 o7))
          go_wp2_with fail
          rw [Exit.noGoto_ret]
          clear x0 x1 x2 x3 x4 x5 x6
          obtain ⟨x0, x1, x2, x3, x4, x5, x6⟩ := HX.out.cells
          dsimp only at x0 x1 x2 x3 x4 x5 x6
          refine bodyPost_ret (v := .tuple #[.agg (cellsO ⟨o1, o2, o3, o4, o5, o6, o7⟩), .int .u16 0]) ?_ rfl ⟨rfl, HBX.out⟩
          simp [results, Tryd.f72, go_sem, cellsO, x0, x1, x2, x3, x4, x5, x6]
        · have HO6 := Lib.hid (HO4.out.on hB6)
          have HB6 := Lib.hid (HB4.out.trans (hB6.mono HB4.out.size))
          obtain rfl := HT4.out.trans (goalO_cost sr [] c' _ hlt)
          clear y0 y1 y2 y3 y4 y5 y6 hB6 HT4
          obtain ⟨x0, x1, x2, x3, x4, x5, x6⟩ := HO6.out.cells
          obtain ⟨f0, f1, f2, f3, f4, f5, f6⟩ := HO6.out.frozens
          unfold Ob.zero at x0 x1 x2 x3 x4 x5 x6
          dsimp only at x0 x1 x2 x3 x4 x5 x6
          have HX := Lib.hid (HO6.out.set7 0 0 0 0 0 0 0)
          have HBX := Lib.hid (below_set7 (g := w.heap.size) HB6.out HSz.out (.int .i64 0) (.int .i64 0) (.int .i64 0) (.int .i64 0) (.int .i64 0) (.int .i64 0) (.int .i64 0))
          go_wp2_with fail
          rw [Exit.noGoto_ret]
          clear x0 x1 x2 x3 x4 x5 x6
          obtain ⟨x0, x1, x2, x3, x4, x5, x6⟩ := HX.out.cells
          dsimp only at x0 x1 x2 x3 x4 x5 x6
          refine bodyPost_ret (v := .tuple #[.agg (cellsO Ob.zero), .int .u16 22]) ?_ rfl ⟨rfl, HBX.out⟩
          simp [results, Tryd.f72, go_sem, cellsO, Ob.zero, x0, x1, x2, x3, x4, x5, x6]
      | cons k r =>
        obtain ⟨b, off, q, rfl, hq1, hq2, hbl, hcell, hrest⟩ := hs.rest
        have HCell := Lib.hid hcell
        have HRest := Lib.hid hrest
        have HBl := Lib.hid hbl
        have hk0 := HR4.out k List.mem_cons_self
        have HK0 := Lib.hid hk0
        have hrl : ((r.length : Int) + 1) > 0 := by omega
        clear hcell hrest hbl hs hk0
        go_wp2_with fail
        refine HPay4.out.mono ?_
        rintro e w5 ⟨w6, hB6, ⟨hle, rfl, rfl⟩ | ⟨hlt, rfl, rfl⟩⟩
        · have HQ6 := Lib.hid ((HQ4.out.on hB6).other HNe.out.2.1.symm 0 (.int .i64 (c' - (1 + wordsO ⟨o1, o2, o3, o4, o5, o6, o7⟩))))
          have HO6 := Lib.hid ((HO4.out.on hB6).other (show w.heap.size ≠ pb by have := HPb.out; omega) 0 (.int .i64 (c' - (1 + wordsO ⟨o1, o2, o3, o4, o5, o6, o7⟩))))
          have HP6 := Lib.hid ((HP4.out.on hB6).set (.int .i64 (c' - (1 + wordsO ⟨o1, o2, o3, o4, o5, o6, o7⟩))))
          have HB6 := Lib.hid ((HB4.out.trans (hB6.mono HB4.out.size)).setCell (p := ⟨pb, 0, none⟩) HPb.out.1 (.int .i64 (c' - (1 + wordsO ⟨o1, o2, o3, o4, o5, o6, o7⟩))))
          have HT6 := Lib.hid (HT4.out.trans (goalO_next sr k r c' _ (by omega)))
          have HC6 : Hid (In64 (c' - (1 + wordsO ⟨o1, o2, o3, o4, o5, o6, o7⟩))) := Lib.hid (by have h1 := HC4.out; have h2 := HWd.out; unfold In64 at h1 ⊢; omega)
          clear y0 y1 y2 y3 y4 y5 y6 hB6 HT4 HPay4
          generalize w6.setCell _ _ = W7 at *
          generalize c' - (1 + wordsO ⟨o1, o2, o3, o4, o5, o6, o7⟩) = c2 at *
          have hcl : W7.cell? ⟨b, off, none⟩ = some (.int .i64 k) := (HB6.out.cell (p := ⟨b, off, none⟩) HBl.out).trans HCell.out
          obtain ⟨y0, y1, y2, y3, y4, y5, y6⟩ := HQ6.out.cells
          dsimp only at y0 y1 y2 y3 y4 y5 y6
          have HN7 := Lib.hid (HN.out ⟨o1, o2, o3, o4, o5, o6, o7⟩ k W7.drew (HK.out _ HB6.out.drew) HG4.out HK0.out)
          have HGx := Lib.hid (HGn.out ⟨o1, o2, o3, o4, o5, o6, o7⟩ k)
          generalize nextO sr ⟨o1, o2, o3, o4, o5, o6, o7⟩ k = X at *
          obtain ⟨⟨u1, u2, u3, u4, u5, u6, u7⟩, E⟩ := X
          unfold cellsO at HN7
          dsimp only at HN7
          have HQ7 : Hid (∀ Y, Below W7.drew.heap.size W7.drew Y → OBox Y bo ⟨o1, o2, o3, o4, o5, o6, o7⟩) := Lib.hid (fun Y hY => OBox.on (w := W7.drew) HQ6.out hY)
          clear HQ4 HO4 HP4 HB4 HPay HN
          unfold ObR at HN7
          go_upto_region 7 with fail
          go_cut [9] (fun y wx => y = .int .u16 E ∧ ∃ Y, Below W7.drew.heap.size W7.drew Y ∧ wx = (((((((Y.setCell ⟨bo, 0, none⟩ (.int .i64 u1)).setCell ⟨bo, 1, none⟩ (.int .i64 u2)).setCell ⟨bo, 2, none⟩ (.int .i64 u3)).setCell ⟨bo, 3, none⟩ (.int .i64 u4)).setCell ⟨bo, 4, none⟩ (.int .i64 u5)).setCell ⟨bo, 5, none⟩ (.int .i64 u6)).setCell ⟨bo, 6, none⟩ (.int .i64 u7)))
          case first =>
            go_region_law (first | (go_simp; go_at_call 95; refine HN7.out.mono ?_; intro e w8 hR; obtain ⟨hR1, hB8⟩ := hR; subst hR1; have hq8 := HQ7.out w8 hB8; obtain ⟨x0, x1, x2, x3, x4, x5, x6⟩ := hq8.cells; obtain ⟨f0, f1, f2, f3, f4, f5, f6⟩ := hq8.frozens; dsimp only at x0 x1 x2 x3 x4 x5 x6; unfold cellsO; dsimp only))
            all_goals go_wp2_with fail
            all_goals go_meet
            all_goals exact ⟨rfl, _, hB8, rfl⟩
          case rest =>
            obtain ⟨rfl, Y, hY, hwc⟩ := hcut
            have hO9 := OBox.on (w := W7.drew) HO6.out hY
            have hP9 := Bx.on (w := W7.drew) HP6.out hY
            have hne1 : w.heap.size ≠ bo := HNe.out.1
            have hne2 : pb ≠ bo := HNe.out.2.1
            have HQ9 := Lib.hid ((HQ7.out _ hY).set7 u1 u2 u3 u4 u5 u6 u7)
            have HO9 := Lib.hid (((((((hO9.other hne1 0 (.int .i64 u1)).other hne1 1 (.int .i64 u2)).other hne1 2 (.int .i64 u3)).other hne1 3 (.int .i64 u4)).other hne1 4 (.int .i64 u5)).other hne1 5 (.int .i64 u6)).other hne1 6 (.int .i64 u7))
            have HP9 := Lib.hid (((((((hP9.other hne2 0 (.int .i64 u1)).other hne2 1 (.int .i64 u2)).other hne2 2 (.int .i64 u3)).other hne2 3 (.int .i64 u4)).other hne2 4 (.int .i64 u5)).other hne2 5 (.int .i64 u6)).other hne2 6 (.int .i64 u7))
            have HB9 := Lib.hid (below_set7 (g := bo) (HB6.out.drew.trans (hY.mono HB6.out.drew.size)) HNe.out.2.2 (.int .i64 u1) (.int .i64 u2) (.int .i64 u3) (.int .i64 u4) (.int .i64 u5) (.int .i64 u6) (.int .i64 u7))
            rw [← hwc] at HQ9 HO9 HP9 HB9
            clear hO9 hP9 hne1 hne2 hY hwc y0 y1 y2 y3 y4 y5 y6 hcl HQ7 HN7 HO6 HP6 HQ6
            go_wp2_with fail
            go_roundw
            case rel => exact ⟨r, c2, _, E, HRest.out, rfl, HQ9.out, HO9.out, HP9.out, HC6.out, HT6.out, HGx.out, fun k' hk' => HR4.out k' (List.mem_cons_of_mem _ hk'), HB9.out⟩
            case measure => simp [lenS9]
        · have HO6 := Lib.hid (HO4.out.on hB6)
          have HB6 := Lib.hid (HB4.out.trans (hB6.mono HB4.out.size))
          obtain rfl := HT4.out.trans (goalO_cost sr (k :: r) c' _ hlt)
          clear y0 y1 y2 y3 y4 y5 y6 hB6 HT4
          obtain ⟨x0, x1, x2, x3, x4, x5, x6⟩ := HO6.out.cells
          obtain ⟨f0, f1, f2, f3, f4, f5, f6⟩ := HO6.out.frozens
          unfold Ob.zero at x0 x1 x2 x3 x4 x5 x6
          dsimp only at x0 x1 x2 x3 x4 x5 x6
          have HX := Lib.hid (HO6.out.set7 0 0 0 0 0 0 0)
          have HBX := Lib.hid (below_set7 (g := w.heap.size) HB6.out HSz.out (.int .i64 0) (.int .i64 0) (.int .i64 0) (.int .i64 0) (.int .i64 0) (.int .i64 0) (.int .i64 0))
          go_wp2_with fail
          rw [Exit.noGoto_ret]
          clear x0 x1 x2 x3 x4 x5 x6
          obtain ⟨x0, x1, x2, x3, x4, x5, x6⟩ := HX.out.cells
          dsimp only at x0 x1 x2 x3 x4 x5 x6
          refine bodyPost_ret (v := .tuple #[.agg (cellsO Ob.zero), .int .u16 22]) ?_ rfl ⟨rfl, HBX.out⟩
          simp [results, Tryd.f72, go_sem, cellsO, Ob.zero, x0, x1, x2, x3, x4, x5, x6]
    · have he1 : (e != 0) = true := by simp [he]
      obtain rfl := HT4.out.trans (goalO_err sr r c' o e he)
      obtain ⟨A, q, rfl⟩ := hs.form rfl
      obtain ⟨x0, x1, x2, x3, x4, x5, x6⟩ := HO4.out.cells
      obtain ⟨f0, f1, f2, f3, f4, f5, f6⟩ := HO4.out.frozens
      unfold Ob.zero at x0 x1 x2 x3 x4 x5 x6
      dsimp only at x0 x1 x2 x3 x4 x5 x6
      have HX := Lib.hid (HO4.out.set7 0 0 0 0 0 0 0)
      have HBX := Lib.hid (below_set7 (g := w.heap.size) HB4.out HSz.out (.int .i64 0) (.int .i64 0) (.int .i64 0) (.int .i64 0) (.int .i64 0) (.int .i64 0) (.int .i64 0))
      go_wp2_with fail
      rw [Exit.noGoto_ret]
      clear x0 x1 x2 x3 x4 x5 x6
      obtain ⟨x0, x1, x2, x3, x4, x5, x6⟩ := HX.out.cells
      dsimp only at x0 x1 x2 x3 x4 x5 x6
      refine bodyPost_ret (v := .tuple #[.agg (cellsO Ob.zero), .int .u16 e]) ?_ rfl ⟨rfl, HBX.out⟩
      simp [results, Tryd.f72, go_sem, cellsO, Ob.zero, x0, x1, x2, x3, x4, x5, x6]

end Go.Proofs.YtdfldfnjjjcleaaDoor

namespace Go.Proofs.YtdfldfnjjjcleaaDoor
open Go.RowKit Go.Deep

theorem neg_any (k : Int) (w : World) : Calls Tryd.prog 71 #[.int .i64 k] w fun e w' => e = .returned (.bool (decide (k < 0))) ∧ w = w' := by
  go_enter Tryd.func71, Tryd.ntmps71
  go_wp2_with fail
  go_ret
  exact ⟨rfl, rfl⟩

set_option maxRecDepth 100000 in
set_option maxHeartbeats 1000000 in
theorem idx_any (v : Value) (l : List Int) (B : Nat) (w : World) (h : NumS .i64 w B v l) :
    Calls Tryd.prog 76 #[v, .func (.func 71) #[] #[]] w fun e w' => (∃ x : Int, e = .returned (.int .i64 x) ∧ decide (x ≥ 0) = negs l) ∧ w = w' := by
  obtain ⟨A, c, rfl, hc, hm, hr⟩ := h
  obtain ⟨len, hn⟩ : ∃ n, n = l.length := ⟨_, rfl⟩
  rw [← hn] at hc ⊢
  have H := Lib.hid hr
  have HN := Lib.hid hn
  clear hr hn
  go_enter Tryd.func76, Tryd.ntmps76
  go_wp2_with fail
  go_loopw [8] (fun i wr => ∃ t : Nat, t ≤ len ∧ i = .int .i64 t ∧ (∀ k ∈ l.take t, ¬ k < 0) ∧ w = wr) (fun i _ => len - (intOf i).toNat)
  case atStart => exact ⟨0, by omega, rfl, by simp, rfl⟩
  case round =>
    obtain ⟨t, ht, rfl, hall, rfl⟩ := hrel
    have HAll := Lib.hid hall
    clear hall
    by_cases hlt : t < len
    · obtain ⟨b, off, rfl, _, hcell⟩ := H.out (by rw [← HN.out]; omega)
      have p1 := hcell t (by rw [← HN.out]; omega)
      have HT : Hid (l.take (t + 1) = l.take t ++ [l[t]?.getD 0]) := Lib.hid (by rw [List.take_add_one, List.getElem?_eq_getElem (by rw [← HN.out]; exact hlt)]; rfl)
      have HM : Hid (l[t]?.getD 0 ∈ l) := Lib.hid (by rw [List.getElem?_eq_getElem (by rw [← HN.out]; exact hlt)]; exact List.getElem_mem _)
      obtain ⟨y, hy⟩ : ∃ y, l[t]?.getD 0 = y := ⟨_, rfl⟩
      rw [hy] at p1 HT HM
      clear hcell hy
      have i1 : (t : Int) < (len : Int) := by omega
      by_cases hy : y < 0
      · have hy1 : decide (y < 0) = true := decide_eq_true hy
        go_wp2_with fail
        refine (neg_any y w).mono ?_
        rintro e w' ⟨rfl, rfl⟩
        rw [hy1]
        go_wp2_with fail
        go_ret
        exact ⟨⟨_, rfl, by rw [decide_eq_true (by omega)]; exact (List.any_eq_true.2 ⟨y, HM.out, hy1⟩).symm⟩, rfl⟩
      · have hy1 : decide (y < 0) = false := decide_eq_false hy
        go_wp2_with fail
        refine (neg_any y w).mono ?_
        rintro e w' ⟨rfl, rfl⟩
        rw [hy1]
        go_wp2_with fail
        go_roundw
        case rel =>
          refine ⟨t + 1, by omega, by go_num, fun k hk => ?_, trivial⟩
          rw [HT.out, List.mem_append, List.mem_singleton] at hk
          rcases hk with hk | rfl
          · have := HAll.out k hk; omega
          · omega
        case measure => simp [intOf]; omega
    · obtain rfl : t = len := by omega
      go_wp2_with fail
      go_ret
      refine ⟨⟨_, rfl, ?_⟩, rfl⟩
      have hall := HAll.out
      rw [HN.out, List.take_length] at hall
      have hf : negs l = false := by
        unfold negs
        rw [List.any_eq_false]
        intro k hk
        simpa using hall k hk
      rw [hf]
      decide

set_option maxRecDepth 100000 in
theorem contains_any (v : Value) (l : List Int) (B : Nat) (w : World) (h : NumS .i64 w B v l) :
    Calls Tryd.prog 43 #[v, .func (.func 71) #[] #[]] w fun e w' => e = .returned (.bool (negs l)) ∧ w = w' := by
  have HI := Lib.hid (idx_any v l B w h)
  obtain ⟨A, c, rfl, -⟩ := h
  generalize l.length = n at *
  go_enter Tryd.func43, Tryd.ntmps43
  go_wp2_with fail
  refine HI.out.mono ?_
  rintro e w' ⟨⟨x, rfl, hx⟩, rfl⟩
  have HX := Lib.hid hx
  clear hx
  go_wp2_with fail
  go_ret
  exact ⟨by rw [← HX.out]; rfl, rfl⟩

/-- a value that is handed back -/
def VaR (t : Va × Int) (w : World) (e : Ending) (w' : World) : Prop := e = .returned (.tuple #[.agg (cellsV t.1), .int .u16 t.2]) ∧ Below w.heap.size w w'
/-- the box of a path -/
def PaBox (w : World) (g : Nat) (v : Value) (i : Int) : Prop := w.heap[g]? = some (.cells #[v, .int .i64 i] 33 (0, 0))
theorem PaBox.lt {w : World} {g : Nat} {v : Value} {i : Int} (h : PaBox w g v i) : g < w.heap.size := (Array.getElem?_eq_some_iff.1 h).1
theorem PaBox.on {w w' : World} {g : Nat} {v : Value} {i : Int} (h : PaBox w g v i) {B : Nat} (hB : Below B w w') (hg : g < B) : PaBox w' g v i := (hB.block g hg).trans h
theorem PaBox.cells {w : World} {g : Nat} {v : Value} {i : Int} (h : PaBox w g v i) : w.cell? ⟨g, 0, none⟩ = some v ∧ w.cell? ⟨g, 1, none⟩ = some (.int .i64 i) := by
  unfold PaBox at h
  simp [World.cell?, h]
theorem VBox.onB {w w' : World} {g : Nat} {v : Va} (h : VBox w g v) {B : Nat} (hB : Below B w w') (hg : g < B) : VBox w' g v := (hB.block g hg).trans h
theorem new_walk (w : World) (v : Value) (i : Int) : PaBox ((w.alloc (.cells #[v, .int .i64 i] 33)).alloc (.cells (cellsV Va.zero) 55)) w.heap.size v i ∧ VBox ((w.alloc (.cells #[v, .int .i64 i] 33)).alloc (.cells (cellsV Va.zero) 55)) (w.heap.size + 1) Va.zero ∧ Below w.heap.size w ((w.alloc (.cells #[v, .int .i64 i] 33)).alloc (.cells (cellsV Va.zero) 55)) := by
  obtain ⟨e1, e2, -⟩ := two_new w #[v, .int .i64 i] (cellsV Va.zero) 33 55
  exact ⟨e1, e2, ((Below.refl _ _).alloc (Nat.le_refl _) _).alloc (by simp) _⟩

set_option maxRecDepth 100000 in
set_option maxHeartbeats 4000000 in
theorem walk_any {K : World → Prop} {s : Value} {sr : Sr} (H : SrcOK K s sr) (w : World) (sv : Value) (ks : List Int) (i c : Int) (hK : K w) (hs : NumS .i64 w w.heap.size sv ks) (h64 : All64 ks) (hi : In64 i) (hc : In64 c) :
    Calls Tryd.prog 42 #[s, .agg #[sv, .int .i64 i], .int .i64 c] w (VaR (walkV sr ks i c) w) := by
  obtain ⟨hb1, hb2, hB0⟩ := new_walk w sv i
  have HS := Lib.hid (fun X (hX : Below w.heap.size w X) => hs.on hX)
  have HKx := Lib.hid (fun X (hX : Below w.heap.size w X) => H.on hK hX)
  have HC := Lib.hid (fun X (hX : Below w.heap.size w X) => contains_any sv ks _ X (hs.on hX))
  have HGo := Lib.hid (fun w0 w pb (hK : K w0) (hB : Below w0.heap.size w0 w) (hpb : w0.heap.size ≤ pb) (hp : Bx w pb 135 (.int .i64 c)) (hs : NumS .i64 w0 w0.heap.size sv ks) (hk : ∀ k ∈ ks, 0 ≤ k ∧ k ≤ 9223372036854775807) => goal_any H w0 w pb c sv ks hK hB hpb hp hc hs hk)
  have HNum := Lib.hid (fun (o : Ob) (X : World) (hX : K X) (ho : GoodO sr.sz o) (hk : 0 ≤ i ∧ i ≤ 9223372036854775807) => number_any H o i X hX ho hk)
  have HGg : Hid (∀ (r : List Int) (c' : Int) (t : Ob × Int), GoodO sr.sz t.1 → GoodO sr.sz (goalO sr r c' t).1) := Lib.hid (fun r => by
    induction r with
    | nil => intro c' t ht; unfold goalO; (repeat' split); all_goals first | exact .inl rfl | exact ht
    | cons k r ih => intro c' t ht; rw [goalO]; (repeat' split); all_goals first | exact .inl rfl | exact ih _ _ (next_good H.good _ _))
  have HFg := Lib.hid (follow_good H.good 0 0)
  have HL : Hid (walkV sr ks i c = if negs ks = true then (Va.zero, 1) else if 32 < ks.length then (Va.zero, 3) else if (goalO sr ks c (followO sr 0 0)).2 ≠ 0 then (Va.zero, (goalO sr ks c (followO sr 0 0)).2) else endV sr (goalO sr ks c (followO sr 0 0)).1 i) := Lib.hid rfl
  obtain ⟨Z, hZ⟩ : ∃ Z, Z = walkV sr ks i c := ⟨_, rfl⟩
  rw [← hZ] at HL ⊢
  have HGx := Lib.hid (HGg.out ks c _ HFg.out)
  obtain ⟨T, hT⟩ : ∃ T, T = goalO sr ks c (followO sr 0 0) := ⟨_, rfl⟩
  rw [← hT] at HL HGo HGx
  obtain ⟨t, v, rfl⟩ := H.form
  obtain ⟨A, q, rfl⟩ := hs.form rfl
  obtain ⟨W1, hW1⟩ : ∃ W1, W1 = (w.alloc (.cells #[.slice A ks.length q, .int .i64 i] 33)).alloc (.cells (cellsV Va.zero) 55) := ⟨_, rfl⟩
  rw [← hW1] at hb1 hb2 hB0
  have HP1 := Lib.hid hb1
  have HV1 := Lib.hid hb2
  have HB1 := Lib.hid hB0
  have HLt : Hid (w.heap.size + 1 < W1.heap.size) := Lib.hid hb2.lt
  unfold cellsV Va.zero at hW1
  dsimp only at hW1
  have HPos : Hid (negs ks = false → ∀ k ∈ ks, 0 ≤ k ∧ k ≤ 9223372036854775807) := Lib.hid (fun h k hk => by
    unfold negs at h
    rw [List.any_eq_false] at h
    have h1 := h k hk
    have h2 := h64 k hk
    unfold In64 at h2
    simp at h1
    omega)
  obtain ⟨c1, c2⟩ := hb1.cells
  generalize negs ks = N at *
  clear hZ hT hb1 hb2 hB0 hs hK h64 H HGg HFg
  cases N with
  | true =>
    obtain rfl : Z = (Va.zero, 1) := HL.out.trans (if_pos rfl)
    go_enter Tryd.func42, Tryd.ntmps42
    go_upto_region 1 with fail
    rw [← hW1]
    clear hW1
    go_wp2_with fail
    refine (HC.out W1 HB1.out).mono ?_
    rintro e w' ⟨rfl, rfl⟩
    obtain ⟨x0, x1, x2, x3, x4⟩ := HV1.out.cells
    obtain ⟨f0, f1, f2, f3, f4⟩ := HV1.out.frozens
    unfold Va.zero at x0 x1 x2 x3 x4
    dsimp only at x0 x1 x2 x3 x4
    have HX := Lib.hid (HV1.out.set5 0 0 0 0 0)
    have HBX := Lib.hid (below_val5 (g := w.heap.size + 1) HB1.out (by omega) (.int .i64 0) (.int .i64 0) (.int .i64 0) (.int .i64 0) (.int .u64 0))
    go_wp2_with fail
    clear x0 x1 x2 x3 x4
    obtain ⟨x0, x1, x2, x3, x4⟩ := HX.out.cells
    dsimp only at x0 x1 x2 x3 x4
    refine bodyPost_ret (v := .tuple #[.agg (cellsV ⟨0, 0, 0, 0, 0⟩), .int .u16 1]) ?_ rfl ⟨rfl, HBX.out⟩
    simp [results, Tryd.f42, go_sem, cellsV, x0, x1, x2, x3, x4]
  | false =>
    have HL1 := Lib.hid (HL.out.trans (if_neg (by decide)))
    by_cases hl : 32 < ks.length
    · obtain rfl : Z = (Va.zero, 3) := HL1.out.trans (if_pos hl)
      have hl1 : (ks.length : Int) > 32 := by omega
      go_enter Tryd.func42, Tryd.ntmps42
      go_upto_region 1 with fail
      rw [← hW1]
      clear hW1
      go_wp2_with fail
      refine (HC.out W1 HB1.out).mono ?_
      rintro e w' ⟨rfl, rfl⟩
      obtain ⟨x0, x1, x2, x3, x4⟩ := HV1.out.cells
      obtain ⟨f0, f1, f2, f3, f4⟩ := HV1.out.frozens
      unfold Va.zero at x0 x1 x2 x3 x4
      dsimp only at x0 x1 x2 x3 x4
      have HX := Lib.hid (HV1.out.set5 0 0 0 0 0)
      have HBX := Lib.hid (below_val5 (g := w.heap.size + 1) HB1.out (by omega) (.int .i64 0) (.int .i64 0) (.int .i64 0) (.int .i64 0) (.int .u64 0))
      go_wp2_with fail
      clear x0 x1 x2 x3 x4
      obtain ⟨x0, x1, x2, x3, x4⟩ := HX.out.cells
      dsimp only at x0 x1 x2 x3 x4
      refine bodyPost_ret (v := .tuple #[.agg (cellsV ⟨0, 0, 0, 0, 0⟩), .int .u16 3]) ?_ rfl ⟨rfl, HBX.out⟩
      simp [results, Tryd.f42, go_sem, cellsV, x0, x1, x2, x3, x4]
    · have hl1 : ¬ (ks.length : Int) > 32 := by omega
      have HL2 := Lib.hid (HL1.out.trans (if_neg hl))
      have HPos1 := Lib.hid (HPos.out rfl)
      clear hl HL HL1 HPos
      go_enter Tryd.func42, Tryd.ntmps42
      go_upto_region 1 with fail
      rw [← hW1]
      clear hW1
      go_wp2_with fail
      refine (HC.out W1 HB1.out).mono ?_
      rintro e w' ⟨rfl, rfl⟩
      have hB2 : Below W1.heap.size W1 (W1.alloc (.cells #[.int .i64 c] 135)) := (Below.refl _ _).alloc (Nat.le_refl _) _
      have h2 : Bx (W1.alloc (.cells #[.int .i64 c] 135)) W1.heap.size 135 (.int .i64 c) := by unfold Bx; rw [blk_alloc_new]
      have HG2 := Lib.hid (HGo.out W1 _ W1.heap.size (HKx.out W1 HB1.out) hB2 (Nat.le_refl _) h2 (HS.out W1 HB1.out) HPos1.out)
      have HP2 := Lib.hid (HP1.out.on hB2 HP1.out.lt)
      obtain ⟨W2, hW2⟩ : ∃ W2, W2 = W1.alloc (.cells #[.int .i64 c] 135) := ⟨_, rfl⟩
      rw [← hW2] at HG2 HP2
      clear hB2 h2 HGo HC HPos1
      go_upto_region 6 with fail
      rw [← hW2]
      clear hW2 c1 c2
      obtain ⟨c1, c2⟩ := HP2.out.cells
      have hmf : ∀ (fn : Fn) (first cap : Array Value) (w : World), (Instr.makeFunc fn first cap).run Tryd.prog w = .ok (.func fn first cap) w := fun _ _ _ _ => rfl
      go_wp2_with fail
      refine HG2.out.mono ?_
      obtain ⟨⟨o1, o2, o3, o4, o5, o6, o7⟩, D⟩ := T
      rintro e w3 ⟨rfl, hB3⟩
      unfold cellsO
      dsimp only
      have HP3 := Lib.hid (HP1.out.on hB3 HP1.out.lt)
      have HV3 := Lib.hid (HV1.out.onB hB3 HV1.out.lt)
      have HB3 := Lib.hid (HB1.out.trans (hB3.mono HB1.out.size))
      have hB4 : Below w3.heap.size w3 (w3.alloc (.cells (cellsO ⟨o1, o2, o3, o4, o5, o6, o7⟩) 131)) := (Below.refl _ _).alloc (Nat.le_refl _) _
      have HP4 := Lib.hid (HP3.out.on hB4 HP3.out.lt)
      have HV4 := Lib.hid (HV3.out.on hB4)
      have HB4 := Lib.hid (HB3.out.trans (hB4.mono HB3.out.size))
      have HO4 := Lib.hid (OBox.new w3 ⟨o1, o2, o3, o4, o5, o6, o7⟩)
      obtain ⟨W4, hW4⟩ : ∃ W4, W4 = w3.alloc (.cells (cellsO ⟨o1, o2, o3, o4, o5, o6, o7⟩) 131) := ⟨_, rfl⟩
      rw [← hW4] at HP4 HV4 HB4 HO4
      unfold cellsO at hW4
      dsimp only at hW4
      clear hB3 hB4 c1 c2 hmf
      go_upto_region 7 with fail
      rw [← hW4]
      clear hW4
      obtain ⟨c1, c2⟩ := HP4.out.cells
      by_cases hD : D = 0
      · subst hD
        have HL3 := Lib.hid (HL2.out.trans (if_neg (by simp)))
        dsimp only at HL3 HGx
        clear HL2
        by_cases hi0 : i < 0
        · obtain rfl : Z = (shapeV ⟨o1, o2, o3, o4, o5, o6, o7⟩, 0) := HL3.out.trans (by unfold endV; rw [if_pos hi0])
          have HSh := Lib.hid (shape_any ⟨o1, o2, o3, o4, o5, o6, o7⟩ W4)
          generalize shapeV ⟨o1, o2, o3, o4, o5, o6, o7⟩ = V at *
          obtain ⟨v1, v2, v3, v4, v5⟩ := V
          unfold cellsO cellsV at HSh
          dsimp only at HSh
          obtain ⟨y0, y1, y2, y3, y4, y5, y6⟩ := HO4.out.cells
          dsimp only at y0 y1 y2 y3 y4 y5 y6
          go_wp2_with fail
          refine HSh.out.mono ?_
          rintro e w5 ⟨rfl, hB5⟩
          have HV5 := Lib.hid (HV4.out.on hB5)
          have HB5 := Lib.hid (HB4.out.trans (hB5.mono HB4.out.size))
          clear hB5 y0 y1 y2 y3 y4 y5 y6 c1 c2
          obtain ⟨x0, x1, x2, x3, x4⟩ := HV5.out.cells
          obtain ⟨f0, f1, f2, f3, f4⟩ := HV5.out.frozens
          unfold Va.zero at x0 x1 x2 x3 x4
          dsimp only at x0 x1 x2 x3 x4
          have HX := Lib.hid (HV5.out.set5 v1 v2 v3 v4 v5)
          have HBX := Lib.hid (below_val5 (g := w.heap.size + 1) HB5.out (by omega) (.int .i64 v1) (.int .i64 v2) (.int .i64 v3) (.int .i64 v4) (.int .u64 v5))
          go_wp2_with fail
          clear x0 x1 x2 x3 x4
          obtain ⟨x0, x1, x2, x3, x4⟩ := HX.out.cells
          dsimp only at x0 x1 x2 x3 x4
          refine bodyPost_ret (v := .tuple #[.agg (cellsV ⟨v1, v2, v3, v4, v5⟩), .int .u16 0]) ?_ rfl ⟨rfl, HBX.out⟩
          simp [results, Tryd.f42, go_sem, cellsV, x0, x1, x2, x3, x4]
        · have hi1 : 0 ≤ i ∧ i ≤ 9223372036854775807 := by unfold In64 at hi; omega
          have HL4 : Hid (Z = if (numW sr ⟨o1, o2, o3, o4, o5, o6, o7⟩ i).2 ≠ 0 then (Va.zero, (numW sr ⟨o1, o2, o3, o4, o5, o6, o7⟩ i).2) else (⟨o1, 0, 0, 0, (numW sr ⟨o1, o2, o3, o4, o5, o6, o7⟩ i).1⟩, 0)) := Lib.hid (HL3.out.trans (by unfold endV; rw [if_neg hi0]))
          have HN4 := Lib.hid (HNum.out ⟨o1, o2, o3, o4, o5, o6, o7⟩ W4 (HKx.out W4 HB4.out) HGx.out hi1)
          generalize numW sr ⟨o1, o2, o3, o4, o5, o6, o7⟩ i = X at *
          obtain ⟨X, E⟩ := X
          unfold cellsO at HN4
          dsimp only at HN4 HL4
          obtain ⟨y0, y1, y2, y3, y4, y5, y6⟩ := HO4.out.cells
          dsimp only at y0 y1 y2 y3 y4 y5 y6
          go_wp2_with fail
          refine HN4.out.mono ?_
          rintro e w5 ⟨rfl, hB5⟩
          have HV5 := Lib.hid (HV4.out.on hB5)
          have HO5 := Lib.hid (HO4.out.on hB5)
          have HB5 := Lib.hid (HB4.out.trans (hB5.mono HB4.out.size))
          clear hB5 y0 y1 y2 y3 y4 y5 y6 c1 c2
          by_cases hE : E = 0
          · subst hE
            obtain rfl : Z = (⟨o1, 0, 0, 0, X⟩, 0) := HL4.out.trans (if_neg (by simp))
            obtain ⟨y0, y1, y2, y3, y4, y5, y6⟩ := HO5.out.cells
            dsimp only at y0 y1 y2 y3 y4 y5 y6
            obtain ⟨x0, x1, x2, x3, x4⟩ := HV5.out.cells
            obtain ⟨f0, f1, f2, f3, f4⟩ := HV5.out.frozens
            unfold Va.zero at x0 x1 x2 x3 x4
            dsimp only at x0 x1 x2 x3 x4
            have HX := Lib.hid (HV5.out.set5 o1 0 0 0 X)
            have HBX := Lib.hid (below_val5 (g := w.heap.size + 1) HB5.out (by omega) (.int .i64 o1) (.int .i64 0) (.int .i64 0) (.int .i64 0) (.int .u64 X))
            go_wp2_with fail
            clear x0 x1 x2 x3 x4
            obtain ⟨x0, x1, x2, x3, x4⟩ := HX.out.cells
            dsimp only at x0 x1 x2 x3 x4
            refine bodyPost_ret (v := .tuple #[.agg (cellsV ⟨o1, 0, 0, 0, X⟩), .int .u16 0]) ?_ rfl ⟨rfl, HBX.out⟩
            simp [results, Tryd.f42, go_sem, cellsV, x0, x1, x2, x3, x4]
          · have hE1 : (E != 0) = true := by simp [hE]
            obtain rfl : Z = (Va.zero, E) := HL4.out.trans (if_pos hE)
            obtain ⟨x0, x1, x2, x3, x4⟩ := HV5.out.cells
            obtain ⟨f0, f1, f2, f3, f4⟩ := HV5.out.frozens
            unfold Va.zero at x0 x1 x2 x3 x4
            dsimp only at x0 x1 x2 x3 x4
            have HX := Lib.hid (HV5.out.set5 0 0 0 0 0)
            have HBX := Lib.hid (below_val5 (g := w.heap.size + 1) HB5.out (by omega) (.int .i64 0) (.int .i64 0) (.int .i64 0) (.int .i64 0) (.int .u64 0))
            go_wp2_with fail
            clear x0 x1 x2 x3 x4
            obtain ⟨x0, x1, x2, x3, x4⟩ := HX.out.cells
            dsimp only at x0 x1 x2 x3 x4
            refine bodyPost_ret (v := .tuple #[.agg (cellsV ⟨0, 0, 0, 0, 0⟩), .int .u16 E]) ?_ rfl ⟨rfl, HBX.out⟩
            simp [results, Tryd.f42, go_sem, cellsV, x0, x1, x2, x3, x4]
      · have hD1 : (D != 0) = true := by simp [hD]
        obtain rfl : Z = (Va.zero, D) := HL2.out.trans (if_pos hD)
        obtain ⟨x0, x1, x2, x3, x4⟩ := HV4.out.cells
        obtain ⟨f0, f1, f2, f3, f4⟩ := HV4.out.frozens
        unfold Va.zero at x0 x1 x2 x3 x4
        dsimp only at x0 x1 x2 x3 x4
        have HX := Lib.hid (HV4.out.set5 0 0 0 0 0)
        have HBX := Lib.hid (below_val5 (g := w.heap.size + 1) HB4.out (by omega) (.int .i64 0) (.int .i64 0) (.int .i64 0) (.int .i64 0) (.int .u64 0))
        go_wp2_with fail
        clear x0 x1 x2 x3 x4
        obtain ⟨x0, x1, x2, x3, x4⟩ := HX.out.cells
        dsimp only at x0 x1 x2 x3 x4
        refine bodyPost_ret (v := .tuple #[.agg (cellsV ⟨0, 0, 0, 0, 0⟩), .int .u16 D]) ?_ rfl ⟨rfl, HBX.out⟩
        simp [results, Tryd.f42, go_sem, cellsV, x0, x1, x2, x3, x4]

end Go.Proofs.YtdfldfnjjjcleaaDoor

namespace Go.Proofs.YtdfldfnjjjcleaaDoor
open Go.RowKit Go.Deep


def eqV (p q : Va) : Bool := p.kind == q.kind && (p.size == q.size && (p.words == q.words && (p.kids == q.kids && p.word == q.word)))
theorem run_eql_V (w : World) (p q : Va) : (binOp .eql 55 (.agg (cellsV p)) (.agg (cellsV q))).run Tryd.prog w = .ok (.bool (eqV p q)) w := by
  rw [run_eql_struct, show (10000 : Nat) = 9999 + 1 from rfl, run_equalIn_struct _ _ _ _ _ (by kernel_rfl) (by kernel_rfl)]
  have u3 := Tryd.underlying3
  have u4 := Tryd.underlying53
  have e3 : ∀ (a b : Int) (w : World), (Op.equalIn 9999 3 (.int .i64 a) (.int .i64 b)).run Tryd.prog w = .ok (a == b) w := fun a b w => run_equalIn_int w 9998 _ _ _ a b u3
  have e4 : ∀ (a b : Int) (w : World), (Op.equalIn 9999 53 (.int .u64 a) (.int .u64 b)).run Tryd.prog w = .ok (a == b) w := fun a b w => run_equalIn_int w 9998 _ _ _ a b u4
  simp [Program.fieldsOf, Tryd.underlying55, Op.eqFields, part, isAgg, run_underlying u3, run_underlying u4, cellsV, e3, e4]
  unfold eqV
  obtain ⟨a, b, c, d, e⟩ := p
  obtain ⟨a', b', c', d', e'⟩ := q
  by_cases k1 : a = a' <;> by_cases k2 : b = b' <;> by_cases k3 : c = c' <;> by_cases k4 : d = d' <;> by_cases k5 : e = e' <;> simp [k1, k2, k3, k4, k5]

set_option maxRecDepth 100000 in
set_option maxHeartbeats 2000000 in
theorem of9_any (v : Value) (ls : List (List Int)) (w : World) (sv : Value) (ks : List Int) (i c : Int) (L : Laid w) (h : ArV w w.heap.size v ls) (hl : ls.length ≤ 1000000000) (hu : AllU ls) (hs : NumS .i64 w w.heap.size sv ks) (h64 : All64 ks) (hi : In64 i) (hc : In64 c) :
    Calls Tryd.prog 24 #[v, .agg #[sv, .int .i64 i], .int .i64 c] w (VaR (ofV ls ks i c) w) := by
  obtain ⟨hb1, hb2, hB0⟩ := new_walk w sv i
  have HR := Lib.hid (fun X (hX : Below w.heap.size w X) => aright_anyL v ls X (h.on hX) hl)
  have HWk := Lib.hid (fun X b (hX : Below w.heap.size w X) (hb : WhBox X b v) => walk_any (whole_ok b v ls hl hu (sizes_all64 h)) X sv ks i c ⟨hb, h.on hX, L.on hX⟩ (hs.on hX) h64 hi hc)
  have HL : Hid (ofV ls ks i c = if fitsL (sizesL ls) = true then walkV (srA ls) ks i c else (Va.zero, 1)) := Lib.hid rfl
  obtain ⟨Z, hZ⟩ : ∃ Z, Z = ofV ls ks i c := ⟨_, rfl⟩
  rw [← hZ] at HL ⊢
  generalize walkV (srA ls) ks i c = T at *
  generalize fitsL (sizesL ls) = F at *
  obtain ⟨A, q, rfl⟩ := hs.form rfl
  obtain ⟨A2, q2, rfl⟩ := h.form rfl
  obtain ⟨W1, hW1⟩ : ∃ W1, W1 = (w.alloc (.cells #[.slice A ks.length q, .int .i64 i] 33)).alloc (.cells (cellsV Va.zero) 55) := ⟨_, rfl⟩
  rw [← hW1] at hb1 hb2 hB0
  have HP1 := Lib.hid hb1
  have HV1 := Lib.hid hb2
  have HB1 := Lib.hid hB0
  unfold cellsV Va.zero at hW1
  dsimp only at hW1
  clear hZ hb1 hb2 hB0 hs h64 h L hl hu hi hc
  cases F with
  | false =>
    obtain rfl : Z = (Va.zero, 1) := HL.out.trans (if_neg (by decide))
    go_enter Tryd.func24, Tryd.ntmps24
    go_upto_region 1 with fail
    rw [← hW1]
    clear hW1
    go_wp2_with fail
    refine (HR.out W1 HB1.out).mono ?_
    rintro e w2 ⟨rfl, hB2⟩
    have HV2 := Lib.hid (HV1.out.on hB2)
    have HB2 := Lib.hid (HB1.out.trans (hB2.mono HB1.out.size))
    clear hB2
    obtain ⟨x0, x1, x2, x3, x4⟩ := HV2.out.cells
    obtain ⟨f0, f1, f2, f3, f4⟩ := HV2.out.frozens
    unfold Va.zero at x0 x1 x2 x3 x4
    dsimp only at x0 x1 x2 x3 x4
    have HX := Lib.hid (HV2.out.set5 0 0 0 0 0)
    have HBX := Lib.hid (below_val5 (g := w.heap.size + 1) HB2.out (by omega) (.int .i64 0) (.int .i64 0) (.int .i64 0) (.int .i64 0) (.int .u64 0))
    go_wp2_with fail
    clear x0 x1 x2 x3 x4
    obtain ⟨x0, x1, x2, x3, x4⟩ := HX.out.cells
    dsimp only at x0 x1 x2 x3 x4
    refine bodyPost_ret (v := .tuple #[.agg (cellsV ⟨0, 0, 0, 0, 0⟩), .int .u16 1]) ?_ rfl ⟨rfl, HBX.out⟩
    simp [results, Tryd.f24, go_sem, cellsV, x0, x1, x2, x3, x4]
  | true =>
    obtain rfl : Z = T := HL.out.trans (if_pos rfl)
    obtain ⟨⟨v1, v2, v3, v4, v5⟩, D⟩ := Z
    go_enter Tryd.func24, Tryd.ntmps24
    go_upto_region 1 with fail
    rw [← hW1]
    clear hW1
    go_wp2_with fail
    refine (HR.out W1 HB1.out).mono ?_
    rintro e w2 ⟨rfl, hB2⟩
    have HP2 := Lib.hid (HP1.out.on hB2 HP1.out.lt)
    have HV2 := Lib.hid (HV1.out.on hB2)
    have HB2 := Lib.hid (HB1.out.trans (hB2.mono HB1.out.size))
    have hB3 : Below w2.heap.size w2 (w2.alloc (.cells #[.slice A2 ls.length q2] 97)) := (Below.refl _ _).alloc (Nat.le_refl _) _
    have h3 : WhBox (w2.alloc (.cells #[.slice A2 ls.length q2] 97)) w2.heap.size (.slice A2 ls.length q2) := by unfold WhBox; rw [blk_alloc_new]
    have HP3 := Lib.hid (HP2.out.on hB3 HP2.out.lt)
    have HV3 := Lib.hid (HV2.out.on hB3)
    have HB3 := Lib.hid (HB2.out.trans (hB3.mono HB2.out.size))
    have hW3 := HWk.out _ w2.heap.size HB3.out h3
    obtain ⟨c1, c2⟩ := HP3.out.cells
    obtain ⟨d1, d2⟩ := HP2.out.cells
    clear hB2 hB3 h3
    go_wp2_with fail
    refine hW3.mono ?_
    rintro e w4 ⟨rfl, hB4⟩
    unfold cellsV
    dsimp only
    have HV4 := Lib.hid (HV3.out.on hB4)
    have HB4 := Lib.hid (HB3.out.trans (hB4.mono HB3.out.size))
    clear hB4 hW3 c1 c2 d1 d2
    obtain ⟨x0, x1, x2, x3, x4⟩ := HV4.out.cells
    obtain ⟨f0, f1, f2, f3, f4⟩ := HV4.out.frozens
    unfold Va.zero at x0 x1 x2 x3 x4
    dsimp only at x0 x1 x2 x3 x4
    have HX := Lib.hid (HV4.out.set5 v1 v2 v3 v4 v5)
    have HBX := Lib.hid (below_val5 (g := w.heap.size + 1) HB4.out (by omega) (.int .i64 v1) (.int .i64 v2) (.int .i64 v3) (.int .i64 v4) (.int .u64 v5))
    go_wp2_with fail
    clear x0 x1 x2 x3 x4
    obtain ⟨x0, x1, x2, x3, x4⟩ := HX.out.cells
    dsimp only at x0 x1 x2 x3 x4
    refine bodyPost_ret (v := .tuple #[.agg (cellsV ⟨v1, v2, v3, v4, v5⟩), .int .u16 D]) ?_ rfl ⟨rfl, HBX.out⟩
    simp [results, Tryd.f24, go_sem, cellsV, x0, x1, x2, x3, x4]

end Go.Proofs.YtdfldfnjjjcleaaDoor
