/-
  Layer 9, the landed package: an arena as a source: its methods; word and sizes, whose deferred closures find nothing to recover.
-/
import Derived.Test.YtdfldfnjjjcleaaDoorZRdA
import Derived.Test.YtdfldfnjjjcleaaDoorZRdPlain
import Derived.Defers
import Derived.Recover
import Derived.Test.YtdfldfnjjjcleaaDoorZRdB
import Derived.StillTailTactics
import Derived.WalkMore

namespace Go.Proofs.YtdfldfnjjjcleaaDoor
open Go.RowKit Go.Deep

/-- a box of one value -/
def Bx (w : World) (b t : Nat) (v : Value) : Prop := w.heap[b]? = some (.cells #[v] t (0, 0))
theorem Bx.lt {w : World} {b t : Nat} {v : Value} (h : Bx w b t v) : b < w.heap.size := (Array.getElem?_eq_some_iff.1 h).1
theorem Bx.on {w w' : World} {b t : Nat} {v : Value} (h : Bx w b t v) (hB : Below w.heap.size w w') : Bx w' b t v := (hB.block b h.lt).trans h
theorem Bx.cell {w : World} {b t : Nat} {v : Value} (h : Bx w b t v) : w.cell? ⟨b, 0, none⟩ = some v ∧ w.frozen? ⟨b, 0, none⟩ = false := by
  unfold Bx at h
  simp [World.cell?, World.frozen?, h]
theorem Bx.set {w : World} {b t : Nat} {v : Value} (h : Bx w b t v) (y : Value) : Bx (w.setCell ⟨b, 0, none⟩ y) b t y := by
  have := heap_setCell_same _ b 0 _ _ y h
  unfold Bx
  rw [this]
  simp
theorem Bx.other {w : World} {g b t : Nat} {x : Value} (h : Bx w g t x) (hne : g ≠ b) (j : Nat) (v : Value) : Bx (w.setCell ⟨b, j, none⟩ v) g t x := (blk_setCell_other _ _ _ _ hne).trans h
/-- the block b is an arena as a source -/
def WhBox (w : World) (b : Nat) (v : Value) : Prop := w.heap[b]? = some (.cells #[v] 97 (0, 0))
theorem WhBox.lt {w : World} {b : Nat} {v : Value} (h : WhBox w b v) : b < w.heap.size := (Array.getElem?_eq_some_iff.1 h).1
theorem WhBox.on {w w' : World} {b : Nat} {v : Value} (h : WhBox w b v) (hB : Below w.heap.size w w') : WhBox w' b v := (hB.block b h.lt).trans h
theorem WhBox.cell {w : World} {b : Nat} {v : Value} (h : WhBox w b v) : w.cell? ⟨b, 0, none⟩ = some v := by
  unfold WhBox at h
  simp [World.cell?, h]

theorem meth_sizes (a : Nat) (W : World) : Sem.run Tryd.prog (method (Tryd.prog.types.size + 100) 95 (.pointer (some ⟨a, 0, none⟩)) "Sizes") W = .ok (145, .pointer (some ⟨a, 0, none⟩)) W := by
  rw [Tryd.types_size]; kernel_rfl
theorem meth_word (a : Nat) (W : World) : Sem.run Tryd.prog (method (Tryd.prog.types.size + 100) 95 (.pointer (some ⟨a, 0, none⟩)) "Word") W = .ok (146, .pointer (some ⟨a, 0, none⟩)) W := by
  rw [Tryd.types_size]; kernel_rfl

set_option maxRecDepth 100000 in
set_option maxHeartbeats 400000 in
theorem wsizes_any (b : Nat) (v : Value) (ls : List (List Int)) (w : World) (hb : WhBox w b v) (h : ArV w w.heap.size v ls) (hs : ls.length ≤ 1000000000) :
    Calls Tryd.prog 145 #[.pointer (some ⟨b, 0, none⟩)] w fun e w' => ∃ u, e = .returned u ∧ OwnI w' w.heap.size u (sizesL ls) ∧ Below w.heap.size w w' := by
  have HS := Lib.hid (asizes_anyL v ls w h hs)
  have hc := hb.cell
  obtain ⟨A, c, rfl, -⟩ := h
  generalize ls.length = n at *
  clear hb hs
  go_enter Tryd.func145, Tryd.ntmps145
  go_wp2_with fail
  refine HS.out.mono ?_
  rintro e w2 ⟨u, rfl, h1, h2⟩
  go_wp2_with fail
  go_ret
  exact ⟨_, rfl, h1, h2⟩

set_option maxRecDepth 100000 in
set_option maxHeartbeats 400000 in
theorem wword_any (b : Nat) (v : Value) (ls : List (List Int)) (g a : Int) (w : World) (hb : WhBox w b v) (h : ArV w w.heap.size v ls) :
    Calls Tryd.prog 146 #[.pointer (some ⟨b, 0, none⟩), .int .i64 g, .int .i64 a] w fun e w' => e = .returned (.tuple #[.int .u64 (wordA ls g a), .int .u16 (wordE7 ls g a)]) ∧ Below w.heap.size w w' := by
  have HS := Lib.hid (aword_any v ls g a w h)
  have hc := hb.cell
  obtain ⟨A, c, rfl, -⟩ := h
  generalize ls.length = n at *
  generalize wordA ls g a = x at *
  generalize wordE7 ls g a = y at *
  clear hb
  go_enter Tryd.func146, Tryd.ntmps146
  go_wp2_with fail
  refine HS.out.mono ?_
  rintro e w2 ⟨rfl, h2⟩
  go_wp2_with fail
  go_ret2
  exact ⟨rfl, h2⟩

theorem catch_word (a b : Value) (w : World) :
    CallsD Tryd.prog 112 #[a, b] .returning w fun e u' w' => e = .returned (.tuple #[]) ∧ u' = .returning ∧ w' = w := by
  refine callsD_of_wpS Tryd.func112 rfl fun c₀ cs hu => ?_
  apply wpS_seq
  apply wpS_region
  simp [wpOpsS, go_sem, recoverD, hu, Tryd.ntmps112, Exit.thenS]
  refine wpS_cond (t := false) (by simp [Act.eval, Array.replicate]) ?_
  simp only [Bool.false_eq_true, if_false]
  refine wpS_of_wp (wp_skip ?_)
  cases c₀
  simp_all [bodyPostS, results, Tryd.results112]
theorem catch_sizes (a : Value) (w : World) :
    CallsD Tryd.prog 120 #[a] .returning w fun e u' w' => e = .returned (.tuple #[]) ∧ u' = .returning ∧ w' = w := by
  refine callsD_of_wpS Tryd.func120 rfl fun c₀ cs hu => ?_
  apply wpS_seq
  apply wpS_region
  simp [wpOpsS, go_sem, recoverD, hu, Tryd.ntmps120, Exit.thenS]
  refine wpS_cond (t := false) (by simp [Act.eval, Array.replicate]) ?_
  simp only [Bool.false_eq_true, if_false]
  refine wpS_of_wp (wp_skip ?_)
  cases c₀
  simp_all [bodyPostS, results, Tryd.results120]

set_option maxRecDepth 100000 in
set_option maxHeartbeats 1000000 in
theorem word_whole (b : Nat) (v : Value) (ls : List (List Int)) (g a : Int) (w : World) (hb : WhBox w b v) (h : ArV w w.heap.size v ls) :
    Calls Tryd.prog 96 #[.iface 95 (.pointer (some ⟨b, 0, none⟩)), .int .i64 g, .int .i64 a] w fun e w' => e = .returned (.tuple #[.int .u64 (wordA ls g a), .int .u16 (wordE7 ls g a)]) ∧ Below w.heap.size w w' := by
  have hmf : ∀ (fn : Fn) (first cap : Array Value) (w : World), (Instr.makeFunc fn first cap).run Tryd.prog w = .ok (.func fn first cap) w := fun _ _ _ _ => rfl
  have hm := meth_word b
  simp only [Tryd.types_size, Nat.reduceAdd] at hm
  have HS := Lib.hid (fun X (hX : Below w.heap.size w X) => wword_any b v ls g a X (hb.on hX) (h.on hX))
  obtain ⟨e1, e2, -⟩ := two_new w #[.int .u64 0] #[.int .u16 0] 53 48
  have HS1 := HS.out _ ((((Below.refl _ _).alloc (Nat.le_refl _) _).alloc (by simp) _) : Below w.heap.size w ((w.alloc (.cells #[.int .u64 0] 53)).alloc (.cells #[.int .u16 0] 48)))
  clear hb h
  generalize wordA ls g a = x at *
  generalize wordE7 ls g a = y at *
  go_enter_defers Tryd.func96, Tryd.ntmps96
  go_wp2_with fail
  refine HS1.mono ?_
  rintro e w2 ⟨rfl, hB2⟩
  have h1 : Bx w2 w.heap.size 53 (.int .u64 0) := Bx.on (w := (w.alloc (.cells #[.int .u64 0] 53)).alloc (.cells #[.int .u16 0] 48)) e1 hB2
  have h2 : Bx w2 (w.heap.size + 1) 48 (.int .u16 0) := Bx.on (w := (w.alloc (.cells #[.int .u64 0] 53)).alloc (.cells #[.int .u16 0] 48)) e2 hB2
  have hB3 : Below w.heap.size w w2 := bseq' ((((Below.refl _ _).alloc (Nat.le_refl _) _).alloc (by simp) _) : Below w.heap.size w ((w.alloc (.cells #[.int .u64 0] 53)).alloc (.cells #[.int .u16 0] 48))) hB2
  have H1 := Lib.hid ((h1.set (.int .u64 x)).other (by omega : w.heap.size ≠ w.heap.size + 1) 0 (.int .u16 y))
  have H2 := Lib.hid ((h2.other (by omega : w.heap.size + 1 ≠ w.heap.size) 0 (.int .u64 x)).set (.int .u16 y))
  have HB := Lib.hid ((hB3.setCell (p := ⟨w.heap.size, 0, none⟩) (Nat.le_refl _) (.int .u64 x)).setCell (p := ⟨w.heap.size + 1, 0, none⟩) (Nat.le_succ _) (.int .u16 y))
  obtain ⟨c1, f1⟩ := h1.cell
  obtain ⟨c2, f2⟩ := h2.cell
  have c3 := ((h2.other (by omega : w.heap.size + 1 ≠ w.heap.size) 0 (.int .u64 x))).cell
  obtain ⟨c3, f3⟩ := c3
  clear hB2 hB3 e1 e2 h1 h2 hm
  go_wp2_with fail
  obtain ⟨d1, -⟩ := H1.out.cell
  obtain ⟨d2, -⟩ := H2.out.cell
  refine leaves_cons (f := 112) (args := #[.pointer (some ⟨w.heap.size, 0, none⟩), .pointer (some ⟨w.heap.size + 1, 0, none⟩)]) (by simp) (by simp [go_sem]) ?_
  refine (catch_word _ _ _).mono ?_
  rintro e u' w'' ⟨rfl, rfl, rfl⟩
  simp [Leaves, settle, results, Tryd.results96, go_sem, d1, d2]
  exact HB.out

theorem OwnI.setBelow {w : World} {base g : Nat} {v : Value} {xs : List Int} (h : OwnI w base v xs) (hg : g < base) (j : Nat) (x : Value) : OwnI (w.setCell ⟨g, j, none⟩ x) base v xs := by
  obtain ⟨h1, h2 | ⟨k, c, cur, e, hk, hh, r⟩⟩ := h
  · exact ⟨h1, .inl h2⟩
  · exact ⟨h1, .inr ⟨k, c, cur, e, hk, (blk_setCell_other _ _ _ _ (by show k ≠ g; omega)).trans hh, r⟩⟩

set_option maxRecDepth 100000 in
set_option maxHeartbeats 1000000 in
theorem sizes_whole (b : Nat) (v : Value) (ls : List (List Int)) (w : World) (hb : WhBox w b v) (h : ArV w w.heap.size v ls) (hs : ls.length ≤ 1000000000) :
    Calls Tryd.prog 110 #[.iface 95 (.pointer (some ⟨b, 0, none⟩))] w fun e w' => ∃ u, e = .returned u ∧ NumS .i64 w' w'.heap.size u (sizesL ls) ∧ Below w.heap.size w w' := by
  have hmf : ∀ (fn : Fn) (first cap : Array Value) (w : World), (Instr.makeFunc fn first cap).run Tryd.prog w = .ok (.func fn first cap) w := fun _ _ _ _ => rfl
  have hm := meth_sizes b
  simp only [Tryd.types_size, Nat.reduceAdd] at hm
  have hB1 : Below w.heap.size w (w.alloc (.cells #[.slice none 0 0] 31)) := (Below.refl _ _).alloc (Nat.le_refl _) _
  have HB1 := Lib.hid hB1
  have h0 : Bx (w.alloc (.cells #[.slice none 0 0] 31)) w.heap.size 31 (.slice none 0 0) := by unfold Bx; rw [blk_alloc_new]
  have H0 := Lib.hid h0
  have HS1 := wsizes_any b v ls _ (hb.on hB1) (h.on hB1) hs
  clear hb h hB1 h0
  go_enter_defers Tryd.func110, Tryd.ntmps110
  go_wp2_with fail
  refine HS1.mono ?_
  rintro e w2 ⟨u, rfl, hO, hB2⟩
  have h1 := H0.out.on hB2
  have hB3 := bseq' HB1.out hB2
  have hO2 := OwnI.setBelow hO (g := w.heap.size) (by simp) 0 u
  have HO := Lib.hid hO2.numS
  have H1 := Lib.hid (h1.set u)
  have HB := Lib.hid (hB3.setCell (p := ⟨w.heap.size, 0, none⟩) (Nat.le_refl _) u)
  obtain ⟨A, c, rfl, -⟩ := hO.numS
  generalize (sizesL ls).length = n at *
  obtain ⟨c1, f1⟩ := h1.cell
  clear hB2 hB3 h1 hO hO2 hm
  go_wp2_with fail
  obtain ⟨d1, -⟩ := H1.out.cell
  refine leaves_cons (f := 120) (args := #[.pointer (some ⟨w.heap.size, 0, none⟩)]) (by simp) (by simp [go_sem]) ?_
  refine (catch_sizes _ _).mono ?_
  rintro e u' w'' ⟨rfl, rfl, rfl⟩
  simp [Leaves, settle, results, Tryd.results110, go_sem, d1]
  exact ⟨by simpa using HO.out, HB.out⟩

/-- what a source of an arena stands on -/
structure WhK (b : Nat) (v : Value) (ls : List (List Int)) (w : World) : Prop where
  box : WhBox w b v
  ar : ArV w w.heap.size v ls
  laid : Laid w
theorem wordA_bd {ls : List (List Int)} (h : AllU ls) (g a : Int) : 0 ≤ wordA ls g a ∧ wordA ls g a ≤ 18446744073709551615 := by
  unfold wordA
  split
  · exact h.at_ _ _
  · decide
theorem wordE9_bd (ls : List (List Int)) (g a : Int) : 0 ≤ wordE7 ls g a ∧ wordE7 ls g a ≤ 65535 := by
  unfold wordE7
  split <;> decide
theorem whole_ok (b : Nat) (v : Value) (ls : List (List Int)) (hs : ls.length ≤ 1000000000) (hu : AllU ls) (h64 : All64 (sizesL ls)) : SrcOK (WhK b v ls) (.iface 95 (.pointer (some ⟨b, 0, none⟩))) (srA ls) where
  good := ⟨fun g a => wordA_bd hu g a, fun g a => wordE9_bd ls g a, h64, by show (sizesL ls).length ≤ _; rw [sizesL_length]; exact hs⟩
  on := fun h hB => ⟨h.box.on hB, h.ar.on hB, h.laid.on hB⟩
  laid := fun h => h.laid
  form := ⟨_, _, rfl⟩
  word := fun g a w h _ _ => word_whole b v ls g a w h.box h.ar
  sizes := fun w h => sizes_whole b v ls w h.box h.ar hs

end Go.Proofs.YtdfldfnjjjcleaaDoor

namespace Go.Proofs.YtdfldfnjjjcleaaDoor
open Go.RowKit Go.Deep

def cellsV (v : Va) : Array Value := #[.int .i64 v.kind, .int .i64 v.size, .int .i64 v.words, .int .i64 v.kids, .int .u64 v.word]
def VBox (w : World) (g : Nat) (v : Va) : Prop := w.heap[g]? = some (.cells (cellsV v) 55 (0, 0))
theorem VBox.new (w : World) (v : Va) : VBox (w.alloc (.cells (cellsV v) 55)) w.heap.size v := by unfold VBox; rw [blk_alloc_new]
theorem VBox.lt {w : World} {g : Nat} {v : Va} (h : VBox w g v) : g < w.heap.size := (Array.getElem?_eq_some_iff.1 h).1
theorem VBox.on {w w' : World} {g : Nat} {v : Va} (h : VBox w g v) (hB : Below w.heap.size w w') : VBox w' g v := (hB.block g h.lt).trans h
theorem VBox.cells {w : World} {g : Nat} {v : Va} (h : VBox w g v) : w.cell? ⟨g, 0, none⟩ = some (.int .i64 v.kind) ∧ w.cell? ⟨g, 1, none⟩ = some (.int .i64 v.size) ∧ w.cell? ⟨g, 2, none⟩ = some (.int .i64 v.words) ∧ w.cell? ⟨g, 3, none⟩ = some (.int .i64 v.kids) ∧ w.cell? ⟨g, 4, none⟩ = some (.int .u64 v.word) := by
  unfold VBox at h
  simp [World.cell?, h, cellsV]
theorem VBox.frozen {w : World} {g : Nat} {v : Va} (h : VBox w g v) (j : Nat) : w.frozen? ⟨g, j, none⟩ = false := by
  unfold VBox at h
  simp [World.frozen?, h]
theorem VBox.frozens {w : World} {g : Nat} {v : Va} (h : VBox w g v) : w.frozen? ⟨g, 0, none⟩ = false ∧ w.frozen? ⟨g, 1, none⟩ = false ∧ w.frozen? ⟨g, 2, none⟩ = false ∧ w.frozen? ⟨g, 3, none⟩ = false ∧ w.frozen? ⟨g, 4, none⟩ = false :=
  ⟨h.frozen 0, h.frozen 1, h.frozen 2, h.frozen 3, h.frozen 4⟩
theorem VBox.set5 {w : World} {g : Nat} {v : Va} (h : VBox w g v) (a b c d e : Int) :
    VBox (((((w.setCell ⟨g, 0, none⟩ (.int .i64 a)).setCell ⟨g, 1, none⟩ (.int .i64 b)).setCell ⟨g, 2, none⟩ (.int .i64 c)).setCell ⟨g, 3, none⟩ (.int .i64 d)).setCell ⟨g, 4, none⟩ (.int .u64 e)) g ⟨a, b, c, d, e⟩ := by
  have h0 : w.heap[g]? = some (.cells (cellsV v) 55 (0, 0)) := h
  have h1 := heap_setCell_same _ g 0 _ _ (.int .i64 a) h0
  have h2 := heap_setCell_same _ g 1 _ _ (.int .i64 b) h1
  have h3 := heap_setCell_same _ g 2 _ _ (.int .i64 c) h2
  have h4 := heap_setCell_same _ g 3 _ _ (.int .i64 d) h3
  have h5 := heap_setCell_same _ g 4 _ _ (.int .u64 e) h4
  unfold VBox
  rw [h5]
  simp [cellsV]
theorem below_val5 {w W : World} {g : Nat} (h : Below w.heap.size w W) (hg : w.heap.size ≤ g) (a0 a1 a2 a3 a4 : Value) :
    Below w.heap.size w (((((W.setCell ⟨g, 0, none⟩ a0).setCell ⟨g, 1, none⟩ a1).setCell ⟨g, 2, none⟩ a2).setCell ⟨g, 3, none⟩ a3).setCell ⟨g, 4, none⟩ a4) :=
  ((((h.setCell (p := ⟨g, 0, none⟩) hg a0).setCell (p := ⟨g, 1, none⟩) hg a1).setCell (p := ⟨g, 2, none⟩) hg a2).setCell (p := ⟨g, 3, none⟩) hg a3).setCell (p := ⟨g, 4, none⟩) hg a4

end Go.Proofs.YtdfldfnjjjcleaaDoor

namespace Go.Proofs.YtdfldfnjjjcleaaDoor
open Go.RowKit Go.Deep

end Go.Proofs.YtdfldfnjjjcleaaDoor

namespace Go.Proofs.YtdfldfnjjjcleaaDoor
open Go.RowKit Go.Deep

theorem OBox.other {w : World} {g b : Nat} {o : Ob} (h : OBox w g o) (hne : g ≠ b) (j : Nat) (v : Value) : OBox (w.setCell ⟨b, j, none⟩ v) g o := (blk_setCell_other _ _ _ _ hne).trans h
/-- the rest of a row of numbers -/
theorem NumS.rest {q : IntKind} {w : World} {B : Nat} {v : Value} {k : Int} {r : List Int} (h : NumS q w B v (k :: r)) :
    ∃ b off c, v = .slice (some ⟨b, off, none⟩) (r.length + 1) (c + 1) ∧ r.length ≤ c ∧ c < 9223372036854775807 ∧ b < B ∧ w.cell? ⟨b, off, none⟩ = some (.int q k) ∧ NumS q w B (.slice (if c = 0 then some ⟨b, off, none⟩ else some ⟨b, off + 1, none⟩) r.length c) r := by
  obtain ⟨A, c, rfl, hc, hm, hr⟩ := h
  obtain ⟨b, off, rfl, hb, hcell⟩ := hr (by simp)
  rw [List.length_cons] at hc
  obtain ⟨d, rfl⟩ : ∃ d, c = d + 1 := ⟨c - 1, by omega⟩
  refine ⟨b, off, d, by rw [List.length_cons], by omega, by omega, hb, ?_, _, d, rfl, by omega, by omega, fun hl => ⟨b, off + 1, if_neg (by omega), hb, fun j hj => ?_⟩⟩
  · have := hcell 0 (by simp)
    simpa using this
  · have := hcell (j + 1) (by simpa using hj)
    rw [show off + 1 + j = off + (j + 1) by omega]
    simpa using this

end Go.Proofs.YtdfldfnjjjcleaaDoor

namespace Go.Proofs.YtdfldfnjjjcleaaDoor
open Go.RowKit Go.Deep

/-- a value that is handed back -/
def VaR (t : Va × Int) (w : World) (e : Ending) (w' : World) : Prop := e = .returned (.tuple #[.agg (cellsV t.1), .int .u16 t.2]) ∧ Below w.heap.size w w'
/-- the box of a path -/
def PaBox (w : World) (g : Nat) (v : Value) (i : Int) : Prop := w.heap[g]? = some (.cells #[v, .int .i64 i] 33 (0, 0))
theorem PaBox.lt {w : World} {g : Nat} {v : Value} {i : Int} (h : PaBox w g v i) : g < w.heap.size := (Array.getElem?_eq_some_iff.1 h).1
theorem PaBox.on {w w' : World} {g : Nat} {v : Value} {i : Int} (h : PaBox w g v i) {B : Nat} (hB : Below B w w') (hg : g < B) : PaBox w' g v i := (hB.block g hg).trans h
theorem PaBox.cells {w : World} {g : Nat} {v : Value} {i : Int} (h : PaBox w g v i) : w.cell? ⟨g, 0, none⟩ = some v ∧ w.cell? ⟨g, 1, none⟩ = some (.int .i64 i) := by
  unfold PaBox at h
  simp [World.cell?, h]
end Go.Proofs.YtdfldfnjjjcleaaDoor

namespace Go.Proofs.YtdfldfnjjjcleaaDoor
open Go.RowKit Go.Deep


def eqV (p q : Va) : Bool := p.kind == q.kind && (p.size == q.size && (p.words == q.words && (p.kids == q.kids && p.word == q.word)))
theorem run_eql_V (w : World) (p q : Va) : (binOp .eql 55 (.agg (cellsV p)) (.agg (cellsV q))).run Tryd.prog w = .ok (.bool (eqV p q)) w := by
  rw [run_eql_struct, show (10000 : Nat) = 9999 + 1 from rfl, run_equalIn_struct _ _ _ _ _ (by kernel_rfl) (by kernel_rfl)]
  have u3 := Tryd.underlying3
  have u4 := Tryd.underlying53
  have e3 : ∀ (a b : Int) (w : World), (Op.equalIn 9999 3 (.int .i64 a) (.int .i64 b)).run Tryd.prog w = .ok (a == b) w := fun a b w => run_equalIn_int w 9998 _ _ _ a b u3
  have e4 : ∀ (a b : Int) (w : World), (Op.equalIn 9999 53 (.int .u64 a) (.int .u64 b)).run Tryd.prog w = .ok (a == b) w := fun a b w => run_equalIn_int w 9998 _ _ _ a b u4
  simp [Program.fieldsOf, Tryd.underlying55, Op.eqFields, part, isAgg, run_underlying u3, run_underlying u4, cellsV, e3, e4]
  unfold eqV
  obtain ⟨a, b, c, d, e⟩ := p
  obtain ⟨a', b', c', d', e'⟩ := q
  by_cases k1 : a = a' <;> by_cases k2 : b = b' <;> by_cases k3 : c = c' <;> by_cases k4 : d = d' <;> by_cases k5 : e = e' <;> simp [k1, k2, k3, k4, k5]

end Go.Proofs.YtdfldfnjjjcleaaDoor
