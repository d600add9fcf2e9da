/-
  Layer 8: the document's builder: rows of words copied; a word set.
-/
import Derived.Test.YtdfldfnjjjcleaaDoorZBuMem
import Derived.Test.YtdfldfnjjjcleaaDoorZPlain
import Derived.Test.YtdfldfnjjjcleaaDoorZMem

namespace Go.Proofs.YtdfldfnjjjcleaaDoor
open Go.RowKit Go.Deep

/-- the slice value v has the segments ls, in blocks of which P holds -/
def ArP (w : World) (P : Nat → Prop) (v : Value) (ls : List (List Int)) : Prop :=
  ∃ A c, v = .slice A ls.length c ∧ ls.length ≤ c ∧ c ≤ 9223372036854775807 ∧ (0 < ls.length → ∃ b off, A = some ⟨b, off, none⟩ ∧ P b ∧ ∀ j, j < ls.length → ∃ s, w.cell? ⟨b, off + j, none⟩ = some s ∧ NumP .u64 w P s (ls[j]?.getD []))
theorem ArP.keep {w w' : World} {P : Nat → Prop} {v : Value} {ls : List (List Int)} (h : ArP w P v ls) (hk : ∀ b, P b → w'.heap[b]? = w.heap[b]?) : ArP w' P v ls := by
  obtain ⟨A, c, e, hc, hm, hr⟩ := h
  refine ⟨A, c, e, hc, hm, fun hl => ?_⟩
  obtain ⟨b, off, ea, hb, hcell⟩ := hr hl
  refine ⟨b, off, ea, hb, fun j hj => ?_⟩
  obtain ⟨s, h1, h2⟩ := hcell j hj
  exact ⟨s, (cell_same (hk b hb) _).trans h1, h2.keep hk⟩
theorem ArP.mono {w : World} {P Q : Nat → Prop} {v : Value} {ls : List (List Int)} (h : ArP w P v ls) (hPQ : ∀ b, P b → Q b) : ArP w Q v ls := by
  obtain ⟨A, c, e, hc, hm, hr⟩ := h
  refine ⟨A, c, e, hc, hm, fun hl => ?_⟩
  obtain ⟨b, off, ea, hb, hcell⟩ := hr hl
  refine ⟨b, off, ea, hPQ b hb, fun j hj => ?_⟩
  obtain ⟨s, h1, h2⟩ := hcell j hj
  exact ⟨s, h1, h2.mono hPQ⟩
theorem ArP.arV {w : World} {P : Nat → Prop} {B : Nat} {v : Value} {ls : List (List Int)} (h : ArP w P v ls) (hB : ∀ b, P b → b < B) : ArV w B v ls := by
  obtain ⟨A, c, e, hc, hm, hr⟩ := h
  refine ⟨A, c, e, hc, hm, fun hl => ?_⟩
  obtain ⟨b, off, ea, hb, hcell⟩ := hr hl
  refine ⟨b, off, ea, hB b hb, fun j hj => ?_⟩
  obtain ⟨s, h1, h2⟩ := hcell j hj
  exact ⟨s, h1, h2.numS hB⟩

set_option maxRecDepth 100000 in
/-- append(v, y...), v a row of words of the call's own, y words -/
theorem append_words (w : World) (base B ty : Nat) (v : Value) (xs : List Int) (y : Value) (l : List Int) (hown : OwnU w base v xs) (hb : NumS .u64 w B y l) (hk : xs.length + l.length ≤ 1000000000) (hbase : base ≤ w.heap.size) :
    ∃ v' w', (Builtin.append_ #[34, 34] ty #[v, y]).run Tryd.prog w = .ok v' w' ∧ OwnU w' base v' (xs ++ l) ∧ w.grownBy w' v.ownBlock := by
  obtain ⟨i0, hi, hz0, hz1, hz2⟩ := info_parts Tryd.info53
  have ht := Tryd.underlying34
  obtain ⟨A, c, rfl, h1, h2, hr⟩ := hb
  rcases A with _ | ad
  · have h0 : l.length = 0 := by
      rcases Nat.eq_zero_or_pos l.length with h | h
      · exact h
      · obtain ⟨b, off, e, _⟩ := hr (by omega)
        cases e
    have hl : l = [] := List.eq_nil_of_length_eq_zero h0
    subst hl
    refine ⟨v, w, ?_, by rwa [List.append_nil], ⟨rfl, rfl, rfl, Nat.le_refl _, fun _ _ _ => rfl⟩⟩
    rcases hown.2 with ⟨rfl, e⟩ | ⟨g, cap, cur, rfl, hbg, hg, hnc, hcm, hcs, htake⟩
    · simp [Builtin.append_, run_underlying ht, sizeOf, typeInfo, hi, Builtin.lenOf, Builtin.firstCells]
    · simp [Builtin.append_, run_underlying ht, sizeOf, typeInfo, hi, Builtin.lenOf, Builtin.firstCells, hnc, storeCells]
  · obtain ⟨v', w', hrun, ho, hg, _⟩ := run_append_own (P := Tryd.prog) w base 34 ty 53 i0 (.int .u64 0) 1 8 ht hi hz0 hz1 hz2 rfl (by decide) v xs.length (xs.map (Value.int .u64)) hown ad l.length c (l.map (Value.int .u64)) (by simp)
      (fun j u hu => by
        rw [List.getElem?_map, Option.map_eq_some_iff] at hu
        obtain ⟨x, hx, rfl⟩ := hu
        have hj : j < l.length := (List.getElem?_eq_some_iff.1 hx).1
        obtain ⟨b, off, e, _, hc⟩ := hr (by omega)
        injection e with e
        subst e
        have := hc j hj
        rw [hx, Option.getD_some] at this
        rw [Addr.add_lit]
        exact this)
      (fun u hu => by obtain ⟨x, _, rfl⟩ := List.mem_map.1 hu; rfl) (by unfold maxLen; omega) (by omega) hbase
    refine ⟨v', w', hrun, ?_, hg⟩
    unfold OwnU OwnN
    rw [List.length_append, List.map_append]
    exact ho
/-- append(nil, a...), a an arena: a row of the call's own; its segments are a's -/
theorem append_rows (w : World) (P : Nat → Prop) (ty n : Nat) (A : Option Addr) (c : Nat) (ls : List (List Int)) (h : ArP w P (.slice A n c) ls) (hn : n = ls.length) (hp : 0 < n) (hk : n ≤ 1000000) :
    ∃ g c' w' us, us.length = n ∧ (Builtin.append_ #[23, 23] ty #[.slice none 0 0, .slice A n c]).run Tryd.prog w = .ok (.slice (some ⟨g, 0, none⟩) n c') w' ∧ w'.ownsRow w.heap.size 34 1 (.slice (some ⟨g, 0, none⟩) n c') n us ∧ Below w.heap.size w w' ∧
      ∀ j, j < n → NumP .u64 w P (us[j]?.getD undef) (ls[j]?.getD []) := by
  obtain ⟨i0, hi, hz0, hz1, hz2⟩ := info_parts Tryd.info34
  obtain ⟨A', c'', e, h1, h2, hr⟩ := h
  rw [← hn] at e h1 hr
  cases e
  obtain ⟨b, off, rfl, hb, hcell⟩ := hr (by omega)
  have hus : ∀ j, j < n → ((List.range n).map (fun j => (w.cell? ⟨b, off + j, none⟩).getD undef))[j]? = some ((w.cell? ⟨b, off + j, none⟩).getD undef) := fun j hj => by
    rw [List.getElem?_map, List.getElem?_range hj]
    rfl
  obtain ⟨v', w', hrun, ho, hg, -⟩ := run_append_own (P := Tryd.prog) w w.heap.size 23 ty 34 i0 (.slice none 0 0) 1 24 Tryd.underlying23 hi hz0 hz1 hz2 rfl (by decide) (.slice none 0 0) 0 [] (World.ownsRow_nil _ _ _ _) ⟨b, off, none⟩ n c ((List.range n).map (fun j => (w.cell? ⟨b, off + j, none⟩).getD undef)) (by simp)
    (fun j u hu => by
      have hj : j < n := by have := (List.getElem?_eq_some_iff.1 hu).1; simpa using this
      rw [hus j hj] at hu
      obtain ⟨s, e1, _⟩ := hcell j (by omega)
      rw [e1] at hu
      rw [Addr.add_lit, e1]
      simpa using hu)
    (fun u hu => by
      obtain ⟨j, hj, rfl⟩ := List.mem_map.1 hu
      obtain ⟨s, e1, e2⟩ := hcell j (by have := List.mem_range.1 hj; omega)
      obtain ⟨A9, c9, rfl, _⟩ := e2
      rw [e1]
      rfl) (by unfold maxLen; omega) (by omega) (Nat.le_refl _)
  rw [Nat.zero_add, List.nil_append] at ho
  obtain ⟨n', rfl⟩ : ∃ n', n = n' + 1 := ⟨n - 1, by omega⟩
  obtain ⟨g', c3, rfl⟩ := ownsRow_succ ho
  refine ⟨g', c3, w', _, by simp, hrun, ho, (Below.refl _ _).grown hg (Nat.le_refl _) (fun k e => by cases e), fun j hj => ?_⟩
  rw [hus j hj]
  obtain ⟨s, e1, e2⟩ := hcell j (by omega)
  rw [e1]
  exact e2
/-- a row of rows is an arena -/
theorem ar_of {w : World} {base n : Nat} {P : Nat → Prop} {v : Value} {vs : List Value} {ls : List (List Int)} (h : w.ownsRow base 34 1 v n vs) (hn : n = ls.length) (hs : ∀ j, j < n → NumP .u64 w P (vs[j]?.getD undef) (ls[j]?.getD [])) (hB : ∀ g, v.ownBlock = some g → P g) : ArP w P v ls := by
  subst hn
  have h0 := h
  obtain ⟨h1, ⟨rfl, hn⟩ | ⟨g, cap, cur, rfl, hb, hh, hc, hm, _, ht⟩⟩ := h
  · exact ⟨none, 0, by rw [hn], by omega, by omega, fun hp => by omega⟩
  · refine ⟨_, cap, rfl, hc, by unfold maxLen at hm; omega, fun hp => ⟨g, 0, rfl, hB g rfl, fun j hj => ⟨vs[j]?.getD undef, ?_, hs j hj⟩⟩⟩
    rw [Nat.zero_add, World.ownsRow.cellAt h0 j (by omega), List.getElem?_eq_getElem (by omega)]
    rfl

/-! ### a box of the builder's state -/
def SBox (w : World) (g : Nat) (va : Value) (sz : Int) (f : Bool) : Prop := w.heap[g]? = some (.cells #[va, .int .i64 sz, .bool f] 85)
theorem SBox.new (w : World) (va : Value) (sz : Int) (f : Bool) : SBox (w.alloc (.cells #[va, .int .i64 sz, .bool f] 85)) w.heap.size va sz f := by unfold SBox; rw [blk_alloc_new]
theorem SBox.lt {w : World} {g : Nat} {va : Value} {sz : Int} {f : Bool} (h : SBox w g va sz f) : g < w.heap.size := (Array.getElem?_eq_some_iff.1 h).1
theorem SBox.on {w w' : World} {g : Nat} {va : Value} {sz : Int} {f : Bool} (h : SBox w g va sz f) (hB : Below w.heap.size w w') : SBox w' g va sz f := (hB.block g h.lt).trans h
theorem SBox.cells {w : World} {g : Nat} {va : Value} {sz : Int} {f : Bool} (h : SBox w g va sz f) : w.cell? ⟨g, 0, none⟩ = some va ∧ w.cell? ⟨g, 1, none⟩ = some (.int .i64 sz) ∧ w.cell? ⟨g, 2, none⟩ = some (.bool f) := by
  unfold SBox at h
  simp [World.cell?, h]
theorem SBox.frozen {w : World} {g : Nat} {va : Value} {sz : Int} {f : Bool} (h : SBox w g va sz f) (i : Nat) : w.frozen? ⟨g, i, none⟩ = false := by
  unfold SBox at h
  simp [World.frozen?, h]
theorem SBox.set0 {w : World} {g : Nat} {va : Value} {sz : Int} {f : Bool} (h : SBox w g va sz f) (x : Value) : SBox (w.setCell ⟨g, 0, none⟩ x) g x sz f := by
  unfold SBox at *
  simp [World.setCell, Array.getElem?_modify, h]
theorem SBox.set1 {w : World} {g : Nat} {va : Value} {sz : Int} {f : Bool} (h : SBox w g va sz f) (x : Int) : SBox (w.setCell ⟨g, 1, none⟩ (.int .i64 x)) g va x f := by
  unfold SBox at *
  simp [World.setCell, Array.getElem?_modify, h]
theorem SBox.set2 {w : World} {g : Nat} {va : Value} {sz : Int} {f : Bool} (h : SBox w g va sz f) (x : Bool) : SBox (w.setCell ⟨g, 2, none⟩ (.bool x)) g va sz x := by
  unfold SBox at *
  simp [World.setCell, Array.getElem?_modify, h]
theorem SBox.set3 {w : World} {g : Nat} {va : Value} {sz : Int} {f : Bool} (h : SBox w g va sz f) (va' : Value) (sz' : Int) (f' : Bool) : SBox (((w.setCell ⟨g, 0, none⟩ va').setCell ⟨g, 1, none⟩ (.int .i64 sz')).setCell ⟨g, 2, none⟩ (.bool f')) g va' sz' f' := ((h.set0 va').set1 sz').set2 f'
theorem set3_other (w : World) (g : Nat) (a0 a1 a2 : Value) {b : Nat} (h : b ≠ g) : (((w.setCell ⟨g, 0, none⟩ a0).setCell ⟨g, 1, none⟩ a1).setCell ⟨g, 2, none⟩ a2).heap[b]? = w.heap[b]? := by
  rw [blk_setCell_other _ _ _ _ h, blk_setCell_other _ _ _ _ h, blk_setCell_other _ _ _ _ h]
theorem below_set3 {B : Nat} {a w : World} (h : Below B a w) {g : Nat} (hg : B ≤ g) (a0 a1 a2 : Value) : Below B a (((w.setCell ⟨g, 0, none⟩ a0).setCell ⟨g, 1, none⟩ a1).setCell ⟨g, 2, none⟩ a2) :=
  ((h.setCell (p := ⟨g, 0, none⟩) hg _).setCell (p := ⟨g, 1, none⟩) hg _).setCell (p := ⟨g, 2, none⟩) hg _
theorem SBox.apart {w : World} {g : Nat} {va : Value} {sz : Int} {f : Bool} (h : SBox w g va sz f) {g' i : Nat} {v : Value} (hne : g ≠ g') : SBox (w.setCell ⟨g', i, none⟩ v) g va sz f := (blk_setCell_other _ _ _ _ hne).trans h
theorem own_same {w w' : World} {base e n : Nat} {v : Value} {xs : List Value} (h : w.ownsRow base e 1 v n xs) (hk : ∀ g, v.ownBlock = some g → w'.heap[g]? = w.heap[g]?) : w'.ownsRow base e 1 v n xs := by
  obtain ⟨h1, h2 | ⟨g, c, cur, rfl, hb, hh, r⟩⟩ := h
  · exact ⟨h1, .inl h2⟩
  · exact ⟨h1, .inr ⟨g, c, cur, rfl, hb, (hk g rfl).trans hh, r⟩⟩

set_option maxRecDepth 100000 in
set_option maxHeartbeats 1000000 in
theorem rset_any (n : Nat) (A : Option Addr) (c : Nat) (ls : List (List Int)) (sz : Int) (f : Bool) (s i : Nat) (x : Int) (w : World) (P : Nat → Prop) (hPw : ∀ b, P b → b < w.heap.size) (h : ArP w P (.slice A n c) ls) (hn : n = ls.length) (hs : s < n) (hi : i < (ls[s]?.getD []).length) (hk : n ≤ 1000000) (hl : (ls[s]?.getD []).length ≤ 1000000) :
    Calls Tryd.prog 60 #[.agg #[.slice A n c, .int .i64 sz, .bool f], .int .i64 s, .int .i64 i, .int .u64 x] w fun e w' => ∃ A' c', e = .returned (.agg #[.slice A' n c', .int .i64 sz, .bool f]) ∧ ArP w' (fun b => P b ∨ (w.heap.size ≤ b ∧ b < w'.heap.size)) (.slice A' n c') (setA ls s i x) ∧ Below w.heap.size w w' := by
  obtain ⟨W1, hW1⟩ : ∃ W1, W1 = w.alloc (.cells #[.slice A n c, .int .i64 sz, .bool f] 85) := ⟨_, rfl⟩
  obtain ⟨W2, hW2⟩ : ∃ W2, W2 = W1.alloc (.cells #[.slice none 0 0, .int .i64 0, .bool false] 85) := ⟨_, rfl⟩
  have hz1 : W1.heap.size = w.heap.size + 1 := by rw [hW1]; simp
  have hz2 : W2.heap.size = w.heap.size + 2 := by rw [hW2]; simp; omega
  have hB12 : Below W1.heap.size W1 W2 := by rw [hW2]; exact (Below.refl _ _).alloc (Nat.le_refl _) _
  have hS2 : SBox W2 w.heap.size (.slice A n c) sz f := by rw [hW1] at hB12 hW2; exact (SBox.new w _ _ _).on hB12
  have hR2 : SBox W2 (w.heap.size + 1) (.slice none 0 0) 0 false := by rw [hW2, ← hz1]; exact SBox.new W1 _ _ _
  have hB2 : Below w.heap.size w W2 := by rw [hW2, hW1]; exact ((Below.refl _ _).alloc (Nat.le_refl _) _).alloc (by simp) _
  obtain ⟨g3, c3, w3, us, hul, hrun3, ho3, hB3, hus⟩ := append_rows W2 P 23 n A c ls (h.keep (fun b hb => hB2.block b (hPw b hb))) hn (by omega) hk
  have hg3 := World.ownsRow.lt ho3 g3 rfl
  have hg3a : w.heap.size + 2 ≤ g3 := by omega
  have hcell3 := own_cell ho3 hs
  have hus3 := ((hus s hs).keep (fun b hb => hB3.block b (by have := hPw b hb; omega))).numS hPw
  obtain ⟨v4, w4, hrun4, ho4, hg4⟩ := append_words w3 w3.heap.size w.heap.size 34 (.slice none 0 0) [] (us[s]?.getD undef) (ls[s]?.getD []) (OwnU.nil _ _) hus3 (by simp; omega) (Nat.le_refl _)
  rw [List.nil_append] at ho4
  obtain ⟨g4, k4, rfl, hg4a, hg4b⟩ := ho4.out (by omega)
  obtain ⟨As, cs, hes, -⟩ := hus3
  have hlz : (ls[s]?.getD []).length ≤ k4 ∧ k4 ≤ 9223372036854775807 := by
    obtain ⟨A9, c9, e9, q1, q2, _⟩ := OwnN.numS ho4
    cases e9
    exact ⟨q1, q2⟩
  have hcz : n ≤ c3 ∧ c3 ≤ 9223372036854775807 := by
    obtain ⟨_, ⟨e, _⟩ | ⟨g', c', cur, e, _, _, q1, q2, _⟩⟩ := ho3
    · cases e
    · cases e
      exact ⟨q1, by unfold maxLen at q2; omega⟩
  have hB34 : Below w3.heap.size w3 w4 := (Below.refl _ _).grown hg4 (Nat.le_refl _) (fun k e => by cases e)
  have hn43 : g4 ≠ g3 := by omega
  have hs3 := hB3.size
  have hs34 := hB34.size
  obtain ⟨W5, hW5⟩ : ∃ W5, W5 = w4.setCell ⟨g4, i, none⟩ (.int .u64 x) := ⟨_, rfl⟩
  obtain ⟨W6, hW6⟩ : ∃ W6, W6 = W5.setCell ⟨g3, s, none⟩ (.slice (some ⟨g4, 0, none⟩) (ls[s]?.getD []).length k4) := ⟨_, rfl⟩
  obtain ⟨W7, hW7⟩ : ∃ W7, W7 = W6.setCell ⟨w.heap.size, 0, none⟩ (.slice (some ⟨g3, 0, none⟩) n c3) := ⟨_, rfl⟩
  obtain ⟨W8, hW8⟩ : ∃ W8, W8 = ((W7.setCell ⟨w.heap.size + 1, 0, none⟩ (.slice (some ⟨g3, 0, none⟩) n c3)).setCell ⟨w.heap.size + 1, 1, none⟩ (.int .i64 sz)).setCell ⟨w.heap.size + 1, 2, none⟩ (.bool f) := ⟨_, rfl⟩
  have ho5 := ho4.set (i := i) rfl x
  rw [← hW5] at ho5
  have hr4 := own_on ho3 hB34
  have hr5 : W5.ownsRow W2.heap.size 34 1 (.slice (some ⟨g3, 0, none⟩) n c3) n us := own_same hr4 (fun g e => by cases e; rw [hW5]; exact blk_setCell_other _ _ _ _ hn43.symm)
  have hr6 := own_setV (i := s) hr5 (.slice (some ⟨g4, 0, none⟩) (ls[s]?.getD []).length k4)
  rw [← hW6] at hr6
  have hk8 : ∀ g, w.heap.size + 2 ≤ g → W8.heap[g]? = W6.heap[g]? := fun g hg => by
    rw [hW8, set3_other _ _ _ _ _ (by omega), hW7, blk_setCell_other _ _ _ _ (by show g ≠ w.heap.size; omega)]
  have hr8 := own_same (w' := W8) hr6 (fun g e => by
    obtain rfl : g3 = g := by simpa [Value.ownBlock] using e
    exact hk8 _ hg3a)
  have ho8 : OwnU W8 w3.heap.size (.slice (some ⟨g4, 0, none⟩) (ls[s]?.getD []).length k4) ((ls[s]?.getD []).set i x) := own_same ho5 (fun g e => by
    obtain rfl : g4 = g := by simpa [Value.ownBlock] using e
    rw [hk8 _ (by omega), hW6]
    exact blk_setCell_other _ _ _ _ hn43)
  have hB4 : Below w.heap.size W2 w4 := (hB3.mono (by omega)).trans (hB34.mono (by omega))
  have hB6 : Below w.heap.size W2 W6 := by
    rw [hW6, hW5]
    exact (hB4.setCell (p := ⟨g4, i, none⟩) (by show w.heap.size ≤ g4; omega) _).setCell (p := ⟨g3, s, none⟩) (by show w.heap.size ≤ g3; omega) _
  have hB8 : Below w.heap.size W2 W8 := by
    rw [hW8, hW7]
    exact below_set3 (hB6.setCell (p := ⟨w.heap.size, 0, none⟩) (Nat.le_refl _) _) (by omega) _ _ _
  have hS6 : SBox W6 w.heap.size (.slice A n c) sz f := by
    rw [hW6, hW5]
    exact (((hS2.on (hB3.trans (hB34.mono (by omega)))).apart (by omega)).apart (by omega))
  have hS7 : SBox W7 w.heap.size (.slice (some ⟨g3, 0, none⟩) n c3) sz f := by rw [hW7]; exact hS6.set0 _
  have hR7 : SBox W7 (w.heap.size + 1) (.slice none 0 0) 0 false := by
    rw [hW7, hW6, hW5]
    exact ((((hR2.on (hB3.trans (hB34.mono (by omega)))).apart (by omega)).apart (by omega)).apart (by omega))
  have hR8 : SBox W8 (w.heap.size + 1) (.slice (some ⟨g3, 0, none⟩) n c3) sz f := by rw [hW8]; exact hR7.set3 _ _ _
  have hz8 : W8.heap.size = w4.heap.size := by rw [hW8, nblk_setCell, nblk_setCell, nblk_setCell, hW7, nblk_setCell, hW6, nblk_setCell, hW5, nblk_setCell]
  have hFin : ArP W8 (fun b => P b ∨ (w.heap.size ≤ b ∧ b < W8.heap.size)) (.slice (some ⟨g3, 0, none⟩) n c3) (setA ls s i x) := by
    refine ar_of hr8 (by rw [setA_len]; exact hn) (fun j hj => ?_) (fun g e => by
      obtain rfl : g3 = g := by simpa [Value.ownBlock] using e
      exact .inr ⟨by omega, by omega⟩)
    unfold setA
    rw [getD_set (by omega), getD_set (by omega)]
    by_cases e : s = j
    · rw [if_pos e, if_pos e]
      exact (OwnN.numP ho8).mono (fun b e => by
        obtain rfl : g4 = b := by simpa [Value.ownBlock] using e
        exact .inr ⟨by omega, by omega⟩)
    · rw [if_neg e, if_neg e]
      exact ((hus j hj).keep (fun b hb => hB8.block b (hPw b hb))).mono (fun b hb => .inl hb)
  have HFin := Lib.hid (And.intro hFin (hB2.trans hB8))
  have HRun3 := Lib.hid hrun3
  have HRun4 := Lib.hid hrun4
  have HR8 := Lib.hid hR8
  have f4 := own_frozen (i := i) ho4
  have f5 := own_frozen (i := s) hr5
  have c4 := own_cell ho4 hi
  have c5 := own_cell hr5 hs
  have c6 := hS6.cells.1
  generalize (List.map (Value.int .u64) (ls[s]?.getD []))[i]?.getD undef = u4 at c4
  have f6 := hS6.frozen 0
  have f70 := hR7.frozen 0
  have f71 := hR7.frozen 1
  have f72 := hR7.frozen 2
  obtain ⟨x0, x1, x2⟩ := hS2.cells
  obtain ⟨y0, y1, y2⟩ := hS7.cells
  obtain ⟨z0, z1, z2⟩ := hR7.cells
  generalize (ls[s]?.getD []).length = m at *
  generalize us[s]?.getD undef = us' at *
  subst hes
  have i1 : (i : Int) < (m : Int) := by omega
  have i2 : (s : Int) < (n : Int) := by omega
  clear hFin hB2 hB8 hrun3 hrun4 hR8 hr8 ho8 hr6 hr5 hr4 ho5 ho4 ho3 hS2 hR2 hS6 hS7 hR7 hk8 hz8 hB6 hB4 hB34 hB3 hB12 hus h hg4 hul hn hi hs
  go_enter Tryd.func60, Tryd.ntmps60
  go_upto_region 2 with fail
  rw [← hW1, ← hW2]
  clear hW1 hW2
  go_upto_region 6 with (at_builtin; first | refine Lib.wpList_append_run _ rfl _ _ _ _ rfl _ _ rfl rfl _ _ HRun3.out ?_ | refine Lib.wpList_append_run _ rfl _ _ _ _ rfl _ _ rfl rfl _ _ HRun4.out ?_)
  rw [← hW5]
  clear hW5
  go_upto_region 7 with fail
  rw [← hW6]
  clear hW6
  go_upto_region 8 with fail
  rw [← hW7]
  clear hW7
  go_wp2_with fail
  rw [← hW8]
  obtain ⟨e0, e1, e2⟩ := HR8.out.cells
  refine bodyPost_ret (v := .agg #[.slice (some ⟨g3, 0, none⟩) n c3, .int .i64 sz, .bool f]) ?_ rfl ⟨_, _, rfl, HFin.out⟩
  simp [results, Tryd.f60, go_sem, e0, e1, e2]

end Go.Proofs.YtdfldfnjjjcleaaDoor
