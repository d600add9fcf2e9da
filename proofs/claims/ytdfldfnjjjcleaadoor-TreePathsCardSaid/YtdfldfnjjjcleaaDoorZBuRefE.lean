/-
  Layer 8: the document's builder: lay: the boxes; what is none, what needs nothing.
-/
import Derived.Test.YtdfldfnjjjcleaaDoorZBuRefB
import Derived.Test.YtdfldfnjjjcleaaDoorZBuRefC
import Derived.Test.YtdfldfnjjjcleaaDoorZBuRefD
import Derived.Test.YtdfldfnjjjcleaaDoorZPlain
import Derived.Test.YtdfldfnjjjcleaaDoorZArPayC
import Derived.Deep.RegionLaw

namespace Go.Proofs.YtdfldfnjjjcleaaDoor
open Go.RowKit Go.Deep

/-- the three boxes of lay: the state, the tree, the result -/
def layW (w : World) (va : Value) (sz : Int) (f : Bool) (k z : Int) (vw vb vk : Value) : World :=
  ((w.alloc (.cells #[va, .int .i64 sz, .bool f] 85)).alloc (.cells (cellsT k z vw vb vk) 37)).alloc (.cells #[.slice none 0 0, .int .i64 0, .bool false] 85)
theorem lay_boxes (w : World) (va : Value) (sz : Int) (f : Bool) (k z : Int) (vw vb vk : Value) :
    SBox (layW w va sz f k z vw vb vk) w.heap.size va sz f ∧ TBox (layW w va sz f k z vw vb vk) (w.heap.size + 1) k z vw vb vk ∧ SBox (layW w va sz f k z vw vb vk) (w.heap.size + 2) (.slice none 0 0) 0 false ∧ Below w.heap.size w (layW w va sz f k z vw vb vk) ∧ (layW w va sz f k z vw vb vk).heap.size = w.heap.size + 3 := by
  unfold layW
  obtain ⟨W1, hW1⟩ : ∃ W1, W1 = w.alloc (.cells #[va, .int .i64 sz, .bool f] 85) := ⟨_, rfl⟩
  have s1 : SBox W1 w.heap.size va sz f := by rw [hW1]; exact SBox.new _ _ _ _
  have z1 : W1.heap.size = w.heap.size + 1 := by rw [hW1]; simp
  have b1 : Below w.heap.size w W1 := by rw [hW1]; exact (Below.refl _ _).alloc (Nat.le_refl _) _
  rw [← hW1]
  obtain ⟨W2, hW2⟩ : ∃ W2, W2 = W1.alloc (.cells (cellsT k z vw vb vk) 37) := ⟨_, rfl⟩
  have b2 : Below W1.heap.size W1 W2 := by rw [hW2]; exact (Below.refl _ _).alloc (Nat.le_refl _) _
  have t2 : TBox W2 (w.heap.size + 1) k z vw vb vk := by rw [hW2, ← z1]; exact TBox.new _ _ _ _ _ _
  have z2 : W2.heap.size = w.heap.size + 2 := by rw [hW2]; simp; omega
  rw [← hW2]
  have b3 : Below W2.heap.size W2 (W2.alloc (.cells #[.slice none 0 0, .int .i64 0, .bool false] 85)) := (Below.refl _ _).alloc (Nat.le_refl _) _
  refine ⟨(s1.on b2).on b3, t2.on b3, ?_, b1.trans ((b2.mono (by omega)).trans (b3.mono (by omega))), by simp; omega⟩
  rw [← z2]
  exact SBox.new _ _ _ _

theorem ArP.put {w : World} {P : Nat → Prop} {va : Value} {a : List (List Int)} (h : ArP w P va a) {g : Nat} (hg : ∀ b, P b → b ≠ g) (a0 a1 a2 : Value) : ArP (((w.setCell ⟨g, 0, none⟩ a0).setCell ⟨g, 1, none⟩ a1).setCell ⟨g, 2, none⟩ a2) P va a := h.keep (fun b hb => set3_other w g _ _ _ (hg b hb))
theorem size_set3 (w : World) (g : Nat) (a0 a1 a2 : Value) : (((w.setCell ⟨g, 0, none⟩ a0).setCell ⟨g, 1, none⟩ a1).setCell ⟨g, 2, none⟩ a2).heap.size = w.heap.size := by rw [nblk_setCell, nblk_setCell, nblk_setCell]
/-- what lay gives -/
def LayR (sz : Nat) (P : Nat → Prop) (w : World) (st : St) : Ending → World → Prop := fun e w' =>
  ∃ A' n' c', e = .returned (.agg #[.slice A' n' c', .int .i64 sz, .bool st.full]) ∧ ArP w' (fun b => P b ∨ (w.heap.size ≤ b ∧ b < w'.heap.size)) (.slice A' n' c') st.a ∧ n' = st.a.length ∧ Below w.heap.size w w'
def RLayC (sz : Nat) (t : Tr) : Prop :=
  ∀ (left : Nat) (v : Value) (n : Nat) (A : Option Addr) (c : Nat) (a : List (List Int)) (f : Bool) (s i : Nat) (w : World) (P : Nat → Prop), (∀ b, P b → b < w.heap.size) → deepB t left = true → TrV w w.heap.size t v → ArP w P (.slice A n c) a → n = a.length → 0 < n → (f = false → (∃ x, Has a s i x) ∧ RoomA sz a) →
    Calls Tryd.prog 38 #[.agg #[.slice A n c, .int .i64 sz, .bool f], v, .int .i64 s, .int .i64 i] w (LayR sz P w (lay sz t ⟨a, f⟩ s i))

set_option maxRecDepth 100000 in
set_option maxHeartbeats 1000000 in
theorem rlay_none (sz : Nat) (k z : Int) (ws bs : List Int) (ks : List Tr) (v : Value) (n : Nat) (A : Option Addr) (c : Nat) (a : List (List Int)) (f : Bool) (s i : Nat) (w : World) (P : Nat → Prop) (hPw : ∀ b, P b → b < w.heap.size) (h0 : k = 0 ∨ f = true) (hT : TrV w w.heap.size (.mk k z ws bs ks) v) (hA : ArP w P (.slice A n c) a) (hn : n = a.length) :
    Calls Tryd.prog 38 #[.agg #[.slice A n c, .int .i64 sz, .bool f], v, .int .i64 s, .int .i64 i] w (LayR sz P w (lay sz (.mk k z ws bs ks) ⟨a, f⟩ s i)) := by
  have hl : lay sz (.mk k z ws bs ks) ⟨a, f⟩ s i = ⟨a, f⟩ := by
    unfold lay
    rw [if_pos h0]
  rw [hl]
  clear hl
  unfold LayR
  dsimp only
  obtain ⟨A1, c1, A2, c2, A3, c3, rfl, -⟩ := hT.parts
  clear hT
  generalize ws.length = nw at *
  generalize bs.length = nb at *
  generalize ks.length = nk at *
  obtain ⟨s3, t3, r3, b3, z3⟩ := lay_boxes w (.slice A n c) sz f k z (.slice A1 nw c1) (.slice A2 nb c2) (.slice A3 nk c3)
  obtain ⟨W3, hW3⟩ : ∃ W3, W3 = layW w (.slice A n c) sz f k z (.slice A1 nw c1) (.slice A2 nb c2) (.slice A3 nk c3) := ⟨_, rfl⟩
  rw [← hW3] at s3 t3 r3 b3 z3
  obtain ⟨W4, hW4⟩ : ∃ W4, W4 = ((W3.setCell ⟨w.heap.size + 2, 0, none⟩ (.slice A n c)).setCell ⟨w.heap.size + 2, 1, none⟩ (.int .i64 sz)).setCell ⟨w.heap.size + 2, 2, none⟩ (.bool f) := ⟨_, rfl⟩
  have r4 : SBox W4 (w.heap.size + 2) (.slice A n c) sz f := by rw [hW4]; exact r3.set3 _ _ _
  have b4 : Below w.heap.size w W4 := by rw [hW4]; exact below_set3 b3 (by omega) _ _ _
  have HR4 := Lib.hid r4
  have hA4 : ArP W4 (fun b => P b ∨ (w.heap.size ≤ b ∧ b < W4.heap.size)) (.slice A n c) a := (hA.keep (fun b hb => b4.block b (hPw b hb))).mono (fun b hb => .inl hb)
  have HFin := Lib.hid (And.intro hA4 (And.intro hn b4))
  obtain ⟨x0, x1, x2⟩ := s3.cells
  obtain ⟨d0, d1, d2, d3, d4⟩ := t3.cells
  obtain ⟨y0, y1, y2⟩ := r3.cells
  have f0 := r3.frozen 0
  have f1 := r3.frozen 1
  have f2 := r3.frozen 2
  unfold layW cellsT at hW3
  unfold cellsT
  clear hA hA4 hn r4 b4 s3 t3 r3 b3 z3
  by_cases hk : k = 0
  · subst hk
    clear h0
    go_enter Tryd.func38, Tryd.ntmps38
    go_upto_region 1 with fail
    rw [← hW3]
    clear hW3
    go_wp2_with fail
    rw [← hW4]
    obtain ⟨e0, e1, e2⟩ := HR4.out.cells
    refine bodyPost_ret (v := .agg #[.slice A n c, .int .i64 sz, .bool f]) ?_ rfl ⟨_, _, _, rfl, HFin.out⟩
    simp [results, Tryd.f38, go_sem, e0, e1, e2]
  · obtain rfl : f = true := h0.resolve_left hk
    have hk0 : (k == 0) = false := beq_eq_false_iff_ne.2 hk
    clear h0 hk
    go_enter Tryd.func38, Tryd.ntmps38
    go_upto_region 1 with fail
    rw [← hW3]
    clear hW3
    go_wp2_with fail
    rw [← hW4]
    obtain ⟨e0, e1, e2⟩ := HR4.out.cells
    refine bodyPost_ret (v := .agg #[.slice A n c, .int .i64 sz, .bool true]) ?_ rfl ⟨_, _, _, rfl, HFin.out⟩
    simp [results, Tryd.f38, go_sem, e0, e1, e2]

/-- what stands in lay's two boxes that are read -/
def LCells (w : World) (va : Value) (sz : Int) (f : Bool) (k z : Int) (vw vb vk : Value) (X : World) : Prop :=
  X.cell? ⟨w.heap.size, 0, none⟩ = some va ∧ X.cell? ⟨w.heap.size, 1, none⟩ = some (.int .i64 sz) ∧ X.cell? ⟨w.heap.size, 2, none⟩ = some (.bool f) ∧ X.cell? ⟨w.heap.size + 1, 0, none⟩ = some (.int .i64 k) ∧ X.cell? ⟨w.heap.size + 1, 1, none⟩ = some (.int .i64 z) ∧ X.cell? ⟨w.heap.size + 1, 2, none⟩ = some vw ∧ X.cell? ⟨w.heap.size + 1, 3, none⟩ = some vb ∧ X.cell? ⟨w.heap.size + 1, 4, none⟩ = some vk
theorem lcells {w X : World} {va : Value} {sz : Int} {f : Bool} {k z : Int} {vw vb vk : Value} (h : SBox X w.heap.size va sz f) (h' : TBox X (w.heap.size + 1) k z vw vb vk) : LCells w va sz f k z vw vb vk X := ⟨h.cells.1, h.cells.2.1, h.cells.2.2, h'.cells⟩

set_option maxRecDepth 100000 in
set_option maxHeartbeats 1000000 in
theorem rlay_zero (sz : Nat) (k z : Int) (ws bs : List Int) (ks : List Tr) (left : Nat) (v : Value) (n : Nat) (A : Option Addr) (c : Nat) (a : List (List Int)) (s i : Nat) (w : World) (P : Nat → Prop) (hPw : ∀ b, P b → b < w.heap.size) (hk : k ≠ 0) (hd : deepB (.mk k z ws bs ks) left = true) (hn0 : needT (.mk k z ws bs ks) = 0) (hT : TrV w w.heap.size (.mk k z ws bs ks) v) (hA : ArP w P (.slice A n c) a) (hn : n = a.length)
    (hH : ∃ x, Has a s i x) (hR : RoomA sz a) (hsz : sz ≤ 4096) :
    Calls Tryd.prog 38 #[.agg #[.slice A n c, .int .i64 sz, .bool false], v, .int .i64 s, .int .i64 i] w (LayR sz P w (lay sz (.mk k z ws bs ks) ⟨a, false⟩ s i)) := by
  obtain ⟨hk2, -, -⟩ := need_one hd hk
  obtain ⟨x, hx⟩ := hH
  obtain ⟨hs, hi⟩ := hx.lt
  obtain ⟨off, hoff⟩ : ∃ off : Int, off = if k = 1 then -1 else 0 := ⟨_, rfl⟩
  have hl : lay sz (.mk k z ws bs ks) ⟨a, false⟩ s i = ⟨setA a s i (nearW (.mk k z ws bs ks) off), false⟩ := by
    rw [lay_noth s i hk rfl hn0, ← hoff]
    rfl
  rw [hl]
  clear hl
  unfold LayR
  dsimp only
  have hal : n = (setA a s i (nearW (.mk k z ws bs ks) off)).length := by rw [setA_len]; exact hn
  have HNe := Lib.hid (fun X (hX : Below w.heap.size w X) => rnear_any k z ws bs ks v off X (hT.on hX))
  have HNd := Lib.hid (fun X (hX : Below w.heap.size w X) => rneed_any _ v X (hT.on hX))
  rw [hn0] at HNd
  have HSet := Lib.hid (fun X (hX : Below w.heap.size w X) => rset_any n A c a sz false s i (nearW (.mk k z ws bs ks) off) X P (fun b hb => Nat.lt_of_lt_of_le (hPw b hb) hX.size) (hA.keep (fun b hb => hX.block b (hPw b hb))) hn (by omega) hi (by have := hR.2.1; omega) (Nat.le_trans (hR.at_ s) (by omega)))
  obtain ⟨A1, c1, A2, c2, A3, c3, rfl, -⟩ := hT.parts
  clear hT
  generalize nearW (.mk k z ws bs ks) off = N at *
  generalize setA a s i N = a2 at *
  generalize ws.length = nw at *
  generalize bs.length = nb at *
  generalize ks.length = nk at *
  obtain ⟨s3, t3, r3, b3, z3⟩ := lay_boxes w (.slice A n c) sz false k z (.slice A1 nw c1) (.slice A2 nb c2) (.slice A3 nk c3)
  obtain ⟨W3, hW3⟩ : ∃ W3, W3 = layW w (.slice A n c) sz false k z (.slice A1 nw c1) (.slice A2 nb c2) (.slice A3 nk c3) := ⟨_, rfl⟩
  rw [← hW3] at s3 t3 r3 b3 z3
  have HS3 := Lib.hid s3
  have HT3 := Lib.hid t3
  have HR3 := Lib.hid r3
  have HB3 := Lib.hid b3
  have HPw := Lib.hid hPw
  have hk0 : (k == 0) = false := beq_eq_false_iff_ne.2 hk
  obtain ⟨x0, x1, x2⟩ := s3.cells
  obtain ⟨d0, d1, d2, d3, d4⟩ := t3.cells
  unfold layW cellsT at hW3
  unfold cellsT at HNe HNd ⊢
  have Hal := Lib.hid hal
  have Hoff := Lib.hid hoff
  clear hA hPw s3 t3 r3 b3 hx hR hn hn0 hd hs hi hal hoff
  have hkk : k = 1 ∨ k = 2 := hk2
  clear hk2 hk
  go_enter Tryd.func38, Tryd.ntmps38
  go_upto_region 1 with fail
  rw [← hW3]
  clear hW3
  go_wp2_with fail
  refine (HNd.out _ HB3.out).mono ?_
  rintro e w4 ⟨rfl, hB4⟩
  have hB4w := HB3.out.trans (hB4.mono (by omega))
  have hz4 : w.heap.size + 3 ≤ w4.heap.size := by have := hB4.size; omega
  have HCell : Hid (∀ X, Below w4.drew.heap.size w4.drew X → LCells w (.slice A n c) sz false k z (.slice A1 nw c1) (.slice A2 nb c2) (.slice A3 nk c3) X) := Lib.hid (fun X hX => lcells ((HS3.out.on hB4).on (below_drew_in hX)) ((HT3.out.on hB4).on (below_drew_in hX)))
  have HNr := Lib.hid (HNe.out w4.drew hB4w.drew)
  have HSt := Lib.hid (fun X (hX : Below w4.drew.heap.size w4.drew X) => (HSet.out X (hB4w.trans ((below_drew_in hX).mono (by omega)))).mono (R' := fun e w' => ∃ A' c', e = .returned (.agg #[.slice A' n c', .int .i64 sz, .bool false]) ∧ w'.cell? ⟨w.heap.size + 2, 0, none⟩ = some (.slice none 0 0) ∧ w'.cell? ⟨w.heap.size + 2, 1, none⟩ = some (.int .i64 0) ∧ w'.cell? ⟨w.heap.size + 2, 2, none⟩ = some (.bool false) ∧ w'.frozen? ⟨w.heap.size + 2, 0, none⟩ = false ∧ w'.frozen? ⟨w.heap.size + 2, 1, none⟩ = false ∧ w'.frozen? ⟨w.heap.size + 2, 2, none⟩ = false ∧
    (SBox (((w'.setCell ⟨w.heap.size + 2, 0, none⟩ (.slice A' n c')).setCell ⟨w.heap.size + 2, 1, none⟩ (.int .i64 sz)).setCell ⟨w.heap.size + 2, 2, none⟩ (.bool false)) (w.heap.size + 2) (.slice A' n c') sz false ∧ ArP (((w'.setCell ⟨w.heap.size + 2, 0, none⟩ (.slice A' n c')).setCell ⟨w.heap.size + 2, 1, none⟩ (.int .i64 sz)).setCell ⟨w.heap.size + 2, 2, none⟩ (.bool false)) (fun b => P b ∨ (w.heap.size ≤ b ∧ b < (((w'.setCell ⟨w.heap.size + 2, 0, none⟩ (.slice A' n c')).setCell ⟨w.heap.size + 2, 1, none⟩ (.int .i64 sz)).setCell ⟨w.heap.size + 2, 2, none⟩ (.bool false)).heap.size)) (.slice A' n c') a2 ∧ n = a2.length ∧ Below w.heap.size w (((w'.setCell ⟨w.heap.size + 2, 0, none⟩ (.slice A' n c')).setCell ⟨w.heap.size + 2, 1, none⟩ (.int .i64 sz)).setCell ⟨w.heap.size + 2, 2, none⟩ (.bool false)))) (by
      rintro e w' ⟨A', c', rfl, hAr, hBs⟩
      have hXs := (below_drew_in hX).size
      have hr := (HR3.out.on hB4).on ((below_drew_in hX).trans (hBs.mono hXs))
      have hbw := (hB4w.trans ((below_drew_in hX).mono (by omega))).trans (hBs.mono (by omega))
      refine ⟨A', c', rfl, hr.cells.1, hr.cells.2.1, hr.cells.2.2, hr.frozen 0, hr.frozen 1, hr.frozen 2, hr.set3 _ _ _, ?_, Hal.out, below_set3 hbw (by omega) _ _ _⟩
      rw [size_set3]
      exact (hAr.put (fun b hb => by rcases hb with hb | hb; have := HPw.out b hb; omega; omega) _ _ _).mono (fun b hb => by rcases hb with hb | hb; exact .inl hb; exact .inr ⟨by omega, hb.2⟩)))
  have hC4 := lcells (HS3.out.on hB4) (HT3.out.on hB4)
  unfold LCells at HCell hC4
  obtain ⟨u0, u1, u2, u3, u4, u5, u6, u7⟩ := hC4
  clear hB4 hB4w HNe HNd HSet x0 x1 x2 d0 d1 d2 d3 d4
  have hDD : Below w4.drew.heap.size w4.drew w4.drew := Below.refl _ _
  obtain ⟨x0, x1, x2, d0, d1, d2, d3, d4⟩ := HCell.out _ hDD
  rcases hkk with rfl | rfl
  · obtain rfl : off = -1 := by rw [Hoff.out]; rfl
    go_wp2_with fail
    go_region_law (first | (go_simp; go_at_call 61; with_reducible refine HNr.out.mono ?_; rintro e w5 ⟨rfl, hB0⟩; have HC := Lib.hid (HSt.out w5 hB0); obtain ⟨x0, x1, x2, d0, d1, d2, d3, d4⟩ := HCell.out w5 hB0) | (go_simp; go_at_call 60; with_reducible refine HC.out.mono ?_; rintro e w6 ⟨A', c', rfl, y0, y1, y2, f0, f1, f2, hfin⟩; have HFin := Lib.hid hfin; clear hfin))
    all_goals go_wp2_with fail
    all_goals obtain ⟨e0, e1, e2⟩ := HFin.out.1.cells
    all_goals refine bodyPost_ret (v := .agg #[.slice A' n c', .int .i64 sz, .bool false]) ?_ rfl ⟨_, _, _, rfl, HFin.out.2⟩
    all_goals simp [results, Tryd.f38, go_sem, e0, e1, e2]
  · obtain rfl : off = 0 := by rw [Hoff.out]; rfl
    go_wp2_with fail
    go_region_law (first | (go_simp; go_at_call 61; with_reducible refine HNr.out.mono ?_; rintro e w5 ⟨rfl, hB0⟩; have HC := Lib.hid (HSt.out w5 hB0); obtain ⟨x0, x1, x2, d0, d1, d2, d3, d4⟩ := HCell.out w5 hB0) | (go_simp; go_at_call 60; with_reducible refine HC.out.mono ?_; rintro e w6 ⟨A', c', rfl, y0, y1, y2, f0, f1, f2, hfin⟩; have HFin := Lib.hid hfin; clear hfin))
    all_goals go_wp2_with fail
    all_goals obtain ⟨e0, e1, e2⟩ := HFin.out.1.cells
    all_goals refine bodyPost_ret (v := .agg #[.slice A' n c', .int .i64 sz, .bool false]) ?_ rfl ⟨_, _, _, rfl, HFin.out.2⟩
    all_goals simp [results, Tryd.f38, go_sem, e0, e1, e2]

end Go.Proofs.YtdfldfnjjjcleaaDoor
