/-
  Layer 8, the landed package: encoded, near, far, empty: pointers' words.
-/
import Derived.Test.YtofpjcmcpejnfaaDoorZBuNum
import Derived.Test.YtofpjcmcpejnfaaDoorZPtr

namespace Go.Proofs.YtofpjcmcpejnfaaDoor
open Go.RowKit Go.Deep

set_option maxRecDepth 100000 in
theorem encoded_any (p : Pt) (w : World) (L : Laid w) :
    Calls Tryd.prog 54 #[.agg (cellsP p)] w fun e w' => e = .returned (.int .u64 (encW p)) ∧ Below w.heap.size w w' := by
  have hb : Below w.heap.size w (w.alloc (.cells (cellsP p) 86)) := (Below.refl _ _).alloc (Nat.le_refl _) _
  have HE := Lib.hid (enc_any p _ (L.on hb))
  have HB := Lib.hid hb
  clear hb
  generalize encW p = x at *
  generalize encE p = y at *
  unfold cellsP at *
  go_enter Tryd.func54, Tryd.ntmps54
  go_wp2_with fail
  refine HE.out.mono ?_
  rintro e w2 ⟨rfl, hB⟩
  have HB2 := Lib.hid (bseq8 HB.out hB)
  clear hB
  go_wp2_with fail
  go_ret
  exact ⟨rfl, HB2.out⟩

set_option maxRecDepth 100000 in
theorem far_any (s a : Nat) (w : World) (L : Laid w) :
    Calls Tryd.prog 45 #[.int .i64 s, .int .i64 a] w fun e w' => e = .returned (.int .u64 (farW s a)) ∧ Below w.heap.size w w' := by
  have HE := Lib.hid (encoded_any ⟨3, a, 0, 0, 0, 0, s, false⟩ w L)
  have HF : Hid (encW ⟨3, a, 0, 0, 0, 0, s, false⟩ = farW s a) := Lib.hid rfl
  rw [HF.out] at HE
  clear HF
  generalize farW s a = x at *
  unfold cellsP at HE
  go_enter Tryd.func45, Tryd.ntmps45
  go_wp2_with fail
  refine HE.out.mono ?_
  rintro e w2 ⟨rfl, hB⟩
  have HB2 := Lib.hid hB
  clear hB
  go_wp2_with fail
  go_ret
  exact ⟨rfl, HB2.out⟩

/-- near of a thing that is no thing -/
theorem near_no (t : Tr) (off : Int) (h1 : t.kind ≠ 1) (h2 : t.kind ≠ 2) (h3 : t.kind ≠ 3) : nearW t off = 0 := by
  unfold nearW nearP encW
  rw [if_neg h2]
  split
  · unfold rawW
    rw [if_neg h1, if_neg h2, if_neg h3]
  · rfl
set_option maxRecDepth 100000 in
set_option maxHeartbeats 1000000 in
theorem near_any (t : Tr) (v : Value) (off : Int) (w : World) (L : Laid w) (h : TrV w w.heap.size t v) (hk : t.kind = 0 ∨ t.kind = 1 ∨ t.kind = 2) :
    Calls Tryd.prog 43 #[v, .int .i64 off] w fun e w' => e = .returned (.int .u64 (nearW t off)) ∧ Below w.heap.size w w' := by
  have hb : ∀ c : Array Value, Below w.heap.size w (w.alloc (.cells c 26)) := fun c => (Below.refl _ _).alloc (Nat.le_refl _) _
  have hct := fun W (hB : Below w.heap.size w W) => bcount_any t v W (h.on hB)
  have hen := fun p W (hB : Below w.heap.size w W) => encoded_any p W (L.on hB)
  obtain ⟨k, z, ws, bs, ks⟩ := t
  obtain ⟨A1, c1, A2, c2, A3, c3, rfl, hg, -⟩ := h.parts
  obtain ⟨g1, g2, g3, g4, g5, -⟩ := hg
  clear h L
  have HB := Lib.hid hb
  rcases hk with rfl | rfl | rfl
  · have HN : Hid (nearW (.mk 0 z ws bs ks) off = 0) := Lib.hid (near_no _ _ (by show (0 : Int) ≠ 1; decide) (by show (0 : Int) ≠ 2; decide) (by show (0 : Int) ≠ 3; decide))
    rw [HN.out]
    generalize ws.length = nw at *
    generalize ks.length = nk at *
    generalize bs.length = nb at *
    clear hct hen hb
    unfold cellsT
    go_enter Tryd.func43, Tryd.ntmps43
    go_wp2_with fail
    go_ret
    exact ⟨rfl, HB.out _⟩
  · have HE := Lib.hid (hen ⟨1, off, ws.length, ks.length, 0, 0, 0, false⟩)
    have HN : Hid (encW ⟨1, off, ws.length, ks.length, 0, 0, 0, false⟩ = nearW (.mk 1 z ws bs ks) off) := Lib.hid rfl
    rw [HN.out] at HE
    clear HN hct hen hb
    generalize nearW (.mk 1 z ws bs ks) off = x at *
    generalize ws.length = nw at *
    generalize ks.length = nk at *
    generalize bs.length = nb at *
    unfold cellsP at HE
    unfold cellsT
    go_enter Tryd.func43, Tryd.ntmps43
    go_wp2_with fail
    refine (HE.out _ (HB.out _)).mono ?_
    rintro e w2 ⟨rfl, hB⟩
    have HB2 := Lib.hid (bseq8 (HB.out _) hB)
    clear hB
    go_wp2_with fail
    go_ret
    exact ⟨rfl, HB2.out⟩
  · have HE := Lib.hid (hen ⟨2, off, 0, 0, z, (countT (.mk 2 z ws bs ks) : Nat), 0, false⟩)
    have HN : Hid (encW ⟨2, off, 0, 0, z, (countT (.mk 2 z ws bs ks) : Nat), 0, false⟩ = nearW (.mk 2 z ws bs ks) off) := Lib.hid (by
      unfold nearW nearP countT
      rw [if_pos (by rfl)]
      simp [Tr.size])
    rw [HN.out] at HE
    have HC := Lib.hid hct
    clear HN hct hen hb
    generalize nearW (.mk 2 z ws bs ks) off = x at *
    generalize countT (.mk 2 z ws bs ks) = c at *
    generalize ws.length = nw at *
    generalize ks.length = nk at *
    generalize bs.length = nb at *
    have hbx := TBox.new w 2 z (.slice A1 nw c1) (.slice A2 nb c2) (.slice A3 nk c3)
    unfold cellsT at hbx
    have HBX : Hid (TBox (w.alloc (.cells #[.int .i64 2, .int .i64 z, .slice A1 nw c1, .slice A2 nb c2, .slice A3 nk c3] 26)).drew w.heap.size 2 z (.slice A1 nw c1) (.slice A2 nb c2) (.slice A3 nk c3)) := Lib.hid hbx
    have hT0 : Below w.heap.size w (w.alloc (.cells #[.int .i64 2, .int .i64 z, .slice A1 nw c1, .slice A2 nb c2, .slice A3 nk c3] 26)).drew := (HB.out _).drew
    clear hbx
    unfold cellsP at HE
    unfold cellsT at HC ⊢
    go_enter Tryd.func43, Tryd.ntmps43
    go_wp2_with fail
    generalize w.alloc (.cells #[.int .i64 2, .int .i64 z, .slice A1 nw c1, .slice A2 nb c2, .slice A3 nk c3] 26) = W at *
    go_region_held3 (fun w' => w'.cell? ⟨w.heap.size, 0, none⟩ = some (.int .i64 2) ∧ w'.cell? ⟨w.heap.size, 1, none⟩ = some (.int .i64 z) ∧ w'.cell? ⟨w.heap.size, 2, none⟩ = some (.slice A1 nw c1) ∧ w'.cell? ⟨w.heap.size, 3, none⟩ = some (.slice A2 nb c2) ∧ w'.cell? ⟨w.heap.size, 4, none⟩ = some (.slice A3 nk c3)) (first | exact HBX.out.cells | exact (HBX.out.on hB2).cells | exact ((HBX.out.on hB2).on hB3).cells) (first
      | (go_at_call 49; with_reducible refine (HC.out _ hT0).mono ?_; rintro e w2 ⟨rfl, hB2⟩; have hC2 := bseq8 hT0 hB2)
      | (go_at_call 54; with_reducible refine (HE.out _ hC2).mono ?_; rintro e w3 ⟨rfl, hB3⟩; have hC3 := bseq8 hC2 hB3))
    all_goals go_wp2_with fail
    all_goals go_ret
    all_goals exact ⟨rfl, hC3⟩

set_option maxRecDepth 100000 in
set_option maxHeartbeats 1000000 in
theorem empty_any (t : Tr) (v : Value) (w : World) (L : Laid w) (h : TrV w w.heap.size t v) (hk : t.kind = 0 ∨ t.kind = 1 ∨ t.kind = 2) :
    Calls Tryd.prog 26 #[v] w fun e w' => e = .returned (.int .u64 (nearW t (if t.kind = 1 then -1 else 0))) ∧ Below w.heap.size w w' := by
  have hb : ∀ c : Array Value, Below w.heap.size w (w.alloc (.cells c 26)) := fun c => (Below.refl _ _).alloc (Nat.le_refl _) _
  have hne := fun off W (hB : Below w.heap.size w W) => near_any t v off W (L.on hB) (h.on hB) hk
  obtain ⟨k, z, ws, bs, ks⟩ := t
  obtain ⟨A1, c1, A2, c2, A3, c3, rfl, -⟩ := h.parts
  clear h L
  have HB := Lib.hid hb
  have HK : Hid (k = 0 ∨ k = 1 ∨ k = 2) := Lib.hid hk
  clear hb hk
  unfold Tr.kind
  dsimp only
  by_cases k1 : k = 1
  · subst k1
    rw [if_pos rfl]
    have HE := Lib.hid (hne (-1))
    clear hne
    generalize nearW (.mk 1 z ws bs ks) (-1) = x at *
    generalize ws.length = nw at *
    generalize ks.length = nk at *
    generalize bs.length = nb at *
    unfold cellsT at HE ⊢
    go_enter Tryd.func26, Tryd.ntmps26
    go_wp2_with fail
    refine (HE.out _ (HB.out _)).mono ?_
    rintro e w2 ⟨rfl, hB⟩
    have HB2 := Lib.hid (bseq8 (HB.out _) hB)
    clear hB
    go_wp2_with fail
    go_ret
    exact ⟨rfl, HB2.out⟩
  · rw [if_neg k1]
    have HE := Lib.hid (hne 0)
    clear hne
    generalize nearW (.mk k z ws bs ks) 0 = x at *
    generalize ws.length = nw at *
    generalize ks.length = nk at *
    generalize bs.length = nb at *
    unfold cellsT at HE ⊢
    go_enter Tryd.func26, Tryd.ntmps26
    go_wp2_with fail
    refine (HE.out _ (HB.out _)).mono ?_
    rintro e w2 ⟨rfl, hB⟩
    have HB2 := Lib.hid (bseq8 (HB.out _) hB)
    clear hB
    go_wp2_with fail
    go_ret
    exact ⟨rfl, HB2.out⟩

end Go.Proofs.YtofpjcmcpejnfaaDoor
