/-
  Layer 4, the program's Norm, Holes, Has, Of.
-/
import Derived.Test.YtmjgpgibifceeaaSpanSort
import Derived.Test.YtmjgpgibifceeaaSpanLong
namespace Go.Proofs.Ytmjgpgibifceeaa
open Go.RowKit Go.Deep

theorem grown_below {a b c : World} {B : Nat} {row : Option Nat} (h : Below B a b) (hg : b.grownBy c row) (hB : B ≤ b.heap.size) (hr : ∀ k, row = some k → B ≤ k) : Below B a c := h.grown hg hB hr

set_option maxRecDepth 100000 in
set_option maxHeartbeats 1000000 in
theorem norm_any (v : Value) (l : List Sp) (w : World) (h : Spans w w.heap.size v l) (hlen : l.length ≤ 1000000) :
    Calls Try.prog 17 #[v] w fun e w' => ∃ v', e = .returned v' ∧ OwnS w' w.heap.size v' (normL l) ∧ Below w.heap.size w w' := by
  have HSp := Lib.hid h
  have HLe := Lib.hid hlen
  clear h hlen
  go_enter Try.func17, Try.ntmps17
  go_wp2_with fail
  refine (sorted_any _ l _ HSp.out HLe.out).mono ?_
  rintro e w2 ⟨v2, m, rfl, hp, hs, hsp, hB2⟩
  obtain ⟨A, c, rfl, hc, hm, hr⟩ := hsp
  obtain ⟨len, hn⟩ : ∃ n, n = m.length := ⟨_, rfl⟩
  have H := Lib.hid hr
  have HN := Lib.hid hn
  have hlen' : len ≤ 1000000 := by have := hp.length_eq; have := HLe.out; omega
  have HE : Hid (m.foldl joinL [] = normL l) := Lib.hid (by rw [sorted_norm hs, perm_norm hp])
  have HB2 := Lib.hid hB2
  rw [← hn]
  clear hr hn hp hs hc hB2
  go_wp2_with fail
  go_loopw [3, 9] (fun o i wr => ∃ (t : Nat) (out : List Sp), t ≤ len ∧ i = .int .i64 t ∧ OwnS wr w2.heap.size o out ∧ out.length ≤ t ∧ (m.drop t).foldl joinL out = normL l ∧ Below w2.heap.size w2 wr) (fun _ i _ => len - (intOf i).toNat)
  case atStart => exact ⟨0, [], by omega, rfl, OwnS.nil _ _, by simp, HE.out, Below.refl _ _⟩
  case round =>
    obtain ⟨t, out, ht, rfl, hown, hol, hf, hB⟩ := hrel
    have HO := Lib.hid hown
    have HF := Lib.hid hf
    clear hown hf
    by_cases hlt : t < len
    · obtain ⟨b, off, rfl, hb, hc⟩ := H.out (by rw [← HN.out]; omega)
      obtain ⟨u0, u1⟩ := hc t (by rw [← HN.out]; exact hlt)
      have hc0 := (hB.cell (p := ⟨b, off + t * 2, none⟩) hb).trans u0
      have hc1 := (hB.cell (p := ⟨b, off + t * 2 + 1, none⟩) hb).trans u1
      have HD := Lib.hid (drop_cons (l := m) (t := t) (by rw [← HN.out]; exact hlt))
      rw [HD.out, List.foldl_cons] at HF
      clear hc u0 u1 HD
      obtain ⟨u, hu⟩ : ∃ u, m[t]?.getD (0, 0) = u := ⟨_, rfl⟩
      rw [hu] at hc0 hc1 HF
      clear hu
      obtain ⟨x, y⟩ := u
      simp only at hc0 hc1
      have hO1 : OwnS (wr.alloc (.cells #[.int .i64 x, .int .i64 y] 24)) w2.heap.size _ out := World.ownsRow.alloc HO.out _
      have hB1 := hB.alloc hB.size (.cells #[.int .i64 x, .int .i64 y] 24)
      have HJ := Lib.hid (join_any w2.heap.size _ out x y _ hO1 (by omega) hB1.size)
      have HL := Lib.hid (World.ownsRow.lt hO1)
      have HB1 := Lib.hid hB1
      clear hO1 hB1
      go_wp2_with fail
      refine HJ.out.mono ?_
      rintro e w3 ⟨v3, rfl, ho3, hg3⟩
      have hB3 : Below w2.heap.size w2 w3 := HB1.out.grown hg3 HB1.out.size (fun k e => (HL.out k e).1)
      have HO3 := Lib.hid ho3
      clear ho3 hg3
      go_wp2_with fail
      go_roundw
      case rel => exact ⟨t + 1, joinL out (x, y), by omega, by go_num, HO3.out, by have := join_length out (x, y); omega, HF.out, hB3⟩
      case measure => simp [intOf]; omega
    · obtain rfl : t = len := by omega
      have HF2 : Hid (out = normL l) := Lib.hid (by rw [← HF.out, List.drop_eq_nil_of_le (by rw [← HN.out]; exact Nat.le_refl _)]; rfl)
      go_wp2
      go_ret
      exact ⟨_, rfl, by rw [← HF2.out]; exact HO.out.base HB2.out.size, HB2.out.trans (hB.mono HB2.out.size)⟩

set_option maxRecDepth 100000 in
set_option maxHeartbeats 1000000 in
theorem holes_any (v : Value) (l : List Sp) (p q : Int) (w : World) (h : Spans w w.heap.size v l) (hl : AllS l) (hlen : l.length ≤ 1000000) :
    Calls Try.prog 19 #[v, .agg #[.int .i64 p, .int .i64 q]] w fun e w' => ∃ v', e = .returned v' ∧ OwnS w' w.heap.size v' (holesL l (p, q)) ∧ Below w.heap.size w w' := by
  have HSp := Lib.hid h
  have HA := Lib.hid hl
  have hnl := normL_length hl
  obtain ⟨A0, c0, rfl, -⟩ := h.parts
  have HLe := Lib.hid hlen
  have hbx := Box2.new w p q
  have HBX := Lib.hid hbx
  obtain ⟨cc0, cc1⟩ := hbx.cells
  have hB0 : Below w.heap.size w (w.alloc (.cells #[.int .i64 p, .int .i64 q] 24)) := (Below.refl _ _).alloc (Nat.le_refl _) _
  have HSp0 := Lib.hid (HSp.out.on hB0)
  have hsz0 : (w.alloc (.cells #[.int .i64 p, .int .i64 q] 24)).heap.size = w.heap.size + 1 := by simp
  have HSZ := Lib.hid hsz0
  clear h hl hlen hbx hsz0
  go_enter Try.func19, Try.ntmps19
  go_wp2_with fail
  refine (norm_any _ l _ HSp0.out HLe.out).mono ?_
  rintro e w2 ⟨v2, rfl, ho2, hB2⟩
  obtain ⟨A, c, rfl, hc, hm, hr⟩ := ho2.spans
  have hB3 : Below w.heap.size w w2 := hB0.trans (hB2.mono (by simp))
  have hbx2 : Box2 w2 w.heap.size p q := HBX.out.of_block (hB2.block _ (by rw [HSZ.out]; omega))
  have hlt2 := hbx2.lt
  have HBX2 := Lib.hid hbx2
  obtain ⟨len, hn⟩ : ∃ n, n = (normL l).length := ⟨_, rfl⟩
  have H := Lib.hid hr
  have HN := Lib.hid hn
  have HE := Lib.hid (hGo_is l (p, q))
  rw [← hn] at hnl ⊢
  have hnl2 : len ≤ 1000000 := by have := HLe.out; omega
  clear hr hn ho2 hbx2 cc0 cc1 hB2 hB0 hc HBX
  generalize normL l = n at *
  obtain ⟨cc0, cc1⟩ := HBX2.out.cells
  go_wp2_with fail
  go_loopw [5, 6, 14] (fun o a i wr => ∃ (t : Nat) (out : List Sp) (at_ : Int), t ≤ len ∧ i = .int .i64 t ∧ a = .int .i64 at_ ∧ OwnS wr w2.heap.size o out ∧ out.length ≤ t ∧ hGo (n.drop t) out at_ q = holesL l (p, q) ∧ Below w2.heap.size w2 wr) (fun _ _ i _ => len - (intOf i).toNat)
  case atStart => exact ⟨0, [], p, by omega, rfl, rfl, OwnS.nil _ _, by simp, HE.out, Below.refl _ _⟩
  case round =>
    clear cc0 cc1
    obtain ⟨t, out, at_, ht, rfl, rfl, hown, hol, hh, hB⟩ := hrel
    have HO := Lib.hid hown
    have HH := Lib.hid hh
    have cc0 := (hB.cell (p := ⟨w.heap.size, 0, none⟩) hlt2).trans HBX2.out.cells.1
    have cc1 := (hB.cell (p := ⟨w.heap.size, 1, none⟩) hlt2).trans HBX2.out.cells.2
    clear hown hh
    by_cases hlt : t < len
    · obtain ⟨b, off, rfl, hb, hc⟩ := H.out (by rw [← HN.out]; omega)
      obtain ⟨u0, u1⟩ := hc t (by rw [← HN.out]; exact hlt)
      have hc0 := (hB.cell (p := ⟨b, off + t * 2, none⟩) hb).trans u0
      have hc1 := (hB.cell (p := ⟨b, off + t * 2 + 1, none⟩) hb).trans u1
      have HD := Lib.hid (drop_cons (l := n) (t := t) (by rw [← HN.out]; exact hlt))
      rw [HD.out, hGo] at HH
      clear hc u0 u1 HD
      obtain ⟨u, hu⟩ : ∃ u, n[t]?.getD (0, 0) = u := ⟨_, rfl⟩
      rw [hu] at hc0 hc1 HH
      clear hu
      obtain ⟨x, y⟩ := u
      simp only at hc0 hc1
      have hO1 : OwnS (wr.alloc (.cells #[.int .i64 x, .int .i64 y] 24)) w2.heap.size _ out := World.ownsRow.alloc HO.out _
      have hB1 := hB.alloc hB.size (.cells #[.int .i64 x, .int .i64 y] 24)
      have HJ := Lib.hid (join_any w2.heap.size _ out at_ (min x q) _ hO1 (by omega) hB1.size)
      have HL := Lib.hid (World.ownsRow.lt hO1)
      have HB1 := Lib.hid hB1
      have HX := Lib.hid (Box2.new wr x y)
      have cd0 := (hB1.cell (p := ⟨w.heap.size, 0, none⟩) hlt2).trans HBX2.out.cells.1
      have cd1 := (hB1.cell (p := ⟨w.heap.size, 1, none⟩) hlt2).trans HBX2.out.cells.2
      have HLr := Lib.hid (World.ownsRow.lt HO.out)
      clear hO1 hB1
      go_wp2_with fail
      refine HJ.out.mono ?_
      rintro e w3 ⟨v3, rfl, ho3, hg3⟩
      have hB4 : Below w2.heap.size w2 w3 := HB1.out.grown hg3 HB1.out.size (fun k e => (HL.out k e).1)
      have hb3 : Box2 w3 wr.heap.size x y := HX.out.of_block (hg3.block _ (by simp) (fun e => by have := (HLr.out _ e.symm).2; omega))
      have HO3 := Lib.hid ho3
      clear ho3 hg3 cc0 cc1 cd0 cd1
      obtain ⟨e0, e1⟩ := hb3.cells
      clear hb3
      go_wp2_with fail
      go_roundw
      case rel => exact ⟨t + 1, joinL out (at_, min x q), max at_ y, by omega, by go_num, rfl, HO3.out, by have := join_length out (at_, min x q); omega, HH.out, hB4⟩
      case measure => simp [intOf]; omega
    · obtain rfl : t = len := by omega
      rw [List.drop_eq_nil_of_le (by rw [← HN.out]; exact Nat.le_refl _), hGo] at HH
      have HJ := Lib.hid (join_any w2.heap.size _ out at_ q wr HO.out (by omega) hB.size)
      have HL := Lib.hid (World.ownsRow.lt HO.out)
      go_wp2_with fail
      refine HJ.out.mono ?_
      rintro e w3 ⟨v3, rfl, ho3, hg3⟩
      have hB4 : Below w2.heap.size w2 w3 := hB.grown hg3 hB.size (fun k e => (HL.out k e).1)
      have HO3 := Lib.hid ho3
      clear ho3 hg3
      go_wp2
      go_ret
      exact ⟨_, rfl, by rw [← HH.out]; exact HO3.out.base (Nat.le_of_lt hlt2), hB3.trans (hB4.mono (Nat.le_of_lt hlt2))⟩

theorem has_any (v : Value) (l : List Sp) (p q : Int) (w : World) (h : Spans w w.heap.size v l) (hl : AllS l) (hlen : l.length ≤ 1000000) :
    Calls Try.prog 20 #[v, .agg #[.int .i64 p, .int .i64 q]] w fun e w' => e = .returned (.bool (hasL l (p, q))) ∧ Below w.heap.size w w' := by
  have HSp := Lib.hid h
  have HA := Lib.hid hl
  have HLe := Lib.hid hlen
  have hB0 : Below w.heap.size w (w.alloc (.cells #[.int .i64 p, .int .i64 q] 24)) := (Below.refl _ _).alloc (Nat.le_refl _) _
  have HS := Lib.hid (HSp.out.on hB0)
  have HB0 := Lib.hid hB0
  clear h hl hlen hB0
  go_enter Try.func20, Try.ntmps20
  go_wp2_with fail
  refine (holes_any _ l p q _ HS.out HA.out HLe.out).mono ?_
  rintro e w2 ⟨v2, rfl, ho2, hB2⟩
  obtain ⟨A, c, rfl, -⟩ := ho2.spans
  have HB2 := Lib.hid hB2
  have HL := Lib.hid (has_len l (p, q))
  clear ho2 hB2
  go_wp2
  go_ret
  exact ⟨by rw [← HL.out]; rfl, HB0.out.trans (HB2.out.mono (by simp))⟩

theorem ofTo_first (b : List Int) (t : Nat) (ht : t ≤ 8000000) : ∀ s ∈ ofTo b t, s.1 ≤ (t : Int) := by
  intro s hs
  obtain ⟨h1, h2, h3, h4⟩ := ofTo_is b t ht
  have h5 := h1.1 s hs
  have := ((h2 s.1).1 (places_mem hs (Int.le_refl _) h5)).2.1
  omega

set_option maxRecDepth 100000 in
set_option maxHeartbeats 1000000 in
theorem of_any (v : Value) (b : List Int) (w : World) (h : Bytes w w.heap.size v b) (hb : AllB b) (hlen : b.length ≤ 100000) :
    Calls Try.prog 15 #[v] w fun e w' => ∃ v', e = .returned v' ∧ OwnS w' w.heap.size v' (ofL b) ∧ Below w.heap.size w w' := by
  have HBy := Lib.hid h
  obtain ⟨A, c, rfl, -⟩ := h.parts
  obtain ⟨len, hn⟩ : ∃ n, n = b.length := ⟨_, rfl⟩
  have HN := Lib.hid hn
  have HA := Lib.hid hb
  have HI := Lib.hid (ofTo_is b)
  have HF := Lib.hid (ofTo_first b)
  have hlen' : len ≤ 100000 := by omega
  rw [← hn] at HBy ⊢
  clear h hb hn hlen
  go_enter Try.func15, Try.ntmps15
  go_wp2
  go_loopw [3, 8] (fun o i wr => ∃ t : Nat, t ≤ 8 * len ∧ i = .int .i64 t ∧ OwnS wr w.heap.size o (ofTo b t) ∧ Below w.heap.size w wr) (fun _ i _ => 8 * len - (intOf i).toNat)
  case atStart => exact ⟨0, by omega, rfl, OwnS.nil _ _, Below.refl _ _⟩
  case round =>
    obtain ⟨t, ht, rfl, hown, hB⟩ := hrel
    have HO := Lib.hid hown
    clear hown
    by_cases hlt : t < 8 * len
    · have hi : (t : Int) < 8 * (len : Int) := by omega
      obtain ⟨i1, i2, i3, i4⟩ := HI.out t (by omega)
      have HJ : Hid (joinL (ofTo b t) ((t : Nat), (t : Nat) + 1) = addL (ofTo b t) ((t : Nat), (t : Nat) + 1)) := Lib.hid (join_add i1 (HF.out t (by omega)))
      have HY := Lib.hid (HBy.out.below hB (Nat.le_refl _))
      clear i1 i2 i3
      cases hbit : bt b t with
      | true =>
        have HG : Hid (getB b (t : Int) = true) := Lib.hid (by rw [getB_nat]; exact hbit)
        have HS := Lib.hid (ofTo_on hbit)
        clear hbit
        generalize ofTo b t = cur at *
        go_wp2_with fail
        refine (bget_any _ b _ t wr HY.out HA.out (by omega) (by omega)).mono ?_
        rintro e w' ⟨rfl, rfl⟩
        rw [HG.out]
        go_wp2_with fail
        refine (join_any w.heap.size _ cur _ _ wr HO.out (by omega) hB.size).mono ?_
        rintro e w3 ⟨v3, rfl, ho3, hg3⟩
        have hB3 : Below w.heap.size w w3 := hB.grown hg3 hB.size (fun k e => (World.ownsRow.lt HO.out k e).1)
        have HO3 := Lib.hid ho3
        clear ho3 hg3
        go_wp2_with fail
        go_roundw
        case rel => exact ⟨t + 1, by omega, by go_num, by rw [HS.out, ← HJ.out]; exact HO3.out, hB3⟩
        case measure => simp [intOf]; omega
      | false =>
        have HG : Hid (getB b (t : Int) = false) := Lib.hid (by rw [getB_nat]; exact hbit)
        have HS := Lib.hid (ofTo_off hbit)
        clear hbit
        generalize ofTo b t = cur at *
        go_wp2_with fail
        refine (bget_any _ b _ t wr HY.out HA.out (by omega) (by omega)).mono ?_
        rintro e w' ⟨rfl, rfl⟩
        rw [HG.out]
        go_wp2_with fail
        go_roundw
        case rel => exact ⟨t + 1, by omega, by go_num, by rw [HS.out]; exact HO.out, hB⟩
        case measure => simp [intOf]; omega
    · have hi : 8 * (len : Int) ≤ (t : Int) := by omega
      obtain rfl : t = 8 * len := by omega
      have HO2 : Hid (ofTo b (8 * len) = ofL b) := Lib.hid (by unfold ofL; rw [← HN.out])
      rw [HO2.out] at HO
      go_wp2
      go_ret
      exact ⟨_, rfl, HO.out, hB⟩

end Go.Proofs.Ytmjgpgibifceeaa
