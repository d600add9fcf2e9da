/-
  Layer 5, the document's functions: At, Next.
-/
import Derived.Test.YtlhfgiffdfcplaaTimRef
namespace Go.Proofs.Ytlhfgiffdfcplaa
open Go.RowKit Go.Deep

def isKey (key : Int) (s : Sp) : Bool := s.1 == key
def atI (l : List Sp) (key : Int) : Int := ((l.find? (isKey key)).map (·.2)).getD 0
def atB (l : List Sp) (key : Int) : Bool := (l.find? (isKey key)).isSome
theorem at_next {l : List Sp} {key : Int} {t : Nat} (ht : t < l.length) (h : (l.take t).find? (isKey key) = none) (hk : isKey key (l[t]?.getD (0, 0)) = false) : (l.take (t + 1)).find? (isKey key) = none := by
  rw [List.take_add_one, List.find?_append, h]
  simp only [List.getElem?_eq_getElem ht, Option.getD_some] at hk ⊢
  simp [hk]
theorem at_found {l : List Sp} {key : Int} {t : Nat} (ht : t < l.length) (h : (l.take t).find? (isKey key) = none) (hk : isKey key (l[t]?.getD (0, 0)) = true) : l.find? (isKey key) = some (l[t]?.getD (0, 0)) := by
  have e : l = l.take t ++ l.drop t := (List.take_append_drop t l).symm
  have e2 := drop_consT ht
  conv => lhs; rw [e]
  rw [List.find?_append, h, e2]
  simp [hk]

set_option maxRecDepth 100000 in
set_option maxHeartbeats 1000000 in
theorem rat_any (v : Value) (l : List Sp) (key : Int) (B : Nat) (w : World) (h : Spans w B v l) (hlen : l.length ≤ 1000000) :
    Calls Try.prog 25 #[v, .int .i64 key] w fun e w' => e = .returned (.tuple #[.int .i64 (atI l key), .bool (atB l key)]) ∧ w = w' := by
  obtain ⟨A, c, rfl, hc, hm, hr⟩ := h
  obtain ⟨len, hn⟩ : ∃ n, n = l.length := ⟨_, rfl⟩
  have H := Lib.hid hr
  have HN := Lib.hid hn
  have hlen' : len ≤ 1000000 := by omega
  rw [← hn]
  clear hr hn hlen hc
  go_enter Try.func25, Try.ntmps25
  go_wp2_with fail
  go_loop [6] (fun i => ∃ t : Nat, t ≤ len ∧ i = .int .i64 t ∧ (l.take t).find? (isKey key) = none) (fun i => len - (intOf i).toNat)
  case atStart => exact ⟨0, by omega, rfl, rfl⟩
  case round =>
    obtain ⟨t, ht, rfl, hf⟩ := hrel
    have HF := Lib.hid hf
    clear hf
    by_cases hlt : t < len
    · obtain ⟨b, off, rfl, hb, hcell⟩ := H.out (by rw [← HN.out]; omega)
      obtain ⟨hc0, hc1⟩ := hcell t (by rw [← HN.out]; exact hlt)
      have HNx := Lib.hid (at_next (l := l) (key := key) (t := t) (by rw [← HN.out]; exact hlt) HF.out)
      have HFd := Lib.hid (at_found (l := l) (key := key) (t := t) (by rw [← HN.out]; exact hlt) HF.out)
      clear hcell
      obtain ⟨u, hu⟩ : ∃ u, l[t]?.getD (0, 0) = u := ⟨_, rfl⟩
      rw [hu] at hc0 hc1 HNx HFd
      clear hu
      obtain ⟨x, y⟩ := u
      simp only at hc0 hc1
      cases hk : (x == key) with
      | true =>
        have HI : Hid (y = atI l key) := Lib.hid (by unfold atI; rw [HFd.out hk]; rfl)
        have HB : Hid (true = atB l key) := Lib.hid (by unfold atB; rw [HFd.out hk]; rfl)
        go_wp2_with fail
        go_ret2
        exact ⟨by rw [← HI.out, ← HB.out]; rfl, rfl⟩
      | false =>
        have HX := Lib.hid (HNx.out hk)
        go_wp2_with fail
        go_round
        case rel => exact ⟨t + 1, by omega, by go_num, HX.out⟩
        case measure => simp [intOf]; omega
    · obtain rfl : t = len := by omega
      have hno : l.find? (isKey key) = none := by have := HF.out; rwa [HN.out, List.take_length] at this
      have HI : Hid (0 = atI l key) := Lib.hid (by unfold atI; rw [hno]; rfl)
      have HB : Hid (false = atB l key) := Lib.hid (by unfold atB; rw [hno]; rfl)
      clear hno
      go_wp2_with fail
      go_ret2
      exact ⟨by rw [← HI.out, ← HB.out]; rfl, rfl⟩

theorem BoxT.other2 {w : World} {g g' : Nat} {x y : Int} (h : BoxT w g x y) (hg : g ≠ g') (u v : Value) : BoxT ((w.setCell ⟨g', 0, none⟩ u).setCell ⟨g', 1, none⟩ v) g x y :=
  h.of_block ((blk_setCell_other _ _ _ _ (by show g ≠ g'; omega)).trans (blk_setCell_other _ _ _ _ (by show g ≠ g'; omega)))

/-! ### Next -/
/-- s comes ahead of b -/
def ahead (s b : Sp) : Bool := decide (s.2 < b.2) || (decide (s.2 = b.2) && decide (s.1 < b.1))
def nextTo (l : List Sp) : Nat → Sp
  | 0 => (0, 0)
  | t + 1 => if t = 0 ∨ ahead (l[t]?.getD (0, 0)) (nextTo l t) = true then l[t]?.getD (0, 0) else nextTo l t
def nextL (l : List Sp) : Sp := nextTo l l.length

set_option maxRecDepth 100000 in
set_option maxHeartbeats 1000000 in
theorem rnext_any (v : Value) (l : List Sp) (w : World) (h : Spans w w.heap.size v l) (hlen : l.length ≤ 1000000) :
    Calls Try.prog 24 #[v] w fun e w' => e = .returned (.tuple #[.agg #[.int .i64 (nextL l).1, .int .i64 (nextL l).2], .bool (decide (0 < l.length))]) ∧ Below w.heap.size w w' := by
  obtain ⟨A, c, rfl, hc, hm, hr⟩ := h
  obtain ⟨len, hn⟩ : ∃ n, n = l.length := ⟨_, rfl⟩
  have H := Lib.hid hr
  have HN := Lib.hid hn
  have hlen' : len ≤ 1000000 := by omega
  rw [← hn]
  clear hr hn hlen hc
  go_enter Try.func24, Try.ntmps24
  go_wp2_with fail
  have hW0 : BoxT ((w.alloc (.cells #[.int .i64 0, .int .i64 0] 63)).alloc (.cells #[.int .i64 0, .int .i64 0] 63)) w.heap.size 0 0 := (BoxT.new w 0 0).of_block (Below.heap_alloc _ _ _ (by simp))
  have hW1 : BoxT ((w.alloc (.cells #[.int .i64 0, .int .i64 0] 63)).alloc (.cells #[.int .i64 0, .int .i64 0] 63)) (w.heap.size + 1) 0 0 := by have := BoxT.new (w.alloc (.cells #[.int .i64 0, .int .i64 0] 63)) 0 0; rwa [show (w.alloc (.cells #[.int .i64 0, .int .i64 0] 63)).heap.size = w.heap.size + 1 by simp] at this
  have hWB : Below w.heap.size w ((w.alloc (.cells #[.int .i64 0, .int .i64 0] 63)).alloc (.cells #[.int .i64 0, .int .i64 0] 63)) := ((Below.refl _ _).alloc (Nat.le_refl _) _).alloc (by simp) _
  generalize ((w.alloc (.cells #[.int .i64 0, .int .i64 0] 63)).alloc (.cells #[.int .i64 0, .int .i64 0] 63)) = W at *
  have HW0 := Lib.hid hW0
  have HW1 := Lib.hid hW1
  have HWB := Lib.hid hWB
  clear hW0 hW1 hWB
  go_loopw [5] (fun i wr => ∃ t : Nat, t ≤ len ∧ i = .int .i64 t ∧ BoxT wr w.heap.size 0 0 ∧ BoxT wr (w.heap.size + 1) (nextTo l t).1 (nextTo l t).2 ∧ Below w.heap.size w wr) (fun i _ => len - (intOf i).toNat)
  case atStart => exact ⟨0, by omega, rfl, HW0.out, HW1.out, HWB.out⟩
  case round =>
    obtain ⟨t, ht, rfl, hb0, hb1, hB⟩ := hrel
    have HB0 := Lib.hid hb0
    have HB1 := Lib.hid hb1
    obtain ⟨p, hp⟩ : ∃ p, nextTo l t = p := ⟨_, rfl⟩
    have HPn := Lib.hid hp
    rw [hp] at HB1
    obtain ⟨p, q⟩ := p
    obtain ⟨n0, n1⟩ := HB1.out.cells
    have hf0 := HB1.out.frozen 0
    have hf1 := HB1.out.frozen 1
    simp only at n0 n1
    clear hb0 hb1 hp
    by_cases hlt : t < len
    · obtain ⟨b, off, rfl, hb, hcell⟩ := H.out (by rw [← HN.out]; omega)
      obtain ⟨u0, u1⟩ := hcell t (by rw [← HN.out]; exact hlt)
      have hc0 := (hB.cell (p := ⟨b, off + t * 2, none⟩) hb).trans u0
      have hc1 := (hB.cell (p := ⟨b, off + t * 2 + 1, none⟩) hb).trans u1
      have HNx : Hid (nextTo l (t + 1) = if t = 0 ∨ ahead (l[t]?.getD (0, 0)) (p, q) = true then l[t]?.getD (0, 0) else (p, q)) := Lib.hid (by rw [nextTo, HPn.out])
      clear hcell u0 u1
      obtain ⟨u, hu⟩ : ∃ u, l[t]?.getD (0, 0) = u := ⟨_, rfl⟩
      rw [hu] at hc0 hc1 HNx
      clear hu
      obtain ⟨x, y⟩ := u
      simp only at hc0 hc1
      have w0 : (0 : Int) ≤ (t : Int) := by omega
      have w1 : (t : Int) < (len : Int) := by omega
      by_cases h0 : t = 0
      · have d0 : ((t : Int) == 0) = true := by rw [beq_iff_eq]; omega
        have HS : Hid (nextTo l (t + 1) = (x, y)) := Lib.hid (by rw [HNx.out, if_pos (.inl h0)])
        clear h0
        go_wp2_with fail
        go_quiet (fail)
        have b0 : BoxT (wr.drewN nq) w.heap.size 0 0 := HB0.out
        have b1 : BoxT (wr.drewN nq) (w.heap.size + 1) p q := HB1.out
        have hB2 : Below w.heap.size w (wr.drewN nq) := below_drewN hB nq
        have hd0 : (wr.drewN nq).cell? ⟨b, off + t * 2, none⟩ = some (.int .i64 x) := hc0
        have hd1 : (wr.drewN nq).cell? ⟨b, off + t * 2 + 1, none⟩ = some (.int .i64 y) := hc1
        generalize wr.drewN nq = W2 at *
        clear hc0 hc1 n0 n1 hf0 hf1 HB0 HB1 hB
        obtain ⟨n0, n1⟩ := b1.cells
        have hf0 := b1.frozen 0
        have hf1 := b1.frozen 1
        have HX := Lib.hid (And.intro (b0.other2 (g' := w.heap.size + 1) (by omega) (.int .i64 x) (.int .i64 y)) (And.intro (b1.set x y) ((hB2.setCell (p := ⟨w.heap.size + 1, 0, none⟩) (by show w.heap.size ≤ w.heap.size + 1; omega) (.int .i64 x)).setCell (p := ⟨w.heap.size + 1, 1, none⟩) (by show w.heap.size ≤ w.heap.size + 1; omega) (.int .i64 y))))
        clear b0 b1 hB2
        go_wp2_with fail
        go_roundw
        case rel => exact ⟨t + 1, by omega, by go_num, HX.out.1, by rw [HS.out]; exact HX.out.2.1, HX.out.2.2⟩
        case measure => simp [intOf]; omega
      · have d0 : ((t : Int) == 0) = false := by rw [beq_eq_false_iff_ne]; omega
        by_cases h1 : y < q
        · have d1 : decide (y < q) = true := decide_eq_true h1
          have HS : Hid (nextTo l (t + 1) = (x, y)) := Lib.hid (by rw [HNx.out, if_pos (.inr (by simp [ahead, h1]))])
          clear h0 h1
          go_wp2_with fail
          go_quiet (fail)
          have b0 : BoxT (wr.drewN nq) w.heap.size 0 0 := HB0.out
          have b1 : BoxT (wr.drewN nq) (w.heap.size + 1) p q := HB1.out
          have hB2 : Below w.heap.size w (wr.drewN nq) := below_drewN hB nq
          have hd0 : (wr.drewN nq).cell? ⟨b, off + t * 2, none⟩ = some (.int .i64 x) := hc0
          have hd1 : (wr.drewN nq).cell? ⟨b, off + t * 2 + 1, none⟩ = some (.int .i64 y) := hc1
          generalize wr.drewN nq = W2 at *
          clear hc0 hc1 n0 n1 hf0 hf1 HB0 HB1 hB
          obtain ⟨n0, n1⟩ := b1.cells
          have hf0 := b1.frozen 0
          have hf1 := b1.frozen 1
          have HX := Lib.hid (And.intro (b0.other2 (g' := w.heap.size + 1) (by omega) (.int .i64 x) (.int .i64 y)) (And.intro (b1.set x y) ((hB2.setCell (p := ⟨w.heap.size + 1, 0, none⟩) (by show w.heap.size ≤ w.heap.size + 1; omega) (.int .i64 x)).setCell (p := ⟨w.heap.size + 1, 1, none⟩) (by show w.heap.size ≤ w.heap.size + 1; omega) (.int .i64 y))))
          clear b0 b1 hB2
          go_wp2_with fail
          go_roundw
          case rel => exact ⟨t + 1, by omega, by go_num, HX.out.1, by rw [HS.out]; exact HX.out.2.1, HX.out.2.2⟩
          case measure => simp [intOf]; omega
        · have d1 : decide (y < q) = false := decide_eq_false h1
          by_cases h2 : y = q
          · have d2 : (y == q) = true := by rw [beq_iff_eq]; exact h2
            by_cases h3 : x < p
            · have d3 : decide (x < p) = true := decide_eq_true h3
              have HS : Hid (nextTo l (t + 1) = (x, y)) := Lib.hid (by rw [HNx.out, if_pos (.inr (by simp [ahead, h2, h3]))])
              clear h0 h1 h2 h3
              go_wp2_with fail
              go_quiet (fail)
              have b0 : BoxT (wr.drewN nq) w.heap.size 0 0 := HB0.out
              have b1 : BoxT (wr.drewN nq) (w.heap.size + 1) p q := HB1.out
              have hB2 : Below w.heap.size w (wr.drewN nq) := below_drewN hB nq
              have hd0 : (wr.drewN nq).cell? ⟨b, off + t * 2, none⟩ = some (.int .i64 x) := hc0
              have hd1 : (wr.drewN nq).cell? ⟨b, off + t * 2 + 1, none⟩ = some (.int .i64 y) := hc1
              generalize wr.drewN nq = W2 at *
              clear hc0 hc1 n0 n1 hf0 hf1 HB0 HB1 hB
              obtain ⟨n0, n1⟩ := b1.cells
              have hf0 := b1.frozen 0
              have hf1 := b1.frozen 1
              have HX := Lib.hid (And.intro (b0.other2 (g' := w.heap.size + 1) (by omega) (.int .i64 x) (.int .i64 y)) (And.intro (b1.set x y) ((hB2.setCell (p := ⟨w.heap.size + 1, 0, none⟩) (by show w.heap.size ≤ w.heap.size + 1; omega) (.int .i64 x)).setCell (p := ⟨w.heap.size + 1, 1, none⟩) (by show w.heap.size ≤ w.heap.size + 1; omega) (.int .i64 y))))
              clear b0 b1 hB2
              go_wp2_with fail
              go_roundw
              case rel => exact ⟨t + 1, by omega, by go_num, HX.out.1, by rw [HS.out]; exact HX.out.2.1, HX.out.2.2⟩
              case measure => simp [intOf]; omega
            · have d3 : decide (x < p) = false := decide_eq_false h3
              have HS : Hid (nextTo l (t + 1) = (p, q)) := Lib.hid (by rw [HNx.out, if_neg (by simp [ahead, h0, h2]; omega)])
              clear h0 h1 h2 h3
              go_wp2_with fail
              go_quiet (fail)
              have hB2 : Below w.heap.size w (wr.drewN nq) := below_drewN hB nq
              go_wp2_with fail
              go_roundw
              case rel => exact ⟨t + 1, by omega, by go_num, HB0.out, by rw [HS.out]; exact HB1.out, hB2⟩
              case measure => simp [intOf]; omega
          · have d2 : (y == q) = false := by rw [beq_eq_false_iff_ne]; exact h2
            have HS : Hid (nextTo l (t + 1) = (p, q)) := Lib.hid (by rw [HNx.out, if_neg (by simp [ahead, h0, h2]; omega)])
            clear h0 h1 h2
            go_wp2_with fail
            go_quiet (fail)
            have hB2 : Below w.heap.size w (wr.drewN nq) := below_drewN hB nq
            go_wp2_with fail
            go_roundw
            case rel => exact ⟨t + 1, by omega, by go_num, HB0.out, by rw [HS.out]; exact HB1.out, hB2⟩
            case measure => simp [intOf]; omega
    · obtain rfl : t = len := by omega
      have HE : Hid (nextL l = (p, q)) := Lib.hid (by unfold nextL; rw [← HN.out]; exact HPn.out)
      have HE2 : Hid (decide ((0 : Int) < (t : Int)) = decide (0 < t)) := Lib.hid (by congr 1; apply propext; omega)
      obtain ⟨r0, r1⟩ := HB0.out.cells
      have rf0 := HB0.out.frozen 0
      have rf1 := HB0.out.frozen 1
      have hB2 := (hB.setCell (p := ⟨w.heap.size, 0, none⟩) (Nat.le_refl _) (.int .i64 p)).setCell (p := ⟨w.heap.size, 1, none⟩) (Nat.le_refl _) (.int .i64 q)
      have HB2 := Lib.hid hB2
      clear hB2
      have b5 := HB0.out.set p q
      go_wp2_with fail
      generalize (wr.setCell ⟨w.heap.size, 0, none⟩ (.int .i64 p)).setCell ⟨w.heap.size, 1, none⟩ (.int .i64 q) = W3 at *
      obtain ⟨k0, k1⟩ := b5.cells
      refine bodyPost_ret (v := .tuple #[.agg #[.int .i64 p, .int .i64 q], .bool (decide (0 < t))]) ?_ rfl ⟨by rw [HE.out], HB2.out⟩
      simp [results, Try.f24, go_sem, k0, k1]

end Go.Proofs.Ytlhfgiffdfcplaa
