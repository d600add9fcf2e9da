/-
  Layer 4, the document's Has, Long and Of.
-/
import Derived.Test.YtmjgpgibifceeaaSpanHoles
import Derived.Test.YtmjgpgibifceeaaBitsNum
import Derived.IntWalk
namespace Go.Proofs.Ytmjgpgibifceeaa
open Go.RowKit Go.Deep

theorem has_len (l : List Sp) (s : Sp) : ((((holesL l s).length : Nat) : Int) == 0) = hasL l s := by
  unfold hasL
  cases holesL l s with
  | nil => rfl
  | cons t m => simp; omega

set_option maxHeartbeats 1000000 in
theorem rhas_any (v : Value) (l : List Sp) (p q : Int) (w : World) (h : Spans w w.heap.size v l) (hl : AllS l) (hlen : l.length ≤ 1000000) (p0 : -9223372036854775808 ≤ p) (p1 : p ≤ 9223372036854775807) :
    Calls Try.prog 23 #[v, .agg #[.int .i64 p, .int .i64 q]] w fun e w' => e = .returned (.bool (hasL l (p, q))) ∧ Below w.heap.size w w' := by
  have hB0 : Below w.heap.size w (w.alloc (.cells #[.int .i64 p, .int .i64 q] 24)) := (Below.refl _ _).alloc (Nat.le_refl _) _
  have HSp := Lib.hid (h.on hB0)
  have HA := Lib.hid hl
  have HLe := Lib.hid hlen
  have hbx := Box2.new w p q
  obtain ⟨cc0, cc1⟩ := hbx.cells
  have HL := Lib.hid (has_len l (p, q))
  obtain ⟨A0, c0, rfl, -⟩ := h.parts
  clear h hl hlen hbx
  go_enter Try.func23, Try.ntmps23
  go_wp2_with fail
  refine (rholes_any _ l p q _ HSp.out HA.out HLe.out p0 p1).mono ?_
  rintro e w2 ⟨v2, rfl, ho2, hB2⟩
  obtain ⟨A, c, rfl, -⟩ := ho2.spans.parts
  clear ho2
  go_wp2_with fail
  go_ret
  exact ⟨ret_bool HL.out, hB0.trans (hB2.mono (by simp))⟩

/-! ### Long -/
def total (l : List Sp) : Int := (l.map (fun s => s.2 - s.1)).sum
def longL (l : List Sp) : Int := min (total (normL l)) 9007199254740992
theorem total_cons (s : Sp) (l : List Sp) : total (s :: l) = (s.2 - s.1) + total l := by simp [total]
theorem total_append (l m : List Sp) : total (l ++ m) = total l + total m := by simp [total, List.sum_append]
theorem total_nonneg {l : List Sp} (h : RightL l) : 0 ≤ total l := by
  induction l with
  | nil => simp [total]
  | cons s l ih =>
    have := ih h.tail
    have := h.head
    rw [total_cons]; omega
theorem total_take {l : List Sp} (h : RightL l) {t : Nat} (ht : t < l.length) : total (l.take (t + 1)) = total (l.take t) + ((l[t]?.getD (0, 0)).2 - (l[t]?.getD (0, 0)).1) ∧ total (l.take (t + 1)) ≤ total l ∧ 0 ≤ total (l.take t) ∧ (l[t]?.getD (0, 0)).1 < (l[t]?.getD (0, 0)).2 := by
  have e : l.take (t + 1) = l.take t ++ [l[t]?.getD (0, 0)] := by rw [List.take_add_one]; simp [ht]
  have h1 : l.take (t + 1) ++ l.drop (t + 1) = l := List.take_append_drop _ _
  have hd : RightL (l.drop (t + 1)) := h.drop _
  have ht2 : RightL (l.take (t + 1)) := by rw [← h1] at h; exact h.left
  have ht3 : RightL (l.take t) := by rw [e] at ht2; exact ht2.left
  refine ⟨by rw [e, total_append]; simp [total], ?_, total_nonneg ht3, ht2.1 _ (by rw [e]; simp)⟩
  have h2 := congrArg total h1
  rw [total_append] at h2
  have := total_nonneg hd
  omega

theorem wrap_diff {x y : Int} (h : x < y) (x0 : -9223372036854775808 ≤ x) (y1 : y ≤ 9223372036854775807) : ∃ k, IntKind.i64.wrap (y - x) = k ∧ -9223372036854775808 ≤ k ∧ k ≤ 9223372036854775807 ∧ ((k < 0 ∧ 9223372036854775807 < y - x) ∨ (0 ≤ k ∧ k = y - x)) := by
  by_cases h1 : y - x ≤ 9223372036854775807
  · exact ⟨y - x, IntWalk.i64_in _ (by omega), by omega, by omega, .inr (by omega)⟩
  · refine ⟨y - x - 18446744073709551616, ?_, by omega, by omega, .inl (by omega)⟩
    rw [IntKind.wrap_i64]
    omega

set_option maxRecDepth 100000 in
set_option maxHeartbeats 2000000 in
theorem rlong_any (v : Value) (l : List Sp) (w : World) (h : Spans w w.heap.size v l) (hl : AllS l) (hlen : l.length ≤ 1000000) :
    Calls Try.prog 25 #[v] w fun e w' => e = .returned (.int .i64 (longL l)) ∧ Below w.heap.size w w' := by
  have HSp := Lib.hid h
  have HA := Lib.hid hl
  have HLe := Lib.hid hlen
  have hnl := normL_length hl
  have HR := Lib.hid (norm_right l)
  have HE : Hid (longL l = min (total (normL l)) 9007199254740992) := Lib.hid rfl
  clear h hl hlen
  go_enter Try.func25, Try.ntmps25
  go_wp2_with fail
  refine (rnorm_any _ l _ HSp.out HA.out HLe.out).mono ?_
  rintro e w2 ⟨v2, rfl, ho2, hB2⟩
  have hAn := normL_all HA.out
  obtain ⟨A, c, rfl, hc, hm, hr⟩ := ho2.spans
  obtain ⟨len, hn⟩ : ∃ n, n = (normL l).length := ⟨_, rfl⟩
  have H := Lib.hid hr
  have HN := Lib.hid hn
  have HAn := Lib.hid hAn
  rw [← hn] at hnl ⊢
  have hnl2 : len ≤ 1000000 := by have := HLe.out; omega
  clear hr hn hAn ho2 hc
  generalize normL l = n at *
  go_wp2_with fail
  go_loopw [4, 5] (fun s i wr => ∃ t : Nat, t ≤ len ∧ i = .int .i64 t ∧ s = .int .i64 (total (n.take t)) ∧ (0 ≤ total (n.take t) ∧ total (n.take t) ≤ 9007199254740992) ∧ Below w2.heap.size w2 wr) (fun _ i _ => len - (intOf i).toNat)
  case atStart => exact ⟨0, by omega, rfl, rfl, by simp [total], Below.refl _ _⟩
  case round =>
    obtain ⟨t, ht, rfl, rfl, ⟨s0, s1⟩, hB⟩ := hrel
    have hBw : Below w.heap.size w wr := hB2.trans (hB.mono hB2.size)
    by_cases hlt : t < len
    · obtain ⟨b, off, rfl, hb, hc⟩ := H.out (by rw [← HN.out]; omega)
      obtain ⟨u0, u1⟩ := hc t (by rw [← HN.out]; exact hlt)
      have hc0 := (hB.cell (p := ⟨b, off + t * 2, none⟩) hb).trans u0
      have hc1 := (hB.cell (p := ⟨b, off + t * 2 + 1, none⟩) hb).trans u1
      obtain ⟨k1, k2, k3, k4⟩ := HAn.out.at_ t
      obtain ⟨t1, t2, t3, t4⟩ := total_take HR.out (t := t) (by rw [← HN.out]; exact hlt)
      have HT := Lib.hid t1
      clear hc u0 u1
      obtain ⟨u, hu⟩ : ∃ u, n[t]?.getD (0, 0) = u := ⟨_, rfl⟩
      rw [hu] at hc0 hc1 k1 k2 k3 k4 t1 t4 HT
      clear hu
      obtain ⟨x, y⟩ := u
      simp only at hc0 hc1 k1 k2 k3 k4 t1 t4
      obtain ⟨k, hk, kb0, kb1, hkc⟩ := wrap_diff t4 k1 k4
      have HFin : Hid (9007199254740992 - total (n.take t) < y - x → (9007199254740992 : Int) = longL l) := Lib.hid (fun h => by rw [HE.out]; omega)
      have hT1 : total (n.take (t + 1)) = total (n.take t) + (y - x) := t1
      have HT1 := Lib.hid hT1
      clear t1 t2 HT hT1
      generalize total (n.take t) = s at *
      rcases hkc with ⟨kc1, kc2⟩ | ⟨kc1, kc2⟩
      · have HF := Lib.hid (HFin.out (by omega))
        go_wp2
        go_quiet (fail)
        go_wp2
        go_ret
        exact ⟨ret_int HF.out, below_drewN hBw _⟩
      · by_cases hbig : 9007199254740992 - s < k
        · have HF := Lib.hid (HFin.out (by omega))
          have kc3 : ¬ k < 0 := by omega
          clear kc2
          go_wp2
          go_quiet (fail)
          go_wp2
          go_ret
          exact ⟨ret_int HF.out, below_drewN hBw _⟩
        · have kc3 : ¬ k < 0 := by omega
          have HK : Hid (k = y - x) := Lib.hid kc2
          clear kc2
          go_wp2
          go_quiet (fail)
          have hB3 : Below w2.heap.size w2 (wr.drewN nq) := below_drewN hB nq
          go_wp2
          go_roundw
          case rel => exact ⟨t + 1, by omega, by go_num, by rw [HT1.out, HK.out], by rw [HT1.out, ← HK.out]; omega, hB3⟩
          case measure => simp [intOf]; omega
    · obtain rfl : t = len := by omega
      have e1 : n.take t = n := List.take_of_length_le (by rw [← HN.out]; exact Nat.le_refl _)
      rw [e1] at s0 s1 ⊢
      have HF : Hid (total n = longL l) := Lib.hid (by rw [HE.out]; omega)
      clear e1
      go_wp2
      go_ret
      exact ⟨ret_int HF.out, hBw⟩

/-! ### Of -/
/-- the spans of the first t bits -/
def ofTo (b : List Int) (t : Nat) : List Sp := (List.range t).foldl (fun o i => if bt b i then addL o ((i : Nat), (i : Nat) + 1) else o) []
def ofL (b : List Int) : List Sp := ofTo b (8 * b.length)
theorem ofTo_on {b : List Int} {t : Nat} (h : bt b t = true) : ofTo b (t + 1) = addL (ofTo b t) ((t : Nat), (t : Nat) + 1) := by
  unfold ofTo
  rw [List.range_succ, List.foldl_append, List.foldl_cons, List.foldl_nil, if_pos h]
theorem ofTo_off {b : List Int} {t : Nat} (h : bt b t = false) : ofTo b (t + 1) = ofTo b t := by
  unfold ofTo
  rw [List.range_succ, List.foldl_append, List.foldl_cons, List.foldl_nil, if_neg (by rw [h]; decide)]
theorem ofTo_is (b : List Int) : ∀ t, t ≤ 8000000 → RightL (ofTo b t) ∧ (∀ x, places (ofTo b t) x ↔ 0 ≤ x ∧ x < t ∧ bt b x.toNat = true) ∧ AllS (ofTo b t) ∧ (ofTo b t).length ≤ t := by
  intro t
  induction t with
  | zero => intro _; exact ⟨RightL.nil, fun x => ⟨fun h => (places_nil x h).elim, fun h => by omega⟩, fun s hs => by simp [ofTo] at hs, by simp [ofTo]⟩
  | succ t ih =>
    intro ht
    obtain ⟨h1, h2, h3, h4⟩ := ih (by omega)
    cases h : bt b t with
    | false =>
      rw [ofTo_off h]
      refine ⟨h1, fun x => ?_, h3, by omega⟩
      rw [h2]
      constructor
      · rintro ⟨g1, g2, g3⟩; exact ⟨g1, by omega, g3⟩
      · rintro ⟨g1, g2, g3⟩
        refine ⟨g1, ?_, g3⟩
        rcases Int.lt_or_eq_of_le (show x ≤ (t : Int) by omega) with g4 | g4
        · exact g4
        · rw [g4, Int.toNat_natCast, h] at g3; cases g3
    | true =>
      rw [ofTo_on h]
      obtain ⟨a1, a2⟩ := addL_right (s := (((t : Nat) : Int), ((t : Nat) : Int) + 1)) h1
      refine ⟨a1, fun x => ?_, addL_all h3 (by simp only; omega), by have := addL_length (ofTo b t) (((t : Nat) : Int), ((t : Nat) : Int) + 1); omega⟩
      rw [a2, h2]
      simp only
      constructor
      · rintro (⟨g1, g2, g3⟩ | g)
        · exact ⟨g1, by omega, g3⟩
        · have e : x = (t : Int) := by omega
          rw [e, Int.toNat_natCast]
          exact ⟨by omega, by omega, h⟩
      · rintro ⟨g1, g2, g3⟩
        rcases Int.lt_or_eq_of_le (show x ≤ (t : Int) by omega) with g4 | g4
        · exact .inl ⟨g1, g4, g3⟩
        · exact .inr (by omega)

set_option maxRecDepth 100000 in
set_option maxHeartbeats 1000000 in
theorem rof_any (v : Value) (b : List Int) (w : World) (h : Bytes w w.heap.size v b) (hb : AllB b) (hlen : b.length ≤ 100000) :
    Calls Try.prog 16 #[v] w fun e w' => ∃ v', e = .returned v' ∧ OwnS w' w.heap.size v' (ofL b) ∧ Below w.heap.size w w' := by
  have HBy := Lib.hid h
  obtain ⟨A, c, rfl, -⟩ := h.parts
  obtain ⟨len, hn⟩ : ∃ n, n = b.length := ⟨_, rfl⟩
  have HN := Lib.hid hn
  have HA := Lib.hid hb
  have HI := Lib.hid (ofTo_is b)
  have hlen' : len ≤ 100000 := by omega
  rw [← hn] at HBy ⊢
  clear h hb hn hlen
  go_enter Try.func16, Try.ntmps16
  go_wp2
  go_loopw [3, 4] (fun o i wr => ∃ t : Nat, t ≤ 8 * len ∧ i = .int .i64 t ∧ OwnS wr w.heap.size o (ofTo b t) ∧ Below w.heap.size w wr) (fun _ i _ => 8 * len - (intOf i).toNat)
  case atStart => exact ⟨0, by omega, rfl, OwnS.nil _ _, Below.refl _ _⟩
  case round =>
    obtain ⟨t, ht, rfl, hown, hB⟩ := hrel
    have HO := Lib.hid hown
    clear hown
    by_cases hlt : t < 8 * len
    · have hi : (t : Int) < 8 * (len : Int) := by omega
      obtain ⟨i1, i2, i3, i4⟩ := HI.out t (by omega)
      have HI1 := Lib.hid i1
      have HI3 := Lib.hid i3
      have HY := Lib.hid (HBy.out.below hB (Nat.le_refl _))
      clear i1 i2 i3
      cases hbit : bt b t with
      | true =>
        have HG : Hid (getB b (t : Int) = true) := Lib.hid (by rw [getB_nat]; exact hbit)
        have HS := Lib.hid (ofTo_on hbit)
        clear hbit
        generalize ofTo b t = cur at *
        go_wp2_with fail
        refine (rget_any _ b _ t wr HY.out HA.out (by omega) (by omega)).mono ?_
        rintro e w' ⟨rfl, rfl⟩
        rw [HG.out]
        go_wp2_with fail
        refine (radd_any w.heap.size _ cur _ _ wr HO.out HI3.out HI1.out (by omega) hB.size (by omega) (by omega)).mono ?_
        rintro e w3 ⟨v3, rfl, ho3, hB3⟩
        have HO3 := Lib.hid ho3
        clear ho3
        go_wp2_with fail
        go_roundw
        case rel => exact ⟨t + 1, by omega, by go_num, by rw [HS.out]; exact HO3.out, hB.trans (hB3.mono hB.size)⟩
        case measure => simp [intOf]; omega
      | false =>
        have HG : Hid (getB b (t : Int) = false) := Lib.hid (by rw [getB_nat]; exact hbit)
        have HS := Lib.hid (ofTo_off hbit)
        clear hbit
        generalize ofTo b t = cur at *
        go_wp2_with fail
        refine (rget_any _ b _ t wr HY.out HA.out (by omega) (by omega)).mono ?_
        rintro e w' ⟨rfl, rfl⟩
        rw [HG.out]
        go_wp2_with fail
        go_roundw
        case rel => exact ⟨t + 1, by omega, by go_num, by rw [HS.out]; exact HO.out, hB⟩
        case measure => simp [intOf]; omega
    · have hi : 8 * (len : Int) ≤ (t : Int) := by omega
      obtain rfl : t = 8 * len := by omega
      have HO2 : Hid (ofTo b (8 * len) = ofL b) := Lib.hid (by unfold ofL; rw [← HN.out])
      rw [HO2.out] at HO
      go_wp2
      go_ret
      exact ⟨_, rfl, HO.out, hB⟩

end Go.Proofs.Ytmjgpgibifceeaa
