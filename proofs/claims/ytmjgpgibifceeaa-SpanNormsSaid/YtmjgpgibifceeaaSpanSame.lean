/-
  Layer 4, the document's Same: whether two slices of spans read as one list.
-/
import Derived.Test.YtmjgpgibifceeaaSpanRef
import Derived.Laws.StructEq
namespace Go.Proofs.Ytmjgpgibifceeaa
open Go.RowKit Go.Deep

theorem span_eqIn (x y x' y' : Int) (w : World) : (Op.equalIn 10000 24 (.agg #[.int .i64 x, .int .i64 y]) (.agg #[.int .i64 x', .int .i64 y'])).run Try.prog w = .ok (x == x' && y == y') w := by
  have u3 := Try.underlying3
  have a3 := Try.isAgg3
  have z3 := Try.sizeOf3
  have hS : Try.prog.underlying 24 = some (.struct (Try.prog.fieldsOf 24)) := by kernel_rfl
  have hp : Try.prog.stoodInHeld 24 = false := by kernel_rfl
  rw [show (10000 : Nat) = 9999 + 1 from rfl, run_equalIn_agg w 9999 24 _ _ hS hp]
  simp only [Program.fieldsOf, Try.underlying24]
  go_simp
  by_cases h1 : x = x' <;> by_cases h2 : y = y' <;> simp [h1, h2]
theorem span_neq (x y x' y' : Int) (w : World) : (binOp .neq 24 (.agg #[.int .i64 x, .int .i64 y]) (.agg #[.int .i64 x', .int .i64 y'])).run Try.prog w = .ok (.bool (!(x == x' && y == y'))) w := by
  rw [run_neq_struct, span_eqIn]; rfl
theorem span_eql (x y x' y' : Int) (w : World) : (binOp .eql 24 (.agg #[.int .i64 x, .int .i64 y]) (.agg #[.int .i64 x', .int .i64 y'])).run Try.prog w = .ok (.bool (x == x' && y == y')) w := by
  rw [run_eql_struct, span_eqIn]; rfl

def sameB (a b : List Sp) : Bool := decide (a = b)
theorem same_len {a b : List Sp} (h : ¬ a.length = b.length) : false = sameB a b := (decide_eq_false (fun e => h (by rw [e]))).symm
theorem same_no {a b : List Sp} {t : Nat} (h : ¬ (a[t]?.getD (0, 0) = b[t]?.getD (0, 0))) : false = sameB a b := (decide_eq_false (fun e => h (by rw [e]))).symm
theorem same_yes {a b : List Sp} (hl : a.length = b.length) (h : ∀ i, i < a.length → a[i]?.getD (0, 0) = b[i]?.getD (0, 0)) : true = sameB a b := by
  refine (decide_eq_true (List.ext_getElem hl (fun i h1 h2 => ?_))).symm
  have := h i h1
  simpa [h1, h2] using this

set_option maxRecDepth 100000 in
set_option maxHeartbeats 1000000 in
theorem same_any (v u : Value) (a b : List Sp) (B B' : Nat) (w : World) (h : Spans w B v a) (h' : Spans w B' u b) (hlen : a.length ≤ 1000000000) (hlen' : b.length ≤ 1000000000) :
    Calls Try.prog 14 #[v, u] w fun e w' => e = .returned (.bool (sameB a b)) ∧ ∃ n, w' = w.drewN n := by
  obtain ⟨A, c, rfl, hc, hm, hr⟩ := h.parts
  obtain ⟨A', c', rfl, hc', hm', hr'⟩ := h'.parts
  obtain ⟨len, hn⟩ : ∃ n, n = a.length := ⟨_, rfl⟩
  obtain ⟨len', hn'⟩ : ∃ n, n = b.length := ⟨_, rfl⟩
  have H := Lib.hid hr
  have H' := Lib.hid hr'
  have HN := Lib.hid hn
  have HN' := Lib.hid hn'
  rw [← hn, ← hn']
  have hl1 : len ≤ 1000000000 := by omega
  have hl2 : len' ≤ 1000000000 := by omega
  by_cases hne : len = len'
  · subst hne
    have d0 : ((len : Int) != (len : Int)) = false := by simp
    clear hr hr' h h' hn hn' hlen hlen' hc hc'
    go_enter Try.func14, Try.ntmps14
    go_wp2
    go_loopw [5] (fun i wr => ∃ t : Nat, t ≤ len ∧ i = .int .i64 t ∧ (∀ i, i < t → a[i]?.getD (0, 0) = b[i]?.getD (0, 0)) ∧ ∃ n, wr = w.drewN n) (fun i _ => len - (intOf i).toNat)
    case atStart => exact ⟨0, by omega, rfl, fun i hi => by omega, 0, rfl⟩
    case round =>
      obtain ⟨t, ht, rfl, hall, n, rfl⟩ := hrel
      have HL := Lib.hid hall
      clear hall
      by_cases hlt : t < len
      · obtain ⟨b1, off1, rfl, hc1⟩ := H.out (by rw [← HN.out]; omega)
        obtain ⟨b2, off2, rfl, hc2⟩ := H'.out (by rw [← HN'.out]; omega)
        obtain ⟨p1, p2⟩ := hc1 t (by rw [← HN.out]; exact hlt)
        obtain ⟨q1, q2⟩ := hc2 t (by rw [← HN'.out]; exact hlt)
        have HX := Lib.hid (same_no (a := a) (b := b) (t := t))
        have hnq := span_neq
        clear hc1 hc2
        obtain ⟨s1, hs1⟩ : ∃ s, a[t]?.getD (0, 0) = s := ⟨_, rfl⟩
        obtain ⟨s2, hs2⟩ : ∃ s, b[t]?.getD (0, 0) = s := ⟨_, rfl⟩
        rw [hs1] at p1 p2
        rw [hs2] at q1 q2
        obtain ⟨x, y⟩ := s1
        obtain ⟨x', y'⟩ := s2
        simp only at p1 p2 q1 q2
        have H1 := Lib.hid hs1
        have H2 := Lib.hid hs2
        clear hs1 hs2
        by_cases he : x = x' ∧ y = y'
        · obtain ⟨rfl, rfl⟩ := he
          have d1 : (x == x && y == y) = true := by simp
          have HL2 : Hid (∀ i, i < t + 1 → a[i]?.getD (0, 0) = b[i]?.getD (0, 0)) := Lib.hid (fun i hi => by
            by_cases e : i = t
            · rw [e, H1.out, H2.out]
            · exact HL.out i (by omega))
          go_wp2
          go_quiet (fail)
          go_wp2
          go_roundw
          case rel => exact ⟨t + 1, by omega, by go_num, HL2.out, _, by first | rfl | exact World.drewN_drewN _ _ _⟩
          case measure => simp [intOf]; omega
        · have d1 : (x == x' && y == y') = false := by
            rw [Bool.eq_false_iff]
            intro h
            rw [Bool.and_eq_true, beq_iff_eq, beq_iff_eq] at h
            exact he h
          have HF := Lib.hid (HX.out (fun e => by rw [H1.out, H2.out, Prod.mk.injEq] at e; exact he e))
          go_wp2
          go_quiet (fail)
          go_wp2
          go_ret
          exact ⟨ret_bool HF.out, _, by first | rfl | exact World.drewN_drewN _ _ _⟩
      · obtain rfl : t = len := by omega
        have HF := Lib.hid (same_yes (a := a) (b := b) (by rw [← HN.out, ← HN'.out]) (by rw [← HN.out]; exact HL.out))
        go_wp2
        go_ret
        exact ⟨ret_bool HF.out, _, rfl⟩
  · have HF := Lib.hid (same_len (a := a) (b := b) (by rw [← hn, ← hn']; exact hne))
    have d0 : ((len : Int) != (len' : Int)) = true := by rw [bne_iff_ne]; omega
    clear hr hr' h h' hn hn' hlen hlen' hc hc'
    go_enter Try.func14, Try.ntmps14
    go_wp2
    go_ret
    exact ⟨ret_bool HF.out, 0, rfl⟩

end Go.Proofs.Ytmjgpgibifceeaa
