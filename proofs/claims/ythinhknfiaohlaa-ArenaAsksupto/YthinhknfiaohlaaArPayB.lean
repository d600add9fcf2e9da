/-
  Layer 7, the landed package: Same (slices.EqualFunc over slices.Equal).
-/
import Derived.Test.YthinhknfiaohlaaArPayA
namespace Go.Proofs.Ythinhknfiaohlaa
open Go.RowKit Go.Deep

def sameU (a b : List Int) : Bool := decide (a = b)
theorem sameU_no {a b : List Int} {t : Nat} (h : a[t]?.getD 0 ≠ b[t]?.getD 0) : sameU a b = false := decide_eq_false (fun e => h (by rw [e]))
set_option maxRecDepth 100000 in
set_option maxHeartbeats 1000000 in
theorem aequal_any (v u : Value) (a b : List Int) (B B' : Nat) (w : World) (h : NumS .u64 w B v a) (h' : NumS .u64 w B' u b) :
    Calls Try.prog 34 #[v, u] w fun e w' => e = .returned (.bool (sameU a b)) ∧ Below w.heap.size w w' := by
  obtain ⟨A, c, rfl, hc, hm, hr⟩ := h
  obtain ⟨A', c', rfl, hc', hm', hr'⟩ := h'
  obtain ⟨len, hn⟩ : ∃ n, n = a.length := ⟨_, rfl⟩
  obtain ⟨len', hn'⟩ : ∃ n, n = b.length := ⟨_, rfl⟩
  have HN := Lib.hid hn
  have HN' := Lib.hid hn'
  have HR := Lib.hid hr
  have HR' := Lib.hid hr'
  rw [← hn] at hc ⊢
  rw [← hn'] at hc' ⊢
  by_cases hne : len = len'
  · subst hne
    have d0 : ((len : Int) != (len : Int)) = false := by simp
    clear hn hn' hr hr'
    go_enter Try.func34, Try.ntmps34
    go_wp2_with fail
    go_loopw [13] (fun i wr => ∃ t : Nat, t ≤ len ∧ i = .int .i64 t ∧ (∀ i, i < t → a[i]?.getD 0 = b[i]?.getD 0) ∧ ∃ n, wr = w.drewN n) (fun i _ => len - (intOf i).toNat)
    case atStart => exact ⟨0, by omega, rfl, fun i hi => by omega, 0, rfl⟩
    case round =>
      obtain ⟨t, ht, rfl, hall, n, rfl⟩ := hrel
      have HL := Lib.hid hall
      clear hall
      by_cases hlt : t < len
      · obtain ⟨b1, o1, rfl, _, x1⟩ := HR.out (by rw [← HN.out]; omega)
        obtain ⟨b2, o2, rfl, _, x2⟩ := HR'.out (by rw [← HN'.out]; omega)
        have x1 := x1 t (by rw [← HN.out]; exact hlt)
        have x2 := x2 t (by rw [← HN'.out]; exact hlt)
        obtain ⟨x, hx⟩ : ∃ x, a[t]?.getD 0 = x := ⟨_, rfl⟩
        obtain ⟨y, hy⟩ : ∃ y, b[t]?.getD 0 = y := ⟨_, rfl⟩
        rw [hx] at x1
        rw [hy] at x2
        have HX := Lib.hid hx
        have HY := Lib.hid hy
        have i1 : (t : Int) < (len : Int) := by omega
        clear hx hy
        by_cases hxy : x = y
        · have d2 : (x != y) = false := by simp [hxy]
          have HL2 : Hid (∀ i, i < t + 1 → a[i]?.getD 0 = b[i]?.getD 0) := Lib.hid (fun i hi => by
            by_cases e : i = t
            · subst e; rw [HX.out, HY.out]; exact hxy
            · exact HL.out i (by omega))
          clear hxy
          go_wp2_with fail
          go_quiet (fail)
          go_wp2_with fail
          go_roundw
          case rel => exact ⟨t + 1, by omega, by go_num, HL2.out, _, by first | rfl | exact World.drewN_drewN _ _ _⟩
          case measure => simp [intOf]; omega
        · have d2 : (x != y) = true := by simpa using hxy
          have HF : Hid (false = sameU a b) := Lib.hid (sameU_no (t := t) (fun e => hxy (by rw [← HX.out, ← HY.out, e]))).symm
          clear hxy
          go_wp2_with fail
          go_quiet (fail)
          go_wp2_with fail
          go_ret
          exact ⟨by rw [← HF.out]; rfl, ⟨rfl, rfl, rfl, Nat.le_refl _, fun _ _ => rfl⟩⟩
      · obtain rfl : t = len := by omega
        have HF : Hid (true = sameU a b) := Lib.hid (decide_eq_true (row_ext (by rw [← HN.out, ← HN'.out]) (fun i h1 => HL.out i (by rw [HN.out]; exact h1)))).symm
        go_wp2_with fail
        go_ret
        exact ⟨by rw [← HF.out]; rfl, ⟨rfl, rfl, rfl, Nat.le_refl _, fun _ _ => rfl⟩⟩
  · have d0 : ((len : Int) != (len' : Int)) = true := by rw [bne_iff_ne]; omega
    have HF : Hid (false = sameU a b) := Lib.hid (decide_eq_false (fun e => hne (by rw [HN.out, HN'.out, e]))).symm
    clear hn hn' hr hr'
    go_enter Try.func34, Try.ntmps34
    go_wp2_with fail
    go_ret
    exact ⟨by rw [← HF.out]; rfl, Below.refl _ _⟩

/-- a segment's value and its words, later -/
theorem below_seg {a b : World} {v : Value} {ls : List (List Int)} {A : Option Addr} {n c : Nat} (h : ArV a a.heap.size v ls) (k : Below a.heap.size a b) (hv : v = .slice A n c) {j : Nat} (hj : j < ls.length) : ∃ g off A1 c1, A = some ⟨g, off, none⟩ ∧ b.cell? ⟨g, off + j, none⟩ = some (.slice A1 (ls[j]?.getD []).length c1) ∧ NumS .u64 b b.heap.size (.slice A1 (ls[j]?.getD []).length c1) (ls[j]?.getD []) := by
  obtain ⟨A', c', e, _, _, hr⟩ := h.on k
  rw [hv] at e
  cases e
  obtain ⟨g, off, ea, _, hcell⟩ := hr (by omega)
  obtain ⟨s, p1, hs⟩ := hcell j hj
  obtain ⟨A1, c1, rfl⟩ := hs.form rfl
  exact ⟨g, off, A1, c1, ea, p1, hs⟩

set_option maxRecDepth 100000 in
set_option maxHeartbeats 1000000 in
theorem aeqf_any (v u : Value) (a b : List (List Int)) (w : World) (h : ArV w w.heap.size v a) (h' : ArV w w.heap.size u b) :
    Calls Try.prog 33 #[v, u, .func (.func 34) #[] #[]] w fun e w' => e = .returned (.bool (sameA a b)) ∧ Below w.heap.size w w' := by
  have HV := Lib.hid h
  have HU := Lib.hid h'
  obtain ⟨A, c, rfl, hc, hm, -⟩ := h
  obtain ⟨A', c', rfl, hc', hm', -⟩ := h'
  obtain ⟨len, hn⟩ : ∃ n, n = a.length := ⟨_, rfl⟩
  obtain ⟨len', hn'⟩ : ∃ n, n = b.length := ⟨_, rfl⟩
  have HN := Lib.hid hn
  have HN' := Lib.hid hn'
  rw [← hn] at hc HV ⊢
  rw [← hn'] at hc' HU ⊢
  by_cases hne : len = len'
  · subst hne
    have d0 : ((len : Int) != (len : Int)) = false := by simp
    clear hn hn'
    go_enter Try.func33, Try.ntmps33
    go_wp2_with fail
    go_loopw [17] (fun i wr => ∃ t : Nat, t ≤ len ∧ i = .int .i64 t ∧ (∀ i, i < t → a[i]?.getD [] = b[i]?.getD []) ∧ Below w.heap.size w wr) (fun i _ => len - (intOf i).toNat)
    case atStart => exact ⟨0, by omega, rfl, fun i hi => by omega, Below.refl _ _⟩
    case round =>
      obtain ⟨t, ht, rfl, hall, hB⟩ := hrel
      have HL := Lib.hid hall
      have HB := Lib.hid hB
      clear hall hB
      by_cases hlt : t < len
      · obtain ⟨b1, off1, A1, c1, rfl, p1, s1⟩ := below_seg HV.out HB.out rfl (j := t) (by rw [← HN.out]; exact hlt)
        obtain ⟨b2, off2, A2, c2, rfl, q1, s2⟩ := below_seg HU.out HB.out rfl (j := t) (by rw [← HN'.out]; exact hlt)
        have HQ := Lib.hid (aequal_any _ _ _ _ _ _ wr s1 s2)
        obtain ⟨m, hm1⟩ : ∃ m, (a[t]?.getD []).length = m := ⟨_, rfl⟩
        obtain ⟨m', hm2⟩ : ∃ m, (b[t]?.getD []).length = m := ⟨_, rfl⟩
        rw [hm1] at p1 HQ
        rw [hm2] at q1 HQ
        have i1 : (t : Int) < (len : Int) := by omega
        clear hm1 hm2 s1 s2
        by_cases hxy : a[t]?.getD [] = b[t]?.getD []
        · have HS : Hid (sameU (a[t]?.getD []) (b[t]?.getD []) = true) := Lib.hid (decide_eq_true hxy)
          have HL2 : Hid (∀ i, i < t + 1 → a[i]?.getD [] = b[i]?.getD []) := Lib.hid (fun i hi => by
            by_cases e : i = t
            · subst e; exact hxy
            · exact HL.out i (by omega))
          rw [HS.out] at HQ
          clear hxy HS
          go_wp2_with fail
          refine HQ.out.mono ?_
          rintro e w2 ⟨rfl, hB2⟩
          go_wp2_with fail
          go_roundw
          case rel => exact ⟨t + 1, by omega, by go_num, HL2.out, bseq HB.out hB2⟩
          case measure => simp [intOf]; omega
        · have HS : Hid (sameU (a[t]?.getD []) (b[t]?.getD []) = false) := Lib.hid (decide_eq_false hxy)
          have HF : Hid (false = sameA a b) := Lib.hid (sameA_no (t := t) hxy).symm
          rw [HS.out] at HQ
          clear hxy HS
          go_wp2_with fail
          refine HQ.out.mono ?_
          rintro e w2 ⟨rfl, hB2⟩
          go_wp2_with fail
          go_ret
          exact ⟨by rw [← HF.out]; rfl, bseq HB.out hB2⟩
      · obtain rfl : t = len := by omega
        have HF : Hid (true = sameA a b) := Lib.hid (decide_eq_true (arena_ext (by rw [← HN.out, ← HN'.out]) (fun i h1 => HL.out i (by rw [HN.out]; exact h1)))).symm
        go_wp2_with fail
        go_ret
        exact ⟨by rw [← HF.out]; rfl, HB.out⟩
  · have d0 : ((len : Int) != (len' : Int)) = true := by rw [bne_iff_ne]; omega
    have HF : Hid (false = sameA a b) := Lib.hid (decide_eq_false (fun e => hne (by rw [HN.out, HN'.out, e]))).symm
    clear hn hn'
    go_enter Try.func33, Try.ntmps33
    go_wp2_with fail
    go_ret
    exact ⟨by rw [← HF.out]; rfl, Below.refl _ _⟩

set_option maxRecDepth 100000 in
theorem asame_any (v u : Value) (a b : List (List Int)) (w : World) (h : ArV w w.heap.size v a) (h' : ArV w w.heap.size u b) :
    Calls Try.prog 14 #[v, u] w fun e w' => e = .returned (.bool (sameA a b)) ∧ Below w.heap.size w w' := by
  have HQ := Lib.hid (aeqf_any v u a b w h h')
  clear h h'
  go_enter Try.func14, Try.ntmps14
  go_wp2_with fail
  refine HQ.out.mono ?_
  rintro e w1 ⟨rfl, hB⟩
  go_wp2_with fail
  go_ret
  exact ⟨rfl, hB⟩

end Go.Proofs.Ythinhknfiaohlaa
