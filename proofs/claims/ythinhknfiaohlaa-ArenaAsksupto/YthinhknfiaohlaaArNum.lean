/-
  Layer 7: the document's Fits, Within, Place, SameInts.
-/
import Derived.Test.YthinhknfiaohlaaArMath
import Derived.WalkSpells
import Derived.WalkLawsBesides
import Derived.Deep.QuietTactic
import Derived.BigQuiet
import Derived.IntWalk
namespace Go.Proofs.Ythinhknfiaohlaa
open Go.RowKit

set_option maxRecDepth 100000 in
set_option maxHeartbeats 1000000 in
theorem rfits_any (v : Value) (l : List Int) (B : Nat) (w : World) (h : NumS .i64 w B v l) (hl : All64 l) :
    Calls Try.prog 35 #[v] w fun e w' => e = .returned (.bool (fitsL l)) ∧ w = w' := by
  obtain ⟨A, c, rfl, hc, hm, hr⟩ := h
  obtain ⟨len, hn⟩ : ∃ n, n = l.length := ⟨_, rfl⟩
  rw [← hn] at hc ⊢
  have H := Lib.hid hr
  have HN := Lib.hid hn
  have HL := Lib.hid hl
  clear hr hl
  by_cases h0 : len < 1
  · have HF : Hid (fitsL l = false) := Lib.hid (decide_eq_false (fun ⟨a, _⟩ => by omega))
    rw [HF.out]
    have d0 : decide ((len : Int) < 1) = true := decide_eq_true (by omega)
    clear hn
    go_enter Try.func35, Try.ntmps35
    go_wp2_with fail
    go_ret
    exact ⟨rfl, rfl⟩
  have d0 : decide ((len : Int) < 1) = false := decide_eq_false (by omega)
  by_cases h1 : 16 < len
  · have HF : Hid (fitsL l = false) := Lib.hid (decide_eq_false (fun ⟨_, a, _⟩ => by omega))
    rw [HF.out]
    have d1 : decide (16 < (len : Int)) = true := decide_eq_true (by omega)
    clear hn
    go_enter Try.func35, Try.ntmps35
    go_wp2_with fail
    go_ret
    exact ⟨rfl, rfl⟩
  have d1 : decide (16 < (len : Int)) = false := decide_eq_false (by omega)
  obtain ⟨b, off, rfl, _, hcell⟩ := H.out (by omega)
  have HC := Lib.hid hcell
  have c0 := hcell 0 (by omega)
  obtain ⟨x, hx⟩ : ∃ x, l[0]?.getD 0 = x := ⟨_, rfl⟩
  rw [hx, Nat.add_zero] at c0
  have HX := Lib.hid hx
  have i0 : (0 : Int) < (len : Int) := by omega
  clear hcell hx
  by_cases h2 : x < 1
  · have HF : Hid (fitsL l = false) := Lib.hid (decide_eq_false (fun ⟨_, _, a, _⟩ => by rw [HX.out] at a; omega))
    rw [HF.out]
    have d2 : decide (x < 1) = true := decide_eq_true h2
    clear hn
    go_enter Try.func35, Try.ntmps35
    go_wp2_with fail
    go_ret
    exact ⟨rfl, rfl⟩
  have d2 : decide (x < 1) = false := decide_eq_false h2
  have h2' : (1 : Int) ≤ x := by omega
  clear hn
  go_enter Try.func35, Try.ntmps35
  go_wp2_with fail
  go_loopw [3, 4] (fun s i wr => ∃ t : Nat, t ≤ len ∧ i = .int .i64 t ∧ s = .int .i64 (l.take t).sum ∧ FitTo l t ∧ w = wr) (fun _ i _ => len - (intOf i).toNat)
  case atStart => exact ⟨0, by omega, rfl, by simp, FitTo.zero l, rfl⟩
  case round =>
    obtain ⟨t, ht, rfl, rfl, hf, rfl⟩ := hrel
    have HFt := Lib.hid hf
    obtain ⟨S, hS⟩ : ∃ S, (l.take t).sum = S := ⟨_, rfl⟩
    have s0 := hf.2.1
    have s1 := hf.2.2
    rw [hS] at s0 s1 ⊢
    have HS := Lib.hid hS
    clear hf hS
    by_cases hlt : t < len
    · have p1 := HC.out t (by rw [← HN.out]; exact hlt)
      have y1 := HL.out.at_ t
      obtain ⟨y, hy⟩ : ∃ y, l[t]?.getD 0 = y := ⟨_, rfl⟩
      rw [hy] at p1 y1
      have HY := Lib.hid hy
      unfold In64 at y1
      clear hy
      by_cases h3 : y < 0
      · have d3 : decide (y < 0) = true := decide_eq_true h3
        have HF : Hid (fitsL l = false) := Lib.hid (fits_not (t := t) (by rw [← HN.out]; exact hlt) (.inl (by rw [HY.out]; exact h3)))
        go_wp2_with fail
        go_ret
        exact ⟨by rw [HF.out]; rfl, rfl⟩
      have d3 : decide (y < 0) = false := decide_eq_false h3
      by_cases h4 : 4096 - S < y
      · have d4 : decide (4096 - S < y) = true := decide_eq_true h4
        have HF : Hid (fitsL l = false) := Lib.hid (fits_not (t := t) (by rw [← HN.out]; exact hlt) (.inr (by rw [HY.out, HS.out]; exact h4)))
        go_wp2_with fail
        go_ret
        exact ⟨by rw [HF.out]; rfl, rfl⟩
      have d4 : decide (4096 - S < y) = false := decide_eq_false h4
      have h4' : y ≤ 4096 - S := by omega
      have HE : Hid ((l.take (t + 1)).sum = S + y ∧ FitTo l (t + 1)) := Lib.hid ⟨by rw [sum_take_succ (by rw [← HN.out]; exact hlt), HS.out, HY.out], HFt.out.next (by rw [← HN.out]; exact hlt) (by rw [HY.out]; omega) (by rw [HY.out, HS.out]; exact h4')⟩
      go_wp2_with fail
      go_roundw
      case rel => exact ⟨t + 1, by omega, by go_num, by rw [HE.out.1], HE.out.2, trivial⟩
      case measure => simp [intOf]; omega
    · obtain rfl : t = len := by omega
      have HF : Hid (fitsL l = true) := Lib.hid (fits_yes (by rw [← HN.out]; exact HFt.out) (by rw [← HN.out]; omega) (by rw [← HN.out]; omega) (by rw [HX.out]; exact h2'))
      go_wp2_with fail
      go_ret
      exact ⟨by rw [HF.out]; rfl, rfl⟩

set_option maxRecDepth 100000 in
set_option maxHeartbeats 1000000 in
theorem rwithin_any (v : Value) (l : List Int) (g a n : Int) (B : Nat) (w : World) (h : NumS .i64 w B v l) (hl : All64 l) :
    Calls Try.prog 36 #[v, .int .i64 g, .int .i64 a, .int .i64 n] w fun e w' => e = .returned (.bool (withinB l g a n)) ∧ w = w' := by
  obtain ⟨A, c, rfl, hc, hm, hr⟩ := h
  obtain ⟨len, hn⟩ : ∃ n, n = l.length := ⟨_, rfl⟩
  rw [← hn]
  have H := Lib.hid hr
  have HN := Lib.hid hn
  have HL := Lib.hid hl
  clear hr hl hc hm
  by_cases h1 : 0 ≤ g
  · have d1 : decide (0 ≤ g) = true := decide_eq_true h1
    by_cases h2 : g < (len : Int)
    · have d2 : decide (g < (len : Int)) = true := decide_eq_true h2
      by_cases h3 : 0 ≤ a
      · have d3 : decide (0 ≤ a) = true := decide_eq_true h3
        by_cases h4 : 0 ≤ n
        · have d4 : decide (0 ≤ n) = true := decide_eq_true h4
          obtain ⟨j, rfl⟩ := Int.eq_ofNat_of_zero_le h1
          obtain ⟨b, off, rfl, _, hcell⟩ := H.out (by omega)
          have c0 := hcell j (by omega)
          have y1 := HL.out.at_ j
          obtain ⟨x, hx⟩ : ∃ x, l[j]?.getD 0 = x := ⟨_, rfl⟩
          rw [hx] at c0 y1
          have HX := Lib.hid hx
          unfold In64 at y1
          clear hcell hx
          have HW : Hid (withinB l j a n = decide (a ≤ x ∧ n ≤ x - a)) := Lib.hid (by
            unfold withinB
            rw [show ((j : Int)).toNat = j by simp, HX.out, ← HN.out]
            simp [h2, h3, h4])
          clear hn
          by_cases h5 : a ≤ x
          · have d5 : decide (a ≤ x) = true := decide_eq_true h5
            have hw : IntKind.i64.wrap (x - a) = x - a := IntWalk.i64_in _ (by omega)
            by_cases h6 : n ≤ x - a
            · have d6 : decide (n ≤ x - a) = true := decide_eq_true h6
              rw [HW.out, decide_eq_true ⟨h5, h6⟩]
              go_enter Try.func36, Try.ntmps36
              go_wp2_with fail
              go_ret
              exact ⟨rfl, rfl⟩
            · have d6 : decide (n ≤ x - a) = false := decide_eq_false h6
              rw [HW.out, decide_eq_false (fun e => h6 e.2)]
              go_enter Try.func36, Try.ntmps36
              go_wp2_with fail
              go_ret
              exact ⟨rfl, rfl⟩
          · have d5 : decide (a ≤ x) = false := decide_eq_false h5
            rw [HW.out, decide_eq_false (fun e => h5 e.1)]
            go_enter Try.func36, Try.ntmps36
            go_wp2_with fail
            go_ret
            exact ⟨rfl, rfl⟩
        · have d4 : decide (0 ≤ n) = false := decide_eq_false h4
          have HF : Hid (withinB l g a n = false) := Lib.hid (decide_eq_false (fun e => h4 e.2.2.2.1))
          rw [HF.out]
          clear HF hn
          go_enter Try.func36, Try.ntmps36
          go_wp2_with fail
          go_ret
          exact ⟨rfl, rfl⟩
      · have d3 : decide (0 ≤ a) = false := decide_eq_false h3
        have HF : Hid (withinB l g a n = false) := Lib.hid (decide_eq_false (fun e => h3 e.2.2.1))
        rw [HF.out]
        clear HF hn
        go_enter Try.func36, Try.ntmps36
        go_wp2_with fail
        go_ret
        exact ⟨rfl, rfl⟩
    · have d2 : decide (g < (len : Int)) = false := decide_eq_false h2
      have HF : Hid (withinB l g a n = false) := Lib.hid (decide_eq_false (fun e => h2 (by have := e.2.1; omega)))
      rw [HF.out]
      clear HF hn
      go_enter Try.func36, Try.ntmps36
      go_wp2_with fail
      go_ret
      exact ⟨rfl, rfl⟩
  · have d1 : decide (0 ≤ g) = false := decide_eq_false h1
    have HF : Hid (withinB l g a n = false) := Lib.hid (decide_eq_false (fun e => h1 e.1))
    rw [HF.out]
    clear HF hn
    go_enter Try.func36, Try.ntmps36
    go_wp2_with fail
    go_ret
    exact ⟨rfl, rfl⟩

set_option maxRecDepth 100000 in
set_option maxHeartbeats 1000000 in
theorem rplace_any (v : Value) (l : List Int) (g a : Int) (B : Nat) (w : World) (h : NumS .i64 w B v l) (hl : All64 l) :
    Calls Try.prog 37 #[v, .int .i64 g, .int .i64 a] w fun e w' => e = .returned (.int .i64 (placeI l g a)) ∧ w = w' := by
  have HFi := Lib.hid (rfits_any v l B w h hl)
  have HWi := Lib.hid (rwithin_any v l g a 1 B w h hl)
  obtain ⟨A, c, rfl, hc, hm, hr⟩ := h
  obtain ⟨len, hn⟩ : ∃ n, n = l.length := ⟨_, rfl⟩
  rw [← hn] at HFi HWi ⊢
  have H := Lib.hid hr
  have HN := Lib.hid hn
  have HL := Lib.hid hl
  clear hr hl hc hm hn
  cases hf : fitsL l with
  | false =>
    have HP : Hid (placeI l g a = -1) := Lib.hid (by unfold placeI; rw [if_neg (fun e => by rw [hf] at e; cases e.1)])
    rw [hf] at HFi
    rw [HP.out]
    clear hf HP
    go_enter Try.func37, Try.ntmps37
    go_wp2_with fail
    refine HFi.out.mono ?_
    rintro e w' ⟨rfl, rfl⟩
    go_wp2_with fail
    go_ret
    exact ⟨rfl, rfl⟩
  | true =>
    rw [hf] at HFi
    cases hw : withinB l g a 1 with
    | false =>
      have HP : Hid (placeI l g a = -1) := Lib.hid (by unfold placeI; rw [if_neg (fun e => by rw [hw] at e; cases e.2)])
      rw [hw] at HWi
      rw [HP.out]
      clear hf hw HP
      go_enter Try.func37, Try.ntmps37
      go_wp2_with fail
      refine HFi.out.mono ?_
      rintro e w' ⟨rfl, rfl⟩
      go_wp2_with fail
      refine HWi.out.mono ?_
      rintro e w' ⟨rfl, rfl⟩
      go_wp2_with fail
      go_ret
      exact ⟨rfl, rfl⟩
    | true =>
      rw [hw] at HWi
      have HP : Hid (placeI l g a = a + (l.take g.toNat).sum) := Lib.hid (by unfold placeI; rw [if_pos ⟨hf, hw⟩])
      obtain ⟨w1, w2, w3, w4, w5, w6⟩ : 0 ≤ g ∧ g < l.length ∧ 0 ≤ a ∧ (0 : Int) ≤ 1 ∧ a ≤ l[g.toNat]?.getD 0 ∧ 1 ≤ l[g.toNat]?.getD 0 - a := of_decide_eq_true hw
      obtain ⟨j, rfl⟩ := Int.eq_ofNat_of_zero_le w1
      rw [show ((j : Int)).toNat = j by simp] at HP w5 w6
      have HFt := Lib.hid (fits_take hf)
      have hj : j < len := by rw [HN.out]; omega
      have h16 : len ≤ 16 := by rw [HN.out]; exact (fits_all hf).2.1
      have a1 : a ≤ 4096 := by
        have := (fits_take hf (j + 1)).2
        rw [sum_take_succ (by omega)] at this
        have := (fits_take hf j).1
        omega
      clear hf hw w4 w5 w6 w1 w2
      rw [HP.out]
      go_enter Try.func37, Try.ntmps37
      go_wp2_with fail
      refine HFi.out.mono ?_
      rintro e w' ⟨rfl, rfl⟩
      go_wp2_with fail
      refine HWi.out.mono ?_
      rintro e w' ⟨rfl, rfl⟩
      go_wp2_with fail
      go_loopw [7, 8] (fun s i wr => ∃ t : Nat, t ≤ j ∧ i = .int .i64 t ∧ s = .int .i64 (a + (l.take t).sum) ∧ w = wr) (fun _ i _ => j - (intOf i).toNat)
      case atStart => exact ⟨0, by omega, rfl, by simp, rfl⟩
      case round =>
        obtain ⟨t, ht, rfl, rfl, rfl⟩ := hrel
        have f1 := HFt.out t
        obtain ⟨S, hS⟩ : ∃ S, (l.take t).sum = S := ⟨_, rfl⟩
        rw [hS] at f1 ⊢
        have HS := Lib.hid hS
        clear hS
        by_cases hlt : t < j
        · obtain ⟨b, off, rfl, _, hcell⟩ := H.out (by rw [← HN.out]; omega)
          have p1 := hcell t (by rw [← HN.out]; omega)
          have HE : Hid ((l.take (t + 1)).sum = S + l[t]?.getD 0) := Lib.hid (by rw [sum_take_succ (by rw [← HN.out]; omega), HS.out])
          have f2 := HFt.out (t + 1)
          rw [HE.out] at f2
          obtain ⟨y, hy⟩ : ∃ y, l[t]?.getD 0 = y := ⟨_, rfl⟩
          rw [hy] at p1 HE f2
          clear hcell hy
          have i1 : (t : Int) < (len : Int) := by omega
          go_wp2_with fail
          go_roundw
          case rel => exact ⟨t + 1, by omega, by go_num, by rw [HE.out]; congr 1; omega, trivial⟩
          case measure => simp [intOf]; omega
        · obtain rfl : t = j := by omega
          go_wp2_with fail
          go_ret
          exact ⟨by rw [HS.out]; rfl, rfl⟩

def sameN (a b : List Int) : Bool := decide (a = b)
set_option maxRecDepth 100000 in
set_option maxHeartbeats 1000000 in
theorem rsame_any (v u : Value) (a b : List Int) (B B' : Nat) (w : World) (h : NumS .i64 w B v a) (h' : NumS .i64 w B' u b) (hlen : a.length ≤ 1000000000000) :
    Calls Try.prog 28 #[v, u] w fun e w' => e = .returned (.bool (sameN a b)) ∧ Below w.heap.size w w' := by
  obtain ⟨A, c, rfl, _, _, hr⟩ := h
  obtain ⟨A', c', rfl, _, _, hr'⟩ := h'
  obtain ⟨len, hn⟩ : ∃ n, n = a.length := ⟨_, rfl⟩
  obtain ⟨len', hn'⟩ : ∃ n, n = b.length := ⟨_, rfl⟩
  have H := Lib.hid hr
  have H' := Lib.hid hr'
  have HN := Lib.hid hn
  have HN' := Lib.hid hn'
  rw [← hn, ← hn']
  have hl1 : len ≤ 1000000000000 := by omega
  by_cases hne : len = len'
  · subst hne
    have d0 : ((len : Int) != (len : Int)) = false := by simp
    clear hr hr' hn hn' hlen
    go_enter Try.func28, Try.ntmps28
    go_wp2_with fail
    go_loopw [5] (fun i wr => ∃ t : Nat, t ≤ len ∧ i = .int .i64 t ∧ (∀ i, i < t → a[i]?.getD 0 = b[i]?.getD 0) ∧ ∃ n, wr = w.drewN n) (fun i _ => len - (intOf i).toNat)
    case atStart => exact ⟨0, by omega, rfl, fun i hi => by omega, 0, rfl⟩
    case round =>
      obtain ⟨t, ht, rfl, hall, n, rfl⟩ := hrel
      have HL := Lib.hid hall
      clear hall
      by_cases hlt : t < len
      · obtain ⟨b1, off1, rfl, _, hc1⟩ := H.out (by rw [← HN.out]; omega)
        obtain ⟨b2, off2, rfl, _, hc2⟩ := H'.out (by rw [← HN'.out]; omega)
        have p1 := hc1 t (by rw [← HN.out]; exact hlt)
        have q1 := hc2 t (by rw [← HN'.out]; exact hlt)
        obtain ⟨x, hx⟩ : ∃ x, a[t]?.getD 0 = x := ⟨_, rfl⟩
        obtain ⟨y, hy⟩ : ∃ y, b[t]?.getD 0 = y := ⟨_, rfl⟩
        rw [hx] at p1
        rw [hy] at q1
        have HX := Lib.hid hx
        have HY := Lib.hid hy
        clear hc1 hc2 hx hy
        by_cases hxy : x = y
        · have d1 : (x != y) = false := by simp [hxy]
          have HL2 : Hid (∀ i, i < t + 1 → a[i]?.getD 0 = b[i]?.getD 0) := Lib.hid (fun i hi => by
            by_cases e : i = t
            · subst e; rw [HX.out, HY.out]; exact hxy
            · exact HL.out i (by omega))
          clear hxy
          go_wp2_with fail
          (try (go_quiet (fail); go_wp2_with fail))
          go_roundw
          case rel => exact ⟨t + 1, by omega, by go_num, HL2.out, _, by first | rfl | exact World.drewN_drewN _ _ _⟩
          case measure => simp [intOf]; omega
        · have d1 : (x != y) = true := by simpa using hxy
          have HF : Hid (false = sameN a b) := Lib.hid (decide_eq_false (fun e => hxy (by rw [← HX.out, ← HY.out, e]))).symm
          clear hxy
          go_wp2_with fail
          (try (go_quiet (fail); go_wp2_with fail))
          go_ret
          exact ⟨by rw [← HF.out]; rfl, ⟨rfl, rfl, rfl, Nat.le_refl _, fun _ _ => rfl⟩⟩
      · obtain rfl : t = len := by omega
        have HF : Hid (true = sameN a b) := Lib.hid (decide_eq_true (List.ext_getElem (by rw [← HN.out, ← HN'.out]) (fun i h1 h2 => by have := HL.out i (by rw [HN.out]; exact h1); rw [List.getElem?_eq_getElem h1, List.getElem?_eq_getElem h2] at this; exact this))).symm
        go_wp2_with fail
        go_ret
        exact ⟨by rw [← HF.out]; rfl, ⟨rfl, rfl, rfl, Nat.le_refl _, fun _ _ => rfl⟩⟩
  · have d0 : ((len : Int) != (len' : Int)) = true := by rw [bne_iff_ne]; omega
    have HF : Hid (false = sameN a b) := Lib.hid (decide_eq_false (fun e => hne (by rw [HN.out, HN'.out, e]))).symm
    clear hr hr' hn hn' hlen
    go_enter Try.func28, Try.ntmps28
    go_wp2_with fail
    go_ret
    exact ⟨by rw [← HF.out]; rfl, Below.refl _ _⟩

end Go.Proofs.Ythinhknfiaohlaa
