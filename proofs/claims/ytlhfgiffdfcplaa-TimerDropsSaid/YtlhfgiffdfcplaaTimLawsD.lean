/-
  Layer 5: the walk of TimerSorts, over any queue that is as TimerOK asks.
-/
import Derived.Test.YtlhfgiffdfcplaaTimLawsC
import Derived.BigQuiet
namespace Go.Proofs.Ytlhfgiffdfcplaa
open Go.RowKit Go.Deep
variable {QR : World → (Nat → Prop) → Value → List Sp → Prop}

def AllH (l : List Int) : Prop := ∀ x ∈ l, -32768 ≤ x ∧ x ≤ 32767
theorem AllH.at_ {l : List Int} (h : AllH l) (t : Nat) : -32768 ≤ l[t]?.getD 0 ∧ l[t]?.getD 0 ≤ 32767 := by
  rcases Nat.lt_or_ge t l.length with ht | ht
  · rw [List.getElem?_eq_getElem ht]; exact h _ (List.getElem_mem ht)
  · rw [List.getElem?_eq_none ht]; simp
theorem atTo_at {xs : List Int} {t : Nat} {s : Sp} (h : s ∈ atTo xs t) : ∃ i : Nat, i < t ∧ s = ((i : Int), xs[i]?.getD 0) := by
  simp only [atTo, List.mem_map, List.mem_range] at h
  obtain ⟨i, hi, rfl⟩ := h
  exact ⟨i, hi, rfl⟩
theorem atTo_in (xs : List Int) {t i : Nat} (h : i < t) : ((i : Int), xs[i]?.getD 0) ∈ atTo xs t := by
  simp only [atTo, List.mem_map, List.mem_range]
  exact ⟨i, h, rfl⟩
def early (xs : List Int) (now : Int) (t : Nat) : Nat := ((atTo xs t).filter (fun s => decide (s.2 ≤ now))).length
theorem early_yes {xs : List Int} {now : Int} {t : Nat} (h : xs[t]?.getD 0 ≤ now) : early xs now (t + 1) = early xs now t + 1 := by
  unfold early; rw [atTo_succ, List.filter_append, List.length_append]; simp [h]
theorem early_no {xs : List Int} {now : Int} {t : Nat} (h : ¬ xs[t]?.getD 0 ≤ now) : early xs now (t + 1) = early xs now t := by
  unfold early; rw [atTo_succ, List.filter_append, List.length_append]; simp [h]
theorem early_le (xs : List Int) (now : Int) (t : Nat) : early xs now t ≤ t := by
  unfold early
  have := List.length_filter_le (fun s : Sp => decide (s.2 ≤ now)) (atTo xs t)
  rwa [atTo_length] at this
theorem filter_two (now : Int) (l : List Sp) : (l.filter (fun s => decide (now < s.2))).length + (l.filter (fun s => decide (s.2 ≤ now))).length = l.length := by
  induction l with
  | nil => rfl
  | cons a l ih =>
    by_cases h : now < a.2
    · have h2 : ¬ a.2 ≤ now := by omega
      simp [h, h2]; omega
    · have h2 : a.2 ≤ now := by omega
      simp [h, h2]; omega
theorem early_due {xs : List Int} {now : Int} {t : Nat} (hk : Keys (atTo xs t)) : (dueL (atTo xs t) now).2.length = early xs now t ∧ (dueL (atTo xs t) now).1.length + early xs now t = t := by
  have h1 := due_left now _ hk
  have h2 := due_count now _ hk
  have h3 := filter_two now (atTo xs t)
  have h4 := atTo_length xs t
  unfold early
  rw [h1] at h2 ⊢
  omega
/-- what is due at place i -/
theorem early_at {xs : List Int} {now : Int} {t : Nat} (hk : Keys (atTo xs t)) {i : Nat} (hi : i < (dueL (atTo xs t) now).2.length) :
    ∃ k : Nat, k < t ∧ (dueL (atTo xs t) now).2[i]?.getD 0 = (k : Int) ∧ xs[k]?.getD 0 ≤ now := by
  obtain ⟨s, hs, e, h⟩ := due_mem now _ hk _ (List.getElem_mem hi)
  obtain ⟨k, hkt, rfl⟩ := atTo_at hs
  exact ⟨k, hkt, by rw [List.getElem?_eq_getElem hi]; exact e.symm, h⟩
theorem early_order {xs : List Int} {now : Int} {t : Nat} (hk : Keys (atTo xs t)) {i j k : Nat} (hi : i + 1 < (dueL (atTo xs t) now).2.length)
    (hj : j < t) (ej : (dueL (atTo xs t) now).2[i]?.getD 0 = (j : Int)) (hkt : k < t) (ek : (dueL (atTo xs t) now).2[i + 1]?.getD 0 = (k : Int)) :
    xs[j]?.getD 0 < xs[k]?.getD 0 ∨ (xs[j]?.getD 0 = xs[k]?.getD 0 ∧ j < k) := by
  have h := List.pairwise_iff_getElem.1 (due_order now _ hk) i (i + 1) (by omega) hi (by omega)
  rw [List.getElem?_eq_getElem (by omega)] at ej
  rw [List.getElem?_eq_getElem hi] at ek
  have := ahead_iff.1 (h _ (atTo_in xs hj) _ (atTo_in xs hkt) ej.symm ek.symm)
  simp only at this
  omega

set_option maxRecDepth 100000 in
set_option maxHeartbeats 2000000 in
theorem sorts_walk (T : TimerOK QR) (now : Int) (A : Option Addr) (len cap : Nat) (xs : List Int) (w : World) (hn0 : -32768 ≤ now) (hn1 : now ≤ 32767) (hlen : xs.length = len) (hxs : AllH xs)
    (hr : 0 < len → ∃ b off, A = some ⟨b, off, none⟩ ∧ b < w.heap.size ∧ ∀ j, j < len → w.cell? ⟨b, off + j, none⟩ = some (.int .i16 (xs[j]?.getD 0))) :
    Calls Try.prog 4 #[.slice A len cap, .int .i16 now] w fun e w' => e = .returned (.bool true) ∧ Below w.heap.size w w' := by
  have HT := Lib.hid T
  by_cases hlong : 100 < len
  · have d0 : decide (100 < (len : Int)) = true := decide_eq_true (by omega)
    clear hlen hr
    go_enter Try.func4, Try.ntmps4
    go_wp2_with (go_at_call 10; refine (known_any HT.out _).mono ?_; rintro e w1 ⟨rfl, hB⟩)
    go_ret
    exact ⟨rfl, hB⟩
  · have d0 : decide (100 < (len : Int)) = false := decide_eq_false (by omega)
    have hle : len ≤ 100 := by omega
    have H := Lib.hid hr
    have HN := Lib.hid hlen
    have HA := Lib.hid hxs
    clear T hr hlen hxs
    go_enter Try.func4, Try.ntmps4
    go_wp2_with fail
    refine (HT.out.new w).mono ?_
    rintro e w1 ⟨q, S1, rfl, hq1, hg1⟩
    have HQ1 := Lib.hid hq1
    have HG1 := Lib.hid hg1
    clear hq1 hg1
    go_wp2_with fail
    go_loopw [6, 7] (fun n i wr => ∃ (t : Nat) (S : Nat → Prop), t ≤ len ∧ i = .int .i64 t ∧ n = .int .i64 (early xs now t) ∧ QR wr S q (atTo xs t) ∧ Grows (fun _ => False) S w wr) (fun _ i _ => len - (intOf i).toNat)
    case atStart => exact ⟨0, S1, by omega, rfl, rfl, HQ1.out, HG1.out⟩
    case round =>
      obtain ⟨t, S, ht, rfl, rfl, hq, hg⟩ := hrel
      have HQ := Lib.hid hq
      have HG := Lib.hid hg
      have hB := hg.new_below
      have HE := Lib.hid (early_le xs now t)
      clear hq hg
      by_cases hlt : t < len
      · obtain ⟨bb, off, rfl, hbb, hcell⟩ := H.out (by omega)
        have u0 := hcell t hlt
        have hc0 := (hB.cell (p := ⟨bb, off + t, none⟩) hbb).trans u0
        have hx := HA.out.at_ t
        have HS := Lib.hid (set_at xs (t := t) (by omega))
        have HU := Lib.hid u0
        have HY := Lib.hid (early_yes (xs := xs) (now := now) (t := t))
        have HZ := Lib.hid (early_no (xs := xs) (now := now) (t := t))
        clear hcell u0
        generalize xs[t]?.getD 0 = x at *
        go_wp2_with fail
        refine (HT.out.set t x HQ.out ⟨by omega, by omega⟩ ⟨by omega, by omega⟩).mono ?_
        rintro e w3 ⟨rfl, S3, hq3, hg3⟩
        rw [HS.out.1] at hq3
        have HQ3 := Lib.hid hq3
        have HG3 := Lib.hid (HG.out.trans hg3)
        have hc1 := (HG3.out.new_below.cell (p := ⟨bb, off + t, none⟩) hbb).trans HU.out
        have he := HE.out
        clear hq3 hg3
        by_cases hxn : x ≤ now
        · have d1 : decide (x ≤ now) = true := decide_eq_true hxn
          have HY2 := Lib.hid (HY.out hxn)
          go_wp2_with fail
          go_roundw
          case rel => exact ⟨t + 1, S3, by omega, by go_num, by rw [HY2.out]; go_num, HQ3.out, HG3.out⟩
          case measure => simp [intOf]; omega
        · have d1 : decide (x ≤ now) = false := decide_eq_false hxn
          have HY2 := Lib.hid (HZ.out (by omega))
          go_wp2_with fail
          go_roundw
          case rel => exact ⟨t + 1, S3, by omega, by go_num, by rw [HY2.out], HQ3.out, HG3.out⟩
          case measure => simp [intOf]; omega
      · obtain rfl : t = len := by omega
        have HK : Hid (Keys (atTo xs t)) := Lib.hid (HT.out.keys HQ.out)
        have HD := Lib.hid (early_due (now := now) HK.out)
        have HAt := Lib.hid (fun i hi => early_at (now := now) HK.out (i := i) hi)
        have HO := Lib.hid (fun i j k hi => early_order (now := now) HK.out (i := i) (j := j) (k := k) hi)
        generalize early xs now t = n at *
        go_wp2_with fail
        refine (HT.out.due now HQ.out ⟨by omega, by omega⟩).mono ?_
        rintro e w4 ⟨v, rfl, ⟨S4, hq4, hg4, hn4⟩, ho4⟩
        obtain ⟨m, hm⟩ : ∃ m, m = (dueL (atTo xs t) now).2 := ⟨_, rfl⟩
        rw [← hm] at ho4 HD HAt HO
        have HQ4 := Lib.hid hq4
        have HG4 := Lib.hid (HG.out.trans hg4)
        have HN4 := Lib.hid hn4
        clear hq4 hg4 hn4
        obtain ⟨A2, c2, rfl, -⟩ := ho4.ints
        have HO4 := Lib.hid ho4
        have hnm : m.length = n := HD.out.1
        have HLn : Hid ((dueL (atTo xs t) now).1.length + n = t) := Lib.hid HD.out.2
        rw [hnm]
        generalize hL : (dueL (atTo xs t) now).1 = L at *
        have HL := Lib.hid hL
        clear ho4 hm hL
        have d2 : ((n : Int) != (n : Int)) = false := by simp
        go_wp2_with fail
        refine (HT.out.len HQ4.out).mono ?_
        rintro e w5 ⟨rfl, S5, hq5, hg5⟩
        have HG5 := Lib.hid (HG4.out.trans hg5)
        have HI5 := Lib.hid (HO4.out.grows HN4.out hg5).ints
        clear hq5 hg5
        have hL : L.length + n = t := HLn.out
        have hw5 : IntKind.i64.wrap ((t : Int) - (n : Int)) = (L.length : Int) := by rw [IntWalk.i64_in _ (by omega)]; omega
        have d3 : ((L.length : Int) != (L.length : Int)) = false := by simp
        go_wp2_with fail
        obtain ⟨A3, c3, e3, hr5⟩ := HI5.out
        injection e3 with e31 e32 e33
        subst e31
        subst e33
        clear e32
        have H5 := Lib.hid hr5
        have HM := Lib.hid hnm
        have HB5 := Lib.hid HG5.out.new_below
        clear hr5 hnm hB HI5 HO4 HN4 HQ4
        go_loopw [9] (fun i wr => ∃ s : Nat, s ≤ n ∧ i = .int .i64 s ∧ ∃ N, wr = w5.drewN N) (fun i _ => n - (intOf i).toNat)
        case atStart => exact ⟨0, by omega, rfl, 0, rfl⟩
        case round =>
          obtain ⟨s, hs, rfl, N, rfl⟩ := hrel
          by_cases hls : s < n
          · obtain ⟨b2, off2, rfl, hb2, hc2⟩ := H5.out (by rw [HM.out]; omega)
            obtain ⟨k, hk, ek, hkn⟩ := HAt.out s (by rw [HM.out]; exact hls)
            obtain ⟨bb, off, rfl, hbb, hcell⟩ := H.out (by omega)
            have u0 := hc2 s (by rw [HM.out]; exact hls)
            rw [ek] at u0
            have u1 := (HB5.out.cell (p := ⟨bb, off + k, none⟩) hbb).trans (hcell k hk)
            have hx := HA.out.at_ k
            have d4 : decide ((k : Int) < 0) = false := decide_eq_false (by omega)
            have d5 : decide ((t : Int) ≤ (k : Int)) = false := decide_eq_false (by omega)
            have d6 : decide (now < xs[k]?.getD 0) = false := decide_eq_false (by omega)
            cases s with
            | zero =>
              have u2 : w5.cell? ⟨b2, off2, none⟩ = some (.int .i64 (k : Int)) := by rwa [Nat.add_zero] at u0
              have d7 : decide ((0 : Int) < ((0 : Nat) : Int)) = false := decide_eq_false (by omega)
              clear u0 hc2 hcell ek hkn
              generalize xs[k]?.getD 0 = x at *
              go_wp2_with fail
              go_quiet (fail)
              go_wp2_with fail
              go_roundw
              case rel => exact ⟨1, by omega, rfl, _, by first | rfl | exact World.drewN_drewN _ _ _⟩
              case measure => simp [intOf]; omega
            | succ r =>
              obtain ⟨j, hj, ej, hjn⟩ := HAt.out r (by rw [HM.out]; omega)
              have hor := HO.out r j k (by rw [HM.out]; omega) hj ej hk ek
              have u2 := hc2 r (by rw [HM.out]; omega)
              rw [ej] at u2
              have u3 := (HB5.out.cell (p := ⟨bb, off + j, none⟩) hbb).trans (hcell j hj)
              have hy := HA.out.at_ j
              have d7 : decide ((0 : Int) < (r : Int) + 1) = true := decide_eq_true (by omega)
              have hw : IntKind.i64.wrap ((r : Int) + 1 - 1) = (r : Int) := by rw [Int.add_sub_cancel]; exact IntWalk.i64_in _ (by omega)
              have d8 : decide (xs[k]?.getD 0 < xs[j]?.getD 0) = false := decide_eq_false (by omega)
              clear hc2 hcell ek hkn ej hjn
              generalize xs[k]?.getD 0 = x at *
              generalize xs[j]?.getD 0 = y at *
              by_cases hxy : y = x
              · subst hxy
                have d9 : (y == y) = true := by simp
                have d10 : decide ((k : Int) ≤ (j : Int)) = false := decide_eq_false (by omega)
                have d11 : ¬ k ≤ j := by omega
                clear hor
                go_wp2_with fail
                go_quiet (fail)
                go_wp2_with fail
                go_roundw
                case rel => exact ⟨r + 2, by omega, by go_num, _, by first | rfl | exact World.drewN_drewN _ _ _⟩
                case measure => simp [intOf]; omega
              · have d9 : (y == x) = false := by simpa using hxy
                clear hor
                go_wp2_with fail
                go_quiet (fail)
                go_wp2_with fail
                go_roundw
                case rel => exact ⟨r + 2, by omega, by go_num, _, by first | rfl | exact World.drewN_drewN _ _ _⟩
                case measure => simp [intOf]; omega
          · obtain rfl : s = n := by omega
            have HB6 : Hid (Below w.heap.size w (w5.drewN N)) := Lib.hid (below_drewN HB5.out _)
            go_wp2_with fail
            refine (known_any HT.out _).mono ?_
            rintro e w6 ⟨rfl, hB6⟩
            have HB7 : Hid (Below w.heap.size w w6) := Lib.hid (HB6.out.trans (hB6.mono HB6.out.size))
            go_wp2_with fail
            go_ret
            exact ⟨rfl, HB7.out⟩

end Go.Proofs.Ytlhfgiffdfcplaa
