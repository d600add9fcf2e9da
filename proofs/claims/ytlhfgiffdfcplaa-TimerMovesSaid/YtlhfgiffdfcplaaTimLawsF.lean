/-
  Layer 5: the walk of TimerMoves, over any queue that is as TimerOK asks.
-/
import Derived.Test.YtlhfgiffdfcplaaTimLawsE
namespace Go.Proofs.Ytlhfgiffdfcplaa
open Go.RowKit Go.Deep
variable {QR : World → (Nat → Prop) → Value → List Sp → Prop}

theorem atTo_key (xs : List Int) {t k : Nat} (h : k < t) : ((k : Int), xs[k]?.getD 0) ∈ atTo xs t := by
  simp only [atTo, List.mem_map, List.mem_range]
  exact ⟨k, h, rfl⟩
theorem atTo_small {xs : List Int} (hx : AllB xs) {t : Nat} {s : Sp} (h : s ∈ atTo xs t) : 0 ≤ s.2 ∧ s.2 ≤ 255 := by
  simp only [atTo, List.mem_map, List.mem_range] at h
  obtain ⟨i, hi, rfl⟩ := h
  exact hx.at_ i
/-- a key that is set again, later than all -/
theorem moves_at {xs : List Int} (hx : AllB xs) {t k : Nat} {c : Int} (hk : Keys (atTo xs t)) (hkt : k < t) (hc : 300 ≤ c) (ht : t ≤ 60)
    (hm : Keys (setL (atTo xs t) k c)) :
    (dueL (setL (atTo xs t) k c) 299).1 = [((k : Int), c)] ∧ (dueL (setL (atTo xs t) k c) 299).2.length + 1 = t ∧ ∀ i, i < (dueL (setL (atTo xs t) k c) 299).2.length → (dueL (setL (atTo xs t) k c) 299).2[i]?.getD 0 ≠ (k : Int) := by
  have h1 := drop_lone hk (atTo_key xs hkt)
  have h2 := atTo_length xs t
  simp only at h1
  have e1 : setL (atTo xs t) k c = dropL (atTo xs t) k ++ [((k : Int), c)] := by unfold setL; rw [if_neg (by omega)]
  have e2 : (dueL (setL (atTo xs t) k c) 299).1 = [((k : Int), c)] := by
    rw [due_left _ _ hm, e1, List.filter_append, List.filter_eq_nil_iff.2 (fun s hs => by have := atTo_small hx (drop_mem.1 hs).1; simp; omega)]
    simp; omega
  have e3 := due_count 299 _ hm
  refine ⟨e2, ?_, fun i hi => ?_⟩
  · rw [e2] at e3
    have : (setL (atTo xs t) k c).length = t := by rw [e1, List.length_append]; simp; omega
    simp at e3
    omega
  · obtain ⟨s, hs, e, h⟩ := due_mem 299 _ hm _ (List.getElem_mem hi)
    rw [List.getElem?_eq_getElem hi, Option.getD_some, ← e]
    rw [e1, List.mem_append] at hs
    rcases hs with hs | hs
    · exact (drop_mem.1 hs).2
    · rw [List.mem_singleton] at hs
      subst hs
      simp only at h
      omega
theorem next_one (s : Sp) : nextL [s] = s := next_is (by simp) (fun u hu hne => absurd (by simpa using hu) hne)
theorem due_one (k c now : Int) : decide ((dueL [(k, c)] now).2.length = 1) = decide (c ≤ now) ∧ (dueL [(k, c)] now).2.length ≤ 1 := by
  have hk : Keys [(k, c)] := by unfold Keys; simp
  have e1 := due_left now _ hk
  have e2 := due_count now _ hk
  rw [e1] at e2
  by_cases h : now < c
  · have h3 : ¬ c ≤ now := by omega
    simp [h] at e2
    rw [e2]
    simp [h3]
  · have h3 : c ≤ now := by omega
    simp [h] at e2
    rw [e2]
    simp [h3]

set_option maxRecDepth 100000 in
set_option maxHeartbeats 2000000 in
theorem moves_walk (T : TimerOK QR) (key a b : Nat) (A : Option Addr) (len cap : Nat) (xs : List Int) (w : World) (hk : key < 256) (ha : a < 256) (hb : b < 256) (hlen : xs.length = len) (hxs : AllB xs) (hby : Bytes w w.heap.size (.slice A len cap) xs) :
    Calls Try.prog 8 #[.slice A len cap, .int .u8 key, .int .u8 a, .int .u8 b] w fun e w' => e = .returned (.bool true) ∧ Below w.heap.size w w' := by
  have HT := Lib.hid T
  by_cases hlong : 60 < len
  · have d0 : decide (60 < (len : Int)) = true := decide_eq_true (by omega)
    clear hlen hby
    go_enter Try.func8, Try.ntmps8
    go_wp2_with (go_at_call 10; refine (known_any HT.out _).mono ?_; rintro e w1 ⟨rfl, hB⟩)
    go_ret
    exact ⟨rfl, hB⟩
  by_cases hnil : len = 0
  · subst hnil
    have d0 : decide (60 < ((0 : Nat) : Int)) = false := by decide
    clear hlen hby
    go_enter Try.func8, Try.ntmps8
    go_wp2_with (go_at_call 10; refine (known_any HT.out _).mono ?_; rintro e w1 ⟨rfl, hB⟩)
    go_ret
    exact ⟨rfl, hB⟩
  have d0 : decide (60 < (len : Int)) = false := decide_eq_false (by omega)
  have d1 : ((len : Int) == 0) = false := by simpa using hnil
  have hle : len ≤ 60 := by omega
  obtain ⟨A', c', e, _, _, hr⟩ := hby
  rw [hlen] at e
  cases e
  have H := Lib.hid hr
  have HN := Lib.hid hlen
  have HA := Lib.hid hxs
  clear T hr hlen hxs
  go_enter Try.func8, Try.ntmps8
  go_wp2_with fail
  refine (HT.out.new w).mono ?_
  rintro e w1 ⟨q, S1, rfl, hq1, hg1⟩
  have HQ1 := Lib.hid hq1
  have HG1 := Lib.hid hg1
  clear hq1 hg1
  go_wp2_with fail
  go_loopw [10] (fun i wr => ∃ (t : Nat) (S : Nat → Prop), t ≤ len ∧ i = .int .i64 t ∧ QR wr S q (atTo xs t) ∧ Grows (fun _ => False) S w wr) (fun i _ => len - (intOf i).toNat)
  case atStart => exact ⟨0, S1, by omega, rfl, HQ1.out, HG1.out⟩
  case round =>
    obtain ⟨t, S, ht, rfl, hq, hg⟩ := hrel
    have HQ := Lib.hid hq
    have HG := Lib.hid hg
    have hB := hg.new_below
    clear hq hg
    by_cases hlt : t < len
    · obtain ⟨bb, off, rfl, hbb, hcell⟩ := H.out (by rw [HN.out]; omega)
      have hc0 := (hB.cell (p := ⟨bb, off + t, none⟩) hbb).trans (hcell t (by rw [HN.out]; exact hlt))
      have hx := HA.out.at_ t
      have HS := Lib.hid (set_at xs (t := t) (by omega))
      clear hcell
      generalize xs[t]?.getD 0 = x at *
      go_wp2_with fail
      refine (HT.out.set t x HQ.out ⟨by omega, by omega⟩ ⟨by omega, by omega⟩).mono ?_
      rintro e w3 ⟨rfl, S3, hq3, hg3⟩
      rw [HS.out.1] at hq3
      have HQ3 := Lib.hid hq3
      have HG3 := Lib.hid (HG.out.trans hg3)
      clear hq3 hg3
      go_wp2_with fail
      go_roundw
      case rel => exact ⟨t + 1, S3, by omega, by go_num, HQ3.out, HG3.out⟩
      case measure => simp [intOf]; omega
    · obtain rfl : t = len := by omega
      obtain ⟨k, hkk⟩ : ∃ k, k = key % t := ⟨_, rfl⟩
      have hkt : k < t := by rw [hkk]; exact Nat.mod_lt _ (by omega)
      have t1 : (key : Int) % (t : Int) = (k : Int) := by rw [hkk]; exact (Int.natCast_emod _ _).symm
      have t2 : (key : Int).tmod (t : Int) = (k : Int) := by rw [Int.tmod_eq_emod_of_nonneg (by omega)]; exact t1
      clear hkk
      go_wp2_with fail
      refine (HT.out.set k (300 + (a : Int)) HQ.out ⟨by omega, by omega⟩ ⟨by omega, by omega⟩).mono ?_
      rintro e w3 ⟨rfl, S3, hq3, hg3⟩
      have HMv := Lib.hid (moves_at HA.out (t := t) (k := k) (c := 300 + (a : Int)) (HT.out.keys HQ.out) hkt (by omega) hle (HT.out.keys hq3))
      generalize setL (atTo xs t) k (300 + (a : Int)) = M at *
      generalize setB (atTo xs t) k = mb at *
      have HQ3 := Lib.hid hq3
      have HG3 := Lib.hid (HG.out.trans hg3)
      clear hq3 hg3 t1 t2
      go_wp2_with fail
      refine (HT.out.due 299 HQ3.out ⟨by decide, by decide⟩).mono ?_
      rintro e w4 ⟨v, rfl, ⟨S4, hq4, hg4, -⟩, ho4⟩
      rw [HMv.out.1] at hq4
      obtain ⟨m, hm⟩ : ∃ m, m = (dueL M 299).2 := ⟨_, rfl⟩
      have HMl : Hid (m.length + 1 = t) := Lib.hid (by rw [hm]; exact HMv.out.2.1)
      have HMn : Hid (∀ i, i < m.length → m[i]?.getD 0 ≠ (k : Int)) := Lib.hid (by rw [hm]; exact HMv.out.2.2)
      rw [← hm] at ho4
      obtain ⟨A2, c2, rfl, hc2⟩ := ho4.ints
      obtain ⟨n, hn⟩ : ∃ n, n = m.length := ⟨_, rfl⟩
      have hn1 : n + 1 = t := by rw [hn]; exact HMl.out
      rw [← hn]
      have HN2 := Lib.hid hn
      have H2 := Lib.hid hc2
      have HQ4 := Lib.hid hq4
      have HG4 := Lib.hid (HG3.out.trans hg4)
      clear hq4 hg4 ho4 hm hc2 hn
      go_wp2_with fail
      go_loopw [13] (fun i wr => ∃ s : Nat, s ≤ n ∧ i = .int .i64 s ∧ wr = w4) (fun i _ => n - (intOf i).toNat)
      case atStart => exact ⟨0, by omega, rfl, rfl⟩
      case round =>
        obtain ⟨s, hs, rfl, rfl⟩ := hrel
        by_cases hls : s < n
        · obtain ⟨b2, off2, rfl, hb2, hc2⟩ := H2.out (by rw [← HN2.out]; omega)
          have u0 := hc2 s (by rw [← HN2.out]; exact hls)
          have d3 : (m[s]?.getD 0 == (k : Int)) = false := by
            have := HMn.out s (by rw [← HN2.out]; exact hls)
            simpa using this
          clear hc2
          generalize m[s]?.getD 0 = x at *
          go_wp2_with fail
          go_roundw
          case rel => exact ⟨s + 1, by omega, by go_num, by first | trivial | rfl⟩
          case measure => simp [intOf]; omega
        · obtain rfl : s = n := by omega
          go_wp2_with fail
          have HDu := Lib.hid (due_one (k : Int) (300 + (a : Int)) (300 + (b : Int)))
          refine (HT.out.next HQ4.out).mono ?_
          rintro e w5 ⟨rfl, S5, hq5, hg5⟩
          rw [next_one]
          have HQ5 := Lib.hid hq5
          have HG5 := Lib.hid (HG4.out.trans hg5)
          clear hq5 hg5
          go_wp2_with fail
          refine (HT.out.due (300 + (b : Int)) HQ5.out ⟨by omega, by omega⟩).mono ?_
          rintro e w6 ⟨v, rfl, ⟨S6, hq6, hg6, -⟩, ho6⟩
          have HQ6 := Lib.hid hq6
          have HG6 := Lib.hid (HG5.out.trans hg6)
          obtain ⟨A3, c3, rfl, -⟩ := ho6.ints
          obtain ⟨p, hp⟩ : ∃ p, (dueL [((k : Int), 300 + (a : Int))] (300 + (b : Int))).2.length = p := ⟨_, rfl⟩
          rw [hp] at HDu ⊢
          clear hq6 hg6 ho6 hp
          go_wp2_with fail
          refine (known_any HT.out _).mono ?_
          rintro e w7 ⟨rfl, hB7⟩
          have HB7 := Lib.hid (HG6.out.trans (Grows.same (S := S6) hB7)).new_below
          clear hB7
          have hw : IntKind.i64.wrap ((s : Int) + 1 - 1) = (s : Int) := by rw [Int.add_sub_cancel]; exact IntWalk.i64_in _ (by omega)
          have d4 : ((s : Int) == (s : Int)) = true := by simp
          have d5 : ((k : Int) == (k : Int)) = true := by simp
          have d6 : ((300 + (a : Int)) == (300 + (a : Int))) = true := by simp
          by_cases hab : a ≤ b
          · have hp1 : p = 1 := by
              have h := HDu.out.1
              rw [decide_eq_true (by omega : 300 + (a : Int) ≤ 300 + (b : Int))] at h
              simpa using h
            subst hp1
            have d7 : decide ((a : Int) ≤ (b : Int)) = true := decide_eq_true (by omega)
            go_wp2_with fail
            go_ret
            exact ⟨by simp, HB7.out⟩
          · have hp1 : p = 0 := by
              have h := HDu.out.1
              have h2 := HDu.out.2
              rw [decide_eq_false (by omega : ¬ 300 + (a : Int) ≤ 300 + (b : Int))] at h
              have := of_decide_eq_false h
              omega
            subst hp1
            have d7 : decide ((a : Int) ≤ (b : Int)) = false := decide_eq_false (by omega)
            go_wp2_with fail
            go_ret
            exact ⟨by simp, HB7.out⟩

end Go.Proofs.Ytlhfgiffdfcplaa
