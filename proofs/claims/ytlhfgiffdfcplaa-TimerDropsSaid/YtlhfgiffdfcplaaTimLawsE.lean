/-
  Layer 5: the walk of TimerFull, over any queue that is as TimerOK asks.
-/
import Derived.Test.YtlhfgiffdfcplaaTimLawsC
namespace Go.Proofs.Ytlhfgiffdfcplaa
open Go.RowKit Go.Deep
variable {QR : World → (Nat → Prop) → Value → List Sp → Prop}

theorem drop_none {l : List Sp} {k : Int} (h : ∀ s ∈ l, s.1 ≠ k) : dropL l k = l := by
  unfold dropL
  exact List.filter_eq_self.2 (fun s hs => by simpa using h s hs)
theorem drop_lone {l : List Sp} (hk : Keys l) {s : Sp} (h : s ∈ l) : (dropL l s.1).length + 1 = l.length := by
  have e : (l.map (·.1)).erase s.1 = (dropL l s.1).map (·.1) := by
    rw [List.Nodup.erase_eq_filter hk]
    unfold dropL
    rw [List.filter_map]
    congr 1
  have h3 := List.length_erase_of_mem (List.mem_map_of_mem (f := (·.1)) h)
  rw [e, List.length_map, List.length_map] at h3
  have := List.length_pos_of_mem h
  omega
theorem drop_two (l : List Sp) (k : Int) : dropL (dropL l k) k = dropL l k := drop_none (fun _ hs => (drop_mem.1 hs).2)
theorem at_none {l : List Sp} {k : Int} (h : ∀ s ∈ l, s.1 ≠ k) : atB l k = false := by
  unfold atB
  rw [List.find?_eq_none.2 (fun _ hs => by unfold isKey; simpa using h _ hs)]
  rfl
theorem at_last {l : List Sp} {k a : Int} (h : ∀ s ∈ l, s.1 ≠ k) : atB (l ++ [(k, a)]) k = true ∧ atI (l ++ [(k, a)]) k = a := by
  have e : (l ++ [(k, a)]).find? (isKey k) = some (k, a) := by
    rw [List.find?_append, List.find?_eq_none.2 (fun s hs => by unfold isKey; simpa using h s hs)]
    simp [isKey]
  unfold atB atI
  rw [e]
  exact ⟨rfl, rfl⟩
/-- what a Set leaves -/
theorem set_then {l : List Sp} (hl : l.length ≤ 1000) (k a : Int) :
    atB (setL l k a) k = setB l k ∧ (setB l k = true → atI (setL l k a) k = a) ∧ decide ((dropL (setL l k a) k).length < (setL l k a).length) = setB l k := by
  by_cases h : (dropL l k).length < 1000
  · have e1 : setL l k a = dropL l k ++ [(k, a)] := by unfold setL; rw [if_neg (by omega)]
    have e2 : setB l k = true := by unfold setB; exact decide_eq_true h
    have h1 := at_last (l := dropL l k) (k := k) (a := a) (fun _ hs => (drop_mem.1 hs).2)
    rw [e1, e2]
    refine ⟨h1.1, fun _ => h1.2, decide_eq_true ?_⟩
    have e3 : dropL (dropL l k ++ [(k, a)]) k = dropL l k := by
      have h2 := drop_two l k
      unfold dropL at h2 ⊢
      rw [List.filter_append, h2]
      simp
    rw [e3, List.length_append]
    simp
  · have e1 : setL l k a = l := by unfold setL; rw [if_pos (by omega)]
    have e2 : setB l k = false := by unfold setB; exact decide_eq_false h
    have h2 := dropL_length l k
    have h3 : dropL l k = l := List.filter_eq_self.2 (List.length_filter_eq_length_iff.1 (by unfold dropL at h h2; omega))
    rw [e1, e2]
    refine ⟨at_none (fun s hs => ?_), fun h => by simp at h, decide_eq_false (by rw [h3]; omega)⟩
    rw [← h3] at hs
    exact (drop_mem.1 hs).2
theorem drop_then (l : List Sp) (k : Int) : decide ((dropL (dropL l k) k).length < (dropL l k).length) = false := decide_eq_false (by rw [drop_two]; omega)

/-- the keys 0, 1, .. at their number's rest by 7, up to a thousand -/
def fullTo (t : Nat) : List Sp := (List.range (min t 1000)).map (fun i : Nat => ((i : Int), ((i % 7 : Nat) : Int)))
theorem full_length (t : Nat) : (fullTo t).length = min t 1000 := by simp [fullTo]
theorem full_mem {t : Nat} {s : Sp} (h : s ∈ fullTo t) : 0 ≤ s.1 ∧ s.1 < (t : Int) ∧ s.1 < 1000 := by
  simp only [fullTo, List.mem_map, List.mem_range] at h
  obtain ⟨i, hi, rfl⟩ := h
  simp only; omega
theorem full_less {t : Nat} (h : t < 1000) : setL (fullTo t) t ((t % 7 : Nat) : Int) = fullTo (t + 1) ∧ setB (fullTo t) t = true := by
  have := set_new (l := fullTo t) (k := (t : Int)) (a := ((t % 7 : Nat) : Int)) (fun s hs => by have := full_mem hs; omega) (by rw [full_length]; omega)
  have e : fullTo (t + 1) = fullTo t ++ [((t : Int), ((t % 7 : Nat) : Int))] := by
    unfold fullTo
    rw [Nat.min_eq_left (by omega), Nat.min_eq_left (by omega), List.range_succ, List.map_append]
    rfl
  rw [e]
  exact this
theorem full_more {t : Nat} (h : ¬ t < 1000) : setL (fullTo t) t ((t % 7 : Nat) : Int) = fullTo (t + 1) ∧ setB (fullTo t) t = false := by
  have e : dropL (fullTo t) t = fullTo t := drop_none (fun s hs => by have := full_mem hs; omega)
  have e2 : fullTo (t + 1) = fullTo t := by unfold fullTo; rw [Nat.min_eq_right (by omega), Nat.min_eq_right (by omega)]
  have h2 := full_length t
  unfold setL setB
  rw [e, e2, h2]
  exact ⟨if_pos (by omega), decide_eq_false (by omega)⟩
theorem full_key (m k : Nat) (hk : Keys (fullTo m)) : setB (fullTo m) k = (decide (k < min m 1000) || decide (m < 1000)) := by
  unfold setB
  by_cases h : k < min m 1000
  · have hm : ((k : Int), ((k % 7 : Nat) : Int)) ∈ fullTo m := by
      simp only [fullTo, List.mem_map, List.mem_range]
      exact ⟨k, h, rfl⟩
    have h1 := drop_lone hk hm
    have h2 := full_length m
    rw [decide_eq_true h, decide_eq_true (by simp only at h1; omega)]
    rfl
  · have e : dropL (fullTo m) k = fullTo m := drop_none (fun s hs => by have := full_mem hs; omega)
    rw [decide_eq_false h, e, full_length, Bool.false_or]
    exact decide_eq_decide.2 (by omega)

set_option maxRecDepth 100000 in
set_option maxHeartbeats 2000000 in
theorem full_walk (T : TimerOK QR) (n key : Nat) (a : Int) (w : World) (hn : n < 65536) (hk : key < 65536) (ha : In64 a) :
    Calls Try.prog 5 #[.int .u16 n, .int .i64 a, .int .u16 key] w fun e w' => e = .returned (.bool true) ∧ Below w.heap.size w w' := by
  have HT := Lib.hid T
  have HA := Lib.hid ha
  obtain ⟨m, hm⟩ : ∃ m, m = n % 1100 := ⟨_, rfl⟩
  have hml : m < 1100 := by omega
  have HM1 : Hid ((n : Int) % 1100 = (m : Int)) := Lib.hid (by omega)
  clear T ha
  go_enter Try.func5, Try.ntmps5
  go_wp2_with fail
  refine (HT.out.new w).mono ?_
  rintro e w1 ⟨q, S1, rfl, hq1, hg1⟩
  have HQ1 := Lib.hid hq1
  have HG1 := Lib.hid hg1
  clear hq1 hg1
  go_wp2_with fail
  rw [HM1.out]
  clear hm
  go_loopw [9] (fun i wr => ∃ (t : Nat) (S : Nat → Prop), t ≤ m ∧ i = .int .i64 t ∧ QR wr S q (fullTo t) ∧ Grows (fun _ => False) S w wr) (fun i _ => m - (intOf i).toNat)
  case atStart => exact ⟨0, S1, by omega, rfl, HQ1.out, HG1.out⟩
  case round =>
    obtain ⟨t, S, ht, rfl, hq, hg⟩ := hrel
    have HQ := Lib.hid hq
    have HG := Lib.hid hg
    clear hq hg
    by_cases hlt : t < m
    · obtain ⟨r, hr⟩ : ∃ r, r = t % 7 := ⟨_, rfl⟩
      have t2 : (t : Int) % 7 = (r : Int) := by omega
      by_cases hth : t < 1000
      · have d1 : decide ((t : Int) < 1000) = true := decide_eq_true (by omega)
        have HF := Lib.hid (full_less hth)
        rw [← hr] at HF
        have hr7 : r < 7 := by omega
        clear hr
        go_wp2_with fail
        refine (HT.out.set t r HQ.out ⟨by omega, by omega⟩ ⟨by omega, by omega⟩).mono ?_
        rintro e w3 ⟨rfl, S3, hq3, hg3⟩
        rw [HF.out.1] at hq3
        rw [HF.out.2]
        have HQ3 := Lib.hid hq3
        have HG3 := Lib.hid (HG.out.trans hg3)
        clear hq3 hg3
        go_wp2_with fail
        go_roundw
        case rel => exact ⟨t + 1, S3, by omega, by go_num, HQ3.out, HG3.out⟩
        case measure => simp [intOf]; omega
      · have d1 : decide ((t : Int) < 1000) = false := decide_eq_false (by omega)
        have HF := Lib.hid (full_more hth)
        rw [← hr] at HF
        have hr7 : r < 7 := by omega
        clear hr
        go_wp2_with fail
        refine (HT.out.set t r HQ.out ⟨by omega, by omega⟩ ⟨by omega, by omega⟩).mono ?_
        rintro e w3 ⟨rfl, S3, hq3, hg3⟩
        rw [HF.out.1] at hq3
        rw [HF.out.2]
        have HQ3 := Lib.hid hq3
        have HG3 := Lib.hid (HG.out.trans hg3)
        clear hq3 hg3
        go_wp2_with fail
        go_roundw
        case rel => exact ⟨t + 1, S3, by omega, by go_num, HQ3.out, HG3.out⟩
        case measure => simp [intOf]; omega
    · obtain rfl : t = m := by omega
      have HK := Lib.hid (full_key t key (HT.out.keys HQ.out))
      have HS := Lib.hid (set_then (HT.out.small HQ.out) key a)
      obtain ⟨b, hb⟩ : ∃ b, setB (fullTo t) key = b := ⟨_, rfl⟩
      rw [hb] at HK HS
      obtain ⟨z, hz⟩ : ∃ z, atI (setL (fullTo t) key a) key = z := ⟨_, rfl⟩
      rw [hz] at HS
      have HB := Lib.hid hb
      have HZ := Lib.hid hz
      have d3 : (a == a) = true := by simp
      clear hb hz
      have HC : Hid ((b = true ∧ t ≤ 1000 ∧ key < t) ∨ (b = true ∧ 1000 < t ∧ key < 1000) ∨ (b = true ∧ t < 1000 ∧ t ≤ key) ∨ (b = false ∧ t = 1000 ∧ 1000 ≤ key) ∨ (b = false ∧ 1000 < t ∧ 1000 ≤ key)) := Lib.hid (by
        rw [HK.out, Bool.or_eq_true, Bool.or_eq_false_iff, decide_eq_true_eq, decide_eq_true_eq, decide_eq_false_iff_not, decide_eq_false_iff_not]
        omega)
      rcases HC.out with ⟨rfl, h1, h2⟩ | ⟨rfl, h1, h2⟩ | ⟨rfl, h1, h2⟩ | ⟨rfl, h1, h2⟩ | ⟨rfl, h1, h2⟩
      · have f1 : (t : Int) ≤ 1000 := by omega
        have f2 : ¬ (1000 < (t : Int)) := by omega
        have d1 : decide ((key : Int) < (t : Int)) = true := decide_eq_true (by omega)
        have hza := HS.out.2.1 rfl
        subst hza
        have HS1 := Lib.hid HS.out.1
        have HS2 := Lib.hid HS.out.2.2
        have HD := Lib.hid (drop_then (setL (fullTo t) key z) key)
        clear HS HC
        go_wp2_with fail
        refine (HT.out.set key z HQ.out ⟨by omega, by omega⟩ HA.out).mono ?_
        rintro e w3 ⟨rfl, S3, hq3, hg3⟩
        rw [HB.out]
        have HQ3 := Lib.hid hq3
        have HG3 := Lib.hid (HG.out.trans hg3)
        clear hq3 hg3
        go_wp2_with fail
        refine (HT.out.at_ key HQ3.out ⟨by omega, by omega⟩).mono ?_
        rintro e w4 ⟨rfl, S4, hq4, hg4⟩
        rw [HS1.out, HZ.out]
        have HQ4 := Lib.hid hq4
        have HG4 := Lib.hid (HG3.out.trans hg4)
        clear hq4 hg4
        go_wp2_with fail
        refine (known_any HT.out _).mono ?_
        rintro e w5 ⟨rfl, hB5⟩
        have HQ5 := Lib.hid (HT.out.on HQ4.out hB5)
        have HG5 := Lib.hid (HG4.out.trans (Grows.same hB5))
        clear hB5
        go_wp2_with fail
        refine (HT.out.drop key HQ5.out ⟨by omega, by omega⟩).mono ?_
        rintro e w6 ⟨rfl, S6, hq6, hg6⟩
        rw [HS2.out]
        have HQ6 := Lib.hid hq6
        have HG6 := Lib.hid (HG5.out.trans hg6)
        clear hq6 hg6
        go_wp2_with fail
        refine (HT.out.drop key HQ6.out ⟨by omega, by omega⟩).mono ?_
        rintro e w7 ⟨rfl, S7, hq7, hg7⟩
        rw [HD.out]
        have HG7 := Lib.hid (HG6.out.trans hg7)
        clear hq7 hg7
        go_wp2_with fail
        go_ret
        exact ⟨rfl, HG7.out.new_below⟩
      · have f1 : ¬ ((t : Int) ≤ 1000) := by omega
        have f2 : 1000 < (t : Int) := by omega
        have d1 : decide ((key : Int) < 1000) = true := decide_eq_true (by omega)
        have hza := HS.out.2.1 rfl
        subst hza
        have HS1 := Lib.hid HS.out.1
        have HS2 := Lib.hid HS.out.2.2
        have HD := Lib.hid (drop_then (setL (fullTo t) key z) key)
        clear HS HC
        go_wp2_with fail
        refine (HT.out.set key z HQ.out ⟨by omega, by omega⟩ HA.out).mono ?_
        rintro e w3 ⟨rfl, S3, hq3, hg3⟩
        rw [HB.out]
        have HQ3 := Lib.hid hq3
        have HG3 := Lib.hid (HG.out.trans hg3)
        clear hq3 hg3
        go_wp2_with fail
        refine (HT.out.at_ key HQ3.out ⟨by omega, by omega⟩).mono ?_
        rintro e w4 ⟨rfl, S4, hq4, hg4⟩
        rw [HS1.out, HZ.out]
        have HQ4 := Lib.hid hq4
        have HG4 := Lib.hid (HG3.out.trans hg4)
        clear hq4 hg4
        go_wp2_with fail
        refine (known_any HT.out _).mono ?_
        rintro e w5 ⟨rfl, hB5⟩
        have HQ5 := Lib.hid (HT.out.on HQ4.out hB5)
        have HG5 := Lib.hid (HG4.out.trans (Grows.same hB5))
        clear hB5
        go_wp2_with fail
        refine (HT.out.drop key HQ5.out ⟨by omega, by omega⟩).mono ?_
        rintro e w6 ⟨rfl, S6, hq6, hg6⟩
        rw [HS2.out]
        have HQ6 := Lib.hid hq6
        have HG6 := Lib.hid (HG5.out.trans hg6)
        clear hq6 hg6
        go_wp2_with fail
        refine (HT.out.drop key HQ6.out ⟨by omega, by omega⟩).mono ?_
        rintro e w7 ⟨rfl, S7, hq7, hg7⟩
        rw [HD.out]
        have HG7 := Lib.hid (HG6.out.trans hg7)
        clear hq7 hg7
        go_wp2_with fail
        go_ret
        exact ⟨rfl, HG7.out.new_below⟩
      · have f1 : (t : Int) ≤ 1000 := by omega
        have f2 : ¬ (1000 < (t : Int)) := by omega
        have d1 : decide ((key : Int) < (t : Int)) = false := decide_eq_false (by omega)
        have d2 : decide ((t : Int) < 1000) = true := decide_eq_true (by omega)
        have hza := HS.out.2.1 rfl
        subst hza
        have HS1 := Lib.hid HS.out.1
        have HS2 := Lib.hid HS.out.2.2
        have HD := Lib.hid (drop_then (setL (fullTo t) key z) key)
        clear HS HC
        go_wp2_with fail
        refine (HT.out.set key z HQ.out ⟨by omega, by omega⟩ HA.out).mono ?_
        rintro e w3 ⟨rfl, S3, hq3, hg3⟩
        rw [HB.out]
        have HQ3 := Lib.hid hq3
        have HG3 := Lib.hid (HG.out.trans hg3)
        clear hq3 hg3
        go_wp2_with fail
        refine (HT.out.at_ key HQ3.out ⟨by omega, by omega⟩).mono ?_
        rintro e w4 ⟨rfl, S4, hq4, hg4⟩
        rw [HS1.out, HZ.out]
        have HQ4 := Lib.hid hq4
        have HG4 := Lib.hid (HG3.out.trans hg4)
        clear hq4 hg4
        go_wp2_with fail
        refine (known_any HT.out _).mono ?_
        rintro e w5 ⟨rfl, hB5⟩
        have HQ5 := Lib.hid (HT.out.on HQ4.out hB5)
        have HG5 := Lib.hid (HG4.out.trans (Grows.same hB5))
        clear hB5
        go_wp2_with fail
        refine (HT.out.drop key HQ5.out ⟨by omega, by omega⟩).mono ?_
        rintro e w6 ⟨rfl, S6, hq6, hg6⟩
        rw [HS2.out]
        have HQ6 := Lib.hid hq6
        have HG6 := Lib.hid (HG5.out.trans hg6)
        clear hq6 hg6
        go_wp2_with fail
        refine (HT.out.drop key HQ6.out ⟨by omega, by omega⟩).mono ?_
        rintro e w7 ⟨rfl, S7, hq7, hg7⟩
        rw [HD.out]
        have HG7 := Lib.hid (HG6.out.trans hg7)
        clear hq7 hg7
        go_wp2_with fail
        go_ret
        exact ⟨rfl, HG7.out.new_below⟩
      · have f1 : (t : Int) ≤ 1000 := by omega
        have f2 : ¬ (1000 < (t : Int)) := by omega
        have d1 : decide ((key : Int) < 1000) = false := decide_eq_false (by omega)
        have d2 : decide ((t : Int) < 1000) = false := decide_eq_false (by omega)
        have HS1 := Lib.hid HS.out.1
        have HS2 := Lib.hid HS.out.2.2
        have HD := Lib.hid (drop_then (setL (fullTo t) key a) key)
        clear HS HC
        go_wp2_with fail
        refine (HT.out.set key a HQ.out ⟨by omega, by omega⟩ HA.out).mono ?_
        rintro e w3 ⟨rfl, S3, hq3, hg3⟩
        rw [HB.out]
        have HQ3 := Lib.hid hq3
        have HG3 := Lib.hid (HG.out.trans hg3)
        clear hq3 hg3
        go_wp2_with fail
        refine (HT.out.at_ key HQ3.out ⟨by omega, by omega⟩).mono ?_
        rintro e w4 ⟨rfl, S4, hq4, hg4⟩
        rw [HS1.out, HZ.out]
        have HQ4 := Lib.hid hq4
        have HG4 := Lib.hid (HG3.out.trans hg4)
        clear hq4 hg4
        go_wp2_with fail
        refine (known_any HT.out _).mono ?_
        rintro e w5 ⟨rfl, hB5⟩
        have HQ5 := Lib.hid (HT.out.on HQ4.out hB5)
        have HG5 := Lib.hid (HG4.out.trans (Grows.same hB5))
        clear hB5
        go_wp2_with fail
        refine (HT.out.drop key HQ5.out ⟨by omega, by omega⟩).mono ?_
        rintro e w6 ⟨rfl, S6, hq6, hg6⟩
        rw [HS2.out]
        have HQ6 := Lib.hid hq6
        have HG6 := Lib.hid (HG5.out.trans hg6)
        clear hq6 hg6
        go_wp2_with fail
        refine (HT.out.drop key HQ6.out ⟨by omega, by omega⟩).mono ?_
        rintro e w7 ⟨rfl, S7, hq7, hg7⟩
        rw [HD.out]
        have HG7 := Lib.hid (HG6.out.trans hg7)
        clear hq7 hg7
        go_wp2_with fail
        go_ret
        exact ⟨rfl, HG7.out.new_below⟩
      · have f1 : ¬ ((t : Int) ≤ 1000) := by omega
        have f2 : 1000 < (t : Int) := by omega
        have d1 : decide ((key : Int) < 1000) = false := decide_eq_false (by omega)
        have d2 : decide ((t : Int) < 1000) = false := decide_eq_false (by omega)
        have HS1 := Lib.hid HS.out.1
        have HS2 := Lib.hid HS.out.2.2
        have HD := Lib.hid (drop_then (setL (fullTo t) key a) key)
        clear HS HC
        go_wp2_with fail
        refine (HT.out.set key a HQ.out ⟨by omega, by omega⟩ HA.out).mono ?_
        rintro e w3 ⟨rfl, S3, hq3, hg3⟩
        rw [HB.out]
        have HQ3 := Lib.hid hq3
        have HG3 := Lib.hid (HG.out.trans hg3)
        clear hq3 hg3
        go_wp2_with fail
        refine (HT.out.at_ key HQ3.out ⟨by omega, by omega⟩).mono ?_
        rintro e w4 ⟨rfl, S4, hq4, hg4⟩
        rw [HS1.out, HZ.out]
        have HQ4 := Lib.hid hq4
        have HG4 := Lib.hid (HG3.out.trans hg4)
        clear hq4 hg4
        go_wp2_with fail
        refine (known_any HT.out _).mono ?_
        rintro e w5 ⟨rfl, hB5⟩
        have HQ5 := Lib.hid (HT.out.on HQ4.out hB5)
        have HG5 := Lib.hid (HG4.out.trans (Grows.same hB5))
        clear hB5
        go_wp2_with fail
        refine (HT.out.drop key HQ5.out ⟨by omega, by omega⟩).mono ?_
        rintro e w6 ⟨rfl, S6, hq6, hg6⟩
        rw [HS2.out]
        have HQ6 := Lib.hid hq6
        have HG6 := Lib.hid (HG5.out.trans hg6)
        clear hq6 hg6
        go_wp2_with fail
        refine (HT.out.drop key HQ6.out ⟨by omega, by omega⟩).mono ?_
        rintro e w7 ⟨rfl, S7, hq7, hg7⟩
        rw [HD.out]
        have HG7 := Lib.hid (HG6.out.trans hg7)
        clear hq7 hg7
        go_wp2_with fail
        go_ret
        exact ⟨rfl, HG7.out.new_below⟩

end Go.Proofs.Ytlhfgiffdfcplaa
