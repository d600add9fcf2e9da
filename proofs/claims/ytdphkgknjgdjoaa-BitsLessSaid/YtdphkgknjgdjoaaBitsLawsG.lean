/-
  The walk of layer 3's law BitsLess: it returns true, and writes nothing that was there.
-/
import Derived.Test.YtdphkgknjgdjoaaBitsLawsA
import Derived.Test.YtdphkgknjgdjoaaRegionStep
import Derived.IntWalk
namespace Go.Proofs.Ytdphkgknjgdjoaa
open Go.RowKit Go.Deep

theorem cntTo_over {l : List Int} {t : Nat} (h : 8 * l.length ≤ t) : cntTo l t = cntL l := by
  obtain ⟨d, rfl⟩ : ∃ d, t = 8 * l.length + d := ⟨t - 8 * l.length, by omega⟩
  clear h
  induction d with
  | zero => rfl
  | succ d ih => rw [← Nat.add_assoc, cntTo_succ, ih, bt_out (by omega)]; rfl
theorem cntTo_or {a b : List Int} (ha : AllB a) (t : Nat) : cntTo (orL a b) t ≤ cntTo a t + cntTo b t := by
  induction t with
  | zero => simp [cntTo]
  | succ t ih =>
    rw [cntTo_succ, cntTo_succ, cntTo_succ, bt_orL ha]
    cases bt a t <;> cases bt b t <;> simp <;> omega
theorem cnt_or {a b : List Int} (ha : AllB a) : cntL (orL a b) ≤ cntL a + cntL b := by
  have h := cntTo_or (b := b) ha (8 * max a.length b.length)
  rw [cntTo_over (l := orL a b) (by rw [orL_length]; omega), cntTo_over (l := a) (by omega), cntTo_over (l := b) (by omega)] at h
  exact h
/-- one is within another one just if both together are the other one -/
theorem less_iff {a b : List Int} (ha : AllB a) (hb : AllB b) (h : a.length ≤ b.length) : withinL a b = true ↔ orL a b = b := by
  rw [withinL_iff]
  constructor
  · intro h2
    refine bits_ext (orL_AllB ha b) hb (by rw [orL_length]; omega) (fun i _ => ?_)
    rw [bt_orL ha]
    cases h3 : bt a i with
    | false => rw [Bool.false_or]
    | true => rw [h2 i h3]; rfl
  · intro h2 i hi
    rw [← h2, bt_orL ha, hi, Bool.true_or]
theorem within_nil (a : List Int) : withinL [] a = true := withinL_iff.2 (fun i h => by rw [bt_out (by simp)] at h; cases h)

set_option maxRecDepth 100000 in
set_option maxHeartbeats 8000000 in
theorem less_walk (A A' : Option Addr) (len cap len' cap' : Nat) (a b : List Int) (w : World) (hlen : a.length = len) (ha : AllB a) (hba : Bytes w w.heap.size (.slice A len cap) a) (hlen' : b.length = len') (hb : AllB b) (hbb : Bytes w w.heap.size (.slice A' len' cap') b) :
    Calls Try.prog 6 #[.slice A len cap, .slice A' len' cap'] w fun e w' => e = .returned (.bool true) ∧ Below w.heap.size w w' := by
  have HBw := Lib.hid hba
  have HBw' := Lib.hid hbb
  by_cases hlong : len' < len ∨ 200 < len'
  · clear hba hbb hlen hlen'
    by_cases h1 : len' < len
    · have d0 : decide ((len' : Int) < (len : Int)) = true := decide_eq_true (by omega)
      clear hlong
      go_enter Try.func6, Try.ntmps6
      go_wp2_with (go_at_call 10; refine (known_any _).mono ?_; rintro e w1 ⟨rfl, hB⟩)
      go_ret
      exact ⟨rfl, hB⟩
    · have d0 : decide ((len' : Int) < (len : Int)) = false := decide_eq_false (by omega)
      have d1 : decide (200 < (len' : Int)) = true := decide_eq_true (by omega)
      clear hlong
      go_enter Try.func6, Try.ntmps6
      go_wp2_with (go_at_call 10; refine (known_any _).mono ?_; rintro e w1 ⟨rfl, hB⟩)
      go_ret
      exact ⟨rfl, hB⟩
  · have d0 : decide ((len' : Int) < (len : Int)) = false := decide_eq_false (by omega)
    have d1 : decide (200 < (len' : Int)) = false := decide_eq_false (by omega)
    have HAa := Lib.hid ha
    have HAb := Lib.hid hb
    have HLea : Hid (a.length ≤ 1000000000) := Lib.hid (by omega)
    have HLeb : Hid (b.length ≤ 1000000000) := Lib.hid (by omega)
    have HAx := Lib.hid (orL_AllB ha b)
    have HNil : Hid (AllB []) := Lib.hid (fun x h => by simp at h)
    obtain ⟨M, hM⟩ : ∃ M, max len len' = M := ⟨_, rfl⟩
    have HMx : Hid (max a.length b.length = M) := Lib.hid (by rw [hlen, hlen']; exact hM)
    have HOl : Hid ((orL a b).length = M) := Lib.hid ((orL_length a b).trans HMx.out)
    have hM2 : M ≤ 1000000 := by omega
    have HQ2 := Lib.hid (within_nil a)
    obtain ⟨q1, hq1⟩ : ∃ q, withinL a b = q := ⟨_, rfl⟩
    have HQ1 := Lib.hid hq1
    have hse : ((strOfNums (orL a b)).toList == (strOfNums b).toList) = q1 := str_eq (orL_AllB ha b) hb (by rw [← hq1]; exact less_iff ha hb (by omega))
    have k0 := cnt_or (b := b) ha
    have k1 := cntL_le a
    have k2 := cntL_le b
    obtain ⟨x, hx⟩ : ∃ x, cntL (orL a b) = x := ⟨_, rfl⟩
    obtain ⟨y, hy⟩ : ∃ x, cntL a = x := ⟨_, rfl⟩
    obtain ⟨z, hz⟩ : ∃ x, cntL b = x := ⟨_, rfl⟩
    have HC1 := Lib.hid hx
    have HC2 := Lib.hid hy
    have HC3 := Lib.hid hz
    rw [hx, hy, hz] at k0
    rw [hy] at k1
    rw [hz] at k2
    have hwr : IntKind.i64.wrap ((y : Int) + (z : Int)) = (y : Int) + (z : Int) := IntWalk.i64_in _ (by omega)
    have hle : decide ((x : Int) ≤ (y : Int) + (z : Int)) = true := decide_eq_true (by omega)
    clear hba hbb hlen hlen' ha hb hM hq1 hx hy hz k0 k1 k2
    go_enter Try.func6, Try.ntmps6
    go_wp2_with fail
    have hS0 := (Below.refl w.heap.size w).drew
    refine wp_region_any (by kernel_rfl) ?_
    change wpAny _ _ _ _ _ _ _ (World.drew _)
    refine wpAny_ready (rs := [0]) (by kernel_rfl) (by simp) ?_
    refine AllReady.cons (by simp only [List.getElem?_toArray, List.getElem?_cons_zero]; rfl) (fun K hK => ?_) AllReady.nil
    go_simp
    refine (known_any _).mono ?_
    rintro e w1 ⟨rfl, hB1⟩
    have hS1 := bseq hS0 hB1
    have hcW := bytes_conv (HBw'.out.on hS1)
    go_wp2_with fail
    try (refine hK _ _ ?_; clear hK K)
    refine take_lit (i := 1) 17 (by simp only [List.getElem?_toArray, List.getElem?_cons_succ, List.getElem?_cons_zero]; rfl) rfl (by kernel_rfl) (by kernel_rfl) (by kernel_rfl) (by exact fun _ _ _ h => h) (by rfl) (fun w => by first | (go_simp; done) | (go_simp; with_reducible rfl)) (by simp only [List.set_cons_zero, List.set_cons_succ]; rfl) ?_
    refine take_lit (i := 2) 18 (by simp only [List.getElem?_toArray, List.getElem?_cons_succ, List.getElem?_cons_zero]; rfl) rfl (by kernel_rfl) (by kernel_rfl) (by kernel_rfl) (by exact fun _ _ _ h => h) (by rfl) (fun w => by first | (go_simp; done) | (go_simp; with_reducible rfl)) (by simp only [List.set_cons_zero, List.set_cons_succ]; rfl) ?_
    refine take_lit (i := 3) 19 (by simp only [List.getElem?_toArray, List.getElem?_cons_succ, List.getElem?_cons_zero]; rfl) rfl (by kernel_rfl) (by kernel_rfl) (by kernel_rfl) (by exact fun _ _ _ h => h) (by rfl) (fun w => by first | (go_simp; done) | (go_simp; with_reducible rfl)) (by simp only [List.set_cons_zero, List.set_cons_succ]; rfl) ?_
    refine take_lit (i := 5) 21 (by simp only [List.getElem?_toArray, List.getElem?_cons_succ, List.getElem?_cons_zero]; rfl) rfl (by kernel_rfl) (by kernel_rfl) (by kernel_rfl) (by exact fun _ _ _ h => h) (by rfl) (fun w => by first | (go_simp; done) | (go_simp; with_reducible rfl)) (by simp only [List.set_cons_zero, List.set_cons_succ]; rfl) ?_
    refine take_lit (i := 6) 22 (by simp only [List.getElem?_toArray, List.getElem?_cons_succ, List.getElem?_cons_zero]; rfl) rfl (by kernel_rfl) (by kernel_rfl) (by kernel_rfl) (by exact fun _ _ _ h => h) (by rfl) (fun w => by first | (go_simp; done) | (go_simp; with_reducible rfl)) (by simp only [List.set_cons_zero, List.set_cons_succ]; rfl) ?_
    refine take_lit (i := 9) 25 (by simp only [List.getElem?_toArray, List.getElem?_cons_succ, List.getElem?_cons_zero]; rfl) rfl (by kernel_rfl) (by kernel_rfl) (by kernel_rfl) (by exact fun _ _ _ h => h) (by rfl) (fun w => by first | (go_simp; done) | (go_simp; with_reducible rfl)) (by simp only [List.set_cons_zero, List.set_cons_succ]; rfl) ?_
    refine wpAny_ready (rs := [4, 10]) (by kernel_rfl) (by simp) ?_
    refine AllReady.cons (by simp only [List.getElem?_toArray, List.getElem?_cons_succ, List.getElem?_cons_zero]; rfl) (fun K hK => ?_) ?_
    · go_simp
      refine (bwithin_any _ _ a b _ (HBw.out.on hS1) HAa.out (HBw'.out.on hS1) HAb.out HLea.out).mono ?_
      rintro e w2 ⟨rfl, hB2⟩
      rw [HQ1.out]
      have hS2 := bseq hS1 hB2
      have hcX := bytes_conv (HBw'.out.on hS2)
      go_wp2_with fail
      try (refine hK _ _ ?_; clear hK K)
      refine wpAny_ready (rs := [7, 10]) (by kernel_rfl) (by simp) ?_
      refine AllReady.cons (by simp only [List.getElem?_toArray, List.getElem?_cons_succ, List.getElem?_cons_zero]; rfl) (fun K hK => ?_) ?_
      · go_simp
        refine (bor_row _ _ a b _ (HBw.out.on hS2) HAa.out (HBw'.out.on hS2) HAb.out HLea.out HLeb.out).mono ?_
        rintro e w3 ⟨rfl, hr3, hB3⟩
        rw [HMx.out]
        have HY3 := Lib.hid (hr3.whole (M := M) HOl.out (by omega))
        have hS3 := bseq hS2 hB3
        have hcB := bytes_conv HY3.out
        have hcC := bytes_conv (HBw'.out.on hS3)
        clear hr3
        go_wp2_with fail
        try (refine hK _ _ ?_; clear hK K)
        refine wpAny_ready (rs := [8, 10]) (by kernel_rfl) (by simp) ?_
        refine AllReady.cons (by simp only [List.getElem?_toArray, List.getElem?_cons_succ, List.getElem?_cons_zero]; rfl) (fun K hK => ?_) ?_
        · go_simp
          try (refine hK _ _ ?_; clear hK K)
          refine wpAny_ready (rs := [10]) (by kernel_rfl) (by simp) ?_
          refine AllReady.cons (by simp only [List.getElem?_toArray, List.getElem?_cons_succ, List.getElem?_cons_zero]; rfl) (fun K hK => ?_) AllReady.nil
          go_simp
          try (refine hK _ _ ?_; clear hK K)
          refine take_lit (i := 11) 27 (by simp only [List.getElem?_toArray, List.getElem?_cons_succ, List.getElem?_cons_zero]; rfl) rfl (by kernel_rfl) (by kernel_rfl) (by kernel_rfl) (by exact fun _ _ _ h => h) (by rfl) (fun w => by first | (go_simp; done) | (go_simp; with_reducible rfl)) (by simp only [List.set_cons_zero, List.set_cons_succ]; rfl) ?_
          refine take_lit (i := 12) 28 (by simp only [List.getElem?_toArray, List.getElem?_cons_succ, List.getElem?_cons_zero]; rfl) rfl (by kernel_rfl) (by kernel_rfl) (by kernel_rfl) (by exact fun _ _ _ h => h) (by rfl) (fun w => by first | (go_simp; done) | (go_simp; with_reducible rfl)) (by simp only [List.set_cons_zero, List.set_cons_succ]; rfl) ?_
          refine take_lit (i := 13) 29 (by simp only [List.getElem?_toArray, List.getElem?_cons_succ, List.getElem?_cons_zero]; rfl) rfl (by kernel_rfl) (by kernel_rfl) (by kernel_rfl) (by exact fun _ _ _ h => h) (by rfl) (fun w => by first | (go_simp; done) | (go_simp; with_reducible rfl)) (by simp only [List.set_cons_zero, List.set_cons_succ]; rfl) ?_
          refine take_lit (i := 14) 30 (by simp only [List.getElem?_toArray, List.getElem?_cons_succ, List.getElem?_cons_zero]; rfl) rfl (by kernel_rfl) (by kernel_rfl) (by kernel_rfl) (by exact fun _ _ _ h => h) (by rfl) (fun w => by first | (go_simp; done) | (go_simp; with_reducible rfl)) (by simp only [List.set_cons_zero, List.set_cons_succ]; rfl) ?_
          refine take_lit (i := 15) 31 (by simp only [List.getElem?_toArray, List.getElem?_cons_succ, List.getElem?_cons_zero]; rfl) rfl (by kernel_rfl) (by kernel_rfl) (by kernel_rfl) (by exact fun _ _ _ h => h) (by rfl) (fun w => by first | (go_simp; done) | (go_simp; with_reducible rfl)) (by simp only [List.set_cons_zero, List.set_cons_succ]; rfl) ?_
          refine wpAny_ready (rs := [16]) (by kernel_rfl) (by simp) ?_
          refine AllReady.cons (by simp only [List.getElem?_toArray, List.getElem?_cons_succ, List.getElem?_cons_zero]; rfl) (fun K hK => ?_) AllReady.nil
          go_simp
          refine (bwithin_any _ _ [] a _ (nil_bytes _ _) HNil.out (HBw.out.on hS3) HAa.out (by simp)).mono ?_
          rintro e w4 ⟨rfl, hB4⟩
          rw [HQ2.out]
          have hS4 := bseq hS3 hB4
          clear hcW hcX hcB hcC
          go_wp2_with fail
          try (refine hK _ _ ?_; clear hK K)
          refine take_lit (i := 17) 33 (by simp only [List.getElem?_toArray, List.getElem?_cons_succ, List.getElem?_cons_zero]; rfl) rfl (by kernel_rfl) (by kernel_rfl) (by kernel_rfl) (by exact fun _ _ _ h => h) (by rfl) (fun w => by first | (go_simp; done) | (go_simp; with_reducible rfl)) (by simp only [List.set_cons_zero, List.set_cons_succ]; rfl) ?_
          refine take_lit (i := 18) 34 (by simp only [List.getElem?_toArray, List.getElem?_cons_succ, List.getElem?_cons_zero]; rfl) rfl (by kernel_rfl) (by kernel_rfl) (by kernel_rfl) (by exact fun _ _ _ h => h) (by rfl) (fun w => by first | (go_simp; done) | (go_simp; with_reducible rfl)) (by simp only [List.set_cons_zero, List.set_cons_succ]; rfl) ?_
          refine take_lit (i := 19) 35 (by simp only [List.getElem?_toArray, List.getElem?_cons_succ, List.getElem?_cons_zero]; rfl) rfl (by kernel_rfl) (by kernel_rfl) (by kernel_rfl) (by exact fun _ _ _ h => h) (by rfl) (fun w => by first | (go_simp; done) | (go_simp; with_reducible rfl)) (by simp only [List.set_cons_zero, List.set_cons_succ]; rfl) ?_
          refine take_lit (i := 20) 36 (by simp only [List.getElem?_toArray, List.getElem?_cons_succ, List.getElem?_cons_zero]; rfl) rfl (by kernel_rfl) (by kernel_rfl) (by kernel_rfl) (by exact fun _ _ _ h => h) (by rfl) (fun w => by first | (go_simp; done) | (go_simp; with_reducible rfl)) (by simp only [List.set_cons_zero, List.set_cons_succ]; rfl) ?_
          refine take_lit (i := 23) 39 (by simp only [List.getElem?_toArray, List.getElem?_cons_succ, List.getElem?_cons_zero]; rfl) rfl (by kernel_rfl) (by kernel_rfl) (by kernel_rfl) (by exact fun _ _ _ h => h) (by rfl) (fun w => by first | (go_simp; done) | (go_simp; with_reducible rfl)) (by simp only [List.set_cons_zero, List.set_cons_succ]; rfl) ?_
          refine take_lit (i := 25) 41 (by simp only [List.getElem?_toArray, List.getElem?_cons_succ, List.getElem?_cons_zero]; rfl) rfl (by kernel_rfl) (by kernel_rfl) (by kernel_rfl) (by exact fun _ _ _ h => h) (by rfl) (fun w => by first | (go_simp; done) | (go_simp; with_reducible rfl)) (by simp only [List.set_cons_zero, List.set_cons_succ]; rfl) ?_
          refine wpAny_ready (rs := [21]) (by kernel_rfl) (by simp) ?_
          refine AllReady.cons (by simp only [List.getElem?_toArray, List.getElem?_cons_succ, List.getElem?_cons_zero]; rfl) (fun K hK => ?_) AllReady.nil
          go_simp
          refine (bor_row _ _ a b _ (HBw.out.on hS4) HAa.out (HBw'.out.on hS4) HAb.out HLea.out HLeb.out).mono ?_
          rintro e w5 ⟨rfl, hr5, hB5⟩
          rw [HMx.out]
          have HY5 := Lib.hid (hr5.whole (M := M) HOl.out (by omega))
          have hS5 := bseq hS4 hB5
          clear hr5
          go_wp2_with fail
          try (refine hK _ _ ?_; clear hK K)
          refine wpAny_ready (rs := [22]) (by kernel_rfl) (by simp) ?_
          refine AllReady.cons (by simp only [List.getElem?_toArray, List.getElem?_cons_succ, List.getElem?_cons_zero]; rfl) (fun K hK => ?_) AllReady.nil
          go_simp
          refine (bcount_any _ (orL a b) _ _ HY5.out HAx.out (by rw [HOl.out]; omega)).mono ?_
          rintro e w' ⟨rfl, rfl⟩
          rw [HC1.out]
          go_wp2_with fail
          try (refine hK _ _ ?_; clear hK K)
          refine wpAny_ready (rs := [24]) (by kernel_rfl) (by simp) ?_
          refine AllReady.cons (by simp only [List.getElem?_toArray, List.getElem?_cons_succ, List.getElem?_cons_zero]; rfl) (fun K hK => ?_) AllReady.nil
          go_simp
          refine (bcount_any _ a _ _ (HBw.out.on hS5) HAa.out HLea.out).mono ?_
          rintro e w' ⟨rfl, rfl⟩
          rw [HC2.out]
          go_wp2_with fail
          try (refine hK _ _ ?_; clear hK K)
          refine wpAny_ready (rs := [26]) (by kernel_rfl) (by simp) ?_
          refine AllReady.cons (by simp only [List.getElem?_toArray, List.getElem?_cons_succ, List.getElem?_cons_zero]; rfl) (fun K hK => ?_) AllReady.nil
          go_simp
          refine (bcount_any _ b _ _ (HBw'.out.on hS5) HAb.out HLeb.out).mono ?_
          rintro e w' ⟨rfl, rfl⟩
          rw [HC3.out]
          go_wp2_with fail
          try (refine hK _ _ ?_; clear hK K)
          refine take_lit (i := 27) 43 (by simp only [List.getElem?_toArray, List.getElem?_cons_succ, List.getElem?_cons_zero]; rfl) rfl (by kernel_rfl) (by kernel_rfl) (by kernel_rfl) (by exact fun _ _ _ h => h) (by rfl) (fun w => by first | (go_simp; done) | (go_simp; with_reducible rfl)) (by simp only [List.set_cons_zero, List.set_cons_succ]; rfl) ?_
          refine take_lit (i := 28) 44 (by simp only [List.getElem?_toArray, List.getElem?_cons_succ, List.getElem?_cons_zero]; rfl) rfl (by kernel_rfl) (by kernel_rfl) (by kernel_rfl) (by exact fun _ _ _ h => h) (by rfl) (fun w => by first | (go_simp; done) | (go_simp; with_reducible rfl)) (by simp only [List.set_cons_zero, List.set_cons_succ]; rfl) ?_
          refine take_lit (i := 29) 45 (by simp only [List.getElem?_toArray, List.getElem?_cons_succ, List.getElem?_cons_zero]; rfl) rfl (by kernel_rfl) (by kernel_rfl) (by kernel_rfl) (by exact fun _ _ _ h => h) (by rfl) (fun w => by first | (go_simp; done) | (go_simp; with_reducible rfl)) (by simp only [List.set_cons_zero, List.set_cons_succ]; rfl) ?_
          refine take_lit (i := 30) 4 (by simp only [List.getElem?_toArray, List.getElem?_cons_succ, List.getElem?_cons_zero]; rfl) rfl (by kernel_rfl) (by kernel_rfl) (by kernel_rfl) (by exact fun _ _ _ h => h) (by rfl) (fun w => by first | (go_simp; done) | (go_simp; with_reducible rfl)) (by simp only [List.set_cons_zero, List.set_cons_succ]; rfl) ?_
          refine wpAny_done (by kernel_rfl) ?_ _
          go_wp2_with fail
          go_ret
          exact ⟨by simp, hS5⟩
        refine AllReady.cons (by simp only [List.getElem?_toArray, List.getElem?_cons_succ, List.getElem?_cons_zero]; rfl) (fun K hK => ?_) AllReady.nil
        go_simp
        try (refine hK _ _ ?_; clear hK K)
        refine wpAny_ready (rs := [8]) (by kernel_rfl) (by simp) ?_
        refine AllReady.cons (by simp only [List.getElem?_toArray, List.getElem?_cons_succ, List.getElem?_cons_zero]; rfl) (fun K hK => ?_) AllReady.nil
        go_simp
        try (refine hK _ _ ?_; clear hK K)
        refine take_lit (i := 11) 27 (by simp only [List.getElem?_toArray, List.getElem?_cons_succ, List.getElem?_cons_zero]; rfl) rfl (by kernel_rfl) (by kernel_rfl) (by kernel_rfl) (by exact fun _ _ _ h => h) (by rfl) (fun w => by first | (go_simp; done) | (go_simp; with_reducible rfl)) (by simp only [List.set_cons_zero, List.set_cons_succ]; rfl) ?_
        refine take_lit (i := 12) 28 (by simp only [List.getElem?_toArray, List.getElem?_cons_succ, List.getElem?_cons_zero]; rfl) rfl (by kernel_rfl) (by kernel_rfl) (by kernel_rfl) (by exact fun _ _ _ h => h) (by rfl) (fun w => by first | (go_simp; done) | (go_simp; with_reducible rfl)) (by simp only [List.set_cons_zero, List.set_cons_succ]; rfl) ?_
        refine take_lit (i := 13) 29 (by simp only [List.getElem?_toArray, List.getElem?_cons_succ, List.getElem?_cons_zero]; rfl) rfl (by kernel_rfl) (by kernel_rfl) (by kernel_rfl) (by exact fun _ _ _ h => h) (by rfl) (fun w => by first | (go_simp; done) | (go_simp; with_reducible rfl)) (by simp only [List.set_cons_zero, List.set_cons_succ]; rfl) ?_
        refine take_lit (i := 14) 30 (by simp only [List.getElem?_toArray, List.getElem?_cons_succ, List.getElem?_cons_zero]; rfl) rfl (by kernel_rfl) (by kernel_rfl) (by kernel_rfl) (by exact fun _ _ _ h => h) (by rfl) (fun w => by first | (go_simp; done) | (go_simp; with_reducible rfl)) (by simp only [List.set_cons_zero, List.set_cons_succ]; rfl) ?_
        refine take_lit (i := 15) 31 (by simp only [List.getElem?_toArray, List.getElem?_cons_succ, List.getElem?_cons_zero]; rfl) rfl (by kernel_rfl) (by kernel_rfl) (by kernel_rfl) (by exact fun _ _ _ h => h) (by rfl) (fun w => by first | (go_simp; done) | (go_simp; with_reducible rfl)) (by simp only [List.set_cons_zero, List.set_cons_succ]; rfl) ?_
        refine wpAny_ready (rs := [16]) (by kernel_rfl) (by simp) ?_
        refine AllReady.cons (by simp only [List.getElem?_toArray, List.getElem?_cons_succ, List.getElem?_cons_zero]; rfl) (fun K hK => ?_) AllReady.nil
        go_simp
        refine (bwithin_any _ _ [] a _ (nil_bytes _ _) HNil.out (HBw.out.on hS3) HAa.out (by simp)).mono ?_
        rintro e w4 ⟨rfl, hB4⟩
        rw [HQ2.out]
        have hS4 := bseq hS3 hB4
        clear hcW hcX hcB hcC
        go_wp2_with fail
        try (refine hK _ _ ?_; clear hK K)
        refine take_lit (i := 17) 33 (by simp only [List.getElem?_toArray, List.getElem?_cons_succ, List.getElem?_cons_zero]; rfl) rfl (by kernel_rfl) (by kernel_rfl) (by kernel_rfl) (by exact fun _ _ _ h => h) (by rfl) (fun w => by first | (go_simp; done) | (go_simp; with_reducible rfl)) (by simp only [List.set_cons_zero, List.set_cons_succ]; rfl) ?_
        refine take_lit (i := 18) 34 (by simp only [List.getElem?_toArray, List.getElem?_cons_succ, List.getElem?_cons_zero]; rfl) rfl (by kernel_rfl) (by kernel_rfl) (by kernel_rfl) (by exact fun _ _ _ h => h) (by rfl) (fun w => by first | (go_simp; done) | (go_simp; with_reducible rfl)) (by simp only [List.set_cons_zero, List.set_cons_succ]; rfl) ?_
        refine take_lit (i := 19) 35 (by simp only [List.getElem?_toArray, List.getElem?_cons_succ, List.getElem?_cons_zero]; rfl) rfl (by kernel_rfl) (by kernel_rfl) (by kernel_rfl) (by exact fun _ _ _ h => h) (by rfl) (fun w => by first | (go_simp; done) | (go_simp; with_reducible rfl)) (by simp only [List.set_cons_zero, List.set_cons_succ]; rfl) ?_
        refine take_lit (i := 20) 36 (by simp only [List.getElem?_toArray, List.getElem?_cons_succ, List.getElem?_cons_zero]; rfl) rfl (by kernel_rfl) (by kernel_rfl) (by kernel_rfl) (by exact fun _ _ _ h => h) (by rfl) (fun w => by first | (go_simp; done) | (go_simp; with_reducible rfl)) (by simp only [List.set_cons_zero, List.set_cons_succ]; rfl) ?_
        refine take_lit (i := 23) 39 (by simp only [List.getElem?_toArray, List.getElem?_cons_succ, List.getElem?_cons_zero]; rfl) rfl (by kernel_rfl) (by kernel_rfl) (by kernel_rfl) (by exact fun _ _ _ h => h) (by rfl) (fun w => by first | (go_simp; done) | (go_simp; with_reducible rfl)) (by simp only [List.set_cons_zero, List.set_cons_succ]; rfl) ?_
        refine take_lit (i := 25) 41 (by simp only [List.getElem?_toArray, List.getElem?_cons_succ, List.getElem?_cons_zero]; rfl) rfl (by kernel_rfl) (by kernel_rfl) (by kernel_rfl) (by exact fun _ _ _ h => h) (by rfl) (fun w => by first | (go_simp; done) | (go_simp; with_reducible rfl)) (by simp only [List.set_cons_zero, List.set_cons_succ]; rfl) ?_
        refine wpAny_ready (rs := [21]) (by kernel_rfl) (by simp) ?_
        refine AllReady.cons (by simp only [List.getElem?_toArray, List.getElem?_cons_succ, List.getElem?_cons_zero]; rfl) (fun K hK => ?_) AllReady.nil
        go_simp
        refine (bor_row _ _ a b _ (HBw.out.on hS4) HAa.out (HBw'.out.on hS4) HAb.out HLea.out HLeb.out).mono ?_
        rintro e w5 ⟨rfl, hr5, hB5⟩
        rw [HMx.out]
        have HY5 := Lib.hid (hr5.whole (M := M) HOl.out (by omega))
        have hS5 := bseq hS4 hB5
        clear hr5
        go_wp2_with fail
        try (refine hK _ _ ?_; clear hK K)
        refine wpAny_ready (rs := [22]) (by kernel_rfl) (by simp) ?_
        refine AllReady.cons (by simp only [List.getElem?_toArray, List.getElem?_cons_succ, List.getElem?_cons_zero]; rfl) (fun K hK => ?_) AllReady.nil
        go_simp
        refine (bcount_any _ (orL a b) _ _ HY5.out HAx.out (by rw [HOl.out]; omega)).mono ?_
        rintro e w' ⟨rfl, rfl⟩
        rw [HC1.out]
        go_wp2_with fail
        try (refine hK _ _ ?_; clear hK K)
        refine wpAny_ready (rs := [24]) (by kernel_rfl) (by simp) ?_
        refine AllReady.cons (by simp only [List.getElem?_toArray, List.getElem?_cons_succ, List.getElem?_cons_zero]; rfl) (fun K hK => ?_) AllReady.nil
        go_simp
        refine (bcount_any _ a _ _ (HBw.out.on hS5) HAa.out HLea.out).mono ?_
        rintro e w' ⟨rfl, rfl⟩
        rw [HC2.out]
        go_wp2_with fail
        try (refine hK _ _ ?_; clear hK K)
        refine wpAny_ready (rs := [26]) (by kernel_rfl) (by simp) ?_
        refine AllReady.cons (by simp only [List.getElem?_toArray, List.getElem?_cons_succ, List.getElem?_cons_zero]; rfl) (fun K hK => ?_) AllReady.nil
        go_simp
        refine (bcount_any _ b _ _ (HBw'.out.on hS5) HAb.out HLeb.out).mono ?_
        rintro e w' ⟨rfl, rfl⟩
        rw [HC3.out]
        go_wp2_with fail
        try (refine hK _ _ ?_; clear hK K)
        refine take_lit (i := 27) 43 (by simp only [List.getElem?_toArray, List.getElem?_cons_succ, List.getElem?_cons_zero]; rfl) rfl (by kernel_rfl) (by kernel_rfl) (by kernel_rfl) (by exact fun _ _ _ h => h) (by rfl) (fun w => by first | (go_simp; done) | (go_simp; with_reducible rfl)) (by simp only [List.set_cons_zero, List.set_cons_succ]; rfl) ?_
        refine take_lit (i := 28) 44 (by simp only [List.getElem?_toArray, List.getElem?_cons_succ, List.getElem?_cons_zero]; rfl) rfl (by kernel_rfl) (by kernel_rfl) (by kernel_rfl) (by exact fun _ _ _ h => h) (by rfl) (fun w => by first | (go_simp; done) | (go_simp; with_reducible rfl)) (by simp only [List.set_cons_zero, List.set_cons_succ]; rfl) ?_
        refine take_lit (i := 29) 45 (by simp only [List.getElem?_toArray, List.getElem?_cons_succ, List.getElem?_cons_zero]; rfl) rfl (by kernel_rfl) (by kernel_rfl) (by kernel_rfl) (by exact fun _ _ _ h => h) (by rfl) (fun w => by first | (go_simp; done) | (go_simp; with_reducible rfl)) (by simp only [List.set_cons_zero, List.set_cons_succ]; rfl) ?_
        refine take_lit (i := 30) 4 (by simp only [List.getElem?_toArray, List.getElem?_cons_succ, List.getElem?_cons_zero]; rfl) rfl (by kernel_rfl) (by kernel_rfl) (by kernel_rfl) (by exact fun _ _ _ h => h) (by rfl) (fun w => by first | (go_simp; done) | (go_simp; with_reducible rfl)) (by simp only [List.set_cons_zero, List.set_cons_succ]; rfl) ?_
        refine wpAny_done (by kernel_rfl) ?_ _
        go_wp2_with fail
        go_ret
        exact ⟨by simp, hS5⟩
      refine AllReady.cons (by simp only [List.getElem?_toArray, List.getElem?_cons_succ, List.getElem?_cons_zero]; rfl) (fun K hK => ?_) AllReady.nil
      go_simp
      try (refine hK _ _ ?_; clear hK K)
      refine wpAny_ready (rs := [7]) (by kernel_rfl) (by simp) ?_
      refine AllReady.cons (by simp only [List.getElem?_toArray, List.getElem?_cons_succ, List.getElem?_cons_zero]; rfl) (fun K hK => ?_) AllReady.nil
      go_simp
      refine (bor_row _ _ a b _ (HBw.out.on hS2) HAa.out (HBw'.out.on hS2) HAb.out HLea.out HLeb.out).mono ?_
      rintro e w3 ⟨rfl, hr3, hB3⟩
      rw [HMx.out]
      have HY3 := Lib.hid (hr3.whole (M := M) HOl.out (by omega))
      have hS3 := bseq hS2 hB3
      have hcB := bytes_conv HY3.out
      have hcC := bytes_conv (HBw'.out.on hS3)
      clear hr3
      go_wp2_with fail
      try (refine hK _ _ ?_; clear hK K)
      refine wpAny_ready (rs := [8]) (by kernel_rfl) (by simp) ?_
      refine AllReady.cons (by simp only [List.getElem?_toArray, List.getElem?_cons_succ, List.getElem?_cons_zero]; rfl) (fun K hK => ?_) AllReady.nil
      go_simp
      try (refine hK _ _ ?_; clear hK K)
      refine take_lit (i := 11) 27 (by simp only [List.getElem?_toArray, List.getElem?_cons_succ, List.getElem?_cons_zero]; rfl) rfl (by kernel_rfl) (by kernel_rfl) (by kernel_rfl) (by exact fun _ _ _ h => h) (by rfl) (fun w => by first | (go_simp; done) | (go_simp; with_reducible rfl)) (by simp only [List.set_cons_zero, List.set_cons_succ]; rfl) ?_
      refine take_lit (i := 12) 28 (by simp only [List.getElem?_toArray, List.getElem?_cons_succ, List.getElem?_cons_zero]; rfl) rfl (by kernel_rfl) (by kernel_rfl) (by kernel_rfl) (by exact fun _ _ _ h => h) (by rfl) (fun w => by first | (go_simp; done) | (go_simp; with_reducible rfl)) (by simp only [List.set_cons_zero, List.set_cons_succ]; rfl) ?_
      refine take_lit (i := 13) 29 (by simp only [List.getElem?_toArray, List.getElem?_cons_succ, List.getElem?_cons_zero]; rfl) rfl (by kernel_rfl) (by kernel_rfl) (by kernel_rfl) (by exact fun _ _ _ h => h) (by rfl) (fun w => by first | (go_simp; done) | (go_simp; with_reducible rfl)) (by simp only [List.set_cons_zero, List.set_cons_succ]; rfl) ?_
      refine take_lit (i := 14) 30 (by simp only [List.getElem?_toArray, List.getElem?_cons_succ, List.getElem?_cons_zero]; rfl) rfl (by kernel_rfl) (by kernel_rfl) (by kernel_rfl) (by exact fun _ _ _ h => h) (by rfl) (fun w => by first | (go_simp; done) | (go_simp; with_reducible rfl)) (by simp only [List.set_cons_zero, List.set_cons_succ]; rfl) ?_
      refine take_lit (i := 15) 31 (by simp only [List.getElem?_toArray, List.getElem?_cons_succ, List.getElem?_cons_zero]; rfl) rfl (by kernel_rfl) (by kernel_rfl) (by kernel_rfl) (by exact fun _ _ _ h => h) (by rfl) (fun w => by first | (go_simp; done) | (go_simp; with_reducible rfl)) (by simp only [List.set_cons_zero, List.set_cons_succ]; rfl) ?_
      refine wpAny_ready (rs := [16]) (by kernel_rfl) (by simp) ?_
      refine AllReady.cons (by simp only [List.getElem?_toArray, List.getElem?_cons_succ, List.getElem?_cons_zero]; rfl) (fun K hK => ?_) AllReady.nil
      go_simp
      refine (bwithin_any _ _ [] a _ (nil_bytes _ _) HNil.out (HBw.out.on hS3) HAa.out (by simp)).mono ?_
      rintro e w4 ⟨rfl, hB4⟩
      rw [HQ2.out]
      have hS4 := bseq hS3 hB4
      clear hcW hcX hcB hcC
      go_wp2_with fail
      try (refine hK _ _ ?_; clear hK K)
      refine take_lit (i := 17) 33 (by simp only [List.getElem?_toArray, List.getElem?_cons_succ, List.getElem?_cons_zero]; rfl) rfl (by kernel_rfl) (by kernel_rfl) (by kernel_rfl) (by exact fun _ _ _ h => h) (by rfl) (fun w => by first | (go_simp; done) | (go_simp; with_reducible rfl)) (by simp only [List.set_cons_zero, List.set_cons_succ]; rfl) ?_
      refine take_lit (i := 18) 34 (by simp only [List.getElem?_toArray, List.getElem?_cons_succ, List.getElem?_cons_zero]; rfl) rfl (by kernel_rfl) (by kernel_rfl) (by kernel_rfl) (by exact fun _ _ _ h => h) (by rfl) (fun w => by first | (go_simp; done) | (go_simp; with_reducible rfl)) (by simp only [List.set_cons_zero, List.set_cons_succ]; rfl) ?_
      refine take_lit (i := 19) 35 (by simp only [List.getElem?_toArray, List.getElem?_cons_succ, List.getElem?_cons_zero]; rfl) rfl (by kernel_rfl) (by kernel_rfl) (by kernel_rfl) (by exact fun _ _ _ h => h) (by rfl) (fun w => by first | (go_simp; done) | (go_simp; with_reducible rfl)) (by simp only [List.set_cons_zero, List.set_cons_succ]; rfl) ?_
      refine take_lit (i := 20) 36 (by simp only [List.getElem?_toArray, List.getElem?_cons_succ, List.getElem?_cons_zero]; rfl) rfl (by kernel_rfl) (by kernel_rfl) (by kernel_rfl) (by exact fun _ _ _ h => h) (by rfl) (fun w => by first | (go_simp; done) | (go_simp; with_reducible rfl)) (by simp only [List.set_cons_zero, List.set_cons_succ]; rfl) ?_
      refine take_lit (i := 23) 39 (by simp only [List.getElem?_toArray, List.getElem?_cons_succ, List.getElem?_cons_zero]; rfl) rfl (by kernel_rfl) (by kernel_rfl) (by kernel_rfl) (by exact fun _ _ _ h => h) (by rfl) (fun w => by first | (go_simp; done) | (go_simp; with_reducible rfl)) (by simp only [List.set_cons_zero, List.set_cons_succ]; rfl) ?_
      refine take_lit (i := 25) 41 (by simp only [List.getElem?_toArray, List.getElem?_cons_succ, List.getElem?_cons_zero]; rfl) rfl (by kernel_rfl) (by kernel_rfl) (by kernel_rfl) (by exact fun _ _ _ h => h) (by rfl) (fun w => by first | (go_simp; done) | (go_simp; with_reducible rfl)) (by simp only [List.set_cons_zero, List.set_cons_succ]; rfl) ?_
      refine wpAny_ready (rs := [21]) (by kernel_rfl) (by simp) ?_
      refine AllReady.cons (by simp only [List.getElem?_toArray, List.getElem?_cons_succ, List.getElem?_cons_zero]; rfl) (fun K hK => ?_) AllReady.nil
      go_simp
      refine (bor_row _ _ a b _ (HBw.out.on hS4) HAa.out (HBw'.out.on hS4) HAb.out HLea.out HLeb.out).mono ?_
      rintro e w5 ⟨rfl, hr5, hB5⟩
      rw [HMx.out]
      have HY5 := Lib.hid (hr5.whole (M := M) HOl.out (by omega))
      have hS5 := bseq hS4 hB5
      clear hr5
      go_wp2_with fail
      try (refine hK _ _ ?_; clear hK K)
      refine wpAny_ready (rs := [22]) (by kernel_rfl) (by simp) ?_
      refine AllReady.cons (by simp only [List.getElem?_toArray, List.getElem?_cons_succ, List.getElem?_cons_zero]; rfl) (fun K hK => ?_) AllReady.nil
      go_simp
      refine (bcount_any _ (orL a b) _ _ HY5.out HAx.out (by rw [HOl.out]; omega)).mono ?_
      rintro e w' ⟨rfl, rfl⟩
      rw [HC1.out]
      go_wp2_with fail
      try (refine hK _ _ ?_; clear hK K)
      refine wpAny_ready (rs := [24]) (by kernel_rfl) (by simp) ?_
      refine AllReady.cons (by simp only [List.getElem?_toArray, List.getElem?_cons_succ, List.getElem?_cons_zero]; rfl) (fun K hK => ?_) AllReady.nil
      go_simp
      refine (bcount_any _ a _ _ (HBw.out.on hS5) HAa.out HLea.out).mono ?_
      rintro e w' ⟨rfl, rfl⟩
      rw [HC2.out]
      go_wp2_with fail
      try (refine hK _ _ ?_; clear hK K)
      refine wpAny_ready (rs := [26]) (by kernel_rfl) (by simp) ?_
      refine AllReady.cons (by simp only [List.getElem?_toArray, List.getElem?_cons_succ, List.getElem?_cons_zero]; rfl) (fun K hK => ?_) AllReady.nil
      go_simp
      refine (bcount_any _ b _ _ (HBw'.out.on hS5) HAb.out HLeb.out).mono ?_
      rintro e w' ⟨rfl, rfl⟩
      rw [HC3.out]
      go_wp2_with fail
      try (refine hK _ _ ?_; clear hK K)
      refine take_lit (i := 27) 43 (by simp only [List.getElem?_toArray, List.getElem?_cons_succ, List.getElem?_cons_zero]; rfl) rfl (by kernel_rfl) (by kernel_rfl) (by kernel_rfl) (by exact fun _ _ _ h => h) (by rfl) (fun w => by first | (go_simp; done) | (go_simp; with_reducible rfl)) (by simp only [List.set_cons_zero, List.set_cons_succ]; rfl) ?_
      refine take_lit (i := 28) 44 (by simp only [List.getElem?_toArray, List.getElem?_cons_succ, List.getElem?_cons_zero]; rfl) rfl (by kernel_rfl) (by kernel_rfl) (by kernel_rfl) (by exact fun _ _ _ h => h) (by rfl) (fun w => by first | (go_simp; done) | (go_simp; with_reducible rfl)) (by simp only [List.set_cons_zero, List.set_cons_succ]; rfl) ?_
      refine take_lit (i := 29) 45 (by simp only [List.getElem?_toArray, List.getElem?_cons_succ, List.getElem?_cons_zero]; rfl) rfl (by kernel_rfl) (by kernel_rfl) (by kernel_rfl) (by exact fun _ _ _ h => h) (by rfl) (fun w => by first | (go_simp; done) | (go_simp; with_reducible rfl)) (by simp only [List.set_cons_zero, List.set_cons_succ]; rfl) ?_
      refine take_lit (i := 30) 4 (by simp only [List.getElem?_toArray, List.getElem?_cons_succ, List.getElem?_cons_zero]; rfl) rfl (by kernel_rfl) (by kernel_rfl) (by kernel_rfl) (by exact fun _ _ _ h => h) (by rfl) (fun w => by first | (go_simp; done) | (go_simp; with_reducible rfl)) (by simp only [List.set_cons_zero, List.set_cons_succ]; rfl) ?_
      refine wpAny_done (by kernel_rfl) ?_ _
      go_wp2_with fail
      go_ret
      exact ⟨by simp, hS5⟩
    refine AllReady.cons (by simp only [List.getElem?_toArray, List.getElem?_cons_succ, List.getElem?_cons_zero]; rfl) (fun K hK => ?_) AllReady.nil
    go_simp
    try (refine hK _ _ ?_; clear hK K)
    refine wpAny_ready (rs := [4]) (by kernel_rfl) (by simp) ?_
    refine AllReady.cons (by simp only [List.getElem?_toArray, List.getElem?_cons_succ, List.getElem?_cons_zero]; rfl) (fun K hK => ?_) AllReady.nil
    go_simp
    refine (bwithin_any _ _ a b _ (HBw.out.on hS1) HAa.out (HBw'.out.on hS1) HAb.out HLea.out).mono ?_
    rintro e w2 ⟨rfl, hB2⟩
    rw [HQ1.out]
    have hS2 := bseq hS1 hB2
    have hcX := bytes_conv (HBw'.out.on hS2)
    go_wp2_with fail
    try (refine hK _ _ ?_; clear hK K)
    refine wpAny_ready (rs := [7]) (by kernel_rfl) (by simp) ?_
    refine AllReady.cons (by simp only [List.getElem?_toArray, List.getElem?_cons_succ, List.getElem?_cons_zero]; rfl) (fun K hK => ?_) AllReady.nil
    go_simp
    refine (bor_row _ _ a b _ (HBw.out.on hS2) HAa.out (HBw'.out.on hS2) HAb.out HLea.out HLeb.out).mono ?_
    rintro e w3 ⟨rfl, hr3, hB3⟩
    rw [HMx.out]
    have HY3 := Lib.hid (hr3.whole (M := M) HOl.out (by omega))
    have hS3 := bseq hS2 hB3
    have hcB := bytes_conv HY3.out
    have hcC := bytes_conv (HBw'.out.on hS3)
    clear hr3
    go_wp2_with fail
    try (refine hK _ _ ?_; clear hK K)
    refine wpAny_ready (rs := [8]) (by kernel_rfl) (by simp) ?_
    refine AllReady.cons (by simp only [List.getElem?_toArray, List.getElem?_cons_succ, List.getElem?_cons_zero]; rfl) (fun K hK => ?_) AllReady.nil
    go_simp
    try (refine hK _ _ ?_; clear hK K)
    refine take_lit (i := 11) 27 (by simp only [List.getElem?_toArray, List.getElem?_cons_succ, List.getElem?_cons_zero]; rfl) rfl (by kernel_rfl) (by kernel_rfl) (by kernel_rfl) (by exact fun _ _ _ h => h) (by rfl) (fun w => by first | (go_simp; done) | (go_simp; with_reducible rfl)) (by simp only [List.set_cons_zero, List.set_cons_succ]; rfl) ?_
    refine take_lit (i := 12) 28 (by simp only [List.getElem?_toArray, List.getElem?_cons_succ, List.getElem?_cons_zero]; rfl) rfl (by kernel_rfl) (by kernel_rfl) (by kernel_rfl) (by exact fun _ _ _ h => h) (by rfl) (fun w => by first | (go_simp; done) | (go_simp; with_reducible rfl)) (by simp only [List.set_cons_zero, List.set_cons_succ]; rfl) ?_
    refine take_lit (i := 13) 29 (by simp only [List.getElem?_toArray, List.getElem?_cons_succ, List.getElem?_cons_zero]; rfl) rfl (by kernel_rfl) (by kernel_rfl) (by kernel_rfl) (by exact fun _ _ _ h => h) (by rfl) (fun w => by first | (go_simp; done) | (go_simp; with_reducible rfl)) (by simp only [List.set_cons_zero, List.set_cons_succ]; rfl) ?_
    refine take_lit (i := 14) 30 (by simp only [List.getElem?_toArray, List.getElem?_cons_succ, List.getElem?_cons_zero]; rfl) rfl (by kernel_rfl) (by kernel_rfl) (by kernel_rfl) (by exact fun _ _ _ h => h) (by rfl) (fun w => by first | (go_simp; done) | (go_simp; with_reducible rfl)) (by simp only [List.set_cons_zero, List.set_cons_succ]; rfl) ?_
    refine take_lit (i := 15) 31 (by simp only [List.getElem?_toArray, List.getElem?_cons_succ, List.getElem?_cons_zero]; rfl) rfl (by kernel_rfl) (by kernel_rfl) (by kernel_rfl) (by exact fun _ _ _ h => h) (by rfl) (fun w => by first | (go_simp; done) | (go_simp; with_reducible rfl)) (by simp only [List.set_cons_zero, List.set_cons_succ]; rfl) ?_
    refine wpAny_ready (rs := [16]) (by kernel_rfl) (by simp) ?_
    refine AllReady.cons (by simp only [List.getElem?_toArray, List.getElem?_cons_succ, List.getElem?_cons_zero]; rfl) (fun K hK => ?_) AllReady.nil
    go_simp
    refine (bwithin_any _ _ [] a _ (nil_bytes _ _) HNil.out (HBw.out.on hS3) HAa.out (by simp)).mono ?_
    rintro e w4 ⟨rfl, hB4⟩
    rw [HQ2.out]
    have hS4 := bseq hS3 hB4
    clear hcW hcX hcB hcC
    go_wp2_with fail
    try (refine hK _ _ ?_; clear hK K)
    refine take_lit (i := 17) 33 (by simp only [List.getElem?_toArray, List.getElem?_cons_succ, List.getElem?_cons_zero]; rfl) rfl (by kernel_rfl) (by kernel_rfl) (by kernel_rfl) (by exact fun _ _ _ h => h) (by rfl) (fun w => by first | (go_simp; done) | (go_simp; with_reducible rfl)) (by simp only [List.set_cons_zero, List.set_cons_succ]; rfl) ?_
    refine take_lit (i := 18) 34 (by simp only [List.getElem?_toArray, List.getElem?_cons_succ, List.getElem?_cons_zero]; rfl) rfl (by kernel_rfl) (by kernel_rfl) (by kernel_rfl) (by exact fun _ _ _ h => h) (by rfl) (fun w => by first | (go_simp; done) | (go_simp; with_reducible rfl)) (by simp only [List.set_cons_zero, List.set_cons_succ]; rfl) ?_
    refine take_lit (i := 19) 35 (by simp only [List.getElem?_toArray, List.getElem?_cons_succ, List.getElem?_cons_zero]; rfl) rfl (by kernel_rfl) (by kernel_rfl) (by kernel_rfl) (by exact fun _ _ _ h => h) (by rfl) (fun w => by first | (go_simp; done) | (go_simp; with_reducible rfl)) (by simp only [List.set_cons_zero, List.set_cons_succ]; rfl) ?_
    refine take_lit (i := 20) 36 (by simp only [List.getElem?_toArray, List.getElem?_cons_succ, List.getElem?_cons_zero]; rfl) rfl (by kernel_rfl) (by kernel_rfl) (by kernel_rfl) (by exact fun _ _ _ h => h) (by rfl) (fun w => by first | (go_simp; done) | (go_simp; with_reducible rfl)) (by simp only [List.set_cons_zero, List.set_cons_succ]; rfl) ?_
    refine take_lit (i := 23) 39 (by simp only [List.getElem?_toArray, List.getElem?_cons_succ, List.getElem?_cons_zero]; rfl) rfl (by kernel_rfl) (by kernel_rfl) (by kernel_rfl) (by exact fun _ _ _ h => h) (by rfl) (fun w => by first | (go_simp; done) | (go_simp; with_reducible rfl)) (by simp only [List.set_cons_zero, List.set_cons_succ]; rfl) ?_
    refine take_lit (i := 25) 41 (by simp only [List.getElem?_toArray, List.getElem?_cons_succ, List.getElem?_cons_zero]; rfl) rfl (by kernel_rfl) (by kernel_rfl) (by kernel_rfl) (by exact fun _ _ _ h => h) (by rfl) (fun w => by first | (go_simp; done) | (go_simp; with_reducible rfl)) (by simp only [List.set_cons_zero, List.set_cons_succ]; rfl) ?_
    refine wpAny_ready (rs := [21]) (by kernel_rfl) (by simp) ?_
    refine AllReady.cons (by simp only [List.getElem?_toArray, List.getElem?_cons_succ, List.getElem?_cons_zero]; rfl) (fun K hK => ?_) AllReady.nil
    go_simp
    refine (bor_row _ _ a b _ (HBw.out.on hS4) HAa.out (HBw'.out.on hS4) HAb.out HLea.out HLeb.out).mono ?_
    rintro e w5 ⟨rfl, hr5, hB5⟩
    rw [HMx.out]
    have HY5 := Lib.hid (hr5.whole (M := M) HOl.out (by omega))
    have hS5 := bseq hS4 hB5
    clear hr5
    go_wp2_with fail
    try (refine hK _ _ ?_; clear hK K)
    refine wpAny_ready (rs := [22]) (by kernel_rfl) (by simp) ?_
    refine AllReady.cons (by simp only [List.getElem?_toArray, List.getElem?_cons_succ, List.getElem?_cons_zero]; rfl) (fun K hK => ?_) AllReady.nil
    go_simp
    refine (bcount_any _ (orL a b) _ _ HY5.out HAx.out (by rw [HOl.out]; omega)).mono ?_
    rintro e w' ⟨rfl, rfl⟩
    rw [HC1.out]
    go_wp2_with fail
    try (refine hK _ _ ?_; clear hK K)
    refine wpAny_ready (rs := [24]) (by kernel_rfl) (by simp) ?_
    refine AllReady.cons (by simp only [List.getElem?_toArray, List.getElem?_cons_succ, List.getElem?_cons_zero]; rfl) (fun K hK => ?_) AllReady.nil
    go_simp
    refine (bcount_any _ a _ _ (HBw.out.on hS5) HAa.out HLea.out).mono ?_
    rintro e w' ⟨rfl, rfl⟩
    rw [HC2.out]
    go_wp2_with fail
    try (refine hK _ _ ?_; clear hK K)
    refine wpAny_ready (rs := [26]) (by kernel_rfl) (by simp) ?_
    refine AllReady.cons (by simp only [List.getElem?_toArray, List.getElem?_cons_succ, List.getElem?_cons_zero]; rfl) (fun K hK => ?_) AllReady.nil
    go_simp
    refine (bcount_any _ b _ _ (HBw'.out.on hS5) HAb.out HLeb.out).mono ?_
    rintro e w' ⟨rfl, rfl⟩
    rw [HC3.out]
    go_wp2_with fail
    try (refine hK _ _ ?_; clear hK K)
    refine take_lit (i := 27) 43 (by simp only [List.getElem?_toArray, List.getElem?_cons_succ, List.getElem?_cons_zero]; rfl) rfl (by kernel_rfl) (by kernel_rfl) (by kernel_rfl) (by exact fun _ _ _ h => h) (by rfl) (fun w => by first | (go_simp; done) | (go_simp; with_reducible rfl)) (by simp only [List.set_cons_zero, List.set_cons_succ]; rfl) ?_
    refine take_lit (i := 28) 44 (by simp only [List.getElem?_toArray, List.getElem?_cons_succ, List.getElem?_cons_zero]; rfl) rfl (by kernel_rfl) (by kernel_rfl) (by kernel_rfl) (by exact fun _ _ _ h => h) (by rfl) (fun w => by first | (go_simp; done) | (go_simp; with_reducible rfl)) (by simp only [List.set_cons_zero, List.set_cons_succ]; rfl) ?_
    refine take_lit (i := 29) 45 (by simp only [List.getElem?_toArray, List.getElem?_cons_succ, List.getElem?_cons_zero]; rfl) rfl (by kernel_rfl) (by kernel_rfl) (by kernel_rfl) (by exact fun _ _ _ h => h) (by rfl) (fun w => by first | (go_simp; done) | (go_simp; with_reducible rfl)) (by simp only [List.set_cons_zero, List.set_cons_succ]; rfl) ?_
    refine take_lit (i := 30) 4 (by simp only [List.getElem?_toArray, List.getElem?_cons_succ, List.getElem?_cons_zero]; rfl) rfl (by kernel_rfl) (by kernel_rfl) (by kernel_rfl) (by exact fun _ _ _ h => h) (by rfl) (fun w => by first | (go_simp; done) | (go_simp; with_reducible rfl)) (by simp only [List.set_cons_zero, List.set_cons_succ]; rfl) ?_
    refine wpAny_done (by kernel_rfl) ?_ _
    go_wp2_with fail
    go_ret
    exact ⟨by simp, hS5⟩

end Go.Proofs.Ytdphkgknjgdjoaa
