/-
  Layer 3's laws: what 'asks' answers of any row of bytes: true; and nothing that was there is written.
-/
import Derived.Test.YtdphkgknjgdjoaaBitsLawsA
import Derived.Test.YtdphkgknjgdjoaaRegionStep
import Derived.Deep.DeepCutAuto
import Derived.Deep.RegionHeld3
namespace Go.Proofs.Ytdphkgknjgdjoaa
open Go.RowKit Go.Deep

set_option maxRecDepth 100000 in
set_option maxHeartbeats 8000000 in
theorem asks_any (i n : Int) (A : Option Addr) (len cap : Nat) (l : List Int) (w : World) (hlen : l.length = len) (hl : AllB l) (hb : Bytes w w.heap.size (.slice A len cap) l) (hle : len ≤ 1000000)
    (i0 : -9223372036854775808 ≤ i) (i1 : i ≤ 9223372036854775807) (n0 : -9223372036854775808 ≤ n) (n1 : n ≤ 9223372036854775807) :
    Calls Try.prog 11 #[.slice A len cap, .int .i64 i, .int .i64 n] w fun e w' => e = .returned (.bool true) ∧ Below w.heap.size w w' := by
  have HB := Lib.hid hb
  have HL := Lib.hid hlen
  have HA := Lib.hid hl
  have HLe : Hid (l.length ≤ 1000000000) := Lib.hid (by omega)
  obtain ⟨M, hM⟩ : ∃ M, makeN n = M := ⟨_, rfl⟩
  have hM2 : M ≤ 8192 := by rw [← hM]; exact makeN_le _
  have HM := Lib.hid hM
  obtain ⟨q, hq⟩ : ∃ q, getB l i = q := ⟨_, rfl⟩
  have HG := Lib.hid hq
  clear hb hlen hl hM hq
  go_enter Try.func11, Try.ntmps11
  go_upto_region 1 with fail
  go_cut [7] (fun s7 wx => s7 = .bool true ∧ Below w.heap.size w wx)
  case rest =>
    obtain ⟨rfl, hS0⟩ := hcut
    go_wp2_with fail
    refine (bcount_any _ l _ _ (HB.out.on hS0) HA.out HLe.out).mono ?_
    rintro e w' ⟨rfl, rfl⟩
    go_wp2_with fail
    refine (rcount_any _ l _ _ (HB.out.on hS0) HA.out HLe.out).mono ?_
    rintro e w' ⟨rfl, rfl⟩
    have d1 : ((cntL l : Int) == (cntL l : Int)) = true := by simp
    go_wp2_with fail
    refine (bfirst_any _ l n _ (HB.out.on hS0) HA.out HLe.out).mono ?_
    rintro e w1 ⟨rfl, hB1⟩
    have hS1 := bseq hS0 hB1
    go_wp2_with fail
    refine (rfirst_any _ l _ n _ (HB.out.on hS1) HA.out n0 n1).mono ?_
    rintro e w' ⟨rfl, rfl⟩
    have d2 : (firstV l n == firstV l n) = true := by simp
    go_wp2_with fail
    refine (bright_any _ l n _ (HB.out.on hS1) HA.out).mono ?_
    rintro e w2 ⟨rfl, hB2⟩
    have hS2 := bseq hS1 hB2
    go_wp2_with fail
    refine (rright_any _ l n _ (HB.out.on hS2) HA.out n0 n1).mono ?_
    rintro e w3 ⟨rfl, hB3⟩
    have d3 : (rightOK l n == rightOK l n) = true := by simp
    go_wp2_with fail
    go_ret
    exact ⟨by simp, bseq hS2 hB3⟩
  case first =>
    have hS0 := (Below.refl w.heap.size w).drew
    refine wp_region_any (by kernel_rfl) ?_
    change wpAny _ _ _ _ _ _ _ (World.drew _)
    refine take_lit (i := 0) 8 (by simp only [List.getElem?_toArray, List.getElem?_cons_zero]; rfl) rfl (by kernel_rfl) (by kernel_rfl) (by kernel_rfl) (by exact fun _ _ _ h => h) (by rfl) (fun w => by first | (go_simp; done) | (go_simp; with_reducible rfl)) (by simp only [List.set_cons_zero, List.set_cons_succ]; rfl) ?_
    refine take_lit (i := 3) 11 (by simp only [List.getElem?_toArray, List.getElem?_cons_succ, List.getElem?_cons_zero]; rfl) rfl (by kernel_rfl) (by kernel_rfl) (by kernel_rfl) (by exact fun _ _ _ h => h) (by rfl) (fun w => by first | (go_simp; done) | (go_simp; with_reducible rfl)) (by simp only [List.set_cons_zero, List.set_cons_succ]; rfl) ?_
    refine wpAny_ready (rs := [1]) (by kernel_rfl) (by simp) ?_
    refine AllReady.cons (by simp only [List.getElem?_toArray, List.getElem?_cons_succ, List.getElem?_cons_zero]; rfl) (fun K hK => ?_) AllReady.nil
    go_simp
    refine (bmake_row n _).mono ?_
    rintro e w1 ⟨rfl, hr1, hB1⟩
    rw [HM.out] at hr1 ⊢
    replace hr1 : RowB w1 w.heap.size (List.replicate M 0) := hr1
    have HY1 := Lib.hid (hr1.whole (M := M) (by simp) (by omega))
    have hcA := bytes_conv HY1.out
    have hS1 := bseq hS0 hB1
    clear hr1
    go_wp2_with fail
    try (refine hK _ _ ?_; clear hK K)
    refine wpAny_ready (rs := [2, 4]) (by kernel_rfl) (by simp) ?_
    refine AllReady.cons (by simp only [List.getElem?_toArray, List.getElem?_cons_succ, List.getElem?_cons_zero]; rfl) (fun K hK => ?_) ?_
    · go_simp
      try (refine hK _ _ ?_; clear hK K)
      refine wpAny_ready (rs := [4]) (by kernel_rfl) (by simp) ?_
      refine AllReady.cons (by simp only [List.getElem?_toArray, List.getElem?_cons_succ, List.getElem?_cons_zero]; rfl) (fun K hK => ?_) AllReady.nil
      go_simp
      refine (rmake_row n _ n0 n1).mono ?_
      rintro e w2 ⟨rfl, hr2, hB2⟩
      rw [HM.out] at hr2 ⊢
      have HY2 := Lib.hid (hr2.whole (M := M) (by simp) (by omega))
      have hcB := bytes_conv (HY1.out.on hB2)
      have hcC := bytes_conv HY2.out
      have hS2 := bseq hS1 hB2
      clear hr2
      go_wp2_with fail
      try (refine hK _ _ ?_; clear hK K)
      refine wpAny_ready (rs := [5]) (by kernel_rfl) (by simp) ?_
      refine AllReady.cons (by simp only [List.getElem?_toArray, List.getElem?_cons_succ, List.getElem?_cons_zero]; rfl) (fun K hK => ?_) AllReady.nil
      go_simp
      try (refine hK _ _ ?_; clear hK K)
      refine take_lit (i := 6) 14 (by simp only [List.getElem?_toArray, List.getElem?_cons_succ, List.getElem?_cons_zero]; rfl) rfl (by kernel_rfl) (by kernel_rfl) (by kernel_rfl) (by exact fun _ _ _ h => h) (by rfl) (fun w => by first | (go_simp; done) | (go_simp; with_reducible rfl)) (by simp only [List.set_cons_zero, List.set_cons_succ]; rfl) ?_
      refine take_lit (i := 7) 15 (by simp only [List.getElem?_toArray, List.getElem?_cons_succ, List.getElem?_cons_zero]; rfl) rfl (by kernel_rfl) (by kernel_rfl) (by kernel_rfl) (by exact fun _ _ _ h => h) (by rfl) (fun w => by first | (go_simp; done) | (go_simp; with_reducible rfl)) (by simp only [List.set_cons_zero, List.set_cons_succ]; rfl) ?_
      refine take_lit (i := 8) 16 (by simp only [List.getElem?_toArray, List.getElem?_cons_succ, List.getElem?_cons_zero]; rfl) rfl (by kernel_rfl) (by kernel_rfl) (by kernel_rfl) (by exact fun _ _ _ h => h) (by rfl) (fun w => by first | (go_simp; done) | (go_simp; with_reducible rfl)) (by simp only [List.set_cons_zero, List.set_cons_succ]; rfl) ?_
      refine take_lit (i := 9) 17 (by simp only [List.getElem?_toArray, List.getElem?_cons_succ, List.getElem?_cons_zero]; rfl) rfl (by kernel_rfl) (by kernel_rfl) (by kernel_rfl) (by exact fun _ _ _ h => h) (by rfl) (fun w => by first | (go_simp; done) | (go_simp; with_reducible rfl)) (by simp only [List.set_cons_zero, List.set_cons_succ]; rfl) ?_
      refine take_lit (i := 11) 19 (by simp only [List.getElem?_toArray, List.getElem?_cons_succ, List.getElem?_cons_zero]; rfl) rfl (by kernel_rfl) (by kernel_rfl) (by kernel_rfl) (by exact fun _ _ _ h => h) (by rfl) (fun w => by first | (go_simp; done) | (go_simp; with_reducible rfl)) (by simp only [List.set_cons_zero, List.set_cons_succ]; rfl) ?_
      refine take_lit (i := 12) 20 (by simp only [List.getElem?_toArray, List.getElem?_cons_succ, List.getElem?_cons_zero]; rfl) rfl (by kernel_rfl) (by kernel_rfl) (by kernel_rfl) (by exact fun _ _ _ h => h) (by rfl) (fun w => by first | (go_simp; done) | (go_simp; with_reducible rfl)) (by simp only [List.set_cons_zero, List.set_cons_succ]; rfl) ?_
      refine wpAny_ready (rs := [10]) (by kernel_rfl) (by simp) ?_
      refine AllReady.cons (by simp only [List.getElem?_toArray, List.getElem?_cons_succ, List.getElem?_cons_zero]; rfl) (fun K hK => ?_) AllReady.nil
      go_simp
      refine (bget_any _ l _ i _ (HB.out.on hS2) HA.out i0 i1).mono ?_
      rintro e w' ⟨rfl, rfl⟩
      rw [HG.out]
      clear hcA hcB hcC
      go_wp2_with fail
      try (refine hK _ _ ?_; clear hK K)
      refine wpAny_ready (rs := [13]) (by kernel_rfl) (by simp) ?_
      refine AllReady.cons (by simp only [List.getElem?_toArray, List.getElem?_cons_succ, List.getElem?_cons_zero]; rfl) (fun K hK => ?_) AllReady.nil
      go_simp
      refine (rget_any _ l _ i _ (HB.out.on hS2) HA.out i0 i1).mono ?_
      rintro e w' ⟨rfl, rfl⟩
      rw [HG.out]
      go_wp2_with fail
      try (refine hK _ _ ?_; clear hK K)
      refine take_lit (i := 14) 22 (by simp only [List.getElem?_toArray, List.getElem?_cons_succ, List.getElem?_cons_zero]; rfl) rfl (by kernel_rfl) (by kernel_rfl) (by kernel_rfl) (by exact fun _ _ _ h => h) (by rfl) (fun w => by first | (go_simp; done) | (go_simp; with_reducible rfl)) (by simp only [List.set_cons_zero, List.set_cons_succ]; rfl) ?_
      refine take_lit (i := 15) 23 (by simp only [List.getElem?_toArray, List.getElem?_cons_succ, List.getElem?_cons_zero]; rfl) rfl (by kernel_rfl) (by kernel_rfl) (by kernel_rfl) (by exact fun _ _ _ h => h) (by rfl) (fun w => by first | (go_simp; done) | (go_simp; with_reducible rfl)) (by simp only [List.set_cons_zero, List.set_cons_succ]; rfl) ?_
      refine take_lit (i := 16) 24 (by simp only [List.getElem?_toArray, List.getElem?_cons_succ, List.getElem?_cons_zero]; rfl) rfl (by kernel_rfl) (by kernel_rfl) (by kernel_rfl) (by exact fun _ _ _ h => h) (by rfl) (fun w => by first | (go_simp; done) | (go_simp; with_reducible rfl)) (by simp only [List.set_cons_zero, List.set_cons_succ]; rfl) ?_
      refine take_lit (i := 17) 25 (by simp only [List.getElem?_toArray, List.getElem?_cons_succ, List.getElem?_cons_zero]; rfl) rfl (by kernel_rfl) (by kernel_rfl) (by kernel_rfl) (by exact fun _ _ _ h => h) (by rfl) (fun w => by first | (go_simp; done) | (go_simp; with_reducible rfl)) (by simp only [List.set_cons_zero, List.set_cons_succ]; rfl) ?_
      refine take_lit (i := 18) 26 (by simp only [List.getElem?_toArray, List.getElem?_cons_succ, List.getElem?_cons_zero]; rfl) rfl (by kernel_rfl) (by kernel_rfl) (by kernel_rfl) (by exact fun _ _ _ h => h) (by rfl) (fun w => by first | (go_simp; done) | (go_simp; with_reducible rfl)) (by simp only [List.set_cons_zero, List.set_cons_succ]; rfl) ?_
      refine take_lit (i := 21) 29 (by simp only [List.getElem?_toArray, List.getElem?_cons_succ, List.getElem?_cons_zero]; rfl) rfl (by kernel_rfl) (by kernel_rfl) (by kernel_rfl) (by exact fun _ _ _ h => h) (by rfl) (fun w => by first | (go_simp; done) | (go_simp; with_reducible rfl)) (by simp only [List.set_cons_zero, List.set_cons_succ]; rfl) ?_
      refine take_lit (i := 22) 30 (by simp only [List.getElem?_toArray, List.getElem?_cons_succ, List.getElem?_cons_zero]; rfl) rfl (by kernel_rfl) (by kernel_rfl) (by kernel_rfl) (by exact fun _ _ _ h => h) (by rfl) (fun w => by first | (go_simp; done) | (go_simp; with_reducible rfl)) (by simp only [List.set_cons_zero, List.set_cons_succ]; rfl) ?_
      refine wpAny_ready (rs := [19]) (by kernel_rfl) (by simp) ?_
      refine AllReady.cons (by simp only [List.getElem?_toArray, List.getElem?_cons_succ, List.getElem?_cons_zero]; rfl) (fun K hK => ?_) AllReady.nil
      go_simp
      refine (bset_row _ l i _ (HB.out.on hS2) HA.out HLe.out i0 i1).mono ?_
      rintro e w3 ⟨rfl, hr3, hB3⟩
      rw [HL.out]
      have HY3 := Lib.hid (hr3.whole (M := len) ((setL_length _ _).trans HL.out) (by omega))
      have hcD := bytes_conv HY3.out
      have hS3 := bseq hS2 hB3
      clear hr3
      go_wp2_with fail
      try (refine hK _ _ ?_; clear hK K)
      refine wpAny_ready (rs := [20, 23]) (by kernel_rfl) (by simp) ?_
      refine AllReady.cons (by simp only [List.getElem?_toArray, List.getElem?_cons_succ, List.getElem?_cons_zero]; rfl) (fun K hK => ?_) ?_
      · go_simp
        try (refine hK _ _ ?_; clear hK K)
        refine wpAny_ready (rs := [23]) (by kernel_rfl) (by simp) ?_
        refine AllReady.cons (by simp only [List.getElem?_toArray, List.getElem?_cons_succ, List.getElem?_cons_zero]; rfl) (fun K hK => ?_) AllReady.nil
        go_simp
        refine (rset_any _ l i _ (HB.out.on hS3) HA.out HLe.out i0 i1).mono ?_
        rintro e w4 ⟨v4, rfl, hy4, hB4⟩
        have HY4 := Lib.hid hy4
        have hcE := bytes_conv (HY3.out.on hB4)
        have hcF := bytes_conv HY4.out
        have hS4 := bseq hS3 hB4
        clear hy4
        go_wp2_with fail
        try (refine hK _ _ ?_; clear hK K)
        refine wpAny_ready (rs := [24]) (by kernel_rfl) (by simp) ?_
        refine AllReady.cons (by simp only [List.getElem?_toArray, List.getElem?_cons_succ, List.getElem?_cons_zero]; rfl) (fun K hK => ?_) AllReady.nil
        go_simp
        try (refine hK _ _ ?_; clear hK K)
        refine take_lit (i := 25) 33 (by simp only [List.getElem?_toArray, List.getElem?_cons_succ, List.getElem?_cons_zero]; rfl) rfl (by kernel_rfl) (by kernel_rfl) (by kernel_rfl) (by exact fun _ _ _ h => h) (by rfl) (fun w => by first | (go_simp; done) | (go_simp; with_reducible rfl)) (by simp only [List.set_cons_zero, List.set_cons_succ]; rfl) ?_
        refine take_lit (i := 26) 34 (by simp only [List.getElem?_toArray, List.getElem?_cons_succ, List.getElem?_cons_zero]; rfl) rfl (by kernel_rfl) (by kernel_rfl) (by kernel_rfl) (by exact fun _ _ _ h => h) (by rfl) (fun w => by first | (go_simp; done) | (go_simp; with_reducible rfl)) (by simp only [List.set_cons_zero, List.set_cons_succ]; rfl) ?_
        refine take_lit (i := 27) 7 (by simp only [List.getElem?_toArray, List.getElem?_cons_succ, List.getElem?_cons_zero]; rfl) rfl (by kernel_rfl) (by kernel_rfl) (by kernel_rfl) (by exact fun _ _ _ h => h) (by rfl) (fun w => by first | (go_simp; done) | (go_simp; with_reducible rfl)) (by simp only [List.set_cons_zero, List.set_cons_succ]; rfl) ?_
        refine wpAny_done (by kernel_rfl) ?_ _
        go_wp2_with fail
        go_meet
        exact ⟨by simp, hS4⟩
      refine AllReady.cons (by simp only [List.getElem?_toArray, List.getElem?_cons_succ, List.getElem?_cons_zero]; rfl) (fun K hK => ?_) AllReady.nil
      go_simp
      refine (rset_any _ l i _ (HB.out.on hS3) HA.out HLe.out i0 i1).mono ?_
      rintro e w4 ⟨v4, rfl, hy4, hB4⟩
      have HY4 := Lib.hid hy4
      have hcE := bytes_conv (HY3.out.on hB4)
      have hcF := bytes_conv HY4.out
      have hS4 := bseq hS3 hB4
      clear hy4
      go_wp2_with fail
      try (refine hK _ _ ?_; clear hK K)
      refine wpAny_ready (rs := [20, 24]) (by kernel_rfl) (by simp) ?_
      refine AllReady.cons (by simp only [List.getElem?_toArray, List.getElem?_cons_succ, List.getElem?_cons_zero]; rfl) (fun K hK => ?_) ?_
      · go_simp
        try (refine hK _ _ ?_; clear hK K)
        refine wpAny_ready (rs := [24]) (by kernel_rfl) (by simp) ?_
        refine AllReady.cons (by simp only [List.getElem?_toArray, List.getElem?_cons_succ, List.getElem?_cons_zero]; rfl) (fun K hK => ?_) AllReady.nil
        go_simp
        try (refine hK _ _ ?_; clear hK K)
        refine take_lit (i := 25) 33 (by simp only [List.getElem?_toArray, List.getElem?_cons_succ, List.getElem?_cons_zero]; rfl) rfl (by kernel_rfl) (by kernel_rfl) (by kernel_rfl) (by exact fun _ _ _ h => h) (by rfl) (fun w => by first | (go_simp; done) | (go_simp; with_reducible rfl)) (by simp only [List.set_cons_zero, List.set_cons_succ]; rfl) ?_
        refine take_lit (i := 26) 34 (by simp only [List.getElem?_toArray, List.getElem?_cons_succ, List.getElem?_cons_zero]; rfl) rfl (by kernel_rfl) (by kernel_rfl) (by kernel_rfl) (by exact fun _ _ _ h => h) (by rfl) (fun w => by first | (go_simp; done) | (go_simp; with_reducible rfl)) (by simp only [List.set_cons_zero, List.set_cons_succ]; rfl) ?_
        refine take_lit (i := 27) 7 (by simp only [List.getElem?_toArray, List.getElem?_cons_succ, List.getElem?_cons_zero]; rfl) rfl (by kernel_rfl) (by kernel_rfl) (by kernel_rfl) (by exact fun _ _ _ h => h) (by rfl) (fun w => by first | (go_simp; done) | (go_simp; with_reducible rfl)) (by simp only [List.set_cons_zero, List.set_cons_succ]; rfl) ?_
        refine wpAny_done (by kernel_rfl) ?_ _
        go_wp2_with fail
        go_meet
        exact ⟨by simp, hS4⟩
      refine AllReady.cons (by simp only [List.getElem?_toArray, List.getElem?_cons_succ, List.getElem?_cons_zero]; rfl) (fun K hK => ?_) AllReady.nil
      go_simp
      try (refine hK _ _ ?_; clear hK K)
      refine wpAny_ready (rs := [20]) (by kernel_rfl) (by simp) ?_
      refine AllReady.cons (by simp only [List.getElem?_toArray, List.getElem?_cons_succ, List.getElem?_cons_zero]; rfl) (fun K hK => ?_) AllReady.nil
      go_simp
      try (refine hK _ _ ?_; clear hK K)
      refine take_lit (i := 25) 33 (by simp only [List.getElem?_toArray, List.getElem?_cons_succ, List.getElem?_cons_zero]; rfl) rfl (by kernel_rfl) (by kernel_rfl) (by kernel_rfl) (by exact fun _ _ _ h => h) (by rfl) (fun w => by first | (go_simp; done) | (go_simp; with_reducible rfl)) (by simp only [List.set_cons_zero, List.set_cons_succ]; rfl) ?_
      refine take_lit (i := 26) 34 (by simp only [List.getElem?_toArray, List.getElem?_cons_succ, List.getElem?_cons_zero]; rfl) rfl (by kernel_rfl) (by kernel_rfl) (by kernel_rfl) (by exact fun _ _ _ h => h) (by rfl) (fun w => by first | (go_simp; done) | (go_simp; with_reducible rfl)) (by simp only [List.set_cons_zero, List.set_cons_succ]; rfl) ?_
      refine take_lit (i := 27) 7 (by simp only [List.getElem?_toArray, List.getElem?_cons_succ, List.getElem?_cons_zero]; rfl) rfl (by kernel_rfl) (by kernel_rfl) (by kernel_rfl) (by exact fun _ _ _ h => h) (by rfl) (fun w => by first | (go_simp; done) | (go_simp; with_reducible rfl)) (by simp only [List.set_cons_zero, List.set_cons_succ]; rfl) ?_
      refine wpAny_done (by kernel_rfl) ?_ _
      go_wp2_with fail
      go_meet
      exact ⟨by simp, hS4⟩
    refine AllReady.cons (by simp only [List.getElem?_toArray, List.getElem?_cons_succ, List.getElem?_cons_zero]; rfl) (fun K hK => ?_) AllReady.nil
    go_simp
    refine (rmake_row n _ n0 n1).mono ?_
    rintro e w2 ⟨rfl, hr2, hB2⟩
    rw [HM.out] at hr2 ⊢
    have HY2 := Lib.hid (hr2.whole (M := M) (by simp) (by omega))
    have hcB := bytes_conv (HY1.out.on hB2)
    have hcC := bytes_conv HY2.out
    have hS2 := bseq hS1 hB2
    clear hr2
    go_wp2_with fail
    try (refine hK _ _ ?_; clear hK K)
    refine wpAny_ready (rs := [2, 5]) (by kernel_rfl) (by simp) ?_
    refine AllReady.cons (by simp only [List.getElem?_toArray, List.getElem?_cons_succ, List.getElem?_cons_zero]; rfl) (fun K hK => ?_) ?_
    · go_simp
      try (refine hK _ _ ?_; clear hK K)
      refine wpAny_ready (rs := [5]) (by kernel_rfl) (by simp) ?_
      refine AllReady.cons (by simp only [List.getElem?_toArray, List.getElem?_cons_succ, List.getElem?_cons_zero]; rfl) (fun K hK => ?_) AllReady.nil
      go_simp
      try (refine hK _ _ ?_; clear hK K)
      refine take_lit (i := 6) 14 (by simp only [List.getElem?_toArray, List.getElem?_cons_succ, List.getElem?_cons_zero]; rfl) rfl (by kernel_rfl) (by kernel_rfl) (by kernel_rfl) (by exact fun _ _ _ h => h) (by rfl) (fun w => by first | (go_simp; done) | (go_simp; with_reducible rfl)) (by simp only [List.set_cons_zero, List.set_cons_succ]; rfl) ?_
      refine take_lit (i := 7) 15 (by simp only [List.getElem?_toArray, List.getElem?_cons_succ, List.getElem?_cons_zero]; rfl) rfl (by kernel_rfl) (by kernel_rfl) (by kernel_rfl) (by exact fun _ _ _ h => h) (by rfl) (fun w => by first | (go_simp; done) | (go_simp; with_reducible rfl)) (by simp only [List.set_cons_zero, List.set_cons_succ]; rfl) ?_
      refine take_lit (i := 8) 16 (by simp only [List.getElem?_toArray, List.getElem?_cons_succ, List.getElem?_cons_zero]; rfl) rfl (by kernel_rfl) (by kernel_rfl) (by kernel_rfl) (by exact fun _ _ _ h => h) (by rfl) (fun w => by first | (go_simp; done) | (go_simp; with_reducible rfl)) (by simp only [List.set_cons_zero, List.set_cons_succ]; rfl) ?_
      refine take_lit (i := 9) 17 (by simp only [List.getElem?_toArray, List.getElem?_cons_succ, List.getElem?_cons_zero]; rfl) rfl (by kernel_rfl) (by kernel_rfl) (by kernel_rfl) (by exact fun _ _ _ h => h) (by rfl) (fun w => by first | (go_simp; done) | (go_simp; with_reducible rfl)) (by simp only [List.set_cons_zero, List.set_cons_succ]; rfl) ?_
      refine take_lit (i := 11) 19 (by simp only [List.getElem?_toArray, List.getElem?_cons_succ, List.getElem?_cons_zero]; rfl) rfl (by kernel_rfl) (by kernel_rfl) (by kernel_rfl) (by exact fun _ _ _ h => h) (by rfl) (fun w => by first | (go_simp; done) | (go_simp; with_reducible rfl)) (by simp only [List.set_cons_zero, List.set_cons_succ]; rfl) ?_
      refine take_lit (i := 12) 20 (by simp only [List.getElem?_toArray, List.getElem?_cons_succ, List.getElem?_cons_zero]; rfl) rfl (by kernel_rfl) (by kernel_rfl) (by kernel_rfl) (by exact fun _ _ _ h => h) (by rfl) (fun w => by first | (go_simp; done) | (go_simp; with_reducible rfl)) (by simp only [List.set_cons_zero, List.set_cons_succ]; rfl) ?_
      refine wpAny_ready (rs := [10]) (by kernel_rfl) (by simp) ?_
      refine AllReady.cons (by simp only [List.getElem?_toArray, List.getElem?_cons_succ, List.getElem?_cons_zero]; rfl) (fun K hK => ?_) AllReady.nil
      go_simp
      refine (bget_any _ l _ i _ (HB.out.on hS2) HA.out i0 i1).mono ?_
      rintro e w' ⟨rfl, rfl⟩
      rw [HG.out]
      clear hcA hcB hcC
      go_wp2_with fail
      try (refine hK _ _ ?_; clear hK K)
      refine wpAny_ready (rs := [13]) (by kernel_rfl) (by simp) ?_
      refine AllReady.cons (by simp only [List.getElem?_toArray, List.getElem?_cons_succ, List.getElem?_cons_zero]; rfl) (fun K hK => ?_) AllReady.nil
      go_simp
      refine (rget_any _ l _ i _ (HB.out.on hS2) HA.out i0 i1).mono ?_
      rintro e w' ⟨rfl, rfl⟩
      rw [HG.out]
      go_wp2_with fail
      try (refine hK _ _ ?_; clear hK K)
      refine take_lit (i := 14) 22 (by simp only [List.getElem?_toArray, List.getElem?_cons_succ, List.getElem?_cons_zero]; rfl) rfl (by kernel_rfl) (by kernel_rfl) (by kernel_rfl) (by exact fun _ _ _ h => h) (by rfl) (fun w => by first | (go_simp; done) | (go_simp; with_reducible rfl)) (by simp only [List.set_cons_zero, List.set_cons_succ]; rfl) ?_
      refine take_lit (i := 15) 23 (by simp only [List.getElem?_toArray, List.getElem?_cons_succ, List.getElem?_cons_zero]; rfl) rfl (by kernel_rfl) (by kernel_rfl) (by kernel_rfl) (by exact fun _ _ _ h => h) (by rfl) (fun w => by first | (go_simp; done) | (go_simp; with_reducible rfl)) (by simp only [List.set_cons_zero, List.set_cons_succ]; rfl) ?_
      refine take_lit (i := 16) 24 (by simp only [List.getElem?_toArray, List.getElem?_cons_succ, List.getElem?_cons_zero]; rfl) rfl (by kernel_rfl) (by kernel_rfl) (by kernel_rfl) (by exact fun _ _ _ h => h) (by rfl) (fun w => by first | (go_simp; done) | (go_simp; with_reducible rfl)) (by simp only [List.set_cons_zero, List.set_cons_succ]; rfl) ?_
      refine take_lit (i := 17) 25 (by simp only [List.getElem?_toArray, List.getElem?_cons_succ, List.getElem?_cons_zero]; rfl) rfl (by kernel_rfl) (by kernel_rfl) (by kernel_rfl) (by exact fun _ _ _ h => h) (by rfl) (fun w => by first | (go_simp; done) | (go_simp; with_reducible rfl)) (by simp only [List.set_cons_zero, List.set_cons_succ]; rfl) ?_
      refine take_lit (i := 18) 26 (by simp only [List.getElem?_toArray, List.getElem?_cons_succ, List.getElem?_cons_zero]; rfl) rfl (by kernel_rfl) (by kernel_rfl) (by kernel_rfl) (by exact fun _ _ _ h => h) (by rfl) (fun w => by first | (go_simp; done) | (go_simp; with_reducible rfl)) (by simp only [List.set_cons_zero, List.set_cons_succ]; rfl) ?_
      refine take_lit (i := 21) 29 (by simp only [List.getElem?_toArray, List.getElem?_cons_succ, List.getElem?_cons_zero]; rfl) rfl (by kernel_rfl) (by kernel_rfl) (by kernel_rfl) (by exact fun _ _ _ h => h) (by rfl) (fun w => by first | (go_simp; done) | (go_simp; with_reducible rfl)) (by simp only [List.set_cons_zero, List.set_cons_succ]; rfl) ?_
      refine take_lit (i := 22) 30 (by simp only [List.getElem?_toArray, List.getElem?_cons_succ, List.getElem?_cons_zero]; rfl) rfl (by kernel_rfl) (by kernel_rfl) (by kernel_rfl) (by exact fun _ _ _ h => h) (by rfl) (fun w => by first | (go_simp; done) | (go_simp; with_reducible rfl)) (by simp only [List.set_cons_zero, List.set_cons_succ]; rfl) ?_
      refine wpAny_ready (rs := [19]) (by kernel_rfl) (by simp) ?_
      refine AllReady.cons (by simp only [List.getElem?_toArray, List.getElem?_cons_succ, List.getElem?_cons_zero]; rfl) (fun K hK => ?_) AllReady.nil
      go_simp
      refine (bset_row _ l i _ (HB.out.on hS2) HA.out HLe.out i0 i1).mono ?_
      rintro e w3 ⟨rfl, hr3, hB3⟩
      rw [HL.out]
      have HY3 := Lib.hid (hr3.whole (M := len) ((setL_length _ _).trans HL.out) (by omega))
      have hcD := bytes_conv HY3.out
      have hS3 := bseq hS2 hB3
      clear hr3
      go_wp2_with fail
      try (refine hK _ _ ?_; clear hK K)
      refine wpAny_ready (rs := [20, 23]) (by kernel_rfl) (by simp) ?_
      refine AllReady.cons (by simp only [List.getElem?_toArray, List.getElem?_cons_succ, List.getElem?_cons_zero]; rfl) (fun K hK => ?_) ?_
      · go_simp
        try (refine hK _ _ ?_; clear hK K)
        refine wpAny_ready (rs := [23]) (by kernel_rfl) (by simp) ?_
        refine AllReady.cons (by simp only [List.getElem?_toArray, List.getElem?_cons_succ, List.getElem?_cons_zero]; rfl) (fun K hK => ?_) AllReady.nil
        go_simp
        refine (rset_any _ l i _ (HB.out.on hS3) HA.out HLe.out i0 i1).mono ?_
        rintro e w4 ⟨v4, rfl, hy4, hB4⟩
        have HY4 := Lib.hid hy4
        have hcE := bytes_conv (HY3.out.on hB4)
        have hcF := bytes_conv HY4.out
        have hS4 := bseq hS3 hB4
        clear hy4
        go_wp2_with fail
        try (refine hK _ _ ?_; clear hK K)
        refine wpAny_ready (rs := [24]) (by kernel_rfl) (by simp) ?_
        refine AllReady.cons (by simp only [List.getElem?_toArray, List.getElem?_cons_succ, List.getElem?_cons_zero]; rfl) (fun K hK => ?_) AllReady.nil
        go_simp
        try (refine hK _ _ ?_; clear hK K)
        refine take_lit (i := 25) 33 (by simp only [List.getElem?_toArray, List.getElem?_cons_succ, List.getElem?_cons_zero]; rfl) rfl (by kernel_rfl) (by kernel_rfl) (by kernel_rfl) (by exact fun _ _ _ h => h) (by rfl) (fun w => by first | (go_simp; done) | (go_simp; with_reducible rfl)) (by simp only [List.set_cons_zero, List.set_cons_succ]; rfl) ?_
        refine take_lit (i := 26) 34 (by simp only [List.getElem?_toArray, List.getElem?_cons_succ, List.getElem?_cons_zero]; rfl) rfl (by kernel_rfl) (by kernel_rfl) (by kernel_rfl) (by exact fun _ _ _ h => h) (by rfl) (fun w => by first | (go_simp; done) | (go_simp; with_reducible rfl)) (by simp only [List.set_cons_zero, List.set_cons_succ]; rfl) ?_
        refine take_lit (i := 27) 7 (by simp only [List.getElem?_toArray, List.getElem?_cons_succ, List.getElem?_cons_zero]; rfl) rfl (by kernel_rfl) (by kernel_rfl) (by kernel_rfl) (by exact fun _ _ _ h => h) (by rfl) (fun w => by first | (go_simp; done) | (go_simp; with_reducible rfl)) (by simp only [List.set_cons_zero, List.set_cons_succ]; rfl) ?_
        refine wpAny_done (by kernel_rfl) ?_ _
        go_wp2_with fail
        go_meet
        exact ⟨by simp, hS4⟩
      refine AllReady.cons (by simp only [List.getElem?_toArray, List.getElem?_cons_succ, List.getElem?_cons_zero]; rfl) (fun K hK => ?_) AllReady.nil
      go_simp
      refine (rset_any _ l i _ (HB.out.on hS3) HA.out HLe.out i0 i1).mono ?_
      rintro e w4 ⟨v4, rfl, hy4, hB4⟩
      have HY4 := Lib.hid hy4
      have hcE := bytes_conv (HY3.out.on hB4)
      have hcF := bytes_conv HY4.out
      have hS4 := bseq hS3 hB4
      clear hy4
      go_wp2_with fail
      try (refine hK _ _ ?_; clear hK K)
      refine wpAny_ready (rs := [20, 24]) (by kernel_rfl) (by simp) ?_
      refine AllReady.cons (by simp only [List.getElem?_toArray, List.getElem?_cons_succ, List.getElem?_cons_zero]; rfl) (fun K hK => ?_) ?_
      · go_simp
        try (refine hK _ _ ?_; clear hK K)
        refine wpAny_ready (rs := [24]) (by kernel_rfl) (by simp) ?_
        refine AllReady.cons (by simp only [List.getElem?_toArray, List.getElem?_cons_succ, List.getElem?_cons_zero]; rfl) (fun K hK => ?_) AllReady.nil
        go_simp
        try (refine hK _ _ ?_; clear hK K)
        refine take_lit (i := 25) 33 (by simp only [List.getElem?_toArray, List.getElem?_cons_succ, List.getElem?_cons_zero]; rfl) rfl (by kernel_rfl) (by kernel_rfl) (by kernel_rfl) (by exact fun _ _ _ h => h) (by rfl) (fun w => by first | (go_simp; done) | (go_simp; with_reducible rfl)) (by simp only [List.set_cons_zero, List.set_cons_succ]; rfl) ?_
        refine take_lit (i := 26) 34 (by simp only [List.getElem?_toArray, List.getElem?_cons_succ, List.getElem?_cons_zero]; rfl) rfl (by kernel_rfl) (by kernel_rfl) (by kernel_rfl) (by exact fun _ _ _ h => h) (by rfl) (fun w => by first | (go_simp; done) | (go_simp; with_reducible rfl)) (by simp only [List.set_cons_zero, List.set_cons_succ]; rfl) ?_
        refine take_lit (i := 27) 7 (by simp only [List.getElem?_toArray, List.getElem?_cons_succ, List.getElem?_cons_zero]; rfl) rfl (by kernel_rfl) (by kernel_rfl) (by kernel_rfl) (by exact fun _ _ _ h => h) (by rfl) (fun w => by first | (go_simp; done) | (go_simp; with_reducible rfl)) (by simp only [List.set_cons_zero, List.set_cons_succ]; rfl) ?_
        refine wpAny_done (by kernel_rfl) ?_ _
        go_wp2_with fail
        go_meet
        exact ⟨by simp, hS4⟩
      refine AllReady.cons (by simp only [List.getElem?_toArray, List.getElem?_cons_succ, List.getElem?_cons_zero]; rfl) (fun K hK => ?_) AllReady.nil
      go_simp
      try (refine hK _ _ ?_; clear hK K)
      refine wpAny_ready (rs := [20]) (by kernel_rfl) (by simp) ?_
      refine AllReady.cons (by simp only [List.getElem?_toArray, List.getElem?_cons_succ, List.getElem?_cons_zero]; rfl) (fun K hK => ?_) AllReady.nil
      go_simp
      try (refine hK _ _ ?_; clear hK K)
      refine take_lit (i := 25) 33 (by simp only [List.getElem?_toArray, List.getElem?_cons_succ, List.getElem?_cons_zero]; rfl) rfl (by kernel_rfl) (by kernel_rfl) (by kernel_rfl) (by exact fun _ _ _ h => h) (by rfl) (fun w => by first | (go_simp; done) | (go_simp; with_reducible rfl)) (by simp only [List.set_cons_zero, List.set_cons_succ]; rfl) ?_
      refine take_lit (i := 26) 34 (by simp only [List.getElem?_toArray, List.getElem?_cons_succ, List.getElem?_cons_zero]; rfl) rfl (by kernel_rfl) (by kernel_rfl) (by kernel_rfl) (by exact fun _ _ _ h => h) (by rfl) (fun w => by first | (go_simp; done) | (go_simp; with_reducible rfl)) (by simp only [List.set_cons_zero, List.set_cons_succ]; rfl) ?_
      refine take_lit (i := 27) 7 (by simp only [List.getElem?_toArray, List.getElem?_cons_succ, List.getElem?_cons_zero]; rfl) rfl (by kernel_rfl) (by kernel_rfl) (by kernel_rfl) (by exact fun _ _ _ h => h) (by rfl) (fun w => by first | (go_simp; done) | (go_simp; with_reducible rfl)) (by simp only [List.set_cons_zero, List.set_cons_succ]; rfl) ?_
      refine wpAny_done (by kernel_rfl) ?_ _
      go_wp2_with fail
      go_meet
      exact ⟨by simp, hS4⟩
    refine AllReady.cons (by simp only [List.getElem?_toArray, List.getElem?_cons_succ, List.getElem?_cons_zero]; rfl) (fun K hK => ?_) AllReady.nil
    go_simp
    try (refine hK _ _ ?_; clear hK K)
    refine wpAny_ready (rs := [2]) (by kernel_rfl) (by simp) ?_
    refine AllReady.cons (by simp only [List.getElem?_toArray, List.getElem?_cons_succ, List.getElem?_cons_zero]; rfl) (fun K hK => ?_) AllReady.nil
    go_simp
    try (refine hK _ _ ?_; clear hK K)
    refine take_lit (i := 6) 14 (by simp only [List.getElem?_toArray, List.getElem?_cons_succ, List.getElem?_cons_zero]; rfl) rfl (by kernel_rfl) (by kernel_rfl) (by kernel_rfl) (by exact fun _ _ _ h => h) (by rfl) (fun w => by first | (go_simp; done) | (go_simp; with_reducible rfl)) (by simp only [List.set_cons_zero, List.set_cons_succ]; rfl) ?_
    refine take_lit (i := 7) 15 (by simp only [List.getElem?_toArray, List.getElem?_cons_succ, List.getElem?_cons_zero]; rfl) rfl (by kernel_rfl) (by kernel_rfl) (by kernel_rfl) (by exact fun _ _ _ h => h) (by rfl) (fun w => by first | (go_simp; done) | (go_simp; with_reducible rfl)) (by simp only [List.set_cons_zero, List.set_cons_succ]; rfl) ?_
    refine take_lit (i := 8) 16 (by simp only [List.getElem?_toArray, List.getElem?_cons_succ, List.getElem?_cons_zero]; rfl) rfl (by kernel_rfl) (by kernel_rfl) (by kernel_rfl) (by exact fun _ _ _ h => h) (by rfl) (fun w => by first | (go_simp; done) | (go_simp; with_reducible rfl)) (by simp only [List.set_cons_zero, List.set_cons_succ]; rfl) ?_
    refine take_lit (i := 9) 17 (by simp only [List.getElem?_toArray, List.getElem?_cons_succ, List.getElem?_cons_zero]; rfl) rfl (by kernel_rfl) (by kernel_rfl) (by kernel_rfl) (by exact fun _ _ _ h => h) (by rfl) (fun w => by first | (go_simp; done) | (go_simp; with_reducible rfl)) (by simp only [List.set_cons_zero, List.set_cons_succ]; rfl) ?_
    refine take_lit (i := 11) 19 (by simp only [List.getElem?_toArray, List.getElem?_cons_succ, List.getElem?_cons_zero]; rfl) rfl (by kernel_rfl) (by kernel_rfl) (by kernel_rfl) (by exact fun _ _ _ h => h) (by rfl) (fun w => by first | (go_simp; done) | (go_simp; with_reducible rfl)) (by simp only [List.set_cons_zero, List.set_cons_succ]; rfl) ?_
    refine take_lit (i := 12) 20 (by simp only [List.getElem?_toArray, List.getElem?_cons_succ, List.getElem?_cons_zero]; rfl) rfl (by kernel_rfl) (by kernel_rfl) (by kernel_rfl) (by exact fun _ _ _ h => h) (by rfl) (fun w => by first | (go_simp; done) | (go_simp; with_reducible rfl)) (by simp only [List.set_cons_zero, List.set_cons_succ]; rfl) ?_
    refine wpAny_ready (rs := [10]) (by kernel_rfl) (by simp) ?_
    refine AllReady.cons (by simp only [List.getElem?_toArray, List.getElem?_cons_succ, List.getElem?_cons_zero]; rfl) (fun K hK => ?_) AllReady.nil
    go_simp
    refine (bget_any _ l _ i _ (HB.out.on hS2) HA.out i0 i1).mono ?_
    rintro e w' ⟨rfl, rfl⟩
    rw [HG.out]
    clear hcA hcB hcC
    go_wp2_with fail
    try (refine hK _ _ ?_; clear hK K)
    refine wpAny_ready (rs := [13]) (by kernel_rfl) (by simp) ?_
    refine AllReady.cons (by simp only [List.getElem?_toArray, List.getElem?_cons_succ, List.getElem?_cons_zero]; rfl) (fun K hK => ?_) AllReady.nil
    go_simp
    refine (rget_any _ l _ i _ (HB.out.on hS2) HA.out i0 i1).mono ?_
    rintro e w' ⟨rfl, rfl⟩
    rw [HG.out]
    go_wp2_with fail
    try (refine hK _ _ ?_; clear hK K)
    refine take_lit (i := 14) 22 (by simp only [List.getElem?_toArray, List.getElem?_cons_succ, List.getElem?_cons_zero]; rfl) rfl (by kernel_rfl) (by kernel_rfl) (by kernel_rfl) (by exact fun _ _ _ h => h) (by rfl) (fun w => by first | (go_simp; done) | (go_simp; with_reducible rfl)) (by simp only [List.set_cons_zero, List.set_cons_succ]; rfl) ?_
    refine take_lit (i := 15) 23 (by simp only [List.getElem?_toArray, List.getElem?_cons_succ, List.getElem?_cons_zero]; rfl) rfl (by kernel_rfl) (by kernel_rfl) (by kernel_rfl) (by exact fun _ _ _ h => h) (by rfl) (fun w => by first | (go_simp; done) | (go_simp; with_reducible rfl)) (by simp only [List.set_cons_zero, List.set_cons_succ]; rfl) ?_
    refine take_lit (i := 16) 24 (by simp only [List.getElem?_toArray, List.getElem?_cons_succ, List.getElem?_cons_zero]; rfl) rfl (by kernel_rfl) (by kernel_rfl) (by kernel_rfl) (by exact fun _ _ _ h => h) (by rfl) (fun w => by first | (go_simp; done) | (go_simp; with_reducible rfl)) (by simp only [List.set_cons_zero, List.set_cons_succ]; rfl) ?_
    refine take_lit (i := 17) 25 (by simp only [List.getElem?_toArray, List.getElem?_cons_succ, List.getElem?_cons_zero]; rfl) rfl (by kernel_rfl) (by kernel_rfl) (by kernel_rfl) (by exact fun _ _ _ h => h) (by rfl) (fun w => by first | (go_simp; done) | (go_simp; with_reducible rfl)) (by simp only [List.set_cons_zero, List.set_cons_succ]; rfl) ?_
    refine take_lit (i := 18) 26 (by simp only [List.getElem?_toArray, List.getElem?_cons_succ, List.getElem?_cons_zero]; rfl) rfl (by kernel_rfl) (by kernel_rfl) (by kernel_rfl) (by exact fun _ _ _ h => h) (by rfl) (fun w => by first | (go_simp; done) | (go_simp; with_reducible rfl)) (by simp only [List.set_cons_zero, List.set_cons_succ]; rfl) ?_
    refine take_lit (i := 21) 29 (by simp only [List.getElem?_toArray, List.getElem?_cons_succ, List.getElem?_cons_zero]; rfl) rfl (by kernel_rfl) (by kernel_rfl) (by kernel_rfl) (by exact fun _ _ _ h => h) (by rfl) (fun w => by first | (go_simp; done) | (go_simp; with_reducible rfl)) (by simp only [List.set_cons_zero, List.set_cons_succ]; rfl) ?_
    refine take_lit (i := 22) 30 (by simp only [List.getElem?_toArray, List.getElem?_cons_succ, List.getElem?_cons_zero]; rfl) rfl (by kernel_rfl) (by kernel_rfl) (by kernel_rfl) (by exact fun _ _ _ h => h) (by rfl) (fun w => by first | (go_simp; done) | (go_simp; with_reducible rfl)) (by simp only [List.set_cons_zero, List.set_cons_succ]; rfl) ?_
    refine wpAny_ready (rs := [19]) (by kernel_rfl) (by simp) ?_
    refine AllReady.cons (by simp only [List.getElem?_toArray, List.getElem?_cons_succ, List.getElem?_cons_zero]; rfl) (fun K hK => ?_) AllReady.nil
    go_simp
    refine (bset_row _ l i _ (HB.out.on hS2) HA.out HLe.out i0 i1).mono ?_
    rintro e w3 ⟨rfl, hr3, hB3⟩
    rw [HL.out]
    have HY3 := Lib.hid (hr3.whole (M := len) ((setL_length _ _).trans HL.out) (by omega))
    have hcD := bytes_conv HY3.out
    have hS3 := bseq hS2 hB3
    clear hr3
    go_wp2_with fail
    try (refine hK _ _ ?_; clear hK K)
    refine wpAny_ready (rs := [20, 23]) (by kernel_rfl) (by simp) ?_
    refine AllReady.cons (by simp only [List.getElem?_toArray, List.getElem?_cons_succ, List.getElem?_cons_zero]; rfl) (fun K hK => ?_) ?_
    · go_simp
      try (refine hK _ _ ?_; clear hK K)
      refine wpAny_ready (rs := [23]) (by kernel_rfl) (by simp) ?_
      refine AllReady.cons (by simp only [List.getElem?_toArray, List.getElem?_cons_succ, List.getElem?_cons_zero]; rfl) (fun K hK => ?_) AllReady.nil
      go_simp
      refine (rset_any _ l i _ (HB.out.on hS3) HA.out HLe.out i0 i1).mono ?_
      rintro e w4 ⟨v4, rfl, hy4, hB4⟩
      have HY4 := Lib.hid hy4
      have hcE := bytes_conv (HY3.out.on hB4)
      have hcF := bytes_conv HY4.out
      have hS4 := bseq hS3 hB4
      clear hy4
      go_wp2_with fail
      try (refine hK _ _ ?_; clear hK K)
      refine wpAny_ready (rs := [24]) (by kernel_rfl) (by simp) ?_
      refine AllReady.cons (by simp only [List.getElem?_toArray, List.getElem?_cons_succ, List.getElem?_cons_zero]; rfl) (fun K hK => ?_) AllReady.nil
      go_simp
      try (refine hK _ _ ?_; clear hK K)
      refine take_lit (i := 25) 33 (by simp only [List.getElem?_toArray, List.getElem?_cons_succ, List.getElem?_cons_zero]; rfl) rfl (by kernel_rfl) (by kernel_rfl) (by kernel_rfl) (by exact fun _ _ _ h => h) (by rfl) (fun w => by first | (go_simp; done) | (go_simp; with_reducible rfl)) (by simp only [List.set_cons_zero, List.set_cons_succ]; rfl) ?_
      refine take_lit (i := 26) 34 (by simp only [List.getElem?_toArray, List.getElem?_cons_succ, List.getElem?_cons_zero]; rfl) rfl (by kernel_rfl) (by kernel_rfl) (by kernel_rfl) (by exact fun _ _ _ h => h) (by rfl) (fun w => by first | (go_simp; done) | (go_simp; with_reducible rfl)) (by simp only [List.set_cons_zero, List.set_cons_succ]; rfl) ?_
      refine take_lit (i := 27) 7 (by simp only [List.getElem?_toArray, List.getElem?_cons_succ, List.getElem?_cons_zero]; rfl) rfl (by kernel_rfl) (by kernel_rfl) (by kernel_rfl) (by exact fun _ _ _ h => h) (by rfl) (fun w => by first | (go_simp; done) | (go_simp; with_reducible rfl)) (by simp only [List.set_cons_zero, List.set_cons_succ]; rfl) ?_
      refine wpAny_done (by kernel_rfl) ?_ _
      go_wp2_with fail
      go_meet
      exact ⟨by simp, hS4⟩
    refine AllReady.cons (by simp only [List.getElem?_toArray, List.getElem?_cons_succ, List.getElem?_cons_zero]; rfl) (fun K hK => ?_) AllReady.nil
    go_simp
    refine (rset_any _ l i _ (HB.out.on hS3) HA.out HLe.out i0 i1).mono ?_
    rintro e w4 ⟨v4, rfl, hy4, hB4⟩
    have HY4 := Lib.hid hy4
    have hcE := bytes_conv (HY3.out.on hB4)
    have hcF := bytes_conv HY4.out
    have hS4 := bseq hS3 hB4
    clear hy4
    go_wp2_with fail
    try (refine hK _ _ ?_; clear hK K)
    refine wpAny_ready (rs := [20, 24]) (by kernel_rfl) (by simp) ?_
    refine AllReady.cons (by simp only [List.getElem?_toArray, List.getElem?_cons_succ, List.getElem?_cons_zero]; rfl) (fun K hK => ?_) ?_
    · go_simp
      try (refine hK _ _ ?_; clear hK K)
      refine wpAny_ready (rs := [24]) (by kernel_rfl) (by simp) ?_
      refine AllReady.cons (by simp only [List.getElem?_toArray, List.getElem?_cons_succ, List.getElem?_cons_zero]; rfl) (fun K hK => ?_) AllReady.nil
      go_simp
      try (refine hK _ _ ?_; clear hK K)
      refine take_lit (i := 25) 33 (by simp only [List.getElem?_toArray, List.getElem?_cons_succ, List.getElem?_cons_zero]; rfl) rfl (by kernel_rfl) (by kernel_rfl) (by kernel_rfl) (by exact fun _ _ _ h => h) (by rfl) (fun w => by first | (go_simp; done) | (go_simp; with_reducible rfl)) (by simp only [List.set_cons_zero, List.set_cons_succ]; rfl) ?_
      refine take_lit (i := 26) 34 (by simp only [List.getElem?_toArray, List.getElem?_cons_succ, List.getElem?_cons_zero]; rfl) rfl (by kernel_rfl) (by kernel_rfl) (by kernel_rfl) (by exact fun _ _ _ h => h) (by rfl) (fun w => by first | (go_simp; done) | (go_simp; with_reducible rfl)) (by simp only [List.set_cons_zero, List.set_cons_succ]; rfl) ?_
      refine take_lit (i := 27) 7 (by simp only [List.getElem?_toArray, List.getElem?_cons_succ, List.getElem?_cons_zero]; rfl) rfl (by kernel_rfl) (by kernel_rfl) (by kernel_rfl) (by exact fun _ _ _ h => h) (by rfl) (fun w => by first | (go_simp; done) | (go_simp; with_reducible rfl)) (by simp only [List.set_cons_zero, List.set_cons_succ]; rfl) ?_
      refine wpAny_done (by kernel_rfl) ?_ _
      go_wp2_with fail
      go_meet
      exact ⟨by simp, hS4⟩
    refine AllReady.cons (by simp only [List.getElem?_toArray, List.getElem?_cons_succ, List.getElem?_cons_zero]; rfl) (fun K hK => ?_) AllReady.nil
    go_simp
    try (refine hK _ _ ?_; clear hK K)
    refine wpAny_ready (rs := [20]) (by kernel_rfl) (by simp) ?_
    refine AllReady.cons (by simp only [List.getElem?_toArray, List.getElem?_cons_succ, List.getElem?_cons_zero]; rfl) (fun K hK => ?_) AllReady.nil
    go_simp
    try (refine hK _ _ ?_; clear hK K)
    refine take_lit (i := 25) 33 (by simp only [List.getElem?_toArray, List.getElem?_cons_succ, List.getElem?_cons_zero]; rfl) rfl (by kernel_rfl) (by kernel_rfl) (by kernel_rfl) (by exact fun _ _ _ h => h) (by rfl) (fun w => by first | (go_simp; done) | (go_simp; with_reducible rfl)) (by simp only [List.set_cons_zero, List.set_cons_succ]; rfl) ?_
    refine take_lit (i := 26) 34 (by simp only [List.getElem?_toArray, List.getElem?_cons_succ, List.getElem?_cons_zero]; rfl) rfl (by kernel_rfl) (by kernel_rfl) (by kernel_rfl) (by exact fun _ _ _ h => h) (by rfl) (fun w => by first | (go_simp; done) | (go_simp; with_reducible rfl)) (by simp only [List.set_cons_zero, List.set_cons_succ]; rfl) ?_
    refine take_lit (i := 27) 7 (by simp only [List.getElem?_toArray, List.getElem?_cons_succ, List.getElem?_cons_zero]; rfl) rfl (by kernel_rfl) (by kernel_rfl) (by kernel_rfl) (by exact fun _ _ _ h => h) (by rfl) (fun w => by first | (go_simp; done) | (go_simp; with_reducible rfl)) (by simp only [List.set_cons_zero, List.set_cons_succ]; rfl) ?_
    refine wpAny_done (by kernel_rfl) ?_ _
    go_wp2_with fail
    go_meet
    exact ⟨by simp, hS4⟩

end Go.Proofs.Ytdphkgknjgdjoaa
