/-
  Layer 7's laws: what 'asks' answers of any arena of a modest size: true; and nothing that was there is written.
-/
import Derived.Test.YthinhknfiaohlaaArLawsA
import Derived.Test.YthinhknfiaohlaaBytesStr
import Derived.Test.YthinhknfiaohlaaRegionStep
namespace Go.Proofs.Ythinhknfiaohlaa
open Go.RowKit Go.Deep

theorem wordE7_bd (ls : List (List Int)) (g a : Int) : wordE7 ls g a = 0 ∨ wordE7 ls g a = 20 := by unfold wordE7; split <;> simp
set_option maxRecDepth 100000 in
set_option maxHeartbeats 8000000 in
theorem asks7_any {K : World → Prop} (T : ArenaOK K) (v : Value) (ls : List (List Int)) (g a : Int) (w : World) (h : ArV w w.heap.size v ls) (hs : Sm ls) (g1 : In64 g) (a1 : In64 a) (hK : K w) :
    Calls Try.prog 13 #[v, .int .i64 g, .int .i64 a] w fun e w' => e = .returned (.bool true) ∧ Below w.heap.size w w' := by
  have HT := Lib.hid T
  have HK := Lib.hid hK
  have HV := Lib.hid h
  have HS := Lib.hid hs
  have HG := Lib.hid g1
  have HA := Lib.hid a1
  have HLe : Hid (ls.length ≤ 1000000000000 ∧ (sizesL ls).sum ≤ 1000000000000) := Lib.hid (by have := hs.1; have := hs.2.1; omega)
  have HE := Lib.hid (wordE7_bd ls g a)
  obtain ⟨A, c, rfl, -⟩ := h
  obtain ⟨len, hn⟩ : ∃ n, n = ls.length := ⟨_, rfl⟩
  rw [← hn] at HV ⊢
  obtain ⟨X, hX⟩ : ∃ X, wordA ls g a = X := ⟨_, rfl⟩
  obtain ⟨E, hE⟩ : ∃ X, wordE7 ls g a = X := ⟨_, rfl⟩
  have HXe := Lib.hid hX
  have HEe := Lib.hid hE
  rw [hE] at HE
  obtain ⟨F, hF⟩ : ∃ X, fitsL (sizesL ls) = X := ⟨_, rfl⟩
  have HFe := Lib.hid hF
  obtain ⟨S, hSu⟩ : ∃ X, (sizesL ls).sum = X := ⟨_, rfl⟩
  have HSu := Lib.hid hSu
  have HSz : Hid ((sizesL ls).length ≤ 1000000000000) := Lib.hid (by rw [sizesL_length]; exact HLe.out.1)
  have HSa : Hid (sameN (sizesL ls) (sizesL ls) = true) := Lib.hid (decide_eq_true rfl)
  clear T hK hs g1 a1 hn hX hE hF hSu
  have d0 : (X == X) = true := by simp
  have d1 : (F == F) = true := by simp
  have d2 : (S == S) = true := by simp
  rcases HE.out with rfl | rfl
  all_goals
    go_enter Try.func13, Try.ntmps13
    go_wp2_with fail
    refine (HT.out.word _ ls g a w HV.out HS.out HG.out HA.out HK.out).mono ?_
    rintro e w1 ⟨rfl, hB1⟩
    rw [HXe.out, HEe.out]
    go_wp2_with fail
    refine (rword7_any _ ls g a w1 (HV.out.on hB1) HLe.out.1).mono ?_
    rintro e w2 ⟨rfl, hB2⟩
    rw [HXe.out, HEe.out]
    have hC2 := bsq hB1 hB2
    go_wp2_with fail
    have hS0 : Below w.heap.size w w2.drew := hC2.drew
    refine wp_region_any (by kernel_rfl) ?_
    change wpAny _ _ _ _ _ _ _ (World.drew _)
    refine take_lit (i := 0) 25 (by simp only [List.getElem?_toArray, List.getElem?_cons_zero]; rfl) rfl (by kernel_rfl) (by kernel_rfl) (by kernel_rfl) (by exact fun _ _ _ h => h) (by rfl) (fun w => by first | (go_simp; done) | (go_simp; with_reducible rfl)) (by simp only [List.set_cons_zero, List.set_cons_succ]; rfl) ?_
    refine take_lit (i := 2) 27 (by simp only [List.getElem?_toArray, List.getElem?_cons_succ, List.getElem?_cons_zero]; rfl) rfl (by kernel_rfl) (by kernel_rfl) (by kernel_rfl) (by exact fun _ _ _ h => h) (by rfl) (fun w => by first | (go_simp; done) | (go_simp; with_reducible rfl)) (by simp only [List.set_cons_zero, List.set_cons_succ]; rfl) ?_
    refine wpAny_ready (rs := [1]) (by kernel_rfl) (by simp) ?_
    refine AllReady.cons (by simp only [List.getElem?_toArray, List.getElem?_cons_succ, List.getElem?_cons_zero]; rfl) (fun K hK => ?_) AllReady.nil
    go_simp
    refine (HT.out.right _ ls _ (HV.out.on hS0) HS.out (HT.out.on HK.out hS0)).mono ?_
    rintro e w3 ⟨rfl, hB3⟩
    rw [HFe.out]
    have hS1 := bsq hS0 hB3
    go_wp2_with fail
    try (refine hK _ _ ?_; clear hK K)
    refine wpAny_ready (rs := [3]) (by kernel_rfl) (by simp) ?_
    refine AllReady.cons (by simp only [List.getElem?_toArray, List.getElem?_cons_succ, List.getElem?_cons_zero]; rfl) (fun K hK => ?_) AllReady.nil
    go_simp
    refine (rright7_any _ ls _ (HV.out.on hS1) HLe.out.1).mono ?_
    rintro e w4 ⟨rfl, hB4⟩
    rw [HFe.out]
    have hS2 := bsq hS1 hB4
    go_wp2_with fail
    try (refine hK _ _ ?_; clear hK K)
    refine take_lit (i := 4) 29 (by simp only [List.getElem?_toArray, List.getElem?_cons_succ, List.getElem?_cons_zero]; rfl) rfl (by kernel_rfl) (by kernel_rfl) (by kernel_rfl) (by exact fun _ _ _ h => h) (by rfl) (fun w => by first | (go_simp; done) | (go_simp; with_reducible rfl)) (by simp only [List.set_cons_zero, List.set_cons_succ]; rfl) ?_
    refine take_lit (i := 5) 30 (by simp only [List.getElem?_toArray, List.getElem?_cons_succ, List.getElem?_cons_zero]; rfl) rfl (by kernel_rfl) (by kernel_rfl) (by kernel_rfl) (by exact fun _ _ _ h => h) (by rfl) (fun w => by first | (go_simp; done) | (go_simp; with_reducible rfl)) (by simp only [List.set_cons_zero, List.set_cons_succ]; rfl) ?_
    refine take_lit (i := 6) 31 (by simp only [List.getElem?_toArray, List.getElem?_cons_succ, List.getElem?_cons_zero]; rfl) rfl (by kernel_rfl) (by kernel_rfl) (by kernel_rfl) (by exact fun _ _ _ h => h) (by rfl) (fun w => by first | (go_simp; done) | (go_simp; with_reducible rfl)) (by simp only [List.set_cons_zero, List.set_cons_succ]; rfl) ?_
    refine take_lit (i := 8) 33 (by simp only [List.getElem?_toArray, List.getElem?_cons_succ, List.getElem?_cons_zero]; rfl) rfl (by kernel_rfl) (by kernel_rfl) (by kernel_rfl) (by exact fun _ _ _ h => h) (by rfl) (fun w => by first | (go_simp; done) | (go_simp; with_reducible rfl)) (by simp only [List.set_cons_zero, List.set_cons_succ]; rfl) ?_
    refine wpAny_ready (rs := [7]) (by kernel_rfl) (by simp) ?_
    refine AllReady.cons (by simp only [List.getElem?_toArray, List.getElem?_cons_succ, List.getElem?_cons_zero]; rfl) (fun K hK => ?_) AllReady.nil
    go_simp
    refine (HT.out.sizes _ ls _ (HV.out.on hS2) HS.out (HT.out.on HK.out hS2)).mono ?_
    rintro e w5 ⟨u5, rfl, ho5, hB5⟩
    have HN5 := Lib.hid (OwnN.numS ho5)
    have hS3 := bsq hS2 hB5
    clear ho5
    go_wp2_with fail
    try (refine hK _ _ ?_; clear hK K)
    refine wpAny_ready (rs := [9]) (by kernel_rfl) (by simp) ?_
    refine AllReady.cons (by simp only [List.getElem?_toArray, List.getElem?_cons_succ, List.getElem?_cons_zero]; rfl) (fun K hK => ?_) AllReady.nil
    go_simp
    refine (rsizes_any _ ls _ (HV.out.on hS3) HLe.out.1).mono ?_
    rintro e w6 ⟨u6, rfl, ho6, hB6⟩
    have HN6 := Lib.hid (OwnN.numS ho6)
    have HN5b := Lib.hid (HN5.out.on hB6)
    have hS4 := bsq hS3 hB6
    clear ho6
    go_wp2_with fail
    try (refine hK _ _ ?_; clear hK K)
    refine wpAny_ready (rs := [10]) (by kernel_rfl) (by simp) ?_
    refine AllReady.cons (by simp only [List.getElem?_toArray, List.getElem?_cons_succ, List.getElem?_cons_zero]; rfl) (fun K hK => ?_) AllReady.nil
    go_simp
    refine (rsame_any _ _ (sizesL ls) (sizesL ls) _ _ _ HN5b.out HN6.out HSz.out).mono ?_
    rintro e w7 ⟨rfl, hB7⟩
    rw [HSa.out]
    have hS5 := bsq hS4 hB7
    go_wp2_with fail
    try (refine hK _ _ ?_; clear hK K)
    refine take_lit (i := 11) 36 (by simp only [List.getElem?_toArray, List.getElem?_cons_succ, List.getElem?_cons_zero]; rfl) rfl (by kernel_rfl) (by kernel_rfl) (by kernel_rfl) (by exact fun _ _ _ h => h) (by rfl) (fun w => by first | (go_simp; done) | (go_simp; with_reducible rfl)) (by simp only [List.set_cons_zero, List.set_cons_succ]; rfl) ?_
    refine take_lit (i := 12) 37 (by simp only [List.getElem?_toArray, List.getElem?_cons_succ, List.getElem?_cons_zero]; rfl) rfl (by kernel_rfl) (by kernel_rfl) (by kernel_rfl) (by exact fun _ _ _ h => h) (by rfl) (fun w => by first | (go_simp; done) | (go_simp; with_reducible rfl)) (by simp only [List.set_cons_zero, List.set_cons_succ]; rfl) ?_
    refine take_lit (i := 13) 38 (by simp only [List.getElem?_toArray, List.getElem?_cons_succ, List.getElem?_cons_zero]; rfl) rfl (by kernel_rfl) (by kernel_rfl) (by kernel_rfl) (by exact fun _ _ _ h => h) (by rfl) (fun w => by first | (go_simp; done) | (go_simp; with_reducible rfl)) (by simp only [List.set_cons_zero, List.set_cons_succ]; rfl) ?_
    refine take_lit (i := 15) 40 (by simp only [List.getElem?_toArray, List.getElem?_cons_succ, List.getElem?_cons_zero]; rfl) rfl (by kernel_rfl) (by kernel_rfl) (by kernel_rfl) (by exact fun _ _ _ h => h) (by rfl) (fun w => by first | (go_simp; done) | (go_simp; with_reducible rfl)) (by simp only [List.set_cons_zero, List.set_cons_succ]; rfl) ?_
    refine wpAny_ready (rs := [14]) (by kernel_rfl) (by simp) ?_
    refine AllReady.cons (by simp only [List.getElem?_toArray, List.getElem?_cons_succ, List.getElem?_cons_zero]; rfl) (fun K hK => ?_) AllReady.nil
    go_simp
    refine (HT.out.words _ ls _ (HV.out.on hS5) HS.out (HT.out.on HK.out hS5)).mono ?_
    rintro e w8 ⟨rfl, hB8⟩
    rw [HSu.out]
    have hS6 := bsq hS5 hB8
    go_wp2_with fail
    try (refine hK _ _ ?_; clear hK K)
    refine wpAny_ready (rs := [16]) (by kernel_rfl) (by simp) ?_
    refine AllReady.cons (by simp only [List.getElem?_toArray, List.getElem?_cons_succ, List.getElem?_cons_zero]; rfl) (fun K hK => ?_) AllReady.nil
    go_simp
    refine (rwords7_any _ ls _ _ (HV.out.on hS6) HLe.out.2).mono ?_
    rintro e w' ⟨rfl, rfl⟩
    rw [HSu.out]
    go_wp2_with fail
    try (refine hK _ _ ?_; clear hK K)
    refine take_lit (i := 17) 42 (by simp only [List.getElem?_toArray, List.getElem?_cons_succ, List.getElem?_cons_zero]; rfl) rfl (by kernel_rfl) (by kernel_rfl) (by kernel_rfl) (by exact fun _ _ _ h => h) (by rfl) (fun w => by first | (go_simp; done) | (go_simp; with_reducible rfl)) (by simp only [List.set_cons_zero, List.set_cons_succ]; rfl) ?_
    refine take_lit (i := 18) 43 (by simp only [List.getElem?_toArray, List.getElem?_cons_succ, List.getElem?_cons_zero]; rfl) rfl (by kernel_rfl) (by kernel_rfl) (by kernel_rfl) (by exact fun _ _ _ h => h) (by rfl) (fun w => by first | (go_simp; done) | (go_simp; with_reducible rfl)) (by simp only [List.set_cons_zero, List.set_cons_succ]; rfl) ?_
    refine take_lit (i := 19) 44 (by simp only [List.getElem?_toArray, List.getElem?_cons_succ, List.getElem?_cons_zero]; rfl) rfl (by kernel_rfl) (by kernel_rfl) (by kernel_rfl) (by exact fun _ _ _ h => h) (by rfl) (fun w => by first | (go_simp; done) | (go_simp; with_reducible rfl)) (by simp only [List.set_cons_zero, List.set_cons_succ]; rfl) ?_
    refine take_lit (i := 20) 45 (by simp only [List.getElem?_toArray, List.getElem?_cons_succ, List.getElem?_cons_zero]; rfl) rfl (by kernel_rfl) (by kernel_rfl) (by kernel_rfl) (by exact fun _ _ _ h => h) (by rfl) (fun w => by first | (go_simp; done) | (go_simp; with_reducible rfl)) (by simp only [List.set_cons_zero, List.set_cons_succ]; rfl) ?_
    refine take_lit (i := 21) 46 (by simp only [List.getElem?_toArray, List.getElem?_cons_succ, List.getElem?_cons_zero]; rfl) rfl (by kernel_rfl) (by kernel_rfl) (by kernel_rfl) (by exact fun _ _ _ h => h) (by rfl) (fun w => by first | (go_simp; done) | (go_simp; with_reducible rfl)) (by simp only [List.set_cons_zero, List.set_cons_succ]; rfl) ?_
    refine take_lit (i := 22) 47 (by simp only [List.getElem?_toArray, List.getElem?_cons_succ, List.getElem?_cons_zero]; rfl) rfl (by kernel_rfl) (by kernel_rfl) (by kernel_rfl) (by exact fun _ _ _ h => h) (by rfl) (fun w => by first | (go_simp; done) | (go_simp; with_reducible rfl)) (by simp only [List.set_cons_zero, List.set_cons_succ]; rfl) ?_
    refine take_lit (i := 23) 48 (by simp only [List.getElem?_toArray, List.getElem?_cons_succ, List.getElem?_cons_zero]; rfl) rfl (by kernel_rfl) (by kernel_rfl) (by kernel_rfl) (by exact fun _ _ _ h => h) (by rfl) (fun w => by first | (go_simp; done) | (go_simp; with_reducible rfl)) (by simp only [List.set_cons_zero, List.set_cons_succ]; rfl) ?_
    refine take_lit (i := 24) 49 (by simp only [List.getElem?_toArray, List.getElem?_cons_succ, List.getElem?_cons_zero]; rfl) rfl (by kernel_rfl) (by kernel_rfl) (by kernel_rfl) (by exact fun _ _ _ h => h) (by rfl) (fun w => by first | (go_simp; done) | (go_simp; with_reducible rfl)) (by simp only [List.set_cons_zero, List.set_cons_succ]; rfl) ?_
    refine take_lit (i := 25) 50 (by simp only [List.getElem?_toArray, List.getElem?_cons_succ, List.getElem?_cons_zero]; rfl) rfl (by kernel_rfl) (by kernel_rfl) (by kernel_rfl) (by exact fun _ _ _ h => h) (by rfl) (fun w => by first | (go_simp; done) | (go_simp; with_reducible rfl)) (by simp only [List.set_cons_zero, List.set_cons_succ]; rfl) ?_
    refine take_lit (i := 26) 51 (by simp only [List.getElem?_toArray, List.getElem?_cons_succ, List.getElem?_cons_zero]; rfl) rfl (by kernel_rfl) (by kernel_rfl) (by kernel_rfl) (by exact fun _ _ _ h => h) (by rfl) (fun w => by first | (go_simp; done) | (go_simp; with_reducible rfl)) (by simp only [List.set_cons_zero, List.set_cons_succ]; rfl) ?_
    refine take_lit (i := 27) 52 (by simp only [List.getElem?_toArray, List.getElem?_cons_succ, List.getElem?_cons_zero]; rfl) rfl (by kernel_rfl) (by kernel_rfl) (by kernel_rfl) (by exact fun _ _ _ h => h) (by rfl) (fun w => by first | (go_simp; done) | (go_simp; with_reducible rfl)) (by simp only [List.set_cons_zero, List.set_cons_succ]; rfl) ?_
    refine take_lit (i := 28) 53 (by simp only [List.getElem?_toArray, List.getElem?_cons_succ, List.getElem?_cons_zero]; rfl) rfl (by kernel_rfl) (by kernel_rfl) (by kernel_rfl) (by exact fun _ _ _ h => h) (by rfl) (fun w => by first | (go_simp; done) | (go_simp; with_reducible rfl)) (by simp only [List.set_cons_zero, List.set_cons_succ]; rfl) ?_
    refine take_lit (i := 29) 54 (by simp only [List.getElem?_toArray, List.getElem?_cons_succ, List.getElem?_cons_zero]; rfl) rfl (by kernel_rfl) (by kernel_rfl) (by kernel_rfl) (by exact fun _ _ _ h => h) (by rfl) (fun w => by first | (go_simp; done) | (go_simp; with_reducible rfl)) (by simp only [List.set_cons_zero, List.set_cons_succ]; rfl) ?_
    refine take_lit (i := 30) 55 (by simp only [List.getElem?_toArray, List.getElem?_cons_succ, List.getElem?_cons_zero]; rfl) rfl (by kernel_rfl) (by kernel_rfl) (by kernel_rfl) (by exact fun _ _ _ h => h) (by rfl) (fun w => by first | (go_simp; done) | (go_simp; with_reducible rfl)) (by simp only [List.set_cons_zero, List.set_cons_succ]; rfl) ?_
    refine take_lit (i := 31) 56 (by simp only [List.getElem?_toArray, List.getElem?_cons_succ, List.getElem?_cons_zero]; rfl) rfl (by kernel_rfl) (by kernel_rfl) (by kernel_rfl) (by exact fun _ _ _ h => h) (by rfl) (fun w => by first | (go_simp; done) | (go_simp; with_reducible rfl)) (by simp only [List.set_cons_zero, List.set_cons_succ]; rfl) ?_
    refine take_lit (i := 34) 59 (by simp only [List.getElem?_toArray, List.getElem?_cons_succ, List.getElem?_cons_zero]; rfl) rfl (by kernel_rfl) (by kernel_rfl) (by kernel_rfl) (by exact fun _ _ _ h => h) (by rfl) (fun w => by first | (go_simp; done) | (go_simp; with_reducible rfl)) (by simp only [List.set_cons_zero, List.set_cons_succ]; rfl) ?_
    refine wpAny_ready (rs := [32]) (by kernel_rfl) (by simp) ?_
    refine AllReady.cons (by simp only [List.getElem?_toArray, List.getElem?_cons_succ, List.getElem?_cons_zero]; rfl) (fun K hK => ?_) AllReady.nil
    go_simp
    refine (HT.out.bytes _ ls _ (HV.out.on hS6) HS.out (HT.out.on HK.out hS6)).mono ?_
    rintro e w9 ⟨u9, rfl, ho9, hB9⟩
    have HY9 := Lib.hid ho9.bytes
    have hcA := bytes_conv HY9.out
    have hS7 := bsq hS6 hB9
    clear ho9
    go_wp2_with fail
    try (refine hK _ _ ?_; clear hK K)
    refine wpAny_ready (rs := [33, 35]) (by kernel_rfl) (by simp) ?_
    refine AllReady.cons (by simp only [List.getElem?_toArray, List.getElem?_cons_succ, List.getElem?_cons_zero]; rfl) (fun K hK => ?_) ?_
    · go_simp
      try (refine hK _ _ ?_; clear hK K)
      refine wpAny_ready (rs := [35]) (by kernel_rfl) (by simp) ?_
      refine AllReady.cons (by simp only [List.getElem?_toArray, List.getElem?_cons_succ, List.getElem?_cons_zero]; rfl) (fun K hK => ?_) AllReady.nil
      go_simp
      refine (rbytes7_any _ ls _ (HV.out.on hS7) HS.out.2.2 HLe.out.2).mono ?_
      rintro e wA ⟨uA, rfl, hoA, hBA⟩
      have HYA := Lib.hid hoA.bytes
      have hcB := bytes_conv (HY9.out.on hBA)
      have hcC := bytes_conv HYA.out
      have hS8 := bsq hS7 hBA
      clear hoA
      go_wp2_with fail
      try (refine hK _ _ ?_; clear hK K)
      refine wpAny_ready (rs := [36]) (by kernel_rfl) (by simp) ?_
      refine AllReady.cons (by simp only [List.getElem?_toArray, List.getElem?_cons_succ, List.getElem?_cons_zero]; rfl) (fun K hK => ?_) AllReady.nil
      go_simp
      try (refine hK _ _ ?_; clear hK K)
      refine take_lit (i := 37) 62 (by simp only [List.getElem?_toArray, List.getElem?_cons_succ, List.getElem?_cons_zero]; rfl) rfl (by kernel_rfl) (by kernel_rfl) (by kernel_rfl) (by exact fun _ _ _ h => h) (by rfl) (fun w => by first | (go_simp; done) | (go_simp; with_reducible rfl)) (by simp only [List.set_cons_zero, List.set_cons_succ]; rfl) ?_
      refine take_lit (i := 38) 63 (by simp only [List.getElem?_toArray, List.getElem?_cons_succ, List.getElem?_cons_zero]; rfl) rfl (by kernel_rfl) (by kernel_rfl) (by kernel_rfl) (by exact fun _ _ _ h => h) (by rfl) (fun w => by first | (go_simp; done) | (go_simp; with_reducible rfl)) (by simp only [List.set_cons_zero, List.set_cons_succ]; rfl) ?_
      refine take_lit (i := 39) 6 (by simp only [List.getElem?_toArray, List.getElem?_cons_succ, List.getElem?_cons_zero]; rfl) rfl (by kernel_rfl) (by kernel_rfl) (by kernel_rfl) (by exact fun _ _ _ h => h) (by rfl) (fun w => by first | (go_simp; done) | (go_simp; with_reducible rfl)) (by simp only [List.set_cons_zero, List.set_cons_succ]; rfl) ?_
      refine wpAny_done (by kernel_rfl) ?_ _
      go_wp2_with fail
      go_ret
      exact ⟨by first | (simp; done) | (simp; decide), hS8⟩
    refine AllReady.cons (by simp only [List.getElem?_toArray, List.getElem?_cons_succ, List.getElem?_cons_zero]; rfl) (fun K hK => ?_) AllReady.nil
    go_simp
    refine (rbytes7_any _ ls _ (HV.out.on hS7) HS.out.2.2 HLe.out.2).mono ?_
    rintro e wA ⟨uA, rfl, hoA, hBA⟩
    have HYA := Lib.hid hoA.bytes
    have hcB := bytes_conv (HY9.out.on hBA)
    have hcC := bytes_conv HYA.out
    have hS8 := bsq hS7 hBA
    clear hoA
    go_wp2_with fail
    try (refine hK _ _ ?_; clear hK K)
    refine wpAny_ready (rs := [33, 36]) (by kernel_rfl) (by simp) ?_
    refine AllReady.cons (by simp only [List.getElem?_toArray, List.getElem?_cons_succ, List.getElem?_cons_zero]; rfl) (fun K hK => ?_) ?_
    · go_simp
      try (refine hK _ _ ?_; clear hK K)
      refine wpAny_ready (rs := [36]) (by kernel_rfl) (by simp) ?_
      refine AllReady.cons (by simp only [List.getElem?_toArray, List.getElem?_cons_succ, List.getElem?_cons_zero]; rfl) (fun K hK => ?_) AllReady.nil
      go_simp
      try (refine hK _ _ ?_; clear hK K)
      refine take_lit (i := 37) 62 (by simp only [List.getElem?_toArray, List.getElem?_cons_succ, List.getElem?_cons_zero]; rfl) rfl (by kernel_rfl) (by kernel_rfl) (by kernel_rfl) (by exact fun _ _ _ h => h) (by rfl) (fun w => by first | (go_simp; done) | (go_simp; with_reducible rfl)) (by simp only [List.set_cons_zero, List.set_cons_succ]; rfl) ?_
      refine take_lit (i := 38) 63 (by simp only [List.getElem?_toArray, List.getElem?_cons_succ, List.getElem?_cons_zero]; rfl) rfl (by kernel_rfl) (by kernel_rfl) (by kernel_rfl) (by exact fun _ _ _ h => h) (by rfl) (fun w => by first | (go_simp; done) | (go_simp; with_reducible rfl)) (by simp only [List.set_cons_zero, List.set_cons_succ]; rfl) ?_
      refine take_lit (i := 39) 6 (by simp only [List.getElem?_toArray, List.getElem?_cons_succ, List.getElem?_cons_zero]; rfl) rfl (by kernel_rfl) (by kernel_rfl) (by kernel_rfl) (by exact fun _ _ _ h => h) (by rfl) (fun w => by first | (go_simp; done) | (go_simp; with_reducible rfl)) (by simp only [List.set_cons_zero, List.set_cons_succ]; rfl) ?_
      refine wpAny_done (by kernel_rfl) ?_ _
      go_wp2_with fail
      go_ret
      exact ⟨by first | (simp; done) | (simp; decide), hS8⟩
    refine AllReady.cons (by simp only [List.getElem?_toArray, List.getElem?_cons_succ, List.getElem?_cons_zero]; rfl) (fun K hK => ?_) AllReady.nil
    go_simp
    try (refine hK _ _ ?_; clear hK K)
    refine wpAny_ready (rs := [33]) (by kernel_rfl) (by simp) ?_
    refine AllReady.cons (by simp only [List.getElem?_toArray, List.getElem?_cons_succ, List.getElem?_cons_zero]; rfl) (fun K hK => ?_) AllReady.nil
    go_simp
    try (refine hK _ _ ?_; clear hK K)
    refine take_lit (i := 37) 62 (by simp only [List.getElem?_toArray, List.getElem?_cons_succ, List.getElem?_cons_zero]; rfl) rfl (by kernel_rfl) (by kernel_rfl) (by kernel_rfl) (by exact fun _ _ _ h => h) (by rfl) (fun w => by first | (go_simp; done) | (go_simp; with_reducible rfl)) (by simp only [List.set_cons_zero, List.set_cons_succ]; rfl) ?_
    refine take_lit (i := 38) 63 (by simp only [List.getElem?_toArray, List.getElem?_cons_succ, List.getElem?_cons_zero]; rfl) rfl (by kernel_rfl) (by kernel_rfl) (by kernel_rfl) (by exact fun _ _ _ h => h) (by rfl) (fun w => by first | (go_simp; done) | (go_simp; with_reducible rfl)) (by simp only [List.set_cons_zero, List.set_cons_succ]; rfl) ?_
    refine take_lit (i := 39) 6 (by simp only [List.getElem?_toArray, List.getElem?_cons_succ, List.getElem?_cons_zero]; rfl) rfl (by kernel_rfl) (by kernel_rfl) (by kernel_rfl) (by exact fun _ _ _ h => h) (by rfl) (fun w => by first | (go_simp; done) | (go_simp; with_reducible rfl)) (by simp only [List.set_cons_zero, List.set_cons_succ]; rfl) ?_
    refine wpAny_done (by kernel_rfl) ?_ _
    go_wp2_with fail
    go_ret
    exact ⟨by first | (simp; done) | (simp; decide), hS8⟩

end Go.Proofs.Ythinhknfiaohlaa
