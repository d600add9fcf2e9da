/-
  The walk of layer 2's law CrcSums: it returns true, and writes nothing that was there.
-/
import Derived.Test.YtgemllmfbglkhaaCrcRightR
import Derived.Test.YtgemllmfbglkhaaCrcKnown
import Derived.Test.YtgemllmfbglkhaaRegionStep
namespace Go.Proofs.Ytgemllmfbglkhaa
open Go.RowKit Go.Deep

set_option maxRecDepth 100000 in
set_option maxHeartbeats 16000000 in
theorem sums2_walk (n k : Nat) (A : Option Addr) (len cap : Nat) (l : List Int) (w : World) (hn : n < 4294967296) (hk : k < 256) (hlen : l.length = len) (hl : AllB l) (hb : Bytes w w.heap.size (.slice A len cap) l) :
    Calls Try.prog 3 #[.int .u32 n, .slice A len cap, .int .u8 k] w fun e w' => e = .returned (.bool true) ∧ Below w.heap.size w w' := by
  have HB := Lib.hid hb
  have HL := Lib.hid hlen
  by_cases hlong : 500 < len
  · clear hb hlen
    go_enter Try.func3, Try.ntmps3
    go_wp2_with (go_at_call 10; refine (known_any _).mono ?_; rintro e w1 ⟨rfl, hB⟩)
    go_ret
    exact ⟨rfl, hB⟩
  · clear hb hlen
    have hd1 : decide (500 < (len : Int)) = false := decide_eq_false (by omega)
    have HLe : Hid (l.length ≤ 1000000) := Lib.hid (by rw [HL.out]; omega)
    have HSl : Hid ((sealL l).length = len + 4) := Lib.hid (by rw [sealL_length, HL.out])
    have HSB := Lib.hid (sealL_AllB hl)
    have HR := Lib.hid (rightB_seal hl)
    go_enter Try.func3, Try.ntmps3
    go_wp2_with fail
    refine (known_any _).mono ?_
    rintro e w1 ⟨rfl, hB1⟩
    go_wp2_with fail
    refine (table_any w1).mono ?_
    rintro e w2 ⟨rfl, hT2, hB2⟩
    have HT2 := Lib.hid hT2
    have hcell := hT2.2 k hk
    have HB2 := Lib.hid ((HB.out.on hB1).on hB2)
    have k0 : (0 : Int) ≤ (k : Int) := by omega
    have k1 : (k : Int) < 256 := by omega
    clear hT2
    go_wp2_with fail
    go_region_held3 (fun w' => w'.cell? ⟨w1.heap.size, k, none⟩ = some (.int .u32 (Ts 8 k : Nat))) (go_keep) (first | (go_at_call 12; refine (eight_any k _ hk).mono ?_; rintro e w' ⟨rfl, rfl⟩))
    go_wp2_with fail
    clear hcell
    have hS0 : Below w2.heap.size w2 w2.drew.drew := (Below.refl _ _).drew.drew
    refine wp_region_any (by kernel_rfl) ?_
    change wpAny _ _ _ _ _ _ _ (World.drew _)
    refine take_lit (i := 0) 29 (by simp only [List.getElem?_toArray, List.getElem?_cons_zero]; rfl) rfl (by kernel_rfl) (by kernel_rfl) (by kernel_rfl) (by exact fun _ _ _ h => h) (by rfl) (fun w => by first | (go_simp; done) | (go_simp; with_reducible rfl)) (by simp only [List.set_cons_zero, List.set_cons_succ]; rfl) ?_
    refine take_lit (i := 2) 31 (by simp only [List.getElem?_toArray, List.getElem?_cons_succ, List.getElem?_cons_zero]; rfl) rfl (by kernel_rfl) (by kernel_rfl) (by kernel_rfl) (by exact fun _ _ _ h => h) (by rfl) (fun w => by first | (go_simp; done) | (go_simp; with_reducible rfl)) (by simp only [List.set_cons_zero, List.set_cons_succ]; rfl) ?_
    refine wpAny_ready (rs := [1]) (by kernel_rfl) (by simp) ?_
    refine AllReady.cons (by simp only [List.getElem?_toArray, List.getElem?_cons_succ, List.getElem?_cons_zero]; rfl) (fun K hK => ?_) AllReady.nil
    go_simp
    refine (step_any n _ hn).mono ?_
    rintro e w' ⟨rfl, rfl⟩
    go_wp2_with fail
    try (refine hK _ _ ?_; clear hK K)
    refine wpAny_ready (rs := [3]) (by kernel_rfl) (by simp) ?_
    refine AllReady.cons (by simp only [List.getElem?_toArray, List.getElem?_cons_succ, List.getElem?_cons_zero]; rfl) (fun K hK => ?_) AllReady.nil
    go_simp
    refine (stepr_any n _ hn).mono ?_
    rintro e w' ⟨rfl, rfl⟩
    go_wp2_with fail
    try (refine hK _ _ ?_; clear hK K)
    refine take_lit (i := 4) 33 (by simp only [List.getElem?_toArray, List.getElem?_cons_succ, List.getElem?_cons_zero]; rfl) rfl (by kernel_rfl) (by kernel_rfl) (by kernel_rfl) (by exact fun _ _ _ h => h) (by rfl) (fun w => by first | (go_simp; done) | (go_simp; with_reducible rfl)) (by simp only [List.set_cons_zero, List.set_cons_succ]; rfl) ?_
    refine take_lit (i := 5) 34 (by simp only [List.getElem?_toArray, List.getElem?_cons_succ, List.getElem?_cons_zero]; rfl) rfl (by kernel_rfl) (by kernel_rfl) (by kernel_rfl) (by exact fun _ _ _ h => h) (by rfl) (fun w => by first | (go_simp; done) | (go_simp; with_reducible rfl)) (by simp only [List.set_cons_zero, List.set_cons_succ]; rfl) ?_
    refine take_lit (i := 6) 35 (by simp only [List.getElem?_toArray, List.getElem?_cons_succ, List.getElem?_cons_zero]; rfl) rfl (by kernel_rfl) (by kernel_rfl) (by kernel_rfl) (by exact fun _ _ _ h => h) (by rfl) (fun w => by first | (go_simp; done) | (go_simp; with_reducible rfl)) (by simp only [List.set_cons_zero, List.set_cons_succ]; rfl) ?_
    refine take_lit (i := 7) 36 (by simp only [List.getElem?_toArray, List.getElem?_cons_succ, List.getElem?_cons_zero]; rfl) rfl (by kernel_rfl) (by kernel_rfl) (by kernel_rfl) (by exact fun _ _ _ h => h) (by rfl) (fun w => by first | (go_simp; done) | (go_simp; with_reducible rfl)) (by simp only [List.set_cons_zero, List.set_cons_succ]; rfl) ?_
    refine take_lit (i := 8) 37 (by simp only [List.getElem?_toArray, List.getElem?_cons_succ, List.getElem?_cons_zero]; rfl) rfl (by kernel_rfl) (by kernel_rfl) (by kernel_rfl) (by exact fun _ _ _ h => h) (by rfl) (fun w => by first | (go_simp; done) | (go_simp; with_reducible rfl)) (by simp only [List.set_cons_zero, List.set_cons_succ]; rfl) ?_
    refine take_lit (i := 10) 39 (by simp only [List.getElem?_toArray, List.getElem?_cons_succ, List.getElem?_cons_zero]; rfl) rfl (by kernel_rfl) (by kernel_rfl) (by kernel_rfl) (by exact fun _ _ _ h => h) (by rfl) (fun w => by first | (go_simp; done) | (go_simp; with_reducible rfl)) (by simp only [List.set_cons_zero, List.set_cons_succ]; rfl) ?_
    refine take_lit (i := 11) 40 (by simp only [List.getElem?_toArray, List.getElem?_cons_succ, List.getElem?_cons_zero]; rfl) rfl (by kernel_rfl) (by kernel_rfl) (by kernel_rfl) (by exact fun _ _ _ h => h) (by rfl) (fun w => by first | (go_simp; done) | (go_simp; with_reducible rfl)) (by simp only [List.set_cons_zero, List.set_cons_succ]; rfl) ?_
    refine wpAny_ready (rs := [9]) (by kernel_rfl) (by simp) ?_
    refine AllReady.cons (by simp only [List.getElem?_toArray, List.getElem?_cons_succ, List.getElem?_cons_zero]; rfl) (fun K hK => ?_) AllReady.nil
    go_simp
    refine (more_any n w1.heap.size w2.heap.size (.slice A len cap) l _ hn (HB2.out.below hS0 (Nat.le_refl _)) hl (HT2.out.below hS0 (Nat.le_refl _))).mono ?_
    rintro e w' ⟨rfl, rfl⟩
    go_wp2_with fail
    try (refine hK _ _ ?_; clear hK K)
    refine wpAny_ready (rs := [12]) (by kernel_rfl) (by simp) ?_
    refine AllReady.cons (by simp only [List.getElem?_toArray, List.getElem?_cons_succ, List.getElem?_cons_zero]; rfl) (fun K hK => ?_) AllReady.nil
    go_simp
    refine (morer_any n w2.heap.size (.slice A len cap) l _ hn (HB2.out.below hS0 (Nat.le_refl _)) hl).mono ?_
    rintro e w' ⟨rfl, rfl⟩
    go_wp2_with fail
    try (refine hK _ _ ?_; clear hK K)
    refine take_lit (i := 13) 42 (by simp only [List.getElem?_toArray, List.getElem?_cons_succ, List.getElem?_cons_zero]; rfl) rfl (by kernel_rfl) (by kernel_rfl) (by kernel_rfl) (by exact fun _ _ _ h => h) (by rfl) (fun w => by first | (go_simp; done) | (go_simp; with_reducible rfl)) (by simp only [List.set_cons_zero, List.set_cons_succ]; rfl) ?_
    refine take_lit (i := 14) 43 (by simp only [List.getElem?_toArray, List.getElem?_cons_succ, List.getElem?_cons_zero]; rfl) rfl (by kernel_rfl) (by kernel_rfl) (by kernel_rfl) (by exact fun _ _ _ h => h) (by rfl) (fun w => by first | (go_simp; done) | (go_simp; with_reducible rfl)) (by simp only [List.set_cons_zero, List.set_cons_succ]; rfl) ?_
    refine take_lit (i := 15) 44 (by simp only [List.getElem?_toArray, List.getElem?_cons_succ, List.getElem?_cons_zero]; rfl) rfl (by kernel_rfl) (by kernel_rfl) (by kernel_rfl) (by exact fun _ _ _ h => h) (by rfl) (fun w => by first | (go_simp; done) | (go_simp; with_reducible rfl)) (by simp only [List.set_cons_zero, List.set_cons_succ]; rfl) ?_
    refine take_lit (i := 16) 45 (by simp only [List.getElem?_toArray, List.getElem?_cons_succ, List.getElem?_cons_zero]; rfl) rfl (by kernel_rfl) (by kernel_rfl) (by kernel_rfl) (by exact fun _ _ _ h => h) (by rfl) (fun w => by first | (go_simp; done) | (go_simp; with_reducible rfl)) (by simp only [List.set_cons_zero, List.set_cons_succ]; rfl) ?_
    refine take_lit (i := 17) 46 (by simp only [List.getElem?_toArray, List.getElem?_cons_succ, List.getElem?_cons_zero]; rfl) rfl (by kernel_rfl) (by kernel_rfl) (by kernel_rfl) (by exact fun _ _ _ h => h) (by rfl) (fun w => by first | (go_simp; done) | (go_simp; with_reducible rfl)) (by simp only [List.set_cons_zero, List.set_cons_succ]; rfl) ?_
    refine wpAny_ready (rs := [18]) (by kernel_rfl) (by simp) ?_
    refine AllReady.cons (by simp only [List.getElem?_toArray, List.getElem?_cons_succ, List.getElem?_cons_zero]; rfl) (fun K hK => ?_) AllReady.nil
    go_simp
    refine (more_nil n (.slice A len cap) _).mono ?_
    rintro e w' ⟨rfl, rfl⟩
    go_wp2_with fail
    try (refine hK _ _ ?_; clear hK K)
    refine take_lit (i := 19) 48 (by simp only [List.getElem?_toArray, List.getElem?_cons_succ, List.getElem?_cons_zero]; rfl) rfl (by kernel_rfl) (by kernel_rfl) (by kernel_rfl) (by exact fun _ _ _ h => h) (by rfl) (fun w => by first | (go_simp; done) | (go_simp; with_reducible rfl)) (by simp only [List.set_cons_zero, List.set_cons_succ]; rfl) ?_
    refine take_lit (i := 20) 49 (by simp only [List.getElem?_toArray, List.getElem?_cons_succ, List.getElem?_cons_zero]; rfl) rfl (by kernel_rfl) (by kernel_rfl) (by kernel_rfl) (by exact fun _ _ _ h => h) (by rfl) (fun w => by first | (go_simp; done) | (go_simp; with_reducible rfl)) (by simp only [List.set_cons_zero, List.set_cons_succ]; rfl) ?_
    refine take_lit (i := 21) 50 (by simp only [List.getElem?_toArray, List.getElem?_cons_succ, List.getElem?_cons_zero]; rfl) rfl (by kernel_rfl) (by kernel_rfl) (by kernel_rfl) (by exact fun _ _ _ h => h) (by rfl) (fun w => by first | (go_simp; done) | (go_simp; with_reducible rfl)) (by simp only [List.set_cons_zero, List.set_cons_succ]; rfl) ?_
    refine take_lit (i := 22) 51 (by simp only [List.getElem?_toArray, List.getElem?_cons_succ, List.getElem?_cons_zero]; rfl) rfl (by kernel_rfl) (by kernel_rfl) (by kernel_rfl) (by exact fun _ _ _ h => h) (by rfl) (fun w => by first | (go_simp; done) | (go_simp; with_reducible rfl)) (by simp only [List.set_cons_zero, List.set_cons_succ]; rfl) ?_
    refine take_lit (i := 24) 53 (by simp only [List.getElem?_toArray, List.getElem?_cons_succ, List.getElem?_cons_zero]; rfl) rfl (by kernel_rfl) (by kernel_rfl) (by kernel_rfl) (by exact fun _ _ _ h => h) (by rfl) (fun w => by first | (go_simp; done) | (go_simp; with_reducible rfl)) (by simp only [List.set_cons_zero, List.set_cons_succ]; rfl) ?_
    refine wpAny_ready (rs := [23]) (by kernel_rfl) (by simp) ?_
    refine AllReady.cons (by simp only [List.getElem?_toArray, List.getElem?_cons_succ, List.getElem?_cons_zero]; rfl) (fun K hK => ?_) AllReady.nil
    go_simp
    refine (sum_any (.slice A len cap) l _ (HB2.out.on hS0) hl).mono ?_
    rintro e w3 ⟨rfl, hB3⟩
    have hS1 := bseq hS0 hB3
    clear hB3
    go_wp2_with fail
    try (refine hK _ _ ?_; clear hK K)
    refine wpAny_ready (rs := [25]) (by kernel_rfl) (by simp) ?_
    refine AllReady.cons (by simp only [List.getElem?_toArray, List.getElem?_cons_succ, List.getElem?_cons_zero]; rfl) (fun K hK => ?_) AllReady.nil
    go_simp
    refine (sumr_any w3.heap.size (.slice A len cap) l _ (HB2.out.on hS1) hl).mono ?_
    rintro e w' ⟨rfl, rfl⟩
    go_wp2_with fail
    try (refine hK _ _ ?_; clear hK K)
    refine take_lit (i := 26) 55 (by simp only [List.getElem?_toArray, List.getElem?_cons_succ, List.getElem?_cons_zero]; rfl) rfl (by kernel_rfl) (by kernel_rfl) (by kernel_rfl) (by exact fun _ _ _ h => h) (by rfl) (fun w => by first | (go_simp; done) | (go_simp; with_reducible rfl)) (by simp only [List.set_cons_zero, List.set_cons_succ]; rfl) ?_
    refine take_lit (i := 27) 56 (by simp only [List.getElem?_toArray, List.getElem?_cons_succ, List.getElem?_cons_zero]; rfl) rfl (by kernel_rfl) (by kernel_rfl) (by kernel_rfl) (by exact fun _ _ _ h => h) (by rfl) (fun w => by first | (go_simp; done) | (go_simp; with_reducible rfl)) (by simp only [List.set_cons_zero, List.set_cons_succ]; rfl) ?_
    refine take_lit (i := 28) 57 (by simp only [List.getElem?_toArray, List.getElem?_cons_succ, List.getElem?_cons_zero]; rfl) rfl (by kernel_rfl) (by kernel_rfl) (by kernel_rfl) (by exact fun _ _ _ h => h) (by rfl) (fun w => by first | (go_simp; done) | (go_simp; with_reducible rfl)) (by simp only [List.set_cons_zero, List.set_cons_succ]; rfl) ?_
    refine take_lit (i := 29) 58 (by simp only [List.getElem?_toArray, List.getElem?_cons_succ, List.getElem?_cons_zero]; rfl) rfl (by kernel_rfl) (by kernel_rfl) (by kernel_rfl) (by exact fun _ _ _ h => h) (by rfl) (fun w => by first | (go_simp; done) | (go_simp; with_reducible rfl)) (by simp only [List.set_cons_zero, List.set_cons_succ]; rfl) ?_
    refine take_lit (i := 32) 61 (by simp only [List.getElem?_toArray, List.getElem?_cons_succ, List.getElem?_cons_zero]; rfl) rfl (by kernel_rfl) (by kernel_rfl) (by kernel_rfl) (by exact fun _ _ _ h => h) (by rfl) (fun w => by first | (go_simp; done) | (go_simp; with_reducible rfl)) (by simp only [List.set_cons_zero, List.set_cons_succ]; rfl) ?_
    refine wpAny_ready (rs := [30]) (by kernel_rfl) (by simp) ?_
    refine AllReady.cons (by simp only [List.getElem?_toArray, List.getElem?_cons_succ, List.getElem?_cons_zero]; rfl) (fun K hK => ?_) AllReady.nil
    go_simp
    refine (seal_any (.slice A len cap) l _ (HB2.out.on hS1) hl HLe.out).mono ?_
    rintro e w5 ⟨v5, rfl, ho5, hB5⟩
    have HY5 := Lib.hid (own_bytes ho5)
    have hcA := bytes_conv HY5.out
    have hS2 := bseq hS1 hB5
    clear ho5 hB5
    go_wp2_with fail
    try (refine hK _ _ ?_; clear hK K)
    refine wpAny_ready (rs := [31, 33]) (by kernel_rfl) (by simp) ?_
    refine AllReady.cons (by simp only [List.getElem?_toArray, List.getElem?_cons_succ, List.getElem?_cons_zero]; rfl) (fun K hK => ?_) ?_
    · go_simp
      try (refine hK _ _ ?_; clear hK K)
      refine wpAny_ready (rs := [33]) (by kernel_rfl) (by simp) ?_
      refine AllReady.cons (by simp only [List.getElem?_toArray, List.getElem?_cons_succ, List.getElem?_cons_zero]; rfl) (fun K hK => ?_) AllReady.nil
      go_simp
      refine (sealr_any (.slice A len cap) l _ (HB2.out.on hS2) hl HLe.out).mono ?_
      rintro e w6 ⟨v6, rfl, ho6, hB6⟩
      have HY6 := Lib.hid (own_bytes ho6)
      have hcB := bytes_conv (HY5.out.on hB6)
      have hcC := bytes_conv HY6.out
      have hS3 := bseq hS2 hB6
      clear ho6 hB6
      go_wp2_with fail
      try (refine hK _ _ ?_; clear hK K)
      refine wpAny_ready (rs := [34]) (by kernel_rfl) (by simp) ?_
      refine AllReady.cons (by simp only [List.getElem?_toArray, List.getElem?_cons_succ, List.getElem?_cons_zero]; rfl) (fun K hK => ?_) AllReady.nil
      go_simp
      try (refine hK _ _ ?_; clear hK K)
      refine take_lit (i := 35) 64 (by simp only [List.getElem?_toArray, List.getElem?_cons_succ, List.getElem?_cons_zero]; rfl) rfl (by kernel_rfl) (by kernel_rfl) (by kernel_rfl) (by exact fun _ _ _ h => h) (by rfl) (fun w => by first | (go_simp; done) | (go_simp; with_reducible rfl)) (by simp only [List.set_cons_zero, List.set_cons_succ]; rfl) ?_
      refine take_lit (i := 36) 65 (by simp only [List.getElem?_toArray, List.getElem?_cons_succ, List.getElem?_cons_zero]; rfl) rfl (by kernel_rfl) (by kernel_rfl) (by kernel_rfl) (by exact fun _ _ _ h => h) (by rfl) (fun w => by first | (go_simp; done) | (go_simp; with_reducible rfl)) (by simp only [List.set_cons_zero, List.set_cons_succ]; rfl) ?_
      refine take_lit (i := 37) 66 (by simp only [List.getElem?_toArray, List.getElem?_cons_succ, List.getElem?_cons_zero]; rfl) rfl (by kernel_rfl) (by kernel_rfl) (by kernel_rfl) (by exact fun _ _ _ h => h) (by rfl) (fun w => by first | (go_simp; done) | (go_simp; with_reducible rfl)) (by simp only [List.set_cons_zero, List.set_cons_succ]; rfl) ?_
      refine take_lit (i := 38) 67 (by simp only [List.getElem?_toArray, List.getElem?_cons_succ, List.getElem?_cons_zero]; rfl) rfl (by kernel_rfl) (by kernel_rfl) (by kernel_rfl) (by exact fun _ _ _ h => h) (by rfl) (fun w => by first | (go_simp; done) | (go_simp; with_reducible rfl)) (by simp only [List.set_cons_zero, List.set_cons_succ]; rfl) ?_
      refine take_lit (i := 40) 69 (by simp only [List.getElem?_toArray, List.getElem?_cons_succ, List.getElem?_cons_zero]; rfl) rfl (by kernel_rfl) (by kernel_rfl) (by kernel_rfl) (by exact fun _ _ _ h => h) (by rfl) (fun w => by first | (go_simp; done) | (go_simp; with_reducible rfl)) (by simp only [List.set_cons_zero, List.set_cons_succ]; rfl) ?_
      refine wpAny_ready (rs := [39]) (by kernel_rfl) (by simp) ?_
      refine AllReady.cons (by simp only [List.getElem?_toArray, List.getElem?_cons_succ, List.getElem?_cons_zero]; rfl) (fun K hK => ?_) AllReady.nil
      go_simp
      refine (right_any A len cap l _ HL.out (HB2.out.on hS3) hl).mono ?_
      rintro e w7 ⟨rfl, hB7⟩
      have hS4 := bseq hS3 hB7
      clear hB7 hcA hcB hcC
      go_wp2_with fail
      try (refine hK _ _ ?_; clear hK K)
      refine wpAny_ready (rs := [41]) (by kernel_rfl) (by simp) ?_
      refine AllReady.cons (by simp only [List.getElem?_toArray, List.getElem?_cons_succ, List.getElem?_cons_zero]; rfl) (fun K hK => ?_) AllReady.nil
      go_simp
      refine (rightr_any A len cap l _ HL.out (HB2.out.on hS4) hl (by omega)).mono ?_
      rintro e w8 ⟨rfl, hB8⟩
      have hS5 := bseq hS4 hB8
      clear hB8
      go_wp2_with fail
      try (refine hK _ _ ?_; clear hK K)
      refine take_lit (i := 42) 71 (by simp only [List.getElem?_toArray, List.getElem?_cons_succ, List.getElem?_cons_zero]; rfl) rfl (by kernel_rfl) (by kernel_rfl) (by kernel_rfl) (by exact fun _ _ _ h => h) (by rfl) (fun w => by first | (go_simp; done) | (go_simp; with_reducible rfl)) (by simp only [List.set_cons_zero, List.set_cons_succ]; rfl) ?_
      refine take_lit (i := 43) 72 (by simp only [List.getElem?_toArray, List.getElem?_cons_succ, List.getElem?_cons_zero]; rfl) rfl (by kernel_rfl) (by kernel_rfl) (by kernel_rfl) (by exact fun _ _ _ h => h) (by rfl) (fun w => by first | (go_simp; done) | (go_simp; with_reducible rfl)) (by simp only [List.set_cons_zero, List.set_cons_succ]; rfl) ?_
      refine take_lit (i := 44) 73 (by simp only [List.getElem?_toArray, List.getElem?_cons_succ, List.getElem?_cons_zero]; rfl) rfl (by kernel_rfl) (by kernel_rfl) (by kernel_rfl) (by exact fun _ _ _ h => h) (by rfl) (fun w => by first | (go_simp; done) | (go_simp; with_reducible rfl)) (by simp only [List.set_cons_zero, List.set_cons_succ]; rfl) ?_
      refine take_lit (i := 45) 74 (by simp only [List.getElem?_toArray, List.getElem?_cons_succ, List.getElem?_cons_zero]; rfl) rfl (by kernel_rfl) (by kernel_rfl) (by kernel_rfl) (by exact fun _ _ _ h => h) (by rfl) (fun w => by first | (go_simp; done) | (go_simp; with_reducible rfl)) (by simp only [List.set_cons_zero, List.set_cons_succ]; rfl) ?_
      refine wpAny_ready (rs := [46]) (by kernel_rfl) (by simp) ?_
      refine AllReady.cons (by simp only [List.getElem?_toArray, List.getElem?_cons_succ, List.getElem?_cons_zero]; rfl) (fun K hK => ?_) AllReady.nil
      go_simp
      refine (seal_any (.slice A len cap) l _ (HB2.out.on hS5) hl HLe.out).mono ?_
      rintro e w9 ⟨v9, rfl, ho9, hB9⟩
      have HY9 := Lib.hid (own_bytes ho9)
      obtain ⟨A9, c9, rfl⟩ := HY9.out.form HSl.out
      have hS6 := bseq hS5 hB9
      clear ho9 hB9
      go_wp2_with fail
      try (refine hK _ _ ?_; clear hK K)
      refine wpAny_ready (rs := [47]) (by kernel_rfl) (by simp) ?_
      refine AllReady.cons (by simp only [List.getElem?_toArray, List.getElem?_cons_succ, List.getElem?_cons_zero]; rfl) (fun K hK => ?_) AllReady.nil
      go_simp
      refine (right_any A9 (len + 4) c9 (sealL l) _ HSl.out HY9.out HSB.out).mono ?_
      rintro e wA ⟨rfl, hBA⟩
      have hS7 := bseq hS6 hBA
      clear hBA
      rw [HR.out]
      go_wp2_with fail
      try (refine hK _ _ ?_; clear hK K)
      refine take_lit (i := 48) 77 (by simp only [List.getElem?_toArray, List.getElem?_cons_succ, List.getElem?_cons_zero]; rfl) rfl (by kernel_rfl) (by kernel_rfl) (by kernel_rfl) (by exact fun _ _ _ h => h) (by rfl) (fun w => by first | (go_simp; done) | (go_simp; with_reducible rfl)) (by simp only [List.set_cons_zero, List.set_cons_succ]; rfl) ?_
      refine take_lit (i := 49) 6 (by simp only [List.getElem?_toArray, List.getElem?_cons_succ, List.getElem?_cons_zero]; rfl) rfl (by kernel_rfl) (by kernel_rfl) (by kernel_rfl) (by exact fun _ _ _ h => h) (by rfl) (fun w => by first | (go_simp; done) | (go_simp; with_reducible rfl)) (by simp only [List.set_cons_zero, List.set_cons_succ]; rfl) ?_
      refine wpAny_done (by kernel_rfl) ?_ _
      go_wp2
      go_ret
      exact ⟨rfl, bseq hB1 (bseq hB2 hS7)⟩
    refine AllReady.cons (by simp only [List.getElem?_toArray, List.getElem?_cons_succ, List.getElem?_cons_zero]; rfl) (fun K hK => ?_) AllReady.nil
    go_simp
    refine (sealr_any (.slice A len cap) l _ (HB2.out.on hS2) hl HLe.out).mono ?_
    rintro e w6 ⟨v6, rfl, ho6, hB6⟩
    have HY6 := Lib.hid (own_bytes ho6)
    have hcB := bytes_conv (HY5.out.on hB6)
    have hcC := bytes_conv HY6.out
    have hS3 := bseq hS2 hB6
    clear ho6 hB6
    go_wp2_with fail
    try (refine hK _ _ ?_; clear hK K)
    refine wpAny_ready (rs := [31, 34]) (by kernel_rfl) (by simp) ?_
    refine AllReady.cons (by simp only [List.getElem?_toArray, List.getElem?_cons_succ, List.getElem?_cons_zero]; rfl) (fun K hK => ?_) ?_
    · go_simp
      try (refine hK _ _ ?_; clear hK K)
      refine wpAny_ready (rs := [34]) (by kernel_rfl) (by simp) ?_
      refine AllReady.cons (by simp only [List.getElem?_toArray, List.getElem?_cons_succ, List.getElem?_cons_zero]; rfl) (fun K hK => ?_) AllReady.nil
      go_simp
      try (refine hK _ _ ?_; clear hK K)
      refine take_lit (i := 35) 64 (by simp only [List.getElem?_toArray, List.getElem?_cons_succ, List.getElem?_cons_zero]; rfl) rfl (by kernel_rfl) (by kernel_rfl) (by kernel_rfl) (by exact fun _ _ _ h => h) (by rfl) (fun w => by first | (go_simp; done) | (go_simp; with_reducible rfl)) (by simp only [List.set_cons_zero, List.set_cons_succ]; rfl) ?_
      refine take_lit (i := 36) 65 (by simp only [List.getElem?_toArray, List.getElem?_cons_succ, List.getElem?_cons_zero]; rfl) rfl (by kernel_rfl) (by kernel_rfl) (by kernel_rfl) (by exact fun _ _ _ h => h) (by rfl) (fun w => by first | (go_simp; done) | (go_simp; with_reducible rfl)) (by simp only [List.set_cons_zero, List.set_cons_succ]; rfl) ?_
      refine take_lit (i := 37) 66 (by simp only [List.getElem?_toArray, List.getElem?_cons_succ, List.getElem?_cons_zero]; rfl) rfl (by kernel_rfl) (by kernel_rfl) (by kernel_rfl) (by exact fun _ _ _ h => h) (by rfl) (fun w => by first | (go_simp; done) | (go_simp; with_reducible rfl)) (by simp only [List.set_cons_zero, List.set_cons_succ]; rfl) ?_
      refine take_lit (i := 38) 67 (by simp only [List.getElem?_toArray, List.getElem?_cons_succ, List.getElem?_cons_zero]; rfl) rfl (by kernel_rfl) (by kernel_rfl) (by kernel_rfl) (by exact fun _ _ _ h => h) (by rfl) (fun w => by first | (go_simp; done) | (go_simp; with_reducible rfl)) (by simp only [List.set_cons_zero, List.set_cons_succ]; rfl) ?_
      refine take_lit (i := 40) 69 (by simp only [List.getElem?_toArray, List.getElem?_cons_succ, List.getElem?_cons_zero]; rfl) rfl (by kernel_rfl) (by kernel_rfl) (by kernel_rfl) (by exact fun _ _ _ h => h) (by rfl) (fun w => by first | (go_simp; done) | (go_simp; with_reducible rfl)) (by simp only [List.set_cons_zero, List.set_cons_succ]; rfl) ?_
      refine wpAny_ready (rs := [39]) (by kernel_rfl) (by simp) ?_
      refine AllReady.cons (by simp only [List.getElem?_toArray, List.getElem?_cons_succ, List.getElem?_cons_zero]; rfl) (fun K hK => ?_) AllReady.nil
      go_simp
      refine (right_any A len cap l _ HL.out (HB2.out.on hS3) hl).mono ?_
      rintro e w7 ⟨rfl, hB7⟩
      have hS4 := bseq hS3 hB7
      clear hB7 hcA hcB hcC
      go_wp2_with fail
      try (refine hK _ _ ?_; clear hK K)
      refine wpAny_ready (rs := [41]) (by kernel_rfl) (by simp) ?_
      refine AllReady.cons (by simp only [List.getElem?_toArray, List.getElem?_cons_succ, List.getElem?_cons_zero]; rfl) (fun K hK => ?_) AllReady.nil
      go_simp
      refine (rightr_any A len cap l _ HL.out (HB2.out.on hS4) hl (by omega)).mono ?_
      rintro e w8 ⟨rfl, hB8⟩
      have hS5 := bseq hS4 hB8
      clear hB8
      go_wp2_with fail
      try (refine hK _ _ ?_; clear hK K)
      refine take_lit (i := 42) 71 (by simp only [List.getElem?_toArray, List.getElem?_cons_succ, List.getElem?_cons_zero]; rfl) rfl (by kernel_rfl) (by kernel_rfl) (by kernel_rfl) (by exact fun _ _ _ h => h) (by rfl) (fun w => by first | (go_simp; done) | (go_simp; with_reducible rfl)) (by simp only [List.set_cons_zero, List.set_cons_succ]; rfl) ?_
      refine take_lit (i := 43) 72 (by simp only [List.getElem?_toArray, List.getElem?_cons_succ, List.getElem?_cons_zero]; rfl) rfl (by kernel_rfl) (by kernel_rfl) (by kernel_rfl) (by exact fun _ _ _ h => h) (by rfl) (fun w => by first | (go_simp; done) | (go_simp; with_reducible rfl)) (by simp only [List.set_cons_zero, List.set_cons_succ]; rfl) ?_
      refine take_lit (i := 44) 73 (by simp only [List.getElem?_toArray, List.getElem?_cons_succ, List.getElem?_cons_zero]; rfl) rfl (by kernel_rfl) (by kernel_rfl) (by kernel_rfl) (by exact fun _ _ _ h => h) (by rfl) (fun w => by first | (go_simp; done) | (go_simp; with_reducible rfl)) (by simp only [List.set_cons_zero, List.set_cons_succ]; rfl) ?_
      refine take_lit (i := 45) 74 (by simp only [List.getElem?_toArray, List.getElem?_cons_succ, List.getElem?_cons_zero]; rfl) rfl (by kernel_rfl) (by kernel_rfl) (by kernel_rfl) (by exact fun _ _ _ h => h) (by rfl) (fun w => by first | (go_simp; done) | (go_simp; with_reducible rfl)) (by simp only [List.set_cons_zero, List.set_cons_succ]; rfl) ?_
      refine wpAny_ready (rs := [46]) (by kernel_rfl) (by simp) ?_
      refine AllReady.cons (by simp only [List.getElem?_toArray, List.getElem?_cons_succ, List.getElem?_cons_zero]; rfl) (fun K hK => ?_) AllReady.nil
      go_simp
      refine (seal_any (.slice A len cap) l _ (HB2.out.on hS5) hl HLe.out).mono ?_
      rintro e w9 ⟨v9, rfl, ho9, hB9⟩
      have HY9 := Lib.hid (own_bytes ho9)
      obtain ⟨A9, c9, rfl⟩ := HY9.out.form HSl.out
      have hS6 := bseq hS5 hB9
      clear ho9 hB9
      go_wp2_with fail
      try (refine hK _ _ ?_; clear hK K)
      refine wpAny_ready (rs := [47]) (by kernel_rfl) (by simp) ?_
      refine AllReady.cons (by simp only [List.getElem?_toArray, List.getElem?_cons_succ, List.getElem?_cons_zero]; rfl) (fun K hK => ?_) AllReady.nil
      go_simp
      refine (right_any A9 (len + 4) c9 (sealL l) _ HSl.out HY9.out HSB.out).mono ?_
      rintro e wA ⟨rfl, hBA⟩
      have hS7 := bseq hS6 hBA
      clear hBA
      rw [HR.out]
      go_wp2_with fail
      try (refine hK _ _ ?_; clear hK K)
      refine take_lit (i := 48) 77 (by simp only [List.getElem?_toArray, List.getElem?_cons_succ, List.getElem?_cons_zero]; rfl) rfl (by kernel_rfl) (by kernel_rfl) (by kernel_rfl) (by exact fun _ _ _ h => h) (by rfl) (fun w => by first | (go_simp; done) | (go_simp; with_reducible rfl)) (by simp only [List.set_cons_zero, List.set_cons_succ]; rfl) ?_
      refine take_lit (i := 49) 6 (by simp only [List.getElem?_toArray, List.getElem?_cons_succ, List.getElem?_cons_zero]; rfl) rfl (by kernel_rfl) (by kernel_rfl) (by kernel_rfl) (by exact fun _ _ _ h => h) (by rfl) (fun w => by first | (go_simp; done) | (go_simp; with_reducible rfl)) (by simp only [List.set_cons_zero, List.set_cons_succ]; rfl) ?_
      refine wpAny_done (by kernel_rfl) ?_ _
      go_wp2
      go_ret
      exact ⟨rfl, bseq hB1 (bseq hB2 hS7)⟩
    refine AllReady.cons (by simp only [List.getElem?_toArray, List.getElem?_cons_succ, List.getElem?_cons_zero]; rfl) (fun K hK => ?_) AllReady.nil
    go_simp
    try (refine hK _ _ ?_; clear hK K)
    refine wpAny_ready (rs := [31]) (by kernel_rfl) (by simp) ?_
    refine AllReady.cons (by simp only [List.getElem?_toArray, List.getElem?_cons_succ, List.getElem?_cons_zero]; rfl) (fun K hK => ?_) AllReady.nil
    go_simp
    try (refine hK _ _ ?_; clear hK K)
    refine take_lit (i := 35) 64 (by simp only [List.getElem?_toArray, List.getElem?_cons_succ, List.getElem?_cons_zero]; rfl) rfl (by kernel_rfl) (by kernel_rfl) (by kernel_rfl) (by exact fun _ _ _ h => h) (by rfl) (fun w => by first | (go_simp; done) | (go_simp; with_reducible rfl)) (by simp only [List.set_cons_zero, List.set_cons_succ]; rfl) ?_
    refine take_lit (i := 36) 65 (by simp only [List.getElem?_toArray, List.getElem?_cons_succ, List.getElem?_cons_zero]; rfl) rfl (by kernel_rfl) (by kernel_rfl) (by kernel_rfl) (by exact fun _ _ _ h => h) (by rfl) (fun w => by first | (go_simp; done) | (go_simp; with_reducible rfl)) (by simp only [List.set_cons_zero, List.set_cons_succ]; rfl) ?_
    refine take_lit (i := 37) 66 (by simp only [List.getElem?_toArray, List.getElem?_cons_succ, List.getElem?_cons_zero]; rfl) rfl (by kernel_rfl) (by kernel_rfl) (by kernel_rfl) (by exact fun _ _ _ h => h) (by rfl) (fun w => by first | (go_simp; done) | (go_simp; with_reducible rfl)) (by simp only [List.set_cons_zero, List.set_cons_succ]; rfl) ?_
    refine take_lit (i := 38) 67 (by simp only [List.getElem?_toArray, List.getElem?_cons_succ, List.getElem?_cons_zero]; rfl) rfl (by kernel_rfl) (by kernel_rfl) (by kernel_rfl) (by exact fun _ _ _ h => h) (by rfl) (fun w => by first | (go_simp; done) | (go_simp; with_reducible rfl)) (by simp only [List.set_cons_zero, List.set_cons_succ]; rfl) ?_
    refine take_lit (i := 40) 69 (by simp only [List.getElem?_toArray, List.getElem?_cons_succ, List.getElem?_cons_zero]; rfl) rfl (by kernel_rfl) (by kernel_rfl) (by kernel_rfl) (by exact fun _ _ _ h => h) (by rfl) (fun w => by first | (go_simp; done) | (go_simp; with_reducible rfl)) (by simp only [List.set_cons_zero, List.set_cons_succ]; rfl) ?_
    refine wpAny_ready (rs := [39]) (by kernel_rfl) (by simp) ?_
    refine AllReady.cons (by simp only [List.getElem?_toArray, List.getElem?_cons_succ, List.getElem?_cons_zero]; rfl) (fun K hK => ?_) AllReady.nil
    go_simp
    refine (right_any A len cap l _ HL.out (HB2.out.on hS3) hl).mono ?_
    rintro e w7 ⟨rfl, hB7⟩
    have hS4 := bseq hS3 hB7
    clear hB7 hcA hcB hcC
    go_wp2_with fail
    try (refine hK _ _ ?_; clear hK K)
    refine wpAny_ready (rs := [41]) (by kernel_rfl) (by simp) ?_
    refine AllReady.cons (by simp only [List.getElem?_toArray, List.getElem?_cons_succ, List.getElem?_cons_zero]; rfl) (fun K hK => ?_) AllReady.nil
    go_simp
    refine (rightr_any A len cap l _ HL.out (HB2.out.on hS4) hl (by omega)).mono ?_
    rintro e w8 ⟨rfl, hB8⟩
    have hS5 := bseq hS4 hB8
    clear hB8
    go_wp2_with fail
    try (refine hK _ _ ?_; clear hK K)
    refine take_lit (i := 42) 71 (by simp only [List.getElem?_toArray, List.getElem?_cons_succ, List.getElem?_cons_zero]; rfl) rfl (by kernel_rfl) (by kernel_rfl) (by kernel_rfl) (by exact fun _ _ _ h => h) (by rfl) (fun w => by first | (go_simp; done) | (go_simp; with_reducible rfl)) (by simp only [List.set_cons_zero, List.set_cons_succ]; rfl) ?_
    refine take_lit (i := 43) 72 (by simp only [List.getElem?_toArray, List.getElem?_cons_succ, List.getElem?_cons_zero]; rfl) rfl (by kernel_rfl) (by kernel_rfl) (by kernel_rfl) (by exact fun _ _ _ h => h) (by rfl) (fun w => by first | (go_simp; done) | (go_simp; with_reducible rfl)) (by simp only [List.set_cons_zero, List.set_cons_succ]; rfl) ?_
    refine take_lit (i := 44) 73 (by simp only [List.getElem?_toArray, List.getElem?_cons_succ, List.getElem?_cons_zero]; rfl) rfl (by kernel_rfl) (by kernel_rfl) (by kernel_rfl) (by exact fun _ _ _ h => h) (by rfl) (fun w => by first | (go_simp; done) | (go_simp; with_reducible rfl)) (by simp only [List.set_cons_zero, List.set_cons_succ]; rfl) ?_
    refine take_lit (i := 45) 74 (by simp only [List.getElem?_toArray, List.getElem?_cons_succ, List.getElem?_cons_zero]; rfl) rfl (by kernel_rfl) (by kernel_rfl) (by kernel_rfl) (by exact fun _ _ _ h => h) (by rfl) (fun w => by first | (go_simp; done) | (go_simp; with_reducible rfl)) (by simp only [List.set_cons_zero, List.set_cons_succ]; rfl) ?_
    refine wpAny_ready (rs := [46]) (by kernel_rfl) (by simp) ?_
    refine AllReady.cons (by simp only [List.getElem?_toArray, List.getElem?_cons_succ, List.getElem?_cons_zero]; rfl) (fun K hK => ?_) AllReady.nil
    go_simp
    refine (seal_any (.slice A len cap) l _ (HB2.out.on hS5) hl HLe.out).mono ?_
    rintro e w9 ⟨v9, rfl, ho9, hB9⟩
    have HY9 := Lib.hid (own_bytes ho9)
    obtain ⟨A9, c9, rfl⟩ := HY9.out.form HSl.out
    have hS6 := bseq hS5 hB9
    clear ho9 hB9
    go_wp2_with fail
    try (refine hK _ _ ?_; clear hK K)
    refine wpAny_ready (rs := [47]) (by kernel_rfl) (by simp) ?_
    refine AllReady.cons (by simp only [List.getElem?_toArray, List.getElem?_cons_succ, List.getElem?_cons_zero]; rfl) (fun K hK => ?_) AllReady.nil
    go_simp
    refine (right_any A9 (len + 4) c9 (sealL l) _ HSl.out HY9.out HSB.out).mono ?_
    rintro e wA ⟨rfl, hBA⟩
    have hS7 := bseq hS6 hBA
    clear hBA
    rw [HR.out]
    go_wp2_with fail
    try (refine hK _ _ ?_; clear hK K)
    refine take_lit (i := 48) 77 (by simp only [List.getElem?_toArray, List.getElem?_cons_succ, List.getElem?_cons_zero]; rfl) rfl (by kernel_rfl) (by kernel_rfl) (by kernel_rfl) (by exact fun _ _ _ h => h) (by rfl) (fun w => by first | (go_simp; done) | (go_simp; with_reducible rfl)) (by simp only [List.set_cons_zero, List.set_cons_succ]; rfl) ?_
    refine take_lit (i := 49) 6 (by simp only [List.getElem?_toArray, List.getElem?_cons_succ, List.getElem?_cons_zero]; rfl) rfl (by kernel_rfl) (by kernel_rfl) (by kernel_rfl) (by exact fun _ _ _ h => h) (by rfl) (fun w => by first | (go_simp; done) | (go_simp; with_reducible rfl)) (by simp only [List.set_cons_zero, List.set_cons_succ]; rfl) ?_
    refine wpAny_done (by kernel_rfl) ?_ _
    go_wp2
    go_ret
    exact ⟨rfl, bseq hB1 (bseq hB2 hS7)⟩

end Go.Proofs.Ytgemllmfbglkhaa
