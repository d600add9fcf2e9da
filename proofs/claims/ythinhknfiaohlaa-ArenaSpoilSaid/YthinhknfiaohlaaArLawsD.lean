/-
  Layer 7: the walk of ArenaCuts.
-/
import Derived.Test.YthinhknfiaohlaaArLawsA
import Derived.Test.YthinhknfiaohlaaArGenB
import Derived.Test.YthinhknfiaohlaaBytesStr
import Derived.Test.YthinhknfiaohlaaRegionStep
namespace Go.Proofs.Ythinhknfiaohlaa
open Go.RowKit Go.Deep

theorem Bytes.capM {w : World} {B len cap : Nat} {A : Option Addr} {l : List Int} (h : Bytes w B (.slice A len cap) l) (hlen : l.length = len) : len ≤ cap := by
  obtain ⟨A', c, e, h1, _, _⟩ := h
  injection e with e1 e2 e3
  omega
theorem bytesA_all (ls : List (List Int)) : AllB (bytesA ls) := by
  intro y hy
  unfold bytesA at hy
  obtain ⟨s, _, hy⟩ := List.mem_flatMap.1 hy
  unfold segB at hy
  obtain ⟨x, _, hy⟩ := List.mem_flatMap.1 hy
  exact putL_AllB x 8 y hy
theorem startC_pos (c : List Int) (t : Nat) (h : 0 < t) : 1 ≤ startC c t := by
  induction t with
  | zero => omega
  | succ t ih =>
    unfold startC
    rcases Nat.eq_zero_or_pos t with e | e
    · subst e
      unfold szC
      rw [if_pos rfl]
      omega
    · have := ih e; omega
/-- how many bytes the arena of choices has -/
theorem genB_length (c : List Int) (n : Nat) : ∃ M : Nat, (bytesA (arL c n)).length = M ∧ 8 ≤ M ∧ M ≤ 1000 := by
  have h1 := bytesA_length (arL c n)
  have h2 : (sizesL (arL c n)).sum = startC c (1 + n % 5) := arTo_sum c _
  have h3 := startC_pos c (1 + n % 5) (by omega)
  have h4 := startC_bd c (1 + n % 5)
  exact ⟨_, rfl, by omega, by omega⟩
set_option maxRecDepth 100000 in
set_option maxHeartbeats 2000000 in
theorem acuts_walk {K : World → Prop} (T : ArenaOK K) (v vb vc : Value) (l bs c : List Int) (n : Nat) (w : World) (h : NumS .i64 w w.heap.size v l) (hl : All64 l)
    (hb : Bytes w w.heap.size vb bs) (hbs : AllB bs) (hb' : Bytes w w.heap.size vc c) (hc : AllB c) (hn : n < 256) (hK : K w) :
    Calls Try.prog 5 #[v, vb, vc, .int .u8 n] w fun e w' => e = .returned (.bool true) ∧ Below w.heap.size w w' := by
  have HT := Lib.hid T
  have HK := Lib.hid hK
  have HV := Lib.hid h
  have HL := Lib.hid hl
  have HB := Lib.hid hb
  have HBa := Lib.hid hbs
  have HB' := Lib.hid hb'
  have HC := Lib.hid hc
  have HN := Lib.hid hn
  have HX := Lib.hid (arL_sm hc n)
  have HXa := Lib.hid (bytesA_all (arL c n))
  have HXn : Hid ((arL c n).length ≤ 1000000000000 ∧ (sizesL (arL c n)).sum ≤ 1000000000000 ∧ (sizesL (arL c n)).length ≤ 1000000000 ∧ All64 (sizesL (arL c n))) := Lib.hid (by
    have h1 := (arL_sm hc n).1
    have h2 := (arL_sm hc n).2.1
    refine ⟨by omega, by omega, by rw [sizesL_length]; exact h1, fun x hx => ?_⟩
    obtain ⟨s, hs, rfl⟩ := List.mem_map.1 hx
    have h3 := sum_split (sizesL (arL c n)) 0
    have h4 := sizesL_pos (arL c n)
    have h5 : (s.length : Int) ≤ (sizesL (arL c n)).sum := by
      have : ∀ m : List Int, (∀ s ∈ m, 0 ≤ s) → ∀ x ∈ m, x ≤ m.sum := by
        intro m hm x hx
        induction m with
        | nil => cases hx
        | cons y m ih =>
          rw [List.sum_cons]
          have p1 := hm y (List.mem_cons_self ..)
          have p2 := sum_nonneg (fun s hs => hm s (List.mem_cons_of_mem _ hs))
          rcases List.mem_cons.1 hx with rfl | hx
          · omega
          · have := ih (fun s hs => hm s (List.mem_cons_of_mem _ hs)) hx; omega
      exact this _ h4 _ hx
    unfold In64
    omega)
  obtain ⟨M, hM, hM8, hM1000⟩ := genB_length c n
  have HM := Lib.hid hM
  obtain ⟨D, hD⟩ : ∃ D : Nat, D = M - n % 9 := ⟨_, rfl⟩
  have HDi : Hid ((M : Int) - (n : Int) % 9 = (D : Int)) := Lib.hid (by omega)
  have hDM : D ≤ M := by omega
  have HDt : Hid (((bytesA (arL c n)).take D).length ≤ 1000000000 ∧ AllB ((bytesA (arL c n)).take D)) := Lib.hid ⟨by rw [List.length_take]; omega, fun x hx => HXa.out x (List.mem_of_mem_take hx)⟩
  obtain ⟨A1, c1, rfl, -⟩ := h
  obtain ⟨A2, c2, rfl, -⟩ := hb
  obtain ⟨A3, c3, rfl, -⟩ := hb'
  obtain ⟨n1, hn1⟩ : ∃ n, n = l.length := ⟨_, rfl⟩
  obtain ⟨n2, hn2⟩ : ∃ n, n = bs.length := ⟨_, rfl⟩
  rw [← hn1] at HV ⊢
  rw [← hn2] at HB ⊢
  generalize c.length = n3 at *
  have HN1 := Lib.hid hn1
  have HN2 := Lib.hid hn2
  clear T hK hl hbs hc hn1 hn2 hM hD
  by_cases hbig : 40 < n1
  · have d1 : decide (40 < (n1 : Int)) = true := decide_eq_true (by omega)
    go_enter Try.func5, Try.ntmps5
    go_wp2_with fail
    refine (known7_any HT.out w HK.out).mono ?_
    rintro e w1 ⟨rfl, hB1⟩
    go_wp2_with fail
    go_ret
    exact ⟨rfl, hB1⟩
  have d1 : decide (40 < (n1 : Int)) = false := decide_eq_false (by omega)
  by_cases hbig2 : 600 < n2
  · have d2 : decide (600 < (n2 : Int)) = true := decide_eq_true (by omega)
    go_enter Try.func5, Try.ntmps5
    go_wp2_with fail
    refine (known7_any HT.out w HK.out).mono ?_
    rintro e w1 ⟨rfl, hB1⟩
    go_wp2_with fail
    go_ret
    exact ⟨rfl, hB1⟩
  have d2 : decide (600 < (n2 : Int)) = false := decide_eq_false (by omega)
  have HLn : Hid (l.length ≤ 1000000000 ∧ bs.length ≤ 1000000000 ∧ (bytesA (arL c n)).length ≤ 1000000000) := Lib.hid (by rw [← HN1.out, ← HN2.out, HM.out]; omega)
  go_enter Try.func5, Try.ntmps5
  go_wp2_with fail
  refine (known7_any HT.out w HK.out).mono ?_
  rintro e w1 ⟨rfl, hB1⟩
  go_wp2_with fail
  refine (gen_any _ c n w1 (HB'.out.on hB1) HC.out HN.out).mono ?_
  rintro e w2 ⟨x, rfl, ho, hB2⟩
  have hC2 := bsq hB1 hB2
  have HXv := Lib.hid ho.arV
  clear ho
  go_wp2_with fail
  refine (rbytes7_any _ (arL c n) w2 HXv.out HX.out.2.2 HXn.out.2.1).mono ?_
  rintro e w3 ⟨y, rfl, ho, hB3⟩
  have hC3 := bsq hC2 hB3
  have HX3 := Lib.hid (HXv.out.on hB3)
  have HY3 := Lib.hid ho.bytes
  obtain ⟨A4, c4, rfl⟩ := HY3.out.form HM.out
  have hMc : M ≤ c4 := HY3.out.capM HM.out
  have hDc : (D : Int) ≤ (c4 : Int) := by omega
  have hD0 : (0 : Int) ≤ (D : Int) := by omega
  have hr9 : IntKind.i64.wrap ((n : Int).tmod 9) = (n : Int) % 9 := by
    rw [Int.tmod_eq_emod_of_nonneg (by omega)]
    exact IntWalk.i64_in _ (by omega)
  have hwD : IntKind.i64.wrap ((M : Int) - (n : Int) % 9) = (D : Int) := by
    rw [HDi.out]
    exact IntWalk.i64_in _ (by omega)
  clear ho
  go_wp2_with fail
  have hR0 : Below w3.heap.size w3 w3.drew := (Below.refl _ _).drew
  have hS0 : Below w.heap.size w w3.drew := hC3.drew
  all_goals
    refine wp_region_any (by kernel_rfl) ?_
    change wpAny _ _ _ _ _ _ _ (World.drew _)
    refine take_lit (i := 0) 29 (by simp only [List.getElem?_toArray, List.getElem?_cons_zero]; rfl) rfl (by kernel_rfl) (by kernel_rfl) (by kernel_rfl) (by exact fun _ _ _ h => h) (by rfl) (fun w => by first | (go_simp; done) | (go_simp; with_reducible rfl)) (by simp only [List.set_cons_zero, List.set_cons_succ]; rfl) ?_
    refine take_lit (i := 1) 30 (by simp only [List.getElem?_toArray, List.getElem?_cons_succ, List.getElem?_cons_zero]; rfl) rfl (by kernel_rfl) (by kernel_rfl) (by kernel_rfl) (by exact fun _ _ _ h => h) (by rfl) (fun w => by first | (go_simp; done) | (go_simp; with_reducible rfl)) (by simp only [List.set_cons_zero, List.set_cons_succ]; rfl) ?_
    refine wpAny_ready (rs := [2]) (by kernel_rfl) (by simp) ?_
    refine AllReady.cons (by simp only [List.getElem?_toArray, List.getElem?_cons_succ, List.getElem?_cons_zero]; rfl) (fun K hK => ?_) AllReady.nil
    go_simp
    refine (cuts_any HT.out _ _ l bs _ (HV.out.on hS0) HL.out HLn.out.1 (HB.out.on hS0) HBa.out HLn.out.2.1 (HT.out.on HK.out hS0)).mono ?_
    rintro e w4 ⟨rfl, hB4⟩
    have hS1 := bsq hS0 hB4
    have hR1 := bsq hR0 hB4
    go_wp2_with fail
    try (refine hK _ _ ?_; clear hK K)
    refine take_lit (i := 3) 32 (by simp only [List.getElem?_toArray, List.getElem?_cons_succ, List.getElem?_cons_zero]; rfl) rfl (by kernel_rfl) (by kernel_rfl) (by kernel_rfl) (by exact fun _ _ _ h => h) (by rfl) (fun w => by first | (go_simp; done) | (go_simp; with_reducible rfl)) (by simp only [List.set_cons_zero, List.set_cons_succ]; rfl) ?_
    refine take_lit (i := 4) 33 (by simp only [List.getElem?_toArray, List.getElem?_cons_succ, List.getElem?_cons_zero]; rfl) rfl (by kernel_rfl) (by kernel_rfl) (by kernel_rfl) (by exact fun _ _ _ h => h) (by rfl) (fun w => by first | (go_simp; done) | (go_simp; with_reducible rfl)) (by simp only [List.set_cons_zero, List.set_cons_succ]; rfl) ?_
    refine take_lit (i := 6) 35 (by simp only [List.getElem?_toArray, List.getElem?_cons_succ, List.getElem?_cons_zero]; rfl) rfl (by kernel_rfl) (by kernel_rfl) (by kernel_rfl) (by exact fun _ _ _ h => h) (by rfl) (fun w => by first | (go_simp; done) | (go_simp; with_reducible rfl)) (by simp only [List.set_cons_zero, List.set_cons_succ]; rfl) ?_
    refine wpAny_ready (rs := [5]) (by kernel_rfl) (by simp) ?_
    refine AllReady.cons (by simp only [List.getElem?_toArray, List.getElem?_cons_succ, List.getElem?_cons_zero]; rfl) (fun K hK => ?_) AllReady.nil
    go_simp
    refine (rsizes_any _ (arL c n) _ (HX3.out.on hR1) HXn.out.1).mono ?_
    rintro e w5 ⟨u5, rfl, ho5, hB5⟩
    have HN5 := Lib.hid (OwnN.numS ho5)
    have hS2 := bsq hS1 hB5
    have hR2 := bsq hR1 hB5
    clear ho5
    go_wp2_with fail
    try (refine hK _ _ ?_; clear hK K)
    refine wpAny_ready (rs := [7]) (by kernel_rfl) (by simp) ?_
    refine AllReady.cons (by simp only [List.getElem?_toArray, List.getElem?_cons_succ, List.getElem?_cons_zero]; rfl) (fun K hK => ?_) AllReady.nil
    go_simp
    refine (cuts_any HT.out _ _ (sizesL (arL c n)) (bytesA (arL c n)) _ HN5.out HXn.out.2.2.2 HXn.out.2.2.1 (HY3.out.on hR2) HXa.out HLn.out.2.2 (HT.out.on HK.out hS2)).mono ?_
    rintro e w6 ⟨rfl, hB6⟩
    have hS3 := bsq hS2 hB6
    have hR3 := bsq hR2 hB6
    go_wp2_with fail
    try (refine hK _ _ ?_; clear hK K)
    refine take_lit (i := 8) 37 (by simp only [List.getElem?_toArray, List.getElem?_cons_succ, List.getElem?_cons_zero]; rfl) rfl (by kernel_rfl) (by kernel_rfl) (by kernel_rfl) (by exact fun _ _ _ h => h) (by rfl) (fun w => by first | (go_simp; done) | (go_simp; with_reducible rfl)) (by simp only [List.set_cons_zero, List.set_cons_succ]; rfl) ?_
    refine take_lit (i := 9) 38 (by simp only [List.getElem?_toArray, List.getElem?_cons_succ, List.getElem?_cons_zero]; rfl) rfl (by kernel_rfl) (by kernel_rfl) (by kernel_rfl) (by exact fun _ _ _ h => h) (by rfl) (fun w => by first | (go_simp; done) | (go_simp; with_reducible rfl)) (by simp only [List.set_cons_zero, List.set_cons_succ]; rfl) ?_
    refine take_lit (i := 10) 39 (by simp only [List.getElem?_toArray, List.getElem?_cons_succ, List.getElem?_cons_zero]; rfl) rfl (by kernel_rfl) (by kernel_rfl) (by kernel_rfl) (by exact fun _ _ _ h => h) (by rfl) (fun w => by first | (go_simp; done) | (go_simp; with_reducible rfl)) (by simp only [List.set_cons_zero, List.set_cons_succ]; rfl) ?_
    refine take_lit (i := 12) 41 (by simp only [List.getElem?_toArray, List.getElem?_cons_succ, List.getElem?_cons_zero]; rfl) rfl (by kernel_rfl) (by kernel_rfl) (by kernel_rfl) (by exact fun _ _ _ h => h) (by rfl) (fun w => by first | (go_simp; done) | (go_simp; with_reducible rfl)) (by simp only [List.set_cons_zero, List.set_cons_succ]; rfl) ?_
    refine wpAny_ready (rs := [11]) (by kernel_rfl) (by simp) ?_
    refine AllReady.cons (by simp only [List.getElem?_toArray, List.getElem?_cons_succ, List.getElem?_cons_zero]; rfl) (fun K hK => ?_) AllReady.nil
    go_simp
    refine (rsizes_any _ (arL c n) _ (HX3.out.on hR3) HXn.out.1).mono ?_
    rintro e w7 ⟨u7, rfl, ho7, hB7⟩
    have HN7 := Lib.hid (OwnN.numS ho7)
    have hS4 := bsq hS3 hB7
    have hR4 := bsq hR3 hB7
    clear ho7
    go_wp2_with fail
    try (refine hK _ _ ?_; clear hK K)
    refine wpAny_ready (rs := [13]) (by kernel_rfl) (by simp) ?_
    refine AllReady.cons (by simp only [List.getElem?_toArray, List.getElem?_cons_succ, List.getElem?_cons_zero]; rfl) (fun K hK => ?_) AllReady.nil
    go_simp
    refine (cuts_any HT.out _ _ (sizesL (arL c n)) bs _ HN7.out HXn.out.2.2.2 HXn.out.2.2.1 (HB.out.on hS4) HBa.out HLn.out.2.1 (HT.out.on HK.out hS4)).mono ?_
    rintro e w8 ⟨rfl, hB8⟩
    have hS5 := bsq hS4 hB8
    have hR5 := bsq hR4 hB8
    go_wp2_with fail
    try (refine hK _ _ ?_; clear hK K)
    refine take_lit (i := 14) 43 (by simp only [List.getElem?_toArray, List.getElem?_cons_succ, List.getElem?_cons_zero]; rfl) rfl (by kernel_rfl) (by kernel_rfl) (by kernel_rfl) (by exact fun _ _ _ h => h) (by rfl) (fun w => by first | (go_simp; done) | (go_simp; with_reducible rfl)) (by simp only [List.set_cons_zero, List.set_cons_succ]; rfl) ?_
    refine take_lit (i := 15) 44 (by simp only [List.getElem?_toArray, List.getElem?_cons_succ, List.getElem?_cons_zero]; rfl) rfl (by kernel_rfl) (by kernel_rfl) (by kernel_rfl) (by exact fun _ _ _ h => h) (by rfl) (fun w => by first | (go_simp; done) | (go_simp; with_reducible rfl)) (by simp only [List.set_cons_zero, List.set_cons_succ]; rfl) ?_
    refine take_lit (i := 16) 45 (by simp only [List.getElem?_toArray, List.getElem?_cons_succ, List.getElem?_cons_zero]; rfl) rfl (by kernel_rfl) (by kernel_rfl) (by kernel_rfl) (by exact fun _ _ _ h => h) (by rfl) (fun w => by first | (go_simp; done) | (go_simp; with_reducible rfl)) (by simp only [List.set_cons_zero, List.set_cons_succ]; rfl) ?_
    refine take_lit (i := 17) 46 (by simp only [List.getElem?_toArray, List.getElem?_cons_succ, List.getElem?_cons_zero]; rfl) rfl (by kernel_rfl) (by kernel_rfl) (by kernel_rfl) (by exact fun _ _ _ h => h) (by rfl) (fun w => by first | (go_simp; done) | (go_simp; with_reducible rfl)) (by simp only [List.set_cons_zero, List.set_cons_succ]; rfl) ?_
    refine wpAny_ready (rs := [18]) (by kernel_rfl) (by simp) ?_
    refine AllReady.cons (by simp only [List.getElem?_toArray, List.getElem?_cons_succ, List.getElem?_cons_zero]; rfl) (fun K hK => ?_) AllReady.nil
    go_simp
    refine (cuts_any HT.out _ _ l (bytesA (arL c n)) _ (HV.out.on hS5) HL.out HLn.out.1 (HY3.out.on hR5) HXa.out HLn.out.2.2 (HT.out.on HK.out hS5)).mono ?_
    rintro e w9 ⟨rfl, hB9⟩
    have hS6 := bsq hS5 hB9
    have hR6 := bsq hR5 hB9
    go_wp2_with fail
    try (refine hK _ _ ?_; clear hK K)
    refine take_lit (i := 19) 48 (by simp only [List.getElem?_toArray, List.getElem?_cons_succ, List.getElem?_cons_zero]; rfl) rfl (by kernel_rfl) (by kernel_rfl) (by kernel_rfl) (by exact fun _ _ _ h => h) (by rfl) (fun w => by first | (go_simp; done) | (go_simp; with_reducible rfl)) (by simp only [List.set_cons_zero, List.set_cons_succ]; rfl) ?_
    refine take_lit (i := 20) 49 (by simp only [List.getElem?_toArray, List.getElem?_cons_succ, List.getElem?_cons_zero]; rfl) rfl (by kernel_rfl) (by kernel_rfl) (by kernel_rfl) (by exact fun _ _ _ h => h) (by rfl) (fun w => by first | (go_simp; done) | (go_simp; with_reducible rfl)) (by simp only [List.set_cons_zero, List.set_cons_succ]; rfl) ?_
    refine take_lit (i := 21) 50 (by simp only [List.getElem?_toArray, List.getElem?_cons_succ, List.getElem?_cons_zero]; rfl) rfl (by kernel_rfl) (by kernel_rfl) (by kernel_rfl) (by exact fun _ _ _ h => h) (by rfl) (fun w => by first | (go_simp; done) | (go_simp; with_reducible rfl)) (by simp only [List.set_cons_zero, List.set_cons_succ]; rfl) ?_
    refine take_lit (i := 23) 52 (by simp only [List.getElem?_toArray, List.getElem?_cons_succ, List.getElem?_cons_zero]; rfl) rfl (by kernel_rfl) (by kernel_rfl) (by kernel_rfl) (by exact fun _ _ _ h => h) (by rfl) (fun w => by first | (go_simp; done) | (go_simp; with_reducible rfl)) (by simp only [List.set_cons_zero, List.set_cons_succ]; rfl) ?_
    refine take_lit (i := 24) 53 (by simp only [List.getElem?_toArray, List.getElem?_cons_succ, List.getElem?_cons_zero]; rfl) rfl (by kernel_rfl) (by kernel_rfl) (by kernel_rfl) (by exact fun _ _ _ h => h) (by rfl) (fun w => by first | (go_simp; done) | (go_simp; with_reducible rfl)) (by simp only [List.set_cons_zero, List.set_cons_succ]; rfl) ?_
    refine take_lit (i := 25) 54 (by simp only [List.getElem?_toArray, List.getElem?_cons_succ, List.getElem?_cons_zero]; rfl) rfl (by kernel_rfl) (by kernel_rfl) (by kernel_rfl) (by exact fun _ _ _ h => h) (by rfl) (fun w => by first | (go_simp; done) | (go_simp; with_reducible rfl)) (by simp only [List.set_cons_zero, List.set_cons_succ]; rfl) ?_
    refine take_lit (i := 26) 55 (by simp only [List.getElem?_toArray, List.getElem?_cons_succ, List.getElem?_cons_zero]; rfl) rfl (by kernel_rfl) (by kernel_rfl) (by kernel_rfl) (by exact fun _ _ _ h => h) (by rfl) (fun w => by first | (go_simp; done) | (go_simp; with_reducible rfl)) (by simp only [List.set_cons_zero, List.set_cons_succ]; rfl) ?_
    refine take_lit (i := 27) 56 (by simp only [List.getElem?_toArray, List.getElem?_cons_succ, List.getElem?_cons_zero]; rfl) rfl (by kernel_rfl) (by kernel_rfl) (by kernel_rfl) (by exact fun _ _ _ h => h) (by rfl) (fun w => by first | (go_simp; done) | (go_simp; with_reducible rfl)) (by simp only [List.set_cons_zero, List.set_cons_succ]; rfl) ?_
    refine take_lit (i := 28) 57 (by simp only [List.getElem?_toArray, List.getElem?_cons_succ, List.getElem?_cons_zero]; rfl) rfl (by kernel_rfl) (by kernel_rfl) (by kernel_rfl) (by exact fun _ _ _ h => h) (by rfl) (fun w => by first | (go_simp; done) | (go_simp; with_reducible rfl)) (by simp only [List.set_cons_zero, List.set_cons_succ]; rfl) ?_
    refine take_lit (i := 29) 58 (by simp only [List.getElem?_toArray, List.getElem?_cons_succ, List.getElem?_cons_zero]; rfl) rfl (by kernel_rfl) (by kernel_rfl) (by kernel_rfl) (by exact fun _ _ _ h => h) (by rfl) (fun w => by first | (go_simp; done) | (go_simp; with_reducible rfl)) (by simp only [List.set_cons_zero, List.set_cons_succ]; rfl) ?_
    refine take_lit (i := 30) 59 (by simp only [List.getElem?_toArray, List.getElem?_cons_succ, List.getElem?_cons_zero]; rfl) rfl (by kernel_rfl) (by kernel_rfl) (by kernel_rfl) (by exact fun _ _ _ h => h) (by rfl) (fun w => by first | (go_simp; done) | (go_simp; with_reducible rfl)) (by simp only [List.set_cons_zero, List.set_cons_succ]; rfl) ?_
    refine wpAny_ready (rs := [22]) (by kernel_rfl) (by simp) ?_
    refine AllReady.cons (by simp only [List.getElem?_toArray, List.getElem?_cons_succ, List.getElem?_cons_zero]; rfl) (fun K hK => ?_) AllReady.nil
    go_simp
    refine (rsizes_any _ (arL c n) _ (HX3.out.on hR6) HXn.out.1).mono ?_
    rintro e w10 ⟨u10, rfl, ho10, hB10⟩
    have HN10 := Lib.hid (OwnN.numS ho10)
    have hS7 := bsq hS6 hB10
    have hR7 := bsq hR6 hB10
    clear ho10
    go_wp2_with fail
    try (refine hK _ _ ?_; clear hK K)
    refine wpAny_ready (rs := [31]) (by kernel_rfl) (by simp) ?_
    refine AllReady.cons (by simp only [List.getElem?_toArray, List.getElem?_cons_succ, List.getElem?_cons_zero]; rfl) (fun K hK => ?_) AllReady.nil
    go_simp
    refine (cuts_any HT.out _ _ (sizesL (arL c n)) ((bytesA (arL c n)).take D) _ HN10.out HXn.out.2.2.2 HXn.out.2.2.1 ((HY3.out.cut HM.out hDM).on hR7) HDt.out.2 HDt.out.1 (HT.out.on HK.out hS7)).mono ?_
    rintro e w11 ⟨rfl, hB11⟩
    have hS8 := bsq hS7 hB11
    have hR8 := bsq hR7 hB11
    go_wp2_with fail
    try (refine hK _ _ ?_; clear hK K)
    refine take_lit (i := 32) 61 (by simp only [List.getElem?_toArray, List.getElem?_cons_succ, List.getElem?_cons_zero]; rfl) rfl (by kernel_rfl) (by kernel_rfl) (by kernel_rfl) (by exact fun _ _ _ h => h) (by rfl) (fun w => by first | (go_simp; done) | (go_simp; with_reducible rfl)) (by simp only [List.set_cons_zero, List.set_cons_succ]; rfl) ?_
    refine take_lit (i := 33) 8 (by simp only [List.getElem?_toArray, List.getElem?_cons_succ, List.getElem?_cons_zero]; rfl) rfl (by kernel_rfl) (by kernel_rfl) (by kernel_rfl) (by exact fun _ _ _ h => h) (by rfl) (fun w => by first | (go_simp; done) | (go_simp; with_reducible rfl)) (by simp only [List.set_cons_zero, List.set_cons_succ]; rfl) ?_
    refine wpAny_done (by kernel_rfl) ?_ _
    go_wp2_with fail
    go_ret
    exact ⟨rfl, hS8⟩

end Go.Proofs.Ythinhknfiaohlaa
