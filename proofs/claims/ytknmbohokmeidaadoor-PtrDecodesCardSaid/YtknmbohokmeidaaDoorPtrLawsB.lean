/-
  Layer 6: the walks of PtrWords, PtrDecodes.
-/
import Derived.Test.YtknmbohokmeidaaDoorPtrLawsA
namespace Go.Proofs.YtknmbohokmeidaaDoor
open Go.RowKit Go.Deep

set_option maxRecDepth 100000 in
set_option maxHeartbeats 4000000 in
theorem words_walk (T : PtrOK) (n s : Nat) (b : Bool) (w : World) (hn : n < 65536) (hs : s < 256) (L : Laid w) : Calls Tryd.prog 6 #[.int .u16 n, .int .u8 s, .bool b] w fun e w' => e = .returned (.bool true) ∧ Below w.heap.size w w' := by
  have HL := Lib.hid L
  clear L
  obtain ⟨A, hA⟩ : ∃ A : Int, A = ((n : Int) + 7) / 8 := ⟨_, rfl⟩
  have a0 : 0 ≤ A := by omega
  have a1 : A ≤ 8192 := by omega
  have a2 : (n : Int) ≤ 8 * A := by omega
  have a3 : 8 * A < (n : Int) + 8 := by omega
  have k1 : ∀ w, Laid w → Calls Tryd.prog 15 #[.agg (cellsP ⟨2, 0, 0, 0, 2, n, 0, false⟩)] w fun e w' => e = .returned (.tuple #[.int .i64 A, .int .u16 0]) ∧ Below w.heap.size w w' := fun w L => by
    have h := T.words ⟨2, 0, 0, 0, 2, n, 0, false⟩ w (.inr (.inr (.inl ⟨rfl, by dsimp only; omega, rfl, rfl, by dsimp only; omega, by dsimp only; omega, rfl, rfl⟩))) L
    rwa [show wordN ⟨2, 0, 0, 0, 2, n, 0, false⟩ = A by rw [hA]; simp [wordN], show wordE ⟨2, 0, 0, 0, 2, n, 0, false⟩ = 0 by simp [wordE]] at h
  have k2 : ∀ w, Laid w → Calls Tryd.prog 15 #[.agg (cellsP ⟨2, 0, 0, 0, 5, A, 0, false⟩)] w fun e w' => e = .returned (.tuple #[.int .i64 A, .int .u16 0]) ∧ Below w.heap.size w w' := fun w L => by
    have h := T.words ⟨2, 0, 0, 0, 5, A, 0, false⟩ w (.inr (.inr (.inl ⟨rfl, by dsimp only; omega, rfl, rfl, by dsimp only; omega, by dsimp only; omega, rfl, rfl⟩))) L
    rwa [show wordN ⟨2, 0, 0, 0, 5, A, 0, false⟩ = A by simp [wordN], show wordE ⟨2, 0, 0, 0, 5, A, 0, false⟩ = 0 by simp [wordE]] at h
  have k3 : ∀ w, Laid w → Calls Tryd.prog 15 #[.agg (cellsP ⟨3, 0, 0, 0, 0, 0, s, b⟩)] w fun e w' => e = .returned (.tuple #[.int .i64 (if b then 2 else 1), .int .u16 0]) ∧ Below w.heap.size w w' := fun w L => by
    have h := T.words ⟨3, 0, 0, 0, 0, 0, s, b⟩ w (.inr (.inr (.inr ⟨rfl, by dsimp only; omega, rfl, rfl, rfl, rfl, by dsimp only; omega⟩))) L
    rwa [show wordN ⟨3, 0, 0, 0, 0, 0, s, b⟩ = (if b then 2 else 1) by simp [wordN], show wordE ⟨3, 0, 0, 0, 0, 0, s, b⟩ = 0 by simp [wordE]] at h
  have k4 : ∀ w, Laid w → Calls Tryd.prog 15 #[.agg (cellsP ⟨2, 0, 0, 0, 3, n, 0, false⟩)] w fun e w' => e = .returned (.tuple #[.int .i64 0, .int .u16 23]) ∧ Below w.heap.size w w' := fun w L => by
    have h := T.words ⟨2, 0, 0, 0, 3, n, 0, false⟩ w (.inr (.inr (.inl ⟨rfl, by dsimp only; omega, rfl, rfl, by dsimp only; omega, by dsimp only; omega, rfl, rfl⟩))) L
    rwa [show wordN ⟨2, 0, 0, 0, 3, n, 0, false⟩ = 0 by simp [wordN], show wordE ⟨2, 0, 0, 0, 3, n, 0, false⟩ = 23 by simp [wordE]] at h
  have HT := Lib.hid T
  have K1 := Lib.hid k1
  have K2 := Lib.hid k2
  have K3 := Lib.hid k3
  have K4 := Lib.hid k4
  clear T k1 k2 k3 k4 hA
  have d1 : (A == A) = true := by simp
  cases b
  all_goals
    go_enter Tryd.func6, Tryd.ntmps6
    go_wp2_with fail
    refine (K1.out w (by first | exact HL.out | exact HL.out.on HC6.out | exact HL.out.on HC5.out | exact HL.out.on HC4.out | exact HL.out.on HC3.out | exact HL.out.on HC2.out | exact HL.out.on HC1.out | exact HL.out.on (HC1 _).out | exact HL.out.on HC0.out | exact HL.out.on hC5 | exact HL.out.on hC4 | exact HL.out.on hC3 | exact HL.out.on hC2 | exact HL.out.on hB1)).mono ?_
    rintro e w1 ⟨rfl, hB1⟩
    go_wp2_with fail
    refine (K2.out w1 (by first | exact HL.out | exact HL.out.on HC6.out | exact HL.out.on HC5.out | exact HL.out.on HC4.out | exact HL.out.on HC3.out | exact HL.out.on HC2.out | exact HL.out.on HC1.out | exact HL.out.on (HC1 _).out | exact HL.out.on HC0.out | exact HL.out.on hC5 | exact HL.out.on hC4 | exact HL.out.on hC3 | exact HL.out.on hC2 | exact HL.out.on hB1)).mono ?_
    rintro e w2 ⟨rfl, hB2⟩
    have hC2 := bseq' hB1 hB2
    go_wp2_with fail
    refine (K3.out w2 (by first | exact HL.out | exact HL.out.on HC6.out | exact HL.out.on HC5.out | exact HL.out.on HC4.out | exact HL.out.on HC3.out | exact HL.out.on HC2.out | exact HL.out.on HC1.out | exact HL.out.on (HC1 _).out | exact HL.out.on HC0.out | exact HL.out.on hC5 | exact HL.out.on hC4 | exact HL.out.on hC3 | exact HL.out.on hC2 | exact HL.out.on hB1)).mono ?_
    rintro e w3 ⟨rfl, hB3⟩
    have hC3 := bseq' hC2 hB3
    go_wp2_with fail
    refine (K4.out w3 (by first | exact HL.out | exact HL.out.on HC6.out | exact HL.out.on HC5.out | exact HL.out.on HC4.out | exact HL.out.on HC3.out | exact HL.out.on HC2.out | exact HL.out.on HC1.out | exact HL.out.on (HC1 _).out | exact HL.out.on HC0.out | exact HL.out.on hC5 | exact HL.out.on hC4 | exact HL.out.on hC3 | exact HL.out.on hC2 | exact HL.out.on hB1)).mono ?_
    rintro e w4 ⟨rfl, hB4⟩
    have hC4 := bseq' hC3 hB4
    go_wp2_with fail
    refine (known_ptr HT.out w4 (by first | exact HL.out | exact HL.out.on HC6.out | exact HL.out.on HC5.out | exact HL.out.on HC4.out | exact HL.out.on HC3.out | exact HL.out.on HC2.out | exact HL.out.on HC1.out | exact HL.out.on (HC1 _).out | exact HL.out.on HC0.out | exact HL.out.on hC5 | exact HL.out.on hC4 | exact HL.out.on hC3 | exact HL.out.on hC2 | exact HL.out.on hB1)).mono ?_
    rintro e w5 ⟨rfl, hB5⟩
    have hC5 := bseq' hC4 hB5
    have e1 : decide ((n : Int) ≤ 8 * A) = true := decide_eq_true a2
    have e2 : decide (8 * A < (n : Int) + 8) = true := decide_eq_true a3
    go_wp2_with fail
    go_ret
    exact ⟨rfl, hC5⟩

theorem cho_in {a b c k : Int} (a0 : 0 ≤ a) (a1 : a ≤ 4294967295) (b0 : 0 ≤ b) (b1 : b ≤ 4294967295) : InP (bendP a b c k (choP a b c k)) := by
  unfold InP I64 bendP choP
  split
  · dsimp only
    split
    · dsimp only; omega
    · split
      · dsimp only; omega
      · split
        · dsimp only; omega
        · simp only [Pt.zero]; omega
  · split
    · dsimp only; omega
    · split
      · dsimp only; omega
      · split
        · dsimp only; omega
        · decide
set_option maxRecDepth 100000 in
set_option maxHeartbeats 4000000 in
theorem pdec_walk (T : PtrOK) (n : Int) (p : Pt) (a b c k : Nat) (w : World) (h0 : 0 ≤ n) (h1 : n ≤ 18446744073709551615) (hp : InP p) (ha : a < 4294967296) (hb : b < 4294967296) (hc : c < 4294967296) (hk : k < 256) (L : Laid w) :
    Calls Tryd.prog 3 #[.int .u64 n, .agg (cellsP p), .int .u32 a, .int .u32 b, .int .u32 c, .int .u8 k] w fun e w' => e = .returned (.bool true) ∧ Below w.heap.size w w' := by
  have HL := Lib.hid L
  clear L
  have HT := Lib.hid T
  have HCh : Hid (∀ w, Calls Tryd.prog 9 #[.int .u32 a, .int .u32 b, .int .u32 c, .int .u8 k] w fun e w' => e = .returned (.agg (cellsP (bendP a b c k (choP a b c k)))) ∧ Below w.heap.size w w') := Lib.hid (fun w => cho_any a b c k w (by omega) (by omega) (by omega) (by omega) (by omega) (by omega) (by omega) (by omega))
  have HCi : Hid (InP (bendP a b c k (choP a b c k))) := Lib.hid (cho_in (by omega) (by omega) (by omega) (by omega))
  obtain ⟨q, hq⟩ : ∃ q, bendP a b c k (choP a b c k) = q := ⟨_, rfl⟩
  rw [hq] at HCh HCi
  have HI := Lib.hid hp
  have H0 := Lib.hid h0
  have H1 := Lib.hid h1
  have HP0 := Lib.hid (PBox.new w p)
  have HC0 : Hid (Below w.heap.size w (w.alloc (.cells (cellsP p) 24))) := Lib.hid ((Below.refl _ _).alloc (Nat.le_refl _) _)
  clear T hq hp h0 h1 ha hb hc
  unfold cellsP
  go_enter Tryd.func3, Tryd.ntmps3
  go_wp2_with fail
  refine (HCh.out _).mono ?_
  rintro e w1 ⟨rfl, hB1⟩
  have HP1 := Lib.hid ((HP0.out.on hB1).on ((Below.refl _ _).alloc (Nat.le_refl _) (.cells (cellsP q) 24)))
  have HQ1 := Lib.hid (PBox.new w1 q)
  have HC1 := Lib.hid (bseq' (bseq' HC0.out hB1) ((Below.refl _ _).alloc (Nat.le_refl _) (.cells (cellsP q) 24)))
  unfold cellsP
  go_wp2_with fail
  refine (known_ptr HT.out _ (by first | exact HL.out | exact HL.out.on HC6.out | exact HL.out.on HC5.out | exact HL.out.on HC4.out | exact HL.out.on HC3.out | exact HL.out.on HC2.out | exact HL.out.on HC1.out | exact HL.out.on (HC1 _).out | exact HL.out.on HC0.out | exact HL.out.on hC5 | exact HL.out.on hC4 | exact HL.out.on hC3 | exact HL.out.on hC2 | exact HL.out.on hB1)).mono ?_
  rintro e w2 ⟨rfl, hB2⟩
  have HP2 := Lib.hid (HP1.out.on hB2)
  have HQ2 := Lib.hid (HQ1.out.on hB2)
  have HC2 := Lib.hid (bseq' HC1.out hB2)
  go_wp2_with fail
  refine (decodes_any HT.out n _ H0.out H1.out (by first | exact HL.out | exact HL.out.on HC6.out | exact HL.out.on HC5.out | exact HL.out.on HC4.out | exact HL.out.on HC3.out | exact HL.out.on HC2.out | exact HL.out.on HC1.out | exact HL.out.on (HC1 _).out | exact HL.out.on HC0.out | exact HL.out.on hC5 | exact HL.out.on hC4 | exact HL.out.on hC3 | exact HL.out.on hC2 | exact HL.out.on hB1)).mono ?_
  rintro e w3 ⟨rfl, hB3⟩
  have HP3 := Lib.hid (HP2.out.on hB3)
  have HQ3 := Lib.hid (HQ2.out.on hB3)
  have HC3 := Lib.hid (bseq' HC2.out hB3)
  go_wp2_with fail
  have hs : 0 ≤ n / 2 ^ (k % 64) ∧ n / 2 ^ (k % 64) ≤ 18446744073709551615 := ⟨Int.ediv_nonneg H0.out (by have := pow_pos (k % 64); omega), Int.le_trans (Int.ediv_le_self _ H0.out) H1.out⟩
  have HS := Lib.hid hs
  clear hs
  refine (decodes_any HT.out (n / 2 ^ (k % 64)) _ HS.out.1 HS.out.2 (by first | exact HL.out | exact HL.out.on HC6.out | exact HL.out.on HC5.out | exact HL.out.on HC4.out | exact HL.out.on HC3.out | exact HL.out.on HC2.out | exact HL.out.on HC1.out | exact HL.out.on (HC1 _).out | exact HL.out.on HC0.out | exact HL.out.on hC5 | exact HL.out.on hC4 | exact HL.out.on hC3 | exact HL.out.on hC2 | exact HL.out.on hB1)).mono ?_
  rintro e w4 ⟨rfl, hB4⟩
  have HP4 := Lib.hid (HP3.out.on hB4)
  have HQ4 := Lib.hid (HQ3.out.on hB4)
  have HC4 := Lib.hid (bseq' HC3.out hB4)
  obtain ⟨z0, z1, z2, z3, z4, z5, z6, z7⟩ := HP4.out.cells
  go_wp2_with fail
  refine (encodes_any HT.out p _ HI.out (by first | exact HL.out | exact HL.out.on HC6.out | exact HL.out.on HC5.out | exact HL.out.on HC4.out | exact HL.out.on HC3.out | exact HL.out.on HC2.out | exact HL.out.on HC1.out | exact HL.out.on (HC1 _).out | exact HL.out.on HC0.out | exact HL.out.on hC5 | exact HL.out.on hC4 | exact HL.out.on hC3 | exact HL.out.on hC2 | exact HL.out.on hB1)).mono ?_
  rintro e w5 ⟨rfl, hB5⟩
  have HC5 := Lib.hid (bseq' HC4.out hB5)
  clear z0 z1 z2 z3 z4 z5 z6 z7
  obtain ⟨z0, z1, z2, z3, z4, z5, z6, z7⟩ := (HQ4.out.on hB5).cells
  go_wp2_with fail
  refine (encodes_any HT.out q _ HCi.out (by first | exact HL.out | exact HL.out.on HC6.out | exact HL.out.on HC5.out | exact HL.out.on HC4.out | exact HL.out.on HC3.out | exact HL.out.on HC2.out | exact HL.out.on HC1.out | exact HL.out.on (HC1 _).out | exact HL.out.on HC0.out | exact HL.out.on hC5 | exact HL.out.on hC4 | exact HL.out.on hC3 | exact HL.out.on hC2 | exact HL.out.on hB1)).mono ?_
  rintro e w6 ⟨rfl, hB6⟩
  have HC6 := Lib.hid (bseq' HC5.out hB6)
  go_wp2_with fail
  go_ret
  exact ⟨rfl, HC6.out⟩

end Go.Proofs.YtknmbohokmeidaaDoor
