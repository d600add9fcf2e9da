/-
  Layer 6: the document's low, Encode and Words.
-/
import Derived.Test.YtmmlfnblodfjbaaGreatDoorZLaid
import Derived.Deep.DeepCutAuto
import Derived.Deep.CutBlock

namespace Go.Proofs.YtmmlfnblodfjbaaGreatDoor
open Go.RowKit Go.Deep

theorem low_c (x K B : Int) (w : World) (h : ∃ k : Nat, k ≤ 62 ∧ K = k ∧ (2 : Int) ^ k = B) :
    Calls Tryz.prog 48 #[.int .i64 x, .int .i64 K] w fun e w' => e = .returned (.int .u64 (x % B)) ∧ w = w' := by
  obtain ⟨k, hk, rfl, rfl⟩ := h
  have h0 : 0 ≤ IntKind.u64.wrap x ∧ IntKind.u64.wrap x ≤ 18446744073709551615 := by rw [IntKind.wrap_u64]; omega
  have HE : Hid (IntKind.u64.wrap x / 2 ^ 0 % 2 ^ k = x % 2 ^ k) := Lib.hid (by
    rw [IntKind.wrap_u64, Int.pow_zero, Int.ediv_one]
    refine Int.emod_emod_of_dvd x ⟨2 ^ (64 - k), ?_⟩
    rw [← Int.pow_add, show k + (64 - k) = 64 by omega]; rfl)
  have HB := Lib.hid (bits_any (IntKind.u64.wrap x) 0 k w h0.1 h0.2 (by omega) hk)
  rw [HE.out] at HB
  clear h0 HE
  go_enter Tryz.func48, Tryz.ntmps48
  go_wp2_with fail
  refine HB.out.mono ?_
  rintro e w' ⟨rfl, rfl⟩
  go_wp2_with fail
  go_ret
  exact ⟨rfl, rfl⟩
theorem q_low (x K B A : Int) (h : ∃ k : Nat, k ≤ 62 ∧ K = k ∧ (2 : Int) ^ k = B) (hA : x % B = A) (w : World) (k : Nat) : Calls Tryz.prog 48 #[.int .i64 x, .int .i64 K] (w.drewN k) fun e w' => e = .returned (.int .u64 A) ∧ ∃ m, w' = w.drewN m :=
  Calls.quiet_of_same ((low_c x K B _ h).mono fun _ _ ⟨h1, h2⟩ => ⟨by rw [h1, hA], h2.symm⟩)

set_option maxRecDepth 100000 in
set_option maxHeartbeats 8000000 in
theorem renc_any (p : Pt) (w : World) :
    Calls Tryz.prog 29 #[.agg (cellsP p)] w fun e w' => e = .returned (.tuple #[.int .u64 (encW p), .int .i64 (encE p)]) ∧ Below w.heap.size w w' := by
  obtain ⟨k, o, d, r, s, c, g, b⟩ := p
  have HRaw : Hid (0 ≤ rawW ⟨k, o, d, r, s, c, g, b⟩ ∧ rawW ⟨k, o, d, r, s, c, g, b⟩ < 18446744073709551616) := Lib.hid (rawW_bd _)
  obtain ⟨N, hN⟩ : ∃ N, rawW ⟨k, o, d, r, s, c, g, b⟩ = N := ⟨_, rfl⟩
  have HN := Lib.hid hN
  rw [hN] at HRaw
  clear hN
  unfold cellsP
  dsimp only
  obtain ⟨W0, hW0⟩ : ∃ W0, W0 = w.alloc (.cells #[.int .i64 k, .int .i64 o, .int .i64 d, .int .i64 r, .int .i64 s, .int .i64 c, .int .i64 g, .bool b] 70) := ⟨_, rfl⟩
  have HW0 := Lib.hid hW0
  clear hW0
  go_enter Tryz.func29, Tryz.ntmps29
  go_upto_block 0 with fail
  go_cut [4] (fun s4 wx => s4 = .int .u64 N ∧ ∃ m, wx = W0.drewN m)
  case rest =>
    obtain ⟨rfl, m, rfl⟩ := hcut
    have hcell : ∀ w2 : World, Below (W0.drewN m).heap.size (W0.drewN m) w2 → w2.heap[w.heap.size]? = some (.cells #[.int .i64 k, .int .i64 o, .int .i64 d, .int .i64 r, .int .i64 s, .int .i64 c, .int .i64 g, .bool b] 70 (0, 0)) := fun w2 h => by
      have hs : (W0.drewN m).heap.size = w.heap.size + 1 := by rw [HW0.out]; simp [World.drewN]
      rw [h.block w.heap.size (by omega)]
      show W0.heap[w.heap.size]? = _
      rw [HW0.out, blk_alloc_new]
    have HC := Lib.hid hcell
    clear hcell
    go_wp2_with fail
    refine (rdec_any N _ HRaw.out.1 (by have := HRaw.out.2; omega)).mono ?_
    rintro e w2 ⟨rfl, hB2⟩
    rw [show decE N = 0 by rw [← HN.out]; exact raw_e _]
    have hc := HC.out w2 hB2
    have HB2 : Hid (Below w.heap.size w w2) := Lib.hid (by
      have h1 : Below w.heap.size w (W0.drewN m) := by rw [HW0.out]; exact ⟨rfl, rfl, rfl, by simp [World.drewN], fun k hk => blk_alloc_lt _ _ _ hk⟩
      exact h1.trans (hB2.mono h1.size))
    have hlt : w.heap.size < w2.heap.size := (Array.getElem?_eq_some_iff.1 hc).1
    obtain ⟨q, hq⟩ : ∃ q, decP N = q := ⟨_, rfl⟩
    rw [hq]
    have HQ := Lib.hid hq
    clear hq hB2
    have hcw : (w2.alloc (.cells (cellsP q) 70)).heap[w.heap.size]? = some (.cells #[.int .i64 k, .int .i64 o, .int .i64 d, .int .i64 r, .int .i64 s, .int .i64 c, .int .i64 g, .bool b] 70 (0, 0)) := (blk_alloc_lt _ _ _ hlt).trans hc
    have HBw : Hid (Below w.heap.size w (w2.alloc (.cells (cellsP q) 70))) := Lib.hid (HB2.out.alloc HB2.out.size _)
    have hne := fun w => run_neq_P w q ⟨k, o, d, r, s, c, g, b⟩
    have hgd := fun w op x y xs ys => run_eqGuard_agg (P := Tryz.prog) w op 70 x y xs ys (by kernel_rfl)
    unfold cellsP at hcw hne ⊢
    dsimp only at hcw hne ⊢
    have y0 : ∀ j v, (#[Value.int .i64 k, .int .i64 o, .int .i64 d, .int .i64 r, .int .i64 s, .int .i64 c, .int .i64 g, .bool b])[j]? = some v → (w2.alloc (.cells #[.int .i64 q.kind, .int .i64 q.off, .int .i64 q.data, .int .i64 q.ptrs, .int .i64 q.size, .int .i64 q.count, .int .i64 q.seg, .bool q.dbl] 70)).cell? ⟨w.heap.size, j, none⟩ = some v := fun j v hv => by simp [World.cell?, hcw, hv]
    have z0 := y0 0 _ rfl
    have z1 := y0 1 _ rfl
    have z2 := y0 2 _ rfl
    have z3 := y0 3 _ rfl
    have z4 := y0 4 _ rfl
    have z5 := y0 5 _ rfl
    have z6 := y0 6 _ rfl
    have z7 := y0 7 _ rfl
    clear hcw y0 hc hlt
    cases hb : eqP q ⟨k, o, d, r, s, c, g, b⟩ with
    | true =>
      rw [hb] at hne
      have HE : Hid (encW ⟨k, o, d, r, s, c, g, b⟩ = N ∧ encE ⟨k, o, d, r, s, c, g, b⟩ = 0) := Lib.hid (by
        have : encB ⟨k, o, d, r, s, c, g, b⟩ = true := by unfold encB; rw [raw_e, HN.out, HQ.out, hb]; rfl
        unfold encW encE
        rw [this, HN.out]
        exact ⟨rfl, rfl⟩)
      clear hb
      go_wp2_with fail
      go_ret2
      exact ⟨by rw [HE.out.1, HE.out.2]; rfl, HBw.out⟩
    | false =>
      rw [hb] at hne
      have HE : Hid (encW ⟨k, o, d, r, s, c, g, b⟩ = 0 ∧ encE ⟨k, o, d, r, s, c, g, b⟩ = 1) := Lib.hid (by
        have : encB ⟨k, o, d, r, s, c, g, b⟩ = false := by unfold encB; rw [raw_e, HN.out, HQ.out, hb]; rfl
        unfold encW encE
        rw [this]
        exact ⟨rfl, rfl⟩)
      clear hb
      go_wp2_with fail
      go_ret2
      exact ⟨by rw [HE.out.1, HE.out.2]; rfl, HBw.out⟩
  case first =>
    by_cases k1 : k = 1
    · subst k1
      obtain ⟨A, hA⟩ : ∃ A, o % 1073741824 = A := ⟨_, rfl⟩
      obtain ⟨D, hD⟩ : ∃ A, d % 65536 = A := ⟨_, rfl⟩
      obtain ⟨R, hR⟩ : ∃ A, r % 65536 = A := ⟨_, rfl⟩
      have HV : Hid (4 * A + D * 4294967296 + R * 281474976710656 = N) := Lib.hid (by rw [← HN.out]; simp [rawW, hA, hD, hR])
      have QA := Lib.hid (fun w k => q_low o 30 1073741824 A ⟨30, by decide, rfl, by decide⟩ hA w k)
      have bA : 0 ≤ A ∧ A < 1073741824 := by omega
      have QD := Lib.hid (fun w k => q_low d 16 65536 D ⟨16, by decide, rfl, by decide⟩ hD w k)
      have bD : 0 ≤ D ∧ D < 65536 := by omega
      have QR := Lib.hid (fun w k => q_low r 16 65536 R ⟨16, by decide, rfl, by decide⟩ hR w k)
      have bR : 0 ≤ R ∧ R < 65536 := by omega
      clear hA hD hR
      go_wp2_with fail
      go_quiet ((go_at_call 48; first | exact QA.out _ _ | exact QD.out _ _ | exact QR.out _ _))
      go_wp2_with fail
      go_meet
      exact ⟨congrArg (Value.int .u64) HV.out, _, by rw [HW0.out]⟩
    have d1 : (k == 1) = false := by simpa using k1
    by_cases k2 : k = 2
    · subst k2
      obtain ⟨A, hA⟩ : ∃ A, o % 1073741824 = A := ⟨_, rfl⟩
      obtain ⟨D, hD⟩ : ∃ A, s % 8 = A := ⟨_, rfl⟩
      obtain ⟨R, hR⟩ : ∃ A, c % 536870912 = A := ⟨_, rfl⟩
      have HV : Hid (1 + 4 * A + D * 4294967296 + R * 34359738368 = N) := Lib.hid (by rw [← HN.out]; simp [rawW, hA, hD, hR])
      have QA := Lib.hid (fun w k => q_low o 30 1073741824 A ⟨30, by decide, rfl, by decide⟩ hA w k)
      have bA : 0 ≤ A ∧ A < 1073741824 := by omega
      have QD := Lib.hid (fun w k => q_low s 3 8 D ⟨3, by decide, rfl, by decide⟩ hD w k)
      have bD : 0 ≤ D ∧ D < 8 := by omega
      have QR := Lib.hid (fun w k => q_low c 29 536870912 R ⟨29, by decide, rfl, by decide⟩ hR w k)
      have bR : 0 ≤ R ∧ R < 536870912 := by omega
      clear hA hD hR
      go_wp2_with fail
      go_quiet ((go_at_call 48; first | exact QA.out _ _ | exact QD.out _ _ | exact QR.out _ _))
      go_wp2_with fail
      go_meet
      exact ⟨congrArg (Value.int .u64) HV.out, _, by rw [HW0.out]⟩
    have d2 : (k == 2) = false := by simpa using k2
    by_cases k3 : k = 3
    · subst k3
      cases b
      · obtain ⟨A, hA⟩ : ∃ A, o % 536870912 = A := ⟨_, rfl⟩
        obtain ⟨D, hD⟩ : ∃ A, g % 4294967296 = A := ⟨_, rfl⟩
        have HV : Hid (2 + 8 * A + D * 4294967296 = N) := Lib.hid (by rw [← HN.out]; simp [rawW, hA, hD])
        have QA := Lib.hid (fun w k => q_low o 29 536870912 A ⟨29, by decide, rfl, by decide⟩ hA w k)
        have bA : 0 ≤ A ∧ A < 536870912 := by omega
        have QD := Lib.hid (fun w k => q_low g 32 4294967296 D ⟨32, by decide, rfl, by decide⟩ hD w k)
        have bD : 0 ≤ D ∧ D < 4294967296 := by omega
        clear hA hD
        go_wp2_with fail
        go_quiet ((go_at_call 48; first | exact QA.out _ _ | exact QD.out _ _))
        go_wp2_with fail
        go_meet
        exact ⟨congrArg (Value.int .u64) HV.out, _, by rw [HW0.out]⟩
      · obtain ⟨A, hA⟩ : ∃ A, o % 536870912 = A := ⟨_, rfl⟩
        obtain ⟨D, hD⟩ : ∃ A, g % 4294967296 = A := ⟨_, rfl⟩
        have HV : Hid (2 + 8 * A + D * 4294967296 + 4 = N) := Lib.hid (by rw [← HN.out]; simp [rawW, hA, hD])
        have QA := Lib.hid (fun w k => q_low o 29 536870912 A ⟨29, by decide, rfl, by decide⟩ hA w k)
        have bA : 0 ≤ A ∧ A < 536870912 := by omega
        have QD := Lib.hid (fun w k => q_low g 32 4294967296 D ⟨32, by decide, rfl, by decide⟩ hD w k)
        have bD : 0 ≤ D ∧ D < 4294967296 := by omega
        clear hA hD
        go_wp2_with fail
        go_quiet ((go_at_call 48; first | exact QA.out _ _ | exact QD.out _ _))
        go_wp2_with fail
        go_meet
        exact ⟨congrArg (Value.int .u64) HV.out, _, by rw [HW0.out]⟩
    have d3 : (k == 3) = false := by simpa using k3
    have HV : Hid ((0 : Int) = N) := Lib.hid (by rw [← HN.out]; simp [rawW, k1, k2, k3])
    go_wp2_with fail
    go_meet
    exact ⟨congrArg (Value.int .u64) HV.out, 0, by rw [HW0.out]; rfl⟩

end Go.Proofs.YtmmlfnblodfjbaaGreatDoor
