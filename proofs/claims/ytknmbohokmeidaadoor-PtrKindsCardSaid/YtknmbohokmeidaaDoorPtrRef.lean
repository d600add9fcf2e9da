/-
  Layer 6: the document's own functions (bits, low, Decode, Encode, Words).
-/
import Derived.Test.YtknmbohokmeidaaDoorPtrMath
import Derived.Test.YtknmbohokmeidaaDoorWordNum
import Derived.Deep.QuietTactic
import Derived.BigQuiet
import Derived.Laws.StructEq
import Derived.IntWalk
import Derived.Below
import Derived.Deep.OwnRows
namespace Go.Proofs.YtknmbohokmeidaaDoor
open Go.RowKit Go.Deep

theorem half_step (n : Int) (t : Nat) : n / 2 ^ (t + 1) = n / 2 ^ t / 2 := by
  have hp := pow_pos t
  rw [Int.pow_succ, Int.ediv_ediv, if_neg (by omega)]; omega
set_option maxHeartbeats 400000 in
theorem bits_any (n : Int) (f k : Nat) (w : World) (h0 : 0 ≤ n) (h1 : n ≤ 18446744073709551615) (hf : f ≤ 63) (hk : k ≤ 62) :
    Calls Tryd.prog 25 #[.int .u64 n, .int .i64 f, .int .i64 k] w fun e w' => e = .returned (.int .u64 (n / 2 ^ f % 2 ^ k)) ∧ w = w' := by
  go_enter Tryd.func25, Tryd.ntmps25
  go_wp2
  go_loop [0, 7] (fun m i => ∃ t : Nat, t ≤ f ∧ i = .int .i64 t ∧ m = .int .u64 (n / 2 ^ t)) (fun _ i => f - (intOf i).toNat)
  case atStart => exact ⟨0, by omega, rfl, by simp⟩
  case round =>
    obtain ⟨t, t1, rfl, rfl⟩ := hrel
    have HS := Lib.hid (half_step n t)
    have q0 : 0 ≤ n / 2 ^ t := Int.ediv_nonneg h0 (by have := pow_pos t; omega)
    have q1 : n / 2 ^ t ≤ 18446744073709551615 := Int.le_trans (Int.ediv_le_self _ h0) h1
    obtain ⟨m, hm⟩ : ∃ m, m = n / 2 ^ t := ⟨_, rfl⟩
    have HM := Lib.hid hm
    rw [← hm] at HS q0 q1 ⊢
    clear hm
    by_cases hlt : t < f
    · have hw : IntKind.u64.wrap (m / 2) = m / 2 := by rw [IntKind.wrap_u64]; omega
      go_wp2
      go_round
      case rel => exact ⟨t + 1, by omega, by go_num, by rw [HS.out]⟩
      case measure => simp [intOf]; omega
    · obtain rfl : t = f := by omega
      clear HS
      go_wp2
      go_loop [8, 9] (fun p i => ∃ u : Nat, u ≤ k ∧ i = .int .i64 u ∧ p = .int .u64 (2 ^ u)) (fun _ i => k - (intOf i).toNat)
      case atStart => exact ⟨0, by omega, rfl, by simp⟩
      case round =>
        obtain ⟨u, u1, rfl, rfl⟩ := hrel
        have HS := Lib.hid (pow_succ' u)
        have p0 := pow_pos u
        have p2 := pow_le62 (k := u) (by omega)
        by_cases hlu : u < k
        · have p1 := pow_le61 (k := u) (by omega)
          generalize (2 : Int) ^ u = p at *
          go_wp2
          go_round
          case rel => exact ⟨u + 1, by omega, by go_num, by rw [HS.out]⟩
          case measure => simp [intOf]; omega
        · obtain rfl : u = k := by omega
          obtain ⟨p, hp⟩ : ∃ p, p = (2 : Int) ^ u := ⟨_, rfl⟩
          have HP := Lib.hid hp
          rw [← hp] at HS p0 p2 ⊢
          clear hp
          have hp : p ≠ 0 := by omega
          go_wp2
          go_ret
          exact ⟨by rw [← HM.out, ← HP.out]; simp, rfl⟩

theorem bits_c (n F K A B : Int) (w : World) (h0 : 0 ≤ n) (h1 : n ≤ 18446744073709551615) (h : ∃ f k : Nat, f ≤ 63 ∧ k ≤ 62 ∧ F = f ∧ K = k ∧ (2 : Int) ^ f = A ∧ (2 : Int) ^ k = B) :
    Calls Tryd.prog 25 #[.int .u64 n, .int .i64 F, .int .i64 K] w fun e w' => e = .returned (.int .u64 (n / A % B)) ∧ w = w' := by
  obtain ⟨f, k, hf, hk, rfl, rfl, rfl, rfl⟩ := h
  exact bits_any n f k w h0 h1 hf hk

/-- a pointer's cells -/
def cellsP (p : Pt) : Array Value := #[.int .i64 p.kind, .int .i64 p.off, .int .i64 p.data, .int .i64 p.ptrs, .int .i64 p.size, .int .i64 p.count, .int .i64 p.seg, .bool p.dbl]
theorem run_eql_P (w : World) (p q : Pt) : (binOp .eql 24 (.agg (cellsP p)) (.agg (cellsP q))).run Tryd.prog w = .ok (.bool (eqP p q)) w := by
  rw [run_eql_struct, show (10000 : Nat) = 9999 + 1 from rfl, run_equalIn_struct _ _ _ _ _ (by kernel_rfl) (by kernel_rfl)]
  have u3 := Tryd.underlying3
  have u4 := Tryd.underlying4
  have e3 : ∀ (a b : Int) (w : World), (Op.equalIn 9999 3 (.int .i64 a) (.int .i64 b)).run Tryd.prog w = .ok (a == b) w := fun a b w => run_equalIn_int w 9998 _ _ _ a b u3
  have e4 : ∀ (a b : Bool) (w : World), (Op.equalIn 9999 4 (.bool a) (.bool b)).run Tryd.prog w = .ok (a == b) w := fun a b w => run_equalIn_bool' w 9998 _ a b u4
  simp [Program.fieldsOf, Tryd.underlying24, Op.eqFields, part, isAgg, run_underlying u3, run_underlying u4, cellsP, e3, e4]
  unfold eqP
  obtain ⟨a, b, c, d, e, f, g, h⟩ := p
  obtain ⟨a', b', c', d', e', f', g', h'⟩ := q
  by_cases k1 : a = a' <;> by_cases k2 : b = b' <;> by_cases k3 : c = c' <;> by_cases k4 : d = d' <;> simp [k1, k2, k3, k4]
  by_cases k5 : e = e' <;> by_cases k6 : f = f' <;> by_cases k7 : g = g' <;> by_cases k8 : h = h' <;> simp [k5, k6, k7, k8]
theorem run_neq_P (w : World) (p q : Pt) : (binOp .neq 24 (.agg (cellsP p)) (.agg (cellsP q))).run Tryd.prog w = .ok (.bool (!(eqP p q))) w := by
  have h := run_eql_P w p q
  rw [run_eql_struct] at h
  rw [run_neq_struct]
  cases hr : (Op.equalIn 10000 24 (.agg (cellsP p)) (.agg (cellsP q))).run Tryd.prog w with
  | ok b w' =>
    rw [hr] at h
    simp only [Result.andThen_ok, Result.ok.injEq, Value.bool.injEq] at h
    simp only [Result.andThen_ok, Result.ok.injEq, Value.bool.injEq]
    exact ⟨by rw [h.1], h.2⟩
  | halt e w' =>
    rw [hr] at h
    cases h

set_option maxRecDepth 100000 in
set_option maxHeartbeats 1000000 in
theorem rdec_any (n : Int) (w : World) (h0 : 0 ≤ n) (h1 : n ≤ 18446744073709551615) :
    Calls Tryd.prog 16 #[.int .u64 n] w fun e w' => e = .returned (.tuple #[.agg (cellsP (decP n)), .int .i64 (decE n)]) ∧ Below w.heap.size w w' := by
  by_cases z : n = 0
  · have HE : Hid (decP n = Pt.zero ∧ decE n = 0) := Lib.hid (by rw [z]; exact ⟨rfl, rfl⟩)
    rw [HE.out.1, HE.out.2]
    subst z
    clear HE h0 h1
    go_enter Tryd.func16, Tryd.ntmps16
    go_wp2_with fail
    refine bodyPost_ret (v := .tuple #[.agg (cellsP Pt.zero), .int .i64 0]) ?_ rfl ⟨rfl, (Below.refl _ _).alloc (Nat.le_refl _) _⟩
    simp [results, Tryd.f16, go_sem, cellsP, Pt.zero]
  · have d0 : (n == 0) = false := by simpa using z
    have o0 : 0 ≤ n / 4 % 1073741824 := by omega
    have o1 : n / 4 % 1073741824 ≤ 18446744073709551615 := by omega
    have HO := Lib.hid (sgn30_is (n / 4 % 1073741824) (by omega) (by omega))
    rcases (show n % 4 = 0 ∨ n % 4 = 1 ∨ n % 4 = 2 ∨ n % 4 = 3 by omega) with m4 | m4 | m4 | m4
    · have HE : Hid (decP n = ⟨1, sgn30 (n / 4 % 1073741824), n / 4294967296 % 65536, n / 281474976710656 % 65536, 0, 0, 0, false⟩ ∧ decE n = 0) := Lib.hid (by
        unfold decP decE
        rw [if_neg z, m4]
        exact ⟨by simp, by simp⟩)
      rw [HE.out.1, HE.out.2]
      clear HE
      go_enter Tryd.func16, Tryd.ntmps16
      go_wp2_with fail
      refine (bits_c n 2 30 4 1073741824 _ h0 h1 ⟨2, 30, by decide, by decide, rfl, rfl, by decide, by decide⟩).mono ?_
      rintro e w' ⟨rfl, rfl⟩
      go_wp2_with fail
      refine (signedr_any _ 30 _ o0 o1).mono ?_
      rintro e w' ⟨rfl, rfl⟩
      rw [show clipK 30 = 30 by decide, HO.out]
      go_wp2_with fail
      refine (bits_c n 32 16 4294967296 65536 _ h0 h1 ⟨32, 16, by decide, by decide, rfl, rfl, by decide, by decide⟩).mono ?_
      rintro e w' ⟨rfl, rfl⟩
      go_wp2_with fail
      refine (bits_c n 48 16 281474976710656 65536 _ h0 h1 ⟨48, 16, by decide, by decide, rfl, rfl, by decide, by decide⟩).mono ?_
      rintro e w' ⟨rfl, rfl⟩
      go_wp2_with fail
      refine bodyPost_ret (v := .tuple #[.agg (cellsP ⟨1, sgn30 (n / 4 % 1073741824), n / 4294967296 % 65536, n / 281474976710656 % 65536, 0, 0, 0, false⟩), .int .i64 0]) ?_ rfl ⟨rfl, (Below.refl _ _).alloc (Nat.le_refl _) _⟩
      simp [results, Tryd.f16, go_sem, cellsP]
    · have HE : Hid (decP n = ⟨2, sgn30 (n / 4 % 1073741824), 0, 0, n / 4294967296 % 8, n / 34359738368 % 536870912, 0, false⟩ ∧ decE n = 0) := Lib.hid (by
        unfold decP decE
        rw [if_neg z, m4]
        exact ⟨by simp, by simp⟩)
      rw [HE.out.1, HE.out.2]
      clear HE
      go_enter Tryd.func16, Tryd.ntmps16
      go_wp2_with fail
      refine (bits_c n 2 30 4 1073741824 _ h0 h1 ⟨2, 30, by decide, by decide, rfl, rfl, by decide, by decide⟩).mono ?_
      rintro e w' ⟨rfl, rfl⟩
      go_wp2_with fail
      refine (signedr_any _ 30 _ o0 o1).mono ?_
      rintro e w' ⟨rfl, rfl⟩
      rw [show clipK 30 = 30 by decide, HO.out]
      go_wp2_with fail
      refine (bits_c n 32 3 4294967296 8 _ h0 h1 ⟨32, 3, by decide, by decide, rfl, rfl, by decide, by decide⟩).mono ?_
      rintro e w' ⟨rfl, rfl⟩
      go_wp2_with fail
      refine (bits_c n 35 29 34359738368 536870912 _ h0 h1 ⟨35, 29, by decide, by decide, rfl, rfl, by decide, by decide⟩).mono ?_
      rintro e w' ⟨rfl, rfl⟩
      go_wp2_with fail
      refine bodyPost_ret (v := .tuple #[.agg (cellsP ⟨2, sgn30 (n / 4 % 1073741824), 0, 0, n / 4294967296 % 8, n / 34359738368 % 536870912, 0, false⟩), .int .i64 0]) ?_ rfl ⟨rfl, (Below.refl _ _).alloc (Nat.le_refl _) _⟩
      simp [results, Tryd.f16, go_sem, cellsP]
    · have HE : Hid (decP n = ⟨3, n / 8 % 536870912, 0, 0, 0, 0, n / 4294967296 % 4294967296, decide (n / 4 % 2 = 1)⟩ ∧ decE n = 0) := Lib.hid (by
        unfold decP decE
        rw [if_neg z, m4]
        exact ⟨by simp, by simp⟩)
      rw [HE.out.1, HE.out.2]
      clear HE
      go_enter Tryd.func16, Tryd.ntmps16
      go_wp2_with fail
      refine (bits_c n 2 30 4 1073741824 _ h0 h1 ⟨2, 30, by decide, by decide, rfl, rfl, by decide, by decide⟩).mono ?_
      rintro e w' ⟨rfl, rfl⟩
      go_wp2_with fail
      refine (signedr_any _ 30 _ o0 o1).mono ?_
      rintro e w' ⟨rfl, rfl⟩
      rw [show clipK 30 = 30 by decide, HO.out]
      go_wp2_with fail
      refine (bits_c n 3 29 8 536870912 _ h0 h1 ⟨3, 29, by decide, by decide, rfl, rfl, by decide, by decide⟩).mono ?_
      rintro e w' ⟨rfl, rfl⟩
      go_wp2_with fail
      refine (bits_c n 32 32 4294967296 4294967296 _ h0 h1 ⟨32, 32, by decide, by decide, rfl, rfl, by decide, by decide⟩).mono ?_
      rintro e w' ⟨rfl, rfl⟩
      go_wp2_with fail
      refine (bits_c n 2 1 4 2 _ h0 h1 ⟨2, 1, by decide, by decide, rfl, rfl, by decide, by decide⟩).mono ?_
      rintro e w' ⟨rfl, rfl⟩
      go_wp2_with fail
      refine bodyPost_ret (v := .tuple #[.agg (cellsP ⟨3, n / 8 % 536870912, 0, 0, 0, 0, n / 4294967296 % 4294967296, n / 4 % 2 == 1⟩), .int .i64 0]) ?_ rfl ⟨rfl, (Below.refl _ _).alloc (Nat.le_refl _) _⟩
      simp [results, Tryd.f16, go_sem, cellsP]
    · have HE : Hid (decP n = Pt.zero ∧ decE n = 23) := Lib.hid (by
        unfold decP decE
        rw [if_neg z, m4]
        exact ⟨by simp, by simp⟩)
      rw [HE.out.1, HE.out.2]
      clear HE
      go_enter Tryd.func16, Tryd.ntmps16
      go_wp2_with fail
      refine (bits_c n 2 30 4 1073741824 _ h0 h1 ⟨2, 30, by decide, by decide, rfl, rfl, by decide, by decide⟩).mono ?_
      rintro e w' ⟨rfl, rfl⟩
      go_wp2_with fail
      refine (signedr_any _ 30 _ o0 o1).mono ?_
      rintro e w' ⟨rfl, rfl⟩
      rw [show clipK 30 = 30 by decide, HO.out]
      go_wp2_with fail
      refine bodyPost_ret (v := .tuple #[.agg (cellsP Pt.zero), .int .i64 23]) ?_ rfl ⟨rfl, (Below.refl _ _).alloc (Nat.le_refl _) _⟩
      simp [results, Tryd.f16, go_sem, cellsP, Pt.zero]

end Go.Proofs.YtknmbohokmeidaaDoor
