/-
  Layer 3's small functions: long, clip, has, Get of the program and of the document, and the library's counts of one byte's bits.
-/
import Derived.Test.YtmjgpgibifceeaaWordNum
import Derived.Test.YtmjgpgibifceeaaWordFacts
import Derived.Test.YtmjgpgibifceeaaBitsMath
import Derived.Lib.Strings
import Derived.Lib.Slices
import Derived.Lib.Small
import Derived.Lib.Walk
namespace Go.Proofs.Ytmjgpgibifceeaa
open Go.RowKit Go.Deep

theorem Bytes.parts {w : World} {B : Nat} {v : Value} {l : List Int} (h : Bytes w B v l) : ∃ A c, v = .slice A l.length c ∧ l.length ≤ c ∧ c ≤ 9223372036854775807 ∧ (0 < l.length → ∃ b off, A = some ⟨b, off, none⟩ ∧ ∀ j, j < l.length → w.cell? ⟨b, off + j, none⟩ = some (.int .u8 (l[j]?.getD 0))) := by
  obtain ⟨A, c, e, hc, hm, hr⟩ := h
  refine ⟨A, c, e, hc, hm, fun hp => ?_⟩
  obtain ⟨b, off, e, _, hcell⟩ := hr hp
  exact ⟨b, off, e, hcell⟩

theorem clipN_int (n : Int) : (clipN n : Int) = min (max n 0) 65536 := by unfold clipN; omega

theorem and_one8 (x : Int) (h0 : 0 ≤ x) (h1 : x < 256) : bits BinOp.and IntKind.u8 x 1 = x % 2 := by
  have h : ∀ n : Fin 256, bits BinOp.and IntKind.u8 (n.val : Int) 1 = (n.val : Int) % 2 := by decide +kernel
  have := h ⟨x.toNat, by omega⟩
  simpa only [Int.toNat_of_nonneg h0] using this
theorem bit_shr {x : Int} {k : Nat} (h0 : 0 ≤ x) (h1 : x ≤ 255) : (bits BinOp.and IntKind.u8 (x / 2 ^ k) 1 == 1) = bitN x k := by
  have p := pow_pos k
  have q0 : 0 ≤ x / 2 ^ k := Int.ediv_nonneg h0 (by omega)
  have q1 : x / 2 ^ k ≤ x := Int.ediv_le_self _ h0
  rw [and_one8 _ q0 (by omega), Bool.eq_iff_iff, beq_iff_eq]
  unfold bitN
  rw [decide_eq_true_iff]
theorem ret_bool {a b : Bool} (h : a = b) : Ending.returned (.bool a) = .returned (.bool b) := by rw [h]

set_option maxHeartbeats 400000 in
theorem bhas_any (A : Option Addr) (len c : Nat) (i : Int) (w : World) (h0 : -9223372036854775808 ≤ i) (h1 : i ≤ 9223372036854775807) :
    Calls Try.prog 32 #[.slice A len c, .int .i64 i] w fun e w' => e = .returned (.bool (hasB len i)) ∧ w = w' := by
  by_cases h : i < 0
  · go_enter Try.func32, Try.ntmps32
    go_wp2
    go_ret
    exact ⟨ret_bool (by simp [hasB]; omega), rfl⟩
  · by_cases h2 : i / 8 < len
    · go_enter Try.func32, Try.ntmps32
      go_wp2
      go_ret
      exact ⟨ret_bool (by simp [hasB]; omega), rfl⟩
    · go_enter Try.func32, Try.ntmps32
      go_wp2
      go_ret
      exact ⟨ret_bool (by simp [hasB]; omega), rfl⟩

set_option maxHeartbeats 400000 in
theorem bget_core (A : Option Addr) (len c : Nat) (l : List Int) (i : Int) (w : World) (hlen : l.length = len) (hl : AllB l) (h0 : -9223372036854775808 ≤ i) (h1 : i ≤ 9223372036854775807)
    (hr : 0 < l.length → ∃ b off, A = some ⟨b, off, none⟩ ∧ ∀ j, j < l.length → w.cell? ⟨b, off + j, none⟩ = some (.int .u8 (l[j]?.getD 0))) :
    Calls Try.prog 27 #[.slice A len c, .int .i64 i] w fun e w' => e = .returned (.bool (getB l i)) ∧ w = w' := by
  by_cases h : 0 ≤ i ∧ i / 8 < len
  · obtain ⟨k, rfl⟩ := Int.eq_ofNat_of_zero_le h.1
    have hk : k / 8 < len := by omega
    obtain ⟨b, off, rfl, hc⟩ := hr (by omega)
    have hcell := hc (k / 8) (by omega)
    have hb := hl.at_ (k / 8)
    have HL := Lib.hid hlen
    have hh : hasB len (k : Int) = true := by simp [hasB]; omega
    have HG : Hid (getB l (k : Int) = bitN (l[k / 8]?.getD 0) (k % 8)) := Lib.hid (getB_nat l k)
    clear hc hr hlen h
    generalize l[k / 8]?.getD 0 = x at *
    go_enter Try.func27, Try.ntmps27
    go_wp2_with (go_at_call 32; refine (bhas_any _ _ _ _ _ h0 h1).mono ?_; rintro e w' ⟨rfl, rfl⟩; rw [hh])
    go_ret
    refine ⟨ret_bool ?_, rfl⟩
    rw [HG.out, bit_shr hb.1 hb.2]
  · have hh : hasB len i = false := by simp only [hasB, decide_eq_false_iff_not]; exact h
    rw [getB_out (by rw [hlen]; exact h)]
    clear hr hlen
    go_enter Try.func27, Try.ntmps27
    go_wp2_with (go_at_call 32; refine (bhas_any _ _ _ _ _ h0 h1).mono ?_; rintro e w' ⟨rfl, rfl⟩; rw [hh])
    go_ret
    exact ⟨rfl, rfl⟩

/-- Get of a row of bytes, wherever it lies -/
theorem bget_any (v : Value) (l : List Int) (B : Nat) (i : Int) (w : World) (h : Bytes w B v l) (hl : AllB l) (h0 : -9223372036854775808 ≤ i) (h1 : i ≤ 9223372036854775807) :
    Calls Try.prog 27 #[v, .int .i64 i] w fun e w' => e = .returned (.bool (getB l i)) ∧ w = w' := by
  obtain ⟨A, c, rfl, hc, hm, hr⟩ := h.parts
  exact bget_core A l.length c l i w rfl hl h0 h1 hr

/-! ### the document's Get -/
theorem half_step (x : Int) (t : Nat) : x / 2 ^ t / 2 = x / 2 ^ (t + 1) := by
  have h := pow_pos t
  rw [Int.ediv_ediv, if_neg (by omega), Int.sub_zero, Int.pow_succ]

set_option maxHeartbeats 400000 in
theorem rget_core (A : Option Addr) (len c : Nat) (l : List Int) (i : Int) (w : World) (hlen : l.length = len) (hl : AllB l) (h0 : -9223372036854775808 ≤ i) (h1 : i ≤ 9223372036854775807)
    (hr : 0 < l.length → ∃ b off, A = some ⟨b, off, none⟩ ∧ ∀ j, j < l.length → w.cell? ⟨b, off + j, none⟩ = some (.int .u8 (l[j]?.getD 0))) :
    Calls Try.prog 29 #[.slice A len c, .int .i64 i] w fun e w' => e = .returned (.bool (getB l i)) ∧ w = w' := by
  by_cases h : 0 ≤ i ∧ i / 8 < len
  · obtain ⟨k, rfl⟩ := Int.eq_ofNat_of_zero_le h.1
    have hk : k / 8 < len := by omega
    obtain ⟨b, off, rfl, hc⟩ := hr (by omega)
    have hcell := hc (k / 8) (by omega)
    have hb := hl.at_ (k / 8)
    have HL := Lib.hid hlen
    have HG : Hid (getB l (k : Int) = bitN (l[k / 8]?.getD 0) (k % 8)) := Lib.hid (getB_nat l k)
    clear hc hr hlen h
    generalize l[k / 8]?.getD 0 = x at *
    obtain ⟨j, hj⟩ : ∃ j, j = k % 8 := ⟨_, rfl⟩
    have HJ := Lib.hid hj
    rw [← hj] at HG
    have j8 : j < 8 := by omega
    have jk : (k : Int) % 8 = j := by omega
    clear hj
    have HK := Lib.hid jk
    have jk1 : (k : Int) % 8 ≤ j := by omega
    have jk2 : j ≤ (k : Int) % 8 := by omega
    clear jk
    go_enter Try.func29, Try.ntmps29
    go_wp2
    go_loop [5, 6] (fun y t => ∃ n : Nat, n ≤ j ∧ t = .int .i64 n ∧ y = .int .i64 (x / 2 ^ n)) (fun _ t => j - (intOf t).toNat)
    case atStart => exact ⟨0, by omega, rfl, by simp⟩
    case round =>
      obtain ⟨n, hn, rfl, rfl⟩ := hrel
      have p := pow_pos n
      have q0 : 0 ≤ x / 2 ^ n := Int.ediv_nonneg hb.1 (by omega)
      have q1 : x / 2 ^ n ≤ x := Int.ediv_le_self _ hb.1
      have HS := Lib.hid (half_step x n)
      by_cases hlt : n < j
      · generalize x / 2 ^ n = y at *
        go_wp2
        go_round
        case rel => exact ⟨n + 1, by omega, by go_num, by rw [HS.out]⟩
        case measure => simp [intOf]; omega
      · obtain rfl : n = j := by omega
        have HB : Hid (bitN x n = decide (x / 2 ^ n % 2 = 1)) := Lib.hid rfl
        generalize x / 2 ^ n = y at *
        go_wp2
        go_ret
        exact ⟨ret_bool (by rw [HG.out, HB.out, Bool.eq_iff_iff, beq_iff_eq, decide_eq_true_iff]), rfl⟩
  · rw [getB_out (by rw [hlen]; exact h)]
    clear hr hlen
    by_cases hneg : i < 0
    · go_enter Try.func29, Try.ntmps29
      go_wp2
      go_ret
      exact ⟨rfl, rfl⟩
    · have hge : (len : Int) ≤ i / 8 := by omega
      go_enter Try.func29, Try.ntmps29
      go_wp2
      go_ret
      exact ⟨rfl, rfl⟩

theorem rget_any (v : Value) (l : List Int) (B : Nat) (i : Int) (w : World) (h : Bytes w B v l) (hl : AllB l) (h0 : -9223372036854775808 ≤ i) (h1 : i ≤ 9223372036854775807) :
    Calls Try.prog 29 #[v, .int .i64 i] w fun e w' => e = .returned (.bool (getB l i)) ∧ w = w' := by
  obtain ⟨A, c, rfl, hc, hm, hr⟩ := h.parts
  exact rget_core A l.length c l i w rfl hl h0 h1 hr

end Go.Proofs.Ytmjgpgibifceeaa
