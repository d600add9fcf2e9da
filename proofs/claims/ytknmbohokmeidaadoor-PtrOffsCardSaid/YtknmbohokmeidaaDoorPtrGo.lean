/-
  Layer 6: the package's bit, joined, laid, inList.
-/
import Derived.Test.YtknmbohokmeidaaDoorPtrLaid
import Derived.Test.YtknmbohokmeidaaDoorPtrBox
namespace Go.Proofs.YtknmbohokmeidaaDoor
open Go.RowKit Go.Deep

theorem or_add {x y : Int} (i : Nat) (h0 : 0 ≤ x) (h1 : x < 2 ^ i) (h2 : 0 ≤ y) (h3 : y % 2 ^ i = 0) (h4 : y < 18446744073709551616) (h5 : x < 18446744073709551616) : bits BinOp.or IntKind.u64 x y = x + y := by
  obtain ⟨a, rfl⟩ := Int.eq_ofNat_of_zero_le h0
  obtain ⟨b, rfl⟩ := Int.eq_ofNat_of_zero_le h2
  rw [bits_or_u64_nat a b (by omega) (by omega), Nat.or_comm, nat_join i b a (by exact_mod_cast h3) (by exact_mod_cast h1)]
  simp; omega
/-- fields, one behind the other -/
def orL (l : List Int) : Int := l.foldl (fun a x => bits BinOp.or IntKind.u64 a x) 0
theorem orL_step (l : List Int) (t : Nat) (h : t < l.length) : orL (l.take (t + 1)) = bits BinOp.or IntKind.u64 (orL (l.take t)) (l.getD t 0) := by
  unfold orL
  rw [List.take_add_one, List.foldl_append]
  simp [List.getElem?_eq_getElem h]
theorem zero_or {y : Int} (h2 : 0 ≤ y) (h4 : y < 18446744073709551616) : bits BinOp.or IntKind.u64 0 y = y := by
  have := or_add (x := 0) (y := y) 0 (by omega) (by decide) h2 (by omega) h4 (by decide)
  omega
theorem orL4 (x0 x1 x2 x3 : Int) (i1 i2 i3 : Nat) (a0 : 0 ≤ x0) (a1 : 0 ≤ x1) (a2 : 0 ≤ x2) (a3 : 0 ≤ x3) (b0 : x0 < 2 ^ i1) (b1 : x0 + x1 < 2 ^ i2) (b2 : x0 + x1 + x2 < 2 ^ i3) (c1 : x1 % 2 ^ i1 = 0) (c2 : x2 % 2 ^ i2 = 0) (c3 : x3 % 2 ^ i3 = 0) (d : x0 + x1 + x2 + x3 < 18446744073709551616) :
    orL [x0, x1, x2, x3] = x0 + x1 + x2 + x3 := by
  show bits BinOp.or IntKind.u64 (bits BinOp.or IntKind.u64 (bits BinOp.or IntKind.u64 (bits BinOp.or IntKind.u64 0 x0) x1) x2) x3 = _
  rw [zero_or a0 (by omega), or_add i1 a0 b0 a1 c1 (by omega) (by omega), or_add i2 (by omega) b1 a2 c2 (by omega) (by omega), or_add i3 (by omega) b2 a3 c3 (by omega) (by omega)]

set_option maxHeartbeats 400000 in
theorem bit_any (b : Bool) (w : World) :
    Calls Tryd.prog 23 #[.bool b] w fun e w' => e = .returned (.int .i64 (if b then 1 else 0)) ∧ w = w' := by
  cases b
  · go_enter Tryd.func23, Tryd.ntmps23
    go_wp2_with fail
    go_ret
    exact ⟨rfl, rfl⟩
  · go_enter Tryd.func23, Tryd.ntmps23
    go_wp2_with fail
    go_ret
    exact ⟨rfl, rfl⟩

theorem bits_bd (k : BinOp) (x y : Int) : 0 ≤ bits k IntKind.u64 x y ∧ bits k IntKind.u64 x y ≤ 18446744073709551615 := by
  have h : ∀ z : Int, 0 ≤ IntKind.u64.wrap z ∧ IntKind.u64.wrap z ≤ 18446744073709551615 := fun z => by rw [IntKind.wrap_u64]; omega
  cases k <;> exact h _
theorem orL_bd (l : List Int) (t : Nat) : 0 ≤ orL (l.take t) ∧ orL (l.take t) ≤ 18446744073709551615 := by
  induction t with
  | zero => simp [orL]
  | succ t ih =>
    by_cases h : t < l.length
    · rw [orL_step l t h]; exact bits_bd _ _ _
    · rw [List.take_of_length_le (by omega)]; rwa [List.take_of_length_le (by omega)] at ih

set_option maxRecDepth 100000 in
set_option maxHeartbeats 1000000 in
theorem joined_any (g n : Nat) (l : List Int) (w : World) (hn : l.length = n) (hlen : n ≤ 1000) (h : ∀ i, i < n → w.cell? ⟨g, i, none⟩ = some (.int .u64 (l.getD i 0))) :
    Calls Tryd.prog 31 #[.slice (some ⟨g, 0, none⟩) n n] w fun e w' => e = .returned (.int .u64 (orL l)) ∧ w = w' := by
  have H := Lib.hid h
  clear h
  go_enter Tryd.func31, Tryd.ntmps31
  go_wp2_with fail
  go_loopw [3, 8] (fun s i wr => ∃ t : Nat, t ≤ n ∧ i = .int .i64 t ∧ s = .int .u64 (orL (l.take t)) ∧ w = wr) (fun _ i _ => n - (intOf i).toNat)
  case atStart => exact ⟨0, by omega, rfl, rfl, rfl⟩
  case round =>
    obtain ⟨t, ht, rfl, rfl, rfl⟩ := hrel
    by_cases hlt : t < n
    · have hcell := H.out t hlt
      have HE := Lib.hid (orL_step l t (by omega))
      have hb := orL_bd l t
      generalize orL (l.take t) = S at *
      generalize l.getD t 0 = x at *
      go_wp2_with fail
      go_roundw
      case rel => exact ⟨t + 1, by omega, by go_num, by rw [HE.out], trivial⟩
      case measure => simp [intOf]; omega
    · obtain rfl : t = n := by omega
      have HE : Hid (orL (l.take t) = orL l) := Lib.hid (by rw [← hn, List.take_length])
      generalize orL (l.take t) = S at *
      go_wp2_with fail
      go_ret
      exact ⟨by rw [← HE.out]; rfl, rfl⟩

end Go.Proofs.YtknmbohokmeidaaDoor
