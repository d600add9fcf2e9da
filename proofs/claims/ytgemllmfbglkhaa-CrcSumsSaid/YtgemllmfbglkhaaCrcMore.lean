/-
  crc.More and crc.Sum, and the document's: the plain sum of a row of bytes.
-/
import Derived.Test.YtgemllmfbglkhaaCrcTable
namespace Go.Proofs.Ytgemllmfbglkhaa
open Go.RowKit Go.Deep

/-- a row of bytes as plain numbers -/
def nats (l : List Int) : List Nat := l.map Int.toNat
theorem nats_length (l : List Int) : (nats l).length = l.length := by simp [nats]
theorem nats_BB {l : List Int} (h : AllB l) : BB (nats l) := by
  intro x hx
  obtain ⟨y, hy, rfl⟩ := List.mem_map.1 hx
  have := h y hy
  omega
theorem nats_at (l : List Int) (t : Nat) : (nats l)[t]?.getD 0 = (l[t]?.getD 0).toNat := by
  unfold nats
  rw [List.getElem?_map]
  cases l[t]? <;> rfl
theorem U_take {s : Nat} {l : List Nat} {t : Nat} (h : t < l.length) : U s (l.take (t + 1)) = upd (U s (l.take t)) (l[t]?.getD 0) := by
  rw [List.take_add_one, U_append]
  simp [h, U]
theorem BB_take {l : List Nat} (h : BB l) (k : Nat) : BB (l.take k) := fun x hx => h x (List.mem_of_mem_take hx)

set_option maxRecDepth 100000 in
set_option maxHeartbeats 4000000 in
theorem more_core (n b len : Nat) (A : Option Addr) (c : Nat) (l : List Int) (w : World) (hn : n < 4294967296) (hlen : l.length = len) (hl : AllB l) (hcap : len ≤ 9223372036854775807) (ht : ∀ i, i < 256 → w.cell? ⟨b, i, none⟩ = some (.int .u32 (Ts 8 i : Nat)))
    (hr : 0 < l.length → ∃ b off, A = some ⟨b, off, none⟩ ∧ ∀ j, j < l.length → w.cell? ⟨b, off + j, none⟩ = some (.int .u8 (l[j]?.getD 0))) :
    Calls Try.prog 15 #[.pointer (some ⟨b, 0, none⟩), .int .u32 n, .slice A len c] w fun e w' => e = .returned (.int .u32 (crcMore n (nats l) : Nat)) ∧ w = w' := by
  have H := Lib.hid hr
  have HT := Lib.hid ht
  have HL := Lib.hid hlen
  have HA := Lib.hid hl
  have hx0 : bits BinOp.xor IntKind.u32 (n : Int) 4294967295 = ((n ^^^ ones : Nat) : Int) := u32_xor_nat n 4294967295 hn (by omega)
  have HX := Lib.hid hx0
  have hn1 := xor_lt32 hn ones_lt
  clear hr ht hlen hl hx0
  go_enter Try.func15, Try.ntmps15
  go_wp2
  rw [HX.out]
  go_loop [1, 15] (fun m i => ∃ t : Nat, t ≤ len ∧ i = .int .i64 t ∧ m = .int .u32 (U (n ^^^ ones) ((nats l).take t) : Nat)) (fun _ i => len - (intOf i).toNat)
  case atStart => exact ⟨0, by omega, rfl, by simp [U]⟩
  case round =>
    obtain ⟨t, htl, rfl, rfl⟩ := hrel
    have hq : U (n ^^^ ones) ((nats l).take t) < 4294967296 := U_lt hn1 (BB_take (nats_BB HA.out) t)
    by_cases hlt : t < len
    · obtain ⟨b', off, rfl, hc⟩ := H.out (by rw [HL.out]; omega)
      have hcell := hc t (by rw [HL.out]; exact hlt)
      clear hc
      have hxb := HA.out.at_ t
      have HS := Lib.hid (U_take (s := n ^^^ ones) (l := nats l) (t := t) (by rw [nats_length, HL.out]; exact hlt))
      have HN := Lib.hid (nats_at l t)
      obtain ⟨x, hx⟩ := Int.eq_ofNat_of_zero_le hxb.1
      have HXX := Lib.hid hx
      rw [hx] at hcell hxb
      clear hx
      generalize U (n ^^^ ones) ((nats l).take t) = q at *
      have hx8 : x < 256 := by omega
      have e1 : bits BinOp.xor IntKind.u8 ((q : Int) % 256) (x : Int) = ((q % 256 ^^^ x : Nat) : Int) := u8_xor_nat (q % 256) x (by omega) hx8
      have j8 : q % 256 ^^^ x < 256 := Nat.xor_lt_two_pow (n := 8) (by omega) hx8
      have hj := HT.out _ j8
      have hr32 : Ts 8 (q % 256 ^^^ x) < 4294967296 := Ts_lt (by omega)
      have e2 : bits BinOp.xor IntKind.u32 ((q : Int) / 256) (Ts 8 (q % 256 ^^^ x) : Nat) = ((q / 256 ^^^ Ts 8 (q % 256 ^^^ x) : Nat) : Int) := u32_xor_nat (q / 256) _ (by omega) hr32
      have HU := Lib.hid (upd_table (s := q) hx8)
      have E2 := Lib.hid e2
      clear e2
      generalize q % 256 ^^^ x = j at *
      generalize Ts 8 j = r at *
      go_wp2
      go_round
      case rel => exact ⟨t + 1, by omega, by go_num, by rw [E2.out, HS.out, HN.out, HXX.out, Int.toNat_natCast, HU.out]⟩
      case measure => simp [intOf]; omega
    · obtain rfl : t = len := by omega
      have HF : Hid ((nats l).take t = nats l) := Lib.hid (List.take_of_length_le (by rw [nats_length, HL.out]; exact Nat.le_refl _))
      rw [HF.out] at hq ⊢
      have HE : Hid (crcMore n (nats l) = U (n ^^^ ones) (nats l) ^^^ ones) := Lib.hid rfl
      generalize U (n ^^^ ones) (nats l) = q at *
      have E3 : Hid (bits BinOp.xor IntKind.u32 (q : Int) 4294967295 = ((q ^^^ ones : Nat) : Int)) := Lib.hid (u32_xor_nat q 4294967295 hq (by omega))
      go_wp2
      go_ret
      exact ⟨congrArg (fun x => Ending.returned (.int .u32 x)) (by rw [E3.out, HE.out]), rfl⟩

theorem Bytes.parts {w : World} {B : Nat} {v : Value} {l : List Int} (h : Bytes w B v l) : ∃ A c, v = .slice A l.length c ∧ l.length ≤ c ∧ c ≤ 9223372036854775807 ∧ (0 < l.length → ∃ b off, A = some ⟨b, off, none⟩ ∧ ∀ j, j < l.length → w.cell? ⟨b, off + j, none⟩ = some (.int .u8 (l[j]?.getD 0))) := by
  obtain ⟨A, c, e, hc, hm, hr⟩ := h
  refine ⟨A, c, e, hc, hm, fun hp => ?_⟩
  obtain ⟨b, off, e, _, hcell⟩ := hr hp
  exact ⟨b, off, e, hcell⟩

/-- crc.More by a table -/
theorem more_any (n b B : Nat) (v : Value) (l : List Int) (w : World) (hn : n < 4294967296) (h : Bytes w B v l) (hl : AllB l) (ht : TabAt w B b) :
    Calls Try.prog 15 #[.pointer (some ⟨b, 0, none⟩), .int .u32 n, v] w fun e w' => e = .returned (.int .u32 (crcMore n (nats l) : Nat)) ∧ w = w' := by
  obtain ⟨A, c, rfl, hc, hm, hr⟩ := h.parts
  exact more_core n b l.length A c l w hn rfl hl (by omega) ht.2 hr

set_option maxHeartbeats 400000 in
/-- crc.More without a table -/
theorem more_nil (n : Int) (v : Value) (w : World) :
    Calls Try.prog 15 #[.pointer none, .int .u32 n, v] w fun e w' => e = .returned (.int .u32 0) ∧ w = w' := by
  go_enter Try.func15, Try.ntmps15
  go_wp2
  go_ret
  exact ⟨rfl, rfl⟩

set_option maxHeartbeats 400000 in
/-- crc.Sum -/
theorem sum_any (v : Value) (l : List Int) (w : World) (h : Bytes w w.heap.size v l) (hl : AllB l) :
    Calls Try.prog 17 #[v] w fun e w' => e = .returned (.int .u32 (crcSum (nats l) : Nat)) ∧ Below w.heap.size w w' := by
  have HB := Lib.hid h
  clear h
  go_enter Try.func17, Try.ntmps17
  go_wp2_with fail
  refine (table_any w).mono ?_
  rintro e w1 ⟨rfl, ht, hB⟩
  have HT := Lib.hid ht
  clear ht
  go_wp2_with (go_at_call 15; refine (more_any 0 w.heap.size w1.heap.size v l w1 (by omega) (HB.out.on hB) hl HT.out).mono ?_; rintro e w' ⟨rfl, rfl⟩)
  go_ret
  exact ⟨rfl, hB⟩

set_option maxRecDepth 100000 in
set_option maxHeartbeats 4000000 in
/-- the document's More -/
theorem morer_core (n len : Nat) (A : Option Addr) (c : Nat) (l : List Int) (w : World) (hn : n < 4294967296) (hlen : l.length = len) (hl : AllB l) (hcap : len ≤ 9223372036854775807)
    (hr : 0 < l.length → ∃ b off, A = some ⟨b, off, none⟩ ∧ ∀ j, j < l.length → w.cell? ⟨b, off + j, none⟩ = some (.int .u8 (l[j]?.getD 0))) :
    Calls Try.prog 16 #[.int .u32 n, .slice A len c] w fun e w' => e = .returned (.int .u32 (crcMore n (nats l) : Nat)) ∧ w = w' := by
  have H := Lib.hid hr
  have HL := Lib.hid hlen
  have HA := Lib.hid hl
  have hx0 : bits BinOp.xor IntKind.u32 (n : Int) 4294967295 = ((n ^^^ ones : Nat) : Int) := u32_xor_nat n 4294967295 hn (by omega)
  have HX := Lib.hid hx0
  have hn1 := xor_lt32 hn ones_lt
  clear hr hlen hl hx0
  go_enter Try.func16, Try.ntmps16
  go_wp2
  rw [HX.out]
  go_loop [0, 5] (fun m i => ∃ t : Nat, t ≤ len ∧ i = .int .i64 t ∧ m = .int .u32 (U (n ^^^ ones) ((nats l).take t) : Nat)) (fun _ i => len - (intOf i).toNat)
  case atStart => exact ⟨0, by omega, rfl, by simp [U]⟩
  case round =>
    obtain ⟨t, htl, rfl, rfl⟩ := hrel
    have hq : U (n ^^^ ones) ((nats l).take t) < 4294967296 := U_lt hn1 (BB_take (nats_BB HA.out) t)
    by_cases hlt : t < len
    · obtain ⟨b', off, rfl, hc⟩ := H.out (by rw [HL.out]; omega)
      have hcell := hc t (by rw [HL.out]; exact hlt)
      clear hc
      have hxb := HA.out.at_ t
      have HS := Lib.hid (U_take (s := n ^^^ ones) (l := nats l) (t := t) (by rw [nats_length, HL.out]; exact hlt))
      have HN := Lib.hid (nats_at l t)
      obtain ⟨x, hx⟩ := Int.eq_ofNat_of_zero_le hxb.1
      have HXX := Lib.hid hx
      rw [hx] at hcell hxb
      clear hx
      generalize U (n ^^^ ones) ((nats l).take t) = q at *
      have hx8 : x < 256 := by omega
      have e1 : bits BinOp.xor IntKind.u32 (q : Int) (x : Int) = ((q ^^^ x : Nat) : Int) := u32_xor_nat q x hq (by omega)
      have j8 : q ^^^ x < 4294967296 := xor_lt32 hq (by omega)
      have HU : Hid (upd q x = Ts 8 (q ^^^ x)) := Lib.hid rfl
      generalize q ^^^ x = j at *
      go_wp2
      go_loop [0, 6] (fun m i => ∃ k : Nat, k ≤ 8 ∧ i = .int .i64 k ∧ m = .int .u32 (Ts k j : Nat)) (fun _ i => 8 - (intOf i).toNat)
      case atStart => exact ⟨0, by omega, rfl, rfl⟩
      case round =>
        obtain ⟨k, hk8, rfl, rfl⟩ := hrel
        by_cases hk : k < 8
        · have hb : Ts k j < 4294967296 := Ts_lt j8
          have HSS := Lib.hid (Ts_succ k j)
          generalize Ts k j = p at *
          go_wp2_with (go_at_call 14; refine (stepr_any p _ hb).mono ?_; rintro e w' ⟨rfl, rfl⟩)
          go_round
          case rel => exact ⟨k + 1, by omega, by go_num, by rw [HSS.out]⟩
          case measure => simp [intOf]; omega
        · obtain rfl : k = 8 := by omega
          go_wp2
          go_round
          case rel => exact ⟨t + 1, by omega, by go_num, by rw [HS.out, HN.out, HXX.out, Int.toNat_natCast, HU.out]⟩
          case measure => simp [intOf]; omega
    · obtain rfl : t = len := by omega
      have HF : Hid ((nats l).take t = nats l) := Lib.hid (List.take_of_length_le (by rw [nats_length, HL.out]; exact Nat.le_refl _))
      rw [HF.out] at hq ⊢
      have HE : Hid (crcMore n (nats l) = U (n ^^^ ones) (nats l) ^^^ ones) := Lib.hid rfl
      generalize U (n ^^^ ones) (nats l) = q at *
      have E3 : Hid (bits BinOp.xor IntKind.u32 (q : Int) 4294967295 = ((q ^^^ ones : Nat) : Int)) := Lib.hid (u32_xor_nat q 4294967295 hq (by omega))
      go_wp2
      go_ret
      exact ⟨congrArg (fun x => Ending.returned (.int .u32 x)) (by rw [E3.out, HE.out]), rfl⟩

theorem morer_any (n B : Nat) (v : Value) (l : List Int) (w : World) (hn : n < 4294967296) (h : Bytes w B v l) (hl : AllB l) :
    Calls Try.prog 16 #[.int .u32 n, v] w fun e w' => e = .returned (.int .u32 (crcMore n (nats l) : Nat)) ∧ w = w' := by
  obtain ⟨A, c, rfl, hc, hm, hr⟩ := h.parts
  exact morer_core n l.length A c l w hn rfl hl (by omega) hr

set_option maxHeartbeats 400000 in
theorem sumr_any (B : Nat) (v : Value) (l : List Int) (w : World) (h : Bytes w B v l) (hl : AllB l) :
    Calls Try.prog 18 #[v] w fun e w' => e = .returned (.int .u32 (crcSum (nats l) : Nat)) ∧ w = w' := by
  have HB := Lib.hid h
  clear h
  go_enter Try.func18, Try.ntmps18
  go_wp2_with (go_at_call 16; refine (morer_any 0 B v l w (by omega) HB.out hl).mono ?_; rintro e w' ⟨rfl, rfl⟩)
  go_ret
  exact ⟨rfl, rfl⟩

end Go.Proofs.Ytgemllmfbglkhaa
