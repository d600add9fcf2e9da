/-
  Rows of bytes in memory, and the contracts of layer 1's functions on bytes: word.Put and the document's Put (what they return reads as the number's bytes, in new memory), the document's Get.
-/
import Derived.Test.YthinhknfiaohlaaWordNum
import Derived.Test.YthinhknfiaohlaaWordMathB
import Derived.Deep.OwnRows
namespace Go.Proofs.Ythinhknfiaohlaa
open Go.RowKit Go.Deep

/-! ### A slice of bytes that reads as a list -/
/-- the slice value v has the bytes l, in memory below block B (without an element it may be nil, or lie anywhere) -/
def Bytes (w : World) (B : Nat) (v : Value) (l : List Int) : Prop :=
  ∃ A c, v = .slice A l.length c ∧ l.length ≤ c ∧ c ≤ 9223372036854775807 ∧ (0 < l.length → ∃ b off, A = some ⟨b, off, none⟩ ∧ b < B ∧ ∀ j, j < l.length → w.cell? ⟨b, off + j, none⟩ = some (.int .u8 (l[j]?.getD 0)))
theorem Bytes.below {w w' : World} {B B' : Nat} {v : Value} {l : List Int} (h : Bytes w B v l) (hb : Below B' w w') (hB : B ≤ B') : Bytes w' B v l := by
  obtain ⟨A, c, e, hc, hm, hr⟩ := h
  refine ⟨A, c, e, hc, hm, fun hl => ?_⟩
  obtain ⟨b, off, ea, hlt, hcell⟩ := hr hl
  exact ⟨b, off, ea, hlt, fun j hj => (hb.cell (p := ⟨b, off + j, none⟩) (by show b < B'; omega)).trans (hcell j hj)⟩
theorem Bytes.more {w : World} {B B' : Nat} {v : Value} {l : List Int} (h : Bytes w B v l) (hB : B ≤ B') : Bytes w B' v l := by
  obtain ⟨A, c, e, hc, hm, hr⟩ := h
  refine ⟨A, c, e, hc, hm, fun hl => ?_⟩
  obtain ⟨b, off, ea, hlt, hcell⟩ := hr hl
  exact ⟨b, off, ea, by omega, hcell⟩

/-! ### word.Put -/
def clip8 (k : Int) : Nat := (min (max k 0) 8).toNat
theorem clip8_bd (k : Int) : clip8 k ≤ 8 := by unfold clip8; omega
def byteAt (n : Int) (i : Nat) : Int := n / 2 ^ (8 * i) % 256
def putL (n : Int) (k : Nat) : List Int := (List.range k).map (byteAt n)
theorem putL_length (n : Int) (k : Nat) : (putL n k).length = k := by simp [putL]
theorem putL_get (n : Int) {k j : Nat} (h : j < k) : (putL n k)[j]?.getD 0 = byteAt n j := by simp [putL, h]

theorem Try.info5 : (Try.prog.info? 5).map (fun i => (i.zero, i.size, i.bytes)) = some (some (.int .u8 0), 1, 1) := by kernel_rfl

theorem put_step (n : Int) (t : Nat) (i : Nat) : (if i = t then Value.int .u8 (n / 2 ^ (8 * t) % 256) else Value.int .u8 (if i < t then byteAt n i else 0)) = Value.int .u8 (if i < t + 1 then byteAt n i else 0) := by
  by_cases h : i = t
  · subst h; simp [byteAt]
  · rw [if_neg h]
    by_cases h2 : i < t
    · rw [if_pos h2, if_pos (by omega)]
    · rw [if_neg h2, if_neg (by omega)]

set_option maxHeartbeats 400000 in
theorem put_row (n k : Int) (w : World) :
    Calls Try.prog 41 #[.int .u64 n, .int .i64 k] w fun e w' => e = .returned (.slice (some ⟨w.heap.size, 0, none⟩) (clip8 k) (clip8 k)) ∧ w'.rowIs w.heap.size 5 (clip8 k) (fun i => .int .u8 (byteAt n i)) ∧ Below w.heap.size w w' := by
  have c2 := clip8_bd k
  have hcl : min (max k 0) 8 = (clip8 k : Int) := by unfold clip8; omega
  have HC := Lib.hid hcl
  clear hcl
  generalize clip8 k = j at *
  have hmk := run_make_row' (P := Try.prog) 24 5 (.int .u8 0) 1 Try.underlying24 Try.info5 rfl .i64 .i64 j (by omega) (by omega)
  go_enter Try.func41, Try.ntmps41
  go_wp2_with fail
  refine (clip_any _ _ _ _ (by omega)).mono ?_
  rintro e w' ⟨rfl, rfl⟩
  rw [HC.out]
  go_wp2
  go_loopw [12] (fun c wr => ∃ t : Nat, t ≤ j ∧ c = .int .i64 t ∧ wr.rowIs w.heap.size 5 j (fun i => .int .u8 (if i < t then byteAt n i else 0)) ∧ Below w.heap.size w wr) (fun c _ => j - (intOf c).toNat)
  case atStart => exact ⟨0, by omega, rfl, (World.rowIs_made w (.int .u8 0) j 5).congr (fun i hi => by simp), (Below.refl _ _).alloc (Nat.le_refl _) _⟩
  case round =>
    obtain ⟨t, ht, rfl, hrow, hB⟩ := hrel
    by_cases hlt : t < j
    · have hc := hrow.cell hlt
      have hf := hrow.frozen t
      go_wp2
      go_roundw
      case rel => exact ⟨t + 1, by omega, by go_num, (hrow.set t _).congr (fun i _ => put_step n t i), hB.setCell (p := ⟨w.heap.size, t, none⟩) (Nat.le_refl _) _⟩
      case measure => simp [intOf]; omega
    · obtain rfl : t = j := by omega
      go_wp2
      go_ret
      exact ⟨rfl, hrow.congr (fun i hi => by simp [hi]), hB⟩

/-- word.Put: a row of its own that reads as the number's lowest bytes -/
theorem put_any (n k : Int) (w : World) :
    Calls Try.prog 41 #[.int .u64 n, .int .i64 k] w fun e w' => ∃ v, e = .returned v ∧ Bytes w' w'.heap.size v (putL n (clip8 k)) ∧ Below w.heap.size w w' := by
  refine (put_row n k w).mono ?_
  rintro e w' ⟨rfl, hrow, hB⟩
  have := clip8_bd k
  refine ⟨_, rfl, ⟨_, _, by rw [putL_length], by rw [putL_length]; omega, by omega, fun _ => ⟨_, _, rfl, hrow.lt, fun j hj => ?_⟩⟩, hB⟩
  rw [putL_length] at hj
  rw [putL_get n hj, Nat.zero_add]
  exact hrow.cell hj

/-! ### The document's Get -/
set_option maxHeartbeats 400000 in
theorem getr_core (A : Option Addr) (c : Nat) (l : List Int) (m : Nat) (w : World) (hm8 : m ≤ 8) (hml : m ≤ l.length) (hcase : (l.length ≤ 8 ∧ l.length ≤ m) ∨ (8 < l.length ∧ 8 ≤ m)) (hcap : l.length ≤ 9223372036854775807) (hl : AllB l)
    (hr : 0 < l.length → ∃ b off, A = some ⟨b, off, none⟩ ∧ ∀ j, j < l.length → w.cell? ⟨b, off + j, none⟩ = some (.int .u8 (l[j]?.getD 0))) :
    Calls Try.prog 46 #[.slice A l.length c] w fun e w' => e = .returned (.int .u64 (getV (l.take m))) ∧ w = w' := by
  have H := Lib.hid hr
  clear hr
  rcases hcase with ⟨k1, k2⟩ | ⟨k1, k2⟩
  all_goals
    go_enter Try.func46, Try.ntmps46
    go_wp2
    go_loop [3, 4] (fun n i => ∃ k : Nat, k ≤ m ∧ i = .int .i64 ((k : Int) - 1) ∧ n = .int .u64 (getV ((l.take m).drop k))) (fun _ i => (intOf i + 1).toNat)
    case atStart => exact ⟨m, Nat.le_refl _, congrArg (Value.int .i64) (by omega), by simp [getV]⟩
    case round =>
      obtain ⟨k, hk, rfl, rfl⟩ := hrel
      by_cases h0 : k = 0
      · subst h0
        go_wp2
        go_ret
        exact ⟨rfl, rfl⟩
      · obtain ⟨k, rfl⟩ : ∃ j, k = j + 1 := ⟨k - 1, by omega⟩
        obtain ⟨b, off, rfl, hc⟩ := H.out (by omega)
        have hcell := hc k (by omega)
        clear hc
        have hx := hl.at_ k
        have g0 := getV_nonneg ((hl.take m).drop (k + 1))
        have g1 := getV_lt7 ((hl.take m).drop (k + 1)) (by simp; omega)
        have HS := Lib.hid (getV_drop (l := l.take m) (k := k) (by simp; omega))
        have he : (l.take m)[k]?.getD 0 = l[k]?.getD 0 := by rw [List.getElem?_take_of_lt (by omega)]
        have HE := Lib.hid he
        clear he
        generalize getV ((l.take m).drop (k + 1)) = g at *
        generalize l[k]?.getD 0 = x at *
        go_wp2
        go_round
        case rel => exact ⟨k, by omega, congrArg (Value.int .i64) (by omega), congrArg (Value.int .u64) (by rw [HS.out, HE.out])⟩
        case measure => simp [intOf]

/-- the document's Get of a row of bytes, wherever it lies -/
theorem getr_any (v : Value) (l : List Int) (B : Nat) (w : World) (h : Bytes w B v l) (hl : AllB l) :
    Calls Try.prog 46 #[v] w fun e w' => e = .returned (.int .u64 (getV (l.take 8))) ∧ w = w' := by
  obtain ⟨A, c, rfl, hc, hm, hr⟩ := h
  have hr' : 0 < l.length → ∃ b off, A = some ⟨b, off, none⟩ ∧ ∀ j, j < l.length → w.cell? ⟨b, off + j, none⟩ = some (.int .u8 (l[j]?.getD 0)) := fun hp => by
    obtain ⟨b, off, e, _, hcell⟩ := hr hp
    exact ⟨b, off, e, hcell⟩
  by_cases h8 : l.length ≤ 8
  · rw [List.take_of_length_le h8]
    have := getr_core A c l l.length w h8 (Nat.le_refl _) (.inl ⟨h8, Nat.le_refl _⟩) (by omega) hl hr'
    rwa [List.take_length] at this
  · exact getr_core A c l 8 w (Nat.le_refl _) (by omega) (.inr ⟨by omega, Nat.le_refl _⟩) (by omega) hl hr'

/-! ### The document's Put -/
theorem putL_succ (n : Int) (t : Nat) : putL n (t + 1) = putL n t ++ [byteAt n t] := by simp [putL, List.range_succ]
theorem byte_next (n : Int) (t : Nat) : n / 2 ^ (8 * t) / 256 = n / 2 ^ (8 * (t + 1)) := by
  have h := pow_pos (8 * t)
  rw [Int.ediv_ediv, if_neg (by omega), Int.sub_zero, show (256 : Int) = 2 ^ 8 from rfl, ← Int.pow_add]
  rfl
theorem own_bytes {w : World} {base : Nat} {v : Value} {l : List Int} (h : w.ownsRow base 5 1 v l.length (l.map (Value.int .u8))) : Bytes w w.heap.size v l := by
  have h0 := h
  obtain ⟨h1, ⟨rfl, hn⟩ | ⟨g, cap, cur, rfl, hb, hh, hc, hm, hs, ht⟩⟩ := h
  · exact ⟨none, 0, by rw [hn], by omega, by omega, fun hp => by omega⟩
  · refine ⟨_, cap, rfl, hc, by unfold maxLen at hm; omega, fun hp => ⟨g, 0, rfl, ?_, fun j hj => ?_⟩⟩
    · rcases Nat.lt_or_ge g w.heap.size with hlt | hge
      · exact hlt
      · rw [Array.getElem?_eq_none hge] at hh; cases hh
    · rw [Nat.zero_add, h0.cellAt j (by omega)]
      simp [hj]

set_option maxHeartbeats 400000 in
theorem putr_any (n k : Int) (w : World) (hn : 0 ≤ n) (hn' : n ≤ 18446744073709551615) :
    Calls Try.prog 38 #[.int .u64 n, .int .i64 k] w fun e w' => ∃ v, e = .returned v ∧ Bytes w' w'.heap.size v (putL n (clip8 k)) ∧ Below w.heap.size w w' := by
  have c2 := clip8_bd k
  have hcl : (k ≤ (clip8 k : Int) ∨ 8 ≤ clip8 k) ∧ ((clip8 k : Int) ≤ k ∨ clip8 k ≤ 0) := by unfold clip8; omega
  generalize clip8 k = j at *
  obtain ⟨i0, hi, hz0, hz1, hz2⟩ := info_parts Try.info5
  have Hi := Lib.hid (And.intro hi (And.intro hz0 (And.intro hz1 hz2)))
  clear hi hz0 hz1 hz2
  go_enter Try.func38, Try.ntmps38
  go_wp2
  go_loopw [0, 5, 6] (fun nn v i wr => ∃ t : Nat, t ≤ j ∧ i = .int .i64 t ∧ nn = .int .u64 (n / 2 ^ (8 * t)) ∧ wr.ownsRow w.heap.size 5 1 v t ((putL n t).map (Value.int .u8)) ∧ Below w.heap.size w wr) (fun _ _ i _ => j - (intOf i).toNat)
  case atStart => exact ⟨0, by omega, rfl, by simp, World.ownsRow_nil _ _ _ _, Below.refl _ _⟩
  case round =>
    obtain ⟨t, ht, rfl, rfl, hown, hB⟩ := hrel
    by_cases hlt : t < j
    · have t1 : (t : Int) < k := by omega
      have t2 : (t : Int) < 8 := by omega
      have q0 : 0 ≤ n / 2 ^ (8 * t) := Int.ediv_nonneg hn (Int.le_of_lt (pow_pos _))
      have q1 : n / 2 ^ (8 * t) ≤ n := Int.ediv_le_self _ hn
      have HN := Lib.hid (byte_next n t)
      have HP := Lib.hid (putL_succ n t)
      have HQ : Hid (byteAt n t = n / 2 ^ (8 * t) % 256) := Lib.hid rfl
      generalize n / 2 ^ (8 * t) = q at *
      go_wp2_with (at_builtin; refine wpList_append_own _ rfl _ _ 24 rfl w.heap.size 5 i0 (.int .u8 0) 1 1 Try.underlying24 Hi.out.1 Hi.out.2.1 Hi.out.2.2.1 Hi.out.2.2.2 rfl (by decide) _ _ _ rfl (hown.alloc _) ⟨wr.heap.size, 0, none⟩ 1 1 [.int .u8 (q % 256)] rfl rfl ?c1 ?c2 ?c3 ?c4 ?c5 ?_)
      case c1 => exact cell_one_new _ _ _
      case c2 => simp [Value.oneCell']
      case c3 => unfold maxLen; omega
      case c4 => omega
      case c5 => have := hB.size; simp; omega
      intro v' w1 hown' hgrow _
      have hB1 : Below w.heap.size w w1 := (hB.alloc hB.size _).grown hgrow (by have := hB.size; simp; omega) (fun g e => (hown.lt g e).1)
      have hr1 : w1.ownsRow w.heap.size 5 1 v' (t + 1) ((putL n (t + 1)).map (Value.int .u8)) := by
        rw [HP.out, List.map_append]
        simp only [HQ.out, List.map_cons, List.map_nil]
        exact hown'
      clear hown' hgrow hown
      go_wp2
      go_roundw
      case rel => exact ⟨t + 1, by omega, by go_num, congrArg (Value.int .u64) HN.out, hr1, hB1⟩
      case measure => simp [intOf]; omega
    · obtain rfl : t = j := by omega
      by_cases hk : k ≤ t
      all_goals
        go_wp2
        go_ret
        exact ⟨_, rfl, own_bytes (by rw [putL_length]; exact hown), hB⟩

end Go.Proofs.Ythinhknfiaohlaa
