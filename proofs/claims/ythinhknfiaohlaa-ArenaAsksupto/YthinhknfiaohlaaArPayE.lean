/-
  Layer 7, the landed package: all words, each with its place among all (a range over a function).
-/
import Derived.Test.YthinhknfiaohlaaArPayB
import Derived.Test.YthinhknfiaohlaaWordGet
namespace Go.Proofs.Ythinhknfiaohlaa
open Go.RowKit Go.Shelf

attribute [local go_sem] Oper.semAt_some

/-- the place of one of an arena's words -/
abbrev PlaceOf (ls : List (List Int)) := {i : Nat // i < ls.flatten.length}
def at7 {ls : List (List Int)} (ys : List (PlaceOf ls)) : List Nat := ys.map (·.1)
theorem at7_snoc {ls : List (List Int)} (ys : List (PlaceOf ls)) (y : PlaceOf ls) : at7 (ys ++ [y]) = at7 ys ++ [y.1] := by simp [at7]
theorem at7_length {ls : List (List Int)} (ys : List (PlaceOf ls)) : (at7 ys).length = ys.length := by simp [at7]
theorem at7_next {ls : List (List Int)} {ys : List (PlaceOf ls)} {k : Nat} (h : at7 ys = List.range k) (hk : k < ls.flatten.length) : at7 (ys ++ [⟨k, hk⟩]) = List.range (k + 1) := by rw [at7_snoc, h, List.range_succ]
theorem at7_len {ls : List (List Int)} {ys : List (PlaceOf ls)} {k : Nat} (h : at7 ys = List.range k) : ys.length = k := by rw [← at7_length, h, List.length_range]
/-- how many words the first t segments have -/
def cnt7 (ls : List (List Int)) (t : Nat) : Nat := (ls.take t).flatten.length
theorem cnt7_succ {ls : List (List Int)} {t : Nat} (h : t < ls.length) : cnt7 ls (t + 1) = cnt7 ls t + (ls[t]?.getD []).length := by
  unfold cnt7
  rw [List.take_add_one, List.getElem?_eq_getElem h, List.flatten_append, List.length_append]
  simp
theorem cnt7_le (ls : List (List Int)) (t : Nat) : cnt7 ls t ≤ ls.flatten.length := by
  unfold cnt7
  conv => rhs; rw [← List.take_append_drop t ls, List.flatten_append, List.length_append]
  omega
theorem flat_get {ls : List (List Int)} {t k : Nat} (h : t < ls.length) (hk : k < (ls[t]?.getD []).length) : ls.flatten[cnt7 ls t + k]?.getD 0 = (ls[t]?.getD [])[k]?.getD 0 := by
  have e : ls.flatten = (ls.take t).flatten ++ ((ls[t]?.getD []) ++ (ls.drop (t + 1)).flatten) := by
    conv => lhs; rw [← List.take_append_drop t ls, List.flatten_append, List.drop_eq_getElem_cons h, List.flatten_cons]
    rw [List.getElem?_eq_getElem h]
    rfl
  rw [e, List.getElem?_append_right (by unfold cnt7; omega), show cnt7 ls t + k - (ls.take t).flatten.length = k by unfold cnt7; omega, List.getElem?_append_left hk]
theorem flat_sum (ls : List (List Int)) : (ls.flatten.length : Int) = (sizesL ls).sum := by
  induction ls with
  | nil => rfl
  | cons s ls ih =>
    unfold sizesL at *
    rw [List.flatten_cons, List.length_append, List.map_cons, List.sum_cons]
    omega

set_option maxRecDepth 100000 in
set_option maxHeartbeats 1000000 in
/-- the iterator's own loops: for every body that keeps what lay below n₀ -/
theorem placed1_in (n : Nat) (hn : 2 ≤ n) (loop Bs n₀ : Nat) (A : Option Addr) (len c : Nat) (ls : List (List Int)) (hlen : len = ls.length) (hN : ls.flatten.length ≤ 1000000000)
    (J Jx : List (PlaceOf ls) → World → Prop)
    (hY : ∀ pre x W, J pre W → pre.length < ls.flatten.length → YieldAt Fence.wide (n - 1) Try.prog loop #[.int .i64 (x.1 : Nat), .int .u64 (ls.flatten[x.1]?.getD 0)] W fun e W' =>
      (e = .returned (.bool true) ∧ J (pre ++ [x]) W' ∧ Below n₀ W W') ∨ (e = .returned (.bool false) ∧ Jx (pre ++ [x]) W'))
    (W : World) (hcBs : W.cell? ⟨Bs, 0, none⟩ = some (.slice A len c)) (hr : ArV W n₀ (.slice A len c) ls) (h0 : J [] W) :
    CallsIn Fence.wide n Try.prog 47 #[.func (.yield loop) #[] #[], .pointer (some ⟨Bs, 0, none⟩)] W fun e W' => (∃ v, e = .returned v) ∧
      ((∃ ys, at7 ys = List.range ls.flatten.length ∧ J ys W') ∨ (∃ pre, True ∧ Jx pre W')) := by
  have H := Lib.hid hr
  have HN := Lib.hid hlen
  have hlc : len ≤ c ∧ c ≤ 9223372036854775807 := by
    obtain ⟨A', c', e, h1, h2, _⟩ := hr
    cases e
    omega
  obtain ⟨hlc1, hlc2⟩ := hlc
  obtain ⟨N, hNN⟩ : ∃ N, ls.flatten.length = N := ⟨_, rfl⟩
  have HNN := Lib.hid hNN
  rw [hNN] at hN
  clear hr hlen hNN
  refine callsIn_of_wp Try.func47 rfl trivial ?_ rfl
  simp only [Try.ntmps47, List.size_toArray, List.length_cons, List.length_nil, Nat.reduceAdd, Nat.reduceSub, Array.replicate_succ, Array.replicate_zero, List.push_toArray, List.append_toArray, List.nil_append, List.cons_append]
  gi_wp2
  gi_loopw [3, 10] (fun p i wr => ∃ t : Nat, t ≤ len ∧ i = .int .i64 t ∧ p = .int .i64 (cnt7 ls t : Nat) ∧ (∃ pre : List (PlaceOf ls), at7 pre = List.range (cnt7 ls t) ∧ J pre wr) ∧ Below n₀ W wr)
    (fun _ i _ => len - (intOf i).toNat)
  case atStart => exact ⟨0, Nat.zero_le _, rfl, rfl, ⟨[], rfl, h0⟩, Below.refl _ _⟩
  case round =>
    obtain ⟨t, ht, rfl, rfl, ⟨pre, hpre, hJs⟩, hB⟩ := hrel
    have HPre := Lib.hid hpre
    clear hpre
    by_cases hlt : t < len
    · have hlt2 : t < ls.length := by rw [← HN.out]; exact hlt
      obtain ⟨A', c', e, _, _, hr⟩ := H.out
      obtain ⟨b, off, ea, hb, hcell⟩ := hr (by omega)
      rw [← HN.out] at e
      cases e
      subst ea
      obtain ⟨s, p1, A1, c1, rfl, k1, k2, hr1⟩ := hcell t hlt2
      have p2 := (hB.cell (p := ⟨b, off + t, none⟩) hb).trans p1
      have HS := Lib.hid (cnt7_succ hlt2)
      have HL := Lib.hid (cnt7_le ls (t + 1))
      have HF := Lib.hid (fun k hk => flat_get (k := k) hlt2 hk)
      obtain ⟨m, hm⟩ : ∃ m, (ls[t]?.getD []).length = m := ⟨_, rfl⟩
      rw [hm] at p2 k1 hr1 HS HF
      have HM := Lib.hid hm
      have HR1 := Lib.hid hr1
      rw [HS.out, HNN.out] at HL
      have hL := HL.out
      obtain ⟨q, hq⟩ : ∃ q, cnt7 ls t = q := ⟨_, rfl⟩
      rw [hq] at HPre HS HF hL HL ⊢
      have HQ := Lib.hid hq
      clear hcell p1 hr hm hr1 hq hlt2
      have i1 : (t : Int) < (len : Int) := by omega
      gi_wp2
      gi_loopw [3, 16] (fun p j wr => ∃ k : Nat, k ≤ m ∧ j = .int .i64 k ∧ p = .int .i64 ((q + k : Nat) : Int) ∧ (∃ pre : List (PlaceOf ls), at7 pre = List.range (q + k) ∧ J pre wr) ∧ Below n₀ W wr)
        (fun _ j _ => m - (intOf j).toNat)
      case atStart => exact ⟨0, Nat.zero_le _, rfl, rfl, ⟨pre, HPre.out, hJs⟩, hB⟩
      case round =>
        clear hJs HPre hB p2
        clear pre
        obtain ⟨k, hk, rfl, rfl, ⟨pre, hpre, hJs⟩, hB⟩ := hrel
        have HPre := Lib.hid hpre
        clear hpre
        by_cases hlk : k < m
        · obtain ⟨b1, o1, rfl, hb1, x1⟩ := HR1.out (by omega)
          have x2 := (hB.cell (p := ⟨b1, o1 + k, none⟩) hb1).trans (x1 k hlk)
          obtain ⟨x, hx⟩ : ∃ x, (ls[t]?.getD [])[k]?.getD 0 = x := ⟨_, rfl⟩
          rw [hx] at x2
          have hqk : q + k < ls.flatten.length := by rw [HNN.out]; omega
          have HSn : Hid (at7 (pre ++ [⟨q + k, hqk⟩]) = List.range (q + (k + 1))) := Lib.hid (at7_next HPre.out hqk)
          obtain ⟨fn, tmps, assign, body, hy, hR⟩ := hY pre ⟨q + k, hqk⟩ wr hJs (by rw [at7_len HPre.out]; exact hqk)
          dsimp only at hy
          rw [HF.out k hlk, hx] at hy
          have hcast : ((q + k : Nat) : Int) = (q : Int) + (k : Int) := by omega
          rw [hcast] at hy
          clear x1 hx hJs hcast
          have i2 : (k : Int) < (m : Int) := by omega
          gi_wp2
          refine ⟨fun _ => (by omega), ?_⟩
          refine hR.mono ?_
          rintro e W3 (⟨rfl, hJ3, hk3⟩ | ⟨rfl, hJx3⟩)
          · gi_wp2
            go_roundw
            case rel => exact ⟨k + 1, by omega, by go_num, by go_num, ⟨_, HSn.out, hJ3⟩, hB.trans hk3⟩
            case measure => simp [intOf]; omega
          · gi_wp2
            refine bodyPost_ret (results_none rfl _ _ _) rfl ?_
            exact ⟨⟨_, rfl⟩, .inr ⟨_, trivial, hJx3⟩⟩
        · obtain rfl : k = m := by omega
          rw [← HS.out] at HPre
          have HE := Lib.hid HS.out
          gi_wp2
          go_roundw
          case rel => exact ⟨t + 1, by omega, by go_num, by rw [HE.out], ⟨pre, HPre.out, hJs⟩, hB⟩
          case measure => simp [intOf]; omega
    · obtain rfl : t = len := by omega
      have HE : Hid (cnt7 ls t = ls.flatten.length) := Lib.hid (by unfold cnt7; rw [HN.out, List.take_length])
      rw [HE.out] at HPre
      gi_wp2
      go_end0
      exact ⟨⟨_, rfl⟩, .inl ⟨_, HPre.out, hJs⟩⟩

set_option maxHeartbeats 400000 in
/-- placed: the arena is boxed; the function value has the box -/
theorem placed_any (A : Option Addr) (len cap : Nat) (w : World) :
    Calls Try.prog 40 #[.slice A len cap] w fun e w' => e = .returned (.func (.func 47) #[] #[.pointer (some ⟨w.heap.size, 0, none⟩)]) ∧ w' = w.alloc (.cells #[.slice A len cap] 23) := by
  go_enter Try.func40, Try.ntmps40
  go_wp2
  go_ret
  exact ⟨rfl, rfl⟩

/-- all words come, each with its place; or the first few of these -/
theorem placed_stops (n : Nat) (hn : 2 ≤ n) (Bs n₀ : Nat) (A : Option Addr) (len c : Nat) (ls : List (List Int)) (hlen : len = ls.length) (hN : ls.flatten.length ≤ 1000000000) (w : World) (hBs : Bs < w.heap.size) (hn₀ : n₀ ≤ w.heap.size)
    (hc : w.cell? ⟨Bs, 0, none⟩ = some (.slice A len c)) (hr : ArV w n₀ (.slice A len c) ls) :
    SeqStopsK Fence.wide n Try.prog 47 #[.pointer (some ⟨Bs, 0, none⟩)] (fun x : PlaceOf ls => #[Value.int .i64 (x.1 : Nat), Value.int .u64 (ls.flatten[x.1]?.getD 0)]) (Below n₀) (fun ys => at7 ys = List.range ls.flatten.length)
      (fun _ => True) ls.flatten.length w := fun lp J Jx W hW _ _ hY h0 => by
  have hc' := (hW.cell (p := ⟨Bs, 0, none⟩) hBs).trans hc
  exact placed1_in n hn lp Bs n₀ A len c ls hlen hN J Jx hY W hc' (hr.below hW hn₀) h0

end Go.Proofs.Ythinhknfiaohlaa
