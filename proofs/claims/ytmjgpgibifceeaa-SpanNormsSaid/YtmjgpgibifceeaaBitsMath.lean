/-
  Plain facts for layer 3 (bits): the bits of a row of bytes, as a function; what Set, Count, First, Right, Or and Within come to. No program is named here.
-/
import Derived.Test.YtmjgpgibifceeaaWordMathB
import Derived.Test.YtmjgpgibifceeaaWordMath
import Derived.Lib.BitFns
namespace Go.Proofs.Ytmjgpgibifceeaa
open Go.RowKit

/-! ### one bit -/
/-- the bit k of a number -/
def bitN (x : Int) (k : Nat) : Bool := decide (x / 2 ^ k % 2 = 1)
/-- the bit i of a row of bytes -/
def bt (l : List Int) (i : Nat) : Bool := bitN (l[i / 8]?.getD 0) (i % 8)
/-- Get of a bit -/
def getB (l : List Int) (i : Int) : Bool := decide (0 ≤ i) && bt l i.toNat
/-- is there such a bit? -/
def hasB (n : Nat) (i : Int) : Bool := decide (0 ≤ i ∧ i / 8 < n)

theorem bitN_zero (k : Nat) : bitN 0 k = false := by simp [bitN]
theorem bt_out {l : List Int} {i : Nat} (h : 8 * l.length ≤ i) : bt l i = false := by
  unfold bt
  rw [List.getElem?_eq_none (by omega)]
  exact bitN_zero _
theorem getB_neg {l : List Int} {i : Int} (h : i < 0) : getB l i = false := by
  simp [getB, show ¬ 0 ≤ i by omega]
theorem getB_nat (l : List Int) (i : Nat) : getB l i = bt l i := by simp [getB]
theorem getB_out {l : List Int} {i : Int} (h : ¬ (0 ≤ i ∧ i / 8 < l.length)) : getB l i = false := by
  by_cases h0 : 0 ≤ i
  · obtain ⟨n, rfl⟩ := Int.eq_ofNat_of_zero_le h0
    rw [getB_nat]
    exact bt_out (by omega)
  · exact getB_neg (by omega)

/-! ### the bits of a byte, asked of all bytes -/
theorem byte_all (P : Nat → Nat → Bool) (h : (List.range 256).all (fun x => (List.range 8).all (P x)) = true) (x k : Nat) (hx : x < 256) (hk : k < 8) : P x k = true :=
  List.all_eq_true.1 (List.all_eq_true.1 h x (List.mem_range.2 hx)) k (List.mem_range.2 hk)

/-- the same in Nat -/
def bitM (x k : Nat) : Bool := decide (x / 2 ^ k % 2 = 1)
theorem bitN_nat (x k : Nat) : bitN (x : Int) k = bitM x k := by
  unfold bitN bitM
  have e : (x : Int) / 2 ^ k % 2 = ((x / 2 ^ k % 2 : Nat) : Int) := by simp
  rw [e, Bool.eq_iff_iff, decide_eq_true_iff, decide_eq_true_iff]
  omega
theorem bitM_test (x k : Nat) : bitM x k = x.testBit k := by
  unfold bitM
  rw [Nat.testBit_eq_decide_div_mod_eq]
theorem bitM_or (x y k : Nat) : bitM (x ||| y) k = (bitM x k || bitM y k) := by simp only [bitM_test, Nat.testBit_or]
theorem bitM_pow (j k : Nat) : bitM (2 ^ j) k = decide (j = k) := by rw [bitM_test, Nat.testBit_two_pow]
theorem bitM_ext {x y : Nat} (hx : x < 256) (hy : y < 256) (h : ∀ k, k < 8 → bitM x k = bitM y k) : x = y := by
  apply Nat.eq_of_testBit_eq
  intro i
  by_cases hi : i < 8
  · rw [← bitM_test, ← bitM_test]; exact h i hi
  · have hp : 256 ≤ 2 ^ i := Nat.pow_le_pow_right (n := 2) (i := 8) (j := i) (by omega) (by omega)
    rw [Nat.testBit_lt_two_pow (by omega), Nat.testBit_lt_two_pow (by omega)]
theorem pow_lt256 {k : Nat} (h : k < 8) : 2 ^ k < 256 := Nat.lt_of_lt_of_le (Nat.pow_lt_pow_right (by decide) h) (by decide)
theorem or_lt256 {x y : Nat} (hx : x < 256) (hy : y < 256) : x ||| y < 256 := Nat.or_lt_two_pow (n := 8) hx hy

/-- with one bit more, by a sum -/
theorem or_add {x k : Nat} (hx : x < 256) (hk : k < 8) (h : bitM x k = false) : x + 2 ^ k = x ||| 2 ^ k := by
  have := byte_all (fun x k => bitM x k || decide (x + 2 ^ k = x ||| 2 ^ k)) (by decide +kernel) x k hx hk
  simpa [h] using this
theorem or_had {x k : Nat} (hx : x < 256) (hk : k < 8) (h : bitM x k = true) : x ||| 2 ^ k = x := by
  have := byte_all (fun x k => !bitM x k || decide (x ||| 2 ^ k = x)) (by decide +kernel) x k hx hk
  simpa [h] using this

/-! ### rows of bytes with the same bits -/
theorem AllB_nat {l : List Int} (h : AllB l) (j : Nat) : ∃ n : Nat, l[j]?.getD 0 = (n : Int) ∧ n < 256 := by
  have := h.at_ j
  exact ⟨(l[j]?.getD 0).toNat, by omega, by omega⟩
theorem bits_ext {a b : List Int} (ha : AllB a) (hb : AllB b) (hl : a.length = b.length) (h : ∀ i, i < 8 * a.length → bt a i = bt b i) : a = b := by
  apply List.ext_getElem hl
  intro j h1 h2
  have ea : a[j]?.getD 0 = a[j] := by simp [h1]
  have eb : b[j]?.getD 0 = b[j] := by simp [h2]
  obtain ⟨x, hx, hx2⟩ := AllB_nat ha j
  obtain ⟨y, hy, hy2⟩ := AllB_nat hb j
  rw [← ea, ← eb, hx, hy]
  congr 1
  refine bitM_ext hx2 hy2 (fun k hk => ?_)
  have := h (8 * j + k) (by omega)
  unfold bt at this
  rw [show (8 * j + k) / 8 = j by omega, show (8 * j + k) % 8 = k by omega, hx, hy, bitN_nat, bitN_nat] at this
  exact this

/-! ### one more -/
/-- the row with the bit i more (i is one of its bits) -/
def markL (l : List Int) (i : Nat) : List Int := l.set (i / 8) (((l[i / 8]?.getD 0).toNat ||| 2 ^ (i % 8) : Nat) : Int)
/-- Set of a bit -/
def setL (l : List Int) (i : Int) : List Int := if 0 ≤ i ∧ i / 8 < l.length then markL l i.toNat else l
theorem markL_length (l : List Int) (i : Nat) : (markL l i).length = l.length := by simp [markL]
theorem setL_length (l : List Int) (i : Int) : (setL l i).length = l.length := by unfold setL; split <;> simp [markL_length]
theorem markL_AllB {l : List Int} (h : AllB l) (i : Nat) : AllB (markL l i) := by
  intro x hx
  rcases List.mem_or_eq_of_mem_set hx with hx | rfl
  · exact h x hx
  · have := h.at_ (i / 8)
    have h2 := or_lt256 (x := (l[i / 8]?.getD 0).toNat) (y := 2 ^ (i % 8)) (by omega) (pow_lt256 (by omega))
    omega
theorem setL_AllB {l : List Int} (h : AllB l) (i : Int) : AllB (setL l i) := by unfold setL; split; exact markL_AllB h _; exact h
theorem markL_get {l : List Int} {i : Nat} (hi : i / 8 < l.length) (j : Nat) : (markL l i)[j]?.getD 0 = if j = i / 8 then (((l[i / 8]?.getD 0).toNat ||| 2 ^ (i % 8) : Nat) : Int) else l[j]?.getD 0 := by
  unfold markL
  by_cases h : j = i / 8
  · subst h; rw [if_pos rfl, List.getElem?_set_self hi]; rfl
  · rw [if_neg h, List.getElem?_set_ne (fun e => h e.symm)]
theorem bt_markL {l : List Int} (hl : AllB l) {i : Nat} (hi : i < 8 * l.length) (j : Nat) : bt (markL l i) j = (bt l j || decide (j = i)) := by
  unfold bt
  rw [markL_get (by omega)]
  by_cases h : j / 8 = i / 8
  · obtain ⟨n, hn, hn2⟩ := AllB_nat hl (i / 8)
    rw [if_pos h, h, hn, bitN_nat, Int.toNat_natCast, bitM_or, bitM_pow, bitN_nat]
    congr 1
    rw [Bool.eq_iff_iff, decide_eq_true_iff, decide_eq_true_iff]
    omega
  · rw [if_neg h, show decide (j = i) = false by simp; omega, Bool.or_false]
theorem bt_setL {l : List Int} (hl : AllB l) (i : Int) (j : Nat) : bt (setL l i) j = (bt l j || (hasB l.length i && decide ((j : Int) = i))) := by
  unfold setL
  by_cases h : 0 ≤ i ∧ i / 8 < l.length
  · obtain ⟨n, rfl⟩ := Int.eq_ofNat_of_zero_le h.1
    rw [if_pos h, Int.toNat_natCast, bt_markL hl (by omega), show hasB l.length (n : Int) = true by simp [hasB]; omega, Bool.true_and]
    congr 1
    rw [Bool.eq_iff_iff, decide_eq_true_iff, decide_eq_true_iff]
    omega
  · rw [if_neg h, show hasB l.length i = false by simp only [hasB, decide_eq_false_iff_not]; exact h]; simp
/-- a bit that is there already -/
theorem setL_had {l : List Int} (hl : AllB l) {i : Int} (h : getB l i = true) : setL l i = l := by
  refine bits_ext (setL_AllB hl i) hl (setL_length _ _) (fun j _ => ?_)
  rw [bt_setL hl]
  by_cases e : (j : Int) = i
  · subst e; rw [getB_nat] at h; rw [h, Bool.true_or]
  · simp [e]

/-! ### how many bits; which ones -/
/-- the bits that are set, the least first -/
def onesL (l : List Int) : List Nat := (List.range (8 * l.length)).filter (bt l)
def cntL (l : List Int) : Nat := (onesL l).length
theorem mem_onesL {l : List Int} {i : Nat} : i ∈ onesL l ↔ bt l i = true := by
  unfold onesL
  rw [List.mem_filter, List.mem_range]
  refine ⟨fun h => h.2, fun h => ⟨?_, h⟩⟩
  rcases Nat.lt_or_ge i (8 * l.length) with h2 | h2
  · exact h2
  · rw [bt_out h2] at h; cases h
theorem cntL_le (l : List Int) : cntL l ≤ 8 * l.length := by
  have := List.length_filter_le (bt l) (List.range (8 * l.length))
  simpa [cntL, onesL] using this
/-- of the first t bits -/
def cntTo (l : List Int) (t : Nat) : Nat := ((List.range t).filter (bt l)).length
theorem cntTo_zero (l : List Int) : cntTo l 0 = 0 := rfl
theorem cntTo_succ (l : List Int) (t : Nat) : cntTo l (t + 1) = cntTo l t + if bt l t = true then 1 else 0 := by
  unfold cntTo
  rw [List.range_succ, List.filter_append]
  by_cases h : bt l t = true <;> simp [h]
theorem cntTo_le (l : List Int) (t : Nat) : cntTo l t ≤ t := by
  have := List.length_filter_le (bt l) (List.range t)
  simpa [cntTo] using this
theorem cntTo_all (l : List Int) : cntTo l (8 * l.length) = cntL l := rfl
theorem range_add (a b : Nat) : List.range (a + b) = List.range a ++ (List.range b).map (a + ·) := by
  rw [List.range_eq_range', List.range_eq_range', List.range_eq_range', ← List.range'_append_1 (s := 0) (m := a) (n := b)]
  congr 1
  rw [Nat.zero_add, List.map_add_range', Nat.add_zero]
/-- the bits of one byte -/
def onesM (x : Nat) : List Nat := (List.range 8).filter (bitM x)
theorem onesM_len (x : Nat) (h : x < 256) : (onesM x).length = Lib.onesCount x := by
  have := byte_all (fun x _ => decide ((onesM x).length = Lib.onesCount x)) (by decide +kernel) x 0 h (by omega)
  simpa using this
theorem filter_byte {l : List Int} {j x : Nat} (h : l[j]?.getD 0 = (x : Int)) : ((List.range 8).map (8 * j + ·)).filter (bt l) = (onesM x).map (8 * j + ·) := by
  rw [List.filter_map]
  unfold onesM
  congr 1
  apply List.filter_congr
  intro k hk
  rw [List.mem_range] at hk
  show bt l (8 * j + k) = _
  unfold bt
  rw [show (8 * j + k) / 8 = j by omega, show (8 * j + k) % 8 = k by omega, h, bitN_nat]
/-- of the first j bytes -/
def onesTo (l : List Int) (j : Nat) : List Nat := (List.range (8 * j)).filter (bt l)
theorem onesTo_succ {l : List Int} {j x : Nat} (h : l[j]?.getD 0 = (x : Int)) : onesTo l (j + 1) = onesTo l j ++ (onesM x).map (8 * j + ·) := by
  unfold onesTo
  rw [show 8 * (j + 1) = 8 * j + 8 by omega, range_add, List.filter_append, filter_byte h]
theorem onesTo_all (l : List Int) : onesTo l l.length = onesL l := rfl
theorem onesTo_zero (l : List Int) : onesTo l 0 = [] := rfl

/-- the lowest bit that is set, told and taken away -/
theorem onesM_step {x : Nat} (h : x < 256) (h0 : 0 < x) : onesM x = Lib.trailingZeros8 x :: onesM (x &&& (x - 1)) ∧ (x &&& (x - 1)) < x ∧ Lib.trailingZeros8 x < 8 := by
  have := byte_all (fun x _ => decide (x = 0) || decide (onesM x = Lib.trailingZeros8 x :: onesM (x &&& (x - 1)) ∧ (x &&& (x - 1)) < x ∧ Lib.trailingZeros8 x < 8)) (by decide +kernel) x 0 h (by omega)
  rw [Bool.or_eq_true, decide_eq_true_iff, decide_eq_true_iff] at this
  rcases this with h | h
  · omega
  · exact h
theorem onesM_zero : onesM 0 = [] := by decide

/-! ### First -/
theorem takeWhile_all {p : Nat → Bool} {l : List Nat} (h : ∀ x ∈ l, p x = true) : l.takeWhile p = l := by
  induction l with
  | nil => rfl
  | cons x l ih => rw [List.takeWhile_cons, if_pos (h x List.mem_cons_self), ih (fun y hy => h y (List.mem_cons_of_mem _ hy))]
def IsFirst (l : List Int) (m k : Nat) : Prop := k ≤ m ∧ (∀ i, i < k → bt l i = true) ∧ (k = m ∨ bt l k = false)
def fst (l : List Int) (m : Nat) : Nat := ((List.range m).takeWhile (bt l)).length
theorem IsFirst.uniq {l : List Int} {m a b : Nat} (ha : IsFirst l m a) (hb : IsFirst l m b) : a = b := by
  obtain ⟨a1, a2, a3⟩ := ha
  obtain ⟨b1, b2, b3⟩ := hb
  rcases Nat.lt_trichotomy a b with h | h | h
  · have := b2 a h
    rcases a3 with e | e
    · omega
    · rw [e] at this; cases this
  · exact h
  · have := a2 b h
    rcases b3 with e | e
    · omega
    · rw [e] at this; cases this
theorem fst_is (l : List Int) (m : Nat) : IsFirst l m (fst l m) := by
  induction m with
  | zero => exact ⟨by simp [fst], fun i hi => by simp [fst] at hi, .inl (by simp [fst])⟩
  | succ m ih =>
    obtain ⟨h1, h2, h3⟩ := ih
    by_cases hall : fst l m = m
    · by_cases hb : bt l m = true
      · have e : fst l (m + 1) = m + 1 := by
          unfold fst
          rw [takeWhile_all]
          · simp
          · intro x hx
            rw [List.mem_range] at hx
            by_cases hx2 : x < m
            · exact h2 x (by omega)
            · rw [show x = m by omega]; exact hb
        rw [e]
        refine ⟨by omega, fun i hi => ?_, .inl rfl⟩
        by_cases hx2 : i < m
        · exact h2 i (by omega)
        · rw [show i = m by omega]; exact hb
      · have e : fst l (m + 1) = m := by
          have e2 : (List.range m).takeWhile (bt l) = List.range m := takeWhile_all (fun x hx => h2 x (by rw [hall]; exact List.mem_range.1 hx))
          unfold fst
          rw [List.range_succ, List.takeWhile_append, e2, if_pos rfl]
          simp [hb]
        rw [e]
        exact ⟨by omega, fun i hi => h2 i (by omega), .inr (by simpa using hb)⟩
    · have e : fst l (m + 1) = fst l m := by
        unfold fst
        rw [List.range_succ, List.takeWhile_append, if_neg]
        intro h
        apply hall
        unfold fst
        rw [h, List.length_range]
      rw [e]
      exact ⟨by omega, h2, .inr (h3.resolve_left hall)⟩
theorem fst_eq {l : List Int} {m k : Nat} (h : IsFirst l m k) : k = fst l m := h.uniq (fst_is l m)
/-- First of n bits -/
def clipN (n : Int) : Nat := (min (max n 0) 65536).toNat
def firstV (l : List Int) (n : Int) : Int := (fst l (clipN n) : Nat)

/-! ### Make, Right -/
def makeN (n : Int) : Nat := (clipN n + 7) / 8
theorem clipN_le (n : Int) : clipN n ≤ 65536 := by unfold clipN; omega
theorem makeN_le (n : Int) : makeN n ≤ 8192 := by have := clipN_le n; unfold makeN; omega
theorem ceil8 {c : Nat} (h : c ≤ 65536) : ceilV (c : Int) 8 = ((c + 7) / 8 : Nat) := by
  unfold ceilV
  rw [if_pos (by omega)]
  split <;> omega
/-- no bit from n on -/
def noneFrom (l : List Int) (n : Nat) : Bool := (onesL l).all (fun i => decide (i < n))
theorem noneFrom_iff {l : List Int} {n : Nat} : noneFrom l n = true ↔ ∀ i, n ≤ i → bt l i = false := by
  unfold noneFrom
  rw [List.all_eq_true]
  constructor
  · intro h i hi
    cases hb : bt l i with
    | false => rfl
    | true =>
      have := h i (mem_onesL.2 hb)
      rw [decide_eq_true_iff] at this
      omega
  · intro h i hi
    rw [decide_eq_true_iff]
    rcases Nat.lt_or_ge i n with h2 | h2
    · exact h2
    · rw [mem_onesL, h i h2] at hi; cases hi
def rightOK (l : List Int) (n : Int) : Bool := decide (0 ≤ n ∧ n ≤ 65536 ∧ l.length = makeN n) && noneFrom l n.toNat

/-! ### Or, Within -/
def marks (l : List Int) (ys : List Nat) : List Int := ys.foldl markL l
theorem marks_snoc (l : List Int) (ys : List Nat) (y : Nat) : marks l (ys ++ [y]) = markL (marks l ys) y := by simp [marks]
theorem marks_length (l : List Int) (ys : List Nat) : (marks l ys).length = l.length := by
  induction ys generalizing l with
  | nil => rfl
  | cons y ys ih => exact (ih (markL l y)).trans (markL_length l y)
theorem marks_AllB {l : List Int} (h : AllB l) (ys : List Nat) : AllB (marks l ys) := by
  induction ys generalizing l with
  | nil => exact h
  | cons y ys ih => exact ih (markL_AllB h y)
theorem bt_marks {l : List Int} (hl : AllB l) {ys : List Nat} (hy : ∀ y ∈ ys, y < 8 * l.length) (j : Nat) : bt (marks l ys) j = (bt l j || decide (j ∈ ys)) := by
  induction ys generalizing l with
  | nil => simp [marks]
  | cons y ys ih =>
    show bt (marks (markL l y) ys) j = _
    rw [ih (markL_AllB hl y) (fun z hz => by rw [markL_length]; exact hy z (List.mem_cons_of_mem _ hz)), bt_markL hl (hy y List.mem_cons_self), Bool.or_assoc]
    congr 1
    rw [Bool.eq_iff_iff, Bool.or_eq_true, decide_eq_true_iff, decide_eq_true_iff, decide_eq_true_iff, List.mem_cons]
/-- a row, with noughts behind it up to so many bytes -/
def padL (l : List Int) (n : Nat) : List Int := l ++ List.replicate (n - l.length) 0
def orL (a b : List Int) : List Int := marks (padL a (max a.length b.length)) (onesL b)
theorem padL_length {l : List Int} {n : Nat} (h : l.length ≤ n) : (padL l n).length = n := by unfold padL; rw [List.length_append, List.length_replicate]; omega
theorem padL_AllB {l : List Int} (h : AllB l) (n : Nat) : AllB (padL l n) := by
  intro x hx
  rcases List.mem_append.1 hx with hx | hx
  · exact h x hx
  · rw [List.eq_of_mem_replicate hx]; omega
theorem bt_padL (l : List Int) (n j : Nat) : bt (padL l n) j = bt l j := by
  unfold bt padL
  congr 1
  by_cases h : j / 8 < l.length
  · rw [List.getElem?_append_left h]
  · rw [List.getElem?_append_right (by omega), List.getElem?_eq_none (l := l) (by omega)]
    by_cases h2 : j / 8 - l.length < n - l.length
    · rw [List.getElem?_replicate, if_pos h2]; rfl
    · rw [List.getElem?_eq_none (by simp; omega)]
theorem onesL_lt {l : List Int} {i : Nat} (h : i ∈ onesL l) : i < 8 * l.length := by
  unfold onesL at h
  exact List.mem_range.1 (List.mem_filter.1 h).1
theorem orL_length (a b : List Int) : (orL a b).length = max a.length b.length := by
  unfold orL; rw [marks_length, padL_length (by omega)]
theorem orL_AllB {a : List Int} (h : AllB a) (b : List Int) : AllB (orL a b) := marks_AllB (padL_AllB h _) _
theorem bt_orL {a b : List Int} (ha : AllB a) (j : Nat) : bt (orL a b) j = (bt a j || bt b j) := by
  unfold orL
  rw [bt_marks (padL_AllB ha _) (fun y hy => by rw [padL_length (by omega)]; have := onesL_lt hy; omega), bt_padL]
  congr 1
  rw [Bool.eq_iff_iff, decide_eq_true_iff, mem_onesL]
def withinL (a b : List Int) : Bool := (onesL a).all (bt b)
theorem withinL_iff {a b : List Int} : withinL a b = true ↔ ∀ i, bt a i = true → bt b i = true := by
  unfold withinL
  rw [List.all_eq_true]
  exact ⟨fun h i hi => h i (mem_onesL.2 hi), fun h i hi => h i (mem_onesL.1 hi)⟩

end Go.Proofs.Ytmjgpgibifceeaa
