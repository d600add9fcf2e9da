/-
  Plain facts on CRC-32C for layer 2 (crc): Step as a map T on numbers below 2^32: it is linear for xor and has no kernel; what comes of that for sums in pieces, for bursts, for rows of noughts. No program is named here.
-/
import Derived.WalkKit
namespace Go.Proofs.Ytgemllmfbglkhaa

/-! ### one Step -/
def poly : Nat := 0x82f63b78
def T (n : Nat) : Nat := if n % 2 = 1 then n / 2 ^^^ poly else n / 2
theorem T_zero : T 0 = 0 := rfl
theorem T_xor (a b : Nat) : T (a ^^^ b) = T a ^^^ T b := by
  unfold T
  have h := @Nat.xor_mod_two_eq_one a b
  have ha : a % 2 = 0 ∨ a % 2 = 1 := by omega
  have hb : b % 2 = 0 ∨ b % 2 = 1 := by omega
  rw [Nat.xor_div_two]
  rcases ha with ha | ha <;> rcases hb with hb | hb
  · rw [if_neg (by rw [h]; omega), if_neg (by omega), if_neg (by omega)]
  · rw [if_pos (by rw [h]; omega), if_neg (by omega), if_pos hb, Nat.xor_assoc]
  · rw [if_pos (by rw [h]; omega), if_pos ha, if_neg (by omega), Nat.xor_assoc, Nat.xor_assoc, Nat.xor_comm poly]
  · rw [if_neg (by rw [h]; omega), if_pos ha, if_pos hb, Nat.xor_assoc, ← Nat.xor_assoc poly, Nat.xor_comm poly, Nat.xor_assoc, Nat.xor_self, Nat.xor_zero]
theorem T_lt {n : Nat} (h : n < 4294967296) : T n < 4294967296 := by
  unfold T
  split
  · exact Nat.xor_lt_two_pow (n := 32) (by omega) (by decide)
  · omega
/-- the top bit of a Step says whether the number was odd -/
theorem T_top {n : Nat} (h : n < 4294967296) : T n / 2147483648 = n % 2 := by
  unfold T
  split
  · rename_i ho
    have e := @Nat.xor_div_two_pow (n / 2) poly 31
    rw [show (2 : Nat) ^ 31 = 2147483648 from rfl] at e
    rw [e, Nat.div_eq_of_lt (by omega), ho]
    rfl
  · omega
theorem T_inj {a b : Nat} (ha : a < 4294967296) (hb : b < 4294967296) (h : T a = T b) : a = b := by
  have h1 := T_top ha
  have h2 := T_top hb
  rw [h, h2] at h1
  unfold T at h
  by_cases o : a % 2 = 1
  · rw [if_pos o, if_pos (by omega)] at h
    have : (a / 2 ^^^ poly) ^^^ poly = (b / 2 ^^^ poly) ^^^ poly := by rw [h]
    rw [Nat.xor_assoc, Nat.xor_assoc, Nat.xor_self, Nat.xor_zero, Nat.xor_zero] at this
    omega
  · rw [if_neg o, if_neg (by omega)] at h
    omega

/-! ### many Steps -/
def Ts : Nat → Nat → Nat
  | 0, n => n
  | k + 1, n => Ts k (T n)
theorem Ts_add (j k n : Nat) : Ts (j + k) n = Ts k (Ts j n) := by
  induction j generalizing n with
  | zero => simp [Ts]
  | succ j ih => rw [Nat.add_right_comm]; exact ih (T n)
theorem Ts_succ (k n : Nat) : Ts (k + 1) n = T (Ts k n) := Ts_add k 1 n
theorem Ts_zero (k : Nat) : Ts k 0 = 0 := by
  induction k with
  | zero => rfl
  | succ k ih => exact ih
theorem Ts_xor (k a b : Nat) : Ts k (a ^^^ b) = Ts k a ^^^ Ts k b := by
  induction k generalizing a b with
  | zero => rfl
  | succ k ih => show Ts k (T (a ^^^ b)) = _; rw [T_xor, ih]; rfl
theorem Ts_lt {k n : Nat} (h : n < 4294967296) : Ts k n < 4294967296 := by
  induction k generalizing n with
  | zero => exact h
  | succ k ih => exact ih (T_lt h)
theorem Ts_inj {k a b : Nat} (ha : a < 4294967296) (hb : b < 4294967296) (h : Ts k a = Ts k b) : a = b := by
  induction k generalizing a b with
  | zero => exact h
  | succ k ih => exact T_inj ha hb (ih (T_lt ha) (T_lt hb) h)
theorem Ts_eq_zero {k n : Nat} (h : n < 4294967296) (e : Ts k n = 0) : n = 0 := Ts_inj (k := k) h (by omega) (e.trans (Ts_zero k).symm)
/-- an even number's Steps are halves, while it has noughts below -/
theorem Ts_shift (k h : Nat) : Ts k (h * 2 ^ k) = h := by
  induction k with
  | zero => simp [Ts]
  | succ k ih =>
    show Ts k (T (h * 2 ^ (k + 1))) = h
    have e : h * 2 ^ (k + 1) = 2 * (h * 2 ^ k) := by rw [Nat.pow_succ, ← Nat.mul_assoc, Nat.mul_comm]
    have : T (h * 2 ^ (k + 1)) = h * 2 ^ k := by unfold T; rw [if_neg (by omega)]; omega
    rw [this, ih]
/-- a number is its upper part, and its lower -/
theorem split_xor (n k : Nat) : n / 2 ^ k * 2 ^ k ^^^ n % 2 ^ k = n := by
  apply Nat.eq_of_testBit_eq
  intro i
  rw [Nat.testBit_xor, Nat.testBit_mul_two_pow, Nat.testBit_mod_two_pow, Nat.testBit_div_two_pow]
  by_cases h : i < k
  · simp [h, Nat.not_le.2 h]
  · have h' : k ≤ i := by omega
    simp [h, h']
theorem Ts_split (k n : Nat) : Ts k n = n / 2 ^ k ^^^ Ts k (n % 2 ^ k) := by
  have h := congrArg (Ts k) (split_xor n k)
  rw [Ts_xor, Ts_shift] at h
  exact h.symm

/-! ### bytes -/
def upd (s b : Nat) : Nat := Ts 8 (s ^^^ b)
def U (s : Nat) (l : List Nat) : Nat := l.foldl upd s
/-- a row of bytes -/
def BB (l : List Nat) : Prop := ∀ x ∈ l, x < 256
theorem xor_lt32 {a b : Nat} (h : a < 4294967296) (h' : b < 4294967296) : a ^^^ b < 4294967296 := Nat.xor_lt_two_pow (n := 32) h h'
theorem upd_lt {s b : Nat} (h : s < 4294967296) (hb : b < 256) : upd s b < 4294967296 := Ts_lt (xor_lt32 h (by omega))
theorem U_append (s : Nat) (l m : List Nat) : U s (l ++ m) = U (U s l) m := List.foldl_append
theorem U_cons (s x : Nat) (l : List Nat) : U s (x :: l) = U (upd s x) l := rfl
theorem U_nil (s : Nat) : U s [] = s := rfl
theorem BB.tail {x : Nat} {l : List Nat} (h : BB (x :: l)) : BB l := fun y hy => h y (List.mem_cons_of_mem _ hy)
theorem BB.head {x : Nat} {l : List Nat} (h : BB (x :: l)) : x < 256 := h x List.mem_cons_self
theorem U_lt {s : Nat} {l : List Nat} (h : s < 4294967296) (hl : BB l) : U s l < 4294967296 := by
  induction l generalizing s with
  | nil => exact h
  | cons x l ih => exact ih (upd_lt h hl.head) hl.tail
/-- the table's way is the same -/
theorem upd_table {s b : Nat} (hb : b < 256) : upd s b = s / 256 ^^^ Ts 8 (s % 256 ^^^ b) := by
  unfold upd
  rw [Ts_split 8 (s ^^^ b), Nat.xor_div_two_pow, Nat.xor_mod_two_pow]
  rw [show (2 : Nat) ^ 8 = 256 from rfl, Nat.div_eq_of_lt hb, Nat.xor_zero, Nat.mod_eq_of_lt hb]
theorem xor_xor_cancel (a b c d : Nat) : (a ^^^ b) ^^^ (c ^^^ d) = (a ^^^ c) ^^^ (b ^^^ d) := by
  rw [Nat.xor_assoc, ← Nat.xor_assoc b, Nat.xor_comm b c, Nat.xor_assoc c, ← Nat.xor_assoc]
/-- rows as long, xored -/
theorem U_xor (s t : Nat) : ∀ (l m : List Nat), l.length = m.length → U (s ^^^ t) (List.zipWith (· ^^^ ·) l m) = U s l ^^^ U t m := by
  intro l
  induction l generalizing s t with
  | nil => intro m h; cases m with | nil => rfl | cons _ _ => simp at h
  | cons x l ih =>
    intro m h
    cases m with
    | nil => simp at h
    | cons y m =>
      rw [List.zipWith_cons_cons, U_cons, U_cons, U_cons]
      have e : upd (s ^^^ t) (x ^^^ y) = upd s x ^^^ upd t y := by unfold upd; rw [xor_xor_cancel, Ts_xor]
      rw [e]
      exact ih _ _ m (by simpa using h)
theorem U_zeros (s k : Nat) : U s (List.replicate k 0) = Ts (8 * k) s := by
  induction k generalizing s with
  | zero => rfl
  | succ k ih =>
    rw [List.replicate_succ, U_cons, ih, show 8 * (k + 1) = 8 + 8 * k by omega, Ts_add]
    unfold upd
    rw [Nat.xor_zero]

/-! ### sums -/
def ones : Nat := 4294967295
def crcMore (n : Nat) (l : List Nat) : Nat := U (n ^^^ ones) l ^^^ ones
def crcSum (l : List Nat) : Nat := crcMore 0 l
theorem ones_lt : ones < 4294967296 := by decide
theorem xor_twice (a b : Nat) : a ^^^ b ^^^ b = a := by rw [Nat.xor_assoc, Nat.xor_self, Nat.xor_zero]
theorem crcMore_lt {n : Nat} {l : List Nat} (h : n < 4294967296) (hl : BB l) : crcMore n l < 4294967296 := xor_lt32 (U_lt (xor_lt32 h ones_lt) hl) ones_lt
theorem crcMore_append (n : Nat) (l m : List Nat) : crcMore (crcMore n l) m = crcMore n (l ++ m) := by
  unfold crcMore
  rw [xor_twice, U_append]
theorem crcSum_alike (a b : List Nat) (h : a.length = b.length) :
    crcSum a ^^^ crcSum b = crcSum (List.zipWith (· ^^^ ·) a b) ^^^ crcSum (List.replicate a.length 0) := by
  unfold crcSum crcMore
  rw [xor_xor_cancel, Nat.xor_self, Nat.xor_zero, xor_xor_cancel, Nat.xor_self, Nat.xor_zero, Nat.zero_xor]
  rw [← U_xor ones ones a b h, Nat.xor_self]
  have e : List.zipWith (· ^^^ ·) (List.zipWith (· ^^^ ·) a b) (List.replicate a.length 0) = List.zipWith (· ^^^ ·) a b := by
    clear h
    induction a generalizing b with
    | nil => rfl
    | cons x a ih => cases b with
      | nil => rfl
      | cons y b => simp [List.replicate_succ, ih]
  have h2 := U_xor ones ones (List.zipWith (· ^^^ ·) a b) (List.replicate a.length 0) (by simp [h])
  rw [e, Nat.xor_self] at h2
  exact h2

end Go.Proofs.Ytgemllmfbglkhaa
