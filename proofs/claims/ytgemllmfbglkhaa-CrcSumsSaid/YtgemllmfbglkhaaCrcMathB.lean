/-
  Plain facts on CRC-32C for layer 2 (crc), second part: rows of bytes as numbers (the least byte first), what a sealed row's register comes to, bursts, rows of noughts. No program is named here.
-/
import Derived.Test.YtgemllmfbglkhaaCrcMath
namespace Go.Proofs.Ytgemllmfbglkhaa

/-! ### a number's bytes, the least first -/
def le : Nat → Nat → List Nat
  | 0, _ => []
  | k + 1, x => x % 256 :: le k (x / 256)
theorem le_length (k x : Nat) : (le k x).length = k := by
  induction k generalizing x with
  | zero => rfl
  | succ k ih => simp [le, ih]
theorem le_BB (k x : Nat) : BB (le k x) := by
  induction k generalizing x with
  | zero => intro y hy; simp [le] at hy
  | succ k ih =>
    intro y hy
    rcases List.mem_cons.1 hy with rfl | h
    · omega
    · exact ih _ y h
theorem le_get (k x i : Nat) (h : i < k) : (le k x)[i]? = some (x / 256 ^ i % 256) := by
  induction k generalizing x i with
  | zero => omega
  | succ k ih =>
    cases i with
    | zero => simp [le]
    | succ i =>
      show (le k (x / 256))[i]? = _
      rw [ih _ _ (by omega), Nat.div_div_eq_div_mul, Nat.pow_succ, Nat.mul_comm]
/-- each row of bytes is a number's -/
def leV (l : List Nat) : Nat := l.foldr (fun b a => 256 * a + b) 0
theorem leV_lt {l : List Nat} (h : BB l) : leV l < 256 ^ l.length := by
  induction l with
  | nil => simp [leV]
  | cons x l ih =>
    have := ih h.tail
    have := h.head
    show 256 * leV l + x < 256 ^ (l.length + 1)
    rw [Nat.pow_succ]; omega
theorem le_leV {l : List Nat} (h : BB l) : le l.length (leV l) = l := by
  induction l with
  | nil => rfl
  | cons x l ih =>
    have hx := h.head
    show (256 * leV l + x) % 256 :: le l.length ((256 * leV l + x) / 256) = x :: l
    rw [show (256 * leV l + x) % 256 = x by omega, show (256 * leV l + x) / 256 = leV l by omega, ih h.tail]
theorem leV_le {k x : Nat} (h : x < 256 ^ k) : leV (le k x) = x := by
  induction k generalizing x with
  | zero => simp at h; subst h; rfl
  | succ k ih =>
    show 256 * leV (le k (x / 256)) + x % 256 = x
    rw [ih (by rw [Nat.pow_succ] at h; omega)]
    omega
/-- the register behind a number's bytes -/
theorem U_le (s k x : Nat) (h : x < 256 ^ k) : U s (le k x) = Ts (8 * k) (s ^^^ x) := by
  induction k generalizing s x with
  | zero => simp at h; subst h; simp [le, U, Ts]
  | succ k ih =>
    show U (upd s (x % 256)) (le k (x / 256)) = _
    rw [ih _ _ (by rw [Nat.pow_succ] at h; omega), show 8 * (k + 1) = 8 + 8 * k by omega, Ts_add]
    congr 1
    have e := split_xor x 8
    rw [show (2 : Nat) ^ 8 = 256 from rfl] at e
    have e2 := Ts_shift 8 (x / 256)
    rw [show (2 : Nat) ^ 8 = 256 from rfl] at e2
    have e3 : Ts 8 (s ^^^ (x / 256 * 256 ^^^ x % 256)) = upd s (x % 256) ^^^ x / 256 := by
      rw [Nat.xor_comm (x / 256 * 256), ← Nat.xor_assoc, Ts_xor, e2]; rfl
    rw [e] at e3
    exact e3.symm

/-! ### what is sealed -/
theorem crcSum_eq (l : List Nat) : crcSum l = U ones l ^^^ ones := by unfold crcSum crcMore; rw [Nat.zero_xor]
theorem crcSum_lt {l : List Nat} (h : BB l) : crcSum l < 4294967296 := crcMore_lt (by decide) h
theorem xor_left_cancel' (a b : Nat) : a ^^^ (a ^^^ b) = b := by rw [← Nat.xor_assoc, Nat.xor_self, Nat.zero_xor]
/-- four bytes behind a row are its sum just if the register is that of noughts behind ones -/
theorem sealed_iff {f : List Nat} {x : Nat} (hf : BB f) (hx : x < 4294967296) : U ones (f ++ le 4 x) = Ts 32 ones ↔ x = crcSum f := by
  rw [U_append, U_le _ 4 x (by simpa using hx)]
  have hu := U_lt ones_lt hf
  constructor
  · intro h
    have h2 := Ts_inj (xor_lt32 hu hx) ones_lt h
    have h3 : U ones f ^^^ (U ones f ^^^ x) = U ones f ^^^ ones := by rw [h2]
    rw [xor_left_cancel'] at h3
    rw [crcSum_eq, h3]
  · intro h
    rw [h, crcSum_eq, xor_left_cancel']
theorem U_err (l e : List Nat) (h : l.length = e.length) : U ones (List.zipWith (· ^^^ ·) l e) = U ones l ^^^ U 0 e := by
  have := U_xor ones 0 l e h
  rwa [Nat.xor_zero] at this

/-! ### bursts -/
theorem pow256_eq (k : Nat) : 256 ^ k = 2 ^ (8 * k) := by rw [Nat.pow_mul]
theorem le_xor (k x y : Nat) : le k (x ^^^ y) = List.zipWith (· ^^^ ·) (le k x) (le k y) := by
  induction k generalizing x y with
  | zero => rfl
  | succ k ih =>
    show (x ^^^ y) % 256 :: le k ((x ^^^ y) / 256) = (x % 256 ^^^ y % 256) :: List.zipWith (· ^^^ ·) (le k (x / 256)) (le k (y / 256))
    have h1 := @Nat.xor_mod_two_pow x y 8
    have h2 := @Nat.xor_div_two_pow x y 8
    rw [show (2 : Nat) ^ 8 = 256 from rfl] at h1 h2
    rw [h1, h2, ih]
/-- the register is nought behind a burst of p, from bit 'first' on, just if p is nought -/
theorem burst_zero {k first p : Nat} (hf : first ≤ 8 * k) (hp : p < 4294967296) (hfit : p * 2 ^ first < 256 ^ k) : U 0 (le k (p * 2 ^ first)) = 0 ↔ p = 0 := by
  rw [U_le _ _ _ hfit, Nat.zero_xor]
  have e : Ts (8 * k) (p * 2 ^ first) = Ts (8 * k - first) p := by
    rw [show 8 * k = first + (8 * k - first) by omega, Ts_add, Ts_shift]
    congr 1; omega
  rw [e]
  exact ⟨fun h => Ts_eq_zero hp h, fun h => by rw [h, Ts_zero]⟩
/-- one bit of a row, turned -/
theorem byte_pow (j i : Nat) : 2 ^ j / 256 ^ i % 256 = if i = j / 8 then 2 ^ (j % 8) else 0 := by
  rw [pow256_eq]
  by_cases h : 8 * i ≤ j
  · rw [Nat.pow_div h (by decide)]
    by_cases h2 : i = j / 8
    · rw [if_pos h2, show j - 8 * i = j % 8 by omega]
      refine Nat.mod_eq_of_lt ?_
      have : 2 ^ (j % 8) ≤ 2 ^ 7 := Nat.pow_le_pow_right (by decide) (by omega)
      omega
    · rw [if_neg h2, show j - 8 * i = 8 + (j - 8 * i - 8) by omega, Nat.pow_add]
      exact Nat.mul_mod_right _ _
  · rw [if_neg (by omega), Nat.div_eq_of_lt (Nat.pow_lt_pow_right (by decide) (by omega))]
theorem byte_xor (x y i : Nat) : (x ^^^ y) / 256 ^ i % 256 = x / 256 ^ i % 256 ^^^ y / 256 ^ i % 256 := by
  rw [pow256_eq, Nat.xor_div_two_pow, show (256 : Nat) = 2 ^ 8 from rfl, Nat.xor_mod_two_pow]
theorem le_flip (k x j : Nat) (h : j / 8 < k) : (le k x).set (j / 8) ((x / 256 ^ (j / 8) % 256) ^^^ 2 ^ (j % 8)) = le k (x ^^^ 2 ^ j) := by
  apply List.ext_getElem?
  intro i
  by_cases hi : i < k
  · rw [List.getElem?_set, le_get _ _ _ hi, le_get _ _ _ hi, byte_xor, byte_pow]
    by_cases e : j / 8 = i
    · subst e; simp [le_length, h]
    · rw [if_neg e, if_neg (by omega), Nat.xor_zero]
  · rw [List.getElem?_eq_none (by simp [le_length]; omega), List.getElem?_eq_none (by simp [le_length]; omega)]

/-! ### rows of noughts -/
theorem crcSum_zeros (k : Nat) : crcSum (List.replicate k 0) = Ts (8 * k) ones ^^^ ones := by rw [crcSum_eq, U_zeros]
/-- no row of 1 to n noughts leads back -/
def noBack : Nat → Nat → Bool
  | 0, _ => true
  | k + 1, s => let t := Ts 8 s; t != ones && noBack k t
theorem noBack_spec (k s : Nat) (h : noBack k s = true) : ∀ d, 1 ≤ d → d ≤ k → Ts (8 * d) s ≠ ones := by
  induction k generalizing s with
  | zero => intro d h1 h2; omega
  | succ k ih =>
    intro d h1 h2
    simp only [noBack, Bool.and_eq_true, bne_iff_ne] at h
    by_cases hd : d = 1
    · subst hd; exact h.1
    · rw [show 8 * d = 8 + 8 * (d - 1) by omega, Ts_add]
      exact ih _ h.2 (d - 1) (by omega) (by omega)
theorem noBack_thousand : noBack 999 ones = true := by decide +kernel
theorem zeros_differ {x y : Nat} (hx : x < 1000) (hy : y < 1000) (h : crcSum (List.replicate x 0) = crcSum (List.replicate y 0)) : x = y := by
  rw [crcSum_zeros, crcSum_zeros] at h
  have h' : Ts (8 * x) ones = Ts (8 * y) ones := by
    have := congrArg (· ^^^ ones) h
    simp only [xor_twice] at this
    exact this
  rcases Nat.lt_trichotomy x y with hlt | rfl | hlt
  · exfalso
    rw [show 8 * y = 8 * (y - x) + 8 * x by omega, Ts_add] at h'
    exact noBack_spec 999 ones noBack_thousand (y - x) (by omega) (by omega) (Ts_inj (Ts_lt ones_lt) ones_lt h'.symm)
  · rfl
  · exfalso
    rw [show 8 * x = 8 * (x - y) + 8 * y by omega, Ts_add] at h'
    exact noBack_spec 999 ones noBack_thousand (x - y) (by omega) (by omega) (Ts_inj (Ts_lt ones_lt) ones_lt h')

end Go.Proofs.Ytgemllmfbglkhaa
