/-
  Plain facts for layer 6 (ptr): words that point, as numbers and as what they point to. No program is named here.
-/
import Derived.Test.YtknmbohokmeidaaDoorWordMath
namespace Go.Proofs.YtknmbohokmeidaaDoor

/-- what a word points to -/
structure Pt where
  kind : Int
  off : Int
  data : Int
  ptrs : Int
  size : Int
  count : Int
  seg : Int
  dbl : Bool
def Pt.zero : Pt := ⟨0, 0, 0, 0, 0, 0, 0, false⟩
def eqP (p q : Pt) : Bool := p.kind == q.kind && (p.off == q.off && (p.data == q.data && (p.ptrs == q.ptrs && (p.size == q.size && (p.count == q.count && (p.seg == q.seg && p.dbl == q.dbl))))))
theorem eqP_iff {p q : Pt} : eqP p q = true ↔ p = q := by
  obtain ⟨a, b, c, d, e, f, g, h⟩ := p
  obtain ⟨a', b', c', d', e', f', g', h'⟩ := q
  simp [eqP]
theorem eqP_no {p q : Pt} : eqP p q = false ↔ p ≠ q := by rw [← Bool.not_eq_true, eqP_iff]

def sgn30 (m : Int) : Int := if 536870912 ≤ m then m - 1073741824 else m
theorem sgn30_is (m : Int) (h0 : 0 ≤ m) (h1 : m < 1073741824) : sgnV m 30 = sgn30 m := by
  have e1 : (2 : Int) ^ 30 = 1073741824 := by decide
  have e2 : (2 : Int) ^ (30 - 1) = 536870912 := by decide
  unfold sgnV sgn30
  rw [e1, e2, Int.emod_eq_of_lt h0 h1]
def decP (n : Int) : Pt :=
  if n = 0 then Pt.zero
  else if n % 4 = 0 then ⟨1, sgn30 (n / 4 % 1073741824), n / 4294967296 % 65536, n / 281474976710656 % 65536, 0, 0, 0, false⟩
  else if n % 4 = 1 then ⟨2, sgn30 (n / 4 % 1073741824), 0, 0, n / 4294967296 % 8, n / 34359738368 % 536870912, 0, false⟩
  else if n % 4 = 2 then ⟨3, n / 8 % 536870912, 0, 0, 0, 0, n / 4294967296 % 4294967296, decide (n / 4 % 2 = 1)⟩
  else Pt.zero
def decE (n : Int) : Int := if n % 4 = 3 then 23 else 0
def rawW (p : Pt) : Int :=
  if p.kind = 1 then 4 * (p.off % 1073741824) + p.data % 65536 * 4294967296 + p.ptrs % 65536 * 281474976710656
  else if p.kind = 2 then 1 + 4 * (p.off % 1073741824) + p.size % 8 * 4294967296 + p.count % 536870912 * 34359738368
  else if p.kind = 3 then 2 + 8 * (p.off % 536870912) + p.seg % 4294967296 * 4294967296 + (if p.dbl then 4 else 0)
  else 0
theorem rawW_bd (p : Pt) : 0 ≤ rawW p ∧ rawW p < 18446744073709551616 := by
  unfold rawW
  split
  · omega
  · split
    · omega
    · split
      · split <;> omega
      · omega
theorem raw_e (p : Pt) : decE (rawW p) = 0 := by
  have h : rawW p % 4 ≠ 3 := by
    unfold rawW
    split
    · omega
    · split
      · omega
      · split
        · split <;> omega
        · omega
  unfold decE
  rw [if_neg h]
/-- pointers that have a word -/
def encB (p : Pt) : Bool := decide (decE (rawW p) = 0) && eqP (decP (rawW p)) p
def encW (p : Pt) : Int := if encB p then rawW p else 0
def encE (p : Pt) : Int := if encB p then 0 else 1
theorem encB_iff {p : Pt} : encB p = true ↔ decE (rawW p) = 0 ∧ decP (rawW p) = p := by simp [encB, eqP_iff]
/-- of how many words, and the error -/
def wordN (p : Pt) : Int :=
  if p.kind = 1 then p.data + p.ptrs else if p.kind = 2 then (if p.size = 2 then (p.count + 7) / 8 else if p.size = 5 ∨ p.size = 6 then p.count else 0) else if p.kind = 3 then (if p.dbl then 2 else 1) else 0
def wordE (p : Pt) : Int :=
  if p.kind = 0 then 0 else if p.kind = 1 then 0 else if p.kind = 2 then (if p.size = 2 ∨ p.size = 5 ∨ p.size = 6 then 0 else 23) else if p.kind = 3 then 0 else 23

/-- there and back -/
theorem raw_dec {n : Int} (h0 : 0 ≤ n) (h1 : n < 18446744073709551616) (he : decE n = 0) : rawW (decP n) = n := by
  unfold decE at he
  unfold decP
  by_cases z : n = 0
  · rw [if_pos z, z]; rfl
  rw [if_neg z]
  have h3 : n % 4 ≠ 3 := fun e => by rw [if_pos e] at he; omega
  by_cases a0 : n % 4 = 0
  · rw [if_pos a0]
    simp only [rawW, if_true]
    unfold sgn30
    split <;> omega
  rw [if_neg a0]
  by_cases a1 : n % 4 = 1
  · rw [if_pos a1]
    simp only [rawW, if_true, if_neg (show ¬ (2 : Int) = 1 by decide)]
    unfold sgn30
    split <;> omega
  rw [if_neg a1, if_pos (by omega)]
  simp only [rawW, if_true, if_neg (show ¬ (3 : Int) = 1 by decide), if_neg (show ¬ (3 : Int) = 2 by decide)]
  by_cases d : n / 4 % 2 = 1
  · rw [decide_eq_true d]
    simp only [if_true]
    omega
  · rw [decide_eq_false d]
    simp only [if_false, Bool.false_eq_true]
    omega
theorem dec_enc {n : Int} (h0 : 0 ≤ n) (h1 : n < 18446744073709551616) (he : decE n = 0) : encB (decP n) = true := by
  rw [encB_iff, raw_dec h0 h1 he]
  exact ⟨he, rfl⟩
theorem dec_inj {n m : Int} (h0 : 0 ≤ n) (h1 : n < 18446744073709551616) (h2 : 0 ≤ m) (h3 : m < 18446744073709551616) (he : decE n = 0) (hf : decE m = 0) : decP n = decP m ↔ n = m := by
  refine ⟨fun e => ?_, fun e => by rw [e]⟩
  rw [← raw_dec h0 h1 he, ← raw_dec h2 h3 hf, e]
theorem dec_err {n : Int} (he : decE n ≠ 0) : decP n = Pt.zero ∧ n % 4 = 3 := by
  have h3 : n % 4 = 3 := by
    unfold decE at he
    split at he
    · assumption
    · exact absurd rfl he
  refine ⟨?_, h3⟩
  unfold decP
  rw [if_neg (by omega), if_neg (by omega), if_neg (by omega), if_neg (by omega)]
theorem zero_enc : encB Pt.zero = true := by decide

/-- what has a word -/
def OkP (p : Pt) : Prop :=
  p = Pt.zero ∨
  (p.kind = 1 ∧ (-536870912 ≤ p.off ∧ p.off < 536870912) ∧ (0 ≤ p.data ∧ p.data < 65536) ∧ (0 ≤ p.ptrs ∧ p.ptrs < 65536) ∧ p.size = 0 ∧ p.count = 0 ∧ p.seg = 0 ∧ p.dbl = false ∧ ¬ (p.off = 0 ∧ p.data = 0 ∧ p.ptrs = 0)) ∨
  (p.kind = 2 ∧ (-536870912 ≤ p.off ∧ p.off < 536870912) ∧ p.data = 0 ∧ p.ptrs = 0 ∧ (0 ≤ p.size ∧ p.size < 8) ∧ (0 ≤ p.count ∧ p.count < 536870912) ∧ p.seg = 0 ∧ p.dbl = false) ∨
  (p.kind = 3 ∧ (0 ≤ p.off ∧ p.off < 536870912) ∧ p.data = 0 ∧ p.ptrs = 0 ∧ p.size = 0 ∧ p.count = 0 ∧ (0 ≤ p.seg ∧ p.seg < 4294967296))
theorem dec_ok {n : Int} (h0 : 0 ≤ n) (h1 : n < 18446744073709551616) : OkP (decP n) := by
  unfold decP
  by_cases z : n = 0
  · rw [if_pos z]; exact .inl rfl
  rw [if_neg z]
  by_cases a0 : n % 4 = 0
  · rw [if_pos a0]
    refine .inr (.inl ⟨rfl, ?_, ?_, ?_, rfl, rfl, rfl, rfl, ?_⟩)
    · simp only [sgn30]; split <;> omega
    · dsimp only; omega
    · dsimp only; omega
    · simp only [sgn30]; split <;> omega
  rw [if_neg a0]
  by_cases a1 : n % 4 = 1
  · rw [if_pos a1]
    refine .inr (.inr (.inl ⟨rfl, ?_, rfl, rfl, by dsimp only; omega, by dsimp only; omega, rfl, rfl⟩))
    simp only [sgn30]; split <;> omega
  rw [if_neg a1]
  by_cases a2 : n % 4 = 2
  · rw [if_pos a2]
    exact .inr (.inr (.inr ⟨rfl, by dsimp only; omega, rfl, rfl, rfl, rfl, by dsimp only; omega⟩))
  · rw [if_neg a2]; exact .inl rfl
theorem ok_enc {p : Pt} (h : OkP p) : encB p = true := by
  rw [encB_iff]
  obtain ⟨k, o, d, r, s, c, g, b⟩ := p
  rcases h with e | ⟨e, h1, h2, h3, h4, h5, h6, h7, h8⟩ | ⟨e, h1, h2, h3, h4, h5, h6, h7⟩ | ⟨e, h1, h2, h3, h4, h5, h6⟩
  · rw [e]; exact ⟨by decide, rfl⟩
  · simp only at e h1 h2 h3 h4 h5 h6 h7 h8
    subst e h4 h5 h6 h7
    simp only [rawW, if_true]
    generalize hn : 4 * (o % 1073741824) + d % 65536 * 4294967296 + r % 65536 * 281474976710656 = n
    have z : n ≠ 0 := by omega
    have a0 : n % 4 = 0 := by omega
    unfold decE decP
    rw [if_neg (by omega), if_neg z, if_pos a0]
    refine ⟨rfl, ?_⟩
    congr 1
    · unfold sgn30; split <;> omega
    · omega
    · omega
  · simp only at e h1 h2 h3 h4 h5 h6 h7
    subst e h2 h3 h6 h7
    simp only [rawW, if_true, if_neg (show ¬ (2 : Int) = 1 by decide)]
    generalize hn : 1 + 4 * (o % 1073741824) + s % 8 * 4294967296 + c % 536870912 * 34359738368 = n
    have a0 : n % 4 = 1 := by omega
    unfold decE decP
    rw [if_neg (by omega), if_neg (by omega), if_neg (by omega), if_pos a0]
    refine ⟨rfl, ?_⟩
    congr 1
    · unfold sgn30; split <;> omega
    · omega
    · omega
  · simp only at e h1 h2 h3 h4 h5 h6
    subst e h2 h3 h4 h5
    simp only [rawW, if_true, if_neg (show ¬ (3 : Int) = 1 by decide), if_neg (show ¬ (3 : Int) = 2 by decide)]
    generalize hn : 2 + 8 * (o % 536870912) + g % 4294967296 * 4294967296 + (if b = true then 4 else 0) = n
    have hb : (b = true ∧ n = 2 + 8 * (o % 536870912) + g % 4294967296 * 4294967296 + 4) ∨ (b = false ∧ n = 2 + 8 * (o % 536870912) + g % 4294967296 * 4294967296) := by
      cases b
      · exact .inr ⟨rfl, by rw [← hn]; simp⟩
      · exact .inl ⟨rfl, by rw [← hn]; simp⟩
    have a0 : n % 4 = 2 := by omega
    unfold decE decP
    rw [if_neg (by omega), if_neg (by omega), if_neg (by omega), if_neg (by omega), if_pos a0]
    refine ⟨rfl, ?_⟩
    congr 1
    · omega
    · omega
    · rcases hb with ⟨rfl, e⟩ | ⟨rfl, e⟩
      · exact decide_eq_true (by omega)
      · exact decide_eq_false (by omega)
theorem enc_ok {p : Pt} (h : encB p = true) : OkP p := by
  rw [encB_iff] at h
  rw [← h.2]
  exact dec_ok (rawW_bd p).1 (rawW_bd p).2

end Go.Proofs.YtknmbohokmeidaaDoor
