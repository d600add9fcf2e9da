/-
  Plain facts for layer 2's law CrcBurst: a row of bytes with some of 32 bits in a row turned, as a number; and rows of the call's own into which is written.
-/
import Derived.Test.YtgemllmfbglkhaaCrcKnown
namespace Go.Proofs.Ytgemllmfbglkhaa
open Go.RowKit Go.Deep

/-- the number x with the lowest t bits of p turned, from bit 'first' on -/
def turn (x p first t : Nat) : Nat := x ^^^ (p % 2 ^ t * 2 ^ first)
theorem turn_zero (x p first : Nat) : turn x p first 0 = x := by simp [turn, Nat.mod_one]
theorem add_pow_xor {a k : Nat} (h : a < 2 ^ k) : a + 2 ^ k = a ^^^ 2 ^ k := by
  have e := split_xor (a + 2 ^ k) k
  have hp : 0 < 2 ^ k := Nat.two_pow_pos k
  rw [Nat.add_div_right _ hp, Nat.div_eq_of_lt h, Nat.add_mod_right, Nat.mod_eq_of_lt h, Nat.zero_add, Nat.one_mul] at e
  rw [Nat.xor_comm, e]
theorem mod_pow_succ (p t : Nat) : p % 2 ^ (t + 1) = p % 2 ^ t + 2 ^ t * (p / 2 ^ t % 2) := by
  rw [Nat.pow_succ, Nat.mod_mul]
theorem turn_on {x p first t : Nat} (h : p / 2 ^ t % 2 = 1) : turn x p first (t + 1) = turn x p first t ^^^ 2 ^ (first + t) := by
  unfold turn
  rw [mod_pow_succ, h, Nat.mul_one, Nat.add_mul, ← Nat.pow_add, Nat.add_comm t first, add_pow_xor, Nat.xor_assoc]
  rw [Nat.pow_add, Nat.mul_comm (2 ^ first)]
  exact Nat.mul_lt_mul_of_pos_right (Nat.mod_lt _ (Nat.two_pow_pos t)) (Nat.two_pow_pos first)
theorem turn_off {x p first t : Nat} (h : ¬ p / 2 ^ t % 2 = 1) : turn x p first (t + 1) = turn x p first t := by
  unfold turn
  rw [mod_pow_succ, show p / 2 ^ t % 2 = 0 by omega, Nat.mul_zero, Nat.add_zero]
/-- the byte i -/
def byteN (y i : Nat) : Nat := y / 256 ^ i % 256
theorem byteN_lt (y i : Nat) : byteN y i < 256 := Nat.mod_lt _ (by decide)
theorem byteN_on {x p first t i : Nat} (h : p / 2 ^ t % 2 = 1) : byteN (turn x p first (t + 1)) i = if i = (first + t) / 8 then byteN (turn x p first t) i ^^^ 2 ^ ((first + t) % 8) else byteN (turn x p first t) i := by
  unfold byteN
  rw [turn_on h, byte_xor, byte_pow]
  split
  · rfl
  · rw [Nat.xor_zero]
theorem turn_step {x p first t : Nat} (h : p / 2 ^ t % 2 = 1) (i : Nat) : (if i = (first + t) / 8 then Value.int .u8 ((byteN (turn x p first t) ((first + t) / 8) ^^^ 2 ^ ((first + t) % 8) : Nat) : Int) else Value.int .u8 (byteN (turn x p first t) i : Nat)) = Value.int .u8 (byteN (turn x p first (t + 1)) i : Nat) := by
  rw [byteN_on h]
  by_cases e : i = (first + t) / 8
  · subst e; rw [if_pos rfl, if_pos rfl]
  · rw [if_neg e, if_neg e]

/-- a row of bytes as a list of integers: the number's bytes, the least first -/
def leI (n y : Nat) : List Int := (le n y).map (fun b => ((b : Nat) : Int))
theorem leI_length (n y : Nat) : (leI n y).length = n := by simp [leI, le_length]
theorem leI_get {n i : Nat} (y : Nat) (h : i < n) : (leI n y)[i]?.getD 0 = (byteN y i : Nat) := by
  unfold leI byteN
  rw [List.getElem?_map, le_get _ _ _ h]
  rfl
theorem leI_AllB (n y : Nat) : AllB (leI n y) := by
  intro x hx
  obtain ⟨b, hb, rfl⟩ := List.mem_map.1 hx
  have := le_BB n y b hb
  omega
theorem nats_leI (n y : Nat) : nats (leI n y) = le n y := by
  unfold nats leI
  rw [List.map_map]
  have : ((fun x : Int => x.toNat) ∘ fun b : Nat => (b : Int)) = id := by funext b; simp
  first
    | rw [this, List.map_id]
    | simp
theorem leI_of {l : List Int} (hl : AllB l) : leI l.length (leV (nats l)) = l := by
  have h := le_leV (nats_BB hl)
  rw [nats_length] at h
  unfold leI
  rw [h]
  unfold nats
  rw [List.map_map]
  have : ∀ x ∈ l, ((fun b : Nat => (b : Int)) ∘ fun x : Int => x.toNat) x = x := fun x hx => by
    have := hl x hx
    show ((x.toNat : Nat) : Int) = x
    omega
  first
    | rw [List.map_congr_left this, List.map_id']
    | rw [List.map_congr_left this]; simp

/-- of what was sealed, some of 32 bits in a row turned: right just if none was -/
theorem burst_right {l : List Int} (hl : AllB l) {p first L : Nat} (hfl : first + L ≤ 8 * (l.length + 4)) (hL : L ≤ 32) :
    rightB (leI (l.length + 4) (turn (leV (nats (sealL l))) p first L)) = decide (p % 2 ^ L = 0) := by
  have hs := sealL_AllB hl
  have hk := sealL_length l
  have hx := leV_lt (nats_BB hs)
  rw [nats_length, hk] at hx
  have h1 := rightB_reg hs (by omega)
  rw [rightB_seal hl] at h1
  have hreg := h1.1 rfl
  have hq : p % 2 ^ L < 2 ^ L := Nat.mod_lt _ (Nat.two_pow_pos L)
  have hq32 : p % 2 ^ L < 4294967296 := Nat.lt_of_lt_of_le hq (Nat.pow_le_pow_right (n := 2) (j := 32) (by decide) hL)
  have hfit : p % 2 ^ L * 2 ^ first < 256 ^ (l.length + 4) := by
    rw [pow256_eq]
    refine Nat.lt_of_lt_of_le (Nat.mul_lt_mul_of_pos_right hq (Nat.two_pow_pos first)) ?_
    rw [← Nat.pow_add]
    exact Nat.pow_le_pow_right (by decide) (by omega)
  rw [Bool.eq_iff_iff, rightB_reg (leI_AllB _ _) (by rw [leI_length]; omega), nats_leI, decide_eq_true_iff]
  unfold turn
  rw [le_xor, U_err _ _ (by rw [le_length, le_length])]
  have e : le (l.length + 4) (leV (nats (sealL l))) = nats (sealL l) := by
    have := le_leV (nats_BB hs)
    rwa [nats_length, hk] at this
  rw [e, hreg]
  have hz := burst_zero (k := l.length + 4) (first := first) (by omega) hq32 hfit
  rw [← hz]
  constructor
  · intro h
    have h2 := congrArg (Ts 32 ones ^^^ ·) h
    simp only [xor_left_cancel', Nat.xor_self] at h2
    exact h2
  · intro h
    rw [h, Nat.xor_zero]

theorem bit_test (p t : Nat) (b : Bool) (h : b = decide (p / 2 ^ t % 2 = 1)) : (((p : Int) / 2 ^ t).tmod 2 == 1) = b := by
  have e : ((p : Int) / 2 ^ t).tmod 2 = ((p / 2 ^ t % 2 : Nat) : Int) := by
    rw [Int.tmod_eq_emod_of_nonneg (Int.ediv_nonneg (by omega) (Int.le_of_lt (pow_pos t)))]
    simp
  rw [e, h, Bool.eq_iff_iff, beq_iff_eq, decide_eq_true_iff]
  omega

theorem turn_bits (y k : Nat) (hy : y < 256) (hk : k < 8) : bits BinOp.xor IntKind.u8 (y : Int) ((2 : Int) ^ k % 256) = ((y ^^^ 2 ^ k : Nat) : Int) := by
  have h2 : 2 ^ k < 256 := Nat.lt_of_lt_of_le (Nat.pow_lt_pow_right (by decide) hk) (by decide)
  have e : ((2 : Int) ^ k % 256) = ((2 ^ k : Nat) : Int) := by
    have : ((2 : Int) ^ k) = ((2 ^ k : Nat) : Int) := by simp
    rw [this]
    generalize 2 ^ k = m at h2 ⊢
    omega
  rw [e]
  exact u8_xor_nat _ _ hy h2

theorem pow_u32 (t : Nat) (h : t < 32) : (2 : Int) ^ t % 4294967296 = ((2 ^ t : Nat) : Int) := by
  have h2 : 2 ^ t < 4294967296 := Nat.lt_of_lt_of_le (Nat.pow_lt_pow_right (by decide) h) (by decide)
  have : ((2 : Int) ^ t) = ((2 ^ t : Nat) : Int) := by simp
  rw [this]
  generalize 2 ^ t = m at h2 ⊢
  omega

theorem same_zero {p t : Nat} (h : p = 0) : true = decide (p % 2 ^ t = 0) := by subst h; simp
theorem same_big {p t : Nat} (hp : p < 4294967296) (h : ¬ p = 0) (ht : t = 32) : false = decide (p % 2 ^ t = 0) := by
  subst ht
  rw [eq_comm, decide_eq_false_iff_not, Nat.mod_eq_of_lt (by omega)]
  exact h
theorem same_mod {p t d : Nat} (hd : d = 2 ^ t) : ((p : Int) % (d : Int) == 0) = decide (p % 2 ^ t = 0) := by
  rw [← hd, Bool.eq_iff_iff, beq_iff_eq, decide_eq_true_iff]
  omega
theorem same_tmod {p t d : Nat} (hd : d = 2 ^ t) : ((p : Int).tmod (d : Int) == 0) = decide (p % 2 ^ t = 0) := by
  rw [Int.tmod_eq_emod_of_nonneg (by omega)]
  exact same_mod hd

/-- a row of the call's own that is not empty, as a block that is known whole -/
theorem own_block {w : World} {base n : Nat} {v : Value} {l : List Int} (h : w.ownsRow base 5 1 v n (l.map (Value.int .u8))) (hn : 0 < n) :
    ∃ g cap f, v = .slice (some ⟨g, 0, none⟩) n cap ∧ base ≤ g ∧ n ≤ cap ∧ cap ≤ 9223372036854775807 ∧ w.rowIs g 5 cap f ∧ ∀ i, i < n → f i = .int .u8 (l[i]?.getD 0) := by
  obtain ⟨h1, ⟨_, h0⟩ | ⟨g, cap, cur, rfl, hb, hh, hc, hm, hs, ht⟩⟩ := h
  · omega
  · rw [Nat.mul_one] at h1 hs ht
    refine ⟨g, cap, fun i => cur[i]?.getD undef, rfl, hb, hc, by unfold maxLen at hm; omega, ⟨cur, hh, hs, fun i hi => ?_⟩, fun i hi => ?_⟩
    · show cur[i]? = some (cur[i]?.getD undef)
      rw [Array.getElem?_eq_getElem (by omega)]; rfl
    · have e : (cur.toList.take n)[i]? = cur[i]? := by rw [List.getElem?_take_of_lt hi]; simp
      rw [ht, List.getElem?_map] at e
      show cur[i]?.getD undef = _
      rw [← e]
      rw [List.length_map] at h1
      rw [List.getElem?_eq_getElem (by omega)]
      rfl
theorem row_Bytes {w : World} {g n cap : Nat} {f : Nat → Value} {l : List Int} (h : w.rowIs g 5 cap f) (hc : n ≤ cap) (hm : cap ≤ 9223372036854775807) (hl : l.length = n) (hf : ∀ i, i < n → f i = .int .u8 (l[i]?.getD 0)) : Bytes w w.heap.size (.slice (some ⟨g, 0, none⟩) n cap) l := by
  subst hl
  refine ⟨_, cap, rfl, hc, hm, fun hp => ⟨g, 0, rfl, h.lt, fun j hj => ?_⟩⟩
  rw [Nat.zero_add, h.cell (by omega), hf j hj]

end Go.Proofs.Ytgemllmfbglkhaa
