/-
  Layer 5: container/heap's own functions, over whatever lies behind the interface: up, down.
-/
import Derived.Test.YtlhfgiffdfcplaaHeapMath
import Derived.Test.YtlhfgiffdfcplaaWordFacts
import Derived.Sort.Lot0
import Derived.IntWalk
namespace Go.Proofs.Ytlhfgiffdfcplaa
open Go.RowKit Go.Sort
variable {α : Type} [Inhabited α]

/-- what container/heap asks of what lies behind '.iface T pv', while the world holds the row d -/
structure HeapOn (T : TypeId) (pv : Value) (HQ : World → Array α → Prop) (lt : α → α → Bool) : Prop where
  less : ∀ (W : World) (d : Array α) (i j : Nat), HQ W d → i < d.size → j < d.size → ∃ f rv, Sem.run Try.prog (method (Try.prog.types.size + 100) T pv "Less") W = .ok (f, rv) W ∧ (∀ args w, (callFunc f args).run Try.prog w = .ok (.enter f args) w) ∧
    Calls Try.prog f #[rv, .int .i64 i, .int .i64 j] W fun e W' => e = .returned (.bool (lt d[i]! d[j]!)) ∧ HQ W' d
  swap : ∀ (W : World) (d : Array α) (i j : Nat), HQ W d → i < d.size → j < d.size → ∃ f rv, Sem.run Try.prog (method (Try.prog.types.size + 100) T pv "Swap") W = .ok (f, rv) W ∧ (∀ args w, (callFunc f args).run Try.prog w = .ok (.enter f args) w) ∧
    Calls Try.prog f #[rv, .int .i64 i, .int .i64 j] W fun e W' => e = .returned (.tuple #[]) ∧ HQ W' (swp d i j)
  len : ∀ (W : World) (d : Array α), HQ W d → ∃ f rv, Sem.run Try.prog (method (Try.prog.types.size + 100) T pv "Len") W = .ok (f, rv) W ∧ (∀ args w, (callFunc f args).run Try.prog w = .ok (.enter f args) w) ∧
    Calls Try.prog f #[rv] W fun e W' => e = .returned (.int .i64 d.size) ∧ HQ W' d

set_option maxRecDepth 100000 in
set_option maxHeartbeats 1000000 in
theorem up_any {T : TypeId} {pv : Value} {HQ : World → Array α → Prop} {lt : α → α → Bool} (H : HeapOn T pv HQ lt) (hO : SWO lt) (W : World) (d : Array α) (j n : Nat) (h : HQ W d) (hn : n ≤ d.size) (hj : j < n) (hU : UpInv lt n d j) (hsz : d.size ≤ 1000000) :
    Calls Try.prog 31 #[.iface T pv, .int .i64 j] W fun e W' => e = .returned (.tuple #[]) ∧ ∃ d', HQ W' d' ∧ PermIn 0 n d d' ∧ HeapN lt n d' := by
  have HH := Lib.hid H
  have HQ0 := Lib.hid h
  have HU0 := Lib.hid hU
  have HP0 := Lib.hid (permIn_refl (α := α) d 0 n)
  have hn2 : n ≤ 1000000 := by omega
  clear H h hU
  go_enter Try.func31, Try.ntmps31
  go_wp2_with fail
  go_loopw [1] (fun j' wr => ∃ (k : Nat) (d' : Array α), j' = .int .i64 k ∧ k < n ∧ HQ wr d' ∧ PermIn 0 n d d' ∧ UpInv lt n d' k) (fun j' _ => (intOf j').toNat)
  case atStart => exact ⟨j, d, rfl, hj, HQ0.out, HP0.out, HU0.out⟩
  case round =>
    obtain ⟨k, d', rfl, hk, hq, hp, hu⟩ := hrel
    have HQ1 := Lib.hid hq
    have HP1 := Lib.hid hp
    have HU1 := Lib.hid hu
    have hsd : d'.size = d.size := hp.1
    clear hq hp hu
    cases k with
    | zero =>
      have HN := Lib.hid (up_done HU1.out (.inl rfl))
      go_wp2_with fail
      go_end0
      exact ⟨rfl, d', HQ1.out, HP1.out, HN.out⟩
    | succ m =>
      obtain ⟨p, hp⟩ : ∃ p, p = m / 2 := ⟨_, rfl⟩
      have hpar : par (m + 1) = p := by unfold par; omega
      have e1 : (m : Int) / 2 = (p : Int) := by omega
      have e2 : ((p : Int) == (m : Int) + 1) = false := by rw [beq_eq_false_iff_ne]; omega
      have HPar := Lib.hid hpar
      have hpn : p < n := by omega
      obtain ⟨f, rv, r1, r2, r3⟩ := HH.out.less wr d' (m + 1) p HQ1.out (by omega) (by omega)
      have R3 := Lib.hid r3
      simp only [Try.types_size, Nat.reduceAdd] at r1
      clear hp hpar r3
      go_wp2_with fail
      refine R3.out.mono ?_
      rintro e w2 ⟨rfl, hq2⟩
      have HQ2 := Lib.hid hq2
      clear hq2 r1 r2
      cases hl : lt d'[m + 1]! d'[p]! with
      | false =>
        have HN := Lib.hid (up_done HU1.out (.inr (by rw [HPar.out]; exact hl)))
        clear hl
        go_wp2_with fail
        go_end0
        exact ⟨rfl, d', HQ2.out, HP1.out, HN.out⟩
      | true =>
        have HU2 := Lib.hid (up_step hO HU1.out (by omega) (by omega) hk (by rw [HPar.out]; exact hl))
        rw [HPar.out] at HU2
        obtain ⟨f2, rv2, s1, s2, s3⟩ := HH.out.swap w2 d' p (m + 1) HQ2.out (by omega) (by omega)
        have S3 := Lib.hid s3
        have HP2 := Lib.hid (permIn_trans d d' (swp d' p (m + 1)) 0 n HP1.out (swp_permIn d' 0 n p (m + 1) (Nat.zero_le _) hpn (Nat.zero_le _) hk (by omega)))
        simp only [Try.types_size, Nat.reduceAdd] at s1
        clear hl s3
        go_wp2_with fail
        refine S3.out.mono ?_
        rintro e w3 ⟨rfl, hq3⟩
        have HQ3 := Lib.hid hq3
        clear hq3 s1 s2
        go_wp2_with fail
        go_roundw
        case rel => exact ⟨p, swp d' p (m + 1), rfl, hpn, HQ3.out, HP2.out, HU2.out⟩
        case measure => simp [intOf]; omega

/-- how down ends: the first n are a heap, or nothing was moved -/
def DownEnd (lt : α → α → Bool) (n : Nat) (d0 : Array α) (i0 : Nat) (moved : Bool) (d : Array α) : Prop := (moved = true ∧ HeapN lt n d) ∨ (moved = false ∧ d = d0 ∧ UpInv lt n d i0)
theorem down_end {lt : α → α → Bool} (hO : SWO lt) {n : Nat} {d d0 : Array α} {i i0 : Nat} (h : DownInv lt n d i i0) (hs : i = i0 → d = d0) (hc : n ≤ 2 * i + 1 ∨ lt d[child lt n d i]! d[i]! = false) :
    (i = i0 → DownEnd lt n d0 i0 false d) ∧ (i ≠ i0 → DownEnd lt n d0 i0 true d) ∧ (i0 = 0 → HeapN lt n d) := by
  refine ⟨fun e => .inr ⟨rfl, hs e, ?_⟩, fun e => .inl ⟨rfl, down_moved hO h e hc⟩, fun e => ?_⟩
  · subst e; exact down_stayed hO h hc
  · subst e; exact down_top hO h hc

/-- what down leaves -/
def DownPost (HQ : World → Array α → Prop) (lt : α → α → Bool) (n : Nat) (d : Array α) (i0 : Nat) (e : Ending) (W' : World) : Prop :=
  ∃ moved, e = .returned (.bool moved) ∧ ∃ d', HQ W' d' ∧ PermIn 0 n d d' ∧ DownEnd lt n d i0 moved d' ∧ (i0 = 0 → HeapN lt n d')

set_option maxRecDepth 100000 in
set_option maxHeartbeats 2000000 in
theorem down_any {T : TypeId} {pv : Value} {HQ : World → Array α → Prop} {lt : α → α → Bool} (H : HeapOn T pv HQ lt) (hO : SWO lt) (W : World) (d : Array α) (i0 n : Nat) (h : HQ W d) (hn : n ≤ d.size) (hU : DownInv lt n d i0 i0) (hsz : d.size ≤ 1000000) (hi0 : i0 ≤ 1000000) :
    Calls Try.prog 30 #[.iface T pv, .int .i64 i0, .int .i64 n] W fun e W' => DownPost HQ lt n d i0 e W' := by
  have HH := Lib.hid H
  have HQ0 := Lib.hid h
  have HU0 := Lib.hid hU
  have HP0 := Lib.hid (permIn_refl (α := α) d 0 n)
  have hn2 : n ≤ 1000000 := by omega
  clear H h hU
  go_enter Try.func30, Try.ntmps30
  go_wp2_with fail
  go_loopw [7] (fun i wr => ∃ (k : Nat) (d' : Array α), i = .int .i64 k ∧ (i0 ≤ k ∧ k ≤ 1000000) ∧ HQ wr d' ∧ PermIn 0 n d d' ∧ DownInv lt n d' k i0 ∧ (k = i0 → d' = d)) (fun i _ => 1000000 - (intOf i).toNat)
  case atStart => exact ⟨i0, d, rfl, ⟨Nat.le_refl _, hi0⟩, HQ0.out, HP0.out, HU0.out, fun _ => rfl⟩
  case round =>
    obtain ⟨k, d', rfl, ⟨hik, hkm⟩, hq, hp, hu, hs⟩ := hrel
    have HQ1 := Lib.hid hq
    have HP1 := Lib.hid hp
    have HI1 := Lib.hid hu
    have HS1 := Lib.hid hs
    have hsd : d'.size = d.size := hp.1
    clear hq hp hu hs
    by_cases hc : 2 * k + 1 < n
    · have hc2 : ¬ (n : Int) ≤ 2 * (k : Int) + 1 := by omega
      by_cases hc3 : 2 * k + 2 < n
      · have hc4 : 2 * (k : Int) + 1 + 1 < (n : Int) := by omega
        obtain ⟨fC, rC, b1, b2, b3⟩ := HH.out.less wr d' (2 * k + 2) (2 * k + 1) HQ1.out (by omega) (by omega)
        rw [show ((2 * k + 2 : Nat) : Int) = 2 * (k : Int) + 1 + 1 by omega, show ((2 * k + 1 : Nat) : Int) = 2 * (k : Int) + 1 by omega] at b3
        have B3 := Lib.hid b3
        simp only [Try.types_size, Nat.reduceAdd] at b1
        clear b3
        go_wp2_with fail
        refine B3.out.mono ?_
        rintro e wC ⟨rfl, hqC⟩
        have HQC := Lib.hid hqC
        clear hqC b1 b2
        by_cases hll : lt d'[2 * k + 2]! d'[2 * k + 1]! = true
        · rw [hll]
          have CE : Hid (child lt n d' k = 2 * k + 2) := Lib.hid (by unfold child; rw [if_pos ⟨hc3, hll⟩])
          clear hll
          obtain ⟨fA, rA, a1, a2, a3⟩ := HH.out.less wC d' (2 * k + 2) k HQC.out (by omega) (by omega)
          rw [show (((2 * k + 2) : Nat) : Int) = (2 * (k : Int) + 1 + 1) by omega] at a3
          have A3 := Lib.hid a3
          simp only [Try.types_size, Nat.reduceAdd] at a1
          clear a3
          go_wp2_with fail
          refine A3.out.mono ?_
          rintro e wA ⟨rfl, hqA⟩
          have HQA := Lib.hid hqA
          clear hqA a1 a2
          cases hl : lt d'[(2 * k + 2)]! d'[k]! with
          | false =>
            have HE := Lib.hid (down_end hO HI1.out HS1.out (.inr (by rw [CE.out]; exact hl)))
            clear hl
            by_cases hm : k = i0
            · have hm2 : ¬ (i0 : Int) < (k : Int) := by omega
              go_wp2_with fail
              go_ret
              exact ⟨false, rfl, d', HQA.out, HP1.out, HE.out.1 hm, HE.out.2.2⟩
            · have hm2 : (i0 : Int) < (k : Int) := by omega
              go_wp2_with fail
              go_ret
              exact ⟨true, rfl, d', HQA.out, HP1.out, HE.out.2.1 hm, HE.out.2.2⟩
          | true =>
            have HI2 := Lib.hid (down_step hO HI1.out hik (by omega) (by omega) (by rw [CE.out]; exact hl))
            rw [CE.out] at HI2
            obtain ⟨fB, rB, s1, s2, s3⟩ := HH.out.swap wA d' k (2 * k + 2) HQA.out (by omega) (by omega)
            rw [show (((2 * k + 2) : Nat) : Int) = (2 * (k : Int) + 1 + 1) by omega] at s3
            have S3 := Lib.hid s3
            have HP2 := Lib.hid (permIn_trans d d' (swp d' k (2 * k + 2)) 0 n HP1.out (swp_permIn d' 0 n k (2 * k + 2) (Nat.zero_le _) (by omega) (Nat.zero_le _) (by omega) (by omega)))
            simp only [Try.types_size, Nat.reduceAdd] at s1
            clear hl s3
            go_wp2_with fail
            refine S3.out.mono ?_
            rintro e w3 ⟨rfl, hq3⟩
            have HQ3 := Lib.hid hq3
            clear hq3 s1 s2
            go_wp2_with fail
            go_roundw
            case rel => exact ⟨(2 * k + 2), swp d' k (2 * k + 2), by go_num, by omega, HQ3.out, HP2.out, HI2.out, fun e => by omega⟩
            case measure => simp [intOf]; omega
        · rw [Bool.not_eq_true] at hll
          rw [hll]
          have CE : Hid (child lt n d' k = 2 * k + 1) := Lib.hid (by unfold child; rw [if_neg (fun h => by rw [hll] at h; exact absurd h.2 (by decide))])
          clear hll
          obtain ⟨fA, rA, a1, a2, a3⟩ := HH.out.less wC d' (2 * k + 1) k HQC.out (by omega) (by omega)
          rw [show (((2 * k + 1) : Nat) : Int) = (2 * (k : Int) + 1) by omega] at a3
          have A3 := Lib.hid a3
          simp only [Try.types_size, Nat.reduceAdd] at a1
          clear a3
          go_wp2_with fail
          refine A3.out.mono ?_
          rintro e wA ⟨rfl, hqA⟩
          have HQA := Lib.hid hqA
          clear hqA a1 a2
          cases hl : lt d'[(2 * k + 1)]! d'[k]! with
          | false =>
            have HE := Lib.hid (down_end hO HI1.out HS1.out (.inr (by rw [CE.out]; exact hl)))
            clear hl
            by_cases hm : k = i0
            · have hm2 : ¬ (i0 : Int) < (k : Int) := by omega
              go_wp2_with fail
              go_ret
              exact ⟨false, rfl, d', HQA.out, HP1.out, HE.out.1 hm, HE.out.2.2⟩
            · have hm2 : (i0 : Int) < (k : Int) := by omega
              go_wp2_with fail
              go_ret
              exact ⟨true, rfl, d', HQA.out, HP1.out, HE.out.2.1 hm, HE.out.2.2⟩
          | true =>
            have HI2 := Lib.hid (down_step hO HI1.out hik (by omega) (by omega) (by rw [CE.out]; exact hl))
            rw [CE.out] at HI2
            obtain ⟨fB, rB, s1, s2, s3⟩ := HH.out.swap wA d' k (2 * k + 1) HQA.out (by omega) (by omega)
            rw [show (((2 * k + 1) : Nat) : Int) = (2 * (k : Int) + 1) by omega] at s3
            have S3 := Lib.hid s3
            have HP2 := Lib.hid (permIn_trans d d' (swp d' k (2 * k + 1)) 0 n HP1.out (swp_permIn d' 0 n k (2 * k + 1) (Nat.zero_le _) (by omega) (Nat.zero_le _) (by omega) (by omega)))
            simp only [Try.types_size, Nat.reduceAdd] at s1
            clear hl s3
            go_wp2_with fail
            refine S3.out.mono ?_
            rintro e w3 ⟨rfl, hq3⟩
            have HQ3 := Lib.hid hq3
            clear hq3 s1 s2
            go_wp2_with fail
            go_roundw
            case rel => exact ⟨(2 * k + 1), swp d' k (2 * k + 1), by go_num, by omega, HQ3.out, HP2.out, HI2.out, fun e => by omega⟩
            case measure => simp [intOf]; omega
      · have hc4 : ¬ 2 * (k : Int) + 1 + 1 < (n : Int) := by omega
        have CE : Hid (child lt n d' k = 2 * k + 1) := Lib.hid (by unfold child; rw [if_neg (fun h => hc3 h.1)])
        obtain ⟨fA, rA, a1, a2, a3⟩ := HH.out.less wr d' (2 * k + 1) k HQ1.out (by omega) (by omega)
        rw [show (((2 * k + 1) : Nat) : Int) = (2 * (k : Int) + 1) by omega] at a3
        have A3 := Lib.hid a3
        simp only [Try.types_size, Nat.reduceAdd] at a1
        clear a3
        go_wp2_with fail
        refine A3.out.mono ?_
        rintro e wA ⟨rfl, hqA⟩
        have HQA := Lib.hid hqA
        clear hqA a1 a2
        cases hl : lt d'[(2 * k + 1)]! d'[k]! with
        | false =>
          have HE := Lib.hid (down_end hO HI1.out HS1.out (.inr (by rw [CE.out]; exact hl)))
          clear hl
          by_cases hm : k = i0
          · have hm2 : ¬ (i0 : Int) < (k : Int) := by omega
            go_wp2_with fail
            go_ret
            exact ⟨false, rfl, d', HQA.out, HP1.out, HE.out.1 hm, HE.out.2.2⟩
          · have hm2 : (i0 : Int) < (k : Int) := by omega
            go_wp2_with fail
            go_ret
            exact ⟨true, rfl, d', HQA.out, HP1.out, HE.out.2.1 hm, HE.out.2.2⟩
        | true =>
          have HI2 := Lib.hid (down_step hO HI1.out hik (by omega) (by omega) (by rw [CE.out]; exact hl))
          rw [CE.out] at HI2
          obtain ⟨fB, rB, s1, s2, s3⟩ := HH.out.swap wA d' k (2 * k + 1) HQA.out (by omega) (by omega)
          rw [show (((2 * k + 1) : Nat) : Int) = (2 * (k : Int) + 1) by omega] at s3
          have S3 := Lib.hid s3
          have HP2 := Lib.hid (permIn_trans d d' (swp d' k (2 * k + 1)) 0 n HP1.out (swp_permIn d' 0 n k (2 * k + 1) (Nat.zero_le _) (by omega) (Nat.zero_le _) (by omega) (by omega)))
          simp only [Try.types_size, Nat.reduceAdd] at s1
          clear hl s3
          go_wp2_with fail
          refine S3.out.mono ?_
          rintro e w3 ⟨rfl, hq3⟩
          have HQ3 := Lib.hid hq3
          clear hq3 s1 s2
          go_wp2_with fail
          go_roundw
          case rel => exact ⟨(2 * k + 1), swp d' k (2 * k + 1), by go_num, by omega, HQ3.out, HP2.out, HI2.out, fun e => by omega⟩
          case measure => simp [intOf]; omega
    · have hc2 : (n : Int) ≤ 2 * (k : Int) + 1 := by omega
      have HE := Lib.hid (down_end hO HI1.out HS1.out (.inl (by omega)))
      by_cases hm : k = i0
      · have hm2 : ¬ (i0 : Int) < (k : Int) := by omega
        go_wp2_with fail
        go_ret
        exact ⟨false, rfl, d', HQ1.out, HP1.out, HE.out.1 hm, HE.out.2.2⟩
      · have hm2 : (i0 : Int) < (k : Int) := by omega
        go_wp2_with fail
        go_ret
        exact ⟨true, rfl, d', HQ1.out, HP1.out, HE.out.2.1 hm, HE.out.2.2⟩

end Go.Proofs.Ytlhfgiffdfcplaa
