/- Plain facts for layer 11 (valid): the words that a path reads; what hangs on these words alone. No program is named here. -/
import Derived.Test.YtmmlfnblodfjbaaGreatDoorQTdPlain
import Derived.Test.YtmmlfnblodfjbaaGreatDoorQWord
import Derived.Test.YtmmlfnblodfjbaaGreatDoorQGenZ
import Derived.Test.YtmmlfnblodfjbaaGreatDoorQPlain
namespace Go.Proofs.YtmmlfnblodfjbaaGreatDoor
def farR (f : Pt) : List (Int × Int) := if f.kind = 3 then (f.seg, f.off) :: (if f.dbl = true then [(f.seg, f.off + 1)] else []) else []
def followR (s : Sr) (g a : Int) : List (Int × Int) := (g, a) :: farR (ptS s g a)
def stepR (s : Sr) (o : Ob) (k : Int) : List (Int × Int) :=
  if o.kind = 0 ∨ (o.kind = 1 ∧ o.ptrs ≤ k) then [] else followR s o.seg (o.at_ + (if o.kind = 1 then o.data else 0) + k)
def goR (s : Sr) : List Int → Ob → List (Int × Int)
  | [], _ => []
  | k :: r, o => stepR s o k ++ goR s r (nextO s o k).1
def goO (s : Sr) : List Int → Ob → Ob
  | [], o => o
  | k :: r, o => goO s r (nextO s o k).1
def endR (o : Ob) (i : Int) : List (Int × Int) :=
  if i < 0 ∨ o.kind = 0 ∨ (o.kind = 1 ∧ o.data ≤ i) then [] else [(o.seg, o.at_ + (if o.kind = 2 ∧ o.size = 2 then i / 8 else i))]
def walkR (s : Sr) (ks : List Int) (i : Int) : List (Int × Int) := followR s 0 0 ++ (goR s ks (followO s 0 0).1 ++ endR (goO s ks (followO s 0 0).1) i)
theorem goal_goO {s : Sr} : (ks : List Int) → (c : Int) → (o : Ob) → (e : Int) → (goalO s ks c (o, e)).2 = 0 → (goalO s ks c (o, e)).1 = goO s ks o ∧ e = 0
  | [], c, o, e, h => by
    unfold goalO at h ⊢
    by_cases h1 : e ≠ 0
    · rw [if_pos h1] at h; exact absurd h h1
    rw [if_neg h1] at h ⊢
    by_cases h2 : c < 1 + wordsO o
    · rw [if_pos h2] at h; exact absurd h (by decide)
    rw [if_neg h2]
    exact ⟨rfl, Decidable.of_not_not h1⟩
  | k :: r, c, o, e, h => by
    rw [goalO] at h ⊢
    by_cases h1 : e ≠ 0
    · rw [if_pos h1] at h; exact absurd h h1
    rw [if_neg h1] at h ⊢
    dsimp only at h ⊢
    by_cases h2 : c < 1 + wordsO o
    · rw [if_pos h2] at h; exact absurd h (by decide)
    rw [if_neg h2] at h ⊢
    rw [goO]
    have := goal_goO r (c - (1 + wordsO o)) (nextO s o k).1 (nextO s o k).2 h
    exact ⟨this.1, Decidable.of_not_not h1⟩
def spR (sz : List Int) (R : List (Int × Int)) : List Sp := R.filterMap (fun p => if placeI sz p.1 p.2 < 0 then none else some (placeI sz p.1 p.2, placeI sz p.1 p.2 + 1))
def touchV (ls : List (List Int)) (ks : List Int) (i : Int) : List Sp × Int :=
  if (ofV ls ks i 8192).2 ≠ 0 then ([], (ofV ls ks i 8192).2) else (normL (spR (sizesL ls) (walkR (srA ls) ks i)), 0)
theorem within_place {sz : List Int} {g a : Int} (hf : fitsL sz = true) (h : withinB sz g a 1 = true) : 0 ≤ placeI sz g a := by
  unfold placeI
  rw [if_pos ⟨hf, h⟩]
  obtain ⟨-, -, h3, -⟩ := within_at h
  have hs : ∀ x ∈ sz, 0 ≤ x := (of_decide_eq_true hf).2.2.2.1
  have := sum_nonneg (l := sz.take g.toNat) (fun x hx => hs x (List.mem_of_mem_take hx))
  omega
def checkT (ls : List (List Int)) : Int := if (decodeT ls).2 ≠ 0 then (decodeT ls).2 else if rightT (decodeT ls).1 = true then 0 else 23
def canonT (ls : List (List Int)) : List (List Int) × Int := if checkT ls ≠ 0 then ([], checkT ls) else buildT (decodeT ls).1 4096
def equalT (a b : List (List Int)) : Bool := decide (checkT a = 0) && (decide (checkT b = 0) && sameT (decodeT a).1 (decodeT b).1)
mutual
theorem same11_refl : (t : Tr) → sameT t t = true
  | .mk k z w b ks => by
    unfold sameT
    rw [sameAll11_refl ks]
    simp
theorem sameAll11_refl : (l : List Tr) → sameAll l l = true
  | [] => rfl
  | t :: r => by
    unfold sameAll
    rw [same11_refl t, sameAll11_refl r]
    rfl
end
theorem check_yes11 {ls : List (List Int)} {t : Tr} (hd : decodeT ls = (t, 0)) (hr : rightT t = true) : checkT ls = 0 := by
  unfold checkT
  rw [hd, if_neg (by simp), if_pos hr]
theorem check_zero {ls : List (List Int)} (h : checkT ls = 0) : (decodeT ls).2 = 0 ∧ rightT (decodeT ls).1 = true := by
  unfold checkT at h
  by_cases h1 : (decodeT ls).2 ≠ 0
  · rw [if_pos h1] at h; exact absurd h h1
  rw [if_neg h1] at h
  by_cases h2 : rightT (decodeT ls).1 = true
  · exact ⟨Decidable.of_not_not h1, h2⟩
  · rw [if_neg h2] at h; exact absurd h (by decide)
theorem equal_of {a b : List (List Int)} {t : Tr} (ha : decodeT a = (t, 0)) (hb : decodeT b = (t, 0)) (hr : rightT t = true) : equalT a b = true := by
  unfold equalT
  rw [check_yes11 ha hr, check_yes11 hb hr, ha, hb, same11_refl]
  rfl
def seven11 : Tr := .mk 1 0 [7] [] []
theorem seven11_build : buildT seven11 9 = ([[4294967296, 7]], 0) := by decide
theorem seven11_decode : decodeT [[4294967296, 7]] = (seven11, 0) := by
  have h := build_back (t := seven11) (z := 9) (by rw [seven11_build]) (by unfold seven11 BytesT; simp [BytesAll]) (by decide)
  rw [seven11_build] at h
  exact h
theorem seven11_check : checkT [[4294967296, 7]] = 0 := check_yes11 seven11_decode (by decide)
theorem seven11_equal : equalT [[4294967296, 7]] [[4294967296, 7]] = true := equal_of seven11_decode seven11_decode (by decide)
theorem nil11_check : checkT [] = 1 := by
  have h : decodeT [] = (Tr.nil, 1) := rfl
  unfold checkT
  rw [h, if_pos (by decide)]
theorem seven11_touch : touchV [[4294967296, 7]] [] 0 = ([(0, 2)], 0) := by decide
end Go.Proofs.YtmmlfnblodfjbaaGreatDoor
