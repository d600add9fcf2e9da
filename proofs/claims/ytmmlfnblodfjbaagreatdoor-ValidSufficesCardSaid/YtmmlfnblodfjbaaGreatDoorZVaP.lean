/-
  Plain facts for layer 11 (valid): the words that a path reads; what hangs on these words alone. No program is named here.
-/
import Derived.Test.YtmmlfnblodfjbaaGreatDoorZTdPlain
import Derived.Test.YtmmlfnblodfjbaaGreatDoorZSpanA
import Derived.Test.YtmmlfnblodfjbaaGreatDoorZGenZ
import Derived.Test.YtmmlfnblodfjbaaGreatDoorZPlain
import Derived.Test.YtmmlfnblodfjbaaGreatDoorZAr

namespace Go.Proofs.YtmmlfnblodfjbaaGreatDoor

/-! ### what is read -/
def farR (f : Pt) : List (Int × Int) := if f.kind = 3 then (f.seg, f.off) :: (if f.dbl = true then [(f.seg, f.off + 1)] else []) else []
def followR (s : Sr) (g a : Int) : List (Int × Int) := (g, a) :: farR (ptS s g a)
def stepR (s : Sr) (o : Ob) (k : Int) : List (Int × Int) :=
  if o.kind = 0 ∨ (o.kind = 1 ∧ o.ptrs ≤ k) then [] else followR s o.seg (o.at_ + (if o.kind = 1 then o.data else 0) + k)
def goR (s : Sr) : List Int → Ob → List (Int × Int)
  | [], _ => []
  | k :: r, o => stepR s o k ++ goR s r (nextO s o k).1
def goO (s : Sr) : List Int → Ob → Ob
  | [], o => o
  | k :: r, o => goO s r (nextO s o k).1
def endR (o : Ob) (i : Int) : List (Int × Int) :=
  if i < 0 ∨ o.kind = 0 ∨ (o.kind = 1 ∧ o.data ≤ i) then [] else [(o.seg, o.at_ + (if o.kind = 2 ∧ o.size = 2 then i / 8 else i))]
def walkR (s : Sr) (ks : List Int) (i : Int) : List (Int × Int) := followR s 0 0 ++ (goR s ks (followO s 0 0).1 ++ endR (goO s ks (followO s 0 0).1) i)

/-! ### another source with the same words there -/
structure Agree (s s' : Sr) (R : List (Int × Int)) : Prop where
  sz : s'.sz = s.sz
  we : ∀ g a, s'.we g a = s.we g a
  wd : ∀ p ∈ R, s'.wd p.1 p.2 = s.wd p.1 p.2
theorem Agree.left {s s' : Sr} {R Q : List (Int × Int)} (h : Agree s s' (R ++ Q)) : Agree s s' R := ⟨h.sz, h.we, fun p hp => h.wd p (List.mem_append_left _ hp)⟩
theorem Agree.right {s s' : Sr} {R Q : List (Int × Int)} (h : Agree s s' (R ++ Q)) : Agree s s' Q := ⟨h.sz, h.we, fun p hp => h.wd p (List.mem_append_right _ hp)⟩
theorem Agree.tail {s s' : Sr} {p : Int × Int} {Q : List (Int × Int)} (h : Agree s s' (p :: Q)) : Agree s s' Q := ⟨h.sz, h.we, fun q hq => h.wd q (List.mem_cons_of_mem _ hq)⟩
theorem Agree.head {s s' : Sr} {g a : Int} {Q : List (Int × Int)} (h : Agree s s' ((g, a) :: Q)) : s'.wd g a = s.wd g a := h.wd (g, a) (List.mem_cons_self ..)
theorem landed_same {s s' : Sr} {f : Pt} (hk : f.kind = 3) (h : Agree s s' (farR f)) : landedO s' f = landedO s f := by
  unfold farR at h
  rw [if_pos hk] at h
  unfold landedO
  by_cases hd : f.dbl = true
  · rw [if_pos hd] at h
    have e1 := h.head
    have e2 := h.tail.head
    rw [if_pos hd, if_pos hd]
    unfold landed2 ptE2 ptS
    simp only [h.we, e1, e2]
  · have e1 := h.head
    rw [if_neg hd, if_neg hd]
    unfold landed1 ptE ptS
    simp only [h.we, e1]
theorem pt_same {s s' : Sr} {g a : Int} (hw : ∀ g a, s'.we g a = s.we g a) (h : s'.wd g a = s.wd g a) : ptS s' g a = ptS s g a ∧ ptE s' g a = ptE s g a := by
  unfold ptE ptS
  rw [hw, h]
  exact ⟨rfl, rfl⟩
theorem follow_same {s s' : Sr} {g a : Int} (h : Agree s s' (followR s g a)) : followO s' g a = followO s g a ∧ followR s' g a = followR s g a := by
  unfold followR at h
  obtain ⟨e1, e2⟩ := pt_same h.we h.head
  refine ⟨?_, by unfold followR; rw [e1]⟩
  have ht : targetO s' g a = targetO s g a := by
    unfold targetO
    rw [e1, e2]
    by_cases hk : (ptS s g a).kind = 3
    · rw [if_pos hk, if_pos hk, landed_same hk h.tail]
    · rw [if_neg hk, if_neg hk]
  unfold followO
  rw [ht]
  unfold checkO
  rw [h.sz]
theorem next_same {s s' : Sr} {o : Ob} {k : Int} (h : Agree s s' (stepR s o k)) : nextO s' o k = nextO s o k ∧ stepR s' o k = stepR s o k := by
  unfold stepR at h ⊢
  unfold nextO
  by_cases h1 : o.kind = 0 ∨ (o.kind = 1 ∧ o.ptrs ≤ k)
  · rw [if_pos h1, if_pos h1, if_pos h1, if_pos h1]
    exact ⟨rfl, rfl⟩
  · rw [if_neg h1] at h
    rw [if_neg h1, if_neg h1, if_neg h1, if_neg h1]
    obtain ⟨e1, e2⟩ := follow_same h
    refine ⟨?_, e2⟩
    by_cases h2 : o.kind = 1
    · rw [if_pos h2] at e1
      rw [if_pos h2, if_pos h2, e1]
    · rw [if_neg h2, Int.add_zero] at e1
      rw [if_neg h2, if_neg h2, e1]
theorem go_same {s s' : Sr} : (ks : List Int) → (o : Ob) → Agree s s' (goR s ks o) → goR s' ks o = goR s ks o ∧ goO s' ks o = goO s ks o ∧ ∀ c e, goalO s' ks c (o, e) = goalO s ks c (o, e)
  | [], o, _ => ⟨rfl, rfl, fun c e => by unfold goalO; rfl⟩
  | k :: r, o, h => by
    rw [goR] at h
    obtain ⟨e1, e2⟩ := next_same h.left
    obtain ⟨i1, i2, i3⟩ := go_same r _ h.right
    refine ⟨by rw [goR, goR, e1, e2, i1], by rw [goO, goO, e1, i2], fun c e => ?_⟩
    rw [goalO, goalO]
    dsimp only
    rw [e1]
    rw [show nextO s o k = ((nextO s o k).1, (nextO s o k).2) from rfl, i3]
theorem end_same11 {s s' : Sr} {o : Ob} (hg : GoodO s.sz o) {i : Int} (h : Agree s s' (endR o i)) : endV s' o i = endV s o i := by
  unfold endR at h
  unfold endV
  by_cases hi : i < 0
  · rw [if_pos hi, if_pos hi]
  rw [if_neg hi, if_neg hi]
  have hn : numW s' o i = numW s o i := by
    unfold numW
    by_cases h1 : o.kind = 0 ∨ (o.kind = 1 ∧ o.data ≤ i)
    · rw [if_pos h1, if_pos h1]
    rw [if_neg h1, if_neg h1]
    rw [if_neg (fun e => e.elim hi h1)] at h
    have hw := h.head
    have h0 : o.kind ≠ 0 := fun e => h1 (.inl e)
    obtain ⟨hp, -⟩ := good_parts hg h0
    by_cases h2 : o.kind = 1
    · rw [if_neg (by omega)] at hw
      rw [if_pos h2, if_pos h2, h.we, hw]
    rw [if_neg h2, if_neg h2]
    by_cases h3 : o.size = 6
    · rw [if_pos h3, if_pos h3]
    rw [if_neg h3, if_neg h3]
    by_cases h4 : o.count ≤ i
    · rw [if_pos h4, if_pos h4]
    rw [if_neg h4, if_neg h4]
    by_cases h5 : o.size = 5
    · rw [if_neg (by omega)] at hw
      rw [if_pos h5, if_pos h5, h.we, hw]
    · rw [if_pos (by omega)] at hw
      rw [if_neg h5, if_neg h5, h.we, hw]
  rw [hn]
theorem goal_goO {s : Sr} : (ks : List Int) → (c : Int) → (o : Ob) → (e : Int) → (goalO s ks c (o, e)).2 = 0 → (goalO s ks c (o, e)).1 = goO s ks o ∧ e = 0
  | [], c, o, e, h => by
    unfold goalO at h ⊢
    by_cases h1 : e ≠ 0
    · rw [if_pos h1] at h; exact absurd h h1
    rw [if_neg h1] at h ⊢
    by_cases h2 : c < 1 + wordsO o
    · rw [if_pos h2] at h; exact absurd h (by decide)
    rw [if_neg h2]
    exact ⟨rfl, Decidable.of_not_not h1⟩
  | k :: r, c, o, e, h => by
    rw [goalO] at h ⊢
    by_cases h1 : e ≠ 0
    · rw [if_pos h1] at h; exact absurd h h1
    rw [if_neg h1] at h ⊢
    dsimp only at h ⊢
    by_cases h2 : c < 1 + wordsO o
    · rw [if_pos h2] at h; exact absurd h (by decide)
    rw [if_neg h2] at h ⊢
    rw [goO]
    have := goal_goO r (c - (1 + wordsO o)) (nextO s o k).1 (nextO s o k).2 h
    exact ⟨this.1, Decidable.of_not_not h1⟩
theorem goO_good {s : Sr} (hs : s.Good) : (ks : List Int) → (o : Ob) → GoodO s.sz o → GoodO s.sz (goO s ks o)
  | [], _, h => h
  | k :: r, o, _ => by
    rw [goO]
    exact goO_good hs r _ (next_good hs o k)
/-- what a path leads to hangs on the words that it reads -/
theorem walk_same {s s' : Sr} (hs : s.Good) {ks : List Int} {i : Int} (h : Agree s s' (walkR s ks i)) : (∀ c, walkV s' ks i c = walkV s ks i c) ∧ walkR s' ks i = walkR s ks i := by
  unfold walkR at h
  obtain ⟨e1, e2⟩ := follow_same h.left
  obtain ⟨g1, g2, g3⟩ := go_same ks _ h.right.left
  have hE := end_same11 (goO_good hs ks _ (follow_good hs 0 0)) h.right.right
  refine ⟨fun c => ?_, by unfold walkR; rw [e1, e2, g1, g2]⟩
  unfold walkV
  rw [e1, show followO s 0 0 = ((followO s 0 0).1, (followO s 0 0).2) from rfl, g3]
  by_cases hz : (goalO s ks c ((followO s 0 0).1, (followO s 0 0).2)).2 ≠ 0
  · rw [if_pos hz, if_pos hz]
  · rw [if_neg hz, if_neg hz, (goal_goO ks c _ _ (Decidable.of_not_not hz)).1, hE]

/-! ### arenas -/
/-- the places of what is read -/
def spR (sz : List Int) (R : List (Int × Int)) : List Sp := R.filterMap (fun p => if placeI sz p.1 p.2 < 0 then none else some (placeI sz p.1 p.2, placeI sz p.1 p.2 + 1))
def touchV (ls : List (List Int)) (ks : List Int) (i : Int) : List Sp × Int :=
  if (ofV ls ks i 8192).2 ≠ 0 then ([], (ofV ls ks i 8192).2) else (normL (spR (sizesL ls) (walkR (srA ls) ks i)), 0)
theorem spR_places {sz : List Int} {R : List (Int × Int)} {x : Int} : places (spR sz R) x ↔ ∃ p ∈ R, placeI sz p.1 p.2 = x ∧ 0 ≤ x := by
  unfold places spR
  constructor
  · rintro ⟨s, hs, h1, h2⟩
    obtain ⟨p, hp, e⟩ := List.mem_filterMap.1 hs
    split at e
    · cases e
    · injection e with e
      subst e
      dsimp only at h1 h2
      exact ⟨p, hp, by omega, by omega⟩
  · rintro ⟨p, hp, rfl, h0⟩
    refine ⟨(placeI sz p.1 p.2, placeI sz p.1 p.2 + 1), List.mem_filterMap.2 ⟨p, hp, ?_⟩, by dsimp only; omega, by dsimp only; omega⟩
    rw [if_neg (by omega)]
theorem touch_places {ls : List (List Int)} {ks : List Int} {i : Int} (h : (touchV ls ks i).2 = 0) (x : Int) : places (touchV ls ks i).1 x ↔ ∃ p ∈ walkR (srA ls) ks i, placeI (sizesL ls) p.1 p.2 = x ∧ 0 ≤ x := by
  unfold touchV at h ⊢
  by_cases he : (ofV ls ks i 8192).2 ≠ 0
  · rw [if_pos he] at h
    exact absurd h he
  · rw [if_neg he, norm_places]
    exact spR_places
theorem touch_err (ls : List (List Int)) (ks : List Int) (i : Int) : (touchV ls ks i).2 = (ofV ls ks i 8192).2 := by
  unfold touchV
  split
  · rfl
  · rename_i h
    exact (Decidable.of_not_not h).symm
theorem touch_fits {ls : List (List Int)} {ks : List Int} {i : Int} (h : (touchV ls ks i).2 = 0) : fitsL (sizesL ls) = true := by
  rw [touch_err] at h
  unfold ofV at h
  by_cases hf : fitsL (sizesL ls) = true
  · exact hf
  · rw [if_neg hf] at h
    exact absurd h (by decide)
theorem place_within {sz : List Int} {g a : Int} (h : 0 ≤ placeI sz g a) : withinB sz g a 1 = true := by
  unfold placeI at h
  by_cases e : fitsL sz = true ∧ withinB sz g a 1 = true
  · exact e.2
  · rw [if_neg e] at h
    exact absurd h (by decide)
theorem within_place {sz : List Int} {g a : Int} (hf : fitsL sz = true) (h : withinB sz g a 1 = true) : 0 ≤ placeI sz g a := by
  unfold placeI
  rw [if_pos ⟨hf, h⟩]
  obtain ⟨-, -, h3, -⟩ := within_at h
  have hs : ∀ x ∈ sz, 0 ≤ x := (of_decide_eq_true hf).2.2.2.1
  have := sum_nonneg (l := sz.take g.toNat) (fun x hx => hs x (List.mem_of_mem_take hx))
  omega
/-- WITH NO MORE THAN THE WORDS THAT A PATH TOUCHES, it leads to the same, and touches the same -/
theorem touch_suffices {ls ls' : List (List Int)} (hg : (srA ls).Good) {ks : List Int} {i : Int} (h : (touchV ls ks i).2 = 0) (hsz : sizesL ls' = sizesL ls)
    (hw : ∀ g a : Nat, g < ls.length → a < (ls[g]?.getD []).length → places (touchV ls ks i).1 (placeI (sizesL ls) g a) → (ls'[g]?.getD [])[a]?.getD 0 = (ls[g]?.getD [])[a]?.getD 0) :
    (∀ c, ofV ls' ks i c = ofV ls ks i c) ∧ touchV ls' ks i = touchV ls ks i := by
  have hf := touch_fits h
  have hA : Agree (srA ls) (srA ls') (walkR (srA ls) ks i) := ⟨hsz, fun g a => by
    show wordE7 ls' g a = wordE7 ls g a
    unfold wordE7
    rw [hsz], fun p hp => by
    show wordA ls' p.1 p.2 = wordA ls p.1 p.2
    unfold wordA
    rw [hsz]
    by_cases hp2 : withinB (sizesL ls) p.1 p.2 1 = true
    · rw [if_pos hp2, if_pos hp2]
      obtain ⟨h1, h2, h3, h4, h5⟩ := within_at hp2
      have h6 : p.1.toNat < ls.length := by have : (sizesL ls).length = ls.length := by unfold sizesL; simp
                                            omega
      have h7 := sizesL_get h6
      refine hw p.1.toNat p.2.toNat h6 (by omega) ?_
      rw [touch_places h]
      rw [Int.toNat_of_nonneg h1, Int.toNat_of_nonneg h3]
      exact ⟨p, hp, rfl, within_place hf hp2⟩
    · rw [if_neg hp2, if_neg hp2]⟩
  obtain ⟨w1, w2⟩ := walk_same hg hA
  have ho : ∀ c, ofV ls' ks i c = ofV ls ks i c := fun c => by
    unfold ofV
    rw [hsz, w1]
  refine ⟨ho, ?_⟩
  unfold touchV
  rw [ho, hsz, w2]

end Go.Proofs.YtmmlfnblodfjbaaGreatDoor

namespace Go.Proofs.YtmmlfnblodfjbaaGreatDoor

/-! ### the front of a path -/
theorem goR_front (s : Sr) : (q : Nat) → (ks : List Int) → (o : Ob) → ∀ p ∈ goR s (ks.take q) o, p ∈ goR s ks o
  | 0, ks, o, p, hp => by
    rw [List.take_zero] at hp
    unfold goR at hp
    simp at hp
  | q+1, [], o, p, hp => by
    rw [List.take_nil] at hp
    exact hp
  | q+1, k :: r, o, p, hp => by
    rw [List.take_succ_cons, goR] at hp
    rw [goR]
    rcases List.mem_append.1 hp with h | h
    · exact List.mem_append_left _ h
    · exact List.mem_append_right _ (goR_front s q r _ p h)
theorem goal_front {s : Sr} : (q : Nat) → (ks : List Int) → (c : Int) → (o : Ob) → (e : Int) → (goalO s ks c (o, e)).2 = 0 → (goalO s (ks.take q) c (o, e)).2 = 0
  | 0, ks, c, o, e, h => by
    rw [List.take_zero]
    have h2 : ¬ e ≠ 0 ∧ ¬ c < 1 + wordsO o := by
      cases ks with
      | nil =>
        unfold goalO at h
        by_cases h1 : e ≠ 0
        · rw [if_pos h1] at h; exact absurd h h1
        rw [if_neg h1] at h
        by_cases h2 : c < 1 + wordsO o
        · rw [if_pos h2] at h; exact absurd h (by decide)
        exact ⟨h1, h2⟩
      | cons k r =>
        rw [goalO] at h
        by_cases h1 : e ≠ 0
        · rw [if_pos h1] at h; exact absurd h h1
        rw [if_neg h1] at h
        by_cases h2 : c < 1 + wordsO o
        · rw [if_pos h2] at h; exact absurd h (by decide)
        exact ⟨h1, h2⟩
    unfold goalO
    rw [if_neg h2.1, if_neg h2.2]
  | q+1, [], c, o, e, h => by rw [List.take_nil]; exact h
  | q+1, k :: r, c, o, e, h => by
    rw [List.take_succ_cons]
    rw [goalO] at h ⊢
    by_cases h1 : e ≠ 0
    · rw [if_pos h1] at h; exact absurd h h1
    rw [if_neg h1] at h ⊢
    dsimp only at h ⊢
    by_cases h2 : c < 1 + wordsO o
    · rw [if_pos h2] at h; exact absurd h (by decide)
    rw [if_neg h2] at h ⊢
    exact goal_front q r _ _ _ h
theorem touch_front {ls : List (List Int)} {ks : List Int} {i : Int} (h : (touchV ls ks i).2 = 0) (q : Nat) :
    (touchV ls (ks.take q) (-1)).2 = 0 ∧ ∀ x, places (touchV ls (ks.take q) (-1)).1 x → places (touchV ls ks i).1 x := by
  have hf := touch_fits h
  have h0 : (touchV ls (ks.take q) (-1)).2 = 0 := by
    rw [touch_err] at h ⊢
    unfold ofV at h ⊢
    rw [if_pos hf] at h ⊢
    unfold walkV at h ⊢
    by_cases hn : (ks.any (fun k => decide (k < 0))) = true
    · rw [if_pos hn] at h; exact absurd h (by decide)
    rw [if_neg hn] at h
    have hn2 : ¬ ((ks.take q).any (fun k => decide (k < 0))) = true := fun e => by
      obtain ⟨k, h1, h2⟩ := List.any_eq_true.1 e
      exact hn (List.any_eq_true.2 ⟨k, List.mem_of_mem_take h1, h2⟩)
    rw [if_neg hn2]
    by_cases hl : 32 < ks.length
    · rw [if_pos hl] at h; exact absurd h (by decide)
    rw [if_neg hl] at h
    rw [if_neg (by rw [List.length_take]; omega)]
    by_cases hg : (goalO (srA ls) ks 8192 (followO (srA ls) 0 0)).2 ≠ 0
    · rw [if_pos hg] at h; exact absurd h hg
    have hg2 := goal_front q ks 8192 (followO (srA ls) 0 0).1 (followO (srA ls) 0 0).2 (Decidable.of_not_not hg)
    rw [show ((followO (srA ls) 0 0).1, (followO (srA ls) 0 0).2) = followO (srA ls) 0 0 from rfl] at hg2
    rw [if_neg (fun e => e hg2)]
    unfold endV
    rw [if_pos (by decide)]
  refine ⟨h0, fun x hx => ?_⟩
  rw [touch_places h0] at hx
  rw [touch_places h]
  obtain ⟨p, hp, h1⟩ := hx
  refine ⟨p, ?_, h1⟩
  unfold walkR at hp ⊢
  rcases List.mem_append.1 hp with hp | hp
  · exact List.mem_append_left _ hp
  · rcases List.mem_append.1 hp with hp | hp
    · exact List.mem_append_right _ (List.mem_append_left _ (goR_front _ q ks _ p hp))
    · unfold endR at hp
      rw [if_pos (.inl (by decide))] at hp
      simp at hp
theorem touch_first {ls : List (List Int)} {ks : List Int} {i : Int} (h : (touchV ls ks i).2 = 0) : places (touchV ls ks i).1 0 := by
  have hf := touch_fits h
  rw [touch_places h]
  have hd := of_decide_eq_true hf
  have hw : withinB (sizesL ls) 0 0 1 = true := by
    have h1 := hd.1
    have h3 : (1 : Int) ≤ (sizesL ls)[(0 : Int).toNat]?.getD 0 := hd.2.2.1
    unfold withinB
    refine decide_eq_true ?_
    refine ⟨by omega, by omega, by omega, by omega, by omega, by omega⟩
  refine ⟨(0, 0), ?_, ?_, by decide⟩
  · unfold walkR followR
    simp
  · unfold placeI
    rw [if_pos ⟨hf, hw⟩]
    rfl
theorem touch_last {l : List Int} {ks : List Int} {i : Int} (h : (touchV [l] ks i).2 = 0) : ∀ x, places (touchV [l] ks i).1 x → 0 ≤ x ∧ x < l.length := by
  intro x hx
  rw [touch_places h] at hx
  obtain ⟨p, -, h1, h2⟩ := hx
  have hw := place_within (show 0 ≤ placeI (sizesL [l]) p.1 p.2 by omega)
  unfold placeI at h1
  rw [if_pos ⟨touch_fits h, hw⟩] at h1
  obtain ⟨w1, w2, w3, w4, w5⟩ := within_at hw
  have hz : p.1 = 0 := by have : (sizesL [l]).length = 1 := rfl
                          omega
  rw [hz] at h1 w5
  have e1 : (sizesL [l])[(0 : Int).toNat]?.getD 0 = (l.length : Int) := rfl
  rw [e1] at w5
  have e2 : ((sizesL [l]).take (0 : Int).toNat).sum = 0 := rfl
  omega

end Go.Proofs.YtmmlfnblodfjbaaGreatDoor

namespace Go.Proofs.YtmmlfnblodfjbaaGreatDoor

def checkT (ls : List (List Int)) : Int := if (decodeT ls).2 ≠ 0 then (decodeT ls).2 else if rightT (decodeT ls).1 = true then 0 else 23
def equalT (a b : List (List Int)) : Bool := decide (checkT a = 0) && (decide (checkT b = 0) && sameT (decodeT a).1 (decodeT b).1)
mutual
theorem same11_refl : (t : Tr) → sameT t t = true
  | .mk k z w b ks => by
    unfold sameT
    rw [sameAll11_refl ks]
    simp
theorem sameAll11_refl : (l : List Tr) → sameAll l l = true
  | [] => rfl
  | t :: r => by
    unfold sameAll
    rw [same11_refl t, sameAll11_refl r]
    rfl
end
theorem check_yes11 {ls : List (List Int)} {t : Tr} (hd : decodeT ls = (t, 0)) (hr : rightT t = true) : checkT ls = 0 := by
  unfold checkT
  rw [hd, if_neg (by simp), if_pos hr]
theorem check_zero {ls : List (List Int)} (h : checkT ls = 0) : (decodeT ls).2 = 0 ∧ rightT (decodeT ls).1 = true := by
  unfold checkT at h
  by_cases h1 : (decodeT ls).2 ≠ 0
  · rw [if_pos h1] at h; exact absurd h h1
  rw [if_neg h1] at h
  by_cases h2 : rightT (decodeT ls).1 = true
  · exact ⟨Decidable.of_not_not h1, h2⟩
  · rw [if_neg h2] at h; exact absurd h (by decide)
theorem equal_of {a b : List (List Int)} {t : Tr} (ha : decodeT a = (t, 0)) (hb : decodeT b = (t, 0)) (hr : rightT t = true) : equalT a b = true := by
  unfold equalT
  rw [check_yes11 ha hr, check_yes11 hb hr, ha, hb, same11_refl]
  rfl
def seven11 : Tr := .mk 1 0 [7] [] []
theorem seven11_build : buildT seven11 9 = ([[4294967296, 7]], 0) := by decide
theorem seven11_decode : decodeT [[4294967296, 7]] = (seven11, 0) := by
  have h := build_back (t := seven11) (z := 9) (by rw [seven11_build]) (by unfold seven11 BytesT; simp [BytesAll]) (by decide)
  rw [seven11_build] at h
  exact h
theorem seven11_check : checkT [[4294967296, 7]] = 0 := check_yes11 seven11_decode (by decide)
theorem seven11_equal : equalT [[4294967296, 7]] [[4294967296, 7]] = true := equal_of seven11_decode seven11_decode (by decide)
theorem nil11_check : checkT [] = 1 := by
  have h : decodeT [] = (Tr.nil, 1) := rfl
  unfold checkT
  rw [h, if_pos (by decide)]
theorem seven11_touch : touchV [[4294967296, 7]] [] 0 = ([(0, 2)], 0) := by decide

end Go.Proofs.YtmmlfnblodfjbaaGreatDoor

namespace Go.Proofs.YtmmlfnblodfjbaaGreatDoor

/-- is a place among spans? -/
def inS (l : List Sp) (x : Int) : Bool := l.any (fun s => decide (s.1 ≤ x ∧ x < s.2))
theorem inS_iff {l : List Sp} {x : Int} : inS l x = true ↔ places l x := by
  unfold inS places
  rw [List.any_eq_true]
  simp only [decide_eq_true_eq]
/-- words ahead of a segment -/
def offS (ls : List (List Int)) (g : Nat) : Nat := ((ls.take g).map List.length).sum
theorem offS_next {ls : List (List Int)} {g : Nat} (h : g < ls.length) : offS ls (g + 1) = offS ls g + (ls[g]?.getD []).length := by
  unfold offS
  rw [List.take_add_one, List.getElem?_eq_getElem h, Option.getD_some, List.map_append, List.sum_append]
  rfl
def wvW (L : List Sp) (x : Int) (ls : List (List Int)) (g j : Nat) : Int :=
  if inS L ((offS ls g + j : Nat) : Int) = true then (ls[g]?.getD [])[j]?.getD 0 else (x + ((offS ls g + j : Nat) : Int) * 11400714819323198485 % 18446744073709551616) % 18446744073709551616
def segW (L : List Sp) (x : Int) (ls : List (List Int)) (g i : Nat) : List Int := (List.range i).map (fun j => wvW L x ls g j)
def arW (L : List Sp) (x : Int) (ls : List (List Int)) (t : Nat) : List (List Int) := (List.range t).map (fun g => segW L x ls g (ls[g]?.getD []).length)
theorem segW_length (L : List Sp) (x : Int) (ls : List (List Int)) (g i : Nat) : (segW L x ls g i).length = i := by simp [segW]
theorem arW_length (L : List Sp) (x : Int) (ls : List (List Int)) (t : Nat) : (arW L x ls t).length = t := by simp [arW]
theorem segW_succ (L : List Sp) (x : Int) (ls : List (List Int)) (g i : Nat) : segW L x ls g (i + 1) = segW L x ls g i ++ [wvW L x ls g i] := by simp [segW, List.range_succ]
theorem arW_succ (L : List Sp) (x : Int) (ls : List (List Int)) (t : Nat) : arW L x ls (t + 1) = arW L x ls t ++ [segW L x ls t (ls[t]?.getD []).length] := by simp [arW, List.range_succ]
theorem arW_sizes (L : List Sp) (x : Int) (ls : List (List Int)) : sizesL (arW L x ls ls.length) = sizesL ls := by
  unfold sizesL
  refine List.ext_getElem (by simp [arW]) (fun i h1 h2 => ?_)
  have hi : i < ls.length := by simpa using h2
  simp [arW, segW_length, hi]
theorem arW_at (L : List Sp) (x : Int) (ls : List (List Int)) {g a : Nat} (hg : g < ls.length) (ha : a < (ls[g]?.getD []).length) : ((arW L x ls ls.length)[g]?.getD [])[a]?.getD 0 = wvW L x ls g a := by
  have h1 : (arW L x ls ls.length)[g]?.getD [] = segW L x ls g (ls[g]?.getD []).length := by simp [arW, hg]
  rw [h1]
  unfold segW
  rw [List.getElem?_map, List.getElem?_range ha]
  rfl
theorem wvW_bd (L : List Sp) (x : Int) {ls : List (List Int)} (hu : AllU ls) (g j : Nat) : 0 ≤ wvW L x ls g j ∧ wvW L x ls g j ≤ 18446744073709551615 := by
  unfold wvW
  split
  · exact hu.at_ g j
  · omega
theorem arW_u (L : List Sp) (x : Int) {ls : List (List Int)} (hu : AllU ls) (t : Nat) : AllU (arW L x ls t) := by
  intro s hs y hy
  obtain ⟨g, -, rfl⟩ := List.mem_map.1 hs
  obtain ⟨j, -, rfl⟩ := List.mem_map.1 hy
  exact wvW_bd L x hu g j
theorem sizes_sum : (l : List (List Int)) → (sizesL l).sum = ((l.map List.length).sum : Nat)
  | [] => rfl
  | s :: r => by
    have := sizes_sum r
    unfold sizesL at this ⊢
    rw [List.map_cons, List.sum_cons, List.map_cons, List.sum_cons, this]
    omega
theorem place_off {ls : List (List Int)} {g a : Nat} (hp : 0 ≤ placeI (sizesL ls) g a) : placeI (sizesL ls) g a = ((offS ls g + a : Nat) : Int) := by
  unfold placeI at hp ⊢
  by_cases e : fitsL (sizesL ls) = true ∧ withinB (sizesL ls) g a 1 = true
  · rw [if_pos e, Int.toNat_natCast]
    have h : (sizesL ls).take g = sizesL (ls.take g) := by unfold sizesL; rw [List.map_take]
    rw [h, sizes_sum]
    unfold offS
    omega
  · rw [if_neg e] at hp
    exact absurd hp (by decide)
/-- what is touched is enough -/
theorem arW_suffices {ls : List (List Int)} (hg : (srA ls).Good) {ks : List Int} {i : Int} (h : (touchV ls ks i).2 = 0) (x : Int) :
    (∀ c, ofV (arW (touchV ls ks i).1 x ls ls.length) ks i c = ofV ls ks i c) ∧ touchV (arW (touchV ls ks i).1 x ls ls.length) ks i = touchV ls ks i := by
  refine touch_suffices hg h (arW_sizes _ _ _) (fun g a hgl ha hp => ?_)
  rw [arW_at _ _ _ hgl ha]
  have h0 : 0 ≤ placeI (sizesL ls) g a := by
    rw [touch_places h] at hp
    obtain ⟨-, -, -, h0⟩ := hp
    exact h0
  rw [place_off h0] at hp
  unfold wvW
  rw [if_pos (inS_iff.2 hp)]

/-! ### how many spans there are -/
theorem addGo_len : (l : List Sp) → (s : Sp) → (addGo l s).length ≤ l.length + 1
  | [], s => by unfold addGo; simp
  | t :: l, s => by
    rw [addGo]
    split
    · have := addGo_len l s
      simp only [List.length_cons]
      omega
    · split
      · simp
      · have := addGo_len l (min s.1 t.1, max s.2 t.2)
        simp only [List.length_cons]
        omega
theorem addL_len (l : List Sp) (s : Sp) : (addL l s).length ≤ l.length + 1 := by
  unfold addL
  split
  · omega
  · exact addGo_len l s
theorem fold_len : (l m : List Sp) → (l.foldl addL m).length ≤ m.length + l.length
  | [], m => by simp
  | s :: l, m => by
    rw [List.foldl_cons, List.length_cons]
    have h1 := fold_len l (addL m s)
    have h2 := addL_len m s
    omega
theorem follow_len (s : Sr) (g a : Int) : (followR s g a).length ≤ 3 := by
  unfold followR farR
  split
  · split <;> simp
  · simp
theorem goR_len (s : Sr) : (ks : List Int) → (o : Ob) → (goR s ks o).length ≤ 3 * ks.length
  | [], o => by unfold goR; simp
  | k :: r, o => by
    rw [goR, List.length_append, List.length_cons]
    have h1 := goR_len s r (nextO s o k).1
    have h2 : (stepR s o k).length ≤ 3 := by
      unfold stepR
      split
      · simp
      · exact follow_len _ _ _
    omega
theorem touch_len (ls : List (List Int)) (ks : List Int) (i : Int) : (touchV ls ks i).1.length ≤ 3 * ks.length + 4 := by
  unfold touchV
  split
  · simp
  · dsimp only
    have h1 := fold_len (spR (sizesL ls) (walkR (srA ls) ks i)) []
    have h2 : (spR (sizesL ls) (walkR (srA ls) ks i)).length ≤ (walkR (srA ls) ks i).length := List.length_filterMap_le _ _
    have h3 := follow_len (srA ls) 0 0
    have h4 := goR_len (srA ls) ks (followO (srA ls) 0 0).1
    have h5 : (endR (goO (srA ls) ks (followO (srA ls) 0 0).1) i).length ≤ 1 := by
      unfold endR
      split <;> simp
    have h6 : (walkR (srA ls) ks i).length = (followR (srA ls) 0 0).length + ((goR (srA ls) ks (followO (srA ls) 0 0).1).length + (endR (goO (srA ls) ks (followO (srA ls) 0 0).1) i).length) := by
      unfold walkR
      rw [List.length_append, List.length_append]
    show (normL _).length ≤ _
    unfold normL
    simp only [List.length_nil] at h1
    omega

end Go.Proofs.YtmmlfnblodfjbaaGreatDoor
