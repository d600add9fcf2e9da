/-
  Plain facts for layer 11 (valid): an arena that lacks words reads as the whole one, or its error is 20. No program is named here.
-/
import Derived.Test.YtmmlfnblodfjbaaGreatDoorZTdPlain
import Derived.Test.YtmmlfnblodfjbaaGreatDoorZRdPlain
import Derived.Test.YtmmlfnblodfjbaaGreatDoorZVaP

namespace Go.Proofs.YtmmlfnblodfjbaaGreatDoor

/-- s' lacks words of s, and says 20 where one is not there -/
structure Cut (s s' : Sr) : Prop where
  wo : ∀ g a, s'.we g a = 20 ∨ (s'.we g a = s.we g a ∧ s'.wd g a = s.wd g a)
  wi : ∀ g a n, withinB s'.sz g a n = true → withinB s.sz g a n = true
theorem Cut.pt {s s' : Sr} (h : Cut s s') (g a : Int) : ptE s' g a = 20 ∨ (ptE s' g a = ptE s g a ∧ ptS s' g a = ptS s g a) := by
  unfold ptE ptS
  rcases h.wo g a with e | ⟨e1, e2⟩
  · left; rw [e, if_pos (by decide)]
  · right; rw [e1, e2]; exact ⟨rfl, rfl⟩
theorem Cut.pt2 {s s' : Sr} (h : Cut s s') (g a : Int) : ptE2 s' g a = 20 ∨ (ptE2 s' g a = ptE2 s g a ∧ (ptE2 s g a = 0 → ptS s' g a = ptS s g a ∧ ptS s' g (a + 1) = ptS s g (a + 1))) := by
  unfold ptE2 ptS
  rcases h.wo g a with e | ⟨e1, e2⟩
  · left; rw [e, if_pos (by decide)]
  · rcases h.wo g (a + 1) with e | ⟨e3, e4⟩
    · rw [e1]
      by_cases h0 : s.we g a ≠ 0
      · right
        rw [if_pos h0, if_pos h0]
        exact ⟨rfl, fun e => absurd e h0⟩
      · left
        rw [if_neg h0, e, if_pos (by decide)]
    · right
      rw [e1, e2, e3, e4]
      exact ⟨rfl, fun _ => ⟨rfl, rfl⟩⟩
theorem Cut.landed {s s' : Sr} (h : Cut s s') (f : Pt) : (landedO s' f).2 = 20 ∨ landedO s' f = landedO s f := by
  unfold landedO
  split
  · unfold landed2
    rcases h.pt2 f.seg f.off with e | ⟨e1, e2⟩
    · left; rw [e, if_pos (by decide)]
    · right
      by_cases h0 : ptE2 s f.seg f.off ≠ 0
      · rw [e1, if_pos h0, if_pos h0]
      · obtain ⟨e3, e4⟩ := e2 (Decidable.of_not_not h0)
        rw [e1, e3, e4]
  · unfold landed1
    rcases h.pt f.seg f.off with e | ⟨e1, e2⟩
    · left; rw [e, if_pos (by decide)]
    · right; rw [e1, e2]
theorem Cut.target {s s' : Sr} (h : Cut s s') (g a : Int) : (targetO s' g a).2 = 20 ∨ targetO s' g a = targetO s g a := by
  unfold targetO
  rcases h.pt g a with e | ⟨e1, e2⟩
  · left; rw [e, if_pos (by decide)]
  · rw [e1, e2]
    by_cases h0 : ptE s g a ≠ 0
    · right; rw [if_pos h0, if_pos h0]
    · rw [if_neg h0, if_neg h0]
      by_cases h1 : (ptS s g a).kind = 0
      · right; rw [if_pos h1, if_pos h1]
      · rw [if_neg h1, if_neg h1]
        by_cases h2 : (ptS s g a).kind = 3
        · rw [if_pos h2, if_pos h2]; exact h.landed _
        · right; rw [if_neg h2, if_neg h2]
theorem Cut.follow {s s' : Sr} (h : Cut s s') (g a : Int) : (followO s' g a).2 = 20 ∨ followO s' g a = followO s g a := by
  unfold followO
  rcases h.target g a with e | e
  · left
    unfold checkO
    rw [if_pos (.inl (by rw [e]; decide))]
    exact e
  · rw [e]
    generalize targetO s g a = t
    unfold checkO
    by_cases h0 : t.2 ≠ 0 ∨ t.1.kind = 0
    · right; rw [if_pos h0, if_pos h0]
    · rw [if_neg h0, if_neg h0]
      by_cases h1 : wordE (ptrO t.1) ≠ 0
      · right; rw [if_pos h1, if_pos h1]
      · rw [if_neg h1, if_neg h1]
        by_cases h2 : withinB s'.sz t.1.seg t.1.at_ (wordsO t.1) = true
        · right; rw [if_pos h2, if_pos (h.wi _ _ _ h2)]
        · left; rw [if_neg h2]
/-- the same error, and the same paid -/
def SameD (x y : Dn) : Prop := x.err = y.err ∧ x.paid = y.paid
theorem cut_kids {f f' : Int → Int → Int → Dn} (h : ∀ g a p, (f' g a p).err = 20 ∨ SameD (f' g a p) (f g a p)) : (n : Nat) → (g a p : Int) →
    (decKids f' n g a p).1 = 20 ∨ ((decKids f' n g a p).1 = (decKids f n g a p).1 ∧ (decKids f' n g a p).2.1 = (decKids f n g a p).2.1)
  | 0, _, _, _ => .inr ⟨rfl, rfl⟩
  | n+1, g, a, p => by
    unfold decKids
    rcases h g a p with e | ⟨e1, e2⟩
    · left; rw [if_pos (by rw [e]; decide)]; exact e
    · rw [e1, e2]
      by_cases h0 : (f g a p).err ≠ 0
      · right; rw [if_pos h0, if_pos h0]; exact ⟨rfl, rfl⟩
      · rw [if_neg h0, if_neg h0]
        exact cut_kids h n g (a + 1) (f g a p).paid
theorem cut_dec {s s' : Sr} (h : Cut s s') : (d : Nat) → (g a p : Int) → (decN s' d g a p).err = 20 ∨ SameD (decN s' d g a p) (decN s d g a p)
  | 0, g, a, p => by
    unfold decN
    rcases h.follow g a with e | e
    · left; rw [if_pos (by rw [e]; decide)]; exact e
    · right; rw [e]; exact ⟨rfl, rfl⟩
  | d+1, g, a, p => by
    unfold decN
    rcases h.follow g a with e | e
    · left; rw [if_pos (by rw [e]; decide)]; exact e
    · rw [e]
      by_cases h0 : (followO s g a).2 ≠ 0
      · right; rw [if_pos h0, if_pos h0]; exact ⟨rfl, rfl⟩
      rw [if_neg h0, if_neg h0]
      by_cases h1 : 8192 < p + (1 + wordsO (followO s g a).1)
      · right; rw [if_pos h1, if_pos h1]; exact ⟨rfl, rfl⟩
      rw [if_neg h1, if_neg h1]
      by_cases h2 : (followO s g a).1.kind = 0
      · right; rw [if_pos h2, if_pos h2]; exact ⟨rfl, rfl⟩
      rw [if_neg h2, if_neg h2]
      rcases cut_kids (cut_dec h d) (nKids (followO s g a).1) (followO s g a).1.seg (kidsA (followO s g a).1) (p + (1 + wordsO (followO s g a).1)) with e3 | ⟨e3, e4⟩
      · left
        rw [if_pos (by rw [e3]; decide)]
        exact e3
      · right
        rw [e3, e4]
        split
        · exact ⟨rfl, rfl⟩
        · exact ⟨rfl, rfl⟩

end Go.Proofs.YtmmlfnblodfjbaaGreatDoor

namespace Go.Proofs.YtmmlfnblodfjbaaGreatDoor

theorem check_unfit {ls : List (List Int)} (h : fitsL (sizesL ls) = false) : checkT ls = 1 := by
  have e : decodeT ls = (Tr.nil, 1) := by
    unfold decodeT
    rw [if_neg (by rw [h]; decide)]
  unfold checkT
  rw [e]
  exact if_pos (by decide)
/-- one word too many -/
theorem check_more {l m : List Int} (h : 4096 < l.length + m.length) : checkT [l, m] = 1 := by
  apply check_unfit
  unfold fitsL sizesL
  refine decide_eq_false (fun e => ?_)
  have := e.2.2.2.2
  simp at this
  omega
/-- no first word -/
theorem check_none (l : List (List Int)) : checkT ([] :: l) = 1 := by
  apply check_unfit
  unfold fitsL sizesL
  refine decide_eq_false (fun e => ?_)
  have := e.2.2.1
  simp at this

end Go.Proofs.YtmmlfnblodfjbaaGreatDoor

namespace Go.Proofs.YtmmlfnblodfjbaaGreatDoor

mutual
/-- the tree's things lie one behind the other from n on, led to by the word i -/
def PlacedT (F : List (List Int)) : Tr → Nat → Nat → Prop
  | .mk k z w b ks, i, n => k = 0 ∨ (needT (.mk k z w b ks) = 0 ∧ ks = []) ∨ (followO (srA F) 0 i = (thingO (nearP (.mk k z w b ks) 0) 0 n, 0) ∧ n + (w ++ wordsB b).length + ks.length = n + needT (.mk k z w b ks) ∧ PlacedAll F ks (n + (w ++ wordsB b).length) (n + needT (.mk k z w b ks)))
def PlacedAll (F : List (List Int)) : List Tr → Nat → Nat → Prop
  | [], _, _ => True
  | t :: r, p, n => PlacedT F t p n ∧ PlacedAll F r (p + 1) (n + needs t)
end
theorem dec_bad {s : Sr} {g a : Int} (h : (followO s g a).2 ≠ 0) (p : Int) : (d : Nat) → (decN s d g a p).err = (followO s g a).2
  | 0 => by unfold decN; rw [if_pos h]
  | d+1 => by unfold decN; rw [if_pos h]
theorem twenty {x : Int} (h : x = 20) (h0 : x = 0) : False := by omega
theorem within_cut {M : Nat} {p n : Int} (h : withinB [(M : Int)] 0 p n = true) : p + n ≤ M := by
  have := of_decide_eq_true h
  simp at this
  omega
mutual
theorem place_ends {F : List (List Int)} {s' : Sr} {M : Nat} (hC : Cut (srA F) s') (hM : s'.sz = [(M : Int)]) : (t : Tr) → (left d i n : Nat) → (p : Int) → deepB t left = true → PlacedT F t i n → (decN s' d 0 i p).err = 0 → n ≤ M → n + needs t ≤ M
  | .mk k z w b ks, left, d, i, n, p, hd, hP, he, hn => by
    by_cases hk : k = 0
    · subst hk
      have hks := deep_null hd
      subst hks
      have h0 : needT (.mk 0 z w b []) = 0 := by unfold needT; simp [Tr.kind]
      unfold needs needsAll
      omega
    · unfold PlacedT at hP
      rcases hP with hP | ⟨h0, rfl⟩ | ⟨hf, hlen, hP⟩
      · exact absurd hP hk
      · unfold needs needsAll; omega
      · obtain ⟨c1, c2, c3, c4, c5, c6, c7, c8, c9⟩ := thing_counts hd hk 0 n
        have hfo : followO s' 0 i = (thingO (nearP (.mk k z w b ks) 0) ((0 : Nat) : Int) n, 0) := by
          rcases hC.follow 0 i with e | e
          · exfalso
            rw [dec_bad (by rw [e]; decide) p d] at he
            exact twenty e he
          · exact e.trans hf
        have hw : n + needT (.mk k z w b ks) ≤ M := by
          have h1 : (checkO s' (targetO s' 0 i)) = (thingO (nearP (.mk k z w b ks) 0) ((0 : Nat) : Int) n, 0) := hfo
          unfold checkO at h1
          split at h1
          · exact absurd (congrArg (fun x => x.1.kind) h1) (by rw [c1]; exact fun e => hk e.symm)
          · split at h1
            · exact absurd (congrArg (fun x => x.1.kind) h1) (by rw [c1]; exact fun e => hk e.symm)
            · split at h1
              · rename_i h2
                have h3 : (targetO s' 0 i).1 = thingO (nearP (.mk k z w b ks) 0) ((0 : Nat) : Int) n := congrArg (fun x => x.1) h1
                rw [h3, c3, c4, c8, hM] at h2
                have := within_cut h2
                omega
              · exact (twenty (x := 20) rfl (congrArg (fun x => x.2) h1)).elim
        unfold needs
        cases d with
        | zero =>
          exfalso
          unfold decN at he
          rw [hfo] at he
          rw [if_neg (by simp), if_pos (by rw [c1]; exact hk)] at he
          have he' : (21 : Int) = 0 := he
          omega
        | succ d =>
          unfold decN at he
          rw [hfo, c1, c7, c3] at he
          simp only [ne_eq, not_true_eq_false, if_false] at he
          split at he
          · have he' : (22 : Int) = 0 := he
            omega
          try rw [if_neg hk] at he
          split at he
          · rename_i h4; exact absurd he h4
          rename_i h4
          have h5 := Decidable.of_not_not h4
          by_cases hks : ks = []
          · subst hks; unfold needsAll; omega
          · rw [c9 hks] at h5
            have := places_end hC hM ks (left - 1) d (n + (w ++ wordsB b).length) (n + needT (.mk k z w b ks)) _ (deepAll_of hd hk) hP (by have h6 := h5; push_cast at h6 ⊢; exact h6) hw
            omega
theorem places_end {F : List (List Int)} {s' : Sr} {M : Nat} (hC : Cut (srA F) s') (hM : s'.sz = [(M : Int)]) : (r : List Tr) → (left d p n : Nat) → (paid : Int) → deepAll r left = true → PlacedAll F r p n → (decKids (decN s' d) r.length 0 p paid).1 = 0 → n ≤ M → n + needsAll r ≤ M
  | [], _, _, _, _, _, _, _, _, hn => by unfold needsAll; omega
  | t :: r, left, d, p, n, paid, hd, hP, he, hn => by
    unfold deepAll at hd
    simp only [Bool.and_eq_true] at hd
    unfold PlacedAll at hP
    rw [List.length_cons] at he
    unfold decKids at he
    split at he
    · rename_i h4; exact absurd he h4
    · rename_i h4
      have h5 := Decidable.of_not_not h4
      have h1 := place_ends hC hM t left d p n paid hd.1 hP.1 h5 hn
      have h2 := places_end hC hM r left d (p + 1) (n + needs t) _ hd.2 hP.2 (by push_cast; exact he) h1
      unfold needsAll
      omega
end

theorem layAll_same {sz : Nat} (hsz : sz ≤ 4096) : (r : List Tr) → (left : Nat) → (l : List Int) → (p j : Nat) → deepAll r left = true → l.length + needsAll r ≤ sz → p + r.length ≤ l.length → j < l.length → ¬ (p ≤ j ∧ j < p + r.length) →
    ∃ l', layAll sz r ⟨[l], false⟩ 0 p = ⟨[l'], false⟩ ∧ l'.length = l.length + needsAll r ∧ l'[j]? = l[j]?
  | [], _, l, _, _, _, _, _, _, _ => by
    unfold layAll needsAll
    exact ⟨l, rfl, rfl, rfl⟩
  | t :: r, left, l, p, j, h, hl, hp, hj, hn => by
    unfold deepAll at h
    simp only [Bool.and_eq_true] at h
    unfold needsAll at hl ⊢
    rw [List.length_cons] at hp hn
    obtain ⟨l1, e1, -, e2, e3⟩ := lay_keep hsz (j := j) (v := 0) t left l p h.1 (by omega) hj (by omega) (by omega)
    obtain ⟨l2, e4, e5, e6⟩ := layAll_same hsz r left l1 (p + 1) j h.2 (by omega) (by omega) (by omega) (by omega)
    unfold layAll
    rw [e1]
    exact ⟨l2, e4, by omega, e6.trans e3⟩
mutual
theorem lay_placed {sz : Nat} (hsz : sz ≤ 4096) : (t : Tr) → (left : Nat) → (l : List Int) → (i : Nat) → deepB t left = true → l.length + needs t ≤ sz → i < l.length → (l' L : List Int) → lay sz t ⟨[l], false⟩ 0 i = ⟨[l'], false⟩ →
    l'.length ≤ L.length → (∀ j, (l.length ≤ j ∧ j < l'.length ∨ j = i) → L[j]? = l'[j]?) → PlacedT [L] t i l.length
  | .mk k z w b ks, left, l, i, h, hl, hi, l', L, he, hL, hF => by
    unfold PlacedT
    by_cases hk : k = 0
    · exact .inl hk
    right
    obtain ⟨hk2, hc, hks⟩ := need_one h hk
    by_cases hn : needT (.mk k z w b ks) = 0
    · exact .inl ⟨hn, List.eq_nil_of_length_eq_zero (by omega)⟩
    right
    unfold needs at hl
    have hlen : (w ++ wordsB b).length + ks.length = needT (.mk k z w b ks) := by
      rw [← hc]
      unfold contentT
      simp [Tr.words, Tr.bytes, Tr.kids]
      omega
    rw [lay_some 0 i hk rfl hn, lay_st_one l i hc hsz (by omega)] at he
    dsimp only at he
    obtain ⟨l1, hl1⟩ : ∃ l1, l1 = l.set i (nearW (.mk k z w b ks) ((l.length : Int) - i - 1)) ++ contentT (.mk k z w b ks) := ⟨_, rfl⟩
    have h1 : l1.length = l.length + needT (.mk k z w b ks) := by rw [hl1, List.length_append, List.length_set, hc]
    have hP : l.length + needT (.mk k z w b ks) - ks.length = l.length + (w ++ wordsB b).length := by omega
    rw [← hl1, hP] at he
    obtain ⟨l2, e1, e2, e3⟩ := layAll_same hsz ks (left - 1) l1 (l.length + (w ++ wordsB b).length) i (deepAll_of h hk) (by omega) (by omega) (by omega) (by omega)
    rw [e1] at he
    have he2 : l2 = l' := by
      injection he with he1 he2
      injection he1
    subst he2
    refine ⟨?_, by omega, ?_⟩
    · have hh : Has [L] 0 i (nearW (.mk k z w b ks) ((l.length : Int) - i - 1)) := by
        show L[i]? = some _
        rw [hF i (.inr rfl), e3, hl1, List.getElem?_append_left (by rw [List.length_set]; exact hi), List.getElem?_set_self hi]
      exact found_near h hk (by omega) (by omega) (by omega) (fun e => absurd e hn) hh (by show l.length + needT (.mk k z w b ks) ≤ L.length; omega)
    · rw [← h1]
      exact layAll_placed hsz ks (left - 1) l1 _ (deepAll_of h hk) (by omega) (by omega) l2 L e1 hL (fun j hj => hF j (.inl (by omega)))
theorem layAll_placed {sz : Nat} (hsz : sz ≤ 4096) : (r : List Tr) → (left : Nat) → (l : List Int) → (p : Nat) → deepAll r left = true → l.length + needsAll r ≤ sz → p + r.length ≤ l.length → (l' L : List Int) → layAll sz r ⟨[l], false⟩ 0 p = ⟨[l'], false⟩ →
    l'.length ≤ L.length → (∀ j, (l.length ≤ j ∧ j < l'.length ∨ p ≤ j ∧ j < p + r.length) → L[j]? = l'[j]?) → PlacedAll [L] r p l.length
  | [], _, _, _, _, _, _, _, _, _, _, _ => by unfold PlacedAll; trivial
  | t :: r, left, l, p, h, hl, hp, l', L, he, hL, hF => by
    unfold deepAll at h
    simp only [Bool.and_eq_true] at h
    unfold needsAll at hl
    rw [List.length_cons] at hp hF
    unfold layAll at he
    obtain ⟨l1, e1, e2⟩ := lay_one hsz t left l p h.1 (by omega)
    rw [e1] at he
    obtain ⟨l2, e3, e4⟩ := layAll_one hsz r left l1 (p + 1) h.2 (by omega)
    have he2 : l2 = l' := by
      rw [e3] at he
      injection he with he1 he2
      injection he1
    subst he2
    unfold PlacedAll
    refine ⟨lay_placed hsz t left l p h.1 (by omega) (by omega) l1 L e1 (by omega) (fun j hj => ?_), ?_⟩
    · rw [hF j (by omega)]
      obtain ⟨l3, f1, -, f3⟩ := layAll_same hsz r left l1 (p + 1) j h.2 (by omega) (by omega) (by omega) (by omega)
      rw [e3] at f1
      injection f1 with f1 _
      injection f1 with f1
      subst f1
      exact f3
    · rw [← e2]
      exact layAll_placed hsz r left l1 (p + 1) h.2 (by omega) (by omega) l2 L e3 hL (fun j hj => hF j (by omega))
end

end Go.Proofs.YtmmlfnblodfjbaaGreatDoor

namespace Go.Proofs.YtmmlfnblodfjbaaGreatDoor

theorem one_within {m : Nat} {g a n : Int} (h : withinB [(m : Int)] g a n = true) : g = 0 ∧ 0 ≤ a ∧ 0 ≤ n ∧ a + n ≤ m := by
  have := of_decide_eq_true h
  simp at this
  have h0 : g = 0 := by omega
  subst h0
  simp at this
  omega
theorem within_one {m : Nat} {a n : Int} (h1 : 0 ≤ a) (h2 : 0 ≤ n) (h3 : a + n ≤ m) : withinB [(m : Int)] 0 a n = true := by
  refine decide_eq_true ?_
  simp
  omega
theorem cut_one (l : List Int) : Cut (srA [l]) (srA [l.dropLast]) := by
  have hl : l.dropLast.length ≤ l.length := by rw [List.length_dropLast]; omega
  have hw : ∀ g a n, withinB (sizesL [l.dropLast]) g a n = true → withinB (sizesL [l]) g a n = true := fun g a n h => by
    obtain ⟨rfl, h1, h2, h3⟩ := one_within (m := l.dropLast.length) h
    exact within_one (m := l.length) h1 h2 (by omega)
  refine ⟨fun g a => ?_, hw⟩
  show wordE7 [l.dropLast] g a = 20 ∨ (wordE7 [l.dropLast] g a = wordE7 [l] g a ∧ wordA [l.dropLast] g a = wordA [l] g a)
  unfold wordE7 wordA
  by_cases h : withinB (sizesL [l.dropLast]) g a 1 = true
  · right
    rw [if_pos h, if_pos h, if_pos (hw _ _ _ h), if_pos (hw _ _ _ h)]
    refine ⟨rfl, ?_⟩
    obtain ⟨rfl, h1, h2, h3⟩ := one_within (m := l.dropLast.length) h
    show l.dropLast[a.toNat]?.getD 0 = l[a.toNat]?.getD 0
    rw [List.getElem?_dropLast, if_pos (by rw [List.length_dropLast] at h3; omega)]
  · left
    rw [if_neg h]
theorem fits_one11 {l : List Int} (h1 : 1 ≤ l.length) (h2 : l.length ≤ 4096) : fitsL (sizesL [l]) = true := by
  unfold fitsL sizesL
  refine decide_eq_true ?_
  simp
  omega
/-- what was built and lacks its last word -/
theorem check_last {t : Tr} (hr : rightT t = true) (hn : 1 + needs t ≤ 4096) (h0 : 1 ≤ needs t) (hb : BytesT t) (hc : totalT t ≤ 8192) :
    ∃ l, buildT t 4096 = ([l], 0) ∧ l.length = 1 + needs t ∧ checkT [l] = 0 ∧ checkT [l.dropLast] = 20 := by
  obtain ⟨l, a1, a2⟩ := lay_one (sz := 4096) (by omega) t 32 [0] 0 hr (by simp only [List.length_cons, List.length_nil]; omega)
  have hbu : buildT t 4096 = ([l], 0) := by
    have := build_of (z := 4096) (sz := 4096) hr rfl (by omega) (by omega) a1
    rw [this]
    rfl
  have hlen : l.length = 1 + needs t := by rw [a2]; simp only [List.length_cons, List.length_nil]
  have hd : decodeT [l] = (t, 0) := by
    have := build_back (z := 4096) (by rw [hbu]) hb hc
    rw [hbu] at this
    exact this
  refine ⟨l, hbu, hlen, check_yes11 hd hr, ?_⟩
  have hP : PlacedT [l] t 0 1 := lay_placed (sz := 4096) (by omega) t 32 [0] 0 hr (by simp only [List.length_cons, List.length_nil]; omega) (by simp) l l a1 (Nat.le_refl _) (fun j _ => rfl)
  have hM : l.dropLast.length = needs t := by rw [List.length_dropLast]; omega
  have he0 : (decN (srA [l]) 32 0 0 0).err = 0 := by
    unfold decodeT at hd
    rw [if_pos (fits_one11 (by omega) (by omega))] at hd
    split at hd
    · rename_i h; exact absurd (congrArg (fun x => x.2) hd) h
    · rename_i h; exact Decidable.of_not_not h
  have he : (decN (srA [l.dropLast]) 32 0 0 0).err = 20 := by
    rcases cut_dec (cut_one l) 32 0 0 0 with e | ⟨e, -⟩
    · exact e
    · exfalso
      rw [he0] at e
      have := place_ends (cut_one l) (M := needs t) (by show sizesL [l.dropLast] = _; unfold sizesL; rw [List.map_cons, List.map_nil, hM]) t 32 32 0 1 0 hr hP e h0
      omega
  have hde : decodeT [l.dropLast] = (Tr.nil, 20) := by
    unfold decodeT
    rw [if_pos (fits_one11 (by omega) (by omega)), he]
    rfl
  unfold checkT
  rw [hde]
  decide

end Go.Proofs.YtmmlfnblodfjbaaGreatDoor

namespace Go.Proofs.YtmmlfnblodfjbaaGreatDoor

def wrapT : Nat → Tr → Tr
  | 0, x => x
  | m+1, x => .mk 1 0 [] [] [wrapT m x]
def baseT (t : Tr) : Tr := .mk 1 0 (List.replicate 100 0) [] [t]
theorem needs_kid (w : List Int) (t : Tr) : needs (.mk 1 0 w [] [t]) = w.length + 1 + needs t := by
  rw [needs, needsAll, needsAll]
  unfold needT
  simp [Tr.kind, Tr.words, Tr.kids]
theorem total_kid (w : List Int) (t : Tr) : totalT (.mk 1 0 w [] [t]) = w.length + 2 + totalT t := by
  rw [totalT, totalAll9, totalAll9]
  unfold needT
  simp [Tr.kind, Tr.words, Tr.kids]
  omega
theorem wrap_needs (x : Tr) : (m : Nat) → needs (wrapT m x) = m + needs x
  | 0 => by unfold wrapT; omega
  | m+1 => by
    have := wrap_needs x m
    unfold wrapT
    rw [needs_kid]
    simp
    omega
theorem wrap_total (x : Tr) : (m : Nat) → totalT (wrapT m x) = 2 * m + totalT x
  | 0 => by unfold wrapT; omega
  | m+1 => by
    have := wrap_total x m
    unfold wrapT
    rw [total_kid]
    simp
    omega
theorem wrap_bytes {x : Tr} (h : BytesT x) : (m : Nat) → BytesT (wrapT m x)
  | 0 => by unfold wrapT; exact h
  | m+1 => by
    unfold wrapT BytesT BytesAll BytesAll
    exact ⟨by simp, wrap_bytes h m, trivial⟩
theorem base_needs (t : Tr) : needs (baseT t) = 101 + needs t := by
  unfold baseT
  rw [needs_kid, List.length_replicate]
theorem base_total (t : Tr) : totalT (baseT t) = 102 + totalT t := by
  unfold baseT
  rw [total_kid, List.length_replicate]
theorem base_bytes {t : Tr} (h : BytesT t) : BytesT (baseT t) := by
  unfold baseT BytesT BytesAll BytesAll
  exact ⟨by simp, h, trivial⟩
/-- all that the law asks of the two arenas -/
theorem parts_all {t : Tr} {m : Nat} (hm : m ≤ 25) (hn : needs t ≤ 3000) (hc : totalT t ≤ 6000) (hb : BytesT t) :
    (buildT (wrapT m (baseT t)) 4096 = ([], 1)) ∨ (∃ l, buildT (wrapT m (baseT t)) 4096 = ([l], 0) ∧ 100 ≤ l.length ∧ l.length ≤ 4096 ∧ checkT [l] = 0 ∧ checkT [l.dropLast] = 20 ∧ checkT [l, List.replicate 4096 0] = 1 ∧ checkT [[], l] = 1) := by
  by_cases hr : rightT (wrapT m (baseT t)) = true
  · right
    obtain ⟨l, h1, h2, h3, h4⟩ := check_last hr (by rw [wrap_needs, base_needs]; omega) (by rw [wrap_needs, base_needs]; omega) (wrap_bytes (base_bytes hb) m) (by rw [wrap_total, base_total]; omega)
    rw [wrap_needs, base_needs] at h2
    exact ⟨l, h1, by omega, by omega, h3, h4, check_more (by rw [List.length_replicate]; omega), check_none _⟩
  · left
    have hr2 : rightT (wrapT m (baseT t)) = false := Bool.eq_false_iff.2 hr
    unfold buildT
    rw [if_pos (.inr (.inr hr2))]

end Go.Proofs.YtmmlfnblodfjbaaGreatDoor
