/- Plain facts for layer 11 (valid): the words that a path reads; what hangs on these words alone. No program is named here. -/
import Derived.Test.YtmmlfnblodfjbaaGreatDoorQTdPlain
import Derived.Test.YtmmlfnblodfjbaaGreatDoorQWord
import Derived.Test.YtmmlfnblodfjbaaGreatDoorQGenZ
import Derived.Test.YtmmlfnblodfjbaaGreatDoorQPlain
namespace Go.Proofs.YtmmlfnblodfjbaaGreatDoor
def farR (f : Pt) : List (Int × Int) := if f.kind = 3 then (f.seg, f.off) :: (if f.dbl = true then [(f.seg, f.off + 1)] else []) else []
def followR (s : Sr) (g a : Int) : List (Int × Int) := (g, a) :: farR (ptS s g a)
def stepR (s : Sr) (o : Ob) (k : Int) : List (Int × Int) :=
  if o.kind = 0 ∨ (o.kind = 1 ∧ o.ptrs ≤ k) then [] else followR s o.seg (o.at_ + (if o.kind = 1 then o.data else 0) + k)
def goR (s : Sr) : List Int → Ob → List (Int × Int)
  | [], _ => []
  | k :: r, o => stepR s o k ++ goR s r (nextO s o k).1
def goO (s : Sr) : List Int → Ob → Ob
  | [], o => o
  | k :: r, o => goO s r (nextO s o k).1
def endR (o : Ob) (i : Int) : List (Int × Int) :=
  if i < 0 ∨ o.kind = 0 ∨ (o.kind = 1 ∧ o.data ≤ i) then [] else [(o.seg, o.at_ + (if o.kind = 2 ∧ o.size = 2 then i / 8 else i))]
def walkR (s : Sr) (ks : List Int) (i : Int) : List (Int × Int) := followR s 0 0 ++ (goR s ks (followO s 0 0).1 ++ endR (goO s ks (followO s 0 0).1) i)
theorem goal_goO {s : Sr} : (ks : List Int) → (c : Int) → (o : Ob) → (e : Int) → (goalO s ks c (o, e)).2 = 0 → (goalO s ks c (o, e)).1 = goO s ks o ∧ e = 0
  | [], c, o, e, h => by
    unfold goalO at h ⊢
    by_cases h1 : e ≠ 0
    · rw [if_pos h1] at h; exact absurd h h1
    rw [if_neg h1] at h ⊢
    by_cases h2 : c < 1 + wordsO o
    · rw [if_pos h2] at h; exact absurd h (by decide)
    rw [if_neg h2]
    exact ⟨rfl, Decidable.of_not_not h1⟩
  | k :: r, c, o, e, h => by
    rw [goalO] at h ⊢
    by_cases h1 : e ≠ 0
    · rw [if_pos h1] at h; exact absurd h h1
    rw [if_neg h1] at h ⊢
    dsimp only at h ⊢
    by_cases h2 : c < 1 + wordsO o
    · rw [if_pos h2] at h; exact absurd h (by decide)
    rw [if_neg h2] at h ⊢
    rw [goO]
    have := goal_goO r (c - (1 + wordsO o)) (nextO s o k).1 (nextO s o k).2 h
    exact ⟨this.1, Decidable.of_not_not h1⟩
def spR (sz : List Int) (R : List (Int × Int)) : List Sp := R.filterMap (fun p => if placeI sz p.1 p.2 < 0 then none else some (placeI sz p.1 p.2, placeI sz p.1 p.2 + 1))
def touchV (ls : List (List Int)) (ks : List Int) (i : Int) : List Sp × Int :=
  if (ofV ls ks i 8192).2 ≠ 0 then ([], (ofV ls ks i 8192).2) else (normL (spR (sizesL ls) (walkR (srA ls) ks i)), 0)
theorem touch_err (ls : List (List Int)) (ks : List Int) (i : Int) : (touchV ls ks i).2 = (ofV ls ks i 8192).2 := by
  unfold touchV
  split
  · rfl
  · rename_i h
    exact (Decidable.of_not_not h).symm
theorem within_place {sz : List Int} {g a : Int} (hf : fitsL sz = true) (h : withinB sz g a 1 = true) : 0 ≤ placeI sz g a := by
  unfold placeI
  rw [if_pos ⟨hf, h⟩]
  obtain ⟨-, -, h3, -⟩ := within_at h
  have hs : ∀ x ∈ sz, 0 ≤ x := (of_decide_eq_true hf).2.2.2.1
  have := sum_nonneg (l := sz.take g.toNat) (fun x hx => hs x (List.mem_of_mem_take hx))
  omega
def InT : Tr → List Int → Prop
  | _, [] => True
  | t, k :: r => 0 ≤ k ∧ k < t.kids.length ∧ InT (t.kids[k.toNat]?.getD Tr.nil) r
theorem fullP_steps : (n : Nat) → (t : Tr) → ∀ p ∈ fullP t, p.1.length ≤ n → InT t p.1
  | n, .mk k z w b ks, p, hp, hn => by
    unfold fullP at hp
    rcases List.mem_cons.1 hp with rfl | hp
    · unfold InT; trivial
    rcases List.mem_append.1 hp with hp | hp
    · obtain ⟨i, -, rfl⟩ := List.mem_map.1 hp
      unfold InT; trivial
    · obtain ⟨j, q, -, h2, rfl, h4⟩ := fullK_head ks 0 p hp
      rw [Nat.sub_zero] at h4
      rw [Nat.zero_add] at h2
      have hn2 : q.1.length + 1 ≤ n := by
        have : (behindP (j : Int) q).1.length = q.1.length + 1 := rfl
        omega
      match n, hn2 with
      | n + 1, hn2 =>
        have := fullP_steps n _ q h4 (by omega)
        show 0 ≤ (j : Int) ∧ (j : Int) < ((Tr.mk k z w b ks).kids.length : Int) ∧ InT ((Tr.mk k z w b ks).kids[(j : Int).toNat]?.getD Tr.nil) q.1
        refine ⟨by omega, ?_, ?_⟩
        · show (j : Int) < (ks.length : Int)
          omega
        · rw [Int.toNat_natCast]
          exact this
theorem walk_inT {s : Sr} (hs : s.Good) (hF : s.Full) (i : Int) : (ks : List Int) → (d : Nat) → (g a paid : Int) → (decN s d g a paid).err = 0 → InT (decN s d g a paid).t ks → (c : Int) → (decN s d g a paid).paid - paid ≤ c →
    SameEnd s i (goalO s ks c (followO s g a)) (goT ks ((decN s d g a paid).t, 0))
  | ks, d, g, a, paid, he, hin, c, hc => by
    obtain ⟨⟨r1, r2, r3, r4⟩, -⟩ := dec_r hs d g a paid he
    have hw := wordsO_nn hs g a
    have hG := follow_good hs g a
    have hfo : followO s g a = ((followO s g a).1, 0) := Prod.ext rfl r1
    generalize (decN s d g a paid).paid = P at *
    generalize (decN s d g a paid).t = t at *
    rw [hfo]
    generalize (followO s g a).1 = o at *
    have hcc : ¬ c < 1 + wordsO o := by omega
    cases ks with
    | nil =>
      rw [goalO_stop s c o hcc]
      show SameEnd s i (o, 0) (t, 0)
      rcases r4 with ⟨h1, rfl⟩ | ⟨h1, d', l, rfl, rfl, hl, -⟩
      · have ho : o = Ob.zero := by
          rcases hG with e | ⟨e, -⟩
          · exact e
          · omega
        rw [ho]
        exact same_nil s i
      · exact ⟨rfl, fun _ => end_same hF hG h1 l hl i⟩
    | cons k r =>
      unfold InT at hin
      obtain ⟨hk0, hkl, hin⟩ := hin
      rw [goalO_on s k r c o hcc, goT_on]
      rcases r4 with ⟨h1, rfl⟩ | ⟨h1, d', l, rfl, rfl, hl, hkid⟩
      · have : (Tr.nil.kids.length : Int) = 0 := rfl
        omega
      · obtain ⟨hp, hwi⟩ := good_parts hG h1
        have hkl2 : k < (l.length : Int) := hkl
        have hin2 : InT (l[k.toNat]?.getD Tr.nil) r := hin
        obtain ⟨p, q1, q2, q3, q4⟩ := hkid k.toNat (by omega)
        rw [Int.toNat_of_nonneg hk0] at q1 q2 q4
        have hst : stepT (.mk o.kind o.size (wordsF s o) (bytesF s o) l) k = if o.kind = 0 ∨ (o.kind = 1 ∧ (l.length : Int) ≤ k) then (Tr.nil, 0) else if o.kind ≠ 1 ∧ o.size ≠ 6 then (Tr.nil, 23) else if (l.length : Int) ≤ k then (Tr.nil, 20) else (l[k.toNat]?.getD Tr.nil, 0) := rfl
        have fin : nextO s o k = followO s o.seg (kidsA o + k) → stepT (.mk o.kind o.size (wordsF s o) (bytesF s o) l) k = (l[k.toNat]?.getD Tr.nil, 0) → SameEnd s i (goalO s r (c - (1 + wordsO o)) (nextO s o k)) (goT r (stepT (.mk o.kind o.size (wordsF s o) (bytesF s o) l) k)) := fun e1 e2 => by
          rw [← q2] at hin2
          rw [e1, e2, ← q2]
          exact walk_inT hs hF i r d' o.seg (kidsA o + k) p q1 hin2 (c - (1 + wordsO o)) (by omega)
        rcases hp with ⟨h2, h3, h4, h5, h6, -⟩ | ⟨h2, h3, h4, h5, h6⟩
        · have hn : l.length = o.ptrs.toNat := by rw [hl]; unfold nKids; rw [if_neg (by omega)]
          refine fin ?_ ?_
          · unfold nextO kidsA
            rw [if_neg (by omega), if_pos h2, if_pos h2]
          · rw [hst, if_neg (by omega), if_neg (by omega), if_neg (by omega)]
        · by_cases h66 : o.size = 6
          · have hn : l.length = o.count.toNat := by rw [hl]; unfold nKids; rw [if_pos ⟨h2, h66⟩]
            refine fin ?_ ?_
            · unfold nextO kidsA
              rw [if_neg (by omega), if_neg (by omega), if_neg (by omega), if_neg (by omega), if_neg (by omega)]
            · rw [hst, if_neg (by omega), if_neg (by omega), if_neg (by omega)]
          · have hn : l.length = o.ptrs.toNat := by rw [hl]; unfold nKids; rw [if_neg (fun e => h66 e.2)]
            omega
  termination_by ks => ks.length
theorem of_in {ls : List (List Int)} (hg : (srA ls).Good) (hd : (decodeT ls).2 = 0) {ks : List Int} (hin : InT (decodeT ls).1 ks) (i : Int) : ofV ls ks i 8192 = askT (decodeT ls).1 ks i := by
  unfold decodeT at hd hin ⊢
  unfold ofV
  by_cases hf : fitsL (sizesL ls) = true
  · rw [if_pos hf] at hd hin ⊢
    rw [if_pos hf]
    by_cases he : (decN (srA ls) 32 0 0 0).err ≠ 0
    · rw [if_pos he] at hd
      exact absurd hd he
    rw [if_neg he] at hin ⊢
    obtain ⟨⟨-, -, h3, -⟩, -⟩ := dec_r hg 32 0 0 0 (Decidable.of_not_not he)
    unfold walkV askT
    show (if negs ks = true then (Va.zero, (1 : Int)) else _) = _
    by_cases hn : negs ks = true
    · rw [if_pos hn, if_pos hn]
    rw [if_neg hn, if_neg hn]
    by_cases hl : 32 < ks.length
    · rw [if_pos hl, if_pos hl]
    rw [if_neg hl, if_neg hl]
    obtain ⟨s1, s2⟩ := walk_inT hg (srA_full ls) i ks 32 0 0 0 (Decidable.of_not_not he) hin 8192 (by omega)
    by_cases h2 : (goT ks ((decN (srA ls) 32 0 0 0).t, 0)).2 ≠ 0
    · rw [if_pos h2, if_pos (by rw [s1]; exact h2), s1]
    · rw [if_neg h2, if_neg (by rw [s1]; exact h2)]
      exact s2 (Decidable.of_not_not h2)
  · rw [if_neg hf] at hd
    exact absurd hd (by decide)
theorem whole_path {ls : List (List Int)} (hg : (srA ls).Good) (hd : (decodeT ls).2 = 0) (hr : rightT (decodeT ls).1 = true) {p : List Int × Int} (hp : p ∈ fullP (decodeT ls).1) :
    ofV ls p.1 p.2 8192 = askT (decodeT ls).1 p.1 p.2 ∧ (askT (decodeT ls).1 p.1 p.2).2 = 0 ∧ (touchV ls p.1 p.2).2 = 0 := by
  obtain ⟨h1, h2⟩ := fullP_leads 32 _ hr p hp
  have h3 := of_in hg hd (fullP_steps _ _ p hp (Nat.le_refl _)) p.2
  have h4 := (leads_ask h1 h2).1
  exact ⟨h3, h4, by rw [touch_err, h3, h4]⟩
def checkT (ls : List (List Int)) : Int := if (decodeT ls).2 ≠ 0 then (decodeT ls).2 else if rightT (decodeT ls).1 = true then 0 else 23
def equalT (a b : List (List Int)) : Bool := decide (checkT a = 0) && (decide (checkT b = 0) && sameT (decodeT a).1 (decodeT b).1)
mutual
theorem same11_refl : (t : Tr) → sameT t t = true
  | .mk k z w b ks => by
    unfold sameT
    rw [sameAll11_refl ks]
    simp
theorem sameAll11_refl : (l : List Tr) → sameAll l l = true
  | [] => rfl
  | t :: r => by
    unfold sameAll
    rw [same11_refl t, sameAll11_refl r]
    rfl
end
theorem check_yes11 {ls : List (List Int)} {t : Tr} (hd : decodeT ls = (t, 0)) (hr : rightT t = true) : checkT ls = 0 := by
  unfold checkT
  rw [hd, if_neg (by simp), if_pos hr]
theorem check_zero {ls : List (List Int)} (h : checkT ls = 0) : (decodeT ls).2 = 0 ∧ rightT (decodeT ls).1 = true := by
  unfold checkT at h
  by_cases h1 : (decodeT ls).2 ≠ 0
  · rw [if_pos h1] at h; exact absurd h h1
  rw [if_neg h1] at h
  by_cases h2 : rightT (decodeT ls).1 = true
  · exact ⟨Decidable.of_not_not h1, h2⟩
  · rw [if_neg h2] at h; exact absurd h (by decide)
theorem equal_of {a b : List (List Int)} {t : Tr} (ha : decodeT a = (t, 0)) (hb : decodeT b = (t, 0)) (hr : rightT t = true) : equalT a b = true := by
  unfold equalT
  rw [check_yes11 ha hr, check_yes11 hb hr, ha, hb, same11_refl]
  rfl
def seven11 : Tr := .mk 1 0 [7] [] []
theorem seven11_build : buildT seven11 9 = ([[4294967296, 7]], 0) := by decide
theorem seven11_decode : decodeT [[4294967296, 7]] = (seven11, 0) := by
  have h := build_back (t := seven11) (z := 9) (by rw [seven11_build]) (by unfold seven11 BytesT; simp [BytesAll]) (by decide)
  rw [seven11_build] at h
  exact h
theorem seven11_check : checkT [[4294967296, 7]] = 0 := check_yes11 seven11_decode (by decide)
theorem seven11_equal : equalT [[4294967296, 7]] [[4294967296, 7]] = true := equal_of seven11_decode seven11_decode (by decide)
theorem nil11_check : checkT [] = 1 := by
  have h : decodeT [] = (Tr.nil, 1) := rfl
  unfold checkT
  rw [h, if_pos (by decide)]
theorem seven11_touch : touchV [[4294967296, 7]] [] 0 = ([(0, 2)], 0) := by decide
end Go.Proofs.YtmmlfnblodfjbaaGreatDoor
