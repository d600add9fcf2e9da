/-
  Plain facts for layer 9 (read): what a word leads to, and a path, in whatever source. No program is named here.
-/
import Derived.Test.YtdfldfnjjjcleaaDoorZPlain
import Derived.Test.YtdfldfnjjjcleaaDoorZAr
import Derived.Test.YtdfldfnjjjcleaaDoorZWord

namespace Go.Proofs.YtdfldfnjjjcleaaDoor

/-- something in an arena -/
structure Ob where
  kind : Int
  seg : Int
  at_ : Int
  data : Int
  ptrs : Int
  size : Int
  count : Int
def Ob.zero : Ob := ⟨0, 0, 0, 0, 0, 0, 0⟩
def ptrO (o : Ob) : Pt := ⟨o.kind, 0, o.data, o.ptrs, o.size, o.count, 0, false⟩
def thingO (p : Pt) (g a : Int) : Ob := ⟨p.kind, g, a, p.data, p.ptrs, p.size, p.count⟩
def wordsO (o : Ob) : Int := wordN (ptrO o)

/-- a source: its words, their errors, its sizes -/
structure Sr where
  wd : Int → Int → Int
  we : Int → Int → Int
  sz : List Int
structure Sr.Good (s : Sr) : Prop where
  wd : ∀ g a, 0 ≤ s.wd g a ∧ s.wd g a ≤ 18446744073709551615
  we : ∀ g a, 0 ≤ s.we g a ∧ s.we g a ≤ 65535
  sz : All64 s.sz
  len : s.sz.length ≤ 1000000000

/-- the pointer that a word is -/
def ptS (s : Sr) (g a : Int) : Pt := decP (s.wd g a)
/-- the error of one pointer, and of two -/
def ptE (s : Sr) (g a : Int) : Int := if s.we g a ≠ 0 then s.we g a else decE (s.wd g a)
def ptE2 (s : Sr) (g a : Int) : Int := if s.we g a ≠ 0 then s.we g a else if s.we g (a + 1) ≠ 0 then s.we g (a + 1) else if decE (s.wd g a) ≠ 0 then decE (s.wd g a) else decE (s.wd g (a + 1))

def nearA (p : Pt) (a : Int) : Int := if -9223372036854775808 ≤ a + (p.off + 1) ∧ a + (p.off + 1) ≤ 9223372036854775807 then a + (p.off + 1) else -1
def nearO (p : Pt) (g a : Int) : Ob := thingO p g (nearA p a)
def landed1 (s : Sr) (f : Pt) : Ob × Int :=
  if ptE s f.seg f.off ≠ 0 then (Ob.zero, ptE s f.seg f.off)
  else if (ptS s f.seg f.off).kind ≠ 1 ∧ (ptS s f.seg f.off).kind ≠ 2 then (Ob.zero, 23)
  else (nearO (ptS s f.seg f.off) f.seg f.off, 0)
def landed2 (s : Sr) (f : Pt) : Ob × Int :=
  if ptE2 s f.seg f.off ≠ 0 then (Ob.zero, ptE2 s f.seg f.off)
  else if (ptS s f.seg (f.off + 1)).kind ≠ 1 ∧ (ptS s f.seg (f.off + 1)).kind ≠ 2 then (Ob.zero, 23)
  else if (ptS s f.seg f.off).kind ≠ 3 ∨ (ptS s f.seg f.off).dbl = true ∨ (ptS s f.seg (f.off + 1)).off ≠ 0 then (Ob.zero, 23)
  else (thingO (ptS s f.seg (f.off + 1)) (ptS s f.seg f.off).seg (ptS s f.seg f.off).off, 0)
def landedO (s : Sr) (f : Pt) : Ob × Int := if f.dbl = true then landed2 s f else landed1 s f
def targetO (s : Sr) (g a : Int) : Ob × Int :=
  if ptE s g a ≠ 0 then (Ob.zero, ptE s g a)
  else if (ptS s g a).kind = 0 then (Ob.zero, 0)
  else if (ptS s g a).kind = 3 then landedO s (ptS s g a)
  else (nearO (ptS s g a) g a, 0)
def checkO (s : Sr) (t : Ob × Int) : Ob × Int :=
  if t.2 ≠ 0 ∨ t.1.kind = 0 then (Ob.zero, t.2)
  else if wordE (ptrO t.1) ≠ 0 then (Ob.zero, wordE (ptrO t.1))
  else if withinB s.sz t.1.seg t.1.at_ (wordsO t.1) = true then (t.1, 0)
  else (Ob.zero, 20)
def followO (s : Sr) (g a : Int) : Ob × Int := checkO s (targetO s g a)

def nextO (s : Sr) (o : Ob) (k : Int) : Ob × Int :=
  if o.kind = 0 ∨ (o.kind = 1 ∧ o.ptrs ≤ k) then (Ob.zero, 0)
  else if o.kind = 1 then followO s o.seg (o.at_ + o.data + k)
  else if o.size ≠ 6 then (Ob.zero, 23)
  else if o.count ≤ k then (Ob.zero, 20)
  else followO s o.seg (o.at_ + k)
def goalO (s : Sr) : List Int → Int → Ob × Int → Ob × Int
  | [], c, t => if t.2 ≠ 0 then (Ob.zero, t.2) else if c < 1 + wordsO t.1 then (Ob.zero, 22) else (t.1, 0)
  | k :: r, c, t => if t.2 ≠ 0 then (Ob.zero, t.2) else if c < 1 + wordsO t.1 then (Ob.zero, 22) else goalO s r (c - (1 + wordsO t.1)) (nextO s t.1 k)

/-- what a path leads to -/
structure Va where
  kind : Int
  size : Int
  words : Int
  kids : Int
  word : Int
def Va.zero : Va := ⟨0, 0, 0, 0, 0⟩
def shapeV (o : Ob) : Va := if o.kind = 1 then ⟨o.kind, o.size, o.data, o.ptrs, 0⟩ else if o.size = 6 then ⟨o.kind, o.size, 0, o.count, 0⟩ else ⟨o.kind, o.size, o.count, 0, 0⟩
def numW (s : Sr) (o : Ob) (i : Int) : Int × Int :=
  if o.kind = 0 ∨ (o.kind = 1 ∧ o.data ≤ i) then (0, 0)
  else if o.kind = 1 then (s.wd o.seg (o.at_ + i), s.we o.seg (o.at_ + i))
  else if o.size = 6 then (0, 23)
  else if o.count ≤ i then (0, 20)
  else if o.size = 5 then (s.wd o.seg (o.at_ + i), s.we o.seg (o.at_ + i))
  else (s.wd o.seg (o.at_ + i / 8) / 2 ^ (8 * (i % 8).toNat) % 256, s.we o.seg (o.at_ + i / 8))
def endV (s : Sr) (o : Ob) (i : Int) : Va × Int :=
  if i < 0 then (shapeV o, 0) else if (numW s o i).2 ≠ 0 then (Va.zero, (numW s o i).2) else (⟨o.kind, 0, 0, 0, (numW s o i).1⟩, 0)
def walkV (s : Sr) (ks : List Int) (i c : Int) : Va × Int :=
  if ks.any (fun k => decide (k < 0)) = true then (Va.zero, 1)
  else if 32 < ks.length then (Va.zero, 3)
  else if (goalO s ks c (followO s 0 0)).2 ≠ 0 then (Va.zero, (goalO s ks c (followO s 0 0)).2)
  else endV s (goalO s ks c (followO s 0 0)).1 i

/-! ### what is followed lies there -/
/-- what Words is asked of -/
def OkQ (p : Pt) : Prop := OkP p ∨ p = ⟨1, 0, 0, 0, 0, 0, 0, false⟩
def NearK (p : Pt) : Prop := p.kind = 1 ∨ p.kind = 2
theorem okq_dec {p : Pt} (h : OkP p) (hk : NearK p) (g a : Int) : OkQ (ptrO (thingO p g a)) := by
  obtain ⟨k, o, d, r, s, c, sg, b⟩ := p
  unfold thingO ptrO
  dsimp only
  rcases h with e | ⟨e, h1, h2, h3, h4, h5, h6, h7, h8⟩ | ⟨e, h1, h2, h3, h4, h5, h6, h7⟩ | ⟨e, h1, h2, h3, h4, h5, h6⟩
  · cases e
    rcases hk with hk | hk <;> exact absurd hk (by decide)
  · dsimp only at e h2 h3 h4 h5
    subst e h4 h5
    by_cases hz : d = 0 ∧ r = 0
    · obtain ⟨rfl, rfl⟩ := hz
      exact .inr rfl
    · refine .inl (.inr (.inl ⟨rfl, by dsimp only; omega, h2, h3, rfl, rfl, rfl, rfl, ?_⟩))
      dsimp only
      omega
  · dsimp only at e h2 h3 h4 h5
    subst e h2 h3
    exact .inl (.inr (.inr (.inl ⟨rfl, by dsimp only; omega, rfl, rfl, h4, h5, rfl, rfl⟩)))
  · dsimp only at e
    subst e
    rcases hk with hk | hk <;> exact absurd hk (by simp)
/-- what Follow tells -/
def GoodO (sz : List Int) (o : Ob) : Prop := o = Ob.zero ∨ ((o.kind = 1 ∨ o.kind = 2) ∧ OkQ (ptrO o) ∧ wordE (ptrO o) = 0 ∧ withinB sz o.seg o.at_ (wordsO o) = true)
theorem okq_zero : OkQ (ptrO Ob.zero) := .inl (.inl rfl)
theorem GoodO.okq {sz : List Int} {o : Ob} (h : GoodO sz o) : OkQ (ptrO o) := by
  rcases h with rfl | ⟨-, h, -⟩
  · exact okq_zero
  · exact h
theorem okq_bd {p : Pt} (h : OkQ p) : (0 ≤ p.data ∧ p.data ≤ 65535) ∧ (0 ≤ p.ptrs ∧ p.ptrs ≤ 65535) ∧ (0 ≤ p.size ∧ p.size ≤ 7) ∧ (0 ≤ p.count ∧ p.count ≤ 536870911) ∧ (p.kind = 0 ∨ p.kind = 1 ∨ p.kind = 2 ∨ p.kind = 3) := by
  rcases h with (rfl | ⟨h1, h2, h3, h4, h5, h6, h7, h8, -⟩ | ⟨h1, h2, h3, h4, h5, h6, h7, h8⟩ | ⟨h1, h2, h3, h4, h5, h6, h7⟩) | rfl
  · decide
  · omega
  · omega
  · omega
  · decide
theorem wordN_bd {p : Pt} (h : OkQ p) : 0 ≤ wordN p ∧ wordN p ≤ 536870911 := by
  obtain ⟨a, b, c, d, -⟩ := okq_bd h
  unfold wordN
  repeat' split
  all_goals omega
/-- within: what is there -/
theorem within_at {sz : List Int} {g a n : Int} (h : withinB sz g a n = true) : 0 ≤ g ∧ g < sz.length ∧ 0 ≤ a ∧ 0 ≤ n ∧ a + n ≤ sz[g.toNat]?.getD 0 := by
  unfold withinB at h
  have h := of_decide_eq_true h
  obtain ⟨h1, h2, h3, h4, h5, h6⟩ := h
  exact ⟨h1, h2, h3, h4, by omega⟩
theorem GoodO.bd {s : Sr} (hs : s.Good) {o : Ob} (h : GoodO s.sz o) : In64 o.seg ∧ 0 ≤ o.at_ ∧ o.at_ + wordsO o ≤ 9223372036854775807 := by
  rcases h with rfl | ⟨-, -, -, h⟩
  · exact ⟨⟨by decide, by decide⟩, by decide, by decide⟩
  · obtain ⟨h1, h2, h3, h4, h5⟩ := within_at h
    have hb := hs.sz.at_ o.seg.toNat
    have hl := hs.len
    exact ⟨⟨by omega, by omega⟩, h3, by have := hb.2; omega⟩
theorem check_good {s : Sr} {t : Ob × Int} (hk : t.2 = 0 → t.1.kind ≠ 0 → OkQ (ptrO t.1) ∧ (t.1.kind = 1 ∨ t.1.kind = 2)) : GoodO s.sz (checkO s t).1 := by
  unfold checkO
  by_cases h1 : t.2 ≠ 0 ∨ t.1.kind = 0
  · rw [if_pos h1]; exact .inl rfl
  rw [if_neg h1]
  by_cases h2 : wordE (ptrO t.1) ≠ 0
  · rw [if_pos h2]; exact .inl rfl
  rw [if_neg h2]
  by_cases h3 : withinB s.sz t.1.seg t.1.at_ (wordsO t.1) = true
  · rw [if_pos h3]
    obtain ⟨a, b⟩ := hk (Decidable.of_not_not fun e => h1 (.inl e)) (fun e => h1 (.inr e))
    exact .inr ⟨b, a, Decidable.of_not_not h2, h3⟩
  · rw [if_neg h3]; exact .inl rfl
theorem ptS_ok {s : Sr} (hs : s.Good) (g a : Int) : OkP (ptS s g a) := dec_ok (hs.wd g a).1 (by have := (hs.wd g a).2; omega)
/-- a target is a thing, if it is told without an error -/
theorem target_ok {s : Sr} (hs : s.Good) (g a : Int) (_h0 : (targetO s g a).2 = 0) (hk : (targetO s g a).1.kind ≠ 0) : OkQ (ptrO (targetO s g a).1) ∧ ((targetO s g a).1.kind = 1 ∨ (targetO s g a).1.kind = 2) := by
  have hp := ptS_ok hs
  have hd := fun x y => (okq_bd (.inl (hp x y))).2.2.2.2
  unfold targetO at hk ⊢
  by_cases e1 : ptE s g a ≠ 0
  · rw [if_pos e1] at hk; exact absurd rfl hk
  rw [if_neg e1] at hk ⊢
  by_cases e2 : (ptS s g a).kind = 0
  · rw [if_pos e2] at hk; exact absurd rfl hk
  rw [if_neg e2] at hk ⊢
  by_cases e3 : (ptS s g a).kind = 3
  · rw [if_pos e3] at hk ⊢
    generalize ptS s g a = f at *
    unfold landedO at hk ⊢
    by_cases e4 : f.dbl = true
    · rw [if_pos e4] at hk ⊢
      unfold landed2 at hk ⊢
      by_cases e5 : ptE2 s f.seg f.off ≠ 0
      · rw [if_pos e5] at hk; exact absurd rfl hk
      rw [if_neg e5] at hk ⊢
      by_cases e6 : (ptS s f.seg (f.off + 1)).kind ≠ 1 ∧ (ptS s f.seg (f.off + 1)).kind ≠ 2
      · rw [if_pos e6] at hk; exact absurd rfl hk
      rw [if_neg e6] at hk ⊢
      by_cases e7 : (ptS s f.seg f.off).kind ≠ 3 ∨ (ptS s f.seg f.off).dbl = true ∨ (ptS s f.seg (f.off + 1)).off ≠ 0
      · rw [if_pos e7] at hk; exact absurd rfl hk
      rw [if_neg e7] at hk ⊢
      have hn : NearK (ptS s f.seg (f.off + 1)) := by unfold NearK; omega
      exact ⟨okq_dec (hp _ _) hn _ _, hn⟩
    · rw [if_neg e4] at hk ⊢
      unfold landed1 at hk ⊢
      by_cases e5 : ptE s f.seg f.off ≠ 0
      · rw [if_pos e5] at hk; exact absurd rfl hk
      rw [if_neg e5] at hk ⊢
      by_cases e6 : (ptS s f.seg f.off).kind ≠ 1 ∧ (ptS s f.seg f.off).kind ≠ 2
      · rw [if_pos e6] at hk; exact absurd rfl hk
      rw [if_neg e6] at hk ⊢
      have hn : NearK (ptS s f.seg f.off) := by unfold NearK; omega
      exact ⟨okq_dec (hp _ _) hn _ _, hn⟩
  · rw [if_neg e3] at hk ⊢
    have hn : NearK (ptS s g a) := by have := hd g a; unfold NearK; omega
    exact ⟨okq_dec (hp _ _) hn _ _, hn⟩
theorem follow_good {s : Sr} (hs : s.Good) (g a : Int) : GoodO s.sz (followO s g a).1 := check_good (target_ok hs g a)
theorem next_good {s : Sr} (hs : s.Good) (o : Ob) (k : Int) : GoodO s.sz (nextO s o k).1 := by
  unfold nextO
  repeat' split
  all_goals first | exact .inl rfl | exact follow_good hs _ _

end Go.Proofs.YtdfldfnjjjcleaaDoor

namespace Go.Proofs.YtdfldfnjjjcleaaDoor

/-- the source of an arena -/
def srA (ls : List (List Int)) : Sr := ⟨wordA ls, wordE7 ls, sizesL ls⟩
def negs (l : List Int) : Bool := l.any (fun k => decide (k < 0))
def ofV (ls : List (List Int)) (ks : List Int) (i c : Int) : Va × Int := if fitsL (sizesL ls) = true then walkV (srA ls) ks i c else (Va.zero, 1)

theorem within9_yes {ls : List (List Int)} {g : Nat} {a n : Int} (hg : g < ls.length) (ha : 0 ≤ a) (hn : 0 ≤ n) (h : a + n ≤ ((ls[g]?.getD []).length : Int)) : withinB (sizesL ls) g a n = true := by
  have e := sizesL_get hg
  unfold withinB
  rw [sizesL_length, Int.toNat_natCast, e]
  exact decide_eq_true ⟨by omega, by omega, ha, hn, by omega, by omega⟩
theorem word9_at {ls : List (List Int)} {g a : Nat} (hg : g < ls.length) (ha : a < (ls[g]?.getD []).length) : wordA ls g a = (ls[g]?.getD [])[a]?.getD 0 ∧ wordE7 ls g a = 0 := by
  have h := within9_yes (n := 1) hg (Int.natCast_nonneg a) (by decide) (by omega)
  unfold wordA wordE7
  rw [if_pos h, if_pos h, Int.toNat_natCast, Int.toNat_natCast]
  exact ⟨rfl, rfl⟩
theorem enc_dec {p : Pt} (hp : OkP p) : decP (encW p) = p ∧ decE (encW p) = 0 := by
  have hb := ok_enc hp
  have h := encB_iff.1 hb
  unfold encW
  rw [if_pos hb]
  exact ⟨h.2, h.1⟩
theorem ptS_enc {s : Sr} {g a : Int} {p : Pt} (he : s.we g a = 0) (hw : s.wd g a = encW p) (hp : OkP p) : ptS s g a = p ∧ ptE s g a = 0 := by
  obtain ⟨h1, h2⟩ := enc_dec hp
  unfold ptS ptE
  rw [he, if_neg (by simp), hw]
  exact ⟨h1, h2⟩
/-- by a pointer that is near -/
theorem target_near {s : Sr} {g a : Int} {p : Pt} (he : s.we g a = 0) (hw : s.wd g a = encW p) (hp : OkP p) (hn : NearK p) : targetO s g a = (nearO p g a, 0) := by
  obtain ⟨h1, h2⟩ := ptS_enc he hw hp
  unfold NearK at hn
  unfold targetO
  rw [h1, h2, if_neg (by simp), if_neg (by omega), if_neg (by omega)]
theorem near_at {p : Pt} {a : Int} (h1 : 0 ≤ a + (p.off + 1)) (h2 : a + (p.off + 1) ≤ 1000000000) : nearA p a = a + (p.off + 1) := by
  unfold nearA
  rw [if_pos ⟨by omega, by omega⟩]
theorem check_yes {s : Sr} {o : Ob} (hk : o.kind ≠ 0) (he : wordE (ptrO o) = 0) (hw : withinB s.sz o.seg o.at_ (wordsO o) = true) : checkO s (o, 0) = (o, 0) := by
  unfold checkO
  rw [if_neg (by simp [hk]), if_neg (by simp [he]), if_pos hw]

/-! ### noughts -/
theorem fits_one {n : Int} (h1 : 1 ≤ n) (h2 : n ≤ 4096) : fitsL [n] = true := by
  unfold fitsL
  exact decide_eq_true ⟨by simp, by simp, by simpa using h1, by intro s hs; simp at hs; omega, by simpa using h2⟩
theorem zeros_follow (n : Nat) (hn : 1 ≤ n) : followO (srA [List.replicate n 0]) 0 0 = (Ob.zero, 0) := by
  have hw := word9_at (ls := [List.replicate n 0]) (g := 0) (a := 0) (by simp) (by simp; omega)
  have h0 : (([List.replicate n (0 : Int)][0]?.getD [])[0]?.getD 0) = 0 := by
    obtain ⟨m, rfl⟩ : ∃ m, n = m + 1 := ⟨n - 1, by omega⟩
    rfl
  rw [h0] at hw
  have e : ptS (srA [List.replicate n 0]) 0 0 = Pt.zero := by unfold ptS; show decP (wordA _ ((0 : Nat) : Int) ((0 : Nat) : Int)) = _; rw [hw.1]; rfl
  have f : ptE (srA [List.replicate n 0]) 0 0 = 0 := by
    unfold ptE
    show (if wordE7 _ ((0 : Nat) : Int) ((0 : Nat) : Int) ≠ 0 then wordE7 _ ((0 : Nat) : Int) ((0 : Nat) : Int) else decE (wordA _ ((0 : Nat) : Int) ((0 : Nat) : Int))) = 0
    rw [hw.1, hw.2]
    decide
  unfold followO targetO
  rw [e, f]
  rfl
theorem zero_next (s : Sr) (k : Int) : nextO s Ob.zero k = (Ob.zero, 0) := by
  unfold nextO
  rw [if_pos (.inl rfl)]
theorem zero_goal (s : Sr) : (ks : List Int) → (c : Int) → (ks.length : Int) + 1 ≤ c → goalO s ks c (Ob.zero, 0) = (Ob.zero, 0)
  | [], c, h => by
    unfold goalO
    have hw : wordsO Ob.zero = 0 := rfl
    rw [if_neg (by simp), hw, if_neg (by simp at h; omega)]
  | k :: r, c, h => by
    have hw : wordsO Ob.zero = 0 := rfl
    rw [goalO, if_neg (by simp), hw, if_neg (by simp at h; omega), zero_next]
    exact zero_goal s r _ (by simp at h ⊢; omega)
theorem zero_end (s : Sr) (i : Int) : endV s Ob.zero i = (Va.zero, 0) := by
  unfold endV
  split
  · rfl
  · have h : numW s Ob.zero i = (0, 0) := by unfold numW; rw [if_pos (.inl rfl)]
    rw [h]
    rfl
theorem null_of (n : Nat) (h1 : 1 ≤ n) (h2 : n ≤ 4096) (ks : List Int) (i c : Int) (hk : negs ks = false) (hl : ks.length ≤ 32) (hc : (ks.length : Int) + 1 ≤ c) : ofV [List.replicate n 0] ks i c = (Va.zero, 0) := by
  have hs : sizesL [List.replicate n 0] = [(n : Int)] := by simp [sizesL]
  unfold ofV walkV
  rw [hs, if_pos (fits_one (by omega) (by omega)), show (ks.any fun k => decide (k < 0)) = false from hk, if_neg (by decide), if_neg (by omega), zeros_follow n h1, zero_goal _ ks c hc, if_neg (by simp)]
  exact zero_end _ _
theorem long_of (n : Nat) (h1 : 1 ≤ n) (h2 : n ≤ 4096) (i c : Int) : ofV [List.replicate n 0] (List.replicate 33 0) i c = (Va.zero, 3) := by
  have hs : sizesL [List.replicate n 0] = [(n : Int)] := by simp [sizesL]
  unfold ofV walkV
  rw [hs, if_pos (fits_one (by omega) (by omega)), if_neg (by decide), if_pos (by decide)]

/-! ### far -/
def nearF (k : Nat) : Pt := ⟨1, k, 1, 0, 0, 0, 0, false⟩
def farF (d : Bool) : Pt := ⟨3, 0, 0, 0, 0, 0, 1, d⟩
def tagF : Pt := ⟨1, 0, 1, 0, 0, 0, 0, false⟩
def placeF : Pt := ⟨3, 0, 0, 0, 0, 0, 2, false⟩
def segF (x : Int) (k : Nat) (w : Int) : List Int := x :: (List.replicate k 0 ++ [w])
theorem nearF_ok {k : Nat} (h : k ≤ 100) : OkP (nearF k) := .inr (.inl ⟨rfl, by show _ ∧ (k : Int) < _; exact ⟨by show (-536870912 : Int) ≤ k; omega, by omega⟩, by show (0 : Int) ≤ 1 ∧ (1 : Int) < 65536; decide, by show (0 : Int) ≤ 0 ∧ (0 : Int) < 65536; decide, rfl, rfl, rfl, rfl, by show ¬ (_ ∧ (1 : Int) = 0 ∧ _); omega⟩)
theorem farF_ok (d : Bool) : OkP (farF d) := by cases d <;> exact .inr (.inr (.inr ⟨rfl, by decide, rfl, rfl, rfl, rfl, by decide⟩))
theorem tagF_ok : OkP tagF := .inr (.inl ⟨rfl, by decide, by decide, by decide, rfl, rfl, rfl, rfl, by decide⟩)
theorem placeF_ok : OkP placeF := .inr (.inr (.inr ⟨rfl, by decide, rfl, rfl, rfl, rfl, by decide⟩))
theorem segF_len (x : Int) (k : Nat) (w : Int) : (segF x k w).length = k + 2 := by simp [segF]
theorem segF_at (x : Int) (k : Nat) (w : Int) : (segF x k w)[k + 1]?.getD 0 = w := by
  unfold segF
  rw [List.getElem?_cons_succ, List.getElem?_append_right (by simp)]
  simp
/-- of a thing of one word at the end -/
def thingF (g a : Int) : Ob := ⟨1, g, a, 1, 0, 0, 0⟩
theorem far_end {ls : List (List Int)} {g a : Nat} {w : Int} (hf : fitsL (sizesL ls) = true) (ht : targetO (srA ls) 0 0 = (thingF g a, 0)) (hg : g < ls.length) (ha : a < (ls[g]?.getD []).length) (hw : (ls[g]?.getD [])[a]?.getD 0 = w) : ofV ls [] 0 9 = (⟨1, 0, 0, 0, w⟩, 0) := by
  have h1 : followO (srA ls) 0 0 = (thingF g a, 0) := by
    unfold followO
    rw [ht]
    exact check_yes (by show (1 : Int) ≠ 0; decide) rfl (within9_yes (g := g) hg (Int.natCast_nonneg a) (by show (0 : Int) ≤ 1; decide) (by show (a : Int) + 1 ≤ _; omega))
  have h2 : wordsO (thingF g a) = 1 := rfl
  have h3 : goalO (srA ls) [] 9 (thingF g a, 0) = (thingF g a, 0) := by
    unfold goalO
    rw [if_neg (by simp), h2, if_neg (by decide)]
  have hwd := word9_at hg ha
  rw [hw] at hwd
  have h4 : numW (srA ls) (thingF g a) 0 = (w, 0) := by
    have e1 : (srA ls).wd (thingF g a).seg ((thingF g a).at_ + 0) = w := by show wordA ls (g : Int) ((a : Int) + 0) = w; rw [Int.add_zero]; exact hwd.1
    have e2 : (srA ls).we (thingF g a).seg ((thingF g a).at_ + 0) = 0 := by show wordE7 ls (g : Int) ((a : Int) + 0) = 0; rw [Int.add_zero]; exact hwd.2
    unfold numW
    rw [if_neg (by simp [thingF]), if_pos (show (thingF g a).kind = 1 from rfl), e1, e2]
  unfold ofV walkV
  rw [if_pos hf, if_neg (by decide), if_neg (by decide), h1, h3, if_neg (by simp)]
  unfold endV
  rw [h4]
  rfl
theorem fits_two {a b : Int} (h1 : 1 ≤ a) (h2 : 0 ≤ b) (h3 : a + b ≤ 4096) : fitsL [a, b] = true := by
  unfold fitsL
  refine decide_eq_true ⟨by simp, by simp, by simpa using h1, ?_, by simpa using h3⟩
  intro s hs
  simp at hs
  omega
theorem far_near (x : Int) (k : Nat) (w : Int) (hk : k ≤ 100) (hx : x = encW (nearF k)) : ofV [segF x k w] [] 0 9 = (⟨1, 0, 0, 0, w⟩, 0) := by
  have hs : sizesL [segF x k w] = [((k + 2 : Nat) : Int)] := by simp [sizesL, segF_len]
  refine far_end (g := 0) (a := k + 1) (by rw [hs]; exact fits_one (by omega) (by omega)) ?_ (by simp) (by show _ < (segF x k w).length; rw [segF_len]; omega) (segF_at x k w)
  have hw := word9_at (ls := [segF x k w]) (g := 0) (a := 0) (by simp) (by show _ < (segF x k w).length; rw [segF_len]; omega)
  have e0 : (([segF x k w] : List (List Int))[0]?.getD [])[0]?.getD 0 = x := rfl
  rw [target_near (s := srA [segF x k w]) (g := 0) (a := 0) (p := nearF k) hw.2 (hw.1.trans (e0.trans hx)) (nearF_ok hk) (.inl rfl)]
  unfold nearO
  rw [near_at (by show (0 : Int) ≤ 0 + ((k : Int) + 1); omega) (by show (0 : Int) + ((k : Int) + 1) ≤ _; omega)]
  show (thingF 0 (0 + ((k : Int) + 1)), (0 : Int)) = (thingF ((0 : Nat) : Int) (((k + 1 : Nat) : Int)), 0)
  rw [show (0 : Int) + ((k : Int) + 1) = ((k + 1 : Nat) : Int) by omega]
  rfl
theorem far_one (y x : Int) (k : Nat) (w : Int) (hk : k ≤ 100) (hy : y = encW (farF false)) (hx : x = encW (nearF k)) : ofV [[y], segF x k w] [] 0 9 = (⟨1, 0, 0, 0, w⟩, 0) := by
  have hs : sizesL [[y], segF x k w] = [1, ((k + 2 : Nat) : Int)] := by simp [sizesL, segF_len]
  refine far_end (g := 1) (a := k + 1) (by rw [hs]; exact fits_two (by omega) (by omega) (by omega)) ?_ (by simp) (by show _ < (segF x k w).length; rw [segF_len]; omega) (segF_at x k w)
  have hw := word9_at (ls := [[y], segF x k w]) (g := 0) (a := 0) (by simp) (by simp)
  have hv := word9_at (ls := [[y], segF x k w]) (g := 1) (a := 0) (by simp) (by show _ < (segF x k w).length; rw [segF_len]; omega)
  have e0 : (([[y], segF x k w] : List (List Int))[0]?.getD [])[0]?.getD 0 = y := rfl
  have f0 : (([[y], segF x k w] : List (List Int))[1]?.getD [])[0]?.getD 0 = x := rfl
  obtain ⟨e1, e2⟩ := ptS_enc (s := srA [[y], segF x k w]) (g := 0) (a := 0) (p := farF false) hw.2 (hw.1.trans (e0.trans hy)) (farF_ok false)
  obtain ⟨f1, f2⟩ := ptS_enc (s := srA [[y], segF x k w]) (g := 1) (a := 0) (p := nearF k) hv.2 (hv.1.trans (f0.trans hx)) (nearF_ok hk)
  have hl : landedO (srA [[y], segF x k w]) (farF false) = (nearO (nearF k) 1 0, 0) := by
    have e3 : landedO (srA [[y], segF x k w]) (farF false) = landed1 (srA [[y], segF x k w]) (farF false) := rfl
    have f1' : ptS (srA [[y], segF x k w]) (farF false).seg (farF false).off = nearF k := f1
    have f2' : ptE (srA [[y], segF x k w]) (farF false).seg (farF false).off = 0 := f2
    rw [e3]
    unfold landed1
    rw [f2', f1', if_neg (by simp), if_neg (by simp [nearF])]
    rfl
  unfold targetO
  rw [e2, e1, if_neg (by simp), if_neg (by decide), if_pos (show (farF false).kind = 3 from rfl), hl]
  unfold nearO
  rw [near_at (by show (0 : Int) ≤ 0 + ((k : Int) + 1); omega) (by show (0 : Int) + ((k : Int) + 1) ≤ _; omega)]
  show (thingF 1 (0 + ((k : Int) + 1)), (0 : Int)) = (thingF ((1 : Nat) : Int) (((k + 1 : Nat) : Int)), 0)
  rw [show (0 : Int) + ((k : Int) + 1) = ((k + 1 : Nat) : Int) by omega]
  rfl
theorem far_two (y x z w : Int) (hy : y = encW (farF true)) (hx : x = encW placeF) (hz : z = encW tagF) : ofV [[y], [x, z], [w]] [] 0 9 = (⟨1, 0, 0, 0, w⟩, 0) := by
  refine far_end (g := 2) (a := 0) (by rw [show sizesL [[y], [x, z], [w]] = [1, 2, 1] from rfl]; decide) ?_ (by simp) (by simp) rfl
  have hw := word9_at (ls := [[y], [x, z], [w]]) (g := 0) (a := 0) (by simp) (by simp)
  have hv := word9_at (ls := [[y], [x, z], [w]]) (g := 1) (a := 0) (by simp) (by simp)
  have hu := word9_at (ls := [[y], [x, z], [w]]) (g := 1) (a := 1) (by simp) (by simp)
  have e0 : (([[y], [x, z], [w]] : List (List Int))[0]?.getD [])[0]?.getD 0 = y := rfl
  have f0 : (([[y], [x, z], [w]] : List (List Int))[1]?.getD [])[0]?.getD 0 = x := rfl
  have g0 : (([[y], [x, z], [w]] : List (List Int))[1]?.getD [])[1]?.getD 0 = z := rfl
  have hv1 : (srA [[y], [x, z], [w]]).wd 1 0 = encW placeF := hv.1.trans (f0.trans hx)
  have hu1 : (srA [[y], [x, z], [w]]).wd 1 1 = encW tagF := hu.1.trans (g0.trans hz)
  have hv2 : (srA [[y], [x, z], [w]]).we 1 0 = 0 := hv.2
  have hu2 : (srA [[y], [x, z], [w]]).we 1 1 = 0 := hu.2
  obtain ⟨e1, e2⟩ := ptS_enc (s := srA [[y], [x, z], [w]]) (g := 0) (a := 0) (p := farF true) hw.2 (hw.1.trans (e0.trans hy)) (farF_ok true)
  obtain ⟨f1, -⟩ := ptS_enc hv2 hv1 placeF_ok
  obtain ⟨g1, -⟩ := ptS_enc hu2 hu1 tagF_ok
  have h2 : ptE2 (srA [[y], [x, z], [w]]) 1 0 = 0 := by
    have b1 := (enc_dec placeF_ok).2
    have b2 := (enc_dec tagF_ok).2
    have i1 : (0 : Int) + 1 = 1 := rfl
    unfold ptE2
    rw [i1, hv2, hu2, hv1, hu1, b1, b2, if_neg (by simp), if_neg (by simp), if_neg (by simp)]
  have hl : landedO (srA [[y], [x, z], [w]]) (farF true) = (thingO tagF 2 0, 0) := by
    have e3 : landedO (srA [[y], [x, z], [w]]) (farF true) = landed2 (srA [[y], [x, z], [w]]) (farF true) := rfl
    have f1' : ptS (srA [[y], [x, z], [w]]) (farF true).seg (farF true).off = placeF := f1
    have g1' : ptS (srA [[y], [x, z], [w]]) (farF true).seg ((farF true).off + 1) = tagF := g1
    have f2' : ptE2 (srA [[y], [x, z], [w]]) (farF true).seg (farF true).off = 0 := h2
    rw [e3]
    unfold landed2
    rw [f2', f1', g1', if_neg (by simp), if_neg (by decide), if_neg (by decide)]
    rfl
  unfold targetO
  rw [e2, e1, if_neg (by simp), if_neg (by decide), if_pos (show (farF true).kind = 3 from rfl), hl]
  rfl

end Go.Proofs.YtdfldfnjjjcleaaDoor

namespace Go.Proofs.YtdfldfnjjjcleaaDoor

theorem getV_byte : (l : List Int) → (∀ x ∈ l, 0 ≤ x ∧ x ≤ 255) → (j : Nat) → getV l / 2 ^ (8 * j) % 256 = l[j]?.getD 0
  | [], _, j => by simp [getV]
  | x :: l, h, 0 => by
    have h1 := h x List.mem_cons_self
    rw [getV_cons, Nat.mul_zero, Int.pow_zero, Int.ediv_one]
    show _ = x
    omega
  | x :: l, h, j + 1 => by
    have h1 := h x List.mem_cons_self
    have ih := getV_byte l (fun y hy => h y (List.mem_cons_of_mem _ hy)) j
    have e : (2 : Int) ^ (8 * (j + 1)) = 256 * 2 ^ (8 * j) := by
      rw [Nat.mul_add, Int.pow_add, Int.mul_comm]
      rfl
    have d : (256 * getV l + x) / 256 = getV l := by omega
    rw [getV_cons, e, ← Int.ediv_ediv_of_nonneg (by decide), d, ih, List.getElem?_cons_succ]
/-- a word of bytes, byte by byte -/
theorem wordsB_byte {c : List Int} (h : ∀ x ∈ c, 0 ≤ x ∧ x ≤ 255) {i : Nat} (hi : i < c.length) : (wordsB c)[i / 8]?.getD 0 / 2 ^ (8 * (i % 8)) % 256 = c[i]?.getD 0 := by
  unfold wordsB
  rw [List.getElem?_map, List.getElem?_range (by omega)]
  show getV ((c.drop (8 * (i / 8))).take 8) / _ % _ = _
  rw [getV_byte _ (fun x hx => h x (List.mem_of_mem_drop (List.mem_of_mem_take hx))), List.getElem?_take_of_lt (by omega), List.getElem?_drop, show 8 * (i / 8) + i % 8 = i by omega]

/-- lists of bytes, or words -/
def LeafT (z : Int) (w b : List Int) : Prop := (z = 2 ∧ w = [] ∧ b.length ≤ 100) ∨ (z = 5 ∧ b = [] ∧ w.length ≤ 100)
def leafP (z : Int) (n : Nat) : Pt := ⟨2, 0, 0, 0, z, n, 0, false⟩
theorem leaf_len {z : Int} {w b : List Int} (h : LeafT z w b) : (contentT (.mk 2 z w b [])).length = needT (.mk 2 z w b []) ∧ needT (.mk 2 z w b []) ≤ 100 := by
  unfold contentT needT
  simp only [Tr.kind, Tr.words, Tr.bytes, Tr.kids, List.length_append, List.length_replicate, List.length_nil, wordsB, List.length_map, List.length_range]
  rcases h with ⟨rfl, rfl, h⟩ | ⟨rfl, rfl, h⟩
  · simp; omega
  · simp; omega
theorem leaf_right {z : Int} {w b : List Int} (h : LeafT z w b) : rightT (.mk 2 z w b []) = true := by
  unfold rightT deepB deepAll oneB
  rw [if_neg (by decide), if_pos rfl]
  simp only [Bool.and_eq_true, decide_eq_true_eq, and_true]
  refine ⟨?_, by decide⟩
  rcases h with ⟨rfl, rfl, h⟩ | ⟨rfl, rfl, h⟩
  · exact .inl ⟨rfl, rfl, rfl, by omega⟩
  · exact .inr (.inl ⟨rfl, rfl, rfl, by omega⟩)
theorem leaf_near {z : Int} {w b : List Int} (_h : LeafT z w b) : nearW (.mk 2 z w b []) 0 = encW (leafP z (w.length + b.length)) := by
  unfold nearW nearP leafP
  rw [if_pos (show (Tr.mk 2 z w b []).kind = 2 from rfl)]
  show encW ⟨2, 0, 0, 0, z, ((w.length + 0 + b.length : Nat) : Int), 0, false⟩ = _
  rw [Nat.add_zero]
theorem leaf_build {z : Int} {w b : List Int} (h : LeafT z w b) : buildT (.mk 2 z w b []) 200 = ([nearW (.mk 2 z w b []) 0 :: contentT (.mk 2 z w b [])], 0) := by
  obtain ⟨h1, h2⟩ := leaf_len h
  have hl : lay 200 (.mk 2 z w b []) ⟨[[0]], false⟩ 0 0 = ⟨[nearW (.mk 2 z w b []) 0 :: contentT (.mk 2 z w b [])], false⟩ := by
    unfold lay
    rw [if_neg (by simp)]
    by_cases hn : needT (.mk 2 z w b []) = 0
    · have hc : contentT (.mk 2 z w b []) = [] := List.eq_nil_of_length_eq_zero (by omega)
      rw [if_pos hn, hc]
      rfl
    · have hst : laySt 200 (.mk 2 z w b []) ⟨[[0]], false⟩ 0 0 = (⟨[nearW (.mk 2 z w b []) 0 :: contentT (.mk 2 z w b [])], false⟩, 0, 1) := by
        unfold laySt
        simp only [List.length_singleton, Nat.sub_self, List.getElem?_cons_zero, Option.getD_some]
        rw [if_pos ⟨trivial, by omega⟩]
        unfold moreW moreA setW lenS
        simp [h1]
        omega
      rw [if_neg hn, hst]
      rfl
  unfold buildT
  rw [if_neg (by rw [leaf_right h]; decide), show (200 : Int).toNat = 200 from rfl, hl]
  rfl

/-- the arena of a list -/
def listA (x : Int) (l : List Int) : List (List Int) := [x :: l]
theorem list_fits (x : Int) (l : List Int) (h : l.length ≤ 100) : fitsL (sizesL (listA x l)) = true := by
  have hs : sizesL (listA x l) = [((l.length + 1 : Nat) : Int)] := by simp [sizesL, listA]
  rw [hs]
  exact fits_one (by omega) (by omega)
theorem list_word (x : Int) (l : List Int) {j : Nat} (h : j < l.length) : wordA (listA x l) 0 (1 + j) = l[j]?.getD 0 ∧ wordE7 (listA x l) 0 (1 + j) = 0 := by
  have hw := word9_at (ls := listA x l) (g := 0) (a := j + 1) (by simp [listA]) (by show _ < (x :: l).length; simp; omega)
  rw [show (1 : Int) + j = ((j + 1 : Nat) : Int) by omega]
  exact hw
def listO (z : Int) (n : Nat) : Ob := ⟨2, 0, 1, 0, 0, z, n⟩
theorem leafP_ok {z : Int} {n : Nat} (hz : z = 2 ∨ z = 5) (h : n ≤ 100) : OkP (leafP z n) := by
  refine .inr (.inr (.inl ⟨rfl, by show (-536870912 : Int) ≤ 0 ∧ (0 : Int) < 536870912; decide, rfl, rfl, ?_, ?_, rfl, rfl⟩))
  · show 0 ≤ z ∧ z < 8
    omega
  · show (0 : Int) ≤ n ∧ (n : Int) < _
    omega
def leafN (z : Int) (n : Nat) : Nat := if z = 2 then (n + 7) / 8 else n
theorem list_words {z : Int} {n : Nat} (hz : z = 2 ∨ z = 5) : wordsO (listO z n) = leafN z n ∧ wordE (ptrO (listO z n)) = 0 := by
  unfold wordsO wordN wordE ptrO listO leafN
  rcases hz with rfl | rfl
  · simp
  · simp
theorem list_follow {x z : Int} {l : List Int} {n : Nat} (hz : z = 2 ∨ z = 5) (hn : n ≤ 100) (hl : l.length = leafN z n) (hx : x = encW (leafP z n)) : followO (srA (listA x l)) 0 0 = (listO z n, 0) := by
  have hw := word9_at (ls := listA x l) (g := 0) (a := 0) (by simp [listA]) (by show _ < (x :: l).length; simp)
  have e0 : ((listA x l)[0]?.getD [])[0]?.getD 0 = x := rfl
  obtain ⟨h1, h2⟩ := list_words (n := n) hz
  unfold followO
  rw [target_near (s := srA (listA x l)) (g := 0) (a := 0) (p := leafP z n) hw.2 (hw.1.trans (e0.trans hx)) (leafP_ok hz hn) (.inr rfl)]
  have hno : nearO (leafP z n) 0 0 = listO z n := by
    unfold nearO
    rw [near_at (by show (0 : Int) ≤ 0 + (0 + 1); decide) (by show (0 : Int) + (0 + 1) ≤ _; decide)]
    rfl
  rw [hno]
  refine check_yes (by show (2 : Int) ≠ 0; decide) h2 ?_
  rw [h1]
  exact within9_yes (g := 0) (by simp [listA]) (by show (0 : Int) ≤ 1; decide) (Int.natCast_nonneg _) (by show (1 : Int) + (leafN z n : Int) ≤ ((x :: l).length : Int); rw [List.length_cons]; omega)
theorem list_goal {x z : Int} {l : List Int} {n : Nat} (hz : z = 2 ∨ z = 5) (hn : n ≤ 100) : goalO (srA (listA x l)) [] 500 (listO z n, 0) = (listO z n, 0) := by
  obtain ⟨h1, -⟩ := list_words (n := n) hz
  have hb : leafN z n ≤ 100 := by unfold leafN; split <;> omega
  unfold goalO
  rw [if_neg (by simp), h1, if_neg (by omega)]
/-- what it is; what a step leads to; a word or a byte of it -/
theorem list_shape {x z : Int} {l : List Int} {n : Nat} (hz : z = 2 ∨ z = 5) (hn : n ≤ 100) (hl : l.length = leafN z n) (hx : x = encW (leafP z n)) : ofV (listA x l) [] (-1) 500 = (⟨2, z, n, 0, 0⟩, 0) := by
  have hb : leafN z n ≤ 100 := by unfold leafN; split <;> omega
  unfold ofV walkV
  rw [if_pos (list_fits x l (by omega)), if_neg (by decide), if_neg (by decide), list_follow hz hn hl hx, list_goal hz hn, if_neg (by simp)]
  unfold endV shapeV listO
  rcases hz with rfl | rfl <;> rfl
theorem list_step {x z : Int} {l : List Int} {n : Nat} (hz : z = 2 ∨ z = 5) (hn : n ≤ 100) (hl : l.length = leafN z n) (hx : x = encW (leafP z n)) (i : Int) : ofV (listA x l) [0] i 500 = (Va.zero, 23) := by
  have hb : leafN z n ≤ 100 := by unfold leafN; split <;> omega
  obtain ⟨h1, -⟩ := list_words (n := n) hz
  have hnx : nextO (srA (listA x l)) (listO z n) 0 = (Ob.zero, 23) := by
    unfold nextO listO
    dsimp only
    rcases hz with rfl | rfl
    · rw [if_neg (by simp), if_neg (by decide), if_pos (by decide)]
    · rw [if_neg (by simp), if_neg (by decide), if_pos (by decide)]
  have hg : goalO (srA (listA x l)) [0] 500 (listO z n, 0) = (Ob.zero, 23) := by
    rw [goalO, if_neg (by simp), h1, if_neg (by omega), hnx]
    unfold goalO
    rw [if_pos (by simp)]
  unfold ofV walkV
  rw [if_pos (list_fits x l (by omega)), if_neg (by decide), if_neg (by decide), list_follow hz hn hl hx, hg, if_pos (by simp)]
theorem list_at {x z : Int} {l : List Int} {n : Nat} (hz : z = 2 ∨ z = 5) (hn : n ≤ 100) (hl : l.length = leafN z n) (hx : x = encW (leafP z n)) (i : Nat) :
    ofV (listA x l) [] i 500 = if n ≤ i then (Va.zero, 20) else (⟨2, 0, 0, 0, if z = 5 then l[i]?.getD 0 else l[i / 8]?.getD 0 / 2 ^ (8 * (i % 8)) % 256⟩, 0) := by
  have hb : leafN z n ≤ 100 := by unfold leafN; split <;> omega
  unfold ofV walkV
  rw [if_pos (list_fits x l (by omega)), if_neg (by simp), if_neg (by simp), list_follow hz hn hl hx, list_goal hz hn, if_neg (by simp)]
  unfold endV
  rw [if_neg (by omega)]
  by_cases hi : n ≤ i
  · have hw : numW (srA (listA x l)) (listO z n) i = (0, 20) := by
      unfold numW listO
      dsimp only
      rw [if_neg (by simp), if_neg (by decide), if_neg (by omega), if_pos (by omega)]
    rw [hw, if_pos hi]
    rfl
  · rw [if_neg hi]
    rcases hz with rfl | rfl
    · have hw := list_word x l (j := i / 8) (by rw [hl]; unfold leafN; rw [if_pos rfl]; omega)
      have hw1 : (srA (listA x l)).wd 0 (1 + (i : Int) / 8) = l[i / 8]?.getD 0 := by
        rw [show (1 : Int) + (i : Int) / 8 = 1 + ((i / 8 : Nat) : Int) by omega]
        exact hw.1
      have hw2 : (srA (listA x l)).we 0 (1 + (i : Int) / 8) = 0 := by
        rw [show (1 : Int) + (i : Int) / 8 = 1 + ((i / 8 : Nat) : Int) by omega]
        exact hw.2
      have hn' : numW (srA (listA x l)) (listO 2 n) i = (l[i / 8]?.getD 0 / 2 ^ (8 * (i % 8)) % 256, 0) := by
        unfold numW listO
        dsimp only
        rw [if_neg (by simp), if_neg (by decide), if_neg (by decide), if_neg (by omega), if_neg (by decide), hw1, hw2, show ((i : Int) % 8).toNat = i % 8 by omega]
      rw [hn', if_neg (by simp)]
      rfl
    · have hw := list_word x l (j := i) (by rw [hl]; unfold leafN; rw [if_neg (by decide)]; omega)
      have hn' : numW (srA (listA x l)) (listO 5 n) i = (l[i]?.getD 0, 0) := by
        unfold numW listO
        dsimp only
        rw [if_neg (by simp), if_neg (by decide), if_neg (by decide), if_neg (by omega), if_pos rfl]
        show (wordA (listA x l) 0 (1 + i), wordE7 (listA x l) 0 (1 + i)) = _
        rw [hw.1, hw.2]
      rw [hn', if_pos rfl]
      rfl

/-- what the laws ask of what was built of bytes, or of words -/
theorem kinds_of {z : Int} {w b : List Int} (h : LeafT z w b) (c : List Int) (hc : c = if z = 5 then w else b) (hb : ∀ x ∈ c, 0 ≤ x ∧ x ≤ 255) (i : Nat) :
    ofV (buildT (.mk 2 z w b []) 200).1 [] (-1) 500 = (⟨2, z, c.length, 0, 0⟩, 0) ∧ (∀ j, ofV (buildT (.mk 2 z w b []) 200).1 [0] j 500 = (Va.zero, 23)) ∧
    ofV (buildT (.mk 2 z w b []) 200).1 [] i 500 = if c.length ≤ i then (Va.zero, 20) else (⟨2, 0, 0, 0, c[i]?.getD 0⟩, 0) := by
  obtain ⟨h1, h2⟩ := leaf_len h
  have hx := leaf_near h
  rw [leaf_build h]
  show ofV (listA (nearW (.mk 2 z w b []) 0) (contentT (.mk 2 z w b []))) _ _ _ = _ ∧ (∀ j, ofV (listA (nearW (.mk 2 z w b []) 0) (contentT (.mk 2 z w b []))) _ _ _ = _) ∧ ofV (listA (nearW (.mk 2 z w b []) 0) (contentT (.mk 2 z w b []))) _ _ _ = _
  generalize nearW (.mk 2 z w b []) 0 = x at *
  rcases h with ⟨rfl, rfl, h⟩ | ⟨rfl, rfl, h⟩
  · rw [if_neg (by decide)] at hc
    subst hc
    have hct : contentT (.mk 2 2 [] c []) = wordsB c := by simp [contentT, Tr.words, Tr.bytes, Tr.kids]
    have hl : (contentT (.mk 2 2 [] c [])).length = leafN 2 c.length := by rw [hct]; simp [wordsB, leafN]
    rw [List.length_nil, Nat.zero_add] at hx
    refine ⟨list_shape (.inl rfl) h hl hx, list_step (.inl rfl) h hl hx, ?_⟩
    rw [list_at (.inl rfl) h hl hx]
    by_cases hi : c.length ≤ i
    · rw [if_pos hi, if_pos hi]
    · rw [if_neg hi, if_neg hi, if_neg (by decide), hct, wordsB_byte hb (by omega)]
  · rw [if_pos rfl] at hc
    subst hc
    have hct : contentT (.mk 2 5 c [] []) = c := by simp [contentT, Tr.words, Tr.bytes, Tr.kids, wordsB]
    have hl : (contentT (.mk 2 5 c [] [])).length = leafN 5 c.length := by rw [hct]; simp [leafN]
    rw [List.length_nil, Nat.add_zero] at hx
    refine ⟨list_shape (.inr rfl) h hl hx, list_step (.inr rfl) h hl hx, ?_⟩
    rw [list_at (.inr rfl) h hl hx]
    by_cases hi : c.length ≤ i
    · rw [if_pos hi, if_pos hi]
    · rw [if_neg hi, if_neg hi, if_pos rfl, hct]

end Go.Proofs.YtdfldfnjjjcleaaDoor
