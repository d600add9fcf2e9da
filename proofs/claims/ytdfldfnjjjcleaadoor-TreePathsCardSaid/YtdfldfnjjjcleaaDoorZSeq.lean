/-
  Layer 8: what stays while words are laid; a range over a method value whose rounds never stop it.
-/
import Derived.RangeFuncNested
import Derived.RangeFuncBound
import Derived.RangeFuncCalls
import Derived.RangeFuncLeaves
import Derived.RangeFuncBox
import Derived.Test.YtdfldfnjjjcleaaDoorZBuPtr
import Derived.Test.YtdfldfnjjjcleaaDoorZCut
import Derived.Shelf.Abstract
import Derived.Shelf.RegionOpen
import Derived.WalkKit
import Derived.OwnWalkIn
import Derived.TacticsInMore
import Derived.LoopNIn
import Derived.LoopIn
import Derived.RegionIn
import Derived.Stop.RegionWithIn
import Derived.Test.YtdfldfnjjjcleaaDoorZWordGet
import Derived.Maps.OwnIn

namespace Go.Proofs.YtdfldfnjjjcleaaDoor
open Go.RowKit Go.Deep

/-- nothing but rows of words and boxes of slices of words -/
def plainO : Obj → Bool
  | .cells _ t _ => decide (t ≠ 34) && decide (t ≠ 53)
  | _ => true
/-- all else stays, but one record of a loop -/
structure KeepR (base : Nat) (lp : Option Nat) (W W' : World) : Prop where
  below : Below base W W'
  same : ∀ k o, some k ≠ lp → W.heap[k]? = some o → plainO o = true → W'.heap[k]? = some o
theorem KeepR.refl (base : Nat) (lp : Option Nat) (W : World) : KeepR base lp W W := ⟨Below.refl _ _, fun _ _ _ h _ => h⟩
theorem KeepR.trans {base : Nat} {lp : Option Nat} {A B C : World} (h : KeepR base lp A B) (k : KeepR base lp B C) : KeepR base lp A C :=
  ⟨h.below.trans k.below, fun i o hi ho hp => k.same i o hi (h.same i o hi ho hp) hp⟩
theorem KeepR.weak {base : Nat} {lp : Option Nat} {A B : World} (h : KeepR base none A B) : KeepR base lp A B := ⟨h.below, fun k o _ hk hp => h.same k o (by simp) hk hp⟩
theorem KeepR.grown {base : Nat} {lp : Option Nat} {A B C : World} {row : Option Nat} (h : KeepR base lp A B) (hg : B.grownBy C row) (hb : base ≤ B.heap.size) (hr : ∀ r, row = some r → base ≤ r ∧ (some r = lp ∨ ∀ o, B.heap[r]? = some o → plainO o = false)) : KeepR base lp A C :=
  ⟨h.below.grown hg hb (fun k e => (hr k e).1), fun k o hk ho hp => by
    have h1 := h.same k o hk ho hp
    refine (hg.block k (Array.getElem?_eq_some_iff.1 h1).1 (fun e => ?_)).trans h1
    rcases (hr k e.symm).2 with e2 | h2
    · exact hk e2
    · rw [h2 o h1] at hp
      cases hp⟩
theorem KeepR.alloc {base : Nat} {lp : Option Nat} {A B : World} (h : KeepR base lp A B) (hb : base ≤ B.heap.size) (o : Obj) : KeepR base lp A (B.alloc o) := h.grown (World.grownBy_alloc B o none) hb (fun r e => by cases e)
theorem KeepR.drew {base : Nat} {lp : Option Nat} {A B : World} (h : KeepR base lp A B) : KeepR base lp A B.drew := ⟨h.below.drew, h.same⟩
theorem KeepR.put {base l : Nat} {A B : World} (h : KeepR base (some l) A B) (hb : base ≤ l) (hl : l < B.heap.size) (o : Obj) : KeepR base (some l) A (B.putObj l o) :=
  h.grown (grownBy_putObj' B l o) (by omega) (fun r e => by cases e; exact ⟨hb, .inl rfl⟩)
/-- a block that was laid later is turned -/
theorem KeepR.late {base : Nat} {lp : Option Nat} {A B C : World} {row : Option Nat} (h : KeepR base lp A B) (hg : B.grownBy C row) (hb : base ≤ A.heap.size) (hr : ∀ r, row = some r → A.heap.size ≤ r) : KeepR base lp A C :=
  ⟨h.below.grown hg (by have := h.below.size; omega) (fun k e => by have := hr k e; omega), fun k o hk ho hp => by
    have h1 := h.same k o hk ho hp
    refine (hg.block k (Array.getElem?_eq_some_iff.1 h1).1 (fun e => ?_)).trans h1
    have := hr k e.symm
    have := (Array.getElem?_eq_some_iff.1 ho).1
    omega⟩
theorem KeepR.own {β : Type} {base B : Nat} {lp : Option Nat} {A : World} (hb : base ≤ A.heap.size) (hB : A.heap.size ≤ B) : OwnFrom B (fun (_ : β) W => KeepR base lp A W) :=
  fun _ _ _ _ h hg hr => h.late hg hb (fun r e => by have := (hr r e).1; omega)
theorem own_more {β : Type} {B B' : Nat} {I : β → World → Prop} (h : OwnFrom B I) (hB : B ≤ B') : OwnFrom B' I := fun s A C row hs hg hr => h s A C row hs hg (fun r e => ⟨by have := (hr r e).1; omega, (hr r e).2⟩)
theorem grown_tr {A B C : World} {r r' : Option Nat} (h : A.grownBy B r) (k : B.grownBy C r') (hr : r' = r ∨ ∀ g, r' = some g → A.heap.size ≤ g) : A.grownBy C r :=
  ⟨k.os.trans h.os, k.tape.trans h.tape, k.output.trans h.output, Nat.le_trans h.size k.size, fun i hi hne => (k.block i (Nat.lt_of_lt_of_le hi h.size) (fun e => by
    rcases hr with e2 | e2
    · exact hne (by rw [e, e2])
    · have := e2 i e.symm; omega)).trans (h.block i hi hne)⟩

/-- what an iterator gives, for whatever body that keeps all else: these, in their order -/
def Gives (gf : Nat) (first : Array Value) (base : Nat) (ls : List Int) (w : World) : Prop :=
  ∀ (lp : Nat) (J : List Int → World → Prop) (W : World), Below base w W → base ≤ lp → lp < W.heap.size → OwnFrom W.heap.size J → J [] W →
    (∀ (m : Nat) (pre : List Int) (x : Int) (W1 : World), pre.length ≤ 3000000 → J pre W1 → YieldAt Fence.wide m Tryd.prog lp #[.int .u64 x] W1 fun e W' => e = .returned (.bool true) ∧ J (pre ++ [x]) W' ∧ KeepR base (some lp) W1 W') →
    ∀ m, CallsIn Fence.wide m Tryd.prog gf (first ++ #[.func (.yield lp) #[] #[]]) W fun e W' => (∃ v, e = .returned v) ∧ J ls W'

/-- the statement, over a method value -/
theorem range_gives {n : Nat} {g : Operand} {ps : Array Tmp} {assign body : Code} {Q : Exit → Act → World → Prop} {a : Act} {w : World} {gf base : Nat} {first : Array Value} {ls : List Int}
    (hg : a.eval g = .func (.func gf) first #[]) (eg : ∀ args w, (callFunc gf args).run Tryd.prog w = .ok (.enter gf args) w) (hG : Gives gf first base ls w) (hb : base ≤ w.heap.size) (hps : ps.size = 1)
    (I : List Int → World → Prop) (hI : OwnFrom w.heap.size I) (h0 : I [] w) (a₁ : Int → Act)
    (hassign : ∀ (l m : Nat) (x : Int) (W : World) (K : Act → World → Prop), K (a₁ x) W →
      assign.wpIn (Fence.wide.inRound l) m Tryd.prog (Exit.then K (fun _ _ _ => False)) { tmps := (ps.zip #[.int .u64 x]).foldl (fun t (p, v) => t.setIfInBounds p v) a.tmps, defers := [] } W)
    (hbody : ∀ (l m : Nat) (pre : List Int) (x : Int) (W : World), pre.length ≤ 3000000 → I pre W → body.wpIn (Fence.wide.inRound l) m Tryd.prog (Exit.then (fun _ W' => KeepR base none W W' ∧ I (pre ++ [x]) W') (fun _ _ _ => False)) (a₁ x) W)
    (hdone : ∀ (D : Nat) (W : World), w.heap.size ≤ D → I ls W → W.heap[D]? = some (.deferred (some [])) → Q .normal { a with defers := { target := .collected D, args := #[] } :: a.defers } W) :
    (Code.rangeFunc g ps assign body).wpIn Fence.wide n Tryd.prog Q a w := by
  refine wpIn_rangeFunc ?_
  intro fn hfn
  obtain ⟨rec, hrec⟩ : ∃ rec : LoopState → Option Code → Loop, rec = fun st pe => { state := st, pending := pe, fn, tmps := a.tmps, params := ps, assign, body, defers := w.heap.size } := ⟨_, rfl⟩
  obtain ⟨W1, hW1⟩ : ∃ W1, (w.alloc (.deferred (some []))).alloc (.loop (rec .ready none)) = W1 := ⟨_, rfl⟩
  have hL1 : W1.heap[w.heap.size + 1]? = some (.loop (rec .ready none)) := by
    rw [← hW1]
    have := World.alloc_heap_new (w.alloc (.deferred (some []))) (.loop (rec .ready none))
    rwa [World.size_alloc] at this
  have hK1 : W1.heap[w.heap.size]? = some (.deferred (some [])) := by
    rw [← hW1]
    exact (Below.heap_alloc _ _ _ (by simp)).trans (World.alloc_heap_new w _)
  have hI1 : I [] W1 := by
    rw [← hW1]
    exact hI.alloc _ (hI.alloc _ h0)
  have hsz : W1.heap.size = w.heap.size + 2 := by
    rw [← hW1]
    simp
  have hb1 : Below base w W1 := by
    rw [← hW1]
    exact ((Below.refl _ w).alloc hb _).alloc (by simp; omega) _
  refine ⟨w.heap.size + 1, [{ target := .collected w.heap.size, args := #[] }], W1, { target := .fn (.func gf) #[], args := first ++ #[.func (.yield (w.heap.size + 1)) #[] #[]] }, W1, gf, first ++ #[.func (.yield (w.heap.size + 1)) #[] #[]], W1, ?_, ?_, ?_, ?_, ?_, ?_⟩
  · rw [← hW1, hrec]
    exact run_enterLoop_outer _ _ _ _ _
  · simp only [resolve, hg]
    simp [go_sem]
  · intro f' _
    trivial
  · simp [invoke, go_sem, eg]
  · intro h
    cases h
  · refine (hG (w.heap.size + 1) (fun pre W => I pre W ∧ W.heap[w.heap.size + 1]? = some (.loop (rec .ready none)) ∧ W.heap[w.heap.size]? = some (.deferred (some []))) W1 hb1 (by omega) (by omega)
      (fun s A B row hs hgr hr => ⟨(own_more hI (by omega)) s A B row hs.1 hgr hr, ?_, ?_⟩) ⟨hI1, hL1, hK1⟩ ?_ _).mono ?_
    · refine (hgr.block _ (Array.getElem?_eq_some_iff.1 hs.2.1).1 (fun e => ?_)).trans hs.2.1
      have := (hr _ e.symm).1
      omega
    · refine (hgr.block _ (Array.getElem?_eq_some_iff.1 hs.2.2).1 (fun e => ?_)).trans hs.2.2
      have := (hr _ e.symm).1
      omega
    · rintro m pre x W hlen ⟨hi, hl, hk⟩
      have hlt : w.heap.size + 1 < W.heap.size := (Array.getElem?_eq_some_iff.1 hl).1
      have hy := run_yield (P := Tryd.prog) (args := #[.int .u64 x]) hl (by rw [hrec]; exact hps.symm)
      rw [hrec] at hy
      refine ⟨fn, _, assign, body, hy, roundIn_of_wpIn hfn (hassign _ _ x W _ ⟨_, run_beginRound hl (by rw [hrec]), ?_⟩)⟩
      have hl2 : (W.putObj (w.heap.size + 1) (.loop { rec .ready none with state := .busy })).heap[w.heap.size + 1]? = some (.loop { rec .ready none with state := .busy }) := World.putObj_heap_same hlt
      have hk2 : (W.putObj (w.heap.size + 1) (.loop { rec .ready none with state := .busy })).heap[w.heap.size]? = some (.deferred (some [])) := (World.putObj_heap_other (by omega)).trans hk
      have hw2 : KeepR base (some (w.heap.size + 1)) W (W.putObj (w.heap.size + 1) (.loop { rec .ready none with state := .busy })) := (KeepR.refl _ _ _).put (by omega) hlt _
      refine wpIn_mono (hbody _ _ pre x _ hlen (hI.putObj _ hi (by omega) hl rfl)) ?_
      rintro e a3 W3 hp
      cases e with
      | normal =>
        obtain ⟨hk3, hi3⟩ := hp
        have hl3 := hk3.same _ _ (by simp) hl2 rfl
        have hr := run_endRound (P := Tryd.prog) none hl3
        have hlt3 := (Array.getElem?_eq_some_iff.1 hl3).1
        rw [hrec] at hr
        refine ⟨_, _, hr, rfl, ⟨hI.putObj _ hi3 (by omega) hl3 rfl, ?_, ?_⟩, (hw2.trans hk3.weak).put (by omega) hlt3 _⟩
        · rw [hrec]
          exact World.putObj_heap_same hlt3
        · exact (World.putObj_heap_other (by omega)).trans (hk3.same _ _ (by simp) hk2 rfl)
      | ret => exact hp.elim
      | exit id => exact hp.elim
      | goto t => exact hp.elim
      | panic ch => exact hp.elim
      | outgrown => exact hp.elim
    · rintro e W2 ⟨⟨v, rfl⟩, hi, hl, hk⟩
      have hr := run_endLoop (P := Tryd.prog) hl (by rw [hrec]; simp)
      rw [hrec] at hr
      exact ⟨none, _, hr, hdone _ _ (Nat.le_refl _) (hI.putObj _ hi (by omega) hl rfl) ((World.putObj_heap_other (by omega)).trans hk)⟩

end Go.Proofs.YtdfldfnjjjcleaaDoor

namespace Go.Proofs.YtdfldfnjjjcleaaDoor
open Go.RowKit Go.Shelf

attribute [local go_sem] Oper.semAt_some

theorem round_any {a b : Nat} {l : Nat} {f : FuncId} {tmps : Array Value} {assign body : Code} {w : World} {R : Ending → World → Prop} (h : RoundIn Fence.wide a Tryd.prog l f tmps assign body w R) : RoundIn Fence.wide b Tryd.prog l f tmps assign body w R :=
  ⟨trivial, fun c cs _ => h.2 c cs (room_wide _)⟩
/-- the chunk j -/
def chL (len j : Nat) : Nat := min 8 (len - 8 * j)
def chE (b off len j : Nat) : Value := .slice (some ⟨b, off + 8 * j, none⟩) (chL len j) (chL len j)
def ChunkOf (len : Nat) : Type := { j : Nat // 8 * j < len }
def chV {len : Nat} (l : List (ChunkOf len)) : List Nat := l.map (fun x => x.1)
theorem chV_snoc {len : Nat} (l : List (ChunkOf len)) (x : ChunkOf len) : chV (l ++ [x]) = chV l ++ [x.1] := by simp [chV]
theorem chV_len {len k : Nat} {l : List (ChunkOf len)} (h : chV l = List.range k) : l.length = k := by
  have := congrArg List.length h
  simpa [chV] using this
/-- what a round keeps: all below n₀, and the two boxes -/
def KeepC (n₀ B1 B2 : Nat) (W W' : World) : Prop := Below n₀ W W' ∧ W'.heap[B1]? = W.heap[B1]? ∧ W'.heap[B2]? = W.heap[B2]?
theorem KeepC.trans {n₀ B1 B2 : Nat} {A B C : World} (h : KeepC n₀ B1 B2 A B) (k : KeepC n₀ B1 B2 B C) : KeepC n₀ B1 B2 A C := ⟨h.1.trans k.1, k.2.1.trans h.2.1, k.2.2.trans h.2.2⟩
theorem KeepC.put {n₀ B1 B2 : Nat} {w : World} (hn : n₀ ≤ w.heap.size) (h1 : B1 < w.heap.size) (h2 : B2 < w.heap.size) (W : World) (l : Nat) (o o' : Obj) (hl : w.heap.size ≤ l) (ho : W.heap[l]? = some o) (c1 : o.isCells = false) (c2 : o.isWalk = false) : KeepC n₀ B1 B2 W (W.putObj l o') :=
  ⟨belowK_b hn W l o o' hl ho c1 c2, World.putObj_heap_other (by omega), World.putObj_heap_other (by omega)⟩
theorem KeepC.drew {n₀ B1 B2 : Nat} {A B : World} (h : KeepC n₀ B1 B2 A B) : KeepC n₀ B1 B2 A B.drew := ⟨h.1.drew, h.2.1, h.2.2⟩
theorem box_cell {W : World} {B : Nat} {v : Value} {t : TypeId} (h : W.heap[B]? = some (.cells #[v] t (0, 0))) : W.cell? ⟨B, 0, none⟩ = some v := by simp [World.cell?, h]

end Go.Proofs.YtdfldfnjjjcleaaDoor

namespace Go.Proofs.YtdfldfnjjjcleaaDoor
open Go.RowKit Go.Shelf

attribute [local go_sem] Oper.semAt_some

def wordB (bs : List Int) (j : Nat) : Int := getV ((bs.drop (8 * j)).take 8)
theorem wordsB_eq (bs : List Int) : wordsB bs = (List.range ((bs.length + 7) / 8)).map (wordB bs) := rfl

theorem take_snoc' {ws : List Int} {q : Nat} (h : q < ws.length) : ws.take (q + 1) = ws.take q ++ [ws[q]?.getD 0] := by
  rw [List.take_add_one, List.getElem?_eq_getElem h]
  rfl
theorem rep_snoc (q : Nat) : List.replicate (q + 1) (0 : Int) = List.replicate q 0 ++ [0] := List.replicate_succ'
theorem box5 {W : World} {B t : Nat} {a0 a1 a2 a3 a4 : Value} (h : W.heap[B]? = some (.cells #[a0, a1, a2, a3, a4] t (0, 0))) : W.cell? ⟨B, 0, none⟩ = some a0 ∧ W.cell? ⟨B, 1, none⟩ = some a1 ∧ W.cell? ⟨B, 2, none⟩ = some a2 ∧ W.cell? ⟨B, 3, none⟩ = some a3 ∧ W.cell? ⟨B, 4, none⟩ = some a4 := by simp [World.cell?, h]

theorem round_in {a b l' : Nat} {l : Nat} {f : FuncId} {tmps : Array Value} {assign body : Code} {w : World} {R : Ending → World → Prop} (h : RoundIn Fence.wide a Tryd.prog l f tmps assign body w R) : RoundIn (Fence.wide.inRound l') b Tryd.prog l f tmps assign body w R :=
  ⟨trivial, fun c cs _ => h.2 c cs (room_wide _)⟩
theorem KeepR.new {base : Nat} {lp : Option Nat} {A B C : World} (h : KeepR base lp A B) (hb : base ≤ B.heap.size) (k : Below B.heap.size B C) : KeepR base lp A C := h.grown ⟨k.os, k.tape, k.output, k.size, fun j hj _ => k.block j hj⟩ hb (fun r e => by cases (e : (none : Option Nat) = some r))
theorem KeepR.keepC {base lp B1 B2 B : Nat} {X Y : World} (h : KeepR base (some lp) X Y) (h1 : B1 ≠ lp) (h2 : B2 ≠ lp) (hB : lp < B) {o1 o2 : Obj} (c1 : X.heap[B1]? = some o1) (c2 : X.heap[B2]? = some o2) (p1 : plainO o1 = true) (p2 : plainO o2 = true) : KeepsFrom B X Y ∧ KeepC base B1 B2 X Y :=
  ⟨⟨h.below.size, fun k o hk ho hc => h.same k o (by simp; omega) ho (by cases o <;> first | rfl | cases hc)⟩, h.below, (h.same _ _ (by simpa using h1) c1 p1).trans c1.symm, (h.same _ _ (by simpa using h2) c2 p2).trans c2.symm⟩

/-- what the loop of AppendSeq knows: its box has a row of the call's own, longer by what has come -/
def SeqI (w : World) (base : Nat) (v : Value) (xs : List Int) (pre : List Int) (W : World) : Prop :=
  ∃ u, Boxed W w.heap.size 34 u ∧ OwnU W base u (xs ++ pre) ∧ w.grownBy W v.ownBlock ∧ (u.ownBlock = v.ownBlock ∨ ∀ g, u.ownBlock = some g → w.heap.size ≤ g)
theorem own_cells {w : World} {base e n g : Nat} {v : Value} {xs : List Value} (h : w.ownsRow base e 1 v n xs) (hg : v.ownBlock = some g) : ∃ cur, w.heap[g]? = some (.cells cur e (0, 0)) ∧ base ≤ g := by
  rcases h.2 with ⟨rfl, _⟩ | ⟨g1, c, cur, rfl, hb, hh, _⟩
  · simp [Value.ownBlock] at hg
  · simp only [Value.ownBlock, Option.some.injEq] at hg
    subst hg
    exact ⟨cur, hh, hb⟩
theorem seqI_own (w : World) (base : Nat) (v : Value) (xs : List Int) : OwnFrom w.heap.size (SeqI w base v xs) := by
  rintro s A B row ⟨u, hb, ho, hg, hn⟩ hgr hr
  refine ⟨u, hb.kept hgr (fun e => ?_), ho.kept hgr ?_, grown_tr hg hgr (.inr (fun g e => (hr g e).1)), hn⟩
  · obtain ⟨_, o, h1, h2⟩ := hr _ e.symm
    rw [show A.heap[w.heap.size]? = _ from hb] at h1
    cases h1
    cases h2
  · cases h3 : u.ownBlock with
    | none => exact .inl rfl
    | some g =>
      refine .inr (fun e => ?_)
      obtain ⟨cur, h4, _⟩ := own_cells ho h3
      obtain ⟨_, o, h1, h2⟩ := hr g e.symm
      rw [h4] at h1
      cases h1
      cases h2

end Go.Proofs.YtdfldfnjjjcleaaDoor
