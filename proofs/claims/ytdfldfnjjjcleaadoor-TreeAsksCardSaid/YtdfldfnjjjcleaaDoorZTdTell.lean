/-
  A range over a function whose rounds are told something that lies in memory: what each side may turn, and what it keeps. No program is named here.
-/
import Derived.RangeFuncNested
import Derived.RangeFuncBound
import Derived.RangeFuncCalls
import Derived.RangeFuncLeaves
import Derived.Test.YtdfldfnjjjcleaaDoorZMem

namespace Go.Proofs.YtdfldfnjjjcleaaDoor
open Go.RowKit

/-- of what there was, only the blocks of X are turned -/
structure Mv (X : Nat → Prop) (W W' : World) : Prop where
  os : W'.os = W.os
  tape : W'.tape = W.tape
  output : W'.output = W.output
  size : W.heap.size ≤ W'.heap.size
  same : ∀ b, b < W.heap.size → ¬ X b → W'.heap[b]? = W.heap[b]?
theorem Mv.refl (X : Nat → Prop) (W : World) : Mv X W W := ⟨rfl, rfl, rfl, Nat.le_refl _, fun _ _ _ => rfl⟩
theorem Mv.trans {X Y : Nat → Prop} {A B C : World} (h : Mv X A B) (k : Mv Y B C) (hXY : ∀ b, b < A.heap.size → Y b → X b) : Mv X A C :=
  ⟨k.os.trans h.os, k.tape.trans h.tape, k.output.trans h.output, Nat.le_trans h.size k.size, fun b hb hx => (k.same b (Nat.lt_of_lt_of_le hb h.size) (fun hy => hx (hXY b hb hy))).trans (h.same b hb hx)⟩
theorem Mv.mono {X Y : Nat → Prop} {A B : World} (h : Mv X A B) (hXY : ∀ b, b < A.heap.size → X b → Y b) : Mv Y A B :=
  ⟨h.os, h.tape, h.output, h.size, fun b hb hy => h.same b hb (fun hx => hy (hXY b hb hx))⟩
theorem Mv.below {X : Nat → Prop} {A B : World} (h : Mv X A B) {n : Nat} (hn : n ≤ A.heap.size) (hX : ∀ b, X b → n ≤ b) : Below n A B :=
  ⟨h.os, h.tape, h.output, h.size, fun b hb => h.same b (by omega) (fun hx => by have := hX b hx; omega)⟩
theorem Mv.of_below {n : Nat} {A B : World} (h : Below n A B) : Mv (fun b => n ≤ b) A B := ⟨h.os, h.tape, h.output, h.size, fun b _ hb => h.block b (by omega)⟩
theorem Mv.of_grown {A B : World} {row : Option Nat} (h : A.grownBy B row) : Mv (fun b => row = some b) A B := ⟨h.os, h.tape, h.output, h.size, fun b hb hx => h.block b hb (fun e => hx e.symm)⟩
theorem Mv.putObj (W : World) (l : Nat) (o : Obj) : Mv (fun b => b = l) W (W.putObj l o) := ⟨rfl, rfl, rfl, by simp, fun _ _ hb => World.putObj_heap_other hb⟩
theorem Mv.lt {X : Nat → Prop} {A B : World} (h : Mv X A B) {b : Nat} (hb : b < A.heap.size) : b < B.heap.size := Nat.lt_of_lt_of_le hb h.size

/-- what a side knows of what has been told so far: it speaks of its own blocks alone, and these are there -/
structure Ours {α : Type} (I : List α → (Nat → Prop) → World → Prop) : Prop where
  on : ∀ {pre : List α} {C : Nat → Prop} {A B : World}, I pre C A → (∀ b, C b → B.heap[b]? = A.heap[b]?) → I pre C B
  lt : ∀ {pre : List α} {C : Nat → Prop} {A : World}, I pre C A → ∀ b, C b → b < A.heap.size

/-- what a round comes to: it turns its own blocks; what it was given, and what is new, may become its own -/
def RoundR {α : Type} (I Ix : List α → (Nat → Prop) → World → Prop) (xs : List α) (C G : Nat → Prop) (W : World) (e : Ending) (W' : World) : Prop :=
  ∃ C' : Nat → Prop, Mv C W W' ∧ (∀ b, C' b → C b ∨ G b ∨ W.heap.size ≤ b) ∧ ((e = .returned (.bool true) ∧ I xs C' W') ∨ (e = .returned (.bool false) ∧ Ix xs C' W'))
/-- whatever of L is told next, in a block that is not the round's own, the round takes it -/
def Rounds {α : Type} (F : Fence) (P : Program) (l : Nat) (Enc : World → (Nat → Prop) → α → Value → Prop) (L : List α) (base : Nat) (I Ix : List α → (Nat → Prop) → World → Prop) : Prop :=
  ∀ (m : Nat) (pre : List α) (x : α) (v : Value) (C G : Nat → Prop) (W : World), I pre C W → pre ++ [x] <+: L → Enc W G x v → (∀ b, G b → base ≤ b ∧ b < W.heap.size ∧ ¬ C b) →
    YieldAt F m P l #[v] W (RoundR I Ix (pre ++ [x]) C G W)
/-- what a function that tells all of L comes to -/
def TellR {α : Type} (I Ix : List α → (Nat → Prop) → World → Prop) (L : List α) (C Y : Nat → Prop) (Z : World → Prop) (W : World) (e : Ending) (W' : World) : Prop :=
  (∃ v, e = .returned v) ∧ ∃ C' : Nat → Prop, (∀ b, C' b → C b ∨ W.heap.size ≤ b) ∧ Mv (fun b => C b ∨ Y b) W W' ∧ Z W' ∧ (I L C' W' ∨ ∃ pre, pre <+: L ∧ Ix pre C' W')
/-- a function that tells all of L: it has the blocks X to itself, and turns of these Y alone -/
def Tells {α : Type} (F : Fence) (n : Nat) (P : Program) (gf : Nat) (lb : Array Value) (Enc : World → (Nat → Prop) → α → Value → Prop) (L : List α) (base : Nat) (X Y : Nat → Prop) (Z : World → Prop) (W : World) : Prop :=
  ∀ (l : Nat) (I Ix : List α → (Nat → Prop) → World → Prop) (C : Nat → Prop), Ours I → Ours Ix → (∀ b, C b → base ≤ b ∧ ¬ X b) → Rounds F P l Enc L base I Ix → I [] C W →
    CallsIn F n P gf (#[.func (.yield l) #[] #[]] ++ lb) W (TellR I Ix L C Y Z W)

/-- how the body of a round may be left -/
def bodyR {α : Type} (I : List α → (Nat → Prop) → World → Prop) (Ix : Code → List α → (Nat → Prop) → World → Prop) (xs : List α) (C G : Nat → Prop) (W : World) : Exit → Act → World → Prop
  | .normal, _, W' => ∃ C' : Nat → Prop, Mv C W W' ∧ (∀ b, C' b → C b ∨ G b ∨ W.heap.size ≤ b) ∧ I xs C' W'
  | .ret, _, W' => ∃ C' : Nat → Prop, Mv C W W' ∧ (∀ b, C' b → C b ∨ G b ∨ W.heap.size ≤ b) ∧ Ix .ret xs C' W'
  | .exit id, _, W' => ∃ C' : Nat → Prop, Mv C W W' ∧ (∀ b, C' b → C b ∨ G b ∨ W.heap.size ≤ b) ∧ Ix (.exit id) xs C' W'
  | .goto t, _, W' => ∃ C' : Nat → Prop, Mv C W W' ∧ (∀ b, C' b → C b ∨ G b ∨ W.heap.size ≤ b) ∧ Ix (.goto t) xs C' W'
  | _, _, _ => False
variable {F : Fence} {n : Nat} {P : Program}

/-- a range over a function that tells L: the assignment to the loop's variable turns nothing that was there; the body is walked once -/
theorem range_tells {α : Type} {g : Operand} {p : Tmp} {assign body : Code} {Q : Exit → Act → World → Prop} {a : Act} {w : World}
    (hro : F.round = none) (hd : F.depth = none) {gf : Nat} {lb : Array Value} (hg : a.eval g = .func (.func gf) #[] lb) (hFg : F.fn gf) (eg : ∀ args w, (callFunc gf args).run P w = .ok (.enter gf args) w)
    {Enc : World → (Nat → Prop) → α → Value → Prop} {L : List α} {base : Nat} {X Y : Nat → Prop} {Z : World → Prop} (hbase : base ≤ w.heap.size) (hX : ∀ b, X b → b < w.heap.size) (hY : ∀ b, Y b → X b)
    (hZ : ∀ A B : World, Z A → (∀ b, b < w.heap.size → B.heap[b]? = A.heap[b]?) → Z B)
    (ht : ∀ o, Tells F (n - 1) P gf lb Enc L base X Y Z ((w.alloc (.deferred (some []))).alloc (.loop o)))
    (I : List α → (Nat → Prop) → World → Prop) (Ix : Code → List α → (Nat → Prop) → World → Prop) (hI : Ours I) (hIx : ∀ c, Ours (Ix c)) (C0 : Nat → Prop) (hC0 : ∀ b, C0 b → base ≤ b ∧ ¬ X b) (h0 : I [] C0 w)
    (hbody : ∀ (m : Nat) (pre : List α) (x : α) (v : Value) (C G : Nat → Prop) (W : World), I pre C W → pre ++ [x] <+: L → Enc W G x v → (∀ b, G b → base ≤ b ∧ b < W.heap.size ∧ ¬ C b ∧ b ≠ w.heap.size ∧ b ≠ w.heap.size + 1) → ¬ C w.heap.size → ¬ C (w.heap.size + 1) → w.heap.size + 2 ≤ W.heap.size →
      (∃ o, W.heap[w.heap.size + 1]? = some (.loop o)) → ∀ (K : Act → World → Prop), (∀ a1 W1, Mv (fun _ => False) W W1 → (∀ W2 : World, Mv (fun b => b = w.heap.size + 1) W1 W2 → W2.heap.size = W1.heap.size → (∃ o, W2.heap[w.heap.size + 1]? = some (.loop o)) → body.wpIn (F.inRound (w.heap.size + 1)) m P (bodyR I Ix (pre ++ [x]) C G W2) a1 W2) → K a1 W1) →
      assign.wpIn (F.inRound (w.heap.size + 1)) m P (Exit.then K (fun _ _ _ => False)) { tmps := a.tmps.setIfInBounds p v, defers := [] } W)
    (hdone : ∀ (C' : Nat → Prop) (W : World), (∀ b, C' b → C0 b ∨ w.heap.size + 2 ≤ b) → Mv (fun b => C0 b ∨ Y b) w W → Z W → I L C' W → W.heap[w.heap.size]? = some (.deferred (some [])) → ¬ C' w.heap.size → Q .normal { a with defers := { target := .collected w.heap.size, args := #[] } :: a.defers } W)
    (hstop : ∀ (c : Code) (pre : List α) (C' : Nat → Prop) (W : World), pre <+: L → (∀ b, C' b → C0 b ∨ w.heap.size + 2 ≤ b) → Mv (fun b => C0 b ∨ Y b) w W → Z W → Ix c pre C' W → W.heap[w.heap.size]? = some (.deferred (some [])) → ¬ C' w.heap.size → c.wpIn F n P Q { a with defers := { target := .collected w.heap.size, args := #[] } :: a.defers } W) :
    (Code.rangeFunc g #[p] assign body).wpIn F n P Q a w := by
  have hdd : ∀ k : Nat, (F.depth.isSome = true → 1 ≤ k) := fun k h => by rw [hd] at h; cases h
  have hroom : ∀ k, F.room k := fun k d h => by rw [hd] at h; cases h
  refine wpIn_rangeFunc ?_
  intro fn hfn
  rw [hro]
  obtain ⟨D, hD⟩ : ∃ D, D = w.heap.size := ⟨_, rfl⟩
  obtain ⟨rec, hrec⟩ : ∃ rec : LoopState → Option Code → Loop, rec = fun st pe => { state := st, pending := pe, fn, tmps := a.tmps, params := #[p], assign, body, defers := D } := ⟨_, rfl⟩
  obtain ⟨W1, hW1⟩ : ∃ W1, (w.alloc (.deferred (some []))).alloc (.loop (rec .ready none)) = W1 := ⟨_, rfl⟩
  have hs1 : W1.heap.size = w.heap.size + 2 := by rw [← hW1]; simp
  have hm1 : Mv (fun _ => False) w W1 := by
    rw [← hW1]
    have := ((Below.refl w.heap.size w).alloc (Nat.le_refl _) (.deferred (some []))).alloc (by simp) (.loop (rec .ready none))
    exact ⟨this.os, this.tape, this.output, this.size, fun b hb _ => this.block b hb⟩
  have hL1 : W1.heap[D + 1]? = some (.loop (rec .ready none)) := by
    rw [← hW1, hD]
    have := World.alloc_heap_new (w.alloc (.deferred (some []))) (.loop (rec .ready none))
    rwa [World.size_alloc] at this
  have hK1 : W1.heap[D]? = some (.deferred (some [])) := by
    rw [← hW1, hD]
    exact (Below.heap_alloc _ _ _ (by simp)).trans (World.alloc_heap_new w _)
  have hlt0 : ∀ b, C0 b → b < w.heap.size := hI.lt h0
  have hI1 : I [] C0 W1 := hI.on h0 (fun b hb => hm1.same b (hlt0 b hb) (fun h => h))
  refine ⟨D + 1, [{ target := .collected D, args := #[] }], W1, { target := .fn (.func gf) lb, args := #[.func (.yield (D + 1)) #[] #[]] }, W1, gf,
    #[.func (.yield (D + 1)) #[] #[]] ++ lb, W1, ?_, ?_, ?_, ?_, fun h => hdd _ h, ?_⟩
  · rw [← hW1, hrec, hD]; exact run_enterLoop_outer _ _ _ _ _
  · simp only [resolve, hg]
    simp [go_sem]
  · intro f' hf'
    simp [Target.leads] at hf'
    subst hf'
    exact hFg
  · simp [invoke, go_sem, eg]
  obtain ⟨J, hJ⟩ : ∃ J : List α → (Nat → Prop) → World → Prop, J = fun pre C W => ∃ C1, (∀ b, C b ↔ C1 b ∨ b = D ∨ b = D + 1) ∧ ¬ C1 D ∧ ¬ C1 (D + 1) ∧ I pre C1 W ∧ W.heap[D + 1]? = some (.loop (rec .ready none)) ∧ W.heap[D]? = some (.deferred (some [])) := ⟨_, rfl⟩
  obtain ⟨Jx, hJx⟩ : ∃ Jx : List α → (Nat → Prop) → World → Prop, Jx = fun pre C W => ∃ c C1, (∀ b, C b ↔ C1 b ∨ b = D ∨ b = D + 1) ∧ ¬ C1 D ∧ ¬ C1 (D + 1) ∧ Ix c pre C1 W ∧ W.heap[D + 1]? = some (.loop (rec .done (some c))) ∧ W.heap[D]? = some (.deferred (some [])) := ⟨_, rfl⟩
  have hlt : ∀ {A : World} {o : Obj} {b : Nat}, A.heap[b]? = some o → b < A.heap.size := fun h => (Array.getElem?_eq_some_iff.1 h).1
  have oJ : Ours J := by
    rw [hJ]
    refine ⟨fun {pre C A B} h hs => ?_, fun {pre C A} h b hb => ?_⟩
    · obtain ⟨C1, hC, n1, n2, hi, hl, hk⟩ := h
      exact ⟨C1, hC, n1, n2, hI.on hi (fun b hb => hs b ((hC b).2 (.inl hb))), (hs _ ((hC _).2 (.inr (.inr rfl)))).trans hl, (hs _ ((hC _).2 (.inr (.inl rfl)))).trans hk⟩
    · obtain ⟨C1, hC, n1, n2, hi, hl, hk⟩ := h
      rcases (hC b).1 hb with h | rfl | rfl
      · exact hI.lt hi b h
      · exact hlt hk
      · exact hlt hl
  have oJx : Ours Jx := by
    rw [hJx]
    refine ⟨fun {pre C A B} h hs => ?_, fun {pre C A} h b hb => ?_⟩
    · obtain ⟨c, C1, hC, n1, n2, hi, hl, hk⟩ := h
      exact ⟨c, C1, hC, n1, n2, (hIx c).on hi (fun b hb => hs b ((hC b).2 (.inl hb))), (hs _ ((hC _).2 (.inr (.inr rfl)))).trans hl, (hs _ ((hC _).2 (.inr (.inl rfl)))).trans hk⟩
    · obtain ⟨c, C1, hC, n1, n2, hi, hl, hk⟩ := h
      rcases (hC b).1 hb with h | rfl | rfl
      · exact (hIx c).lt hi b h
      · exact hlt hk
      · exact hlt hl
  have ht1 := ht (rec .ready none)
  rw [hW1] at ht1
  refine (ht1 (D + 1) J Jx (fun b => C0 b ∨ b = D ∨ b = D + 1) oJ oJx ?_ ?_ ?_).mono ?_
  · rintro b (h | rfl | rfl)
    · exact hC0 b h
    · exact ⟨by omega, fun h => by have := hX _ h; omega⟩
    · exact ⟨by omega, fun h => by have := hX _ h; omega⟩
  · -- one round
    intro m pre x v C G W hj hpre henc hG
    rw [hJ] at hj
    obtain ⟨C1, hC, n1, n2, hi, hl, hk⟩ := hj
    have hlW : D + 1 < W.heap.size := hlt hl
    have hy := run_yield (P := P) (args := #[v]) hl (by rw [hrec]; rfl)
    rw [hrec] at hy
    have hy2 : (Instr.yield (D + 1) #[v]).run P W = .ok (.round (D + 1) fn (a.tmps.setIfInBounds p v) assign body) W := by
      rw [hy]; simp
    refine ⟨fn, _, assign, body, hy2, roundIn_of_wpIn hfn ?_⟩
    clear hy hy2
    have hb0 := hbody m pre x v C1 G W hi hpre henc (fun b hb => ⟨(hG b hb).1, (hG b hb).2.1, fun h => (hG b hb).2.2 ((hC b).2 (.inl h)), fun h => (hG b hb).2.2 ((hC b).2 (.inr (.inl (by omega)))), fun h => (hG b hb).2.2 ((hC b).2 (.inr (.inr (by omega))))⟩) (by rw [← hD]; exact n1) (by rw [← hD]; exact n2) (by omega) (by rw [← hD]; exact ⟨_, hl⟩)
    rw [← hD] at hb0
    refine hb0 _ ?_
    intro a1 Wa hma hwalk
    have hla : Wa.heap[D + 1]? = some (.loop (rec .ready none)) := (hma.same _ hlW (fun h => h)).trans hl
    have hka : Wa.heap[D]? = some (.deferred (some [])) := (hma.same _ (by omega) (fun h => h)).trans hk
    have hlaW : D + 1 < Wa.heap.size := hlt hla
    refine ⟨_, run_beginRound hla (by rw [hrec]), ?_⟩
    have hl2 : (Wa.putObj (D + 1) (.loop { rec .ready none with state := .busy })).heap[D + 1]? = some (.loop { rec .ready none with state := .busy }) := World.putObj_heap_same hlaW
    have hk2 : (Wa.putObj (D + 1) (.loop { rec .ready none with state := .busy })).heap[D]? = some (.deferred (some [])) := (World.putObj_heap_other (by omega)).trans hka
    have hm2 : Mv (fun b => b = D + 1) Wa (Wa.putObj (D + 1) (.loop { rec .ready none with state := .busy })) := Mv.putObj _ _ _
    have hs2 : (Wa.putObj (D + 1) (.loop { rec .ready none with state := .busy })).heap.size = Wa.heap.size := World.putObj_size
    obtain ⟨W2, hW2⟩ : ∃ W2, W2 = Wa.putObj (D + 1) (.loop { rec .ready none with state := .busy }) := ⟨_, rfl⟩
    rw [← hW2] at hl2 hk2 hm2 hs2 ⊢
    have hmW2 : Mv (fun b => b = D + 1) W W2 := (hma.mono (fun _ _ h => h.elim)).trans hm2 (fun _ _ h => h)
    refine wpIn_mono (hwalk W2 hm2 hs2 ⟨_, hl2⟩) ?_
    have fin : ∀ (jump : Option Code) (C' : Nat → Prop) (W3 : World), Mv C1 W2 W3 → (∀ b, C' b → C1 b ∨ G b ∨ W2.heap.size ≤ b) →
        ∃ W4, (Instr.endRound (D + 1) jump).run P W3 = .ok (.bool jump.isNone) W4 ∧ Mv C W W4 ∧ (∀ b, (C' b ∨ b = D ∨ b = D + 1) → C b ∨ G b ∨ W.heap.size ≤ b) ∧ ¬ C' D ∧ ¬ C' (D + 1) ∧
          W4.heap[D + 1]? = some (.loop (rec (if jump.isNone then .ready else .done) jump)) ∧ W4.heap[D]? = some (.deferred (some [])) ∧ (∀ b, C' b → W4.heap[b]? = W3.heap[b]?) := fun jump C' W3 hm3 hC' => by
      have hl3 : W3.heap[D + 1]? = some (.loop { rec .ready none with state := .busy }) := (hm3.same _ (hlt hl2) n2).trans hl2
      have hk3 : W3.heap[D]? = some (.deferred (some [])) := (hm3.same _ (hlt hk2) n1).trans hk2
      have hr := run_endRound (P := P) jump hl3
      have nd : ¬ C' D := fun h => by
        rcases hC' D h with h | h | h
        · exact n1 h
        · exact (hG D h).2.2 ((hC D).2 (.inr (.inl rfl)))
        · have := hlt hk2; omega
      have nd1 : ¬ C' (D + 1) := fun h => by
        rcases hC' _ h with h | h | h
        · exact n2 h
        · exact (hG _ h).2.2 ((hC _).2 (.inr (.inr rfl)))
        · have := hlt hl2; omega
      refine ⟨_, hr, ?_, ?_, nd, nd1, ?_, (World.putObj_heap_other (by omega)).trans hk3, fun b hb => World.putObj_heap_other (fun e => nd1 (e ▸ hb))⟩
      · refine ((hmW2.mono (fun b _ (h : b = D + 1) => (hC b).2 (.inr (.inr h)))).trans hm3 (fun b _ h => (hC b).2 (.inl h))).trans (Mv.putObj _ _ _) (fun b _ (h : b = D + 1) => (hC b).2 (.inr (.inr h)))
      · rintro b (h | h | h)
        · rcases hC' b h with h | h | h
          · exact .inl ((hC b).2 (.inl h))
          · exact .inr (.inl h)
          · exact .inr (.inr (by have := hma.size; omega))
        · exact .inl ((hC b).2 (.inr (.inl h)))
        · exact .inl ((hC b).2 (.inr (.inr h)))
      · rw [World.putObj_heap_same (hlt hl3), hrec]
    rw [hJ, hJx]
    rintro e a3 W3 hp
    cases e with
    | normal =>
      obtain ⟨C', hm3, hC', hi3⟩ := hp
      obtain ⟨W4, hr, hm4, hC4, nd, nd1, hl4, hk4, hs4⟩ := fin none C' W3 hm3 hC'
      exact ⟨_, W4, hr, _, hm4, hC4, .inl ⟨rfl, C', fun _ => Iff.rfl, nd, nd1, hI.on hi3 hs4, hl4, hk4⟩⟩
    | ret =>
      obtain ⟨C', hm3, hC', hi3⟩ := hp
      obtain ⟨W4, hr, hm4, hC4, nd, nd1, hl4, hk4, hs4⟩ := fin (some .ret) C' W3 hm3 hC'
      exact ⟨_, W4, hr, _, hm4, hC4, .inr ⟨rfl, .ret, C', fun _ => Iff.rfl, nd, nd1, (hIx _).on hi3 hs4, hl4, hk4⟩⟩
    | exit id =>
      obtain ⟨C', hm3, hC', hi3⟩ := hp
      obtain ⟨W4, hr, hm4, hC4, nd, nd1, hl4, hk4, hs4⟩ := fin (some (.exit id)) C' W3 hm3 hC'
      exact ⟨_, W4, hr, _, hm4, hC4, .inr ⟨rfl, .exit id, C', fun _ => Iff.rfl, nd, nd1, (hIx _).on hi3 hs4, hl4, hk4⟩⟩
    | goto t =>
      obtain ⟨C', hm3, hC', hi3⟩ := hp
      obtain ⟨W4, hr, hm4, hC4, nd, nd1, hl4, hk4, hs4⟩ := fin (some (.goto t)) C' W3 hm3 hC'
      exact ⟨_, W4, hr, _, hm4, hC4, .inr ⟨rfl, .goto t, C', fun _ => Iff.rfl, nd, nd1, (hIx _).on hi3 hs4, hl4, hk4⟩⟩
    | panic ch => exact hp.elim
    | outgrown => exact hp.elim
  · rw [hJ]
    exact ⟨C0, fun _ => Iff.rfl, fun h => by have := hlt0 _ h; omega, fun h => by have := hlt0 _ h; omega, hI1, hL1, hK1⟩
  · -- behind it
    rw [hJ, hJx]
    have hYl : ∀ b, Y b → b ≠ D + 1 ∧ b ≠ D := fun b hb => by have := hX b (hY b hb); omega
    have fin : ∀ (C C' : Nat → Prop) (W2 : World) (r : Loop), (∀ b, C b ↔ C' b ∨ b = D ∨ b = D + 1) → ¬ C' D → ¬ C' (D + 1) → (∀ b, C b → (C0 b ∨ b = D ∨ b = D + 1) ∨ W1.heap.size ≤ b) → Mv (fun b => (C0 b ∨ b = D ∨ b = D + 1) ∨ Y b) W1 W2 → W2.heap[D]? = some (.deferred (some [])) →
        (∀ b, C' b → C0 b ∨ w.heap.size + 2 ≤ b) ∧ Mv (fun b => C0 b ∨ Y b) w (W2.putObj (D + 1) (.loop r)) ∧ (W2.putObj (D + 1) (.loop r)).heap[w.heap.size]? = some (.deferred (some [])) ∧ ¬ C' w.heap.size ∧ (∀ b, b < w.heap.size → (W2.putObj (D + 1) (.loop r)).heap[b]? = W2.heap[b]?) ∧ (∀ b, C' b → (W2.putObj (D + 1) (.loop r)).heap[b]? = W2.heap[b]?) := fun C C' W2 r hC nd nd1 hCn hm hk => by
      refine ⟨fun b hb => ?_, ?_, ?_, by rw [← hD]; exact nd, fun b hb => World.putObj_heap_other (by omega), fun b hb => World.putObj_heap_other (fun e => nd1 (e ▸ hb))⟩
      · rcases hCn b ((hC b).2 (.inl hb)) with (h | rfl | rfl) | h
        · exact .inl h
        · exact absurd hb nd
        · exact absurd hb nd1
        · exact .inr (by omega)
      · have hw : Mv (fun b => C0 b ∨ Y b) w W2 := (hm1.mono (fun _ _ h => h.elim)).trans hm (fun b hb h => by
          rcases h with (h | h | h) | h
          · exact .inl h
          · omega
          · omega
          · exact .inr h)
        exact hw.trans (Mv.putObj _ _ _) (fun b hb (h : b = D + 1) => by omega)
      · rw [← hD]; exact (World.putObj_heap_other (by omega)).trans hk
    rintro e W2 ⟨⟨v, rfl⟩, C, hCn, hm, hz, (⟨C', hC, nd, nd1, hi, hl, hk⟩ | ⟨pre, hpre, c, C', hC, nd, nd1, hi, hl, hk⟩)⟩
    · refine ⟨none, _, by have := run_endLoop (P := P) hl (by rw [hrec]; simp); rw [hrec] at this; exact this, ?_⟩
      obtain ⟨f1, f2, f3, f4, f5, f6⟩ := fin C C' W2 { rec .ready none with state := .exhausted } hC nd nd1 hCn hm hk
      have := hdone C' _ f1 f2 (hZ _ _ hz f5) (hI.on hi f6) f3 f4
      rw [← hD, hrec] at this
      exact this
    · refine ⟨some c, _, by have := run_endLoop (P := P) hl (by rw [hrec]; simp); rw [hrec] at this; exact this, ?_⟩
      obtain ⟨f1, f2, f3, f4, f5, f6⟩ := fin C C' W2 { rec .done (some c) with state := .exhausted } hC nd nd1 hCn hm hk
      have := hstop c pre C' _ hpre f1 f2 (hZ _ _ hz f5) ((hIx c).on hi f6) f3 f4
      rw [← hD, hrec] at this
      exact this

end Go.Proofs.YtdfldfnjjjcleaaDoor
