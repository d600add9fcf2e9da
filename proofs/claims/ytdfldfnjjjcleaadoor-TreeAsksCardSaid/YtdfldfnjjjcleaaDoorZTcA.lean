/-
  Layer 10, the landed package: Cost's map: what is known of lists of Kids, by where they lie and how many they are.
-/
import Derived.Test.YtdfldfnjjjcleaaDoorZTaA
import Derived.Laws.StructEq
import Derived.MapKept
import Derived.Test.YtdfldfnjjjcleaaDoorZTeC
import Derived.BigRegion
import Derived.Deep.DeepCutAuto
import Derived.Deep.CutBlock

namespace Go.Proofs.YtdfldfnjjjcleaaDoor
open Go.RowKit Go.Deep

/-- a list of Kids: its block, its place, how many -/
abbrev KeyC := Nat × Nat × Nat
def keyV (k : KeyC) : Value := .agg #[.pointer (some ⟨k.1, k.2.1, none⟩), .int .i64 (k.2.2 : Int)]
def lookC (k : KeyC) : List (KeyC × Int) → Nat → Option (Nat × Value)
  | [], _ => none
  | p :: ps, i => if k = p.1 then some (i, .int .i64 p.2) else lookC k ps (i + 1)
def getC (k : KeyC) : List (KeyC × Int) → Option Int
  | [] => none
  | p :: ps => if k = p.1 then some p.2 else getC k ps
theorem lookC_cases (k : KeyC) : (E : List (KeyC × Int)) → (i : Nat) → (lookC k E i = none ∧ getC k E = none) ∨
    ∃ j x, lookC k E i = some (i + j, .int .i64 x) ∧ getC k E = some x ∧ E[j]? = some (k, x) ∧ ∀ y k', getC k' (E.set j (k, y)) = if k' = k then some y else getC k' E
  | [], i => .inl ⟨rfl, rfl⟩
  | p :: ps, i => by
    by_cases e : k = p.1
    · refine .inr ⟨0, p.2, by rw [lookC, if_pos e]; rfl, by rw [getC, if_pos e], by rw [e]; rfl, fun y k' => ?_⟩
      rw [List.set_cons_zero, getC]
      by_cases e2 : k' = k
      · rw [if_pos e2, if_pos e2]
      · rw [if_neg e2, if_neg e2, getC, if_neg (fun x => e2 (x.trans e.symm))]
    · rcases lookC_cases k ps (i + 1) with ⟨h1, h2⟩ | ⟨j, x, h1, h2, h3, h4⟩
      · exact .inl ⟨by rw [lookC, if_neg e]; exact h1, by rw [getC, if_neg e]; exact h2⟩
      · refine .inr ⟨j + 1, x, by rw [lookC, if_neg e, h1, show i + 1 + j = i + (j + 1) by omega], by rw [getC, if_neg e]; exact h2, h3, fun y k' => ?_⟩
        rw [List.set_cons_succ, getC, getC, h4]
        by_cases e2 : k' = k
        · rw [if_pos e2, if_pos e2, if_neg (by rw [e2]; exact e)]
        · rw [if_neg e2, if_neg e2]
theorem getC_app {k : KeyC} {y : Int} (k' : KeyC) : {E : List (KeyC × Int)} → getC k E = none → getC k' (E ++ [(k, y)]) = if k' = k then some y else getC k' E
  | [], _ => by
    rw [List.nil_append, getC]
    rfl
  | p :: ps, h => by
    rw [getC] at h
    by_cases e : k = p.1
    · rw [if_pos e] at h
      cases h
    · rw [if_neg e] at h
      rw [List.cons_append, getC, getC, getC_app k' h]
      by_cases e2 : k' = k
      · rw [if_pos e2, if_pos e2, if_neg (by rw [e2]; exact e)]
      · rw [if_neg e2, if_neg e2]

theorem run_eq_key (w : World) (a b : KeyC) (ha : Cl w a.1) (hb : Cl w b.1) : (Op.equal 80 (keyV a) (keyV b)).run Tryd.prog w = .ok (decide (a = b)) w := by
  obtain ⟨a1, a2, a3⟩ := a
  obtain ⟨b1, b2, b3⟩ := b
  obtain ⟨ca, ta, ha⟩ := ha
  obtain ⟨cb, tb, hb⟩ := hb
  have hp := Tryd.underlying78
  have hi := Tryd.underlying3
  obtain ⟨j, hj, hj0, hj1, hj2⟩ := info_parts Tryd.infoNode
  have e3 : ∀ (x y : Int) (w : World), (Op.equalIn 9999 3 (.int .i64 x) (.int .i64 y)).run Tryd.prog w = .ok (x == y) w := fun x y w => run_equalIn_int w 9998 _ _ _ x y hi
  have e5 : ∀ d : Nat, (Op.equalIn (d + 1) 78 (.pointer (some ⟨a1, a2, none⟩)) (.pointer (some ⟨b1, b2, none⟩))).run Tryd.prog w = .ok (decide (a1 = b1 ∧ a2 = b2)) w := fun d => by
    by_cases e : a1 = b1 ∧ a2 = b2
    · obtain ⟨rfl, rfl⟩ := e
      simp [Op.equalIn, run_underlying hp, sizeOf, typeInfo, hj, run_sameAddr_same]
    · have hne : (⟨a1, a2, none⟩ : Addr) ≠ ⟨b1, b2, none⟩ := fun x => by
        injection x with x1 x2
        exact e ⟨x1, x2⟩
      rw [decide_eq_false e]
      simp [Op.equalIn, run_underlying hp, sizeOf, typeInfo, hj, hj1, run_sameAddr_other w hne ha hb]
  have e4 : (Op.equalIn 9999 78 (.pointer (some ⟨a1, a2, none⟩)) (.pointer (some ⟨b1, b2, none⟩))).run Tryd.prog w = .ok (decide (a1 = b1 ∧ a2 = b2)) w := e5 9998
  unfold Op.equal Op.maxDepth keyV
  rw [show (10000 : Nat) = 9999 + 1 from rfl, run_equalIn_struct _ _ _ _ _ (by kernel_rfl) (by kernel_rfl)]
  simp [Program.fieldsOf, Tryd.underlying80, Op.eqFields, part, isAgg, run_underlying hi, run_underlying hp, e3, e4]
  by_cases k1 : a1 = b1 <;> by_cases k2 : a2 = b2 <;> by_cases k3 : a3 = b3
  all_goals first | (simp [k1, k2, k3]; done) | (simp [k1, k2, k3]; omega)

/-- the map's entries -/
def MapC (w : World) (r : Nat) (E : List (KeyC × Int)) : Prop :=
  ∃ es clock, w.heap[r]? = some (.map es clock) ∧ es.toList.map (fun e => (e.key, e.val)) = E.map (fun p => (keyV p.1, Value.int .i64 p.2))
theorem MapC.keep {w w' : World} {r : Nat} {E : List (KeyC × Int)} (h : MapC w r E) (hk : w'.heap[r]? = w.heap[r]?) : MapC w' r E := by
  obtain ⟨es, c, h1, h2⟩ := h
  exact ⟨es, c, hk.trans h1, h2⟩
theorem run_asking (w : World) (k : KeyC) (hk : Cl w k.1) : ∀ (es : List MapEntry) (E : List (KeyC × Int)) (i : Nat), es.map (fun e => (e.key, e.val)) = E.map (fun p => (keyV p.1, Value.int .i64 p.2)) → (∀ p ∈ E, Cl w p.1.1) → (Instr.findAsking 80 (keyV k) es i).run Tryd.prog w = .ok (lookC k E i) w := by
  intro es
  induction es with
  | nil =>
    intro E i h _
    cases E with
    | nil => rfl
    | cons p ps => simp at h
  | cons e es ih =>
    intro E i h hE
    cases E with
    | nil => simp at h
    | cons p ps =>
      simp only [List.map_cons, List.cons.injEq, Prod.mk.injEq] at h
      obtain ⟨⟨h1, h2⟩, h3⟩ := h
      have hq := run_eq_key w k p.1 hk (hE p (List.mem_cons_self ..))
      rw [← h1] at hq
      unfold Instr.findAsking
      simp only [Sem.run_bind, hq, Result.andThen_ok]
      rw [lookC]
      by_cases e2 : k = p.1
      · rw [if_pos e2, decide_eq_true e2, if_pos rfl, h2]
        rfl
      · rw [if_neg e2, decide_eq_false e2, if_neg (by decide)]
        exact ih ps (i + 1) h3 (fun q hq => hE q (List.mem_cons_of_mem _ hq))
theorem run_findC (w : World) (k : KeyC) (hk : Cl w k.1) {es : Array MapEntry} {E : List (KeyC × Int)} (h : es.toList.map (fun e => (e.key, e.val)) = E.map (fun p => (keyV p.1, Value.int .i64 p.2))) (hE : ∀ p ∈ E, Cl w p.1.1) : (Instr.findKey 80 (keyV k) es.toList).run Tryd.prog w = .ok (lookC k E 0) w := by
  have ha := run_asking w k hk es.toList E 0 h hE
  unfold Instr.findKey
  rw [Sem.run_bind, run_underlying Tryd.underlying80, Result.andThen_ok]
  cases hes : es.toList with
  | nil =>
    rw [hes] at h
    cases E with
    | nil => rfl
    | cons p ps => simp at h
  | cons e r =>
    rw [hes] at ha
    have hn : Instr.findNow (Tryd.prog.underlying 80 |>.getD default) (keyV k) (e :: r) 0 = none := by
      rw [Tryd.underlying80]
      rfl
    rw [Tryd.underlying80] at hn
    simp only [Option.getD_some] at hn
    rw [hn]
    exact ha
theorem run_checkC (w : World) (e : Bool) (k : KeyC) : (Instr.checkKey e 10000 80 (keyV k)).run Tryd.prog w = .ok () w := by
  have hp := Tryd.underlying78
  have hi := Tryd.underlying3
  have h1 : ∀ (v : Value), (Instr.checkKey e 9999 3 v).run Tryd.prog w = .ok () w := fun v => by
    rw [show (9999 : Nat) = 9998 + 1 from rfl]
    unfold Instr.checkKey
    simp [run_underlying hi]
  have h2 : ∀ (v : Value), (Instr.checkKey e 9999 78 v).run Tryd.prog w = .ok () w := fun v => by
    rw [show (9999 : Nat) = 9998 + 1 from rfl]
    unfold Instr.checkKey
    simp [run_underlying hp]
  rw [show (10000 : Nat) = 9999 + 1 from rfl]
  unfold Instr.checkKey keyV
  simp [run_underlying Tryd.underlying80, part, isAgg, run_underlying hi, run_underlying hp, h1, h2]
theorem run_lookC {w : World} {r : Nat} {E : List (KeyC × Int)} (h : MapC w r E) (k : KeyC) (hk : Cl w k.1) (hE : ∀ p ∈ E, Cl w p.1.1) : (Instr.lookup 76 (.map (some r)) (keyV k) true).run Tryd.prog w = .ok (.tuple #[.int .i64 ((getC k E).getD 0), .bool (getC k E).isSome]) w := by
  obtain ⟨es, c, hb, he⟩ := h
  have hg : (getObj r).run Tryd.prog w = .ok (.map es c) w := by simp [getObj, Sem.run, hb]
  have hz : (zeroValue 3).run Tryd.prog w = .ok (.int .i64 0) w := by kernel_rfl
  unfold Instr.lookup
  simp [run_underlying Tryd.underlying76, hg, run_checkC, run_findC w k hk he hE]
  rcases lookC_cases k E 0 with ⟨h1, h2⟩ | ⟨j, x, h1, h2, -⟩
  · rw [h1, h2]
    simp [hz]
  · rw [h1, h2]
    simp
/-- a store: of this key alone it is another one then -/
theorem run_putC {w : World} {r : Nat} {E : List (KeyC × Int)} (h : MapC w r E) (k : KeyC) (x : Int) (hk : Cl w k.1) (hE : ∀ p ∈ E, Cl w p.1.1) : ∃ w' E', (Instr.mapUpdate 76 (.map (some r)) (keyV k) (.int .i64 x)).run Tryd.prog w = .ok () w' ∧ MapC w' r E' ∧ (∀ k', getC k' E' = if k' = k then some x else getC k' E) ∧ (∀ p ∈ E', p.1 = k ∨ p ∈ E) ∧ w.grownBy w' (some r) ∧ w'.heap.size = w.heap.size := by
  obtain ⟨es, c, hb, he⟩ := h
  have hlt := (Array.getElem?_eq_some_iff.1 hb).1
  have hg : (getObj r).run Tryd.prog w = .ok (.map es c) w := by simp [getObj, Sem.run, hb]
  have hs : ∀ o, (setObj r o).run Tryd.prog w = .ok () { w with heap := w.heap.setIfInBounds r o } := fun o => by simp [setObj, Sem.run, hb]
  have hgr : ∀ o, w.grownBy { w with heap := w.heap.setIfInBounds r o } (some r) := fun o => ⟨rfl, rfl, rfl, by simp, fun j _ hj => by simp [show r ≠ j from fun e => hj (by rw [e])]⟩
  rcases lookC_cases k E 0 with ⟨h1, h2⟩ | ⟨j, y, h1, h2, h3, h4⟩
  · refine ⟨{ w with heap := w.heap.setIfInBounds r (.map (es.push { key := keyV k, val := .int .i64 x, born := c }) (c + 1)) }, E ++ [(k, x)], ?_, ⟨es.push { key := keyV k, val := .int .i64 x, born := c }, c + 1, by simp [hlt], by simp [he]⟩, fun k' => getC_app k' h2, fun p hp => ?_, hgr _, by simp⟩
    · unfold Instr.mapUpdate
      simp [run_underlying Tryd.underlying76, hg, run_checkC, run_findC w k hk he hE, h1, hs]
    · rcases List.mem_append.1 hp with hp | hp
      · exact .inr hp
      · exact .inl (by simp at hp; rw [hp])
  · have hje : j < es.size := by
      have h5 := congrArg List.length he
      have h6 := (List.getElem?_eq_some_iff.1 h3).1
      simp at h5
      omega
    have hkey : ∀ e, es[j]? = some e → e.key = keyV k := fun e hh => by
      have h5 := congrArg (fun l => l[j]?) he
      simp only [List.getElem?_map, h3, Array.getElem?_toList, hh, Option.map_some, Option.some.injEq, Prod.mk.injEq] at h5
      exact h5.1
    rw [Nat.zero_add] at h1
    refine ⟨{ w with heap := w.heap.setIfInBounds r (.map (es.modify j fun e => { e with key := keyV k, val := .int .i64 x }) c) }, E.set j (k, x), ?_, ⟨es.modify j fun e => { e with key := keyV k, val := .int .i64 x }, c, by simp [hlt], ?_⟩, h4 x, fun p hp => ?_, hgr _, by simp⟩
    · have hst : ∀ o, (Instr.keyThatStays (keyV k) (keyV k)).run Tryd.prog o = .ok (keyV k) o := fun o => by
        unfold Instr.keyThatStays
        simp [Instr.sameBits, keyV]
      have hgk : ((es[j]?).map (·.key)).getD (keyV k) = keyV k := by
        rw [Array.getElem?_eq_getElem hje]
        exact hkey _ (Array.getElem?_eq_getElem hje)
      unfold Instr.mapUpdate
      simp only [Sem.run_bind, run_underlying Tryd.underlying76, hg, run_checkC, run_findC w k hk he hE, h1, Result.andThen_ok]
      simp only [hgk, hst, Result.andThen_ok, hs]
    · refine List.ext_getElem? (fun i => ?_)
      have h5 := congrArg (fun l => l[i]?) he
      simp only [List.getElem?_map, Array.getElem?_toList] at h5 ⊢
      rw [Array.getElem?_modify, List.getElem?_set]
      by_cases e : j = i
      · subst e
        rw [Array.getElem?_eq_getElem hje, if_pos rfl]
        have h6 := (List.getElem?_eq_some_iff.1 h3).1
        simp [h6]
      · rw [if_neg e, if_neg e]
        exact h5
    · rcases List.mem_or_eq_of_mem_set hp with e | e
      · exact .inr e
      · exact .inl (by rw [e])

end Go.Proofs.YtdfldfnjjjcleaaDoor

namespace Go.Proofs.YtdfldfnjjjcleaaDoor
open Go.RowKit Go.Deep

/-- what a list of Kids costs -/
def sumK (ks : List Tr) : Nat := costAll ks 0
theorem cost_min : (ks : List Tr) → (n : Nat) → n ≤ 9007199254740992 → costAll ks n = min (n + (ks.map costT).sum) 9007199254740992
  | [], n, h => by
    unfold costAll
    simp
    omega
  | t :: r, n, h => by
    unfold costAll
    rw [cost_min r _ (by omega), List.map_cons, List.sum_cons]
    omega
theorem sumK_le (ks : List Tr) : sumK ks ≤ 9007199254740992 := by
  unfold sumK
  rw [cost_min ks 0 (by omega)]
  omega
theorem costAll_sum (ks : List Tr) (n : Nat) (h : n ≤ 9007199254740992) : costAll ks n = min (n + sumK ks) 9007199254740992 := by
  unfold sumK
  rw [cost_min ks n h, cost_min ks 0 (by omega)]
  omega
theorem sumK_snoc (ks : List Tr) (t : Tr) : sumK (ks ++ [t]) = min (sumK ks + costT t) 9007199254740992 := by
  unfold sumK
  rw [cost_min _ 0 (by omega), cost_min _ 0 (by omega), List.map_append, List.sum_append]
  simp
  omega

/-! ### one reading -/
theorem numS_two {q : IntKind} {w : World} {B B' : Nat} {A : Option Addr} {n c : Nat} {l l' : List Int} (h : NumS q w B (.slice A n c) l) (h' : NumS q w B' (.slice A n c) l') : l = l' := by
  obtain ⟨A1, c1, e1, -, -, hr⟩ := h
  obtain ⟨A2, c2, e2, -, -, hr'⟩ := h'
  injection e1 with f1 f2 f3
  injection e2 with g1 g2 g3
  subst f1 g1
  refine List.ext_getElem (by omega) (fun j h1 h2 => ?_)
  obtain ⟨b, off, rfl, -, hc⟩ := hr (by omega)
  obtain ⟨b', off', e, -, hc'⟩ := hr' (by omega)
  cases e
  have k1 := hc j h1
  have k2 := hc' j h2
  rw [k1, List.getElem?_eq_getElem h1, List.getElem?_eq_getElem h2] at k2
  injection k2 with k2
  injection k2
mutual
theorem TrV.one {w : World} {B B' : Nat} : (t t' : Tr) → (v : Value) → TrV w B t v → TrV w B' t' v → t = t'
  | .mk k z ws bs ks, .mk k' z' ws' bs' ks', v, h, h' => by
    unfold TrV at h h'
    obtain ⟨vw, vb, A, c, e, -, h1, h2, h3, h4, h5⟩ := h
    obtain ⟨vw', vb', A', c', e', -, h1', h2', h3', h4', h5'⟩ := h'
    subst e
    unfold cellsT at e'
    simp only [Value.agg.injEq, Array.mk.injEq, List.cons.injEq, Value.int.injEq, true_and, and_true, Value.slice.injEq] at e'
    obtain ⟨rfl, rfl, rfl, rfl, rfl, hlen, rfl⟩ := e'
    obtain rfl : ws = ws' := by
      obtain ⟨A1, c1, e1, -⟩ := id h1
      subst e1
      exact numS_two h1 h1'
    obtain rfl : bs = bs' := by
      obtain ⟨A1, c1, e1, -⟩ := id h2
      subst e1
      exact numS_two h2 h2'
    have hk : ks = ks' := by
      by_cases hp : 0 < ks.length
      · obtain ⟨b, off, ea, -, hk⟩ := h5 hp
        obtain ⟨b', off', ea', -, hk'⟩ := h5' (by omega)
        rw [ea] at ea'
        cases ea'
        exact KidsAt.one off ks ks' hlen hk hk'
      · rw [List.eq_nil_of_length_eq_zero (by omega : ks.length = 0), List.eq_nil_of_length_eq_zero (by omega : ks'.length = 0)]
    rw [hk]
theorem KidsAt.one {w : World} {B B' b : Nat} : (off : Nat) → (l l' : List Tr) → l.length = l'.length → KidsAt w B b off l → KidsAt w B' b off l' → l = l'
  | _, [], [], _, _, _ => rfl
  | _, [], _ :: _, hl, _, _ => by simp at hl
  | _, _ :: _, [], hl, _, _ => by simp at hl
  | off, t :: r, t' :: r', hl, h, h' => by
    unfold KidsAt at h h'
    obtain ⟨⟨k, z, vw, vb, vk, c0, c1, c2, c3, c4, ht⟩, hr⟩ := h
    obtain ⟨⟨k', z', vw', vb', vk', c0', c1', c2', c3', c4', ht'⟩, hr'⟩ := h'
    rw [c0] at c0'
    rw [c1] at c1'
    rw [c2] at c2'
    rw [c3] at c3'
    rw [c4] at c4'
    cases c0'
    cases c1'
    cases c2'
    cases c3'
    cases c4'
    rw [TrV.one t t' _ ht ht', KidsAt.one (off + 5) r r' (by simpa using hl) hr hr']
end
theorem size_kid : (ks : List Tr) → (j : Nat) → j < ks.length → SizeOf.sizeOf (ks[j]?.getD Tr.nil) < SizeOf.sizeOf ks
  | [], _, h => by simp at h
  | t :: r, 0, _ => by
    simp
    omega
  | t :: r, j+1, h => by
    have := size_kid r j (by simpa using h)
    rw [List.getElem?_cons_succ]
    simp
    omega

end Go.Proofs.YtdfldfnjjjcleaaDoor

namespace Go.Proofs.YtdfldfnjjjcleaaDoor
open Go.RowKit Go.Deep

set_option maxRecDepth 100000 in
set_option maxHeartbeats 1000000 in
theorem sum10_any (a b : Nat) (w : World) (ha : a ≤ 9007199254740992) (hb : b ≤ 9007199254740992) :
    Calls Tryd.prog 35 #[.int .i64 a, .int .i64 b] w fun e w' => e = .returned (.int .i64 ((min (a + b) 9007199254740992 : Nat) : Int)) ∧ w = w' := by
  have HA := Lib.hid (add_any (a : Int) (b : Int) 9007199254740992 w (by omega) (by omega) (by omega) (by omega) (by omega) (by omega))
  by_cases h : a + b ≤ 9007199254740992
  · have e1 : addB (a : Int) (b : Int) 9007199254740992 = true ∧ addV (a : Int) (b : Int) 9007199254740992 = ((min (a + b) 9007199254740992 : Nat) : Int) := by
      have hb1 : addB (a : Int) (b : Int) 9007199254740992 = true := by
        unfold addB
        exact decide_eq_true ⟨by omega, by omega, by omega⟩
      refine ⟨hb1, ?_⟩
      unfold addV
      rw [if_pos hb1]
      omega
    rw [e1.1, e1.2] at HA
    generalize ((min (a + b) 9007199254740992 : Nat) : Int) = x at *
    clear e1 h ha hb
    go_enter Tryd.func35, Tryd.ntmps35
    go_wp2_with fail
    refine HA.out.mono ?_
    rintro e w2 ⟨rfl, rfl⟩
    go_wp2_with fail
    go_ret
    exact ⟨rfl, rfl⟩
  · have e1 : addB (a : Int) (b : Int) 9007199254740992 = false ∧ ((min (a + b) 9007199254740992 : Nat) : Int) = 9007199254740992 := by
      unfold addB
      refine ⟨decide_eq_false (fun hh => ?_), ?_⟩ <;> omega
    rw [e1.1] at HA
    rw [e1.2]
    generalize addV (a : Int) (b : Int) 9007199254740992 = y at *
    clear e1 h ha hb
    go_enter Tryd.func35, Tryd.ntmps35
    go_wp2_with fail
    refine HA.out.mono ?_
    rintro e w2 ⟨rfl, rfl⟩
    go_wp2_with fail
    go_ret
    exact ⟨rfl, rfl⟩

theorem Bx.kept {w w' : World} {b t : Nat} {v : Value} {row : Option Nat} (h : Bx w b t v) (hg : w.grownBy w' row) (hne : row ≠ some b) : Bx w' b t v := (hg.block b h.lt (fun e => hne e.symm)).trans h
/-! ### what Cost knows -/
/-- what lies at a key costs so much -/
def RtC (w0 : World) (k : KeyC) (x : Int) : Prop := ∀ ks : List Tr, ks.length = k.2.2 → KidsAt w0 w0.heap.size k.1 k.2.1 ks → x = (sumK ks : Int)
/-- where Cost is: the trees lie as at first, the map has these entries -/
structure CostI (w0 : World) (mb cb r : Nat) (W : World) (E : List (KeyC × Int)) : Prop where
  bl : Below w0.heap.size w0 W
  bx : CostW W mb cb r
  mp : MapC W r E
  ks : ∀ p ∈ E, p.1.1 < w0.heap.size ∧ Cl w0 p.1.1
  ap : w0.heap.size ≤ r ∧ r ≠ mb ∧ r ≠ cb
def OkC (w0 : World) (E : List (KeyC × Int)) (s : Nat) : Prop := ∀ k x, getC k E = some x → ∀ ks : List Tr, ks.length = k.2.2 → KidsAt w0 w0.heap.size k.1 k.2.1 ks → x = (sumK ks : Int) ∨ s < SizeOf.sizeOf ks
/-- what is new is right -/
def ExtC (w0 : World) (E E' : List (KeyC × Int)) : Prop := ∀ k x, getC k E' = some x → RtC w0 k x ∨ getC k E = some x
theorem ExtC.refl (w0 : World) (E : List (KeyC × Int)) : ExtC w0 E E := fun _ _ h => .inr h
theorem ExtC.trans {w0 : World} {A B C : List (KeyC × Int)} (h : ExtC w0 A B) (k : ExtC w0 B C) : ExtC w0 A C := fun q x hx => (k q x hx).elim .inl (fun h2 => h q x h2)
theorem OkC.ext {w0 : World} {E E' : List (KeyC × Int)} {s : Nat} (h : OkC w0 E s) (k : ExtC w0 E E') : OkC w0 E' s := fun q x hx ks hl hk => (k q x hx).elim (fun h2 => .inl (h2 ks hl hk)) (fun h2 => h q x h2 ks hl hk)
theorem CostI.cl {w0 : World} {mb cb r : Nat} {W : World} {E : List (KeyC × Int)} (h : CostI w0 mb cb r W E) : ∀ p ∈ E, Cl W p.1.1 := fun p hp => (h.ks p hp).2.same (h.bl.block _ (h.ks p hp).1)
theorem CostI.rlt {w0 : World} {mb cb r : Nat} {W : World} {E : List (KeyC × Int)} (h : CostI w0 mb cb r W E) : r < W.heap.size := by
  obtain ⟨es, c, hb, -⟩ := h.mp
  exact (Array.getElem?_eq_some_iff.1 hb).1
theorem CostW.on {W W' : World} {mb cb r : Nat} (h : CostW W mb cb r) (hB : Below W.heap.size W W') : CostW W' mb cb r := ⟨h.map.on hB, h.self.on hB⟩
theorem CostI.on {w0 : World} {mb cb r : Nat} {W W' : World} {E : List (KeyC × Int)} (h : CostI w0 mb cb r W E) (hB : Below W.heap.size W W') : CostI w0 mb cb r W' E :=
  ⟨h.bl.trans (hB.mono h.bl.size), h.bx.on hB, h.mp.keep (hB.block _ h.rlt), h.ks, h.ap⟩
/-- a store into the map -/
theorem CostI.put {w0 : World} {mb cb r : Nat} {W : World} {E : List (KeyC × Int)} (h : CostI w0 mb cb r W E) (k : KeyC) (x : Int) (hk : k.1 < w0.heap.size) (hc : Cl w0 k.1) : ∃ W' E', (Instr.mapUpdate 76 (.map (some r)) (keyV k) (.int .i64 x)).run Tryd.prog W = .ok () W' ∧ CostI w0 mb cb r W' E' ∧ (∀ k', getC k' E' = if k' = k then some x else getC k' E) ∧ Mv (fun b => b = r) W W' ∧ W'.heap.size = W.heap.size := by
  obtain ⟨W', E', h1, h2, h3, h4, h5, h6⟩ := run_putC h.mp k x (hc.same (h.bl.block _ hk)) h.cl
  have hap := h.ap
  refine ⟨W', E', h1, ⟨h.bl.grown h5 h.bl.size (fun b e => by cases e; exact hap.1), ⟨h.bx.map.kept h5 (fun e => by cases e; exact hap.2.1 rfl), h.bx.self.kept h5 (fun e => by cases e; exact hap.2.2 rfl)⟩, h2, fun p hp => ?_, hap⟩, h3, (Mv.of_grown h5).mono (fun b _ e => by cases e; rfl), h6⟩
  rcases h4 p hp with e | e
  · rw [e]
    exact ⟨hk, hc⟩
  · exact h.ks p e

/-- a box of a key -/
def KBox (w : World) (b : Nat) (k : KeyC) : Prop := w.heap[b]? = some (.cells #[.pointer (some ⟨k.1, k.2.1, none⟩), .int .i64 (k.2.2 : Int)] 80 (0, 0))
theorem KBox.new (w : World) (k : KeyC) : KBox (w.alloc (.cells #[.pointer (some ⟨k.1, k.2.1, none⟩), .int .i64 (k.2.2 : Int)] 80)) w.heap.size k := by unfold KBox; rw [blk_alloc_new]
theorem KBox.lt {w : World} {b : Nat} {k : KeyC} (h : KBox w b k) : b < w.heap.size := (Array.getElem?_eq_some_iff.1 h).1
theorem KBox.cells {w : World} {b : Nat} {k : KeyC} (h : KBox w b k) : w.cell? ⟨b, 0, none⟩ = some (.pointer (some ⟨k.1, k.2.1, none⟩)) ∧ w.cell? ⟨b, 1, none⟩ = some (.int .i64 (k.2.2 : Int)) := by
  unfold KBox at h
  simp [World.cell?, h]
theorem Mv.of_new {r : Nat} {A B : World} (h : Below A.heap.size A B) : Mv (fun b => b = r) A B := (Mv.of_below h).mono (fun b hb e => absurd hb (by omega))
theorem Mv.andThen {r : Nat} {A B C : World} (h : Mv (fun b => b = r) A B) (k : Mv (fun b => b = r) B C) : Mv (fun b => b = r) A C := h.trans k (fun _ _ e => e)

/-- what Cost's closure promises of a tree -/
def CostK (w0 : World) (mb cb r : Nat) (t : Tr) : Prop :=
  ∀ (lv : Nat) (W : World) (E : List (KeyC × Int)) (s : Nat) (v : Value), TrP w0 (fun b => b < w0.heap.size) t v → lv + highT t ≤ 131072 → CostI w0 mb cb r W E → OkC w0 E s → SizeOf.sizeOf t ≤ s →
    Calls Tryd.prog 33 #[v, .int .i64 (lv : Int), .pointer (some ⟨mb, 0, none⟩), .pointer (some ⟨cb, 0, none⟩)] W fun e W' => e = .returned (.int .i64 ((costT t : Nat) : Int)) ∧ ∃ E', CostI w0 mb cb r W' E' ∧ ExtC w0 E E' ∧ Mv (fun b => b = r) W W'

theorem costK_leaf (w0 : World) (mb cb r : Nat) (k z : Int) (ws bs : List Int) : CostK w0 mb cb r (.mk k z ws bs []) := by
  intro lv W E s v hT _ hI _ _
  have hV : TrV W W.heap.size (.mk k z ws bs []) v := (TrP.trV (B := w0.heap.size) (fun b hb => hb) _ _ hT).on hI.bl
  refine (cost1_leaf k z ws bs v lv W mb cb hV).mono (fun e W' he => ?_)
  obtain ⟨rfl, hB⟩ := he
  exact ⟨by unfold costT costAll; rfl, E, hI.on hB, ExtC.refl _ _, Mv.of_new hB⟩

end Go.Proofs.YtdfldfnjjjcleaaDoor

namespace Go.Proofs.YtdfldfnjjjcleaaDoor
open Go.RowKit Go.Deep

theorem KidsP.at_ {w : World} {P : Nat → Prop} {b : Nat} : (l : List Tr) → (off j : Nat) → j < l.length → KidsP w P b off l →
    ∃ k z A1 n1 c1 A2 n2 c2 A3 n3 c3, w.cell? ⟨b, off + j * 5, none⟩ = some (.int .i64 k) ∧ w.cell? ⟨b, off + j * 5 + 1, none⟩ = some (.int .i64 z) ∧ w.cell? ⟨b, off + j * 5 + 2, none⟩ = some (.slice A1 n1 c1) ∧ w.cell? ⟨b, off + j * 5 + 3, none⟩ = some (.slice A2 n2 c2) ∧ w.cell? ⟨b, off + j * 5 + 4, none⟩ = some (.slice A3 n3 c3) ∧ TrP w P (l[j]?.getD Tr.nil) (.agg (cellsT k z (.slice A1 n1 c1) (.slice A2 n2 c2) (.slice A3 n3 c3)))
  | [], _, _, h, _ => by simp at h
  | t :: r, off, 0, _, h => by
    unfold KidsP at h
    obtain ⟨⟨k, z, vw, vb, vk, c0, c1, c2, c3, c4, ht⟩, -⟩ := h
    obtain ⟨k', z', A1, n1, d1, A2, n2, d2, A3, n3, d3, e⟩ := ht.parts
    unfold cellsT at e
    simp only [Value.agg.injEq, Array.mk.injEq, List.cons.injEq, Value.int.injEq, true_and, and_true] at e
    obtain ⟨rfl, rfl, rfl, rfl, rfl⟩ := e
    exact ⟨_, _, _, _, _, _, _, _, _, _, _, by rw [Nat.zero_mul, Nat.add_zero]; exact c0, by rw [Nat.zero_mul, Nat.add_zero]; exact c1, by rw [Nat.zero_mul, Nat.add_zero]; exact c2, by rw [Nat.zero_mul, Nat.add_zero]; exact c3, by rw [Nat.zero_mul, Nat.add_zero]; exact c4, ht⟩
  | t :: r, off, j+1, hj, h => by
    unfold KidsP at h
    obtain ⟨k, z, A1, n1, d1, A2, n2, d2, A3, n3, d3, h0, h1, h2, h3, h4, ht⟩ := KidsP.at_ r (off + 5) j (by simpa using hj) h.2
    rw [show off + 5 + j * 5 = off + (j + 1) * 5 by omega] at h0 h1 h2 h3 h4
    exact ⟨k, z, A1, n1, d1, A2, n2, d2, A3, n3, d3, h0, h1, h2, h3, h4, by rw [List.getElem?_cons_succ]; exact ht⟩

/-- where Cost is behind its look-up: what all Kids cost, and what is known then -/
def AllC (w0 : World) (mb cb r : Nat) (W : World) (E : List (KeyC × Int)) (wx : World) : Prop := ∃ E', CostI w0 mb cb r wx E' ∧ ExtC w0 E E' ∧ Mv (fun b => b = r) W wx
/-- Kid by Kid -/
def RoundC (w0 : World) (mb cb r tb kb : Nat) (k z : Int) (vw vb vk : Value) (key : KeyC) (W : World) (E3 : List (KeyC × Int)) (wx : World) : Prop :=
  ∃ E', CostI w0 mb cb r wx E' ∧ ExtC w0 E3 E' ∧ Mv (fun b => b = r) W wx ∧ TBox wx tb k z vw vb vk ∧ KBox wx kb key

/-- no tree is dear beyond the bound -/
theorem need_le {w : World} {B : Nat} (t : Tr) (v : Value) (h : TrV w B t v) : needT t ≤ 3000000 := by
  obtain ⟨k, z, ws, bs, ks⟩ := t
  obtain ⟨A1, c1, A2, c2, A3, c3, -, hg, -⟩ := h.parts
  obtain ⟨-, -, g3, g4, g5, -⟩ := hg
  unfold needT Tr.kind Tr.words Tr.kids Tr.bytes
  dsimp only
  split
  · omega
  · split
    · omega
    · omega
theorem costT_le {w : World} {B : Nat} (t : Tr) (v : Value) (h : TrV w B t v) : costT t ≤ 9007199254740992 := by
  have hn := need_le t v h
  obtain ⟨k, z, ws, bs, ks⟩ := t
  unfold costT
  rw [cost_min _ _ (by omega)]
  omega
theorem sumK_take (ks : List Tr) (t : Nat) (h : t < ks.length) : sumK (ks.take (t + 1)) = min (sumK (ks.take t) + costT (ks[t]?.getD Tr.nil)) 9007199254740992 := by
  rw [List.take_succ_eq_append_getElem h, sumK_snoc, List.getElem?_eq_getElem h]
  rfl
theorem TBox.moved {r : Nat} {A B : World} {b : Nat} {k z : Int} {vw vb vk : Value} (h : TBox A b k z vw vb vk) (hM : Mv (fun x => x = r) A B) (hb : b < A.heap.size) (hne : b ≠ r) : TBox B b k z vw vb vk := (hM.same b hb hne).trans h
theorem KBox.moved {r : Nat} {A B : World} {b : Nat} {k : KeyC} (h : KBox A b k) (hM : Mv (fun x => x = r) A B) (hne : b ≠ r) : KBox B b k := (hM.same b h.lt hne).trans h
theorem TBox.lt' {A : World} {b : Nat} {k z : Int} {vw vb vk : Value} (h : TBox A b k z vw vb vk) : b < A.heap.size := (Array.getElem?_eq_some_iff.1 h).1

set_option maxRecDepth 100000 in
set_option maxHeartbeats 4000000 in
theorem costK_some (w0 : World) (mb cb r : Nat) (k z : Int) (ws bs : List Int) (ks : List Tr) (hp : 0 < ks.length) (ih : ∀ j, j < ks.length → CostK w0 mb cb r (ks[j]?.getD Tr.nil)) : CostK w0 mb cb r (.mk k z ws bs ks) := by
  intro lv W E s v hT hlv hI hOk hs
  have hV0 := TrP.trV (B := w0.heap.size) (fun b hb => hb) _ _ hT
  have hV : TrV W W.heap.size (.mk k z ws bs ks) v := hV0.on hI.bl
  have hlen := hV.parts
  have hnb : needT (.mk k z ws bs ks) ≤ 3000000 := by
    obtain ⟨A1, c1, A2, c2, A3, c3, -, hg, -⟩ := hV.parts
    obtain ⟨-, -, g3, g4, g5, -⟩ := hg
    unfold needT Tr.kind Tr.words Tr.kids Tr.bytes
    dsimp only
    split
    · omega
    · split
      · omega
      · omega
  obtain ⟨k0, z0, A1, n1, c1, A2, n2, c2, A3, n3, c3, hv⟩ := hT.parts
  unfold TrP at hT
  obtain ⟨vw, vb, A, c, hv2, hg, -, -, hc1, hc2, h5⟩ := hT
  obtain ⟨b, off, rfl, ⟨hb, hcl⟩, hK⟩ := h5 hp
  have hksz : ks.length ≤ 1000000 := by obtain ⟨-, -, -, -, g5, -⟩ := hg; exact g5
  subst hv
  unfold cellsT at hv2
  simp only [Value.agg.injEq, Array.mk.injEq, List.cons.injEq, Value.int.injEq, true_and, and_true, Value.slice.injEq] at hv2
  obtain ⟨rfl, rfl, rfl, rfl, rfl, rfl, rfl⟩ := hv2
  have hKA : KidsAt w0 w0.heap.size b off ks := KidsP.kidsAt (fun b hb => hb) b off ks hK
  obtain ⟨key, hkey⟩ : ∃ key : KeyC, key = (b, off, ks.length) := ⟨_, rfl⟩
  have hsz : SizeOf.sizeOf ks < SizeOf.sizeOf (Tr.mk k0 z0 ws bs ks) := by simp; omega
  have hhigh : 1 ≤ highT (.mk k0 z0 ws bs ks) ∧ ∀ j, j < ks.length → highT (ks[j]?.getD Tr.nil) + 1 ≤ highT (.mk k0 z0 ws bs ks) := by
    have eh : highT (.mk k0 z0 ws bs ks) = highAll ks := by
      conv => lhs; unfold highT
    rw [eh]
    exact ⟨by have := high_kid ks 0 hp; omega, fun j hj => high_kid ks j hj⟩
  -- what the map says of this key
  have hsum : ∀ x, getC key E = some x → x = (sumK ks : Int) := fun x hx => (hOk key x hx ks (by rw [hkey]) (by rw [hkey]; exact hKA)).elim id (fun h => by omega)
  have hcost : (costT (.mk k0 z0 ws bs ks) : Int) = ((min ((1 + needT (.mk k0 z0 ws bs ks)) + sumK ks) 9007199254740992 : Nat) : Int) := by
    unfold costT
    rw [costAll_sum _ _ (by omega)]
  have hown : ((1 + needT (.mk k0 z0 ws bs ks) : Nat) : Int) = 1 + (needT (.mk k0 z0 ws bs ks) : Int) := by omega
  rw [hcost]
  obtain ⟨nd, hnd⟩ : ∃ nd, nd = needT (.mk k0 z0 ws bs ks) := ⟨_, rfl⟩
  have HN := Lib.hid (fun X (hX : Below W.heap.size W X) => need_any (.mk k0 z0 ws bs ks) _ X (hV.on hX))
  rw [← hnd] at HN hnb ⊢
  have HK := Lib.hid hK
  have HIh := Lib.hid ih
  have HHigh := Lib.hid hhigh
  have HOk := Lib.hid hOk
  have HSum := Lib.hid hsum
  have HSz := Lib.hid (And.intro hsz hs)
  have HKA := Lib.hid hKA
  have HKey := Lib.hid hkey
  have HBn := Lib.hid (And.intro hb hcl)
  have HI := Lib.hid hI
  have hT1 := TBox.new W k0 z0 (.slice A1 n1 c1) (.slice A2 n2 c2) (.slice (some ⟨b, off, none⟩) ks.length c3)
  have hB1 : Below W.heap.size W (W.alloc (.cells (cellsT k0 z0 (.slice A1 n1 c1) (.slice A2 n2 c2) (.slice (some ⟨b, off, none⟩) ks.length c3)) 37)) := (Below.refl _ _).alloc (Nat.le_refl _) _
  obtain ⟨W1, hW1⟩ : ∃ W1, W1 = W.alloc (.cells (cellsT k0 z0 (.slice A1 n1 c1) (.slice A2 n2 c2) (.slice (some ⟨b, off, none⟩) ks.length c3)) 37) := ⟨_, rfl⟩
  rw [← hW1] at hT1 hB1
  have HT1 := Lib.hid hT1
  have HB1 := Lib.hid hB1
  obtain ⟨t0, t1, t2, t3, t4⟩ := hT1.cells
  have hw : IntKind.i64.wrap (1 + (nd : Int)) = 1 + (nd : Int) := IntWalk.i64_in _ (by omega)
  have hl0 : ((lv : Int) == 131072) = false := by
    rw [beq_eq_false_iff_ne]
    have := hhigh.1
    omega
  have hlv2 : lv < 131072 := by have := hhigh.1; omega
  have HLv := Lib.hid hlv
  obtain ⟨n, hn⟩ : ∃ n, n = ks.length := ⟨_, rfl⟩
  have HNl := Lib.hid hn
  rw [← hn] at hp hksz HN HT1 t4 hW1 HIh HHigh HKey ⊢
  have HNc := Lib.hid (show n ≤ c3 by omega)
  obtain ⟨S, hS⟩ : ∃ S, S = sumK ks := ⟨_, rfl⟩
  rw [← hS] at HSum ⊢
  have HS := Lib.hid (And.intro hS (sumK_le ks))
  have hn0 : ((n : Int) == 0) = false := by rw [beq_eq_false_iff_ne]; omega
  have hni : (0 : Int) < (n : Int) := by omega
  obtain ⟨tb, htb⟩ : ∃ tb, tb = W.heap.size := ⟨_, rfl⟩
  have HTb : Hid (tb = W.heap.size) := Lib.hid htb
  rw [← htb] at HT1 t0 t1 t2 t3 t4
  clear hT1 hB1 hV hV0 hK ih hhigh hOk hsum hsz hs hKA hkey hb hcl hI hnd hlv hcost hn hS hlen hg hc1 hc2 h5 hown
  unfold cellsT at HN hW1 ⊢
  go_enter Tryd.func33, Tryd.ntmps33
  go_upto_region 1 with fail
  rw [← hW1, ← htb]
  clear hW1 htb
  go_wp2_with fail
  refine (HN.out W1 HB1.out).mono ?_
  rintro e w2 ⟨rfl, hB2⟩
  have HT2 := Lib.hid (HT1.out.on hB2)
  have HB2 := Lib.hid (HB1.out.trans (hB2.mono HB1.out.size))
  clear hB2 t0 t1 t2 t3 t4
  obtain ⟨t0, t1, t2, t3, t4⟩ := HT2.out.cells
  have HKn : Hid (∀ X : World, KBox (X.alloc (.cells #[.pointer (some ⟨b, off, none⟩), .int .i64 (n : Int)] 80)) X.heap.size key) := Lib.hid (fun X => by
    have := KBox.new X key
    rw [HKey.out] at this ⊢
    exact this)
  go_upto_region 6 with fail
  go_cut [8] (fun s8 wx => ∃ kb, s8 = .pointer (some ⟨kb, 0, none⟩) ∧ KBox wx kb key ∧ w2.heap.size ≤ kb ∧ Below w2.heap.size w2 wx)
  case first => as_aux_lemma =>
    have HBa : ∀ o, Below w2.heap.size w2 (w2.alloc o) := fun o => (Below.refl _ _).alloc (Nat.le_refl _) _
    obtain ⟨q0, q1, q2, q3, q4⟩ := (HT2.out.on (HBa (.cells #[.pointer none, .int .i64 0] 80))).cells
    go_region
    all_goals go_wp2_with fail
    all_goals go_meet
    all_goals exact ⟨_, rfl, by first | exact HKn.out _ | exact HKn.out _, Nat.le_refl _, by first | exact HBa _ | exact (HBa _).drew⟩
  case rest =>
    obtain ⟨kb, rfl, hk3, hkb, hB3⟩ := hcut
    have HK3 := Lib.hid hk3
    have HB3 := Lib.hid (HB2.out.trans (hB3.mono HB2.out.size))
    have HT3 := Lib.hid (HT2.out.on hB3)
    have hI3 := HI.out.on HB3.out
    have HI3 := Lib.hid hI3
    have hLk := run_lookC hI3.mp key ((HBn.out.2).same (hI3.bl.block _ HBn.out.1) |> fun h => by rw [HKey.out]; exact h) hI3.cl
    have HRm := hI3.bx.map.cell
    clear t0 t1 t2 t3 t4 hB3
    obtain ⟨kc0, kc1⟩ := hk3.cells
    obtain ⟨mc0, mf0⟩ := HRm
    have HKv : Hid (keyV key = .agg #[.pointer (some ⟨b, off, none⟩), .int .i64 (n : Int)]) := Lib.hid (by rw [HKey.out]; rfl)
    rw [HKv.out] at hLk
    have hkk : key.1 = b ∧ key.2.1 = off ∧ key.2.2 = n := by rw [HKey.out]; exact ⟨rfl, rfl, rfl⟩
    rw [hkk.1, hkk.2.1] at kc0
    rw [hkk.2.2] at kc1
    clear hk3 hI3 hkk
    obtain ⟨G, hG⟩ : ∃ G, G = getC key E := ⟨_, rfl⟩
    rw [← hG] at hLk
    have HG := Lib.hid hG
    clear hG
    obtain ⟨fd, hfd⟩ : ∃ fd : Bool, fd = G.isSome := ⟨_, rfl⟩
    obtain ⟨xv, hxv⟩ : ∃ xv : Int, xv = G.getD 0 := ⟨_, rfl⟩
    rw [← hfd, ← hxv] at hLk
    have HFd := Lib.hid (And.intro hfd hxv)
    clear hfd hxv
    go_upto_region 8 with fail
    clear hLk kc0 kc1 mc0 mf0
    go_upto_if 37 with fail
    obtain ⟨nf, hnf⟩ : ∃ nf, nf = !fd := ⟨_, rfl⟩
    rw [← hnf]
    have HNf := Lib.hid hnf
    clear hnf
    have HNe : Hid (tb ≠ r ∧ kb ≠ r) := Lib.hid (by
      have h1 := HI.out.rlt
      have h2 := HTb.out
      have h3 := HB2.out.size
      exact ⟨by omega, by omega⟩)
    have HMc : Hid (Mv (fun b => b = r) W wc) := Lib.hid (Mv.of_new HB3.out)
    go_cut [9] (fun s9 wx => s9 = .int .i64 (S : Int) ∧ AllC w0 mb cb r W E wx)
    case first =>
      cases nf with
      | false =>
        have hx : xv = (S : Int) := by
          have h1 := HFd.out
          have h2 := HNf.out
          cases G with
          | none =>
            rw [h1.1] at h2
            simp at h2
          | some x =>
            have h3 := HSum.out x HG.out.symm
            rw [h1.2]
            exact h3
        go_wp2_with fail
        all_goals go_meet
        all_goals exact ⟨by rw [hx], E, HI3.out, ExtC.refl _ _, HMc.out⟩
      | true =>
        have hx0 : G = none ∧ xv = 0 := by
          have h1 := HFd.out
          have h2 := HNf.out
          cases G with
          | none => exact ⟨rfl, h1.2⟩
          | some x =>
            rw [h1.1] at h2
            simp at h2
        obtain ⟨hGn, rfl⟩ := hx0
        obtain ⟨W4, E4, hrun, hI4, hget4, hMv4, hsz4⟩ := HI3.out.put key 9007199254740992 (by rw [HKey.out]; exact HBn.out.1) (by rw [HKey.out]; exact HBn.out.2)
        rw [HKv.out] at hrun
        have hk3 := HK3.out
        obtain ⟨kc0, kc1⟩ := hk3.cells
        have hkk : key.1 = b ∧ key.2.1 = off ∧ key.2.2 = n := by rw [HKey.out]; exact ⟨rfl, rfl, rfl⟩
        rw [hkk.1, hkk.2.1] at kc0
        rw [hkk.2.2] at kc1
        obtain ⟨mc0, mf0⟩ := HI3.out.bx.map.cell
        have HT4 := Lib.hid (HT3.out.moved hMv4 HT3.out.lt' HNe.out.1)
        have HK4 := Lib.hid (hk3.moved hMv4 HNe.out.2)
        have HI4 := Lib.hid hI4
        have HGet4 := Lib.hid hget4
        have HM4 := Lib.hid (HMc.out.andThen hMv4)
        have HOk4 : Hid (OkC w0 E4 (SizeOf.sizeOf ks - 1)) := Lib.hid (by
          intro q x hx us hl hk
          rw [HGet4.out q] at hx
          by_cases e : q = key
          · subst e
            have hq := HKey.out
            rw [hq] at hl hk
            have := KidsAt.one off us ks (by rw [hl]; exact HNl.out) hk HKA.out
            subst this
            exact .inr (by have : 0 < SizeOf.sizeOf us := by cases us <;> simp <;> omega
                           omega)
          · rw [if_neg e] at hx
            have h1 := HSz.out
            exact (HOk.out q x hx us hl hk).elim .inl (fun h2 => .inr (by omega)))
        clear hk3 hI4 hget4 hMv4 hsz4 hkk
        go_upto_region 10 with fail
        clear hrun kc0 kc1 mc0 mf0
        obtain ⟨t0, t1, t2, t3, t4⟩ := HT4.out.cells
        go_wp2_with fail
        go_loopw [9, 43] (fun s9 i wr => ∃ t : Nat, t ≤ n ∧ i = .int .i64 t ∧ s9 = .int .i64 ((sumK (ks.take t) : Nat) : Int) ∧ RoundC w0 mb cb r tb kb k0 z0 (.slice A1 n1 c1) (.slice A2 n2 c2) (.slice (some ⟨b, off, none⟩) n c3) key W E4 wr) (fun _ i _ => n - (intOf i).toNat)
        case atStart => exact ⟨0, by omega, rfl, rfl, E4, HI4.out, ExtC.refl _ _, HM4.out, HT4.out, HK4.out⟩
        case round =>
          obtain ⟨t, ht, rfl, rfl, E5, hI5, hX5, hM5, hT5, hK5⟩ := hrel
          generalize wr = w5 at *
          have HI5 := Lib.hid hI5
          have HX5 := Lib.hid hX5
          have HM5 := Lib.hid hM5
          have HT5 := Lib.hid hT5
          have HK5 := Lib.hid hK5
          clear hI5 hX5 hM5 hT5 hK5 t0 t1 t2 t3 t4
          obtain ⟨t0, t1, t2, t3, t4⟩ := HT5.out.cells
          have HX : Hid (sumK (ks.take t) ≤ 9007199254740992) := Lib.hid (sumK_le _)
          by_cases hlt : t < n
          · have hltk : t < ks.length := by rw [← HNl.out]; exact hlt
            obtain ⟨kk, kz, A4, n4, c4, A5, n5, c5, A6, n6, c6, x0, x1, x2, x3, x4, hTk⟩ := KidsP.at_ ks off t hltk HK.out
            have hVk := TrP.trV (B := w0.heap.size) (fun b hb => hb) _ _ hTk
            have HY := Lib.hid (costT_le _ _ hVk)
            have HNx := Lib.hid (sumK_take ks t hltk)
            have hc := fun i => HI5.out.bl.cell (p := ⟨b, i, none⟩) (by show b < w0.heap.size; exact HBn.out.1)
            have y0 := (hc _).trans x0
            have y1 := (hc _).trans x1
            have y2 := (hc _).trans x2
            have y3 := (hc _).trans x3
            have y4 := (hc _).trans x4
            have hB6 : Below w5.heap.size w5 (w5.alloc (.cells (cellsT kk kz (.slice A4 n4 c4) (.slice A5 n5 c5) (.slice A6 n6 c6)) 37)) := (Below.refl _ _).alloc (Nat.le_refl _) _
            have hN6 := TBox.new w5 kk kz (.slice A4 n4 c4) (.slice A5 n5 c5) (.slice A6 n6 c6)
            obtain ⟨w6, hw6⟩ : ∃ w6, w6 = w5.alloc (.cells (cellsT kk kz (.slice A4 n4 c4) (.slice A5 n5 c5) (.slice A6 n6 c6)) 37) := ⟨_, rfl⟩
            rw [← hw6] at hB6 hN6
            have HI6 := Lib.hid (HI5.out.on hB6)
            have HM6 := Lib.hid (HM5.out.andThen (Mv.of_new hB6))
            have HT6 := Lib.hid (HT5.out.on hB6)
            have HK6 := Lib.hid ((HK5.out.moved (Mv.of_new hB6) HNe.out.2))
            have HC := Lib.hid ((HIh.out t hlt) (lv + 1) w6 E5 (SizeOf.sizeOf ks - 1) _ hTk (by
              have h1 := HHigh.out.2 t hlt
              have h2 := HLv.out
              omega) HI6.out (HOk4.out.ext HX5.out) (by
              have h1 := size_kid ks t hltk
              omega))
            obtain ⟨X, hX⟩ : ∃ X, X = sumK (ks.take t) := ⟨_, rfl⟩
            obtain ⟨Y, hY⟩ : ∃ Y, Y = costT (ks[t]?.getD Tr.nil) := ⟨_, rfl⟩
            rw [← hX] at HNx HX ⊢
            rw [← hY] at HNx HY HC
            have hlw : IntKind.i64.wrap ((lv : Int) + 1) = (lv : Int) + 1 := IntWalk.i64_in _ (by omega)
            rw [show ((lv + 1 : Nat) : Int) = (lv : Int) + 1 from by omega] at HC
            have i1 : (t : Int) < (n : Int) := by omega
            obtain ⟨q0, q1, q2, q3, q4⟩ := hN6.cells
            obtain ⟨cc0, cf0⟩ := HI6.out.bx.self.cell
            unfold cellsT at hw6 HC
            clear hTk hVk x0 x1 x2 x3 x4 hc hB6 hN6 hX hY hltk
            go_upto_region 13 with fail
            rw [← hw6]
            clear hw6 y0 y1 y2 y3 y4
            go_wp2_with fail
            refine HC.out.mono ?_
            rintro e w7 ⟨rfl, E7, hI7, hX7, hM7⟩
            have HI7 := Lib.hid hI7
            have HX7 := Lib.hid (HX5.out.trans hX7)
            have HM7 := Lib.hid (HM6.out.andThen hM7)
            have HT7 := Lib.hid (HT6.out.moved hM7 HT6.out.lt' HNe.out.1)
            have HK7 := Lib.hid (HK6.out.moved hM7 HNe.out.2)
            clear hI7 hX7 hM7 q0 q1 q2 q3 q4 cc0 cf0 t0 t1 t2 t3 t4
            go_wp2_with fail
            refine (sum10_any X Y w7 HX.out HY.out).mono ?_
            rintro e w8 ⟨rfl, rfl⟩
            go_wp2_with fail
            go_roundw
            case rel => exact ⟨t + 1, by omega, by go_num, by rw [HNx.out], E7, HI7.out, HX7.out, HM7.out, HT7.out, HK7.out⟩
            case measure => simp [intOf]; omega
          · obtain rfl : t = n := by omega
            have hall : ks.take t = ks := List.take_of_length_le (by rw [← HNl.out]; exact Nat.le_refl _)
            rw [hall, ← HS.out.1]
            have i1 : ¬ (t : Int) < (t : Int) := by omega
            obtain ⟨W9, E9, hrun, hI9, hget9, hMv9, hsz9⟩ := HI5.out.put key (S : Int) (by rw [HKey.out]; exact HBn.out.1) (by rw [HKey.out]; exact HBn.out.2)
            rw [HKv.out] at hrun
            obtain ⟨kc0, kc1⟩ := HK5.out.cells
            have hkk : key.1 = b ∧ key.2.1 = off ∧ key.2.2 = t := by rw [HKey.out]; exact ⟨rfl, rfl, rfl⟩
            rw [hkk.1, hkk.2.1] at kc0
            rw [hkk.2.2] at kc1
            obtain ⟨mc0, mf0⟩ := HI5.out.bx.map.cell
            have HI9 := Lib.hid hI9
            have HGet9 := Lib.hid hget9
            have HM9 := Lib.hid (HM5.out.andThen hMv9)
            clear hI9 hget9 hMv9 hsz9 hkk hall
            go_wp2_with fail
            all_goals go_meet
            all_goals refine ⟨rfl, E9, HI9.out, ?_, HM9.out⟩
            intro q x hx
            rw [HGet9.out q] at hx
            by_cases e : q = key
            · subst e
              rw [if_pos rfl] at hx
              cases hx
              left
              intro us hl hk
              have hq := HKey.out
              rw [hq] at hl hk
              have := KidsAt.one off us ks (by rw [hl]; exact HNl.out) hk HKA.out
              subst this
              rw [HS.out.1]
            · rw [if_neg e] at hx
              refine (HX5.out q x hx).elim .inl (fun h2 => ?_)
              rw [HGet4.out q, if_neg e] at h2
              exact .inr h2
    case rest =>
      obtain ⟨rfl, E', hI', hX', hM'⟩ := hcut
      have HF := sum10_any (1 + nd) S wc (by omega) (by have := HS.out; omega)
      rw [show ((1 + nd : Nat) : Int) = 1 + (nd : Int) by omega] at HF
      go_wp2_with fail
      refine HF.mono ?_
      rintro e w ⟨rfl, rfl⟩
      go_wp2_with fail
      go_ret
      exact ⟨rfl, E', hI', hX', hM'⟩

end Go.Proofs.YtdfldfnjjjcleaaDoor

namespace Go.Proofs.YtdfldfnjjjcleaaDoor
open Go.RowKit Go.Deep

theorem costK_all (w0 : World) (mb cb r : Nat) : (n : Nat) → (t : Tr) → SizeOf.sizeOf t ≤ n → CostK w0 mb cb r t
  | 0, .mk k z ws bs ks, hn => by simp at hn
  | n+1, .mk k z ws bs ks, hn => by
    by_cases hp : 0 < ks.length
    · exact costK_some w0 mb cb r k z ws bs ks hp (fun j hj => costK_all w0 mb cb r n _ (deep_kids hn hj))
    · rw [List.eq_nil_of_length_eq_zero (by omega : ks.length = 0)]
      exact costK_leaf w0 mb cb r k z ws bs

/-- Cost of a tree that lies whole in blocks of its own -/
theorem cost_any (t : Tr) (v : Value) (w : World) (h : TrP w (fun b => b < w.heap.size) t v) (hh : highT t ≤ 131072) :
    Calls Tryd.prog 19 #[v] w fun e w' => e = .returned (.int .i64 ((costT t : Nat) : Int)) ∧ Below w.heap.size w w' :=
  cost_wrap t v _ w (TrP.trV (B := w.heap.size) (fun b hb => hb) _ _ h) (fun W mb cb r hW hm hB hr h1 h2 =>
    (costK_all w mb cb r _ t (Nat.le_refl _) 0 W [] (SizeOf.sizeOf t) v h (by omega) ⟨hB, hW, ⟨#[], 0, hm, rfl⟩, fun p hp => by simp at hp, ⟨hr, h1, h2⟩⟩ (fun q x hx => by simp [getC] at hx) (Nat.le_refl _)).mono (fun e w' he => ⟨he.1, by
      obtain ⟨-, E', hI, -, -⟩ := he
      exact hI.bl⟩))

end Go.Proofs.YtdfldfnjjjcleaaDoor
