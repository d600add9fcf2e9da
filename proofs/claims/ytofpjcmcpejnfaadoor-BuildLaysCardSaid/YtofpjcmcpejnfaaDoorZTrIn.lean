/-
  Layer 8: a tree that came in, of whatever size.
-/
import Derived.Test.YtofpjcmcpejnfaaDoorZMem
import Derived.Test.YtofpjcmcpejnfaaDoorZWord
import Derived.Deep.Slices
import Derived.OpenShut
import Derived.SizedLaws

namespace Go.Proofs.YtofpjcmcpejnfaaDoor
open Go.ChangeShapes Go.WideShapes Go.RowKit Go.Deep

/-- what every number of a tree that came in is, and how many there may be -/
def GoodW (k z : Int) (ws bs : List Int) (n : Nat) : Prop :=
  In64 k ∧ In64 z ∧ ws.length ≤ 140737488351232 ∧ bs.length ≤ 140737488351232 ∧ n ≤ 140737488351232 ∧ (∀ x ∈ ws, 0 ≤ x ∧ x ≤ 18446744073709551615) ∧ (∀ x ∈ bs, 0 ≤ x ∧ x ≤ 255)
mutual
/-- the value v is the tree t, all of it below block B; its lists may be as long as there is room -/
def TrW (w : World) (B : Nat) : Tr → Value → Prop
  | .mk k z ws bs ks, v => ∃ vw vb A c, v = .agg (cellsT k z vw vb (.slice A ks.length c)) ∧ GoodW k z ws bs ks.length ∧ NumS .u64 w B vw ws ∧ Bytes w B vb bs ∧ ks.length ≤ c ∧ c ≤ 9223372036854775807 ∧
      (0 < ks.length → ∃ b off, A = some ⟨b, off, none⟩ ∧ b < B ∧ KidsW w B b off ks)
def KidsW (w : World) (B b : Nat) : Nat → List Tr → Prop
  | _, [] => True
  | off, t :: r => (∃ k z vw vb vk, w.cell? ⟨b, off, none⟩ = some (.int .i64 k) ∧ w.cell? ⟨b, off + 1, none⟩ = some (.int .i64 z) ∧ w.cell? ⟨b, off + 2, none⟩ = some vw ∧ w.cell? ⟨b, off + 3, none⟩ = some vb ∧ w.cell? ⟨b, off + 4, none⟩ = some vk ∧ TrW w B t (.agg (cellsT k z vw vb vk))) ∧ KidsW w B b (off + 5) r
end
mutual
/-- things, words and bytes, all together -/
def total : Tr → Nat
  | .mk _ _ ws bs ks => 1 + ws.length + bs.length + totalAll ks
def totalAll : List Tr → Nat
  | [] => 0
  | t :: r => total t + totalAll r
end
theorem total_pos (t : Tr) : 0 < total t := by
  obtain ⟨k, z, ws, bs, ks⟩ := t
  unfold total
  omega
theorem totalAll_len : (l : List Tr) → l.length ≤ totalAll l
  | [] => by simp
  | t :: r => by
    have h1 := total_pos t
    have h2 := totalAll_len r
    unfold totalAll
    simp only [List.length_cons]
    omega
mutual
/-- one that has few things is one of those that the walks are about -/
theorem TrW.small {w : World} {B : Nat} : (t : Tr) → (v : Value) → TrW w B t v → total t ≤ 1000000 → TrV w B t v
  | .mk k z ws bs ks, v, h, ht => by
    unfold TrW at h
    unfold TrV
    have hl := totalAll_len ks
    unfold total at ht
    obtain ⟨vw, vb, A, c, e, hg, h1, h2, h3, h4, h5⟩ := h
    refine ⟨vw, vb, A, c, e, ⟨hg.1, hg.2.1, by omega, by omega, by omega, hg.2.2.2.2.2.1, hg.2.2.2.2.2.2⟩, h1, h2, h3, h4, fun hp => ?_⟩
    obtain ⟨b, off, ea, hb, hk⟩ := h5 hp
    exact ⟨b, off, ea, hb, KidsW.small off ks hk (by omega)⟩
theorem KidsW.small {w : World} {B b : Nat} : (off : Nat) → (l : List Tr) → KidsW w B b off l → totalAll l ≤ 1000000 → KidsAt w B b off l
  | _, [], _, _ => by unfold KidsAt; trivial
  | off, t :: r, h, ht => by
    unfold KidsW at h
    unfold KidsAt
    unfold totalAll at ht
    obtain ⟨⟨k, z, vw, vb, vk, e0, e1, e2, e3, e4, h5⟩, h6⟩ := h
    exact ⟨⟨k, z, vw, vb, vk, e0, e1, e2, e3, e4, TrW.small t _ h5 (by omega)⟩, KidsW.small (off + 5) r h6 (by omega)⟩
end
mutual
theorem TrW.on {w w' : World} {B B' : Nat} (hb : Below B w w') (hB : B ≤ B') : (t : Tr) → (v : Value) → TrW w B t v → TrW w' B' t v
  | .mk k z ws bs ks, v, h => by
    unfold TrW at h ⊢
    obtain ⟨vw, vb, A, c, e, hg, h1, h2, h3, h4, h5⟩ := h
    refine ⟨vw, vb, A, c, e, hg, (h1.below hb (Nat.le_refl _)).more hB, (h2.below hb (Nat.le_refl _)).more hB, h3, h4, fun hp => ?_⟩
    obtain ⟨b, off, ea, hlt, hk⟩ := h5 hp
    exact ⟨b, off, ea, by omega, KidsW.on hb hB hlt off ks hk⟩
theorem KidsW.on {w w' : World} {B B' b : Nat} (hb : Below B w w') (hB : B ≤ B') (hlt : b < B) : (off : Nat) → (l : List Tr) → KidsW w B b off l → KidsW w' B' b off l
  | _, [], _ => by unfold KidsW; trivial
  | off, t :: r, h => by
    unfold KidsW at h ⊢
    obtain ⟨⟨k, z, vw, vb, vk, e0, e1, e2, e3, e4, h5⟩, h6⟩ := h
    exact ⟨⟨k, z, vw, vb, vk, (hb.cell (p := ⟨b, off, none⟩) hlt).trans e0, (hb.cell (p := ⟨b, off + 1, none⟩) hlt).trans e1, (hb.cell (p := ⟨b, off + 2, none⟩) hlt).trans e2, (hb.cell (p := ⟨b, off + 3, none⟩) hlt).trans e3, (hb.cell (p := ⟨b, off + 4, none⟩) hlt).trans e4, TrW.on hb hB t _ h5⟩, KidsW.on hb hB hlt (off + 5) r h6⟩
end
theorem KidsW.of {w : World} {B b : Nat} : (l : List Tr) → (off : Nat) →
    (∀ j, (hj : j < l.length) → ∃ k z vw vb vk, w.cell? ⟨b, off + j * 5, none⟩ = some (.int .i64 k) ∧ w.cell? ⟨b, off + j * 5 + 1, none⟩ = some (.int .i64 z) ∧ w.cell? ⟨b, off + j * 5 + 2, none⟩ = some vw ∧ w.cell? ⟨b, off + j * 5 + 3, none⟩ = some vb ∧ w.cell? ⟨b, off + j * 5 + 4, none⟩ = some vk ∧ TrW w B l[j] (.agg (cellsT k z vw vb vk))) → KidsW w B b off l
  | [], _, _ => by
    unfold KidsW
    trivial
  | t :: r, off, h => by
    unfold KidsW
    refine ⟨?_, KidsW.of r (off + 5) (fun j hj => ?_)⟩
    · have := h 0 (by simp)
      rw [Nat.zero_mul, Nat.add_zero] at this
      exact this
    · have := h (j + 1) (by simpa using hj)
      rw [show off + (j + 1) * 5 = off + 5 + j * 5 by omega] at this
      exact this
theorem KidsW.at_ {w : World} {B b : Nat} : (l : List Tr) → (off j : Nat) → (hj : j < l.length) → KidsW w B b off l →
    ∃ k z vw vb vk, w.cell? ⟨b, off + j * 5, none⟩ = some (.int .i64 k) ∧ w.cell? ⟨b, off + j * 5 + 1, none⟩ = some (.int .i64 z) ∧ w.cell? ⟨b, off + j * 5 + 2, none⟩ = some vw ∧ w.cell? ⟨b, off + j * 5 + 3, none⟩ = some vb ∧ w.cell? ⟨b, off + j * 5 + 4, none⟩ = some vk ∧ TrW w B l[j] (.agg (cellsT k z vw vb vk))
  | [], _, _, hj, _ => by simp at hj
  | t :: r, off, j, hj, h => by
    unfold KidsW at h
    cases j with
    | zero =>
      rw [Nat.zero_mul, Nat.add_zero]
      exact h.1
    | succ j =>
      have := KidsW.at_ r (off + 5) j (by simpa using hj) h.2
      rw [show off + (j + 1) * 5 = off + 5 + j * 5 by omega]
      exact this

/-! ### how it comes in -/
theorem cell_ti {H : Type} {enc : TypeId × Value → H} {W : World} {base n : Nat} {sp : Nat → Bool} {held : Bool} {v : Value} {x : DataW H × List MemPlace} (h : DataW.trod enc Tryd.prog W base sp held n 3 [v] = some x) :
    v = .int .i64 (intOf v) ∧ In64 (intOf v) := by
  obtain ⟨z, e, _, hw⟩ := DataW.trod_int Tryd.underlying3 h
  simp only [List.cons.injEq, and_true] at e
  subst e
  exact ⟨rfl, bounds_i64 hw⟩
theorem words_in8 {H : Type} {enc : TypeId × Value → H} {W : World} {n : Nat} {held : Bool} {v : Value} {x : DataW H × List MemPlace} (h : DataW.trod enc Tryd.prog W 0 (fun _ => true) held n 22 [v] = some x) (hw : ∀ y ∈ x.1.weights Tryd.prog 22, y ≤ reachBytes) :
    ∃ l : List Int, l.length ≤ 140737488351232 ∧ (∀ y ∈ l, 0 ≤ y ∧ y ≤ 18446744073709551615) ∧ NumS .u64 W W.heap.size v l := by
  rcases open_ints Tryd.underlying22 Tryd.underlying44 (by kernel_rfl) h with ⟨hcs, rfl⟩ | ⟨a, len, cap, zs, hcs, _, hl, hm, hz, rfl, hcell, hwz⟩
  · simp only [List.cons.injEq, and_true] at hcs
    subst hcs
    exact ⟨[], by simp, by simp, NumS.nil _ _ _⟩
  · simp only [List.cons.injEq, and_true] at hcs
    subst hcs
    simp only [if_true] at hz
    have h1 := hw ((zs.take len).length * 8 + (zs.drop len).length * 8) (by
      have hb : Tryd.prog.bytesOf 44 = 8 := by kernel_rfl
      simp [DataW.weights, Tryd.underlying22, lits, hb]
      left
      omega)
    have hlen : (zs.take len).length = len := by rw [List.length_take]; omega
    refine ⟨zs.take len, by unfold reachBytes at h1; omega, fun y hy => bounds_u64 (hwz y (List.mem_of_mem_take hy)), ⟨some a, cap, by rw [hlen], by omega, by unfold maxLen at hm; omega, fun hp => ?_⟩⟩
    obtain ⟨b, off, spot⟩ := a
    have h0 := hcell 0 (by omega)
    have hs : spot = none := by simpa [Addr.add] using World.cell?_spot h0
    subst hs
    have hb := cell_lt h0
    refine ⟨b, off, rfl, by simpa [Addr.add] using hb, fun j hj => ?_⟩
    have hj' := hcell j (by omega)
    rw [List.getElem?_take_of_lt (by omega), ← List.getD_eq_getElem?_getD]
    rwa [Addr.add_lit] at hj'

theorem bytes_in8 {H : Type} {enc : TypeId × Value → H} {W : World} {n : Nat} {held : Bool} {v : Value} {x : DataW H × List MemPlace} (h : DataW.trod enc Tryd.prog W 0 (fun _ => true) held n 23 [v] = some x) (hw : ∀ y ∈ x.1.weights Tryd.prog 23, y ≤ reachBytes) :
    ∃ l : List Int, l.length ≤ 140737488351232 ∧ (∀ y ∈ l, 0 ≤ y ∧ y ≤ 255) ∧ Bytes W W.heap.size v l := by
  rcases open_ints Tryd.underlying23 Tryd.underlying5 (by kernel_rfl) h with ⟨hcs, rfl⟩ | ⟨a, len, cap, zs, hcs, _, hl, hm, hz, rfl, hcell, hwz⟩
  · simp only [List.cons.injEq, and_true] at hcs
    subst hcs
    exact ⟨[], by simp, by simp, ⟨none, 0, rfl, by simp, by omega, fun h => by simp at h⟩⟩
  · simp only [List.cons.injEq, and_true] at hcs
    subst hcs
    simp only [if_true] at hz
    have h1 := hw ((zs.take len).length * 1 + (zs.drop len).length * 1) (by
      have hb : Tryd.prog.bytesOf 5 = 1 := by kernel_rfl
      simp [DataW.weights, Tryd.underlying23, lits, hb])
    have hlen : (zs.take len).length = len := by rw [List.length_take]; omega
    refine ⟨zs.take len, by unfold reachBytes at h1; omega, fun y hy => bounds_u8 (hwz y (List.mem_of_mem_take hy)), ⟨some a, cap, by rw [hlen], by omega, by unfold maxLen at hm; omega, fun hp => ?_⟩⟩
    obtain ⟨b, off, spot⟩ := a
    have h0 := hcell 0 (by omega)
    have hs : spot = none := by simpa [Addr.add] using World.cell?_spot h0
    subst hs
    have hb := cell_lt h0
    refine ⟨b, off, rfl, by simpa [Addr.add] using hb, fun j hj => ?_⟩
    have hj' := hcell j (by omega)
    rw [List.getElem?_take_of_lt (by omega), ← List.getD_eq_getElem?_getD]
    rwa [Addr.add_lit] at hj'

theorem weights_all {H : Type} {P : Program} {e : TypeId} {d : DataW H} : ∀ {l : List (DataW H)}, d ∈ l → ∀ n ∈ d.weights P e, n ∈ DataW.weightsAll P e l
  | x :: r, hd, n, hn => by
    simp only [DataW.weightsAll, List.mem_append]
    rcases List.mem_cons.1 hd with rfl | h
    · exact .inl hn
    · exact .inr (weights_all h n hn)
set_option maxRecDepth 20000 in
/-- five cells that came in as a node are a tree -/
theorem tree_fuel {H : Type} {enc : TypeId × Value → H} {W : World} {held : Bool} (N : Nat) : ∀ (n : Nat), n ≤ N → ∀ (cs : List Value) (x : DataW H × List MemPlace), cs.length = 5 → DataW.trod enc Tryd.prog W 0 (fun _ => true) held n 26 cs = some x → (∀ y ∈ x.1.weights Tryd.prog 26, y ≤ reachBytes) →
    ∃ t k z vw vb vk, cs = [.int .i64 k, .int .i64 z, vw, vb, vk] ∧ TrW W W.heap.size t (.agg (cellsT k z vw vb vk)) := by
  induction N with
  | zero =>
    intro n hn cs x hlen h hw
    obtain rfl : n = 0 := by omega
    simp [DataW.trod] at h
  | succ N ih =>
    intro n hn cs x hlen h hw
    obtain ⟨xs, n2, hn2, hx, _, hxl, hq⟩ := DataW.trod_struct Tryd.underlying26 h
    have hwx : ∀ {j : Nat} {t : TypeId} {d : DataW H}, ([3, 3, 22, 23, 24] : List TypeId)[j]? = some t → (xs.map (·.1))[j]? = some d → ∀ y ∈ d.weights Tryd.prog t, y ≤ reachBytes := fun ht hd y hy => by
      refine hw y ?_
      rw [hx]
      have := DataW.weights_mem_each (P := Tryd.prog) ht hd y hy
      simpa [DataW.weights, Tryd.underlying26] using this
    obtain ⟨v0, v1, v2, v3, v4, rfl⟩ : ∃ v0 v1 v2 v3 v4, cs = [v0, v1, v2, v3, v4] := by
      match cs, hlen with
      | [v0, v1, v2, v3, v4], _ => exact ⟨_, _, _, _, _, rfl⟩
    obtain ⟨y0, y1, y2, y3, y4, rfl⟩ : ∃ y0 y1 y2 y3 y4, xs = [y0, y1, y2, y3, y4] := by
      have hxl5 : xs.length = 5 := by simpa using hxl
      match xs, hxl5 with
      | [v0, v1, v2, v3, v4], _ => exact ⟨_, _, _, _, _, rfl⟩
    · clear hxl
      have g0 := hq 0 _ rfl
      have g1 := hq 1 _ rfl
      have g2 := hq 2 _ rfl
      have g3 := hq 3 _ rfl
      have g4 := hq 4 _ rfl
      have c0 : Tryd.prog.cellsOf 3 = 1 := by kernel_rfl
      have c1 : Tryd.prog.cellsOf 22 = 1 := by kernel_rfl
      have c2 : Tryd.prog.cellsOf 23 = 1 := by kernel_rfl
      have c3 : Tryd.prog.cellsOf 24 = 1 := by kernel_rfl
      have c5 : Tryd.prog.cellsOf 26 = 5 := by kernel_rfl
      simp [c0, c1, c2, c3] at g0 g1 g2 g3 g4
      obtain ⟨e0, b0⟩ := cell_ti g0
      obtain ⟨e1, b1⟩ := cell_ti g1
      obtain ⟨ws, l2, r2, s2⟩ := words_in8 g2 (hwx (j := 2) rfl rfl)
      obtain ⟨bs, l3, r3, s3⟩ := bytes_in8 g3 (hwx (j := 3) rfl rfl)
      have hw4 := hwx (j := 4) (t := 24) (d := y4.1) rfl rfl
      rcases DataW.trod_slice Tryd.underlying24 g4 with ⟨hcs, hy4⟩ | ⟨a, len, cap, elems, rest, n3, hn3, hcs, hy4, _, hl, hm, hel, hget, _, _⟩
      · simp only [List.cons.injEq, and_true] at hcs
        subst hcs
        refine ⟨.mk (intOf v0) (intOf v1) ws bs [], intOf v0, intOf v1, v2, v3, .slice none 0 0, by rw [← e0, ← e1], ?_⟩
        unfold TrW
        exact ⟨v2, v3, none, 0, rfl, ⟨b0, b1, l2, l3, by simp, r2, r3⟩, s2, s3, by simp, by omega, fun h => by simp at h⟩
      · simp only [List.cons.injEq, and_true] at hcs
        subst hcs
        have hbn : Tryd.prog.bytesOf 26 = 88 := by kernel_rfl
        have hlb : len ≤ 140737488351232 := by
          have := hw4 ((elems.length + rest.length) * 88) (by rw [hy4]; simp [DataW.weights, Tryd.underlying24, hbn])
          unfold reachBytes at this
          omega
        have each : ∀ i, ∃ t : Tr, i < len → ∃ k z vw vb vk, W.cell? (a.add (i * 5)) = some (.int .i64 k) ∧ W.cell? (a.add (i * 5 + 1)) = some (.int .i64 z) ∧ W.cell? (a.add (i * 5 + 2)) = some vw ∧ W.cell? (a.add (i * 5 + 3)) = some vb ∧ W.cell? (a.add (i * 5 + 4)) = some vk ∧ TrW W W.heap.size t (.agg (cellsT k z vw vb vk)) := fun i => by
          by_cases hi : i < len
          · have h1 := hget i hi
            rw [List.getElem?_eq_getElem (by omega), c5] at h1
            cases hcc : W.cells? 0 (a.add (i * 5)) 5 with
            | none => rw [hcc] at h1; cases h1
            | some ci =>
              rw [hcc] at h1
              obtain ⟨_, hlen5, hcell⟩ := World.cells?_some hcc
              obtain ⟨t, k, z, vw, vb, vk, hci, ht⟩ := ih n3 (by omega) ci (elems[i]'(by omega)) hlen5 h1 (fun y hy => hw4 y (by
                rw [hy4]
                simp only [DataW.weights, Tryd.underlying24, List.mem_cons, List.mem_append]
                exact .inr (.inl (weights_all (List.mem_map.2 ⟨_, List.getElem_mem _, rfl⟩) y hy))))
              subst hci
              have k0 := hcell 0 (by omega)
              have k1 := hcell 1 (by omega)
              have k2 := hcell 2 (by omega)
              have k3 := hcell 3 (by omega)
              have k4 := hcell 4 (by omega)
              rw [Go.Deep.add_add] at k0 k1 k2 k3 k4
              exact ⟨t, fun _ => ⟨k, z, vw, vb, vk, k0, k1, k2, k3, k4, ht⟩⟩
          · exact ⟨Tr.nil, fun h => absurd h hi⟩
        obtain ⟨Q, hQ⟩ := Classical.axiomOfChoice each
        have hql : ((List.range len).map Q).length = len := by simp
        refine ⟨.mk (intOf v0) (intOf v1) ws bs ((List.range len).map Q), intOf v0, intOf v1, v2, v3, .slice (some a) len cap, by rw [← e0, ← e1], ?_⟩
        unfold TrW
        refine ⟨v2, v3, some a, cap, by rw [hql], ⟨b0, b1, l2, l3, by rw [hql]; exact hlb, r2, r3⟩, s2, s3, by rw [hql]; exact hl, by unfold maxLen at hm; omega, fun hp => ?_⟩
        rw [hql] at hp
        obtain ⟨b, off, spot⟩ := a
        obtain ⟨k, z, vw, vb, vk, h0, _⟩ := hQ 0 hp
        have hs : spot = none := by simpa [Addr.add] using World.cell?_spot h0
        subst hs
        have hb := cell_lt h0
        refine ⟨b, off, rfl, by simpa [Addr.add] using hb, KidsW.of _ _ (fun j hj => ?_)⟩
        rw [hql] at hj
        obtain ⟨k, z, vw, vb, vk, q0, q1, q2, q3, q4, ht⟩ := hQ j hj
        rw [Addr.add_lit] at q0 q1 q2 q3 q4
        refine ⟨k, z, vw, vb, vk, q0, q1, q2, q3, q4, ?_⟩
        rw [List.getElem_map, List.getElem_range]
        exact ht
set_option maxRecDepth 20000 in
/-- a tree that came in -/
theorem tree_in {H : Type} {enc : TypeId × Value → H} {W : World} {r : Reach} {b0 : Nat} {v : Value} {d : DataW H} {ps : List MemPlace} (hv : Value.okWide Tryd.prog W r b0 26 v) (h : DataW.Trod enc Tryd.prog W 0 (fun _ => true) true 26 v d ps) (hw : ∀ y ∈ d.weights Tryd.prog 26, y ≤ reachBytes) :
    ∃ t, TrW W W.heap.size t v := by
  obtain ⟨cs, rfl, hsz⟩ := okWide_struct Tryd.underlying26 hv
  obtain ⟨fuel, hf⟩ := h
  obtain ⟨cs⟩ := cs
  have hlen : cs.length = 5 := by
    have : Tryd.prog.cellsOf 26 = 5 := by kernel_rfl
    rw [this] at hsz
    simpa using hsz
  obtain ⟨t, k, z, vw, vb, vk, e, ht⟩ := tree_fuel fuel fuel (Nat.le_refl _) cs (d, ps) hlen (by simpa [Value.cells] using hf) hw
  subst e
  exact ⟨t, ht⟩

end Go.Proofs.YtofpjcmcpejnfaaDoor
