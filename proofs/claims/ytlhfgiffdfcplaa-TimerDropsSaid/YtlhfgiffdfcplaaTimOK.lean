/-
  Layer 5: what the laws ask of the program's queue: its calls, over whatever the queue is in memory ('QR w S q l': in the world w the value q is a queue that has the keys and times l; all that it is lies in the blocks S). The law's own same.
-/
import Derived.Test.YtlhfgiffdfcplaaTimDue
namespace Go.Proofs.Ytlhfgiffdfcplaa
open Go.RowKit Go.Deep

/-- from w to w' only blocks of S and new ones have turned; S' are some of these -/
structure Grows (S S' : Nat → Prop) (w w' : World) : Prop where
  os : w'.os = w.os
  tape : w'.tape = w.tape
  output : w'.output = w.output
  size : w.heap.size ≤ w'.heap.size
  block : ∀ k, k < w.heap.size → ¬ S k → w'.heap[k]? = w.heap[k]?
  own : ∀ k, S' k → S k ∨ w.heap.size ≤ k
theorem Grows.trans {S S' S2 : Nat → Prop} {a b c : World} (h : Grows S S' a b) (k : Grows S' S2 b c) : Grows S S2 a c :=
  ⟨k.os.trans h.os, k.tape.trans h.tape, k.output.trans h.output, Nat.le_trans h.size k.size,
    fun i hi hs => (k.block i (Nat.lt_of_lt_of_le hi h.size) (fun h2 => (h.own i h2).elim hs (fun h3 => by omega))).trans (h.block i hi hs),
    fun i hi => (k.own i hi).elim (h.own i) (fun h2 => .inr (Nat.le_trans h.size h2))⟩
theorem Grows.same {S : Nat → Prop} {a b : World} (h : Below a.heap.size a b) : Grows S S a b :=
  ⟨h.os, h.tape, h.output, h.size, fun i hi _ => h.block i hi, fun _ h => .inl h⟩
theorem Grows.below {S S' : Nat → Prop} {a b : World} {B : Nat} (h : Grows S S' a b) (hS : ∀ k, S k → B ≤ k) (hB : B ≤ a.heap.size) : Below B a b :=
  ⟨h.os, h.tape, h.output, h.size, fun k hk => h.block k (by omega) (fun h2 => by have := hS k h2; omega)⟩
theorem Grows.from_ {S S' : Nat → Prop} {a b : World} {B : Nat} (h : Grows S S' a b) (hS : ∀ k, S k → B ≤ k) (hB : B ≤ a.heap.size) : ∀ k, S' k → B ≤ k :=
  fun k hk => (h.own k hk).elim (hS k) (fun h2 => by omega)

/-- a slice of keys and times beside the blocks S -/
def Beside (w : World) (S : Nat → Prop) (v : Value) (l : List Sp) : Prop :=
  ∃ A c, v = .slice A l.length c ∧ l.length ≤ c ∧ c ≤ 9223372036854775807 ∧ (0 < l.length → ∃ b off, A = some ⟨b, off, none⟩ ∧ b < w.heap.size ∧ ¬ S b ∧ ∀ j, j < l.length → w.cell? ⟨b, off + j * 2, none⟩ = some (.int .i64 (l[j]?.getD (0, 0)).1) ∧ w.cell? ⟨b, off + j * 2 + 1, none⟩ = some (.int .i64 (l[j]?.getD (0, 0)).2))
theorem Beside.spans {w : World} {S : Nat → Prop} {v : Value} {l : List Sp} (h : Beside w S v l) : Spans w w.heap.size v l := by
  obtain ⟨A, c, e, h1, h2, hr⟩ := h
  refine ⟨A, c, e, h1, h2, fun hp => ?_⟩
  obtain ⟨b, off, e2, hb, _, hc⟩ := hr hp
  exact ⟨b, off, e2, hb, hc⟩
theorem Beside.grows {w w' : World} {S S' : Nat → Prop} {v : Value} {l : List Sp} (h : Beside w S v l) (hg : Grows S S' w w') : Beside w' S' v l := by
  obtain ⟨A, c, e, h1, h2, hr⟩ := h
  refine ⟨A, c, e, h1, h2, fun hp => ?_⟩
  obtain ⟨b, off, e2, hb, hs, hc⟩ := hr hp
  have hblk := hg.block b hb hs
  refine ⟨b, off, e2, Nat.lt_of_lt_of_le hb hg.size, fun h3 => (hg.own b h3).elim hs (fun h4 => by omega), fun j hj => ?_⟩
  have c1 : w'.cell? ⟨b, off + j * 2, none⟩ = w.cell? ⟨b, off + j * 2, none⟩ := World.cell?_of_block hblk
  have c2 : w'.cell? ⟨b, off + j * 2 + 1, none⟩ = w.cell? ⟨b, off + j * 2 + 1, none⟩ := World.cell?_of_block hblk
  rw [c1, c2]
  exact hc j hj
theorem Beside.nil (w : World) (S : Nat → Prop) : Beside w S (.slice none 0 0) [] := ⟨none, 0, rfl, by simp, by omega, fun h => by simp at h⟩
theorem Beside.own {w : World} {S : Nat → Prop} {base : Nat} {v : Value} {l : List Sp} (h : OwnT w base v l) (hS : ∀ k, S k → k < base) : Beside w S v l := by
  have hlt := World.ownsRow.lt h
  obtain ⟨A, c, e, h1, h2, hr⟩ := h.spans
  refine ⟨A, c, e, h1, h2, fun hp => ?_⟩
  obtain ⟨b, off, e2, hb, hc⟩ := hr hp
  refine ⟨b, off, e2, hb, fun h3 => ?_, hc⟩
  have := (hlt b (by rw [e, e2]; rfl)).1
  have := hS b h3
  omega
theorem Beside.left {w w' : World} {S : Nat → Prop} {v v' : Value} {l l' : List Sp} (hv : Beside w S v l) (h : Left v w' w.heap.size v' l') (hB : Below w.heap.size w w') (hS : ∀ k, S k → k < w.heap.size) : Beside w' S v' l' := by
  rcases h with ⟨rfl, h⟩ | h
  · obtain ⟨A, c, e, h1, h2, hr⟩ := h
    refine ⟨A, c, e, h1, h2, fun hp => ?_⟩
    obtain ⟨b, off, e2, hb, hc⟩ := hr hp
    obtain ⟨A2, c2, e3, _, _, hr2⟩ := hv
    rw [e] at e3
    injection e3 with e4 e5 e6
    obtain ⟨b2, off2, e7, _, hs, _⟩ := hr2 (by omega)
    rw [← e4, e2] at e7
    cases e7
    exact ⟨b, off, e2, Nat.lt_of_lt_of_le hb hB.size, hs, hc⟩
  · exact Beside.own h hS

/-! ### slices of numbers -/
def Ints (w : World) (B : Nat) (v : Value) (l : List Int) : Prop :=
  ∃ A c, v = .slice A l.length c ∧ (0 < l.length → ∃ b off, A = some ⟨b, off, none⟩ ∧ b < B ∧ ∀ j, j < l.length → w.cell? ⟨b, off + j, none⟩ = some (.int .i64 (l[j]?.getD 0)))
theorem OwnI.ints {w : World} {base : Nat} {v : Value} {l : List Int} (h : OwnI w base v l) : Ints w w.heap.size v l := by
  have h0 := h
  obtain ⟨h1, ⟨rfl, hn⟩ | ⟨g, cap, cur, rfl, hb, hh, hc, hm, hs, ht⟩⟩ := h
  · exact ⟨none, 0, by rw [hn], fun hp => by omega⟩
  · refine ⟨_, cap, rfl, fun hp => ⟨g, 0, rfl, (World.ownsRow.lt h0 g rfl).2, fun j hj => ?_⟩⟩
    rw [Nat.zero_add, World.ownsRow.cellAt h0 j (by omega), List.getElem?_map, List.getElem?_eq_getElem hj]
    rfl
theorem Ints.on {w w' : World} {v : Value} {l : List Int} (h : Ints w w.heap.size v l) (hB : Below w.heap.size w w') : Ints w' w'.heap.size v l := by
  obtain ⟨A, c, e, hr⟩ := h
  refine ⟨A, c, e, fun hp => ?_⟩
  obtain ⟨b, off, e2, hb, hc⟩ := hr hp
  exact ⟨b, off, e2, Nat.lt_of_lt_of_le hb hB.size, fun j hj => (hB.cell (p := ⟨b, off + j, none⟩) hb).trans (hc j hj)⟩

def sameI (a b : List Int) : Bool := decide (a = b)
set_option maxRecDepth 100000 in
set_option maxHeartbeats 1000000 in
theorem isame_any (v u : Value) (a b : List Int) (B B' : Nat) (w : World) (h : Ints w B v a) (h' : Ints w B' u b) (hlen : a.length ≤ 1000000000) (hlen' : b.length ≤ 1000000000) :
    Calls Try.prog 19 #[v, u] w fun e w' => e = .returned (.bool (sameI a b)) ∧ Below w.heap.size w w' := by
  obtain ⟨A, c, rfl, hr⟩ := h
  obtain ⟨A', c', rfl, hr'⟩ := h'
  obtain ⟨len, hn⟩ : ∃ n, n = a.length := ⟨_, rfl⟩
  obtain ⟨len', hn'⟩ : ∃ n, n = b.length := ⟨_, rfl⟩
  have H := Lib.hid hr
  have H' := Lib.hid hr'
  have HN := Lib.hid hn
  have HN' := Lib.hid hn'
  rw [← hn, ← hn']
  have hl1 : len ≤ 1000000000 := by omega
  have hl2 : len' ≤ 1000000000 := by omega
  by_cases hne : len = len'
  · subst hne
    have d0 : ((len : Int) != (len : Int)) = false := by simp
    clear hr hr' hn hn' hlen hlen'
    go_enter Try.func19, Try.ntmps19
    go_wp2_with fail
    go_loopw [5] (fun i wr => ∃ t : Nat, t ≤ len ∧ i = .int .i64 t ∧ (∀ i, i < t → a[i]?.getD 0 = b[i]?.getD 0) ∧ ∃ n, wr = w.drewN n) (fun i _ => len - (intOf i).toNat)
    case atStart => exact ⟨0, by omega, rfl, fun i hi => by omega, 0, rfl⟩
    case round =>
      obtain ⟨t, ht, rfl, hall, n, rfl⟩ := hrel
      have HL := Lib.hid hall
      clear hall
      by_cases hlt : t < len
      · obtain ⟨b1, off1, rfl, _, hc1⟩ := H.out (by rw [← HN.out]; omega)
        obtain ⟨b2, off2, rfl, _, hc2⟩ := H'.out (by rw [← HN'.out]; omega)
        have p1 := hc1 t (by rw [← HN.out]; exact hlt)
        have q1 := hc2 t (by rw [← HN'.out]; exact hlt)
        obtain ⟨x, hx⟩ : ∃ x, a[t]?.getD 0 = x := ⟨_, rfl⟩
        obtain ⟨y, hy⟩ : ∃ y, b[t]?.getD 0 = y := ⟨_, rfl⟩
        rw [hx] at p1
        rw [hy] at q1
        have HX := Lib.hid hx
        have HY := Lib.hid hy
        clear hc1 hc2 hx hy
        by_cases hxy : x = y
        · have d1 : (x != y) = false := by simp [hxy]
          have HL2 : Hid (∀ i, i < t + 1 → a[i]?.getD 0 = b[i]?.getD 0) := Lib.hid (fun i hi => by
            by_cases e : i = t
            · subst e; rw [HX.out, HY.out]; exact hxy
            · exact HL.out i (by omega))
          clear hxy
          go_wp2_with fail
          (try (go_quiet (fail); go_wp2_with fail))
          go_roundw
          case rel => exact ⟨t + 1, by omega, by go_num, HL2.out, _, by first | rfl | exact World.drewN_drewN _ _ _⟩
          case measure => simp [intOf]; omega
        · have d1 : (x != y) = true := by simpa using hxy
          have HF : Hid (false = sameI a b) := Lib.hid (decide_eq_false (fun e => hxy (by rw [← HX.out, ← HY.out, e]))).symm
          clear hxy
          go_wp2_with fail
          (try (go_quiet (fail); go_wp2_with fail))
          go_ret
          exact ⟨by rw [← HF.out]; rfl, by first | exact below_drewN (Below.refl _ _) _ | exact below_drewN (below_drewN (Below.refl _ _) _) _⟩
      · obtain rfl : t = len := by omega
        have HF : Hid (true = sameI a b) := Lib.hid (decide_eq_true (List.ext_getElem (by rw [← HN.out, ← HN'.out]) (fun i h1 h2 => by have := HL.out i (by rw [HN.out]; exact h1); rw [List.getElem?_eq_getElem h1, List.getElem?_eq_getElem h2] at this; exact this))).symm
        go_wp2_with fail
        go_ret
        exact ⟨by rw [← HF.out]; rfl, by first | exact below_drewN (Below.refl _ _) _ | exact below_drewN (below_drewN (Below.refl _ _) _) _⟩
  · have d0 : ((len : Int) != (len' : Int)) = true := by rw [bne_iff_ne]; omega
    have HF : Hid (false = sameI a b) := Lib.hid (decide_eq_false (fun e => hne (by rw [HN.out, HN'.out, e]))).symm
    clear hr hr' hn hn' hlen hlen'
    go_enter Try.func19, Try.ntmps19
    go_wp2_with fail
    go_ret
    exact ⟨by rw [← HF.out]; rfl, Below.refl _ _⟩

end Go.Proofs.Ytlhfgiffdfcplaa
