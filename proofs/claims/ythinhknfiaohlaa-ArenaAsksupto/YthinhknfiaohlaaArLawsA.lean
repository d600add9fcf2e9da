/-
  Layer 7: the law's words, known.
-/
import Derived.Test.YthinhknfiaohlaaArGen
namespace Go.Proofs.Ythinhknfiaohlaa
open Go.RowKit Go.Deep

set_option maxRecDepth 100000 in
set_option maxHeartbeats 1000000 in
theorem lwords_any (v : Value) (ls : List (List Int)) (B : Nat) (w : World) (h : ArV w B v ls) (hs : (sizesL ls).sum ≤ 1000000000000) :
    Calls Try.prog 10 #[v] w fun e w' => e = .returned (.int .i64 (sizesL ls).sum) ∧ w = w' := by
  obtain ⟨A, c, rfl, hc, hm, hr⟩ := h
  obtain ⟨len, hn⟩ : ∃ n, n = ls.length := ⟨_, rfl⟩
  rw [← hn] at hc ⊢
  have H := Lib.hid hr
  have HN := Lib.hid hn
  have HS := Lib.hid hs
  clear hr hs hn
  go_enter Try.func10, Try.ntmps10
  go_wp2_with fail
  go_loopw [3, 4] (fun s i wr => ∃ t : Nat, t ≤ len ∧ i = .int .i64 t ∧ s = .int .i64 ((sizesL ls).take t).sum ∧ w = wr) (fun _ i _ => len - (intOf i).toNat)
  case atStart => exact ⟨0, by omega, rfl, by simp, rfl⟩
  case round =>
    obtain ⟨t, ht, rfl, rfl, rfl⟩ := hrel
    have f0 := sizesL_le ls t
    have hs0 := HS.out
    by_cases hlt : t < len
    · obtain ⟨b, off, rfl, _, hcell⟩ := H.out (by rw [← HN.out]; omega)
      obtain ⟨s, p1, hs1⟩ := hcell t (by rw [← HN.out]; exact hlt)
      obtain ⟨m, hm1⟩ : ∃ m, (ls[t]?.getD []).length = m := ⟨_, rfl⟩
      obtain ⟨A1, c1, rfl⟩ := hs1.form hm1
      have HE : Hid (((sizesL ls).take (t + 1)).sum = ((sizesL ls).take t).sum + m) := Lib.hid (by rw [sizesL_take (by rw [← HN.out]; exact hlt), List.sum_append, hm1]; simp)
      have f1 := sizesL_le ls (t + 1)
      rw [HE.out] at f1
      obtain ⟨S, hS⟩ : ∃ S, ((sizesL ls).take t).sum = S := ⟨_, rfl⟩
      rw [hS] at f0 f1 HE ⊢
      clear hcell hs1 hm1 hS
      go_wp2_with fail
      go_roundw
      case rel => exact ⟨t + 1, by omega, by go_num, by rw [HE.out], trivial⟩
      case measure => simp [intOf]; omega
    · obtain rfl : t = len := by omega
      have HE : Hid ((sizesL ls).take t = sizesL ls) := Lib.hid (by rw [HN.out, ← sizesL_length, List.take_length])
      obtain ⟨S, hS⟩ : ∃ S, ((sizesL ls).take t).sum = S := ⟨_, rfl⟩
      have HSS : Hid (S = (sizesL ls).sum) := Lib.hid (by rw [← hS, HE.out])
      rw [hS] at f0 ⊢
      clear hS
      go_wp2_with fail
      go_ret
      exact ⟨by rw [← HSS.out]; rfl, rfl⟩

/-! ### rows written out -/
theorem cells_get (w : World) (cs : Array Value) (t : TypeId) (j : Nat) : (w.alloc (.cells cs t)).cell? ⟨w.heap.size, j, none⟩ = cs[j]? := by
  unfold World.cell?
  dsimp only
  rw [blk_alloc_new]
  rfl
theorem num_new (q : IntKind) (w : World) (l : List Int) (t : TypeId) (n : Nat) (hn : l.length = n) (hn2 : n ≤ 1000000) : NumS q (w.alloc (.cells (l.map (Value.int q)).toArray t)) (w.heap.size + 1) (.slice (some ⟨w.heap.size, 0, none⟩) n n) l := by
  refine ⟨_, n, by rw [hn], by omega, by omega, fun _ => ⟨w.heap.size, 0, rfl, by omega, fun j hj => ?_⟩⟩
  rw [Nat.zero_add, cells_get]
  simp [hj]
theorem known_arena (w : World) : Hid (ArV ((((w.alloc (.cells #[.int .u64 1, .int .u64 2, .int .u64 3] 44)).alloc (.cells #[.int .u64 4, .int .u64 5] 44)).alloc (.cells #[.slice (some ⟨w.heap.size, 0, none⟩) 3 3, .slice (some ⟨w.heap.size + 1, 0, none⟩) 2 2] 42))) ((((w.alloc (.cells #[.int .u64 1, .int .u64 2, .int .u64 3] 44)).alloc (.cells #[.int .u64 4, .int .u64 5] 44)).alloc (.cells #[.slice (some ⟨w.heap.size, 0, none⟩) 3 3, .slice (some ⟨w.heap.size + 1, 0, none⟩) 2 2] 42))).heap.size (.slice (some ⟨w.heap.size + 1 + 1, 0, none⟩) 2 2) [[1, 2, 3], [4, 5]]) := Lib.hid (by
  refine ArV.more (B := w.heap.size + 3) ?_ (by simp)
  refine ⟨_, 2, rfl, by simp, by omega, fun _ => ⟨w.heap.size + 2, 0, rfl, by omega, fun j hj => ?_⟩⟩
  have hb1 := num_new .u64 w [1, 2, 3] 44 3 rfl (by omega)
  have hb2 := num_new .u64 (w.alloc (.cells #[.int .u64 1, .int .u64 2, .int .u64 3] 44)) [4, 5] 44 2 rfl (by omega)
  rw [World.size_alloc] at hb2
  have s1 : (w.alloc (.cells #[.int .u64 1, .int .u64 2, .int .u64 3] 44)).heap.size = w.heap.size + 1 := by simp
  have hc := fun j => cells_get ((w.alloc (.cells #[.int .u64 1, .int .u64 2, .int .u64 3] 44)).alloc (.cells #[.int .u64 4, .int .u64 5] 44)) #[.slice (some ⟨w.heap.size, 0, none⟩) 3 3, .slice (some ⟨w.heap.size + 1, 0, none⟩) 2 2] 42 j
  rw [show ((w.alloc (.cells #[.int .u64 1, .int .u64 2, .int .u64 3] 44)).alloc (.cells #[.int .u64 4, .int .u64 5] 44)).heap.size = w.heap.size + 2 by simp] at hc
  rw [Nat.zero_add, hc j]
  have hB2 : ∀ o, Below (w.heap.size + 2) ((w.alloc (.cells #[.int .u64 1, .int .u64 2, .int .u64 3] 44)).alloc (.cells #[.int .u64 4, .int .u64 5] 44)) (((w.alloc (.cells #[.int .u64 1, .int .u64 2, .int .u64 3] 44)).alloc (.cells #[.int .u64 4, .int .u64 5] 44)).alloc o) := fun o => (Below.refl _ _).alloc (by simp) o
  have hB1 : ∀ o, Below (w.heap.size + 1) (w.alloc (.cells #[.int .u64 1, .int .u64 2, .int .u64 3] 44)) ((w.alloc (.cells #[.int .u64 1, .int .u64 2, .int .u64 3] 44)).alloc o) := fun o => (Below.refl _ _).alloc (by simp) o
  rcases (show j = 0 ∨ j = 1 by simp at hj; omega) with rfl | rfl
  · exact ⟨_, rfl, (((hb1.below (hB1 _) (by omega)).below (hB2 _) (by omega))).more (by omega)⟩
  · exact ⟨_, rfl, (hb2.below (hB2 _) (by omega)).more (by omega)⟩)

set_option maxRecDepth 100000 in
set_option maxHeartbeats 1000000 in
theorem known7_any {K : World → Prop} (T : ArenaOK K) (w : World) (hK : K w) : Calls Try.prog 11 #[] w fun e w' => e = .returned (.bool true) ∧ Below w.heap.size w w' := by
  have HT := Lib.hid T
  have HK := Lib.hid hK
  have HA := known_arena w
  have HSm : Hid (Sm [[1, 2, 3], [4, 5]]) := Lib.hid ⟨by simp, by decide, fun s hs x hx => by
    simp at hs
    rcases hs with rfl | rfl
    · simp at hx; omega
    · simp at hx; omega⟩
  have E1 : Hid (wordA [[1, 2, 3], [4, 5]] 1 0 = 4 ∧ wordE7 [[1, 2, 3], [4, 5]] 1 0 = 0) := Lib.hid (by decide)
  have E2 : Hid (placeI [3, 2] 1 0 = 3 ∧ fitsL (sizesL [[1, 2, 3], [4, 5]]) = true ∧ (sizesL [[1, 2, 3], [4, 5]]).sum = 5 ∧ (bytesA [[1, 2, 3], [4, 5]]).length = 40) := Lib.hid (by decide)
  have HB0 : Hid (Below w.heap.size w ((((w.alloc (.cells #[.int .u64 1, .int .u64 2, .int .u64 3] 44)).alloc (.cells #[.int .u64 4, .int .u64 5] 44)).alloc (.cells #[.slice (some ⟨w.heap.size, 0, none⟩) 3 3, .slice (some ⟨w.heap.size + 1, 0, none⟩) 2 2] 42)))) := Lib.hid ((((Below.refl _ _).alloc (Nat.le_refl _) _).alloc (by simp) _).alloc (by simp; omega) _)
  have HI1 : Hid (In64 1 ∧ In64 0) := Lib.hid ⟨⟨by decide, by decide⟩, by decide, by decide⟩
  clear T hK
  go_enter Try.func11, Try.ntmps11
  go_wp2_with fail
  generalize (((w.alloc (.cells #[.int .u64 1, .int .u64 2, .int .u64 3] 44)).alloc (.cells #[.int .u64 4, .int .u64 5] 44)).alloc (.cells #[.slice (some ⟨w.heap.size, 0, none⟩) 3 3, .slice (some ⟨w.heap.size + 1, 0, none⟩) 2 2] 42)) = W at *
  have HKW := Lib.hid (HT.out.on HK.out HB0.out)
  refine (HT.out.word _ _ 1 0 _ HA.out HSm.out HI1.out.1 HI1.out.2 HKW.out).mono ?_
  rintro e w1 ⟨rfl, hB1⟩
  rw [E1.out.1, E1.out.2]
  go_wp2_with fail
  have hN := num_new .i64 w1 [3, 2] 3 2 rfl (by omega)
  have HN := Lib.hid (hN.more (B' := (w1.alloc (.cells ([3, 2].map (Value.int .i64)).toArray 3)).heap.size) (by simp))
  have hC2 := hB1.alloc hB1.size (.cells ([3, 2].map (Value.int .i64)).toArray 3)
  have HC2 := Lib.hid hC2
  have HAl : Hid (All64 [3, 2]) := Lib.hid (by intro x hx; simp at hx; unfold In64; omega)
  clear hN hC2
  refine (HT.out.place _ [3, 2] 1 0 _ HN.out HAl.out (by decide) HI1.out.1 HI1.out.2 (HT.out.on HKW.out HC2.out)).mono ?_
  rintro e w3 ⟨rfl, hB3⟩
  have HC3 := Lib.hid (bsq HC2.out hB3)
  rw [E2.out.1]
  go_wp2_with fail
  refine (HT.out.right _ _ _ (HA.out.on HC3.out) HSm.out (HT.out.on HKW.out HC3.out)).mono ?_
  rintro e w4 ⟨rfl, hB4⟩
  have HC4 := Lib.hid (bsq HC3.out hB4)
  rw [E2.out.2.1]
  go_wp2_with fail
  refine (HT.out.bytes _ _ _ (HA.out.on HC4.out) HSm.out (HT.out.on HKW.out HC4.out)).mono ?_
  rintro e w5 ⟨u, rfl, ho, hB5⟩
  obtain ⟨A5, c5, rfl⟩ := ho.bytes.form E2.out.2.2.2
  have HC5 := Lib.hid (bsq HC4.out hB5)
  clear ho
  go_wp2_with fail
  refine (HT.out.words _ _ _ (HA.out.on HC5.out) HSm.out (HT.out.on HKW.out HC5.out)).mono ?_
  rintro e w6 ⟨rfl, hB6⟩
  have HC6 := Lib.hid (bsq HC5.out hB6)
  rw [E2.out.2.2.1]
  go_wp2_with fail
  go_ret
  exact ⟨rfl, bsq HB0.out HC6.out⟩

end Go.Proofs.Ythinhknfiaohlaa
