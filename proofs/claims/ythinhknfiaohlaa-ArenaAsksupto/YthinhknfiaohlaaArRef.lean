/-
  Layer 7: the document's Words, Sizes, Right, Word, Same.
-/
import Derived.Test.YthinhknfiaohlaaArNum
import Derived.Test.YthinhknfiaohlaaArMem
namespace Go.Proofs.Ythinhknfiaohlaa
open Go.RowKit Go.Deep

set_option maxRecDepth 100000 in
set_option maxHeartbeats 1000000 in
theorem rwords7_any (v : Value) (ls : List (List Int)) (B : Nat) (w : World) (h : ArV w B v ls) (hs : (sizesL ls).sum ≤ 1000000000000) :
    Calls Try.prog 32 #[v] w fun e w' => e = .returned (.int .i64 (sizesL ls).sum) ∧ w = w' := by
  obtain ⟨A, c, rfl, hc, hm, hr⟩ := h
  obtain ⟨len, hn⟩ : ∃ n, n = ls.length := ⟨_, rfl⟩
  rw [← hn] at hc ⊢
  have H := Lib.hid hr
  have HN := Lib.hid hn
  have HS := Lib.hid hs
  clear hr hs hn
  go_enter Try.func32, Try.ntmps32
  go_wp2_with fail
  go_loopw [3, 4] (fun s i wr => ∃ t : Nat, t ≤ len ∧ i = .int .i64 t ∧ s = .int .i64 ((sizesL ls).take t).sum ∧ w = wr) (fun _ i _ => len - (intOf i).toNat)
  case atStart => exact ⟨0, by omega, rfl, by simp, rfl⟩
  case round =>
    obtain ⟨t, ht, rfl, rfl, rfl⟩ := hrel
    have f0 := sizesL_le ls t
    have hs0 := HS.out
    by_cases hlt : t < len
    · obtain ⟨b, off, rfl, _, hcell⟩ := H.out (by rw [← HN.out]; omega)
      obtain ⟨s, p1, hs1⟩ := hcell t (by rw [← HN.out]; exact hlt)
      obtain ⟨m, hm1⟩ : ∃ m, (ls[t]?.getD []).length = m := ⟨_, rfl⟩
      obtain ⟨A1, c1, rfl⟩ := hs1.form hm1
      have HE : Hid (((sizesL ls).take (t + 1)).sum = ((sizesL ls).take t).sum + m) := Lib.hid (by rw [sizesL_take (by rw [← HN.out]; exact hlt), List.sum_append, hm1]; simp)
      have f1 := sizesL_le ls (t + 1)
      rw [HE.out] at f1
      obtain ⟨S, hS⟩ : ∃ S, ((sizesL ls).take t).sum = S := ⟨_, rfl⟩
      rw [hS] at f0 f1 HE ⊢
      clear hcell hs1 hm1 hS
      go_wp2_with fail
      go_roundw
      case rel => exact ⟨t + 1, by omega, by go_num, by rw [HE.out], trivial⟩
      case measure => simp [intOf]; omega
    · obtain rfl : t = len := by omega
      have HE : Hid ((sizesL ls).take t = sizesL ls) := Lib.hid (by rw [HN.out, ← sizesL_length, List.take_length])
      obtain ⟨S, hS⟩ : ∃ S, ((sizesL ls).take t).sum = S := ⟨_, rfl⟩
      have HSS : Hid (S = (sizesL ls).sum) := Lib.hid (by rw [← hS, HE.out])
      rw [hS] at f0 ⊢
      clear hS
      go_wp2_with fail
      go_ret
      exact ⟨by rw [← HSS.out]; rfl, rfl⟩

set_option maxRecDepth 100000 in
set_option maxHeartbeats 1000000 in
theorem rsizes_any (v : Value) (ls : List (List Int)) (w : World) (h : ArV w w.heap.size v ls) (hlen : ls.length ≤ 1000000000000) :
    Calls Try.prog 19 #[v] w fun e w' => ∃ u, e = .returned u ∧ OwnI w' w.heap.size u (sizesL ls) ∧ Below w.heap.size w w' := by
  have HV := Lib.hid h
  obtain ⟨A, c, rfl, hc, hm, hr⟩ := h
  obtain ⟨len, hn⟩ : ∃ n, n = ls.length := ⟨_, rfl⟩
  rw [← hn] at hc hlen ⊢
  have HN := Lib.hid hn
  rw [← hn] at HV
  clear hr hn
  go_enter Try.func19, Try.ntmps19
  go_wp2_with fail
  go_loopw [3, 4] (fun o i wr => ∃ t : Nat, t ≤ len ∧ i = .int .i64 t ∧ OwnI wr w.heap.size o ((sizesL ls).take t) ∧ Below w.heap.size w wr) (fun _ i _ => len - (intOf i).toNat)
  case atStart => exact ⟨0, by omega, rfl, OwnI.nil _ _, Below.refl _ _⟩
  case round =>
    obtain ⟨t, ht, rfl, ho, hB⟩ := hrel
    have HO := Lib.hid ho
    have HB := Lib.hid hB
    clear ho hB
    by_cases hlt : t < len
    · obtain ⟨A', c', e', _, _, hr⟩ := HV.out.on HB.out
      obtain ⟨b, off, ea, _, hcell⟩ := hr (by rw [← HN.out]; omega)
      cases e'
      subst ea
      obtain ⟨s, p1, hs1⟩ := hcell t (by rw [← HN.out]; exact hlt)
      obtain ⟨m, hm1⟩ : ∃ m, (ls[t]?.getD []).length = m := ⟨_, rfl⟩
      obtain ⟨A1, c1, rfl⟩ := hs1.form hm1
      have HE : Hid ((sizesL ls).take (t + 1) = (sizesL ls).take t ++ [(m : Int)]) := Lib.hid (by rw [sizesL_take (by rw [← HN.out]; exact hlt), hm1])
      obtain ⟨v', w', hrun, ho', hg'⟩ := append_int wr w.heap.size 31 u3 ((sizesL ls).take t) m HO.out (by rw [List.length_take]; omega) HB.out.size
      have HRun := Lib.hid hrun
      have HR : Hid (OwnI w' w.heap.size v' ((sizesL ls).take (t + 1)) ∧ Below w.heap.size w w') := Lib.hid ⟨by rw [HE.out]; exact ho', app_belowI HO.out rfl HB.out hg'⟩
      clear hcell hs1 hm1 hrun ho' hg' hr
      go_wp2_with (at_builtin; refine Lib.wpList_append_run _ rfl _ _ _ _ rfl _ _ rfl rfl _ _ HRun.out ?_)
      go_roundw
      case rel => exact ⟨t + 1, by omega, by go_num, HR.out.1, HR.out.2⟩
      case measure => simp [intOf]; omega
    · obtain rfl : t = len := by omega
      have HE : Hid ((sizesL ls).take t = sizesL ls) := Lib.hid (by rw [HN.out, ← sizesL_length, List.take_length])
      rw [HE.out] at HO
      go_wp2_with fail
      go_ret
      exact ⟨_, rfl, HO.out, HB.out⟩

theorem sizes_all64 {ls : List (List Int)} {w : World} {B : Nat} {v : Value} (h : ArV w B v ls) : All64 (sizesL ls) := by
  intro x hx
  obtain ⟨s, hs, rfl⟩ := List.mem_map.1 hx
  obtain ⟨j, hj, rfl⟩ := List.getElem_of_mem hs
  obtain ⟨A, c, _, _, _, hr⟩ := h
  obtain ⟨b, off, _, _, hcell⟩ := hr (by omega)
  obtain ⟨u, _, A', c', _, h1, h2, _⟩ := hcell j hj
  rw [List.getElem?_eq_getElem hj] at h1
  simp only [Option.getD_some] at h1
  unfold In64
  omega
set_option maxRecDepth 100000 in
theorem rright7_any (v : Value) (ls : List (List Int)) (w : World) (h : ArV w w.heap.size v ls) (hlen : ls.length ≤ 1000000000000) :
    Calls Try.prog 31 #[v] w fun e w' => e = .returned (.bool (fitsL (sizesL ls))) ∧ Below w.heap.size w w' := by
  have HS := Lib.hid (rsizes_any v ls w h hlen)
  have HA := Lib.hid (sizes_all64 h)
  clear h hlen
  go_enter Try.func31, Try.ntmps31
  go_wp2_with fail
  refine HS.out.mono ?_
  rintro e w1 ⟨u, rfl, ho, hB⟩
  have HO := Lib.hid (OwnN.numS ho)
  clear ho
  go_wp2_with fail
  refine (rfits_any u (sizesL ls) _ w1 HO.out HA.out).mono ?_
  rintro e w' ⟨rfl, rfl⟩
  go_wp2_with fail
  go_ret
  exact ⟨rfl, hB⟩

end Go.Proofs.Ythinhknfiaohlaa
