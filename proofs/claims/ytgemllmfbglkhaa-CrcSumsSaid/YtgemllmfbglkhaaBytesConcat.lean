/-
  slices.Concat of rows of bytes: new memory of the call's own that reads as all of them, one behind the other.
-/
import Derived.Test.YtgemllmfbglkhaaBytesOwn
namespace Go.Proofs.Ytgemllmfbglkhaa
open Go.RowKit Go.Deep

theorem flat_take (ls : List (List Int)) (t : Nat) (h : t < ls.length) : (ls.take (t + 1)).flatten = (ls.take t).flatten ++ ls[t]?.getD [] := by
  rw [List.take_add_one, List.flatten_append]
  simp [h]
theorem flat_take_le (ls : List (List Int)) (t : Nat) : (ls.take t).flatten.length ≤ ls.flatten.length := by
  have h := congrArg (fun x => List.length (List.flatten x)) (List.take_append_drop t ls)
  simp only [List.flatten_append, List.length_append] at h
  omega

set_option maxHeartbeats 1000000 in
theorem concat_any (g m cap : Nat) (vs : List Value) (ls : List (List Int)) (w : World) (hm : ls.length = m) (hg : g < w.heap.size) (hmc : m ≤ 1000000)
    (hcell : ∀ j, j < m → w.cell? ⟨g, j, none⟩ = some (vs[j]?.getD undef)) (hb : ∀ j, j < m → Bytes w w.heap.size (vs[j]?.getD undef) (ls[j]?.getD [])) (htot : ls.flatten.length ≤ 70368744177664) :
    Calls Try.prog 24 #[.slice (some ⟨g, 0, none⟩) m cap] w fun e w' => ∃ v, e = .returned v ∧ w'.ownsRow w.heap.size 5 1 v ls.flatten.length (ls.flatten.map (Value.int .u8)) ∧ Below w.heap.size w w' := by
  have HC := Lib.hid hcell
  have HB := Lib.hid hb
  have HM := Lib.hid hm
  clear hcell hb hm
  go_enter Try.func24, Try.ntmps24
  go_wp2
  go_loop [3, 11] (fun s i => ∃ t : Nat, t ≤ m ∧ i = .int .i64 t ∧ s = .int .i64 ((ls.take t).flatten.length : Nat)) (fun _ i => m - (intOf i).toNat)
  case atStart => exact ⟨0, by omega, rfl, by simp⟩
  case round =>
    obtain ⟨t, ht, rfl, rfl⟩ := hrel
    have hle := flat_take_le ls t
    by_cases hlt : t < m
    · have hc := HC.out t hlt
      obtain ⟨A, c, hv, hc1, hc2, _⟩ := HB.out t hlt
      rw [hv] at hc
      clear hv
      have HF := Lib.hid (congrArg List.length (flat_take ls t (by rw [HM.out]; exact hlt)))
      have hle2 := flat_take_le ls (t + 1)
      rw [HF.out, List.length_append] at hle2
      obtain ⟨s, hs⟩ : ∃ s : Nat, s = (ls.take t).flatten.length := ⟨_, rfl⟩
      obtain ⟨k, hk⟩ : ∃ k : Nat, k = (ls[t]?.getD []).length := ⟨_, rfl⟩
      rw [← hk] at hc hc1 hle2
      rw [← hs] at hle hle2 ⊢
      have HK1 := Lib.hid hs.symm
      have HK2 := Lib.hid hk.symm
      clear hs hk
      go_wp2
      go_round
      case rel => exact ⟨t + 1, by omega, by go_num, congrArg (Value.int .i64) (by rw [HF.out, List.length_append, HK1.out, HK2.out]; omega)⟩
      case measure => simp [intOf]; omega
    · obtain rfl : t = m := by omega
      have HF : Hid (ls.take t = ls) := Lib.hid (List.take_of_length_le (by rw [HM.out]; exact Nat.le_refl _))
      rw [HF.out]
      have HK : Hid (∃ K : Nat, K = ls.flatten.length) := Lib.hid ⟨_, rfl⟩
      obtain ⟨K, hK⟩ := HK.out
      rw [← hK] at htot ⊢
      have HK2 := Lib.hid hK
      clear hK HK
      go_wp2_with (go_at_call 29; refine (grow_any _ _ htot).mono ?_; rintro e w1 ⟨v1, rfl, ho1, hB1⟩)
      go_loopw [6, 27] (fun v i wr => ∃ j : Nat, j ≤ t ∧ i = .int .i64 j ∧ wr.ownsRow w.heap.size 5 1 v (ls.take j).flatten.length ((ls.take j).flatten.map (Value.int .u8)) ∧ Below w.heap.size w wr) (fun _ i _ => t - (intOf i).toNat)
      case atStart => exact ⟨0, by omega, rfl, by simpa using ho1, hB1⟩
      case round =>
        obtain ⟨j, hj, rfl, ho, hB⟩ := hrel
        by_cases hlt2 : j < t
        · have hc := (hB.cell (p := ⟨g, j, none⟩) hg).trans (HC.out j hlt2)
          have hby := (HB.out j hlt2).below hB (Nat.le_refl _)
          have HF2 := Lib.hid (flat_take ls j (by rw [HM.out]; exact hlt2))
          have hle := flat_take_le ls (j + 1)
          rw [HF2.out, List.length_append] at hle
          obtain ⟨v', w', hrun, ho', hgr⟩ := append_bytes wr w.heap.size w.heap.size 23 _ _ _ _ _ ho hby (by rw [HK2.out] at htot; omega) hB.size
          have HR := Lib.hid hrun
          have HB2 : Below w.heap.size w w' := hB.grown hgr hB.size (fun g e => (ho.lt g e).1)
          have HO : Hid (w'.ownsRow w.heap.size 5 1 v' (ls.take (j + 1)).flatten.length ((ls.take (j + 1)).flatten.map (Value.int .u8))) := Lib.hid (by rw [HF2.out, List.length_append, List.map_append]; exact ho')
          clear ho' hrun hgr ho hby hle
          generalize vs[j]?.getD undef = vj at *
          go_wp2_with (at_builtin; refine Lib.wpList_append_run _ rfl _ _ _ _ rfl _ _ rfl rfl _ _ HR.out ?_)
          go_roundw
          case rel => exact ⟨j + 1, by omega, by go_num, HO.out, HB2⟩
          case measure => simp [intOf]; omega
        · obtain rfl : j = t := by omega
          rw [HF.out] at ho
          go_wp2
          go_ret
          exact ⟨_, rfl, by rw [HK2.out]; exact ho, hB⟩

end Go.Proofs.Ytgemllmfbglkhaa
