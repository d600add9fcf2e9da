/-
  Layer 7: the document's Bytes.
-/
import Derived.Test.YthinhknfiaohlaaArSame
import Derived.Test.YthinhknfiaohlaaBytesOwn
import Derived.Test.YthinhknfiaohlaaBytesKeep
namespace Go.Proofs.Ythinhknfiaohlaa
open Go.RowKit Go.Deep

def AllU (ls : List (List Int)) : Prop := ∀ s ∈ ls, ∀ x ∈ s, 0 ≤ x ∧ x ≤ 18446744073709551615
theorem AllU.at_ {ls : List (List Int)} (h : AllU ls) (j i : Nat) : 0 ≤ (ls[j]?.getD [])[i]?.getD 0 ∧ (ls[j]?.getD [])[i]?.getD 0 ≤ 18446744073709551615 := by
  by_cases hj : j < ls.length
  · rw [List.getElem?_eq_getElem hj, Option.getD_some]
    by_cases hi : i < ls[j].length
    · rw [List.getElem?_eq_getElem hi]; exact h _ (List.getElem_mem hj) _ (List.getElem_mem hi)
    · rw [List.getElem?_eq_none (Nat.le_of_not_lt hi)]; exact ⟨by decide, by decide⟩
  · rw [List.getElem?_eq_none (Nat.le_of_not_lt hj)]; exact ⟨by simp, by simp⟩
/-- a segment's bytes -/
def segB (s : List Int) : List Int := s.flatMap (fun x => putL x 8)
def bytesA (ls : List (List Int)) : List Int := ls.flatMap segB
theorem segB_length (s : List Int) : (segB s).length = 8 * s.length := by
  induction s with
  | nil => rfl
  | cons x s ih =>
    unfold segB at *
    rw [List.flatMap_cons, List.length_append, ih, putL_length, List.length_cons]
    omega
theorem bytesA_length (ls : List (List Int)) : ((bytesA ls).length : Int) = 8 * (sizesL ls).sum := by
  induction ls with
  | nil => rfl
  | cons s ls ih =>
    unfold bytesA sizesL at *
    rw [List.flatMap_cons, List.length_append, segB_length, List.map_cons, List.sum_cons]
    omega
theorem segB_take {s : List Int} {k : Nat} (h : k < s.length) : segB (s.take (k + 1)) = segB (s.take k) ++ putL (s[k]?.getD 0) 8 := by
  unfold segB
  rw [List.take_add_one, List.flatMap_append, List.getElem?_eq_getElem h]
  simp
theorem bytesA_take {ls : List (List Int)} {t : Nat} (h : t < ls.length) : bytesA (ls.take (t + 1)) = bytesA (ls.take t) ++ segB (ls[t]?.getD []) := by
  unfold bytesA
  rw [List.take_add_one, List.flatMap_append, List.getElem?_eq_getElem h]
  simp
theorem sizesL_take' (ls : List (List Int)) (t : Nat) : sizesL (ls.take t) = (sizesL ls).take t := by unfold sizesL; rw [List.map_take]
def OwnB (w : World) (base : Nat) (v : Value) (xs : List Int) : Prop := w.ownsRow base 5 1 v xs.length (xs.map (Value.int .u8))
theorem OwnB.nil (w : World) (base : Nat) : OwnB w base (.slice none 0 0) [] := World.ownsRow_nil _ _ _ _
theorem OwnB.on {w w' : World} {base : Nat} {v : Value} {xs : List Int} (h : OwnB w base v xs) (hB : Below w.heap.size w w') : OwnB w' base v xs := own_on h hB
theorem OwnB.bytes {w : World} {base : Nat} {v : Value} {xs : List Int} (h : OwnB w base v xs) : Bytes w w.heap.size v xs := own_bytes h

set_option maxRecDepth 100000 in
set_option maxHeartbeats 2000000 in
theorem rbytes7_any (v : Value) (ls : List (List Int)) (w : World) (h : ArV w w.heap.size v ls) (hu : AllU ls) (hs : (sizesL ls).sum ≤ 1000000000000) :
    Calls Try.prog 17 #[v] w fun e w' => ∃ u, e = .returned u ∧ OwnB w' w.heap.size u (bytesA ls) ∧ Below w.heap.size w w' := by
  have HV := Lib.hid h
  obtain ⟨A, c, rfl, hc, hm, -⟩ := h
  obtain ⟨len, hn⟩ : ∃ n, n = ls.length := ⟨_, rfl⟩
  have HN := Lib.hid hn
  rw [← hn] at hc HV ⊢
  have HU := Lib.hid hu
  have HS := Lib.hid hs
  clear hu hs hn
  go_enter Try.func17, Try.ntmps17
  go_wp2_with fail
  go_loopw [3, 4] (fun o i wr => ∃ t : Nat, t ≤ len ∧ i = .int .i64 t ∧ OwnB wr w.heap.size o (bytesA (ls.take t)) ∧ Below w.heap.size w wr) (fun _ i _ => len - (intOf i).toNat)
  case atStart => exact ⟨0, by omega, rfl, OwnB.nil _ _, Below.refl _ _⟩
  case round =>
    obtain ⟨t, ht, rfl, ho, hB⟩ := hrel
    have HO := Lib.hid ho
    have HB := Lib.hid hB
    clear ho hB
    by_cases hlt : t < len
    · have HT := Lib.hid hlt
      obtain ⟨m, hm1⟩ : ∃ m, (ls[t]?.getD []).length = m := ⟨_, rfl⟩
      have HM := Lib.hid hm1
      obtain ⟨b, off, A1, c1, rfl, p1, k1, -⟩ := below_cells HV.out HB.out rfl (j := t) (by rw [← HN.out]; exact hlt)
      rw [hm1] at p1 k1
      clear hm1
      go_wp2_with fail
      go_loopw [3, 5] (fun o i wr => ∃ k : Nat, k ≤ m ∧ i = .int .i64 k ∧ OwnB wr w.heap.size o (bytesA (ls.take t) ++ segB ((ls[t]?.getD []).take k)) ∧ Below w.heap.size w wr) (fun _ i _ => m - (intOf i).toNat)
      case atStart => exact ⟨0, by omega, rfl, by rw [List.take_zero]; show OwnB _ _ _ (_ ++ []); rw [List.append_nil]; exact HO.out, HB.out⟩
      case round =>
        obtain ⟨k, hk, rfl, ho, hB⟩ := hrel
        have HO := Lib.hid ho
        have HB := Lib.hid hB
        clear ho hB
        obtain ⟨g2, o2, A2, c2, eA, p2, k2, hr2⟩ := below_cells HV.out HB.out rfl (j := t) (by rw [← HN.out]; exact HT.out)
        cases eA
        rw [HM.out] at p2 k2 hr2
        by_cases hlk : k < m
        · obtain ⟨g1, o1, rfl, x1⟩ := hr2 k hlk
          have hx := HU.out.at_ t k
          obtain ⟨x, hxx⟩ : ∃ x, (ls[t]?.getD [])[k]?.getD 0 = x := ⟨_, rfl⟩
          rw [hxx] at x1 hx
          have HX := Lib.hid hxx
          have HXB := Lib.hid hx
          clear hr2 hxx hx
          go_wp2_with fail
          refine (putr_any x 8 _ HXB.out.1 HXB.out.2).mono ?_
          rintro e w2 ⟨v6, rfl, hby, hB2⟩
          have hO2 := HO.out.on hB2
          have hlen : (bytesA (ls.take t) ++ segB ((ls[t]?.getD []).take k)).length ≤ 8000000000000 := by
            have h1 := bytesA_length (ls.take (t + 1))
            have h2 := (sizesL_le ls (t + 1)).2
            rw [sizesL_take'] at h1
            rw [bytesA_take (by rw [← HN.out]; exact HT.out), List.length_append, segB_length] at h1
            rw [List.length_append, segB_length, List.length_take]
            have := HS.out
            omega
          have hcl : clip8 8 = 8 := by decide
          rw [hcl] at hby
          obtain ⟨v', w', hrun, ho', hg'⟩ := append_bytes w2 w.heap.size w2.heap.size 24 u3 _ _ v6 (putL x 8) hO2 hby (by rw [putL_length]; omega) (Nat.le_trans HB.out.size hB2.size)
          have HR : Hid (OwnB w' w.heap.size v' (bytesA (ls.take t) ++ segB ((ls[t]?.getD []).take (k + 1))) ∧ Below w.heap.size w w') := Lib.hid (by
            refine ⟨?_, ?_⟩
            · unfold OwnB
              rw [segB_take (by rw [HM.out]; exact hlk), HX.out, ← List.append_assoc, List.length_append, List.map_append]
              exact ho'
            · have h1 := bseq HB.out hB2
              exact (h1.grown hg' h1.size (fun k e => (World.ownsRow.lt hO2 k e).1)))
          obtain ⟨A6, c6, rfl⟩ := hby.form (putL_length x 8)
          have HRun := Lib.hid hrun
          clear hrun ho' hg' hlen hO2 hby
          go_wp2_with (at_builtin; refine Lib.wpList_append_run _ rfl _ _ _ _ rfl _ _ rfl rfl _ _ HRun.out ?_)
          go_roundw
          case rel => exact ⟨k + 1, by omega, by go_num, HR.out.1, HR.out.2⟩
          case measure => simp [intOf]; omega
        · obtain rfl : k = m := by omega
          have HE : Hid (bytesA (ls.take (t + 1)) = bytesA (ls.take t) ++ segB ((ls[t]?.getD []).take k)) := Lib.hid (by rw [bytesA_take (by rw [← HN.out]; exact HT.out), ← HM.out, List.take_length])
          rw [← HE.out] at HO
          clear hr2
          go_wp2_with fail
          go_roundw
          case rel => exact ⟨t + 1, by omega, by go_num, HO.out, HB.out⟩
          case measure => simp [intOf]; omega
    · obtain rfl : t = len := by omega
      have HE : Hid (ls.take t = ls) := Lib.hid (by rw [HN.out, List.take_length])
      rw [HE.out] at HO
      go_wp2_with fail
      go_ret
      exact ⟨_, rfl, HO.out, HB.out⟩

end Go.Proofs.Ythinhknfiaohlaa
