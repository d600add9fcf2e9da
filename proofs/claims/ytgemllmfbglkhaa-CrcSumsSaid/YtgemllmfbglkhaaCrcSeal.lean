/-
  crc.Seal and the document's: a new row of bytes, that which came in and its sum behind it, four bytes, the least first.
-/
import Derived.Test.YtgemllmfbglkhaaCrcMore
import Derived.Test.YtgemllmfbglkhaaBytesConcat
namespace Go.Proofs.Ytgemllmfbglkhaa
open Go.RowKit Go.Deep

/-- bytes, and their sum behind them -/
def sealL (l : List Int) : List Int := l ++ putL (crcSum (nats l) : Nat) 4
theorem sealL_length (l : List Int) : (sealL l).length = l.length + 4 := by simp [sealL, putL_length]
theorem sealL_AllB {l : List Int} (h : AllB l) : AllB (sealL l) := h.append (putL_AllB _ _)
theorem own_base {w : World} {base base' e n : Nat} {v : Value} {xs : List Value} (h : w.ownsRow base e 1 v n xs) (hb : base' ≤ base) : w.ownsRow base' e 1 v n xs := by
  obtain ⟨h1, h2 | ⟨g, c, cur, e, hg, r⟩⟩ := h
  · exact ⟨h1, .inl h2⟩
  · exact ⟨h1, .inr ⟨g, c, cur, e, by omega, r⟩⟩

/-- slices.Concat of two rows, as 'slices.Concat(a, b)' lays them -/
theorem concat_two (va vb : Value) (la lb : List Int) (w : World) (ha : Bytes w w.heap.size va la) (hb : Bytes w w.heap.size vb lb) (htot : la.length + lb.length ≤ 70368744177664) :
    Calls Try.prog 24 #[.slice (some ⟨w.heap.size, 0, none⟩) 2 2] (w.alloc (.cells #[va, vb] 23)) fun e w' => ∃ v, e = .returned v ∧ w'.ownsRow w.heap.size 5 1 v (la ++ lb).length ((la ++ lb).map (Value.int .u8)) ∧ Below w.heap.size w w' := by
  have hrow := World.rowIs_alloc w #[va, vb] 23 (fun i => [va, vb][i]?.getD undef) (fun i hi => by
    match i, hi with
    | 0, _ => rfl
    | 1, _ => rfl)
  have hB : Below w.heap.size w (w.alloc (.cells #[va, vb] 23)) := (Below.refl _ w).alloc (Nat.le_refl _) _
  have he : [la, lb].flatten = la ++ lb := by simp
  refine (concat_any w.heap.size 2 2 [va, vb] [la, lb] _ rfl hrow.lt (by omega) (fun j hj => hrow.cell hj) (fun j hj => ?_) (by rw [he, List.length_append]; exact htot)).mono ?_
  · match j, hj with
    | 0, _ => exact ha.on hB
    | 1, _ => exact hb.on hB
  · rintro e w' ⟨v, rfl, ho, hB2⟩
    rw [he] at ho
    exact ⟨v, rfl, own_base ho (by simp), hB.trans (hB2.mono (by simp))⟩

/-- a row of the call's own lasts while calls only make memory -/
theorem own_on {w w' : World} {base e n : Nat} {v : Value} {xs : List Value} (h : w.ownsRow base e 1 v n xs) (hB : Below w.heap.size w w') : w'.ownsRow base e 1 v n xs := by
  obtain ⟨h1, h2 | ⟨g, c, cur, e, hg, hh, r⟩⟩ := h
  · exact ⟨h1, .inl h2⟩
  · refine ⟨h1, .inr ⟨g, c, cur, e, hg, ?_, r⟩⟩
    rw [hB.block g ?_]
    · exact hh
    · rcases Nat.lt_or_ge g w.heap.size with hlt | hge
      · exact hlt
      · rw [Array.getElem?_eq_none hge] at hh; cases hh

set_option maxHeartbeats 1000000 in
theorem seal_any (v : Value) (l : List Int) (w : World) (h : Bytes w w.heap.size v l) (hl : AllB l) (hlen : l.length ≤ 1000000) :
    Calls Try.prog 19 #[v] w fun e w' => ∃ v', e = .returned v' ∧ w'.ownsRow w.heap.size 5 1 v' (sealL l).length ((sealL l).map (Value.int .u8)) ∧ Below w.heap.size w w' := by
  have HB := Lib.hid h
  have hs := crcSum_lt (nats_BB hl)
  obtain ⟨A, c, rfl⟩ := h.form rfl
  clear h
  have HQ : Hid (sealL l = [l, putL (crcSum (nats l) : Nat) 4].flatten) := Lib.hid (by simp [sealL])
  have HQ2 := Lib.hid (sealL_length l)
  obtain ⟨s, hss⟩ : ∃ s : Nat, s = crcSum (nats l) := ⟨_, rfl⟩
  rw [← hss] at hs
  have HS := Lib.hid hss.symm
  have hc4 : clip8 4 = 4 := rfl
  clear hss
  go_enter Try.func19, Try.ntmps19
  go_wp2_with fail
  refine (sum_any _ l w HB.out hl).mono ?_
  rintro e w1 ⟨rfl, hB1⟩
  rw [HS.out]
  go_wp2_with (go_at_call 25; refine (put_any _ _ _).mono ?_; rintro e w2 ⟨v2, rfl, hy2, hB2⟩; obtain ⟨A2, c2, rfl⟩ := hy2.form (putL_length _ _))
  rw [hc4] at hy2
  refine (concat_two _ _ l (putL s 4) w2 (HB.out.on (bseq hB1 hB2)) hy2 (by rw [putL_length]; omega)).mono ?_
  rintro e w3 ⟨v3, rfl, ho, hB3⟩
  have HO : Hid (w3.ownsRow w.heap.size 5 1 v3 (sealL l).length ((sealL l).map (Value.int .u8))) := Lib.hid (by
    have := own_base ho (bseq hB1 hB2).size
    unfold sealL
    rw [HS.out]
    exact this)
  clear ho
  go_wp2
  go_ret
  exact ⟨_, rfl, HO.out, bseq hB1 (bseq hB2 hB3)⟩

set_option maxHeartbeats 1000000 in
theorem sealr_any (v : Value) (l : List Int) (w : World) (h : Bytes w w.heap.size v l) (hl : AllB l) (hlen : l.length ≤ 1000000) :
    Calls Try.prog 20 #[v] w fun e w' => ∃ v', e = .returned v' ∧ w'.ownsRow w.heap.size 5 1 v' (sealL l).length ((sealL l).map (Value.int .u8)) ∧ Below w.heap.size w w' := by
  have HB := Lib.hid h
  have hs := crcSum_lt (nats_BB hl)
  obtain ⟨v1, w1, hr1, ho1, hg1⟩ := append_bytes w w.heap.size w.heap.size 23 (.slice none 0 0) 0 [] v l (World.ownsRow_nil _ _ _ _) h (by omega) (Nat.le_refl _)
  rw [Nat.zero_add, List.nil_append] at ho1
  have hB1 : Below w.heap.size w w1 := (Below.refl _ _).grown hg1 (Nat.le_refl _) (fun g e => by cases e)
  obtain ⟨A, c, rfl⟩ := h.form rfl
  have hc4 : clip8 4 = 4 := rfl
  have HR1 := Lib.hid hr1
  have HO1 := Lib.hid ho1
  clear h hr1 ho1 hg1
  obtain ⟨s, hss⟩ : ∃ s : Nat, s = crcSum (nats l) := ⟨_, rfl⟩
  rw [← hss] at hs
  have HS := Lib.hid hss.symm
  clear hss
  go_enter Try.func20, Try.ntmps20
  go_wp2_with (at_builtin; refine Lib.wpList_append_run _ rfl _ _ _ _ rfl _ _ rfl rfl _ _ HR1.out ?_)
  refine (sumr_any w1.heap.size _ l w1 (HB.out.on hB1) hl).mono ?_
  rintro e w' ⟨rfl, rfl⟩
  rw [HS.out]
  go_wp2_with (first | (go_at_call 26; refine (putr_any _ _ _ (by omega) (by omega)).mono ?_; rintro e w2 ⟨v2, rfl, hy2, hB2⟩; obtain ⟨v3, w3, hr3, ho3, hg3⟩ := append_bytes w2 w.heap.size w2.heap.size 23 v1 l.length (l.map (Value.int .u8)) v2 (putL s 4) (own_on HO1.out hB2) hy2 (by rw [putL_length]; omega) (bseq hB1 hB2).size; have HR3 := Lib.hid hr3; have HO3 := Lib.hid ho3; have HG3 := Lib.hid hg3; clear hr3 ho3 hg3) | (at_builtin; refine Lib.wpList_append_run _ rfl _ _ _ _ rfl _ _ rfl rfl _ _ HR3.out ?_))
  have hB3 : Below w.heap.size w w3 := (bseq hB1 hB2).grown HG3.out (bseq hB1 hB2).size (fun g e => (HO1.out.lt g e).1)
  go_ret
  refine ⟨_, rfl, ?_, hB3⟩
  unfold sealL
  rw [HS.out, List.length_append, List.map_append]
  exact HO3.out

end Go.Proofs.Ytgemllmfbglkhaa
