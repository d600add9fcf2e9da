/-
  Layer 10: the law TreeDecodes: Decode of any arena, and of choices, bent or not, is what the document says.
-/
import Derived.Test.YtdfldfnjjjcleaaDoorZTnD
import Derived.Test.YtdfldfnjjjcleaaDoorZTbBent
import Derived.Test.YtdfldfnjjjcleaaDoorZTeKnown
import Derived.Test.YtdfldfnjjjcleaaDoorZTeSame
import Derived.Test.YtdfldfnjjjcleaaDoorZArG
import Derived.Test.YtdfldfnjjjcleaaDoorZTeBack

namespace Go.Proofs.YtdfldfnjjjcleaaDoor
open Go.RowKit Go.Deep

/-! ### errors are small numbers -/
def SmE (x : Int) : Prop := 0 ≤ x ∧ x ≤ 65535
theorem sm0 : SmE 0 := ⟨by decide, by decide⟩
theorem sm1 : SmE 1 := ⟨by decide, by decide⟩
theorem sm20 : SmE 20 := ⟨by decide, by decide⟩
theorem sm21 : SmE 21 := ⟨by decide, by decide⟩
theorem sm22 : SmE 22 := ⟨by decide, by decide⟩
theorem sm23 : SmE 23 := ⟨by decide, by decide⟩
theorem decE_sm (n : Int) : SmE (decE n) := by unfold decE SmE; split <;> omega
theorem ptE_sm {s : Sr} (hs : s.Good) (g a : Int) : SmE (ptE s g a) := by
  unfold ptE
  split
  · exact hs.we g a
  · exact decE_sm _
theorem ptE2_sm {s : Sr} (hs : s.Good) (g a : Int) : SmE (ptE2 s g a) := by
  unfold ptE2
  split
  · exact hs.we g a
  · split
    · exact hs.we g (a + 1)
    · split
      · exact decE_sm _
      · exact decE_sm _
theorem target_sm {s : Sr} (hs : s.Good) (g a : Int) : SmE (targetO s g a).2 := by
  unfold targetO
  split
  · exact ptE_sm hs g a
  · split
    · first | exact sm0 | exact sm1 | exact sm20 | exact sm21 | exact sm22 | exact sm23
    · split
      · unfold landedO
        split
        · unfold landed2
          split
          · exact ptE2_sm hs _ _
          · split
            · first | exact sm0 | exact sm1 | exact sm20 | exact sm21 | exact sm22 | exact sm23
            · split
              · first | exact sm0 | exact sm1 | exact sm20 | exact sm21 | exact sm22 | exact sm23
              · first | exact sm0 | exact sm1 | exact sm20 | exact sm21 | exact sm22 | exact sm23
        · unfold landed1
          split
          · exact ptE_sm hs _ _
          · split
            · first | exact sm0 | exact sm1 | exact sm20 | exact sm21 | exact sm22 | exact sm23
            · first | exact sm0 | exact sm1 | exact sm20 | exact sm21 | exact sm22 | exact sm23
      · first | exact sm0 | exact sm1 | exact sm20 | exact sm21 | exact sm22 | exact sm23
theorem follow_sm {s : Sr} (hs : s.Good) (g a : Int) : SmE (followO s g a).2 := by
  unfold followO checkO
  split
  · exact target_sm hs g a
  · split
    · rcases wordE_two (ptrO (targetO s g a).1) with e | e <;> rw [e] <;> first | exact sm0 | exact sm1 | exact sm20 | exact sm21 | exact sm22 | exact sm23
    · split
      · first | exact sm0 | exact sm1 | exact sm20 | exact sm21 | exact sm22 | exact sm23
      · first | exact sm0 | exact sm1 | exact sm20 | exact sm21 | exact sm22 | exact sm23
theorem decN_sm {s : Sr} (hs : s.Good) : (d : Nat) → (g a p : Int) → SmE (decN s d g a p).err
  | 0, g, a, p => by
    unfold decN
    split
    · exact follow_sm hs g a
    · split
      · first | exact sm0 | exact sm1 | exact sm20 | exact sm21 | exact sm22 | exact sm23
      · split <;> first | exact sm0 | exact sm1 | exact sm20 | exact sm21 | exact sm22 | exact sm23
  | d+1, g, a, p => by
    have hk : ∀ (n : Nat) (g a p : Int), SmE (decKids (decN s d) n g a p).1 := by
      intro n
      induction n with
      | zero => intro g a p; first | exact sm0 | exact sm1 | exact sm20 | exact sm21 | exact sm22 | exact sm23
      | succ n ih =>
        intro g a p
        unfold decKids
        split
        · exact decN_sm hs d g a p
        · exact ih _ _ _
    unfold decN
    split
    · exact follow_sm hs g a
    · split
      · first | exact sm0 | exact sm1 | exact sm20 | exact sm21 | exact sm22 | exact sm23
      · split
        · first | exact sm0 | exact sm1 | exact sm20 | exact sm21 | exact sm22 | exact sm23
        · split
          · exact hk _ _ _ _
          · first | exact sm0 | exact sm1 | exact sm20 | exact sm21 | exact sm22 | exact sm23
theorem decode_sm {ls : List (List Int)} (hu : AllU ls) (h64 : All64 (sizesL ls)) : SmE (decodeT ls).2 := by
  unfold decodeT
  by_cases hf : fitsL (sizesL ls) = true
  · rw [if_pos hf]
    have hs : ls.length ≤ 1000000000 := by
      have h1 := (of_decide_eq_true hf).2.1
      rw [sizesL_length] at h1
      omega
    split
    · exact decN_sm (srA_good hs hu h64) 32 0 0 0
    · first | exact sm0 | exact sm1 | exact sm20 | exact sm21 | exact sm22 | exact sm23
  · rw [if_neg hf]
    first | exact sm0 | exact sm1 | exact sm20 | exact sm21 | exact sm22 | exact sm23

set_option maxRecDepth 100000 in
set_option maxHeartbeats 1000000 in
/-- how many words there are: a number -/
theorem lwords10_any (v : Value) (ls : List (List Int)) (B : Nat) (w : World) (h : ArV w B v ls) :
    Calls Tryd.prog 10 #[v] w fun e w' => (∃ n : Int, e = .returned (.int .i64 n)) ∧ w = w' := by
  obtain ⟨A, c, rfl, hc, hm, hr⟩ := h
  obtain ⟨len, hn⟩ : ∃ n, n = ls.length := ⟨_, rfl⟩
  rw [← hn] at hc ⊢
  have H := Lib.hid hr
  have HN := Lib.hid hn
  clear hr hn
  go_enter Tryd.func10, Tryd.ntmps10
  go_wp2_with fail
  go_loopw [3, 4] (fun s i wr => ∃ t : Nat, t ≤ len ∧ i = .int .i64 t ∧ (∃ S : Int, s = .int .i64 S) ∧ w = wr) (fun _ i _ => len - (intOf i).toNat)
  case atStart => exact ⟨0, by omega, rfl, ⟨0, rfl⟩, rfl⟩
  case round =>
    obtain ⟨t, ht, rfl, ⟨S, rfl⟩, rfl⟩ := hrel
    by_cases hlt : t < len
    · obtain ⟨b, off, rfl, _, hcell⟩ := H.out (by rw [← HN.out]; omega)
      obtain ⟨s, p1, hs1⟩ := hcell t (by rw [← HN.out]; exact hlt)
      obtain ⟨m, hm1⟩ : ∃ m, (ls[t]?.getD []).length = m := ⟨_, rfl⟩
      obtain ⟨A1, c1, rfl⟩ := hs1.form hm1
      clear hcell hs1 hm1
      go_wp2_with fail
      go_roundw
      case rel => exact ⟨t + 1, by omega, by go_num, ⟨_, rfl⟩, trivial⟩
      case measure => simp [intOf]; omega
    · obtain rfl : t = len := by omega
      go_wp2_with fail
      go_ret
      exact ⟨⟨_, rfl⟩, rfl⟩

set_option maxRecDepth 100000 in
set_option maxHeartbeats 1000000 in
theorem decodes_anyT (v : Value) (ls : List (List Int)) (w : World) (L : Laid w) (h : ArV w w.heap.size v ls) (hl : ls.length ≤ 10000000000000) (hu : AllU ls) :
    Calls Tryd.prog 12 #[v] w fun e w' => e = .returned (.bool true) ∧ Below w.heap.size w w' := by
  have HD := Lib.hid (fun X (hX : Below w.heap.size w X) => decode_anyB v ls X (L.on hX) (h.on hX) hl hu)
  have HR := Lib.hid (fun X (hX : Below w.heap.size w X) => rdecode_anyB v ls X (h.on hX) hl hu)
  obtain ⟨Z, hZ⟩ : ∃ Z, Z = decodeT ls := ⟨_, rfl⟩
  have hE := decode_sm hu (sizes_all64 h)
  rw [← hZ] at HD HR hE
  have HE := Lib.hid hE
  clear hE
  have HS := Lib.hid (same10_refl Z.1)
  have HSm := Lib.hid (fun X u x (hu : TrV X X.heap.size Z.1 u) (hx : TrV X X.heap.size Z.1 x) => rsame8_any Z.1 Z.1 u x X hu hx)
  obtain ⟨A, q, rfl⟩ := h.form rfl
  generalize ls.length = m at *
  clear hZ h hl hu L
  go_enter Tryd.func12, Tryd.ntmps12
  go_wp2_with fail
  refine (HD.out w (Below.refl _ _)).mono ?_
  intro e w2 hR
  obtain ⟨u, he, hT, hB2⟩ := hR
  obtain ⟨k1, q1, A1, n1, c1, A2, n2, c2, A3, n3, c3, rfl⟩ := hT.parts
  subst he
  unfold cellsT
  obtain ⟨w3, hw3⟩ : ∃ w3, w3 = w2.alloc (.cells #[.int .i64 k1, .int .i64 q1, .slice A1 n1 c1, .slice A2 n2 c2, .slice A3 n3 c3] 37) := ⟨_, rfl⟩
  have hB3 : Below w2.heap.size w2 w3 := by rw [hw3]; exact (Below.refl _ _).alloc (Nat.le_refl _) _
  have hX3 : TBox w3 w2.heap.size k1 q1 (.slice A1 n1 c1) (.slice A2 n2 c2) (.slice A3 n3 c3) := by rw [hw3]; exact TBox.new _ _ _ _ _ _
  have HT3 := Lib.hid ((TrP.trV (fun b hb => hb.2) _ _ hT).on hB3)
  have HB3 := Lib.hid (hB2.trans (hB3.mono hB2.size))
  have HX3 := Lib.hid hX3
  clear hT hB2 hB3 hX3
  go_upto_region 2 with fail
  rw [← hw3]
  clear hw3
  go_wp2_with fail
  refine (HR.out w3 HB3.out).mono ?_
  intro e w4 hR
  obtain ⟨k2, q2, B1, m1, d1, B2, m2, d2, B3, m3, d3, he, hT, hB4⟩ := hR
  subst he
  unfold cellsT
  obtain ⟨w5, hw5⟩ : ∃ w5, w5 = w4.alloc (.cells #[.int .i64 k2, .int .i64 q2, .slice B1 m1 d1, .slice B2 m2 d2, .slice B3 m3 d3] 37) := ⟨_, rfl⟩
  have hB5 : Below w4.heap.size w4 w5 := by rw [hw5]; exact (Below.refl _ _).alloc (Nat.le_refl _) _
  have hX5 : TBox w5 w4.heap.size k2 q2 (.slice B1 m1 d1) (.slice B2 m2 d2) (.slice B3 m3 d3) := by rw [hw5]; exact TBox.new _ _ _ _ _ _
  have hT5 := (TrP.trV (fun b hb => hb.2) _ _ hT).on hB5
  have hT5' := (HT3.out.on hB4).on hB5
  have HB5 := Lib.hid (HB3.out.trans ((bseq8 hB4 hB5).mono HB3.out.size))
  have hC := HSm.out w5 _ _ hT5' hT5
  rw [HS.out] at hC
  unfold cellsT at hC
  have HC := Lib.hid hC
  obtain ⟨x0, x1, x2, x3, x4⟩ := ((HX3.out.on hB4).on hB5).cells
  obtain ⟨y0, y1, y2, y3, y4⟩ := hX5.cells
  clear hT hB4 hB5 hX5 hT5 hT5' hC HSm HD HR HS
  generalize Z.2 = E at *
  have hE1 := HE.out.1
  have hE2 := HE.out.2
  go_upto_region 3 with fail
  rw [← hw5]
  clear hw5
  have hE : (E == E) = true := by simp
  go_wp2_with fail
  refine HC.out.mono ?_
  rintro e w6 ⟨rfl, hB6⟩
  have HB6 := Lib.hid (HB5.out.trans (hB6.mono HB5.out.size))
  clear hB6
  go_wp2_with fail
  go_ret
  exact ⟨by first | rfl | simp, HB6.out⟩

end Go.Proofs.YtdfldfnjjjcleaaDoor

namespace Go.Proofs.YtdfldfnjjjcleaaDoor
open Go.RowKit Go.Deep

set_option maxRecDepth 100000 in
set_option maxHeartbeats 2000000 in
theorem tdecodes_walk (la : List (List Int)) (c d : List Int) (va vc vd : Value) (k : Nat) (w : World) (ha : ArV w w.heap.size va la) (hla : la.length ≤ 10000000000000) (hua : AllU la) (hc : Bytes w w.heap.size vc c) (hcb : AllB c) (hd : Bytes w w.heap.size vd d) (hdb : AllB d) (hk : k ≤ 255) (L : Laid w) :
    Calls Tryd.prog 3 #[va, vc, vd, .int .u8 k] w fun e w' => e = .returned (.bool true) ∧ Below w.heap.size w w' := by
  have HK := Lib.hid (fun X (hX : Below w.heap.size w X) => known10_any X (L.on hX))
  have HWo := Lib.hid (fun X (hX : Below w.heap.size w X) => lwords10_any va la X.heap.size X (ha.on hX))
  have HDa := Lib.hid (fun X (hX : Below w.heap.size w X) => decodes_anyT va la X (L.on hX) (ha.on hX) hla hua)
  have HDx := Lib.hid (fun X (hX : Below w.heap.size w X) v ls (h : ArV X X.heap.size v ls) (hl : ls.length ≤ 10000000000000) (hu : AllU ls) => decodes_anyT v ls X (L.on hX) h hl hu)
  have HBe := Lib.hid (fun X (hX : Below w.heap.size w X) => bent_any c d vc vd k X (hc.on hX) (hd.on hX) hcb hdb hk)
  have HBn := Lib.hid (fun X (hX : Below w.heap.size w X) => bent_any c [] vc (.slice none 0 0) k X (hc.on hX) (nil_bytes _ _) hcb (fun x hx => by simp at hx) hk)
  have HGe := Lib.hid (fun X (hX : Below w.heap.size w X) => gen_any vc c k X (hc.on hX) hcb (by omega))
  have HGs := Lib.hid (arL_sm hcb k)
  obtain ⟨Aa, ca, rfl⟩ := ha.form rfl
  obtain ⟨Ac, cc, rfl⟩ := hc.form rfl
  obtain ⟨Ad, cd, rfl⟩ := hd.form rfl
  generalize la.length = na at *
  obtain ⟨lc, hlc⟩ : ∃ lc, lc = c.length := ⟨_, rfl⟩
  rw [← hlc] at HBe HBn HGe ⊢
  generalize d.length = ld at *
  clear ha hla hua hc hcb hd hdb L hlc
  go_enter Tryd.func3, Tryd.ntmps3
  go_wp2_with fail
  refine (HWo.out w (Below.refl _ _)).mono ?_
  rintro e w2 ⟨⟨n, rfl⟩, rfl⟩
  by_cases hn : n > 300
  · go_wp2_with fail
    refine (HK.out w (Below.refl _ _)).mono ?_
    rintro e w2 ⟨rfl, hB2⟩
    have HB2 := Lib.hid hB2
    clear hB2
    go_wp2_with fail
    go_ret
    exact ⟨rfl, HB2.out⟩
  · by_cases hl : (lc : Int) > 200
    · go_wp2_with fail
      refine (HK.out w (Below.refl _ _)).mono ?_
      rintro e w2 ⟨rfl, hB2⟩
      have HB2 := Lib.hid hB2
      clear hB2
      go_wp2_with fail
      go_ret
      exact ⟨rfl, HB2.out⟩
    · go_wp2_with fail
      refine (HK.out w (Below.refl _ _)).mono ?_
      rintro e w2 ⟨rfl, hB2⟩
      have HB2 := Lib.hid hB2
      clear hB2
      go_wp2_with fail
      refine (HDa.out w2 HB2.out).mono ?_
      rintro e w3 ⟨rfl, hB3⟩
      have HB3 := Lib.hid (HB2.out.trans (hB3.mono HB2.out.size))
      clear hB3
      go_wp2_with fail
      refine (HBe.out w3 HB3.out).mono ?_
      intro e w4 hR
      obtain ⟨v4, l4, he, h1, h2, h3, h4, h5, h6⟩ := hR
      subst he
      have HB4 := Lib.hid (HB3.out.trans (h6.mono HB3.out.size))
      have HC4 := Lib.hid (HDx.out w4 HB4.out v4 l4 h1 (by omega) h2)
      clear h1 h2 h3 h4 h5 h6
      go_wp2_with fail
      refine HC4.out.mono ?_
      rintro e w5 ⟨rfl, hB5⟩
      have HB5 := Lib.hid (HB4.out.trans (hB5.mono HB4.out.size))
      clear hB5 HC4
      go_wp2_with fail
      refine (HBn.out w5 HB5.out).mono ?_
      intro e w6 hR
      obtain ⟨v6, l6, he, h1, h2, h3, h4, h5, h6⟩ := hR
      subst he
      have HB6 := Lib.hid (HB5.out.trans (h6.mono HB5.out.size))
      have HC6 := Lib.hid (HDx.out w6 HB6.out v6 l6 h1 (by omega) h2)
      clear h1 h2 h3 h4 h5 h6
      go_wp2_with fail
      refine HC6.out.mono ?_
      rintro e w7 ⟨rfl, hB7⟩
      have HB7 := Lib.hid (HB6.out.trans (hB7.mono HB6.out.size))
      clear hB7 HC6
      go_wp2_with fail
      refine (HGe.out w7 HB7.out).mono ?_
      rintro e w8 ⟨u8, rfl, hO, hB8⟩
      have HB8 := Lib.hid (HB7.out.trans (hB8.mono HB7.out.size))
      have HC8 := Lib.hid (HDx.out w8 HB8.out u8 _ hO.arV (by have := HGs.out.1; omega) HGs.out.2.2)
      clear hO hB8
      go_wp2_with fail
      refine HC8.out.mono ?_
      rintro e w9 ⟨rfl, hB9⟩
      have HB9 := Lib.hid (HB8.out.trans (hB9.mono HB8.out.size))
      clear hB9
      go_wp2_with fail
      go_ret
      exact ⟨rfl, HB9.out⟩

end Go.Proofs.YtdfldfnjjjcleaaDoor
