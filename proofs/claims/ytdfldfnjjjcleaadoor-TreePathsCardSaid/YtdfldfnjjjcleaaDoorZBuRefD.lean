/-
  Layer 8: the document's builder: words behind those of a segment.
-/
import Derived.Test.YtdfldfnjjjcleaaDoorZBuRefA
import Derived.Test.YtdfldfnjjjcleaaDoorZAr

namespace Go.Proofs.YtdfldfnjjjcleaaDoor
open Go.RowKit Go.Deep

/-- a row value laid behind the others -/
theorem append_row1 (w : World) (base ty n : Nat) (v : Value) (vs : List Value) (hown : w.ownsRow base 34 1 v n vs) (hk : n ≤ 1000000) (hbase : base ≤ w.heap.size) :
    ∃ g c' w', (Builtin.append_ #[23, 23] ty #[v, .slice (some ⟨w.heap.size, 0, none⟩) 1 1]).run Tryd.prog (w.alloc (.cells #[.slice none 0 0] 34)) = .ok (.slice (some ⟨g, 0, none⟩) (n + 1) c') w' ∧ w'.ownsRow base 34 1 (.slice (some ⟨g, 0, none⟩) (n + 1) c') (n + 1) (vs ++ [.slice none 0 0]) ∧ (w.alloc (.cells #[.slice none 0 0] 34)).grownBy w' v.ownBlock := by
  obtain ⟨i0, hi, hz0, hz1, hz2⟩ := info_parts Tryd.info34
  obtain ⟨v', w', hrun, ho, hg, _, hl⟩ := run_append_own_at (P := Tryd.prog) (w := w.alloc (.cells #[.slice none 0 0] 34)) base 23 ty 34 i0 _ 1 24 Tryd.underlying23 hi hz0 hz1 hz2 rfl (by decide) v n vs (World.ownsRow.alloc hown _) ⟨w.heap.size, 0, none⟩ 1 1 [.slice none 0 0] rfl (cell_one_new _ _ _) (fun u hu => by simp at hu; subst hu; rfl) (by unfold maxLen; omega) (by omega) (by simp; omega)
  obtain ⟨g', c3, rfl⟩ := ownsRow_succ ho
  exact ⟨g', c3, w', hrun, ho, hg⟩
theorem lenS_sizes (a : List (List Int)) : (sizesL a).sum = (lenS a : Int) := by
  unfold sizesL lenS
  induction a with
  | nil => rfl
  | cons x r ih =>
    simp only [List.map_cons, List.sum_cons, ih]
    omega
theorem seg_leS (a : List (List Int)) (j : Nat) : (a[j]?.getD []).length ≤ lenS a := by
  unfold lenS
  induction a generalizing j with
  | nil => simp
  | cons x r ih =>
    cases j with
    | zero => simp
    | succ j =>
      have := ih j
      simp only [List.getElem?_cons_succ, List.map_cons, List.sum_cons]
      omega
theorem lenS_app {a : List (List Int)} {s : Nat} (h : s < a.length) (l : List Int) : lenS (a.set s (a[s]?.getD [] ++ l)) = lenS a + l.length := by
  unfold lenS
  induction a generalizing s with
  | nil => simp at h
  | cons x r ih =>
    cases s with
    | zero => simp; omega
    | succ s =>
      have := ih (s := s) (by simpa using h)
      simp only [List.getElem?_cons_succ, List.set_cons_succ, List.map_cons, List.sum_cons] at this ⊢
      omega
def preA (a : List (List Int)) (seg : Nat) : List (List Int) := if seg = a.length then a ++ [[]] else a
theorem moreA_pre (a : List (List Int)) (seg : Nat) (l : List Int) : moreA a seg l = (preA a seg).set seg ((preA a seg)[seg]?.getD [] ++ l) := rfl

set_option maxRecDepth 100000 in
set_option maxHeartbeats 2000000 in
theorem rmore_any (n : Nat) (A : Option Addr) (c : Nat) (ls : List (List Int)) (sz : Nat) (f : Bool) (seg : Nat) (Al : Option Addr) (m cl : Nat) (l : List Int) (w : World) (P0 : Nat → Prop) (hPw : ∀ b, P0 b → b < w.heap.size) (h : ArP w P0 (.slice A n c) ls) (hn : n = ls.length) (hp : 0 < n) (hs : seg ≤ n) (hl : NumS .u64 w w.heap.size (.slice Al m cl) l)
    (hk : n ≤ 1000000) (hm : l.length ≤ 1000000) (hlen : lenS ls ≤ 1000000) :
    Calls Tryd.prog 62 #[.agg #[.slice A n c, .int .i64 sz, .bool f], .int .i64 seg, .slice Al m cl] w fun e w' => ∃ A' n' c', e = .returned (.agg #[.slice A' n' c', .int .i64 sz, .bool (moreW sz ⟨ls, f⟩ seg l).full]) ∧ ArP w' (fun b => P0 b ∨ (w.heap.size ≤ b ∧ b < w'.heap.size)) (.slice A' n' c') (moreW sz ⟨ls, f⟩ seg l).a ∧ n' = (moreW sz ⟨ls, f⟩ seg l).a.length ∧ Below w.heap.size w w' := by
  obtain ⟨W1, hW1⟩ : ∃ W1, W1 = w.alloc (.cells #[.slice A n c, .int .i64 sz, .bool f] 85) := ⟨_, rfl⟩
  obtain ⟨W2, hW2⟩ : ∃ W2, W2 = W1.alloc (.cells #[.slice none 0 0, .int .i64 0, .bool false] 85) := ⟨_, rfl⟩
  have hz1 : W1.heap.size = w.heap.size + 1 := by rw [hW1]; simp
  have hz2 : W2.heap.size = w.heap.size + 2 := by rw [hW2]; simp; omega
  have hB12 : Below W1.heap.size W1 W2 := by rw [hW2]; exact (Below.refl _ _).alloc (Nat.le_refl _) _
  have hS2 : SBox W2 w.heap.size (.slice A n c) sz f := by rw [hW1] at hB12 hW2; exact (SBox.new w _ _ _).on hB12
  have hR2 : SBox W2 (w.heap.size + 1) (.slice none 0 0) 0 false := by rw [hW2, ← hz1]; exact SBox.new W1 _ _ _
  have hB2 : Below w.heap.size w W2 := by rw [hW2, hW1]; exact ((Below.refl _ _).alloc (Nat.le_refl _) _).alloc (by simp) _
  obtain ⟨g3, c3, w3, us, hul, hrun3, ho3, hB3, hus⟩ := append_rows W2 P0 23 n A c ls (h.keep (fun b hb => hB2.block b (hPw b hb))) hn (by omega) hk
  have hcz : n ≤ c3 ∧ c3 ≤ 9223372036854775807 := by
    obtain ⟨_, ⟨e, _⟩ | ⟨g', c', cur, e, _, _, q1, q2, _⟩⟩ := ho3
    · cases e
    · cases e
      exact ⟨q1, by unfold maxLen at q2; omega⟩
  have hg3 := World.ownsRow.lt ho3 g3 rfl
  -- what is there before the words are laid
  obtain ⟨P, hP⟩ : ∃ P, P = preA ls seg := ⟨_, rfl⟩
  obtain ⟨N, hN⟩ : ∃ N, N = P.length := ⟨_, rfl⟩
  have hmw : moreW sz ⟨ls, f⟩ seg l = ⟨P.set seg (P[seg]?.getD [] ++ l), f || decide (sz < ((P.set seg (P[seg]?.getD [] ++ l))[seg]?.getD []).length) || decide (16 < (P.set seg (P[seg]?.getD [] ++ l)).length) || decide (4096 < lenS (P.set seg (P[seg]?.getD [] ++ l)))⟩ := by
    rw [hP]
    rfl
  have hsP : seg < N := by
    rw [hN, hP]
    unfold preA
    by_cases e : seg = ls.length
    · rw [if_pos e]; simp; omega
    · rw [if_neg e]; omega
  have hNn : N ≤ n + 1 := by
    rw [hN, hP]
    unfold preA
    by_cases e : seg = ls.length
    · rw [if_pos e]; simp; omega
    · rw [if_neg e]; omega
  have hPl : lenS P = lenS ls := by
    rw [hP]
    unfold preA
    by_cases e : seg = ls.length
    · rw [if_pos e]; simp [lenS]
    · rw [if_neg e]
  have hPs := seg_leS P seg
  have hQS := lenS_app (a := P) (s := seg) (by omega) l
  obtain ⟨Q, hQ⟩ : ∃ Q, Q = P.set seg (P[seg]?.getD [] ++ l) := ⟨_, rfl⟩
  have hQN : Q.length = N := by rw [hQ, List.length_set, hN]
  have hQs : Q[seg]?.getD [] = P[seg]?.getD [] ++ l := by rw [hQ, getD_set (by omega), if_pos rfl]
  rw [← hQ] at hQS hmw
  rw [hQs, hQN] at hmw
  rw [hmw]
  dsimp only
  obtain ⟨q, hq⟩ : ∃ q, q = (P[seg]?.getD [] ++ l).length := ⟨_, rfl⟩
  rw [← hq]
  obtain ⟨S, hS⟩ : ∃ S, S = lenS Q := ⟨_, rfl⟩
  rw [← hS]
  obtain ⟨F, hF⟩ : ∃ F, F = (f || decide (sz < q) || decide (16 < N) || decide (4096 < S)) := ⟨_, rfl⟩
  rw [← hF]
  have hql : q ≤ 2000000 := by rw [hq, List.length_append]; omega
  have hSl : S ≤ 2000000 := by omega
  have HQ := Lib.hid hQ
  have HQN := Lib.hid hQN
  have HQs := Lib.hid hQs
  have Hq := Lib.hid hq
  have HN := Lib.hid hN
  have HPs := Lib.hid (show (P[seg]?.getD []).length ≤ 1000000 by omega)
  have HS := Lib.hid hS
  have HF := Lib.hid hF
  have HO3 := Lib.hid ho3
  have HB3 := Lib.hid hB3
  have HB2 := Lib.hid hB2
  have HL := Lib.hid (fun X (hX : Below w.heap.size w X) => hl.below hX (Nat.le_refl _))
  have HUl := Lib.hid hul
  have HUs := Lib.hid hus
  have HRun3 := Lib.hid hrun3
  have HS2 := Lib.hid hS2
  have HR2 := Lib.hid hR2
  have Hg3 := Lib.hid hg3
  have HP := Lib.hid hP
  have Hn := Lib.hid hn
  have Hm := Lib.hid hm
  have hz3 := hB3.size
  obtain ⟨x0, x1, x2⟩ := hS2.cells
  have hlm : l.length = m := by
    obtain ⟨A9, c9, e9, _⟩ := hl
    cases e9
    rfl
  have Hlm := Lib.hid hlm
  clear hQ hQN hQs hq hN hPs hS hF ho3 hB3 hB2 hl hul hus hrun3 hS2 hR2 hg3 hP hn hm hlm hmw hQS hPl hB12 h
  go_enter Tryd.func62, Tryd.ntmps62
  go_upto_region 2 with fail
  rw [← hW1, ← hW2]
  clear hW1 hW2
  go_upto_if 16 with (at_builtin; refine Lib.wpList_append_run _ rfl _ _ _ _ rfl _ _ rfl rfl _ _ HRun3.out ?_)
  clear x0 x1 x2
  go_cut [7] (fun s7 wx => ∃ g c' us', s7 = .slice (some ⟨g, 0, none⟩) N c' ∧ N ≤ c' ∧ c' ≤ 9223372036854775807 ∧ us'.length = N ∧ wx.ownsRow W2.heap.size 34 1 (.slice (some ⟨g, 0, none⟩) N c') N us' ∧ Below W2.heap.size W2 wx ∧ ∀ j, j < N → NumP .u64 wx P0 (us'[j]?.getD undef) (P[j]?.getD []))
  case first =>
    by_cases e : seg = n
    · subst e
      have i1 : ((seg : Int) == (seg : Int)) = true := by simp
      obtain ⟨g4, c4, w4, hrun4, ho4, hg4⟩ := append_row1 w3 W2.heap.size 23 seg (.slice (some ⟨g3, 0, none⟩) seg c3) us HO3.out hk hz3
      have hPe : P = ls ++ [[]] := by
        rw [HP.out]
        unfold preA
        rw [if_pos Hn.out]
      have hNe : N = seg + 1 := by rw [HN.out, hPe, List.length_append, ← Hn.out]; rfl
      subst hNe
      have hcz4 : seg + 1 ≤ c4 ∧ c4 ≤ 9223372036854775807 := by
        obtain ⟨_, ⟨e, _⟩ | ⟨g', c', cur, e, _, _, q1, q2, _⟩⟩ := ho4
        · cases e
        · cases e
          exact ⟨q1, by unfold maxLen at q2; omega⟩
      have hB4 : Below W2.heap.size W2 w4 := (HB3.out.alloc hz3 _).grown hg4 (by simp; omega) (fun k e => by
        obtain rfl : g3 = k := by simpa [Value.ownBlock] using e
        exact Hg3.out.1)
      have HFin : Hid (∃ g c' us', Value.slice (some ⟨g4, 0, none⟩) (seg + 1) c4 = .slice (some ⟨g, 0, none⟩) (seg + 1) c' ∧ seg + 1 ≤ c' ∧ c' ≤ 9223372036854775807 ∧ us'.length = seg + 1 ∧ w4.ownsRow W2.heap.size 34 1 (.slice (some ⟨g, 0, none⟩) (seg + 1) c') (seg + 1) us' ∧ Below W2.heap.size W2 w4 ∧ ∀ j, j < seg + 1 → NumP .u64 w4 P0 (us'[j]?.getD undef) (P[j]?.getD [])) := Lib.hid (by
        refine ⟨g4, c4, us ++ [.slice none 0 0], rfl, hcz4.1, hcz4.2, by rw [List.length_append, HUl.out]; rfl, ho4, hB4, fun j hj => ?_⟩
        rw [hPe]
        by_cases e : j < seg
        · rw [List.getElem?_append_left (by rw [HUl.out]; exact e), List.getElem?_append_left (by rw [← Hn.out]; exact e)]
          exact (HUs.out j e).keep (fun b hb => hB4.block b (by have := hPw b hb; omega))
        · obtain rfl : j = seg := by omega
          rw [List.getElem?_append_right (by rw [HUl.out]; exact Nat.le_refl _), List.getElem?_append_right (by rw [← Hn.out]; exact Nat.le_refl _), HUl.out, ← Hn.out, Nat.sub_self]
          exact NumP.nil _ _ _)
      have HRun4 := Lib.hid hrun4
      clear hrun4 ho4 hg4 hB4 hPe hcz4
      go_wp2_with (at_builtin; refine Lib.wpList_append_run _ rfl _ _ _ _ rfl _ _ rfl rfl _ _ HRun4.out ?_)
      go_meet
      exact HFin.out
    · have i1 : ((seg : Int) == (n : Int)) = false := by rw [beq_eq_false_iff_ne]; omega
      have hPe : P = ls := by
        rw [HP.out]
        unfold preA
        rw [if_neg (by rw [← Hn.out]; exact e)]
      have hNe : N = n := by rw [HN.out, hPe, ← Hn.out]
      subst hNe
      have HFin : Hid (∃ g c' us', Value.slice (some ⟨g3, 0, none⟩) N c3 = .slice (some ⟨g, 0, none⟩) N c' ∧ N ≤ c' ∧ c' ≤ 9223372036854775807 ∧ us'.length = N ∧ w3.ownsRow W2.heap.size 34 1 (.slice (some ⟨g, 0, none⟩) N c') N us' ∧ Below W2.heap.size W2 w3 ∧ ∀ j, j < N → NumP .u64 w3 P0 (us'[j]?.getD undef) (P[j]?.getD [])) := Lib.hid ⟨g3, c3, us, rfl, hcz.1, hcz.2, HUl.out, HO3.out, HB3.out, fun j hj => by rw [hPe]; exact (HUs.out j hj).keep (fun b hb => HB3.out.block b (by have := hPw b hb; omega))⟩
      clear hPe
      go_wp2_with fail
      go_meet
      exact HFin.out
  case rest =>
    obtain ⟨g, c', us', rfl, hc1, hc2, hul, ho, hB, hus⟩ := hcut
    generalize wc = w4 at *
    clear HO3 HUs HUl HRun3 Hg3 HB3 hz3 hcz
    have hgb := World.ownsRow.lt ho g rfl
    have x0 := own_cell ho hsP
    have hus4 := (hus seg hsP).numS hPw
    obtain ⟨As, cs, hes, -⟩ := hus4
    have hB24 := HB2.out.trans (hB.mono (by omega))
    obtain ⟨v5, w5, hrun5, ho5, hg5⟩ := append_words w4 w4.heap.size w.heap.size 34 (.slice none 0 0) [] (us'[seg]?.getD undef) (P[seg]?.getD []) (OwnU.nil _ _) ((hus seg hsP).numS hPw) (by have := HPs.out; simp; omega) (Nat.le_refl _)
    rw [List.nil_append] at ho5
    have hB45 : Below w4.heap.size w4 w5 := (Below.refl _ _).grown hg5 (Nat.le_refl _) (fun k e => by cases e)
    obtain ⟨v6, w6, hrun6, ho6, hg6⟩ := append_words w5 w4.heap.size w.heap.size 34 v5 (P[seg]?.getD []) (.slice Al m cl) l ho5 (HL.out _ (hB24.trans (hB45.mono (by have := hB24.size; omega)))) (by have := HPs.out; have := Hm.out; omega) hB45.size
    have hB46 : Below w4.heap.size w4 w6 := hB45.grown hg6 hB45.size (fun k e => (World.ownsRow.lt ho5 k e).1)
    have hs46 := hB46.size
    have hs2 := hB24.size
    obtain ⟨A6, c6, rfl⟩ : ∃ A c, v6 = .slice A q c := by
      obtain ⟨A, c, e, _⟩ := OwnN.numS ho6
      exact ⟨A, c, by rw [e, Hq.out]⟩
    have hq6 : q ≤ c6 ∧ c6 ≤ 9223372036854775807 := by
      obtain ⟨A9, c9, e9, q1, q2, _⟩ := OwnN.numS ho6
      cases e9
      exact ⟨by rw [Hq.out]; exact q1, q2⟩
    obtain ⟨A5, c5, rfl⟩ : ∃ A c, v5 = .slice A (P[seg]?.getD []).length c := by
      obtain ⟨A, c, e, _⟩ := OwnN.numS ho5
      exact ⟨A, c, e⟩
    obtain ⟨W7, hW7⟩ : ∃ W7, W7 = w6.setCell ⟨g, seg, none⟩ (.slice A6 q c6) := ⟨_, rfl⟩
    obtain ⟨W8, hW8⟩ : ∃ W8, W8 = W7.setCell ⟨w.heap.size, 0, none⟩ (.slice (some ⟨g, 0, none⟩) N c') := ⟨_, rfl⟩
    obtain ⟨W9, hW9⟩ : ∃ W9, W9 = W8.setCell ⟨w.heap.size, 2, none⟩ (.bool F) := ⟨_, rfl⟩
    obtain ⟨W10, hW10⟩ : ∃ W10, W10 = ((W9.setCell ⟨w.heap.size + 1, 0, none⟩ (.slice (some ⟨g, 0, none⟩) N c')).setCell ⟨w.heap.size + 1, 1, none⟩ (.int .i64 sz)).setCell ⟨w.heap.size + 1, 2, none⟩ (.bool F) := ⟨_, rfl⟩
    have hr6 := own_on ho hB46
    have hr7 := own_setV (i := seg) hr6 (.slice A6 q c6)
    rw [← hW7] at hr7
    have hne6 : ∀ k, (Value.slice A6 q c6).ownBlock = some k → k ≠ g ∧ w.heap.size + 2 ≤ k := fun k e => by have := (World.ownsRow.lt ho6 k e).1; omega
    have ho7 : OwnU W7 w4.heap.size (.slice A6 q c6) (P[seg]?.getD [] ++ l) := own_same ho6 (fun k e => by rw [hW7]; exact blk_setCell_other _ _ _ _ (hne6 k e).1)
    have hS7 : SBox W7 w.heap.size (.slice A n c) sz f := by
      rw [hW7]
      exact (HS2.out.on (hB.trans (hB46.mono (by omega)))).apart (by omega)
    have hR7 : SBox W7 (w.heap.size + 1) (.slice none 0 0) 0 false := by
      rw [hW7]
      exact (HR2.out.on (hB.trans (hB46.mono (by omega)))).apart (by omega)
    have hS8 : SBox W8 w.heap.size (.slice (some ⟨g, 0, none⟩) N c') sz f := by rw [hW8]; exact hS7.set0 _
    have hR8 : SBox W8 (w.heap.size + 1) (.slice none 0 0) 0 false := by rw [hW8]; exact hR7.apart (by omega)
    have hS9 : SBox W9 w.heap.size (.slice (some ⟨g, 0, none⟩) N c') sz F := by rw [hW9]; exact hS8.set2 _
    have hR9 : SBox W9 (w.heap.size + 1) (.slice none 0 0) 0 false := by rw [hW9]; exact hR8.apart (by omega)
    have hR10 : SBox W10 (w.heap.size + 1) (.slice (some ⟨g, 0, none⟩) N c') sz F := by rw [hW10]; exact hR9.set3 _ _ _
    have hB7 : Below w.heap.size w W7 := by
      rw [hW7]
      exact (hB24.trans (hB46.mono (by omega))).setCell (p := ⟨g, seg, none⟩) (by show w.heap.size ≤ g; omega) _
    have hB8 : Below w.heap.size w W8 := by rw [hW8]; exact hB7.setCell (p := ⟨w.heap.size, 0, none⟩) (Nat.le_refl _) _
    have hB10 : Below w.heap.size w W10 := by
      rw [hW10, hW9]
      exact below_set3 (hB8.setCell (p := ⟨w.heap.size, 2, none⟩) (Nat.le_refl _) _) (Nat.le_add_right _ _) _ _ _
    have hB710 : Below w.heap.size w4 W10 := by
      rw [hW10, hW9, hW8, hW7]
      exact below_set3 ((((hB46.mono (by omega)).setCell (p := ⟨g, seg, none⟩) (by show w.heap.size ≤ g; omega) _).setCell (p := ⟨w.heap.size, 0, none⟩) (Nat.le_refl _) _).setCell (p := ⟨w.heap.size, 2, none⟩) (Nat.le_refl _) _) (Nat.le_add_right _ _) _ _ _
    have hB78 : Below w.heap.size w4 W8 := by
      rw [hW8, hW7]
      exact ((hB46.mono (by omega)).setCell (p := ⟨g, seg, none⟩) (by show w.heap.size ≤ g; omega) _).setCell (p := ⟨w.heap.size, 0, none⟩) (Nat.le_refl _) _
    have hk8 : ∀ k, w.heap.size + 2 ≤ k → W8.heap[k]? = W7.heap[k]? := fun k hk => by
      rw [hW8, blk_setCell_other _ _ _ _ (by show k ≠ w.heap.size; omega)]
    have hk10 : ∀ k, w.heap.size + 2 ≤ k → W10.heap[k]? = W7.heap[k]? := fun k hk => by
      rw [hW10, set3_other _ _ _ _ _ (by omega), hW9, blk_setCell_other _ _ _ _ (by show k ≠ w.heap.size; omega), hk8 k hk]
    have hfin : ∀ X, (∀ k, w.heap.size + 2 ≤ k → X.heap[k]? = W7.heap[k]?) → Below w.heap.size w4 X → ArP X (fun b => P0 b ∨ (w.heap.size ≤ b ∧ b < X.heap.size)) (.slice (some ⟨g, 0, none⟩) N c') Q := fun X hk hBX => by
      have hXs := hBX.size
      refine ar_of (own_same hr7 (fun k e => by
        obtain rfl : g = k := by simpa [Value.ownBlock] using e
        exact hk _ (by omega))) HQN.out.symm (fun j hj => ?_) (fun k e => by
        obtain rfl : g = k := by simpa [Value.ownBlock] using e
        exact .inr ⟨by omega, by omega⟩)
      rw [HQ.out, getD_set (by omega), getD_set (by rw [← HN.out]; exact hsP)]
      by_cases e : seg = j
      · rw [if_pos e, if_pos e]
        exact (OwnN.numP (own_same (w' := X) ho7 (fun k e => hk k (hne6 k e).2))).mono (fun k e => .inr ⟨by have := (hne6 k e).2; omega, (World.ownsRow.lt (own_same (w' := X) ho7 (fun k e => hk k (hne6 k e).2)) k e).2⟩)
      · rw [if_neg e, if_neg e]
        exact ((hus j hj).keep (fun b hb => hBX.block b (hPw b hb))).mono (fun b hb => .inl hb)
    have hWd := rwords7_any _ Q _ W8 ((hfin W8 hk8 hB78).arV (B := W8.heap.size) (fun b hb => by rcases hb with hb | hb; exact Nat.lt_of_lt_of_le (hPw b hb) (by have := hB8.size; omega); exact hb.2)) (by rw [lenS_sizes, ← HS.out]; omega)
    rw [lenS_sizes, ← HS.out] at hWd
    have HFin := Lib.hid (And.intro (hfin W10 hk10 hB710) (And.intro HQN.out.symm hB10))
    have HWd := Lib.hid hWd
    have HRun5 := Lib.hid hrun5
    have HRun6 := Lib.hid hrun6
    have HR10 := Lib.hid hR10
    have HS9 := Lib.hid hS9
    have HR9 := Lib.hid hR9
    have y0 := own_cell hr6 hsP
    have k0 := own_frozen (i := seg) hr6
    have y1 := hS7.cells.1
    have k1 := hS7.frozen 0
    obtain ⟨d0, d1, d2⟩ := hS8.cells
    have f2 := hS8.frozen 2
    have f3 := hR9.frozen 0
    generalize (P[seg]?.getD []).length = m5 at *
    generalize us'[seg]?.getD undef = u5 at *
    subst hes
    have i2 : (seg : Int) < (N : Int) := by omega
    clear hWd hfin hk10 hk8 hB78 hB710 hB10 hB8 hB7 hR10 hR9 hS9 hR8 hS8 hR7 hS7 ho7 hne6 hr7 hr6 hB46 hg6 ho6 hrun6 hB45 hg5 ho5 hrun5 hB24 hus ho hB HQ HS2 HR2 HB2 HL
    go_upto_region 5 with fail
    go_upto_region 9 with (at_builtin; first | refine Lib.wpList_append_run _ rfl _ _ _ _ rfl _ _ rfl rfl _ _ HRun5.out ?_ | refine Lib.wpList_append_run _ rfl _ _ _ _ rfl _ _ rfl rfl _ _ HRun6.out ?_)
    rw [← hW7]
    clear hW7 x0 y0 k0
    go_upto_region 10 with fail
    rw [← hW8]
    clear hW8 y1 k1
    have hF := HF.out
    clear HF
    cases f with
    | true =>
      obtain rfl : F = true := by rw [hF]; rfl
      clear hF
      go_upto_region 11 with fail
      rw [← hW9]
      clear hW9 f2 f3 d0 d1 d2
      obtain ⟨y0, y1, y2⟩ := HS9.out.cells
      obtain ⟨z0, z1, z2⟩ := HR9.out.cells
      have k0 := HR9.out.frozen 0
      have k1 := HR9.out.frozen 1
      have k2 := HR9.out.frozen 2
      go_wp2_with fail
      rw [← hW10]
      obtain ⟨e0, e1, e2⟩ := HR10.out.cells
      refine bodyPost_ret (v := .agg #[.slice (some ⟨g, 0, none⟩) N c', .int .i64 sz, .bool true]) ?_ rfl ⟨_, _, _, rfl, HFin.out⟩
      simp [results, Tryd.f62, go_sem, e0, e1, e2]
    | false =>
      rw [Bool.false_or] at hF
      by_cases b1 : sz < q
      · have j1 : (sz : Int) < (q : Int) := by omega
        have j2 : decide ((sz : Int) < (q : Int)) = true := decide_eq_true j1
        obtain rfl : F = true := by rw [hF, decide_eq_true b1]; rfl
        clear hF
        go_upto_region 11 with fail
        rw [← hW9]
        clear hW9 f2 f3 d0 d1 d2
        obtain ⟨y0, y1, y2⟩ := HS9.out.cells
        obtain ⟨z0, z1, z2⟩ := HR9.out.cells
        have k0 := HR9.out.frozen 0
        have k1 := HR9.out.frozen 1
        have k2 := HR9.out.frozen 2
        go_wp2_with fail
        rw [← hW10]
        obtain ⟨e0, e1, e2⟩ := HR10.out.cells
        refine bodyPost_ret (v := .agg #[.slice (some ⟨g, 0, none⟩) N c', .int .i64 sz, .bool true]) ?_ rfl ⟨_, _, _, rfl, HFin.out⟩
        simp [results, Tryd.f62, go_sem, e0, e1, e2]
      · have j1 : ¬ (sz : Int) < (q : Int) := by omega
        have j2 : decide ((sz : Int) < (q : Int)) = false := decide_eq_false j1
        rw [decide_eq_false b1, Bool.false_or] at hF
        by_cases b2 : 16 < N
        · have j3 : (16 : Int) < (N : Int) := by omega
          have j4 : decide ((16 : Int) < (N : Int)) = true := decide_eq_true j3
          obtain rfl : F = true := by rw [hF, decide_eq_true b2]; rfl
          clear hF
          go_upto_region 11 with fail
          rw [← hW9]
          clear hW9 f2 f3 d0 d1 d2
          obtain ⟨y0, y1, y2⟩ := HS9.out.cells
          obtain ⟨z0, z1, z2⟩ := HR9.out.cells
          have k0 := HR9.out.frozen 0
          have k1 := HR9.out.frozen 1
          have k2 := HR9.out.frozen 2
          go_wp2_with fail
          rw [← hW10]
          obtain ⟨e0, e1, e2⟩ := HR10.out.cells
          refine bodyPost_ret (v := .agg #[.slice (some ⟨g, 0, none⟩) N c', .int .i64 sz, .bool true]) ?_ rfl ⟨_, _, _, rfl, HFin.out⟩
          simp [results, Tryd.f62, go_sem, e0, e1, e2]
        · have j3 : ¬ (16 : Int) < (N : Int) := by omega
          have j4 : decide ((16 : Int) < (N : Int)) = false := decide_eq_false j3
          rw [decide_eq_false b2, Bool.false_or] at hF
          by_cases b3 : 4096 < S
          · have j5 : (4096 : Int) < (S : Int) := by omega
            have j6 : decide ((4096 : Int) < (S : Int)) = true := decide_eq_true j5
            obtain rfl : F = true := by rw [hF, decide_eq_true b3]
            clear hF
            go_upto_region 10 with fail
            go_wp2_with fail
            refine HWd.out.mono ?_
            rintro e w9 ⟨rfl, rfl⟩
            go_upto_region 11 with fail
            rw [← hW9]
            clear hW9 f2 f3 d0 d1 d2
            obtain ⟨y0, y1, y2⟩ := HS9.out.cells
            obtain ⟨z0, z1, z2⟩ := HR9.out.cells
            have k0 := HR9.out.frozen 0
            have k1 := HR9.out.frozen 1
            have k2 := HR9.out.frozen 2
            go_wp2_with fail
            rw [← hW10]
            obtain ⟨e0, e1, e2⟩ := HR10.out.cells
            refine bodyPost_ret (v := .agg #[.slice (some ⟨g, 0, none⟩) N c', .int .i64 sz, .bool true]) ?_ rfl ⟨_, _, _, rfl, HFin.out⟩
            simp [results, Tryd.f62, go_sem, e0, e1, e2]
          · have j5 : ¬ (4096 : Int) < (S : Int) := by omega
            have j6 : decide ((4096 : Int) < (S : Int)) = false := decide_eq_false j5
            obtain rfl : F = false := by rw [hF, decide_eq_false b3]
            clear hF
            go_upto_region 10 with fail
            go_wp2_with fail
            refine HWd.out.mono ?_
            rintro e w9 ⟨rfl, rfl⟩
            go_upto_region 11 with fail
            rw [← hW9]
            clear hW9 f2 f3 d0 d1 d2
            obtain ⟨y0, y1, y2⟩ := HS9.out.cells
            obtain ⟨z0, z1, z2⟩ := HR9.out.cells
            have k0 := HR9.out.frozen 0
            have k1 := HR9.out.frozen 1
            have k2 := HR9.out.frozen 2
            go_wp2_with fail
            rw [← hW10]
            obtain ⟨e0, e1, e2⟩ := HR10.out.cells
            refine bodyPost_ret (v := .agg #[.slice (some ⟨g, 0, none⟩) N c', .int .i64 sz, .bool false]) ?_ rfl ⟨_, _, _, rfl, HFin.out⟩
            simp [results, Tryd.f62, go_sem, e0, e1, e2]

end Go.Proofs.YtdfldfnjjjcleaaDoor
