/-
  Layer 8, what the laws share: the chapter's example (known); words of a tree's things (needs).
-/
import Derived.Test.YtofpjcmcpejnfaaDoorZTrGenE
import Derived.Test.YtofpjcmcpejnfaaDoorZGo
import Derived.Test.YtofpjcmcpejnfaaDoorZBuSame

namespace Go.Proofs.YtofpjcmcpejnfaaDoor
open Go.RowKit Go.Deep

theorem build_seven : (buildT (.mk 1 0 [7] [] []) 9).2 = 0 ∧ (buildT (.mk 1 0 [7] [] []) 9).1.length = 1 ∧ ((buildT (.mk 1 0 [7] [] []) 9).1[0]?.getD []).length = 2 ∧ ((buildT (.mk 1 0 [7] [] []) 9).1[0]?.getD [])[1]?.getD 0 = 7 := by decide

theorem seven_V (w : World) : TrV (w.alloc (.cells #[.int .u64 7] 44)) (w.alloc (.cells #[.int .u64 7] 44)).heap.size (.mk 1 0 [7] [] []) (.agg (cellsT 1 0 (.slice (some ⟨w.heap.size, 0, none⟩) 1 1) (.slice none 0 0) (.slice none 0 0))) := by
  unfold TrV
  refine ⟨_, _, none, 0, rfl, ⟨⟨by decide, by decide⟩, ⟨by decide, by decide⟩, by simp, by simp, by simp, by simp, by simp⟩, ⟨_, 1, rfl, by simp, by omega, fun _ => ⟨w.heap.size, 0, rfl, by simp, fun j hj => ?_⟩⟩, ⟨none, 0, rfl, by simp, by omega, fun h => by simp at h⟩, by simp, by omega, fun h => by simp at h⟩
  obtain rfl : j = 0 := by simp at hj; omega
  have := cell_one_new w (.int .u64 7) 44 0 (.int .u64 7) rfl
  rwa [Addr.add_lit] at this
theorem nine_V (w : World) (B : Nat) (b : Nat) (hb : b < B) (hr : w.rowIs b 5 9 (fun _ => .int .u8 0)) : TrV w B (.mk 2 2 [] (List.replicate 9 0) []) (.agg (cellsT 2 2 (.slice none 0 0) (.slice (some ⟨b, 0, none⟩) 9 9) (.slice none 0 0))) := by
  unfold TrV
  refine ⟨_, _, none, 0, rfl, ⟨⟨by decide, by decide⟩, ⟨by decide, by decide⟩, by simp, by simp, by simp, by simp, by simp⟩, ⟨none, 0, rfl, by simp, by omega, fun h => by simp at h⟩, ⟨_, 9, rfl, by simp, by omega, fun _ => ⟨b, 0, rfl, hb, fun j hj => ?_⟩⟩, by simp, by omega, fun h => by simp at h⟩
  rw [List.length_replicate] at hj
  rw [Nat.zero_add, hr.cell hj, List.getElem?_replicate, if_pos hj]
  rfl

set_option maxRecDepth 100000 in
set_option maxHeartbeats 1000000 in
theorem known8_any (w : World) (L : Laid w) : Calls Tryd.prog 10 #[] w fun e w' => e = .returned (.bool true) ∧ Below w.heap.size w w' := by
  obtain ⟨b1, b2, b3, b4⟩ := build_seven
  obtain ⟨W1, hW1⟩ : ∃ W1, W1 = w.alloc (.cells #[.int .u64 7] 44) := ⟨_, rfl⟩
  have hB1 : Below w.heap.size w W1 := by rw [hW1]; exact (Below.refl _ _).alloc (Nat.le_refl _) _
  have h7 := seven_V w
  rw [← hW1] at h7
  have HA := Lib.hid (build_any (.mk 1 0 [7] [] []) _ 9 W1 (L.on hB1) h7)
  have HC := Lib.hid (fun X (hX : Below w.heap.size w X) => build_any Tr.nil _ 0 X (L.on hX) (TrV.nil X _))
  have hc0 : buildT Tr.nil 0 = ([], 1) := buildT_arg (.inl (by decide))
  rw [hc0] at HC
  have HB1 := Lib.hid hB1
  have HNine := Lib.hid (fun X b (hb : b < X.heap.size) (hr : X.rowIs b 5 9 (fun _ => .int .u8 0)) => need_any _ _ X (nine_V X _ b hb hr))
  have hn9 : needT (.mk 2 2 [] (List.replicate 9 0) []) = 2 := rfl
  rw [hn9] at HNine
  have hmk := run_make_row' (P := Tryd.prog) 23 5 (.int .u8 0) 1 Tryd.underlying23 Tryd.info5 rfl .i64 .i64 9 (by omega) (by omega)
  rw [show (((9 : Nat) : Int)) = 9 from rfl] at hmk
  generalize buildT (.mk 1 0 [7] [] []) 9 = bt at *
  rw [b1] at HA
  unfold cellsT at HA HC HNine
  clear h7 hB1 hc0 hn9 b1
  go_enter Tryd.func10, Tryd.ntmps10
  go_wp2_with fail
  rw [← hW1]
  clear hW1
  refine HA.out.mono ?_
  rintro e w2 ⟨x, rfl, hA, hB2⟩
  have HB2 := Lib.hid (bseq8 HB1.out hB2)
  clear hB2
  go_wp2_with fail
  refine (HC.out _ HB2.out).mono ?_
  rintro e w3 ⟨y, rfl, hY, hB3⟩
  have HB3 := Lib.hid (bseq8 HB2.out hB3)
  have hV := (hA.on hB3).arV
  obtain ⟨A, c, rfl, hc, hm, hseg⟩ := hV
  obtain ⟨b, off, rfl, hb, hseg⟩ := hseg (by omega)
  obtain ⟨s, p0, hs⟩ := hseg 0 (by omega)
  obtain ⟨A2, c2, rfl, hc2, hm2, hw⟩ := hs
  obtain ⟨g, o2, rfl, hg, hw⟩ := hw (by omega)
  have p1 := hw 1 (by omega)
  rw [b3, Nat.add_zero] at p0
  rw [b3] at hc2
  rw [b4] at p1
  rw [b2] at hc ⊢
  obtain ⟨A9, n9, rfl⟩ := hY.arV.form rfl
  have HB3' := Lib.hid (bseq8 HB2.out hB3)
  have hRw := World.rowIs_made w3 (.int .u8 0) 9 5
  have HRw := Lib.hid hRw
  clear hB3 HB3 hA hY hw hseg hRw
  have hLt : w3.heap.size < (w3.alloc (.cells (madeCells #[Value.int .u8 0] 9) 5)).heap.size := by simp
  have hNi := HNine.out _ w3.heap.size hLt HRw.out
  have HNi := Lib.hid hNi
  have HBl : Hid (Below w3.heap.size w3 (w3.alloc (.cells (madeCells #[Value.int .u8 0] 9) 5))) := Lib.hid ((Below.refl _ _).alloc (Nat.le_refl _) _)
  clear hLt hNi
  go_wp2_with fail
  refine HNi.out.mono ?_
  rintro e w4 ⟨rfl, hB4⟩
  have HB4 := Lib.hid (bseq8 HB3'.out (bseq8 HBl.out hB4))
  clear hB4
  go_wp2_with fail
  go_ret
  exact ⟨by simp, HB4.out⟩

theorem needsAll_take {ks : List Tr} {q : Nat} (h : q < ks.length) : needsAll (ks.take (q + 1)) = needsAll (ks.take q) + needs (ks[q]?.getD Tr.nil) := by
  induction ks generalizing q with
  | nil => simp at h
  | cons t r ih =>
    cases q with
    | zero => simp [needsAll]
    | succ q =>
      rw [List.take_succ_cons, List.take_succ_cons]
      unfold needsAll
      rw [ih (by simpa using h), List.getElem?_cons_succ]
      omega
theorem needsAll_le {ks : List Tr} (q : Nat) : needsAll (ks.take q) ≤ needsAll ks := by
  induction ks generalizing q with
  | nil => simp
  | cons t r ih =>
    cases q with
    | zero => simp [needsAll]
    | succ q =>
      rw [List.take_succ_cons]
      unfold needsAll
      have := ih q
      omega
def NeedsC (t : Tr) : Prop := ∀ (v : Value) (w : World), TrV w w.heap.size t v → needs t ≤ 1000000000 → Calls Tryd.prog 14 #[v] w fun e w' => e = .returned (.int .i64 (needs t)) ∧ Below w.heap.size w w'
set_option maxRecDepth 100000 in
set_option maxHeartbeats 1000000 in
theorem needs_step (k z : Int) (ws bs : List Int) (ks : List Tr) (ih : ∀ j, j < ks.length → NeedsC (ks[j]?.getD Tr.nil)) : NeedsC (.mk k z ws bs ks) := by
  intro v w hT hle
  have HN := Lib.hid (fun X (hX : Below w.heap.size w X) => need_any _ v X (hT.on hX))
  have hns : needs (.mk k z ws bs ks) = needT (.mk k z ws bs ks) + needsAll ks := by rw [needs]
  rw [hns] at hle ⊢
  obtain ⟨A1, c1, A2, c2, A3, c3, rfl, hgd, -, -, hk1, hk2, hkid⟩ := hT.parts
  have HK : Hid (KidsV w w.heap.size A3 ks.length c3 ks) := Lib.hid ⟨rfl, hk1, hk2, hkid⟩
  obtain ⟨N, hN⟩ : ∃ N, N = needT (.mk k z ws bs ks) := ⟨_, rfl⟩
  rw [← hN] at HN hle ⊢
  obtain ⟨nk, hnk⟩ : ∃ n, n = ks.length := ⟨_, rfl⟩
  rw [← hnk] at HN HK hk1 ⊢
  have HNk := Lib.hid hnk
  have HI := Lib.hid ih
  have HLe := Lib.hid hle
  have hnk6 : nk ≤ 1000000 := by rw [hnk]; exact hgd.2.2.2.2.1
  generalize ws.length = nw at *
  generalize bs.length = nb at *
  have HT := Lib.hid (TBox.new w k z (.slice A1 nw c1) (.slice A2 nb c2) (.slice A3 nk c3))
  have HB : Hid (Below w.heap.size w (w.alloc (.cells (cellsT k z (.slice A1 nw c1) (.slice A2 nb c2) (.slice A3 nk c3)) 26))) := Lib.hid ((Below.refl _ _).alloc (Nat.le_refl _) _)
  unfold cellsT at HN HB HT ⊢
  clear hT hgd hkid hN hnk ih hns hle
  obtain ⟨W1, hW1⟩ : ∃ W1, W1 = w.alloc (.cells #[.int .i64 k, .int .i64 z, .slice A1 nw c1, .slice A2 nb c2, .slice A3 nk c3] 26) := ⟨_, rfl⟩
  rw [← hW1] at HB HT
  have HTB : Hid (TBox W1 w.heap.size k z (.slice A1 nw c1) (.slice A2 nb c2) (.slice A3 nk c3)) := Lib.hid HT.out
  clear HT
  obtain ⟨d0, d1, d2, d3, d4⟩ := HTB.out.cells
  go_enter Tryd.func14, Tryd.ntmps14
  go_upto_region 1 with fail
  rw [← hW1]
  clear hW1
  go_wp2_with fail
  refine (HN.out _ HB.out).mono ?_
  rintro e w2 ⟨rfl, hB2⟩
  have HT2 := Lib.hid (HTB.out.on hB2)
  have HB2 := Lib.hid (bseq8 HB.out hB2)
  clear hB2 d0 d1 d2 d3 d4
  go_wp2_with fail
  go_loopw [3, 4] (fun n i wr => ∃ q : Nat, q ≤ nk ∧ i = .int .i64 q ∧ n = .int .i64 ((N + needsAll (ks.take q) : Nat) : Int) ∧ Below w2.heap.size w2 wr) (fun _ i _ => nk - (intOf i).toNat)
  case atStart => exact ⟨0, by omega, rfl, by simp [needsAll], Below.refl _ _⟩
  case round =>
    obtain ⟨q, hq, rfl, rfl, hB⟩ := hrel
    generalize wr = w3 at *
    have HT3 := Lib.hid (HT2.out.on hB)
    have HB3 := Lib.hid (bseq8 HB2.out hB)
    have HBr := Lib.hid hB
    obtain ⟨d0, d1, d2, d3, d4⟩ := HT3.out.cells
    clear hB
    by_cases hlt : q < nk
    · obtain ⟨b, off, k', z', A4, n4, c4, A5, n5, c5, A6, n6, c6, rfl, x0, x1, x2, x3, x4, hTk, hb1⟩ := HK.out.later HB3.out hlt
      have hnext := needsAll_take (ks := ks) (q := q) (by rw [← HNk.out]; exact hlt)
      have hle2 := needsAll_le (ks := ks) (q + 1)
      have hL := HLe.out
      have HC := Lib.hid (HI.out q (by rw [← HNk.out]; exact hlt) _ w3 hTk (by omega))
      have HNx := Lib.hid hnext
      obtain ⟨S, hS⟩ : ∃ S, S = needsAll (ks.take q) := ⟨_, rfl⟩
      obtain ⟨T, hT⟩ : ∃ T, T = needs (ks[q]?.getD Tr.nil) := ⟨_, rfl⟩
      rw [← hS, ← hT] at HNx
      rw [← hT] at HC
      rw [← hS]
      have hw1 : IntKind.i64.wrap ((N : Int) + S + T) = N + S + T := IntWalk.i64_in _ (by omega)
      have i1 : (q : Int) < (nk : Int) := by omega
      unfold cellsT at HC
      clear hnext hle2 hL hS hT hTk
      go_wp2_with fail
      refine HC.out.mono ?_
      rintro e w4 ⟨rfl, hB4⟩
      go_wp2_with fail
      go_roundw
      case rel => exact ⟨q + 1, by omega, by go_num, congrArg (Value.int .i64) (by rw [HNx.out]; omega), bseq8 HBr.out hB4⟩
      case measure => simp [intOf]; omega
    · obtain rfl : q = nk := by omega
      have hall : ks.take q = ks := List.take_of_length_le (by rw [← HNk.out]; exact Nat.le_refl _)
      rw [hall]
      have i1 : ¬ (q : Int) < (q : Int) := by omega
      go_wp2_with fail
      go_ret
      exact ⟨ret_i64 (by omega), HB3.out⟩
theorem needs_all : (n : Nat) → (t : Tr) → SizeOf.sizeOf t ≤ n → NeedsC t
  | 0, .mk k z ws bs ks, hn => by simp at hn
  | n+1, .mk k z ws bs ks, hn => needs_step k z ws bs ks (fun j hj => needs_all n _ (deep_kids hn hj))

end Go.Proofs.YtofpjcmcpejnfaaDoor
