/-
  Layer 3: Make, mark, Set of the program; Make and Set of the document.
-/
import Derived.Test.YtdphkgknjgdjoaaBitsNum
import Derived.Test.YtdphkgknjgdjoaaBytesRow
import Derived.RegionTactic
import Derived.ChangeAlike
import Derived.StillTailTactics
namespace Go.Proofs.Ytdphkgknjgdjoaa
open Go.RowKit Go.Deep

theorem make8 (n : Int) : ceilV (clipN n : Nat) 8 = (makeN n : Nat) := ceil8 (clipN_le n)

set_option maxHeartbeats 400000 in
/-- Make: noughts, in new memory -/
theorem bmake_row (n : Int) (w : World) :
    Calls Try.prog 12 #[.int .i64 n] w fun e w' => e = .returned (.slice (some ⟨w.heap.size, 0, none⟩) (makeN n) (makeN n)) ∧ RowB w' w.heap.size (List.replicate (makeN n) 0) ∧ Below w.heap.size w w' := by
  have h2 := makeN_le n
  have HM := Lib.hid (make8 n)
  generalize makeN n = j at *
  have hmk := run_make_row' (P := Try.prog) 22 5 (.int .u8 0) 1 Try.underlying22 Try.info5 rfl .i64 .i64 j (by omega) (by omega)
  go_enter Try.func12, Try.ntmps12
  go_wp2_with fail
  refine (bclip_any _ _).mono ?_
  rintro e w' ⟨rfl, rfl⟩
  go_wp2_with fail
  refine (blong_any _ _).mono ?_
  rintro e w' ⟨rfl, rfl⟩
  rw [HM.out]
  go_wp2
  go_ret
  exact ⟨rfl, RowB.made w j, (Below.refl _ _).alloc (Nat.le_refl _) _⟩

set_option maxHeartbeats 400000 in
theorem rmake_row (n : Int) (w : World) (h0 : -9223372036854775808 ≤ n) (h1 : n ≤ 9223372036854775807) :
    Calls Try.prog 23 #[.int .i64 n] w fun e w' => e = .returned (.slice (some ⟨w.heap.size, 0, none⟩) (makeN n) (makeN n)) ∧ RowB w' w.heap.size (List.replicate (makeN n) 0) ∧ Below w.heap.size w w' := by
  have h2 := makeN_le n
  have HM := Lib.hid (make8 n)
  have HC : Hid (max 0 (min n 65536) = (clipN n : Nat)) := Lib.hid (by rw [clipN_int]; omega)
  generalize makeN n = j at *
  have hmk := run_make_row' (P := Try.prog) 22 5 (.int .u8 0) 1 Try.underlying22 Try.info5 rfl .i64 .i64 j (by omega) (by omega)
  go_enter Try.func23, Try.ntmps23
  go_wp2_with fail
  rw [HC.out]
  refine (ceilr_any _ _ _).mono ?_
  rintro e w' ⟨rfl, rfl⟩
  rw [HM.out]
  go_wp2
  go_ret
  exact ⟨rfl, RowB.made w j, (Below.refl _ _).alloc (Nat.le_refl _) _⟩

theorem or_byte (x k : Nat) (hx : x < 256) (hk : k < 8) : bits BinOp.or IntKind.u8 (x : Int) ((2 : Int) ^ k % 256) = ((x ||| 2 ^ k : Nat) : Int) := by
  have h : ∀ (a : Fin 256) (b : Fin 8), bits BinOp.or IntKind.u8 (a.val : Int) ((2 : Int) ^ b.val % 256) = ((a.val ||| 2 ^ b.val : Nat) : Int) := by decide +kernel
  exact h ⟨x, hx⟩ ⟨k, hk⟩

set_option maxHeartbeats 400000 in
theorem mark_row (g c i : Nat) (l : List Int) (w : World) (hl : AllB l) (hrow : RowB w g l) (hi : i < 8 * l.length) (h63 : i ≤ 9223372036854775807) :
    Calls Try.prog 31 #[.slice (some ⟨g, 0, none⟩) l.length c, .int .i64 i] w fun e w' => (∃ v, e = .returned v) ∧ RowB w' g (markL l i) ∧ w.grownBy w' (some g) := by
  have hcell := hrow.cell (j := i / 8) (by omega)
  have hfz := hrow.frozen (i / 8)
  obtain ⟨x, hx, hx2⟩ := AllB_nat hl (i / 8)
  rw [hx] at hcell
  have HM : Hid (markL l i = l.set (i / 8) ((x ||| 2 ^ (i % 8) : Nat) : Int)) := Lib.hid (by unfold markL; rw [hx, Int.toNat_natCast])
  have HO := Lib.hid (or_byte x (i % 8) hx2 (by omega))
  have hk : i / 8 < l.length := by omega
  have HR := Lib.hid hrow
  generalize l.length = len at *
  clear hx hrow hl
  go_enter Try.func31, Try.ntmps31
  go_wp2
  go_region
  all_goals
    go_end0
    rw [HO.out]
    refine ⟨⟨_, rfl⟩, ?_, ?_⟩
    · rw [HM.out]
      exact HR.out.set (i / 8) _
    · exact grown_trans (grown_set w g _ _) (grown_drew _ _)

/-- a row with noughts behind it that is as long as it is to be -/
theorem padL_self (l : List Int) : padL l l.length = l := by simp [padL]

set_option maxHeartbeats 1000000 in
theorem bset_row (v : Value) (l : List Int) (i : Int) (w : World) (h : Bytes w w.heap.size v l) (hl : AllB l) (hlen : l.length ≤ 1000000000) (h0 : -9223372036854775808 ≤ i) (h1 : i ≤ 9223372036854775807) :
    Calls Try.prog 18 #[v, .int .i64 i] w fun e w' => e = .returned (.slice (some ⟨w.heap.size, 0, none⟩) l.length l.length) ∧ RowB w' w.heap.size (setL l i) ∧ Below w.heap.size w w' := by
  obtain ⟨A, c, rfl, hc, hm, hr⟩ := h.parts
  obtain ⟨len, hn⟩ : ∃ n, n = l.length := ⟨_, rfl⟩
  have hB1 : Below w.heap.size w (w.alloc (.cells (madeCells #[Value.int .u8 0] len) 5)) := (Below.refl _ w).alloc (Nat.le_refl _) _
  have h' := h.on hB1
  rw [← hn] at h'
  obtain ⟨s1, s2⟩ := h'.source w.heap.size len (Nat.le_refl _)
  have hR := RowB.made w len
  have hs : RowB (w.alloc (.cells (madeCells #[Value.int .u8 0] len) 5)) w.heap.size (List.replicate len 0) ∧ Below w.heap.size w (w.alloc (.cells (madeCells #[Value.int .u8 0] len) 5)) := ⟨hR, hB1⟩
  have HS := Lib.hid hs
  have S1 := Lib.hid s1
  have S2 := Lib.hid s2
  have HN := Lib.hid hn
  obtain ⟨cs, hcs⟩ : ∃ cs, cs = l.map (Value.int .u8) := ⟨_, rfl⟩
  obtain ⟨cur, hcur⟩ : ∃ cs, cs = (List.replicate len (0 : Int)).map (Value.int .u8) := ⟨_, rfl⟩
  have S3 : Hid (∀ v ∈ cs, v.oneCell' = true) := Lib.hid (by rw [hcs]; exact ones_cells l)
  have S4 : Hid (0 + cs.length ≤ cur.length) := Lib.hid (by rw [hcs, hcur]; simp; omega)
  have S5 : Hid ((w.alloc (.cells (madeCells #[Value.int .u8 0] len) 5)).heap[w.heap.size]? = some (.cells cur.toArray 5 (0, 0))) := Lib.hid (by rw [hcur]; exact hR)
  have S6 : Hid (splice cur 0 cs = l.map (Value.int .u8)) := Lib.hid (by rw [hcur, hcs, splice_pad]; simp [hn])
  rw [← hcs] at S1 S2
  have hmk := run_make_row' (P := Try.prog) 22 5 (.int .u8 0) 1 Try.underlying22 Try.info5 rfl .i64 .i64 len (by omega) (by omega)
  rw [← hn]
  have hlen' : len ≤ 1000000000 := by omega
  have HL := Lib.hid hl
  have HA : Hid (AllB (setL l i)) := Lib.hid (setL_AllB hl i)
  clear hs hR hB1 h' s1 s2 hcs hcur hr hn h hl hc hlen
  go_enter Try.func18, Try.ntmps18
  go_wp2_with (with_reducible refine wpList_copy_splice rfl (.tmp 9) (.tmp 10) 22 22 rfl 5 Try.underlying22 (by kernel_rfl) _ _ _ _ _ _ rfl rfl w.heap.size 0 cur 5 S5.out cs S1.out S2.out S4.out S3.out w.heap.size w HS.out.2 (Nat.le_refl _) ?_; intro w2 HG hB2)
  have hrow : RowB w2 w.heap.size l := by
    have := HG.out
    rw [S6.out] at this
    exact this
  have HR := Lib.hid hrow
  clear hrow
  by_cases hin : 0 ≤ i ∧ i / 8 < len
  · have hh : hasB len i = true := by simp only [hasB, decide_eq_true_iff]; exact hin
    obtain ⟨k, rfl⟩ := Int.eq_ofNat_of_zero_le hin.1
    have hk : k < 8 * len := by omega
    have HT : Hid (setL l (k : Int) = markL l k) := Lib.hid (by unfold setL; rw [if_pos (by rw [← HN.out]; exact hin), Int.toNat_natCast])
    clear hin
    refine (bhas_any _ _ _ _ _ h0 h1).mono ?_
    rintro e w' ⟨rfl, rfl⟩
    rw [hh]
    go_wp2_with fail
    have HK := mark_row w.heap.size len k l w2 HL.out HR.out (by rw [← HN.out]; exact hk) (by omega)
    rw [← HN.out] at HK
    refine HK.mono ?_
    rintro e w3 ⟨⟨v, rfl⟩, hrow3, hg3⟩
    have HR3 := Lib.hid hrow3
    have HG3 := Lib.hid hg3
    clear hrow3 hg3
    go_wp2
    go_ret
    refine ⟨rfl, by rw [HT.out]; exact HR3.out, ?_⟩
    exact hB2.grown HG3.out (Nat.le_of_lt HR.out.lt) (fun g e => by cases e; exact Nat.le_refl _)
  · have hh : hasB len i = false := by simp only [hasB, decide_eq_false_iff_not]; exact hin
    have HT : Hid (setL l i = l) := Lib.hid (by unfold setL; rw [if_neg (by rw [← HN.out]; exact hin)])
    clear hin
    refine (bhas_any _ _ _ _ _ h0 h1).mono ?_
    rintro e w' ⟨rfl, rfl⟩
    rw [hh]
    go_wp2
    go_ret
    exact ⟨rfl, by rw [HT.out]; exact HR.out, hB2⟩

end Go.Proofs.Ytdphkgknjgdjoaa
