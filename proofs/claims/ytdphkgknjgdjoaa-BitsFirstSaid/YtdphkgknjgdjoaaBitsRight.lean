/-
  bits.Right: as many bytes as so many bits have, and none of the bits behind them is set.
-/
import Derived.Test.YtdphkgknjgdjoaaBitsFirstGo
import Derived.Sort.QuietIn
import Derived.BigQuiet
namespace Go.Proofs.Ytdphkgknjgdjoaa
open Go.RowKit Go.Shelf

attribute [local go_sem] Oper.semAt_some

theorem q_clip (n : Int) (w : World) (k : Nat) : Calls Try.prog 29 #[.int .i64 n] (w.drewN k) fun e w' => e = .returned (.int .i64 (clipN n : Nat)) ∧ ∃ m, w' = w.drewN m :=
  Calls.quiet_of_same ((bclip_any n _).mono fun _ _ ⟨h1, h2⟩ => ⟨h1, h2.symm⟩)
theorem q_long (n : Int) (M : Nat) (h : ceilV n 8 = (M : Int)) (w : World) (k : Nat) : Calls Try.prog 28 #[.int .i64 n] (w.drewN k) fun e w' => e = .returned (.int .i64 (M : Nat)) ∧ ∃ m, w' = w.drewN m :=
  Calls.quiet_of_same ((blong_any n _).mono fun _ _ ⟨h1, h2⟩ => ⟨by rw [h1, h], h2.symm⟩)

theorem lt_not {l : List Int} {n : Int} (h : ¬ (0 ≤ n ∧ n ≤ 65536 ∧ l.length = makeN n)) : rightOK l n = false := by
  unfold rightOK
  rw [decide_eq_false h, Bool.false_and]

set_option maxRecDepth 100000 in
set_option maxHeartbeats 1000000 in
theorem bright_no (A : Option Addr) (c len : Nat) (n : Int) (w : World) (h : ¬ (0 ≤ n ∧ n ≤ 65536 ∧ len = makeN n)) :
    CallsIn Fence.wide 5 Try.prog 22 #[.slice A len c, .int .i64 n] w fun e w' => e = .returned (.bool false) ∧ Below w.heap.size w w' := by
  by_cases h1 : n = (clipN n : Nat)
  · have h2 : ¬ len = makeN n := fun e => h ⟨by omega, by have := clipN_le n; omega, e⟩
    obtain ⟨K, hK⟩ : ∃ K, clipN n = K := ⟨_, rfl⟩
    have HM : Hid (ceilV (K : Int) 8 = (makeN n : Nat)) := Lib.hid (by rw [← hK]; exact make8 n)
    rw [hK] at h1
    obtain ⟨M, hM⟩ : ∃ M, makeN n = M := ⟨_, rfl⟩
    rw [hM] at HM h2
    have HK := Lib.hid hK
    clear hM hK h
    subst h1
    have d1 : ((K : Int) != (K : Int)) = false := by simp
    have d2 : ((len : Int) != (M : Int)) = true := by rw [bne_iff_ne]; omega
    refine callsIn_of_wp_marks Try.func22 rfl trivial ?_ rfl
    simp only [Try.ntmps22, List.size_toArray, List.length_cons, List.length_nil, Nat.reduceAdd, Nat.reduceSub, Array.replicate_succ, Array.replicate_zero, List.push_toArray, List.append_toArray, List.nil_append, List.cons_append]
    refine wpIn_wide.2 ?_
    go_wp2
    have hq : ∀ (w : World) (k : Nat), Calls Try.prog 29 #[.int .i64 (K : Nat)] (w.drewN k) fun e w' => e = .returned (.int .i64 (K : Nat)) ∧ ∃ m, w' = w.drewN m := by
      intro w k
      have := q_clip (K : Nat) w k
      rwa [HK.out] at this
    go_quiet ((first | (go_at_call 29; exact hq _ _) | (go_at_call 28; exact q_long _ _ HM.out _ _)))
    go_wp2
    have b1 := Boxed.new (w.alloc (.cells #[.int .i64 (K : Nat)] 3)) 4 (.bool false)
    rw [World.size_alloc] at b1
    have hc5 := World.cell?_setCell_same' (((w.alloc (.cells #[.int .i64 (K : Nat)] 3)).alloc (.cells #[.bool false] 4)).drewN nq) ⟨w.heap.size + 1, 0, none⟩ (.bool false) (by rw [World.cell?_drewN, b1.cell]; rfl)
    refine ⟨.bool false, ?_, rfl, (below_drewN (((Below.refl _ w).alloc (Nat.le_refl _) _).alloc (by simp) _) nq).setCell (p := ⟨w.heap.size + 1, 0, none⟩) (by simp) _⟩
    simp [results, Try.f22, go_sem, hc5]
  · have d1 : (n != (clipN n : Nat)) = true := by rw [bne_iff_ne]; exact h1
    refine callsIn_of_wp_marks Try.func22 rfl trivial ?_ rfl
    simp only [Try.ntmps22, List.size_toArray, List.length_cons, List.length_nil, Nat.reduceAdd, Nat.reduceSub, Array.replicate_succ, Array.replicate_zero, List.push_toArray, List.append_toArray, List.nil_append, List.cons_append]
    refine wpIn_wide.2 ?_
    go_wp2
    go_quiet ((go_at_call 29; exact q_clip _ _ _))
    go_wp2
    have b1 := Boxed.new (w.alloc (.cells #[.int .i64 n] 3)) 4 (.bool false)
    rw [World.size_alloc] at b1
    have hc5 := World.cell?_setCell_same' (((w.alloc (.cells #[.int .i64 n] 3)).alloc (.cells #[.bool false] 4)).drewN nq) ⟨w.heap.size + 1, 0, none⟩ (.bool false) (by rw [World.cell?_drewN, b1.cell]; rfl)
    refine ⟨.bool false, ?_, rfl, (below_drewN (((Below.refl _ w).alloc (Nat.le_refl _) _).alloc (by simp) _) nq).setCell (p := ⟨w.heap.size + 1, 0, none⟩) (by simp) _⟩
    simp [results, Try.f22, go_sem, hc5]

theorem right_yes {l : List Int} {K : Nat} {ys : List Nat} (h : ys = onesL l) (hy : ∀ y ∈ ys, y < K) : noneFrom l K = true := by
  unfold noneFrom
  rw [← h, List.all_eq_true]
  exact fun i hi => decide_eq_true (hy i hi)
theorem right_fail {l : List Int} {K y : Nat} {ys : List Nat} (h : ys <+: onesL l) (hy : y ∈ ys) (hK : K ≤ y) : noneFrom l K = false := by
  rw [Bool.eq_false_iff]
  intro h2
  have := noneFrom_iff.1 h2 y hK
  rw [mem_onesL.1 (h.subset hy)] at this
  cases this
theorem all_snoc {K : Nat} {l : List Int} {pre : List (BitOf l)} {x : BitOf l} (h : ∀ y ∈ vals pre, y < K) (hx : x.1 < K) : ∀ y ∈ vals (pre ++ [x]), y < K := by
  intro y hy
  rw [vals_snoc] at hy
  rcases List.mem_append.1 hy with hy | hy
  · exact h y hy
  · rw [List.mem_singleton.1 hy]; exact hx

set_option maxRecDepth 100000 in
set_option maxHeartbeats 1000000 in
theorem bright_yes (A : Option Addr) (c len K : Nat) (l : List Int) (w : World) (hn : len = l.length) (hl : AllB l) (hK : K ≤ 65536) (hM : len = makeN (K : Nat))
    (hr : 0 < l.length → ∃ b off, A = some ⟨b, off, none⟩ ∧ b < w.heap.size ∧ ∀ j, j < l.length → w.cell? ⟨b, off + j, none⟩ = some (.int .u8 (l[j]?.getD 0))) :
    CallsIn Fence.wide 5 Try.prog 22 #[.slice A len c, .int .i64 K] w fun e w' => e = .returned (.bool (noneFrom l K)) ∧ Below w.heap.size w w' := by
  have H := Lib.hid hr
  have HL := Lib.hid hl
  have HN := Lib.hid hn
  have hk : clipN (K : Int) = K := by unfold clipN; omega
  have hlen : len ≤ 8192 := by rw [hM]; exact makeN_le _
  have HMk : Hid (ceilV (K : Int) 8 = (len : Nat)) := Lib.hid (by rw [hM]; have := make8 (K : Nat); rwa [hk] at this)
  have HK := Lib.hid hk
  clear hr hl hn hM hk
  have d1 : ((K : Int) != (K : Int)) = false := by simp
  have d2 : ((len : Int) != (len : Int)) = false := by simp
  refine callsIn_of_wp_marks Try.func22 rfl trivial ?_ rfl
  simp only [Try.ntmps22, List.size_toArray, List.length_cons, List.length_nil, Nat.reduceAdd, Nat.reduceSub, Array.replicate_succ, Array.replicate_zero, List.push_toArray, List.append_toArray, List.nil_append, List.cons_append]
  refine wpIn_wide.2 ?_
  go_wp2
  have hq : ∀ (w : World) (k : Nat), Calls Try.prog 29 #[.int .i64 (K : Nat)] (w.drewN k) fun e w' => e = .returned (.int .i64 (K : Nat)) ∧ ∃ m, w' = w.drewN m := by
    intro w k
    have := q_clip (K : Nat) w k
    rwa [HK.out] at this
  go_quiet ((first | (go_at_call 29; exact hq _ _) | (go_at_call 28; exact q_long _ _ HMk.out _ _)))
  clear hq
  go_wp2_with fail
  refine (ones_any _ _ _ _).mono ?_
  rintro e w' ⟨rfl, rfl⟩
  have b0 := Boxed.new w 3 (.int .i64 (K : Nat))
  have b1 := Boxed.new (w.alloc (.cells #[.int .i64 (K : Nat)] 3)) 4 (.bool false)
  have b0' := b0.alloc (.cells #[.bool false] 4)
  have hB1 : Below w.heap.size w ((w.alloc (.cells #[.int .i64 (K : Nat)] 3)).alloc (.cells #[.bool false] 4)) := ((Below.refl _ w).alloc (Nat.le_refl _) _).alloc (by simp) _
  obtain ⟨W0, hW0⟩ : ∃ W0, ((w.alloc (.cells #[.int .i64 (K : Nat)] 3)).alloc (.cells #[.bool false] 4)).drewN nq = W0 := ⟨_, rfl⟩
  have hsz : W0.heap.size = w.heap.size + 2 := by rw [← hW0]; simp
  have c0 : Boxed W0 w.heap.size 3 (.int .i64 (K : Nat)) := by rw [← hW0]; exact b0'
  have c1 : Boxed W0 (w.heap.size + 1) 4 (.bool false) := by rw [← hW0]; rw [World.size_alloc] at b1; exact b1
  have hB2 : Below w.heap.size w W0 := by rw [← hW0]; exact below_drewN hB1 nq
  rw [hW0]
  clear hW0 b0 b1 b0' hB1
  have b2 := Boxed.new W0 22 (.slice A len c)
  have hB0 : Below w.heap.size w (W0.alloc (.cells #[.slice A len c] 22)) := hB2.alloc (by omega) _
  have hc0 := c0.alloc (.cells #[.slice A len c] 22)
  have hc1 := c1.alloc (.cells #[.slice A len c] 22)
  have HSZ := Lib.hid hsz
  have hsz1 : w.heap.size + 1 < W0.heap.size := by omega
  clear hsz
  go_wp2
  refine (wpIn_wide (n := 5)).1 ?_
  refine wpIn_rangeFunc_ownG rfl (by omega) (gf := 36) (lb := #[.pointer (some ⟨W0.heap.size, 0, none⟩)]) rfl trivial (enters_of Try.func36 (by kernel_rfl) rfl)
    (ones_stops 4 (by omega) W0.heap.size w.heap.size A len c l HN.out HL.out (by rw [← HN.out]; omega) _ (by simp) (by simp; omega) b2.cell (rows_on hB0 H.out)) belowK_t (belowK_b (by simp; omega)) (Below.refl _ _) (fun _ => rfl)
    (fun pre W => ((∀ y ∈ vals pre, y < K) ∧ W.cell? ⟨w.heap.size, 0, none⟩ = some (.int .i64 (K : Nat)) ∧ W.cell? ⟨w.heap.size + 1, 0, none⟩ = some (.bool false) ∧ W.frozen? ⟨w.heap.size + 1, 0, none⟩ = false) ∧ Below w.heap.size w W)
    (fun cc pre W => (cc = .ret ∧ (∃ y ∈ vals pre, K ≤ y) ∧ W.cell? ⟨w.heap.size + 1, 0, none⟩ = some (.bool false)) ∧ Below w.heap.size w W)
    (OwnFrom.and (Own.from (fun s A B row hs hg hr => ⟨hs.1, cell_kept hs.2.1 hg hr, cell_kept hs.2.2.1 hg hr, (frozen_kept hs.2.2.1 hg hr).trans hs.2.2.2⟩) _) (ownFrom_below (Nat.le_refl _) (by simp; omega)))
    (fun cc => OwnFrom.and (Own.from (fun s A B row hs hg hr => ⟨hs.1, hs.2.1, cell_kept hs.2.2 hg hr⟩) _) (ownFrom_below (Nat.le_refl _) (by simp; omega)))
    ⟨⟨by simp [vals], hc0.cell, hc1.cell, hc1.frozen⟩, hB0⟩
    (fun x => { tmps := #[.slice A len c, .int .i64 (K : Nat), undef, .pointer (some ⟨w.heap.size, 0, none⟩), .pointer (some ⟨w.heap.size + 1, 0, none⟩), .int .i64 (x.1 : Nat), .int .i64 (K : Nat), .int .i64 (K : Nat), .int .i64 (K : Nat), .bool false, .bool false, .slice A len c, .int .i64 len, .int .i64 (K : Nat), .int .i64 len, .bool false, .bool false, .slice A len c, .func (.func 36) #[] #[.pointer (some ⟨W0.heap.size, 0, none⟩)], .int .i64 (x.1 : Nat), undef, undef, undef], defers := [] }) ?assign ?body ?done ?stop
  case assign =>
    intro l x W K hK
    gi_wp2
    exact hK
  case body =>
    rintro lp pre x W ⟨⟨hv, ck, cp, fp⟩, hB⟩ _
    have HV := Lib.hid hv
    have HVS := Lib.hid (fun (h : x.1 < K) => all_snoc (x := x) hv h)
    have HVN : Hid (x.1 ∈ vals (pre ++ [x])) := Lib.hid (by rw [vals_snoc]; simp)
    clear hv
    obtain ⟨y, hy⟩ : ∃ y, y = x.1 := ⟨_, rfl⟩
    rw [← hy] at HVS HVN ⊢
    have HY := Lib.hid hy
    clear hy
    by_cases h1 : y < K
    · gi_wp2
      refine ⟨KeepsFrom.refl _ _, Below.refl _ _, ⟨?_, ck, cp, fp⟩, hB⟩
      first | exact HVS.out h1 | exact HVS.out trivial | exact HVS.out
    · have h2 : K ≤ y := by omega
      have h3 : y ∈ vals (pre ++ [x]) := HVN.out
      have HI := Lib.hid (show ∃ y ∈ vals (pre ++ [x]), K ≤ y from ⟨y, h3, h2⟩)
      clear h3
      gi_wp2
      refine ⟨(KeepsOthers.setCell _ _ _).from _, ⟨rfl, HI.out, World.cell?_setCell_same' _ _ _ (by rw [cp]; rfl)⟩, hB.setCell (p := ⟨w.heap.size + 1, 0, none⟩) (by simp) _⟩
  case done =>
    rintro D ys W hD hys ⟨⟨hv, ck, cp, fp⟩, hB⟩ hKD
    have HE := Lib.hid (right_yes hys hv)
    clear hys hv
    go_wp2
    have hK' := (KeepsOthers.setCell W ⟨w.heap.size + 1, 0, none⟩ (.bool true)).same D _ hKD rfl
    refine ⟨by simp, .inl ⟨_, _, rfl, run_takeDeferred hK', ?_⟩⟩
    have hc5 := cell_kept (World.cell?_setCell_same' W ⟨w.heap.size + 1, 0, none⟩ (.bool true) (by rw [cp]; rfl)) (grownBy_putObj' _ D (.deferred none)) (fun r e => by cases e; exact ⟨_, hK', rfl⟩)
    refine ⟨.bool true, ?_, by rw [HE.out], (hB.setCell (p := ⟨w.heap.size + 1, 0, none⟩) (by simp) _).trans (belowK_b (w := w) (Nat.le_refl _) _ D _ _ (by simp at hD; omega) hK' rfl rfl)⟩
    simp [results, Try.f22, go_sem, hc5]
  case stop =>
    rintro D cc pre W hD hpre ⟨⟨rfl, ⟨y, hy, hKy⟩, cp⟩, hB⟩ hKD
    have HE := Lib.hid (right_fail hpre hy hKy)
    clear hpre hy hKy
    gi_wp2
    refine ⟨by simp, .inl ⟨_, _, rfl, run_takeDeferred hKD, ?_⟩⟩
    have hc5 := cell_kept cp (grownBy_putObj' _ D (.deferred none)) (fun r e => by cases e; exact ⟨_, hKD, rfl⟩)
    refine ⟨.bool false, ?_, by rw [HE.out], hB.trans (belowK_b (w := w) (Nat.le_refl _) W D _ _ (by simp at hD; omega) hKD rfl rfl)⟩
    simp [results, Try.f22, go_sem, hc5]

/-- Right of a row of bytes -/
theorem bright_any (v : Value) (l : List Int) (n : Int) (w : World) (h : Bytes w w.heap.size v l) (hl : AllB l) :
    Calls Try.prog 22 #[v, .int .i64 n] w fun e w' => e = .returned (.bool (rightOK l n)) ∧ Below w.heap.size w w' := by
  obtain ⟨A, c, rfl, hc, hm, hr⟩ := h
  refine (callsIn_wide (n := 5)).1 ?_
  by_cases hok : 0 ≤ n ∧ n ≤ 65536 ∧ l.length = makeN n
  · obtain ⟨K, rfl⟩ := Int.eq_ofNat_of_zero_le hok.1
    have e : rightOK l (K : Int) = noneFrom l K := by
      unfold rightOK
      rw [decide_eq_true hok, Bool.true_and, Int.toNat_natCast]
    rw [e]
    exact bright_yes A c l.length K l w rfl hl (by omega) hok.2.2 hr
  · rw [lt_not hok]
    exact bright_no A c l.length n w hok

end Go.Proofs.Ytdphkgknjgdjoaa
