/-
  bits.First: it goes through the bits that are set, and stops at the first gap.
-/
import Derived.Test.YtdphkgknjgdjoaaBitsOnes
namespace Go.Proofs.Ytdphkgknjgdjoaa
open Go.RowKit Go.Shelf

attribute [local go_sem] Oper.semAt_some

theorem rows_on {w W : World} {A : Option Addr} {l : List Int} (hB : Below w.heap.size w W)
    (hr : 0 < l.length → ∃ b off, A = some ⟨b, off, none⟩ ∧ b < w.heap.size ∧ ∀ j, j < l.length → w.cell? ⟨b, off + j, none⟩ = some (.int .u8 (l[j]?.getD 0))) :
    0 < l.length → ∃ b off, A = some ⟨b, off, none⟩ ∧ b < w.heap.size ∧ ∀ j, j < l.length → W.cell? ⟨b, off + j, none⟩ = some (.int .u8 (l[j]?.getD 0)) := fun hp => by
  obtain ⟨b, off, e, hb, hc⟩ := hr hp
  exact ⟨b, off, e, hb, fun j hj => (hB.cell (p := ⟨b, off + j, none⟩) hb).trans (hc j hj)⟩

theorem range_snoc_of {l : List Int} {pre : List (BitOf l)} {x : BitOf l} {p : Nat} (h : vals pre = List.range p) (hx : x.1 = p) : vals (pre ++ [x]) = List.range (p + 1) := by
  rw [vals_snoc, h, hx, List.range_succ]
/-- the bits that have come are 0 to p - 1: so far all are set; if no more comes, the bit p is not -/
theorem first_done {l : List Int} {K p : Nat} (h : onesL l = List.range p) (hp : p ≤ K) : fst l K = p := by
  refine (fst_eq ⟨hp, fun i hi => mem_onesL.1 (by rw [h]; exact List.mem_range.2 hi), .inr ?_⟩).symm
  cases hb : bt l p with
  | false => rfl
  | true =>
    have := mem_onesL.2 hb
    rw [h, List.mem_range] at this
    omega
theorem onesL_sorted (l : List Int) : (onesL l).Pairwise (· < ·) := by
  unfold onesL
  exact List.Pairwise.filter _ List.pairwise_lt_range
theorem first_stop {l : List Int} {K p x : Nat} (h : List.range p ++ [x] <+: onesL l) (hp : p ≤ K) (hx : x ≠ p ∨ p = K) : fst l K = p := by
  obtain ⟨rest, h⟩ := h
  refine (fst_eq ⟨hp, fun i hi => mem_onesL.1 (by rw [← h]; simp [hi]), ?_⟩).symm
  rcases hx with hx | hx
  · refine .inr ?_
    cases hb : bt l p with
    | false => rfl
    | true =>
      exfalso
      have h1 := mem_onesL.2 hb
      have hs := onesL_sorted l
      rw [← h] at h1 hs
      rw [List.append_assoc, List.mem_append, List.mem_range] at h1
      rw [List.append_assoc] at hs
      have h2 := List.pairwise_append.1 hs
      have h3 := List.pairwise_cons.1 h2.2.1
      rcases h1 with h1 | h1
      · omega
      · rcases List.mem_cons.1 h1 with e | e
        · exact hx e.symm
        · have h4 := h3.1 p e
          rcases Nat.lt_or_ge x p with h5 | h5
          · have := h2.2.2 x (List.mem_range.2 h5) x List.mem_cons_self
            omega
          · omega
  · exact .inl hx

set_option maxRecDepth 100000 in
set_option maxHeartbeats 1000000 in
theorem bfirst_core (A : Option Addr) (c len m : Nat) (l : List Int) (n : Int) (w : World) (hm : m = l.length) (hmn : m = min len (makeN n)) (hlen : len ≤ 1000000000) (hl : AllB l) (hlc : len ≤ c)
    (hr : 0 < l.length → ∃ b off, A = some ⟨b, off, none⟩ ∧ b < w.heap.size ∧ ∀ j, j < l.length → w.cell? ⟨b, off + j, none⟩ = some (.int .u8 (l[j]?.getD 0))) :
    CallsIn Fence.wide 5 Try.prog 21 #[.slice A len c, .int .i64 n] w fun e w' => e = .returned (.int .i64 (fst l (clipN n) : Nat)) ∧ Below w.heap.size w w' := by
  have H := Lib.hid hr
  have HL := Lib.hid hl
  have HM := Lib.hid hm
  have HC := Lib.hid (make8 n)
  have HMN : Hid (min (len : Int) (makeN n : Nat) = (m : Nat)) := Lib.hid (by omega)
  have hk := clipN_le n
  have m1 : m ≤ len := by omega
  obtain ⟨K, hK⟩ : ∃ K, clipN n = K := ⟨_, rfl⟩
  have HK := Lib.hid hK
  rw [hK] at hk ⊢
  rw [hK] at HC
  clear hr hl hm hmn hK
  refine callsIn_of_wp_marks Try.func21 rfl trivial ?_ rfl
  simp only [Try.ntmps21, List.size_toArray, List.length_cons, List.length_nil, Nat.reduceAdd, Nat.reduceSub, Array.replicate_succ, Array.replicate_zero, List.push_toArray, List.append_toArray, List.nil_append, List.cons_append]
  gi_wp2
  refine ⟨trivial, ?_⟩
  refine (callsIn_wide.2 (bclip_any _ _)).mono ?_
  rintro e w' ⟨rfl, rfl⟩
  rw [HK.out]
  gi_wp2
  refine ⟨trivial, ?_⟩
  refine (callsIn_wide.2 (blong_any _ _)).mono ?_
  rintro e w' ⟨rfl, rfl⟩
  rw [HC.out]
  gi_wp2
  refine ⟨trivial, ?_⟩
  rw [HMN.out, Int.toNat_natCast]
  refine (callsIn_wide.2 (ones_any _ _ _ _)).mono ?_
  rintro e w' ⟨rfl, rfl⟩
  have b0 := Boxed.new w 3 (.int .i64 (K : Nat))
  have b1 := Boxed.new (w.alloc (.cells #[.int .i64 (K : Nat)] 3)) 3 (.int .i64 0)
  have b2 := Boxed.new ((w.alloc (.cells #[.int .i64 (K : Nat)] 3)).alloc (.cells #[.int .i64 0] 3)) 22 (.slice A m c)
  simp only [World.size_alloc] at b1 b2
  have hB0 : Below w.heap.size w (((w.alloc (.cells #[.int .i64 (K : Nat)] 3)).alloc (.cells #[.int .i64 0] 3)).alloc (.cells #[.slice A m c] 22)) := (((Below.refl _ w).alloc (Nat.le_refl _) _).alloc (by simp) _).alloc (by simp; omega) _
  have hc0 := (b0.alloc (.cells #[.int .i64 0] 3)).alloc (.cells #[.slice A m c] 22)
  have hc1 := b1.alloc (.cells #[.slice A m c] 22)
  gi_wp2
  refine wpIn_rangeFunc_ownG rfl (by omega) (gf := 36) (lb := #[.pointer (some ⟨w.heap.size + 1 + 1, 0, none⟩)]) rfl trivial (enters_of Try.func36 (by kernel_rfl) rfl)
    (ones_stops 4 (by omega) (w.heap.size + 1 + 1) w.heap.size A m c l HM.out HL.out (by rw [← HM.out]; omega) _ (by simp) (by simp; omega) b2.cell (rows_on hB0 H.out)) belowK_t (belowK_b (by simp; omega)) (Below.refl _ _) (fun _ => rfl)
    (fun pre W => (vals pre = List.range pre.length ∧ pre.length ≤ K ∧ W.cell? ⟨w.heap.size, 0, none⟩ = some (.int .i64 (K : Nat)) ∧ W.cell? ⟨w.heap.size + 1, 0, none⟩ = some (.int .i64 (pre.length : Nat)) ∧ W.frozen? ⟨w.heap.size + 1, 0, none⟩ = false) ∧ Below w.heap.size w W)
    (fun cc pre W => (cc = .exit 0 ∧ ∃ p x, vals pre = List.range p ++ [x] ∧ p ≤ K ∧ (x ≠ p ∨ p = K) ∧ W.cell? ⟨w.heap.size + 1, 0, none⟩ = some (.int .i64 (p : Nat))) ∧ Below w.heap.size w W)
    (OwnFrom.and (Own.from (fun s A B row hs hg hr => ⟨hs.1, hs.2.1, cell_kept hs.2.2.1 hg hr, cell_kept hs.2.2.2.1 hg hr, (frozen_kept hs.2.2.2.1 hg hr).trans hs.2.2.2.2⟩) _) (ownFrom_below (Nat.le_refl _) (by simp; omega)))
    (fun cc => OwnFrom.and (Own.from (fun s A B row hs hg hr => by obtain ⟨h1, p, x, h2, h3, h4, h5⟩ := hs; exact ⟨h1, p, x, h2, h3, h4, cell_kept h5 hg hr⟩) _) (ownFrom_below (Nat.le_refl _) (by simp; omega)))
    ⟨⟨rfl, Nat.zero_le _, hc0.cell, hc1.cell, hc1.frozen⟩, hB0⟩
    (fun x => { tmps := #[.slice A len c, .int .i64 n, undef, .pointer (some ⟨w.heap.size, 0, none⟩), .int .i64 0, .pointer (some ⟨w.heap.size + 1, 0, none⟩), .int .i64 (x.1 : Nat), .int .i64 n, .int .i64 (K : Nat), .slice A len c, .slice A len c, .int .i64 len, .int .i64 (K : Nat), .int .i64 (makeN n : Nat), .int .i64 m, .slice A m c, .func (.func 36) #[] #[.pointer (some ⟨w.heap.size + 1 + 1, 0, none⟩)], .int .i64 (x.1 : Nat), undef, undef, undef, undef, undef, undef, undef, undef, undef, undef, undef], defers := [] }) ?assign ?body ?done ?stop
  case assign =>
    intro l x W K hK
    gi_wp2
    exact hK
  case body =>
    rintro lp pre x W ⟨⟨hv, hp, ck, cp, fp⟩, hB⟩ _
    have HV := Lib.hid hv
    have HVS := Lib.hid (fun (h : x.1 = pre.length) => range_snoc_of (x := x) hv h)
    have HVN : Hid (vals (pre ++ [x]) = List.range pre.length ++ [x.1]) := Lib.hid (by rw [vals_snoc, hv])
    have HLn : Hid ((pre ++ [x]).length = pre.length + 1) := Lib.hid (by simp)
    clear hv
    obtain ⟨y, hy⟩ : ∃ y, y = x.1 := ⟨_, rfl⟩
    rw [← hy] at HVS HVN ⊢
    have HY := Lib.hid hy
    clear hy
    generalize pre.length = p at *
    by_cases h1 : y = p
    · subst h1
      by_cases h2 : y = K
      · have d2 : ((y : Int) == (K : Int)) = true := by rw [beq_iff_eq]; omega
        gi_wp2
        exact ⟨KeepsFrom.refl _ _, ⟨rfl, y, y, HVN.out, hp, .inr h2, cp⟩, hB⟩
      · have d2 : ((y : Int) == (K : Int)) = false := by rw [beq_eq_false_iff_ne]; omega
        gi_wp2
        refine ⟨(KeepsOthers.setCell _ _ _).from _, (Below.refl w.heap.size W).setCell (p := ⟨w.heap.size + 1, 0, none⟩) (by simp) _, ⟨?_, ?_, ?_, ?_, ?_⟩, hB.setCell (p := ⟨w.heap.size + 1, 0, none⟩) (by simp) _⟩
        · rw [HLn.out]; first | exact HVS.out trivial | exact HVS.out rfl
        · rw [HLn.out]; omega
        · rw [World.cell?_setCell_other _ _ _ _ (by simp)]; exact ck
        · rw [HLn.out]
          have e := World.cell?_setCell_same' W ⟨w.heap.size + 1, 0, none⟩ (.int .i64 ((y : Int) + 1)) (by rw [cp]; rfl)
          exact e
        · rw [World.frozen?_setCell]; exact fp
    · have d1 : ((y : Int) != (p : Int)) = true := by rw [bne_iff_ne]; omega
      gi_wp2
      exact ⟨KeepsFrom.refl _ _, ⟨rfl, p, y, HVN.out, hp, .inl h1, cp⟩, hB⟩
  case done =>
    rintro D ys W hD hys ⟨⟨hv, hp, ck, cp, fp⟩, hB⟩ hKD
    have HE := Lib.hid (first_done (hys.symm.trans hv) hp)
    clear hys hv
    gi_wp2
    refine ⟨by simp, .inl ⟨_, _, rfl, run_takeDeferred hKD, ?_⟩⟩
    exact ⟨_, results_tmp rfl _ _ _, by rw [HE.out]; rfl, hB.trans (belowK_b (w := w) (Nat.le_refl _) W D _ _ (by simp at hD; omega) hKD rfl rfl)⟩
  case stop =>
    rintro D cc pre W hD hpre ⟨⟨rfl, p, x, hv, hp, hx, cp⟩, hB⟩ hKD
    rw [hv] at hpre
    have HE := Lib.hid (first_stop hpre hp hx)
    clear hpre hv hx
    gi_wp2
    refine ⟨by simp, .inl ⟨_, _, rfl, run_takeDeferred hKD, ?_⟩⟩
    exact ⟨_, results_tmp rfl _ _ _, by rw [HE.out]; rfl, hB.trans (belowK_b (w := w) (Nat.le_refl _) W D _ _ (by simp at hD; omega) hKD rfl rfl)⟩

/-- First of a row of bytes -/
theorem take_fst {l : List Int} {K m : Nat} (hm : (K + 7) / 8 ≤ m) : fst (l.take m) K = fst l K := by
  obtain ⟨h1, h2, h3⟩ := fst_is (l.take m) K
  have e : ∀ i, i < K → bt (l.take m) i = bt l i := fun i hi => by
    unfold bt
    rw [List.getElem?_take_of_lt (by omega)]
  refine fst_eq ⟨h1, fun i hi => by rw [← e i (by omega)]; exact h2 i hi, ?_⟩
  rcases h3 with h3 | h3
  · exact .inl h3
  · by_cases h4 : fst (l.take m) K = K
    · exact .inl h4
    · exact .inr (by rw [← e _ (by omega)]; exact h3)

theorem bfirst_any (v : Value) (l : List Int) (n : Int) (w : World) (h : Bytes w w.heap.size v l) (hl : AllB l) (hlen : l.length ≤ 1000000000) :
    Calls Try.prog 21 #[v, .int .i64 n] w fun e w' => e = .returned (.int .i64 (firstV l n)) ∧ Below w.heap.size w w' := by
  obtain ⟨A, c, rfl, hc, _, hr⟩ := h
  have e : fst l (clipN n) = fst (l.take (min l.length (makeN n))) (clipN n) := by
    by_cases h : l.length ≤ makeN n
    · rw [Nat.min_eq_left h, List.take_length]
    · rw [Nat.min_eq_right (by omega), take_fst (by unfold makeN; exact Nat.le_refl _)]
  unfold firstV
  rw [e]
  have e2 : (l.take (min l.length (makeN n))).length = min l.length (makeN n) := by rw [List.length_take]; omega
  refine (callsIn_wide (n := 5)).1 (bfirst_core A c l.length (min l.length (makeN n)) (l.take (min l.length (makeN n))) n w e2.symm rfl hlen (hl.take _) hc (fun hp => ?_))
  obtain ⟨b, off, e, hb, hcell⟩ := hr (by omega)
  refine ⟨b, off, e, hb, fun j hj => ?_⟩
  rw [List.getElem?_take_of_lt (by omega)]
  exact hcell j (by omega)

end Go.Proofs.Ytdphkgknjgdjoaa
