/-
  bits.Within and bits.Or.
-/
import Derived.Test.YtdphkgknjgdjoaaBitsRight
namespace Go.Proofs.Ytdphkgknjgdjoaa
open Go.RowKit Go.Shelf

attribute [local go_sem] Oper.semAt_some

theorem within_yes {a b : List Int} {ys : List Nat} (h : ys = onesL a) (hy : ∀ y ∈ ys, bt b y = true) : withinL a b = true := by
  unfold withinL
  rw [← h, List.all_eq_true]
  exact hy
theorem within_no {a b : List Int} {y : Nat} {ys : List Nat} (h : ys <+: onesL a) (hy : y ∈ ys) (hK : bt b y = false) : withinL a b = false := by
  rw [Bool.eq_false_iff]
  intro h2
  have := withinL_iff.1 h2 y (mem_onesL.1 (h.subset hy))
  rw [hK] at this
  cases this
theorem all_bits {b l : List Int} {pre : List (BitOf l)} {x : BitOf l} (h : ∀ y ∈ vals pre, bt b y = true) (hx : bt b x.1 = true) : ∀ y ∈ vals (pre ++ [x]), bt b y = true := by
  intro y hy
  rw [vals_snoc] at hy
  rcases List.mem_append.1 hy with hy | hy
  · exact h y hy
  · rw [List.mem_singleton.1 hy]; exact hx

set_option maxRecDepth 100000 in
set_option maxHeartbeats 1000000 in
theorem bwithin_core (A : Option Addr) (c len : Nat) (u : Value) (l b : List Int) (w : World) (hn : len = l.length) (hlen : len ≤ 1000000000) (hl : AllB l) (hb : AllB b) (hu : Bytes w w.heap.size u b)
    (hr : 0 < l.length → ∃ b off, A = some ⟨b, off, none⟩ ∧ b < w.heap.size ∧ ∀ j, j < l.length → w.cell? ⟨b, off + j, none⟩ = some (.int .u8 (l[j]?.getD 0))) :
    CallsIn Fence.wide 5 Try.prog 16 #[.slice A len c, u] w fun e w' => e = .returned (.bool (withinL l b)) ∧ Below w.heap.size w w' := by
  have H := Lib.hid hr
  have HL := Lib.hid hl
  have HN := Lib.hid hn
  have HB := Lib.hid hb
  have HU := Lib.hid hu
  obtain ⟨A2, c2, hu2, -⟩ := hu.parts
  obtain ⟨m2, hm2⟩ : ∃ m, m = b.length := ⟨_, rfl⟩
  rw [← hm2] at hu2
  subst hu2
  clear hr hl hn hb hu hm2
  refine callsIn_of_wp_marks Try.func16 rfl trivial ?_ rfl
  simp only [Try.ntmps16, List.size_toArray, List.length_cons, List.length_nil, Nat.reduceAdd, Nat.reduceSub, Array.replicate_succ, Array.replicate_zero, List.push_toArray, List.append_toArray, List.nil_append, List.cons_append]
  refine wpIn_wide.2 ?_
  go_wp2_with fail
  refine (ones_any _ _ _ _).mono ?_
  rintro e w' ⟨rfl, rfl⟩
  have b0 := Boxed.new w 22 (.slice A2 m2 c2)
  have b1 := Boxed.new (w.alloc (.cells #[.slice A2 m2 c2] 22)) 4 (.bool false)
  have b0' := b0.alloc (.cells #[.bool false] 4)
  have hB1 : Below w.heap.size w ((w.alloc (.cells #[.slice A2 m2 c2] 22)).alloc (.cells #[.bool false] 4)) := ((Below.refl _ w).alloc (Nat.le_refl _) _).alloc (by simp) _
  obtain ⟨W0, hW0⟩ : ∃ W0, ((w.alloc (.cells #[.slice A2 m2 c2] 22)).alloc (.cells #[.bool false] 4)) = W0 := ⟨_, rfl⟩
  have hsz : W0.heap.size = w.heap.size + 2 := by rw [← hW0]; simp
  have c0 : Boxed W0 w.heap.size 22 (.slice A2 m2 c2) := by rw [← hW0]; exact b0'
  have c1 : Boxed W0 (w.heap.size + 1) 4 (.bool false) := by rw [← hW0]; rw [World.size_alloc] at b1; exact b1
  have hB2 : Below w.heap.size w W0 := by rw [← hW0]; exact hB1
  rw [hW0]
  clear hW0 b0 b1 b0' hB1
  have b2 := Boxed.new W0 22 (.slice A len c)
  have hB0 : Below w.heap.size w (W0.alloc (.cells #[.slice A len c] 22)) := hB2.alloc (by omega) _
  have hc0 := c0.alloc (.cells #[.slice A len c] 22)
  have hc1 := c1.alloc (.cells #[.slice A len c] 22)
  have hsz1 : w.heap.size + 1 < W0.heap.size := by omega
  clear hsz
  go_wp2
  refine (wpIn_wide (n := 5)).1 ?_
  refine wpIn_rangeFunc_ownG rfl (by omega) (gf := 36) (lb := #[.pointer (some ⟨W0.heap.size, 0, none⟩)]) rfl trivial (enters_of Try.func36 (by kernel_rfl) rfl)
    (ones_stops 4 (by omega) W0.heap.size w.heap.size A len c l HN.out HL.out (by rw [← HN.out]; omega) _ (by simp) (by simp; omega) b2.cell (rows_on hB0 H.out)) belowK_t (belowK_b (by simp; omega)) (Below.refl _ _) (fun _ => rfl)
    (fun pre W => ((∀ y ∈ vals pre, bt b y = true) ∧ W.cell? ⟨w.heap.size, 0, none⟩ = some (.slice A2 m2 c2) ∧ W.cell? ⟨w.heap.size + 1, 0, none⟩ = some (.bool false) ∧ W.frozen? ⟨w.heap.size + 1, 0, none⟩ = false) ∧ Below w.heap.size w W)
    (fun cc pre W => (cc = .ret ∧ (∃ y ∈ vals pre, bt b y = false) ∧ W.cell? ⟨w.heap.size + 1, 0, none⟩ = some (.bool false)) ∧ Below w.heap.size w W)
    (OwnFrom.and (Own.from (fun s A B row hs hg hr => ⟨hs.1, cell_kept hs.2.1 hg hr, cell_kept hs.2.2.1 hg hr, (frozen_kept hs.2.2.1 hg hr).trans hs.2.2.2⟩) _) (ownFrom_below (Nat.le_refl _) (by simp; omega)))
    (fun cc => OwnFrom.and (Own.from (fun s A B row hs hg hr => ⟨hs.1, hs.2.1, cell_kept hs.2.2 hg hr⟩) _) (ownFrom_below (Nat.le_refl _) (by simp; omega)))
    ⟨⟨by simp [vals], hc0.cell, hc1.cell, hc1.frozen⟩, hB0⟩
    (fun x => { tmps := #[.slice A len c, .slice A2 m2 c2, undef, .pointer (some ⟨w.heap.size, 0, none⟩), .pointer (some ⟨w.heap.size + 1, 0, none⟩), .int .i64 (x.1 : Nat), .slice A len c, .func (.func 36) #[] #[.pointer (some ⟨W0.heap.size, 0, none⟩)], .int .i64 (x.1 : Nat), undef, undef, undef, undef], defers := [] }) ?assign ?body ?done ?stop
  case assign =>
    intro l x W K hK
    gi_wp2
    exact hK
  case body =>
    rintro lp pre x W ⟨⟨hv, ck, cp, fp⟩, hB⟩ _
    have HV := Lib.hid hv
    have HVS := Lib.hid (fun (h : bt b x.1 = true) => all_bits (x := x) hv h)
    have HVN : Hid (x.1 ∈ vals (pre ++ [x])) := Lib.hid (by rw [vals_snoc]; simp)
    have hx2 : x.1 < 8 * len := by have := x.2; have := HN.out; omega
    clear hv
    obtain ⟨y, hy⟩ : ∃ y, y = x.1 := ⟨_, rfl⟩
    rw [← hy] at HVS HVN hx2 ⊢
    have HY := Lib.hid hy
    clear hy
    have HG := Lib.hid (bget_any _ b w.heap.size (y : Int) W (HU.out.below hB (Nat.le_refl _)) HB.out (by omega) (by omega))
    cases hbit : bt b y with
    | true =>
      have HE : Hid (getB b (y : Int) = true) := Lib.hid (by rw [getB_nat]; exact hbit)
      have HI := Lib.hid (HVS.out hbit)
      clear hbit HVS
      gi_wp2
      refine ⟨trivial, ?_⟩
      refine (CallsIn.inRound lp (callsIn_wide.2 HG.out)).mono ?_
      rintro e w' ⟨rfl, rfl⟩
      rw [HE.out]
      gi_wp2
      exact ⟨KeepsFrom.refl _ _, Below.refl _ _, ⟨HI.out, ck, cp, fp⟩, hB⟩
    | false =>
      have HE : Hid (getB b (y : Int) = false) := Lib.hid (by rw [getB_nat]; exact hbit)
      have HI := Lib.hid (show ∃ y ∈ vals (pre ++ [x]), bt b y = false from ⟨y, HVN.out, hbit⟩)
      clear hbit HVS
      gi_wp2
      refine ⟨trivial, ?_⟩
      refine (CallsIn.inRound lp (callsIn_wide.2 HG.out)).mono ?_
      rintro e w' ⟨rfl, rfl⟩
      rw [HE.out]
      gi_wp2
      exact ⟨(KeepsOthers.setCell _ _ _).from _, ⟨rfl, HI.out, World.cell?_setCell_same' _ _ _ (by rw [cp]; rfl)⟩, hB.setCell (p := ⟨w.heap.size + 1, 0, none⟩) (by simp) _⟩
  case done =>
    rintro D ys W hD hys ⟨⟨hv, ck, cp, fp⟩, hB⟩ hKD
    have HE := Lib.hid (within_yes hys hv)
    clear hys hv
    go_wp2
    have hK' := (KeepsOthers.setCell W ⟨w.heap.size + 1, 0, none⟩ (.bool true)).same D _ hKD rfl
    refine ⟨by simp, .inl ⟨_, _, rfl, run_takeDeferred hK', ?_⟩⟩
    have hc5 := cell_kept (World.cell?_setCell_same' W ⟨w.heap.size + 1, 0, none⟩ (.bool true) (by rw [cp]; rfl)) (grownBy_putObj' _ D (.deferred none)) (fun r e => by cases e; exact ⟨_, hK', rfl⟩)
    refine ⟨.bool true, ?_, by rw [HE.out], (hB.setCell (p := ⟨w.heap.size + 1, 0, none⟩) (by simp) _).trans (belowK_b (w := w) (Nat.le_refl _) _ D _ _ (by simp at hD; omega) hK' rfl rfl)⟩
    simp [results, Try.f16, go_sem, hc5]
  case stop =>
    rintro D cc pre W hD hpre ⟨⟨rfl, ⟨y, hy, hKy⟩, cp⟩, hB⟩ hKD
    have HE := Lib.hid (within_no hpre hy hKy)
    clear hpre hy hKy
    gi_wp2
    refine ⟨by simp, .inl ⟨_, _, rfl, run_takeDeferred hKD, ?_⟩⟩
    have hc5 := cell_kept cp (grownBy_putObj' _ D (.deferred none)) (fun r e => by cases e; exact ⟨_, hKD, rfl⟩)
    refine ⟨.bool false, ?_, by rw [HE.out], hB.trans (belowK_b (w := w) (Nat.le_refl _) W D _ _ (by simp at hD; omega) hKD rfl rfl)⟩
    simp [results, Try.f16, go_sem, hc5]

/-- Within of two rows of bytes -/
theorem bwithin_any (v u : Value) (a b : List Int) (w : World) (h : Bytes w w.heap.size v a) (ha : AllB a) (h' : Bytes w w.heap.size u b) (hb : AllB b) (hlen : a.length ≤ 1000000000) :
    Calls Try.prog 16 #[v, u] w fun e w' => e = .returned (.bool (withinL a b)) ∧ Below w.heap.size w w' := by
  obtain ⟨A, c, rfl, hc, hm, hr⟩ := h
  exact (callsIn_wide (n := 5)).1 (bwithin_core A c a.length u a b w rfl hlen ha hb h' hr)

end Go.Proofs.Ytdphkgknjgdjoaa
