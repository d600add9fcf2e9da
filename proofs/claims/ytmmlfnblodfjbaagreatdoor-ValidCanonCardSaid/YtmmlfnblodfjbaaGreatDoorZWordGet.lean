/-
  word.Get: bytes are gone through backwards by slices.Backward (a range over a function). The iterator's contract, and Get's: of a row of bytes it returns the number whose bytes the first eight are, and writes nothing that was there.
-/
import Derived.RangeFuncNested
import Derived.RangeFuncBound
import Derived.RangeFuncCalls
import Derived.RangeFuncLeaves
import Derived.RangeFuncBox
import Derived.Shelf.Abstract
import Derived.Shelf.RegionOpen
import Derived.WalkKit
import Derived.OwnWalkIn
import Derived.TacticsInMore
import Derived.LoopNIn
import Derived.LoopIn
import Derived.Test.YtmmlfnblodfjbaaGreatDoorZWord

namespace Go.Proofs.YtmmlfnblodfjbaaGreatDoor
open Go.RowKit Go.Shelf

attribute [local go_sem] Oper.semAt_some

/-- what has come when k rounds are over: from the last index down -/
def back (l : List Int) (k : Nat) : List (Int × Int) := (List.range k).map (fun (j : Nat) => ((l.length : Int) - 1 - j, l[l.length - 1 - j]?.getD 0))
theorem back_succ (l : List Int) (k : Nat) : back l (k + 1) = back l k ++ [((l.length : Int) - 1 - k, l[l.length - 1 - k]?.getD 0)] := by simp [back, List.range_succ]
theorem back_length (l : List Int) (k : Nat) : (back l k).length = k := by simp [back]

/-- what a round that goes on keeps: all below n₀, and the box that has the slice -/
def KeepsBox (n₀ Bs : Nat) (W W' : World) : Prop := Below n₀ W W' ∧ ∀ v, W.cell? ⟨Bs, 0, none⟩ = some v → W'.cell? ⟨Bs, 0, none⟩ = some v
theorem KeepsBox.trans {n₀ Bs : Nat} {A B C : World} (h : KeepsBox n₀ Bs A B) (k : KeepsBox n₀ Bs B C) : KeepsBox n₀ Bs A C := ⟨h.1.trans k.1, fun v hv => k.2 v (h.2 v hv)⟩
theorem KeepsBox.put {n₀ Bs : Nat} {w : World} (hn : n₀ ≤ w.heap.size) (W : World) (l : Nat) (o o' : Obj) (hl : w.heap.size ≤ l) (ho : W.heap[l]? = some o) (h1 : o.isCells = false) (h2 : o.isWalk = false) : KeepsBox n₀ Bs W (W.putObj l o') :=
  ⟨belowK_b hn W l o o' hl ho h1 h2, fun _ hv => cell_kept hv (grownBy_putObj' _ l o') (fun r e => by cases e; exact ⟨_, ho, h1⟩)⟩

set_option maxRecDepth 100000 in
set_option maxHeartbeats 1000000 in
/-- the iterator's own loop: for every body that keeps what lay below n₀ -/
theorem backward1_in (F : Fence) (n : Nat) (h27 : F.fn 163) (hro : F.round = none) (hn : 1 ≤ n) (loop Bs n₀ : Nat) (A : Option Addr) (c : Nat) (l : List Int) (hlen : l.length ≤ 9223372036854775807)
    (J Jx : List (Int × Int) → World → Prop)
    (hY : ∀ pre x W, J pre W → pre.length < l.length → YieldAt F (n - 1) Tryz.prog loop #[.int .i64 x.1, .int .u8 x.2] W fun e W' =>
      (e = .returned (.bool true) ∧ J (pre ++ [x]) W' ∧ KeepsBox n₀ Bs W W') ∨ (e = .returned (.bool false) ∧ Jx (pre ++ [x]) W'))
    (W : World) (hcBs : W.cell? ⟨Bs, 0, none⟩ = some (.slice A l.length c))
    (hr : 0 < l.length → ∃ b off, A = some ⟨b, off, none⟩ ∧ b < n₀ ∧ ∀ j, j < l.length → W.cell? ⟨b, off + j, none⟩ = some (.int .u8 (l[j]?.getD 0))) (h0 : J [] W) :
    CallsIn F n Tryz.prog 163 #[.func (.yield loop) #[] #[], .pointer (some ⟨Bs, 0, none⟩)] W fun e W' => (∃ v, e = .returned v) ∧
      ((∃ ys, ys = back l l.length ∧ J ys W') ∨ (∃ pre, (∃ k, k ≤ l.length ∧ pre = back l k) ∧ Jx pre W')) := by
  have H := Lib.hid hr
  clear hr
  refine callsIn_of_wp Tryz.func163 rfl h27 ?_ hro
  simp only [Tryz.ntmps163, List.size_toArray, List.length_cons, List.length_nil, Nat.reduceAdd, Nat.reduceSub, Array.replicate_succ, Array.replicate_zero, List.push_toArray, List.append_toArray, List.nil_append, List.cons_append]
  gi_wp2
  gi_loopw [3] (fun i wr => ∃ k : Nat, k ≤ l.length ∧ i = .int .i64 ((l.length : Int) - 1 - k) ∧ J (back l k) wr ∧ KeepsBox n₀ Bs W wr)
    (fun i _ => (intOf i + 1).toNat)
  case atStart => exact ⟨0, Nat.zero_le _, by simp, h0, Below.refl _ _, fun _ h => h⟩
  case round =>
    obtain ⟨k, hk, rfl, hJs, hnx⟩ := hrel
    have hcb : wr.cell? ⟨Bs, 0, none⟩ = some (.slice A l.length c) := hnx.2 _ hcBs
    by_cases hlt : k < l.length
    · obtain ⟨b, off, rfl, hb, hc⟩ := H.out (by omega)
      have hcx : wr.cell? ⟨b, off + (l.length - 1 - k), none⟩ = some (.int .u8 (l[l.length - 1 - k]?.getD 0)) := (hnx.1.cell (p := ⟨b, off + (l.length - 1 - k), none⟩) hb).trans (hc _ (by omega))
      clear hc
      obtain ⟨fn, tmps, assign, body, hy, hR⟩ := hY _ ((l.length : Int) - 1 - k, l[l.length - 1 - k]?.getD 0) wr hJs (by rw [back_length]; exact hlt)
      dsimp only at hy
      have HS := Lib.hid (back_succ l k)
      gi_wp2
      refine hR.mono ?_
      rintro e W3 (⟨rfl, hJ3, hk3⟩ | ⟨rfl, hJx3⟩)
      · gi_wp2
        go_roundw
        case rel => exact ⟨k + 1, by omega, congrArg (Value.int .i64) (by omega), by rw [HS.out]; exact hJ3, hnx.trans hk3⟩
        case measure => simp [intOf]; omega
      · gi_wp2
        refine bodyPost_ret (results_none rfl _ _ _) rfl ?_
        exact ⟨⟨_, rfl⟩, .inr ⟨_, ⟨k + 1, by omega, HS.out.symm⟩, hJx3⟩⟩
    · obtain rfl : k = l.length := by omega
      gi_wp2
      go_end0
      exact ⟨⟨_, rfl⟩, .inl ⟨_, rfl, hJs⟩⟩

set_option maxHeartbeats 400000 in
/-- slices.Backward: the slice is boxed; the function value has the box -/
theorem backward_in (F : Fence) (n : Nat) (h24 : F.fn 143) (hro : F.round = none) (A : Option Addr) (len cap : Nat) (w : World) :
    CallsIn F n Tryz.prog 143 #[.slice A len cap] w fun e w' => e = .returned (.func (.func 163) #[] #[.pointer (some ⟨w.heap.size, 0, none⟩)]) ∧ w' = w.alloc (.cells #[.slice A len cap] 24) := by
  refine callsIn_of_wp Tryz.func143 rfl h24 ?_ hro
  simp only [Tryz.ntmps143, List.size_toArray, List.length_cons, List.length_nil, Nat.reduceAdd, Nat.reduceSub, Array.replicate_succ, Array.replicate_zero, List.push_toArray, List.append_toArray, List.nil_append, List.cons_append]
  gi_wp2
  go_ret
  exact ⟨rfl, rfl⟩

/-- all of l's bytes come, the last first; or the first few of these -/
theorem backward_stops (F : Fence) (n : Nat) (h27 : F.fn 163) (hro : F.round = none) (hn : 1 ≤ n) (Bs n₀ : Nat) (A : Option Addr) (m c : Nat) (l : List Int) (hm : m = l.length) (hlen : l.length ≤ 9223372036854775807) (w : World) (hBs : Bs < w.heap.size) (hn₀ : n₀ ≤ w.heap.size)
    (hc : w.cell? ⟨Bs, 0, none⟩ = some (.slice A m c))
    (hr : 0 < l.length → ∃ b off, A = some ⟨b, off, none⟩ ∧ b < n₀ ∧ ∀ j, j < l.length → w.cell? ⟨b, off + j, none⟩ = some (.int .u8 (l[j]?.getD 0))) :
    SeqStopsK F n Tryz.prog 163 #[.pointer (some ⟨Bs, 0, none⟩)] (fun x : Int × Int => #[Value.int .i64 x.1, Value.int .u8 x.2]) (KeepsBox n₀ Bs) (fun ys => ys = back l l.length)
      (fun pre => ∃ k, k ≤ l.length ∧ pre = back l k) l.length w := fun lp J Jx W hW _ _ hY h0 => by
  subst hm
  have hW' := hW.mono hn₀
  have hc' := (hW.cell (p := ⟨Bs, 0, none⟩) hBs).trans hc
  refine backward1_in F n h27 hro hn lp Bs n₀ A c l hlen J Jx hY W hc' (fun hp => ?_) h0
  obtain ⟨b, off, e, hb, hcell⟩ := hr hp
  exact ⟨b, off, e, hb, fun j hj => (hW'.cell (p := ⟨b, off + j, none⟩) hb).trans (hcell j hj)⟩

/-- a round of Get, as the walk writes it -/
def gstep (acc x : Int) : Int := bits BinOp.or IntKind.u64 (IntKind.u64.wrap (acc * 256)) (IntKind.u64.wrap x)

/-- what Get's cell holds when so many have come -/
def gfold (pre : List (Int × Int)) : Int := pre.foldl (fun a x => gstep a x.2) 0
theorem gfold_snoc (pre : List (Int × Int)) (x : Int × Int) : gfold (pre ++ [x]) = gstep (gfold pre) x.2 := by simp [gfold]

theorem rows2 {w : World} {A : Option Addr} {l : List Int} {o o' : Obj}
    (hr : 0 < l.length → ∃ b off, A = some ⟨b, off, none⟩ ∧ b < w.heap.size ∧ ∀ j, j < l.length → w.cell? ⟨b, off + j, none⟩ = some (.int .u8 (l[j]?.getD 0))) :
    0 < l.length → ∃ b off, A = some ⟨b, off, none⟩ ∧ b < w.heap.size ∧ ∀ j, j < l.length → ((w.alloc o).alloc o').cell? ⟨b, off + j, none⟩ = some (.int .u8 (l[j]?.getD 0)) := fun hp => by
  obtain ⟨b, off, e, hb, hc⟩ := hr hp
  have hB : Below w.heap.size w ((w.alloc o).alloc o') := ((Below.refl _ w).alloc (Nat.le_refl _) _).alloc (by simp) _
  exact ⟨b, off, e, hb, fun j hj => (hB.cell (p := ⟨b, off + j, none⟩) hb).trans (hc j hj)⟩

set_option maxRecDepth 100000 in
set_option maxHeartbeats 1000000 in
theorem get_core (F : Fence) (n : Nat) (h14 : F.fn 126) (h24 : F.fn 143) (h27 : F.fn 163) (hro : F.round = none) (hn : 3 ≤ n)
    (A : Option Addr) (c len m : Nat) (l : List Int) (w : World) (hm : m = l.length) (hcase : (len ≤ 8 ∧ len = m) ∨ (8 < len ∧ m = 8)) (hlc : len ≤ c) (hcap : c ≤ 9223372036854775807)
    (hr : 0 < l.length → ∃ b off, A = some ⟨b, off, none⟩ ∧ b < w.heap.size ∧ ∀ j, j < l.length → w.cell? ⟨b, off + j, none⟩ = some (.int .u8 (l[j]?.getD 0))) :
    CallsIn F n Tryz.prog 126 #[.slice A len c] w fun e w' => e = .returned (.int .u64 (gfold (back l l.length))) ∧ Below w.heap.size w w' := by
  have H := Lib.hid hr
  clear hr
  have Hm := Lib.hid hm
  have hl8 : l.length ≤ 8 := by omega
  clear hm
  have h1 : 1 ≤ n := by omega
  rcases hcase with ⟨k1, rfl⟩ | ⟨k1, rfl⟩
  · refine callsIn_of_wp_marks Tryz.func126 rfl h14 ?_ hro
    simp only [Tryz.ntmps126, List.size_toArray, List.length_cons, List.length_nil, Nat.reduceAdd, Nat.reduceSub, Array.replicate_succ, Array.replicate_zero, List.push_toArray, List.append_toArray, List.nil_append, List.cons_append]
    gi_wp2_with (gi_at_call 143; refine (backward_in F (n - 1) h24 hro _ _ _ _).mono ?_; rintro e w' ⟨rfl, rfl⟩)
    have bS := Boxed.new w 44 (.int .u64 0)
    have bN := Boxed.new (w.alloc (.cells #[.int .u64 0] 44)) 24 (.slice A len c)
    rw [World.size_alloc] at bN
    have hB0 : Below w.heap.size w ((w.alloc (.cells #[.int .u64 0] 44)).alloc (.cells #[.slice A len c] 24)) := ((Below.refl _ w).alloc (Nat.le_refl _) _).alloc (by simp) _
    refine wpIn_rangeFunc_ownG hro h1 (gf := 163) (lb := #[.pointer (some ⟨w.heap.size + 1, 0, none⟩)]) rfl h27 (enters_of Tryz.func163 (by kernel_rfl) rfl)
      (backward_stops F (n - 1) h27 hro (by omega) (w.heap.size + 1) w.heap.size A len c l Hm.out (by omega) _ (by simp) (by simp; omega) bN.cell (rows2 H.out)) KeepsBox.trans (KeepsBox.put (by simp; omega)) (Below.refl _ _) (fun _ => rfl)
      (fun pre W => (W.cell? ⟨w.heap.size, 0, none⟩ = some (.int .u64 (gfold pre)) ∧ W.frozen? ⟨w.heap.size, 0, none⟩ = false) ∧ Below w.heap.size w W)
      (fun _ _ _ => False)
      (OwnFrom.and (Own.from (fun s A B row hs hg hr => ⟨cell_kept hs.1 hg hr, (frozen_kept hs.1 hg hr).trans hs.2⟩) _) (ownFrom_below (Nat.le_refl _) (by simp; omega)))
      (fun _ _ _ _ _ hs _ _ => hs)
      ⟨⟨(bS.alloc _).cell, (bS.alloc _).frozen⟩, hB0⟩
      (fun x => { tmps := #[.slice A len c, undef, .int .u64 0, .pointer (some ⟨w.heap.size, 0, none⟩), undef, .int .u8 x.2, .slice A len c, .slice A len c, .int .i64 len, .int .i64 len, .slice A len c, .func (.func 163) #[] #[.pointer (some ⟨w.heap.size + 1, 0, none⟩)], .int .i64 x.1, .int .u8 x.2, undef, undef, undef, undef, undef, undef], defers := [] }) ?assign ?body ?done ?stop
    case assign =>
      intro l x W K hK
      gi_wp2
      exact hK
    case body =>
      rintro l pre x W ⟨⟨hc, hf⟩, hB⟩ _
      gi_wp2
      exact ⟨(KeepsOthers.setCell _ _ _).from _, ⟨(Below.refl w.heap.size W).setCell (p := ⟨w.heap.size, 0, none⟩) (Nat.le_refl _) _, fun v hv => by rw [World.cell?_setCell_other _ _ _ _ (by simp)]; exact hv⟩, ⟨by rw [gfold_snoc]; exact World.cell?_setCell_same' _ _ _ (by rw [hc]; rfl), by rw [World.frozen?_setCell]; exact hf⟩, hB.setCell (p := ⟨w.heap.size, 0, none⟩) (Nat.le_refl _) _⟩
    case done =>
      rintro D ys W hD rfl ⟨⟨hc, _⟩, hB⟩ hK
      gi_wp2
      refine ⟨by simp, .inl ⟨_, _, rfl, run_takeDeferred hK, ?_⟩⟩
      exact ⟨_, results_tmp rfl _ _ _, rfl, hB.trans (belowK_b (w := w) (Nat.le_refl _) W D _ _ (by simp at hD; omega) hK rfl rfl)⟩
    case stop =>
      rintro D c pre W _ _ h _
      exact h.elim
  · refine callsIn_of_wp_marks Tryz.func126 rfl h14 ?_ hro
    simp only [Tryz.ntmps126, List.size_toArray, List.length_cons, List.length_nil, Nat.reduceAdd, Nat.reduceSub, Array.replicate_succ, Array.replicate_zero, List.push_toArray, List.append_toArray, List.nil_append, List.cons_append]
    gi_wp2_with (gi_at_call 143; refine (backward_in F (n - 1) h24 hro _ _ _ _).mono ?_; rintro e w' ⟨rfl, rfl⟩)
    have bS := Boxed.new w 44 (.int .u64 0)
    have bN := Boxed.new (w.alloc (.cells #[.int .u64 0] 44)) 24 (.slice A 8 c)
    rw [World.size_alloc] at bN
    have hB0 : Below w.heap.size w ((w.alloc (.cells #[.int .u64 0] 44)).alloc (.cells #[.slice A 8 c] 24)) := ((Below.refl _ w).alloc (Nat.le_refl _) _).alloc (by simp) _
    refine wpIn_rangeFunc_ownG hro h1 (gf := 163) (lb := #[.pointer (some ⟨w.heap.size + 1, 0, none⟩)]) rfl h27 (enters_of Tryz.func163 (by kernel_rfl) rfl)
      (backward_stops F (n - 1) h27 hro (by omega) (w.heap.size + 1) w.heap.size A 8 c l Hm.out (by omega) _ (by simp) (by simp; omega) bN.cell (rows2 H.out)) KeepsBox.trans (KeepsBox.put (by simp; omega)) (Below.refl _ _) (fun _ => rfl)
      (fun pre W => (W.cell? ⟨w.heap.size, 0, none⟩ = some (.int .u64 (gfold pre)) ∧ W.frozen? ⟨w.heap.size, 0, none⟩ = false) ∧ Below w.heap.size w W)
      (fun _ _ _ => False)
      (OwnFrom.and (Own.from (fun s A B row hs hg hr => ⟨cell_kept hs.1 hg hr, (frozen_kept hs.1 hg hr).trans hs.2⟩) _) (ownFrom_below (Nat.le_refl _) (by simp; omega)))
      (fun _ _ _ _ _ hs _ _ => hs)
      ⟨⟨(bS.alloc _).cell, (bS.alloc _).frozen⟩, hB0⟩
      (fun x => { tmps := #[.slice A len c, undef, .int .u64 0, .pointer (some ⟨w.heap.size, 0, none⟩), undef, .int .u8 x.2, .slice A len c, .slice A len c, .int .i64 len, .int .i64 8, .slice A 8 c, .func (.func 163) #[] #[.pointer (some ⟨w.heap.size + 1, 0, none⟩)], .int .i64 x.1, .int .u8 x.2, undef, undef, undef, undef, undef, undef], defers := [] }) ?assign ?body ?done ?stop
    case assign =>
      intro l x W K hK
      gi_wp2
      exact hK
    case body =>
      rintro l pre x W ⟨⟨hc, hf⟩, hB⟩ _
      gi_wp2
      exact ⟨(KeepsOthers.setCell _ _ _).from _, ⟨(Below.refl w.heap.size W).setCell (p := ⟨w.heap.size, 0, none⟩) (Nat.le_refl _) _, fun v hv => by rw [World.cell?_setCell_other _ _ _ _ (by simp)]; exact hv⟩, ⟨by rw [gfold_snoc]; exact World.cell?_setCell_same' _ _ _ (by rw [hc]; rfl), by rw [World.frozen?_setCell]; exact hf⟩, hB.setCell (p := ⟨w.heap.size, 0, none⟩) (Nat.le_refl _) _⟩
    case done =>
      rintro D ys W hD rfl ⟨⟨hc, _⟩, hB⟩ hK
      gi_wp2
      refine ⟨by simp, .inl ⟨_, _, rfl, run_takeDeferred hK, ?_⟩⟩
      exact ⟨_, results_tmp rfl _ _ _, rfl, hB.trans (belowK_b (w := w) (Nat.le_refl _) W D _ _ (by simp at hD; omega) hK rfl rfl)⟩
    case stop =>
      rintro D c pre W _ _ h _
      exact h.elim

/-! ### what it comes to -/
theorem gstep_eq {a x : Int} (h0 : 0 ≤ a) (h1 : a < 72057594037927936) (h2 : 0 ≤ x) (h3 : x ≤ 255) : gstep a x = 256 * a + x := by
  unfold gstep
  rw [IntKind.wrap_u64, IntKind.wrap_u64, Int.emod_eq_of_lt (by omega) (by omega), Int.emod_eq_of_lt (by omega) (by omega), u64_or _ _ (by omega) (by omega) (by omega) (by omega), nat_join8 _ _ (by omega) (by omega)]
  omega
theorem gfold_back {l : List Int} (hl : AllB l) (h8 : l.length ≤ 8) : ∀ k, k ≤ l.length → gfold (back l k) = getV (l.drop (l.length - k)) := by
  intro k
  induction k with
  | zero => intro _; simp [back, gfold, getV]
  | succ k ih =>
    intro hk
    have e : l.length - (k + 1) = l.length - 1 - k := by omega
    have e2 : l.length - 1 - k + 1 = l.length - k := by omega
    rw [back_succ, gfold_snoc, ih (by omega), e, getV_drop (k := l.length - 1 - k) (by omega), e2]
    have hx := hl.at_ (l.length - 1 - k)
    exact gstep_eq (getV_nonneg (hl.drop _)) (getV_lt7 (hl.drop _) (by simp; omega)) hx.1 hx.2

/-- word.Get of a row of bytes -/
theorem get_any (v : Value) (l : List Int) (w : World) (h : Bytes w w.heap.size v l) (hl : AllB l) :
    Calls Tryz.prog 126 #[v] w fun e w' => e = .returned (.int .u64 (getV (l.take 8))) ∧ Below w.heap.size w w' := by
  obtain ⟨A, c, rfl, hc, hm, hr⟩ := h
  have ht : (l.take 8).length = min 8 l.length := List.length_take
  have hfin := gfold_back (hl.take 8) (by omega) (l.take 8).length (Nat.le_refl _)
  rw [Nat.sub_self, List.drop_zero] at hfin
  rw [← hfin]
  refine (callsIn_wide (n := 3)).1 (get_core Fence.wide 3 trivial trivial trivial rfl (Nat.le_refl _) A c l.length (l.take 8).length (l.take 8) w rfl (by omega) hc hm (fun hp => ?_))
  obtain ⟨b, off, e, hb, hcell⟩ := hr (by omega)
  refine ⟨b, off, e, hb, fun j hj => ?_⟩
  rw [List.getElem?_take_of_lt (by omega)]
  exact hcell j (by omega)

end Go.Proofs.YtmmlfnblodfjbaaGreatDoor
