/- Contracts of layer 1's functions on numbers (word.Add, Mul, Ceil, Signed, clip, and the document's own): each returns what the plain function says, and leaves the world as it was. -/
import Derived.Test.YtmmlfnblodfjbaaGreatDoorRows
import Derived.Test.YtmmlfnblodfjbaaGreatDoorQPlain
import Derived.WalkKit
import Derived.WalkSpells
import Derived.WalkLawsBesides
import Derived.Lib.Hide
import Derived.Below
import Derived.OwnWalk
import Derived.Laws.OwnMore
import Derived.Deep.OwnRows
import Derived.Lib.AppendZerosOnto
import Derived.OpenShut
import Derived.Laws.CopyOwn
import Derived.Laws.BytesArg
import Derived.RangeFuncNested
import Derived.RangeFuncBound
import Derived.RangeFuncCalls
import Derived.RangeFuncLeaves
import Derived.RangeFuncBox
import Derived.Shelf.Abstract
import Derived.Shelf.RegionOpen
import Derived.OwnWalkIn
import Derived.TacticsInMore
import Derived.LoopNIn
import Derived.LoopIn
set_option maxRecDepth 100000
namespace Go.Proofs.YtmmlfnblodfjbaaGreatDoor
open Go.RowKit
theorem LH {p : Prop} (h : p) : Go.RowKit.Hid p := h
set_option maxHeartbeats 400000 in
theorem add_any (a b m : Int) (w : World) (ha : -9223372036854775808 ≤ a) (ha' : a ≤ 9223372036854775807) (hb : -9223372036854775808 ≤ b) (hb' : b ≤ 9223372036854775807) (hm : -9223372036854775808 ≤ m) (hm' : m ≤ 9223372036854775807) :
    Calls Tryz.prog 97 #[.int .i64 a, .int .i64 b, .int .i64 m] w fun e w' => e = .returned (.tuple #[.int .i64 (addV a b m), .bool (addB a b m)]) ∧ w = w' := by
  go_enter Tryz.func97, Tryz.ntmps97
  go_wp2
  all_goals (go_ret2; first | (refine ⟨add_yes ?_, rfl⟩; omega) | (refine ⟨add_no ?_, rfl⟩; omega))
set_option maxHeartbeats 400000 in
theorem ceil_any (n d : Int) (w : World) :
    Calls Tryz.prog 121 #[.int .i64 n, .int .i64 d] w fun e w' => e = .returned (.int .i64 (ceilV n d)) ∧ w = w' := by
  by_cases hok : 0 ≤ n ∧ n ≤ 9007199254740992 ∧ 1 ≤ d ∧ d ≤ 9007199254740992
  · obtain ⟨h1, h2, h3, h4⟩ := hok
    obtain ⟨q1, q2, q3, q4, q5, q6, q7⟩ := div_bds h1 h3
    clear q7
    by_cases hr : 0 < n % d
    · go_enter Tryz.func121, Tryz.ntmps121
      go_wp2
      go_ret
      exact ⟨ret_int (ceil_up ⟨h1, h2, h3, h4⟩ hr), rfl⟩
    · go_enter Tryz.func121, Tryz.ntmps121
      go_wp2
      go_ret
      exact ⟨ret_int (ceil_even ⟨h1, h2, h3, h4⟩ (by omega)), rfl⟩
  · have H := LH hok
    have hc : n < 0 ∨ (0 ≤ n ∧ 9007199254740992 < n) ∨ (0 ≤ n ∧ n ≤ 9007199254740992 ∧ d < 1) ∨ (0 ≤ n ∧ n ≤ 9007199254740992 ∧ 1 ≤ d ∧ 9007199254740992 < d) := by omega
    clear hok
    rcases hc with h | ⟨h, h'⟩ | ⟨h, h', h''⟩ | ⟨h, h', h'', h'''⟩
    all_goals
      go_enter Tryz.func121, Tryz.ntmps121
      go_wp2
      go_ret
      exact ⟨ret_int (ceil_no H.out), rfl⟩
set_option maxHeartbeats 400000 in
theorem clip_any (n a b : Int) (w : World) (hab : a ≤ b) :
    Calls Tryz.prog 171 #[.int .i64 n, .int .i64 a, .int .i64 b] w fun e w' => e = .returned (.int .i64 (min (max n a) b)) ∧ w = w' := by
  by_cases h1 : n < a
  · go_enter Tryz.func171, Tryz.ntmps171
    go_wp2
    all_goals (go_ret; refine ⟨ret_int ?_, rfl⟩; omega)
  · by_cases h2 : b < n
    all_goals
      go_enter Tryz.func171, Tryz.ntmps171
      go_wp2
      all_goals (go_ret; refine ⟨ret_int ?_, rfl⟩; omega)
set_option maxHeartbeats 400000 in
theorem signed_any (n k : Int) (w : World) :
    Calls Tryz.prog 179 #[.int .u64 n, .int .i64 k] w fun e w' => e = .returned (.int .i64 (sgnV n (clipK k))) ∧ w = w' := by
  obtain ⟨c1, c2⟩ := clipK_bd k
  have hs := LH (shifted n c1 c2)
  have hcl : min (max k 1) 63 = (clipK k : Int) := by unfold clipK; omega
  have HC := LH hcl
  clear hcl
  generalize clipK k = j at *
  go_enter Tryz.func179, Tryz.ntmps179
  go_wp2_with fail
  refine (clip_any _ _ _ _ (by omega)).mono ?_
  rintro e w' ⟨rfl, rfl⟩
  rw [HC.out]
  go_wp2
  go_ret
  exact ⟨ret_int hs.out, rfl⟩
set_option maxHeartbeats 400000 in
theorem signedr_any (n k : Int) (w : World) (hn : 0 ≤ n) (hn' : n ≤ 18446744073709551615) :
    Calls Tryz.prog 82 #[.int .u64 n, .int .i64 k] w fun e w' => e = .returned (.int .i64 (sgnV n (clipK k))) ∧ w = w' := by
  obtain ⟨c1, c2⟩ := clipK_bd k
  have hJ : (k ≤ 1 ∧ (clipK k : Int) ≤ 1 ∧ 1 ≤ (clipK k : Int)) ∨ (63 < k ∧ (clipK k : Int) ≤ 63 ∧ 63 ≤ (clipK k : Int)) ∨ (1 < k ∧ k ≤ 63 ∧ (clipK k : Int) ≤ k ∧ k ≤ (clipK k : Int)) := by unfold clipK; omega
  generalize clipK k = J at *
  rcases hJ with ⟨k1, j1, j2⟩ | ⟨k1, j1, j2⟩ | ⟨k1, k2, j1, j2⟩
  all_goals
    go_enter Tryz.func82, Tryz.ntmps82
    go_wp2
    go_loop [5, 6] (fun h i => ∃ t : Nat, 1 ≤ t ∧ t ≤ J ∧ i = .int .i64 t ∧ h = .int .i64 (2 ^ (t - 1))) (fun _ i => J - (intOf i).toNat)
    case atStart => exact ⟨1, by omega, by omega, rfl, rfl⟩
    case round =>
      obtain ⟨t, t1, t2, rfl, rfl⟩ := hrel
      have p1 := pow_pos (t - 1)
      have p2 := pow_le62 (k := t - 1) (by omega)
      by_cases hlt : t < J
      · have HE := LH (pow_pred (k := t) t1)
        have p3 := pow_le61 (k := t - 1) (by omega)
        generalize (2 : Int) ^ (t - 1) = p at *
        first
          | (exfalso; omega)
          | (go_wp2
             go_round
             case rel => exact ⟨t + 1, by omega, by omega, by go_num, by rw [Nat.add_sub_cancel, HE.out]⟩
             case measure => simp [intOf]; omega)
      · obtain rfl : t = J := by omega
        have q0 := Int.emod_nonneg n (b := 2 * 2 ^ (t - 1)) (by omega)
        have q1 := Int.emod_lt_of_pos n (b := 2 * 2 ^ (t - 1)) (by omega)
        have HE := LH (pow_pred (k := t) t1)
        have HS : Hid (sgnV n t = if 2 ^ (t - 1) ≤ n % (2 * 2 ^ (t - 1)) then n % (2 * 2 ^ (t - 1)) - 2 ^ (t - 1) - 2 ^ (t - 1) else n % (2 * 2 ^ (t - 1))) := LH (by unfold sgnV; rw [HE.out]; split <;> omega)
        generalize (2 : Int) ^ (t - 1) = p at *
        by_cases hge : p ≤ n % (2 * p)
        · go_wp2
          go_ret
          exact ⟨ret_int (by rw [HS.out, if_pos hge]), rfl⟩
        · go_wp2
          go_ret
          exact ⟨ret_int (by rw [HS.out, if_neg (by omega)]), rfl⟩
def In64 (x : Int) : Prop := -9223372036854775808 ≤ x ∧ x ≤ 9223372036854775807
def NumS (q : IntKind) (w : World) (B : Nat) (v : Value) (l : List Int) : Prop :=
  ∃ A c, v = .slice A l.length c ∧ l.length ≤ c ∧ c ≤ 9223372036854775807 ∧ (0 < l.length → ∃ b off, A = some ⟨b, off, none⟩ ∧ b < B ∧ ∀ j, j < l.length → w.cell? ⟨b, off + j, none⟩ = some (.int q (l[j]?.getD 0)))
theorem NumS.below {q : IntKind} {w w' : World} {B B' : Nat} {v : Value} {l : List Int} (h : NumS q w B v l) (hb : Below B' w w') (hB : B ≤ B') : NumS q w' B v l := by
  obtain ⟨A, c, e, hc, hm, hr⟩ := h
  refine ⟨A, c, e, hc, hm, fun hl => ?_⟩
  obtain ⟨b, off, ea, hlt, hcell⟩ := hr hl
  exact ⟨b, off, ea, hlt, fun j hj => (hb.cell (p := ⟨b, off + j, none⟩) (by show b < B'; omega)).trans (hcell j hj)⟩
theorem NumS.more {q : IntKind} {w : World} {B B' : Nat} {v : Value} {l : List Int} (h : NumS q w B v l) (hB : B ≤ B') : NumS q w B' v l := by
  obtain ⟨A, c, e, hc, hm, hr⟩ := h
  refine ⟨A, c, e, hc, hm, fun hl => ?_⟩
  obtain ⟨b, off, ea, hlt, hcell⟩ := hr hl
  exact ⟨b, off, ea, by omega, hcell⟩
theorem NumS.on {q : IntKind} {a b : World} {v : Value} {l : List Int} (h : NumS q a a.heap.size v l) (k : Below a.heap.size a b) : NumS q b b.heap.size v l := (h.below k (Nat.le_refl _)).more k.size
theorem NumS.form {q : IntKind} {a : World} {B m : Nat} {v : Value} {l : List Int} (h : NumS q a B v l) (hm : l.length = m) : ∃ A c, v = .slice A m c := by
  obtain ⟨A, c, e, _⟩ := h
  exact ⟨A, c, by rw [e, hm]⟩
theorem NumS.nil (q : IntKind) (w : World) (B : Nat) : NumS q w B (.slice none 0 0) [] := ⟨none, 0, rfl, by simp, by omega, fun h => by simp at h⟩
def OwnN (q : IntKind) (t : Nat) (w : World) (base : Nat) (v : Value) (xs : List Int) : Prop := w.ownsRow base t 1 v xs.length (xs.map (Value.int q))
theorem OwnN.numS {q : IntKind} {t : Nat} {w : World} {base : Nat} {v : Value} {l : List Int} (h : OwnN q t w base v l) : NumS q w w.heap.size v l := by
  have h0 := h
  obtain ⟨h1, ⟨rfl, hn⟩ | ⟨g, cap, cur, rfl, hb, hh, hc, hm, hs, ht⟩⟩ := h
  · exact ⟨none, 0, by rw [hn], by omega, by omega, fun hp => by omega⟩
  · refine ⟨_, cap, rfl, hc, by unfold maxLen at hm; omega, fun hp => ⟨g, 0, rfl, (World.ownsRow.lt h0 g rfl).2, fun j hj => ?_⟩⟩
    rw [Nat.zero_add, World.ownsRow.cellAt h0 j (by omega), List.getElem?_map, List.getElem?_eq_getElem hj]
    rfl
def All64 (l : List Int) : Prop := ∀ x ∈ l, In64 x
theorem All64.at_ {l : List Int} (h : All64 l) (j : Nat) : In64 (l[j]?.getD 0) := by
  by_cases hj : j < l.length
  · rw [List.getElem?_eq_getElem hj]; exact h _ (List.getElem_mem hj)
  · rw [List.getElem?_eq_none (by omega)]; exact ⟨by decide, by decide⟩
end Go.Proofs.YtmmlfnblodfjbaaGreatDoor
namespace Go.Proofs.YtmmlfnblodfjbaaGreatDoor
open Go.RowKit Go.Deep
def Bytes (w : World) (B : Nat) (v : Value) (l : List Int) : Prop :=
  ∃ A c, v = .slice A l.length c ∧ l.length ≤ c ∧ c ≤ 9223372036854775807 ∧ (0 < l.length → ∃ b off, A = some ⟨b, off, none⟩ ∧ b < B ∧ ∀ j, j < l.length → w.cell? ⟨b, off + j, none⟩ = some (.int .u8 (l[j]?.getD 0)))
theorem Bytes.below {w w' : World} {B B' : Nat} {v : Value} {l : List Int} (h : Bytes w B v l) (hb : Below B' w w') (hB : B ≤ B') : Bytes w' B v l := by
  obtain ⟨A, c, e, hc, hm, hr⟩ := h
  refine ⟨A, c, e, hc, hm, fun hl => ?_⟩
  obtain ⟨b, off, ea, hlt, hcell⟩ := hr hl
  exact ⟨b, off, ea, hlt, fun j hj => (hb.cell (p := ⟨b, off + j, none⟩) (by show b < B'; omega)).trans (hcell j hj)⟩
theorem Bytes.more {w : World} {B B' : Nat} {v : Value} {l : List Int} (h : Bytes w B v l) (hB : B ≤ B') : Bytes w B' v l := by
  obtain ⟨A, c, e, hc, hm, hr⟩ := h
  refine ⟨A, c, e, hc, hm, fun hl => ?_⟩
  obtain ⟨b, off, ea, hlt, hcell⟩ := hr hl
  exact ⟨b, off, ea, by omega, hcell⟩
def clip8 (k : Int) : Nat := (min (max k 0) 8).toNat
theorem clip8_bd (k : Int) : clip8 k ≤ 8 := by unfold clip8; omega
def byteAt (n : Int) (i : Nat) : Int := n / 2 ^ (8 * i) % 256
def putL (n : Int) (k : Nat) : List Int := (List.range k).map (byteAt n)
theorem putL_length (n : Int) (k : Nat) : (putL n k).length = k := by simp [putL]
theorem putL_get (n : Int) {k j : Nat} (h : j < k) : (putL n k)[j]?.getD 0 = byteAt n j := by simp [putL, h]
theorem Tryz.info5 : (Tryz.prog.info? 5).map (fun i => (i.zero, i.size, i.bytes)) = some (some (.int .u8 0), 1, 1) := by kernel_rfl
theorem put_step (n : Int) (t : Nat) (i : Nat) : (if i = t then Value.int .u8 (n / 2 ^ (8 * t) % 256) else Value.int .u8 (if i < t then byteAt n i else 0)) = Value.int .u8 (if i < t + 1 then byteAt n i else 0) := by
  by_cases h : i = t
  · subst h; simp [byteAt]
  · rw [if_neg h]
    by_cases h2 : i < t
    · rw [if_pos h2, if_pos (by omega)]
    · rw [if_neg h2, if_neg (by omega)]
set_option maxHeartbeats 400000 in
theorem put_row (n k : Int) (w : World) :
    Calls Tryz.prog 161 #[.int .u64 n, .int .i64 k] w fun e w' => e = .returned (.slice (some ⟨w.heap.size, 0, none⟩) (clip8 k) (clip8 k)) ∧ w'.rowIs w.heap.size 5 (clip8 k) (fun i => .int .u8 (byteAt n i)) ∧ Below w.heap.size w w' := by
  have c2 := clip8_bd k
  have hcl : min (max k 0) 8 = (clip8 k : Int) := by unfold clip8; omega
  have HC := LH hcl
  clear hcl
  generalize clip8 k = j at *
  have hmk := run_make_row' (P := Tryz.prog) 24 5 (.int .u8 0) 1 Tryz.underlying24 Tryz.info5 rfl .i64 .i64 j (by omega) (by omega)
  go_enter Tryz.func161, Tryz.ntmps161
  go_wp2_with fail
  refine (clip_any _ _ _ _ (by omega)).mono ?_
  rintro e w' ⟨rfl, rfl⟩
  rw [HC.out]
  go_wp2
  go_loopw [12] (fun c wr => ∃ t : Nat, t ≤ j ∧ c = .int .i64 t ∧ wr.rowIs w.heap.size 5 j (fun i => .int .u8 (if i < t then byteAt n i else 0)) ∧ Below w.heap.size w wr) (fun c _ => j - (intOf c).toNat)
  case atStart => exact ⟨0, by omega, rfl, (World.rowIs_made w (.int .u8 0) j 5).congr (fun i hi => by simp), (Below.refl _ _).alloc (Nat.le_refl _) _⟩
  case round =>
    obtain ⟨t, ht, rfl, hrow, hB⟩ := hrel
    by_cases hlt : t < j
    · have hc := hrow.cell hlt
      have hf := hrow.frozen t
      go_wp2
      go_roundw
      case rel => exact ⟨t + 1, by omega, by go_num, (hrow.set t _).congr (fun i _ => put_step n t i), hB.setCell (p := ⟨w.heap.size, t, none⟩) (Nat.le_refl _) _⟩
      case measure => simp [intOf]; omega
    · obtain rfl : t = j := by omega
      go_wp2
      go_ret
      exact ⟨rfl, hrow.congr (fun i hi => by simp [hi]), hB⟩
theorem put_any (n k : Int) (w : World) :
    Calls Tryz.prog 161 #[.int .u64 n, .int .i64 k] w fun e w' => ∃ v, e = .returned v ∧ Bytes w' w'.heap.size v (putL n (clip8 k)) ∧ Below w.heap.size w w' := by
  refine (put_row n k w).mono ?_
  rintro e w' ⟨rfl, hrow, hB⟩
  have := clip8_bd k
  refine ⟨_, rfl, ⟨_, _, by rw [putL_length], by rw [putL_length]; omega, by omega, fun _ => ⟨_, _, rfl, hrow.lt, fun j hj => ?_⟩⟩, hB⟩
  rw [putL_length] at hj
  rw [putL_get n hj, Nat.zero_add]
  exact hrow.cell hj
set_option maxHeartbeats 400000 in
theorem getr_core (A : Option Addr) (c : Nat) (l : List Int) (m : Nat) (w : World) (hm8 : m ≤ 8) (hml : m ≤ l.length) (hcase : (l.length ≤ 8 ∧ l.length ≤ m) ∨ (8 < l.length ∧ 8 ≤ m)) (hcap : l.length ≤ 9223372036854775807) (hl : AllB l)
    (hr : 0 < l.length → ∃ b off, A = some ⟨b, off, none⟩ ∧ ∀ j, j < l.length → w.cell? ⟨b, off + j, none⟩ = some (.int .u8 (l[j]?.getD 0))) :
    Calls Tryz.prog 84 #[.slice A l.length c] w fun e w' => e = .returned (.int .u64 (getV (l.take m))) ∧ w = w' := by
  have H := LH hr
  clear hr
  rcases hcase with ⟨k1, k2⟩ | ⟨k1, k2⟩
  all_goals
    go_enter Tryz.func84, Tryz.ntmps84
    go_wp2
    go_loop [3, 4] (fun n i => ∃ k : Nat, k ≤ m ∧ i = .int .i64 ((k : Int) - 1) ∧ n = .int .u64 (getV ((l.take m).drop k))) (fun _ i => (intOf i + 1).toNat)
    case atStart => exact ⟨m, Nat.le_refl _, congrArg (Value.int .i64) (by omega), by simp [getV]⟩
    case round =>
      obtain ⟨k, hk, rfl, rfl⟩ := hrel
      by_cases h0 : k = 0
      · subst h0
        go_wp2
        go_ret
        exact ⟨rfl, rfl⟩
      · obtain ⟨k, rfl⟩ : ∃ j, k = j + 1 := ⟨k - 1, by omega⟩
        obtain ⟨b, off, rfl, hc⟩ := H.out (by omega)
        have hcell := hc k (by omega)
        clear hc
        have hx := hl.at_ k
        have g0 := getV_nonneg ((hl.take m).drop (k + 1))
        have g1 := getV_lt7 ((hl.take m).drop (k + 1)) (by simp; omega)
        have HS := LH (getV_drop (l := l.take m) (k := k) (by simp; omega))
        have he : (l.take m)[k]?.getD 0 = l[k]?.getD 0 := by rw [List.getElem?_take_of_lt (by omega)]
        have HE := LH he
        clear he
        generalize getV ((l.take m).drop (k + 1)) = g at *
        generalize l[k]?.getD 0 = x at *
        go_wp2
        go_round
        case rel => exact ⟨k, by omega, congrArg (Value.int .i64) (by omega), congrArg (Value.int .u64) (by rw [HS.out, HE.out])⟩
        case measure => simp [intOf]
theorem getr_any (v : Value) (l : List Int) (B : Nat) (w : World) (h : Bytes w B v l) (hl : AllB l) :
    Calls Tryz.prog 84 #[v] w fun e w' => e = .returned (.int .u64 (getV (l.take 8))) ∧ w = w' := by
  obtain ⟨A, c, rfl, hc, hm, hr⟩ := h
  have hr' : 0 < l.length → ∃ b off, A = some ⟨b, off, none⟩ ∧ ∀ j, j < l.length → w.cell? ⟨b, off + j, none⟩ = some (.int .u8 (l[j]?.getD 0)) := fun hp => by
    obtain ⟨b, off, e, _, hcell⟩ := hr hp
    exact ⟨b, off, e, hcell⟩
  by_cases h8 : l.length ≤ 8
  · rw [List.take_of_length_le h8]
    have := getr_core A c l l.length w h8 (Nat.le_refl _) (.inl ⟨h8, Nat.le_refl _⟩) (by omega) hl hr'
    rwa [List.take_length] at this
  · exact getr_core A c l 8 w (Nat.le_refl _) (by omega) (.inr ⟨by omega, Nat.le_refl _⟩) (by omega) hl hr'
end Go.Proofs.YtmmlfnblodfjbaaGreatDoor
namespace Go.Proofs.YtmmlfnblodfjbaaGreatDoor
open Go.RowKit
theorem bseq {a b c : World} (h : Below a.heap.size a b) (k : Below b.heap.size b c) : Below a.heap.size a c := h.trans (k.mono h.size)
theorem Bytes.on {a b : World} {v : Value} {l : List Int} (h : Bytes a a.heap.size v l) (k : Below a.heap.size a b) : Bytes b b.heap.size v l := (h.below k (Nat.le_refl _)).more k.size
theorem Bytes.form {a : World} {B m : Nat} {v : Value} {l : List Int} (h : Bytes a B v l) (hm : l.length = m) : ∃ A c, v = .slice A m c := by
  obtain ⟨A, c, e, _⟩ := h
  exact ⟨A, c, by rw [e, hm]⟩
end Go.Proofs.YtmmlfnblodfjbaaGreatDoor
namespace Go.Proofs.YtmmlfnblodfjbaaGreatDoor
open Go.RowKit Go.Deep
theorem Bytes.cut {w : World} {B len cap m : Nat} {A : Option Addr} {l : List Int} (h : Bytes w B (.slice A len cap) l) (hlen : l.length = len) (hm : m ≤ len) : Bytes w B (.slice A m cap) (l.take m) := by
  obtain ⟨A', c, e, h1, h2, hr⟩ := h
  injection e with e1 e2 e3
  subst e1 e3
  have hl : (l.take m).length = m := by rw [List.length_take]; omega
  refine ⟨A, cap, by rw [hl], by omega, h2, fun hp => ?_⟩
  obtain ⟨b, off, e, hb, hc⟩ := hr (by omega)
  refine ⟨b, off, e, hb, fun j hj => ?_⟩
  rw [List.getElem?_take_of_lt (by omega)]
  exact hc j (by omega)
theorem own_base {w : World} {base base' e n : Nat} {v : Value} {xs : List Value} (h : w.ownsRow base e 1 v n xs) (hb : base' ≤ base) : w.ownsRow base' e 1 v n xs := by
  obtain ⟨h1, h2 | ⟨g, c, cur, e, hg, r⟩⟩ := h
  · exact ⟨h1, .inl h2⟩
  · exact ⟨h1, .inr ⟨g, c, cur, e, by omega, r⟩⟩
theorem own_on {w w' : World} {base e n : Nat} {v : Value} {xs : List Value} (h : w.ownsRow base e 1 v n xs) (hB : Below w.heap.size w w') : w'.ownsRow base e 1 v n xs := by
  obtain ⟨h1, h2 | ⟨g, c, cur, e, hg, hh, r⟩⟩ := h
  · exact ⟨h1, .inl h2⟩
  · refine ⟨h1, .inr ⟨g, c, cur, e, hg, ?_, r⟩⟩
    rw [hB.block g ?_]
    · exact hh
    · rcases Nat.lt_or_ge g w.heap.size with hlt | hge
      · exact hlt
      · rw [Array.getElem?_eq_none hge] at hh; cases hh
end Go.Proofs.YtmmlfnblodfjbaaGreatDoor
namespace Go.Proofs.YtmmlfnblodfjbaaGreatDoor
open Go.RowKit
theorem cell_lt {w : World} {p : Addr} {v : Value} (h : w.cell? p = some v) : p.block < w.heap.size := by
  rcases Nat.lt_or_ge p.block w.heap.size with hlt | hge
  · exact hlt
  · have : w.heap[p.block]? = none := Array.getElem?_eq_none hge
    simp [World.cell?, this] at h
theorem row_bytes {w : World} {a : Option Addr} {len cap : Nat} {zs : List Int}
    (h : (a = none ∧ len = 0 ∧ cap = 0 ∧ zs = []) ∨ ∃ x, a = some x ∧ len ≤ cap ∧ cap ≤ maxLen ∧ zs.length = cap ∧ (∀ i, i < zs.length → w.cell? (x.add i) = some (.int .u8 (zs.getD i 0))) ∧ ∀ n ∈ zs, (Lit.int .u8 n).wf = true) :
    ∃ l : List Int, l.length = len ∧ AllB l ∧ Bytes w w.heap.size (.slice a len cap) l := by
  rcases h with ⟨rfl, rfl, rfl, rfl⟩ | ⟨x, rfl, hl, hm, hz, hcell, hwf⟩
  · exact ⟨[], rfl, fun _ h => by simp at h, ⟨none, 0, rfl, by simp, by omega, fun h => by simp at h⟩⟩
  · have hlen : (zs.take len).length = len := by rw [List.length_take]; omega
    refine ⟨zs.take len, hlen, fun y hy => bounds_u8 (hwf y (List.mem_of_mem_take hy)), ⟨some x, cap, by rw [hlen], by omega, by unfold maxLen at hm; omega, fun hp => ?_⟩⟩
    obtain ⟨b, off, spot⟩ := x
    have h0 := hcell 0 (by omega)
    have hs : spot = none := by simpa [Addr.add] using World.cell?_spot h0
    subst hs
    have hb := cell_lt h0
    refine ⟨b, off, rfl, by simpa [Addr.add] using hb, fun j hj => ?_⟩
    have hj' := hcell j (by omega)
    rw [List.getElem?_take_of_lt (by omega)]
    rw [← List.getD_eq_getElem?_getD]
    by_cases hj0 : j = 0
    · subst hj0; simpa [Addr.add] using hj'
    · simpa [Addr.add, hj0] using hj'
abbrev Sp := Int × Int
def places (l : List Sp) (x : Int) : Prop := ∃ s ∈ l, s.1 ≤ x ∧ x < s.2
def RightL (l : List Sp) : Prop := (∀ s ∈ l, s.1 < s.2) ∧ l.Pairwise (fun a b => a.2 < b.1)
theorem places_nil (x : Int) : ¬ places [] x := fun ⟨s, h, _⟩ => by simp at h
theorem places_cons {s : Sp} {l : List Sp} {x : Int} : places (s :: l) x ↔ (s.1 ≤ x ∧ x < s.2) ∨ places l x := by
  unfold places
  constructor
  · rintro ⟨t, ht, h⟩
    rcases List.mem_cons.1 ht with rfl | ht
    · exact .inl h
    · exact .inr ⟨t, ht, h⟩
  · rintro (h | ⟨t, ht, h⟩)
    · exact ⟨s, List.mem_cons_self, h⟩
    · exact ⟨t, List.mem_cons_of_mem _ ht, h⟩
theorem places_append {l m : List Sp} {x : Int} : places (l ++ m) x ↔ places l x ∨ places m x := by
  induction l with
  | nil => simp [places_nil]
  | cons s l ih => rw [List.cons_append, places_cons, ih, places_cons]; exact or_assoc.symm
theorem RightL.nil : RightL [] := ⟨fun s h => by simp at h, List.Pairwise.nil⟩
theorem RightL.tail {s : Sp} {l : List Sp} (h : RightL (s :: l)) : RightL l := ⟨fun t ht => h.1 t (List.mem_cons_of_mem _ ht), (List.pairwise_cons.1 h.2).2⟩
theorem RightL.head {s : Sp} {l : List Sp} (h : RightL (s :: l)) : s.1 < s.2 := h.1 s List.mem_cons_self
theorem RightL.above {s : Sp} {l : List Sp} (h : RightL (s :: l)) {t : Sp} (ht : t ∈ l) : s.2 < t.1 := (List.pairwise_cons.1 h.2).1 t ht
theorem RightL.cons {s : Sp} {l : List Sp} (h : RightL l) (hs : s.1 < s.2) (ha : ∀ t ∈ l, s.2 < t.1) : RightL (s :: l) :=
  ⟨fun t ht => (List.mem_cons.1 ht).elim (fun e => by rw [e]; exact hs) (h.1 t), List.pairwise_cons.2 ⟨ha, h.2⟩⟩
theorem RightL.append {l m : List Sp} (hl : RightL l) (hm : RightL m) (h : ∀ s ∈ l, ∀ t ∈ m, s.2 < t.1) : RightL (l ++ m) :=
  ⟨fun s hs => (List.mem_append.1 hs).elim (hl.1 s) (hm.1 s), List.pairwise_append.2 ⟨hl.2, hm.2, h⟩⟩
theorem RightL.left {l m : List Sp} (h : RightL (l ++ m)) : RightL l := ⟨fun s hs => h.1 s (List.mem_append_left _ hs), (List.pairwise_append.1 h.2).1⟩
theorem RightL.right {l m : List Sp} (h : RightL (l ++ m)) : RightL m := ⟨fun s hs => h.1 s (List.mem_append_right _ hs), (List.pairwise_append.1 h.2).2.1⟩
theorem RightL.past {s : Sp} {l : List Sp} (h : RightL (s :: l)) {x : Int} (hp : places l x) : s.2 < x := by
  obtain ⟨t, ht, h1, _⟩ := hp
  have := h.above ht
  omega
theorem right_uniq {a b : List Sp} (ha : RightL a) (hb : RightL b) (h : ∀ x, places a x ↔ places b x) : a = b := by
  induction a generalizing b with
  | nil =>
    cases b with
    | nil => rfl
    | cons t b =>
      exfalso
      have ht := hb.head
      exact places_nil t.1 ((h t.1).2 (places_cons.2 (.inl ⟨by omega, ht⟩)))
  | cons s a ih =>
    cases b with
    | nil =>
      exfalso
      have hs := ha.head
      exact places_nil s.1 ((h s.1).1 (places_cons.2 (.inl ⟨by omega, hs⟩)))
    | cons t b =>
      have hs := ha.head
      have ht := hb.head
      -- the first place
      have e1 : s.1 = t.1 := by
        have h1 := (h s.1).1 (places_cons.2 (.inl ⟨by omega, hs⟩))
        have h2 := (h t.1).2 (places_cons.2 (.inl ⟨by omega, ht⟩))
        rcases places_cons.1 h1 with h1 | h1
        · rcases places_cons.1 h2 with h2 | h2
          · omega
          · have := ha.past h2; omega
        · have := hb.past h1
          rcases places_cons.1 h2 with h2 | h2
          · omega
          · have := ha.past h2; omega
      -- the first place that is none
      have e2 : s.2 = t.2 := by
        rcases Int.lt_trichotomy s.2 t.2 with h3 | h3 | h3
        · exfalso
          have h4 := (h s.2).2 (places_cons.2 (.inl ⟨by omega, h3⟩))
          rcases places_cons.1 h4 with h4 | h4
          · omega
          · have := ha.past h4; omega
        · exact h3
        · exfalso
          have h4 := (h t.2).1 (places_cons.2 (.inl ⟨by omega, h3⟩))
          rcases places_cons.1 h4 with h4 | h4
          · omega
          · have := hb.past h4; omega
      have e : s = t := Prod.ext e1 e2
      subst e
      congr 1
      refine ih ha.tail hb.tail (fun x => ?_)
      have hx := h x
      rw [places_cons, places_cons] at hx
      constructor
      · intro hp
        have := ha.past hp
        rcases hx.1 (.inr hp) with h5 | h5
        · omega
        · exact h5
      · intro hp
        have := hb.past hp
        rcases hx.2 (.inr hp) with h5 | h5
        · omega
        · exact h5
def addGo : List Sp → Sp → List Sp
  | [], s => [s]
  | t :: l, s => if t.2 < s.1 then t :: addGo l s else if s.2 < t.1 then s :: t :: l else addGo l (min s.1 t.1, max s.2 t.2)
def addL (l : List Sp) (s : Sp) : List Sp := if s.2 ≤ s.1 then l else addGo l s
theorem addGo_above {l : List Sp} {s : Sp} {y : Int} (hs : y < s.1) (hl : ∀ t ∈ l, y < t.1) : ∀ t ∈ addGo l s, y < t.1 := by
  induction l generalizing s with
  | nil => intro t ht; rw [addGo, List.mem_singleton] at ht; rw [ht]; exact hs
  | cons u l ih =>
    intro t ht
    rw [addGo] at ht
    have hu := hl u List.mem_cons_self
    split at ht
    · rcases List.mem_cons.1 ht with rfl | ht
      · exact hu
      · exact ih hs (fun t ht => hl t (List.mem_cons_of_mem _ ht)) t ht
    · split at ht
      · rcases List.mem_cons.1 ht with rfl | ht
        · exact hs
        · exact hl t ht
      · exact ih (s := (min s.1 u.1, max s.2 u.2)) (by simp only; omega) (fun t ht => hl t (List.mem_cons_of_mem _ ht)) t ht
theorem addGo_right {l : List Sp} {s : Sp} (h : RightL l) (hs : s.1 < s.2) : RightL (addGo l s) ∧ ∀ x, places (addGo l s) x ↔ places l x ∨ (s.1 ≤ x ∧ x < s.2) := by
  induction l generalizing s with
  | nil =>
    rw [addGo]
    exact ⟨RightL.nil.cons hs (fun t ht => by simp at ht), fun x => by rw [places_cons]; constructor <;> rintro (h | h) <;> first | exact .inr h | exact .inl h⟩
  | cons t l ih =>
    rw [addGo]
    have ht := h.head
    split
    · rename_i h1
      obtain ⟨i1, i2⟩ := ih h.tail hs
      refine ⟨i1.cons ht (fun u hu => addGo_above h1 (fun v hv => h.above hv) u hu), fun x => ?_⟩
      rw [places_cons, i2, places_cons]
      exact or_assoc.symm
    · rename_i h1
      split
      · rename_i h2
        refine ⟨h.cons hs (fun u hu => ?_), fun x => ?_⟩
        · rcases List.mem_cons.1 hu with rfl | hu
          · exact h2
          · have := h.above hu; omega
        · rw [places_cons]
          exact or_comm
      · rename_i h2
        obtain ⟨i1, i2⟩ := ih (s := (min s.1 t.1, max s.2 t.2)) h.tail (by simp only; omega)
        refine ⟨i1, fun x => ?_⟩
        rw [i2, places_cons]
        simp only
        constructor
        · rintro (h3 | h3)
          · exact .inl (.inr h3)
          · by_cases h4 : t.1 ≤ x ∧ x < t.2
            · exact .inl (.inl h4)
            · exact .inr (by omega)
        · rintro ((h3 | h3) | h3)
          · exact .inr (by omega)
          · exact .inl h3
          · exact .inr (by omega)
theorem addL_right {l : List Sp} {s : Sp} (h : RightL l) : RightL (addL l s) ∧ ∀ x, places (addL l s) x ↔ places l x ∨ (s.1 ≤ x ∧ x < s.2) := by
  unfold addL
  split
  · exact ⟨h, fun x => ⟨.inl, fun h2 => h2.elim id (fun h3 => by omega)⟩⟩
  · exact addGo_right h (by omega)
def normL (l : List Sp) : List Sp := l.foldl addL []
theorem fold_right {m : List Sp} (hm : RightL m) (l : List Sp) : RightL (l.foldl addL m) ∧ ∀ x, places (l.foldl addL m) x ↔ places m x ∨ places l x := by
  induction l generalizing m with
  | nil => exact ⟨hm, fun x => ⟨.inl, fun h => h.elim id (fun h => (places_nil x h).elim)⟩⟩
  | cons s l ih =>
    obtain ⟨a1, a2⟩ := addL_right (s := s) hm
    obtain ⟨i1, i2⟩ := ih a1
    refine ⟨i1, fun x => ?_⟩
    rw [List.foldl_cons, i2, a2, places_cons]
    exact or_assoc
theorem norm_right (l : List Sp) : RightL (normL l) := (fold_right RightL.nil l).1
theorem norm_places (l : List Sp) (x : Int) : places (normL l) x ↔ places l x := by
  rw [show normL l = l.foldl addL [] from rfl, (fold_right RightL.nil l).2]
  exact ⟨fun h => h.elim (fun h => (places_nil x h).elim) id, .inr⟩
theorem norm_eq {l m : List Sp} (hm : RightL m) (h : ∀ x, places m x ↔ places l x) : m = normL l :=
  right_uniq hm (norm_right l) (fun x => by rw [norm_places]; exact h x)
theorem norm_same {l m : List Sp} (h : ∀ x, places l x ↔ places m x) : normL l = normL m :=
  norm_eq (norm_right l) (fun x => by rw [norm_places]; exact h x)
end Go.Proofs.YtmmlfnblodfjbaaGreatDoor
namespace Go.Proofs.YtmmlfnblodfjbaaGreatDoor
open Go.RowKit Go.Deep
def RowB (w : World) (g : Nat) (l : List Int) : Prop := w.heap[g]? = some (.cells (l.map (Value.int .u8)).toArray 5 (0, 0))
theorem RowB.lt {w : World} {g : Nat} {l : List Int} (h : RowB w g l) : g < w.heap.size := (Array.getElem?_eq_some_iff.1 h).1
theorem RowB.cell {w : World} {g : Nat} {l : List Int} (h : RowB w g l) {j : Nat} (hj : j < l.length) : w.cell? ⟨g, j, none⟩ = some (.int .u8 (l[j]?.getD 0)) := by
  unfold RowB at h
  simp [World.cell?, h, hj]
theorem RowB.of_block {w w' : World} {g : Nat} {l : List Int} (h : RowB w g l) (e : w'.heap[g]? = w.heap[g]?) : RowB w' g l := e.trans h
theorem RowB.below {w w' : World} {g B : Nat} {l : List Int} (h : RowB w g l) (hb : Below B w w') (hg : g < B) : RowB w' g l := h.of_block (hb.block g hg)
theorem RowB.made (w : World) (n : Nat) : RowB (w.alloc (.cells (madeCells #[Value.int .u8 0] n) 5)) w.heap.size (List.replicate n 0) := by
  unfold RowB
  rw [blk_alloc_new]
  congr 2
  apply Array.ext'
  rw [toList_madeCells_one, List.map_replicate]
theorem below_drewN {B : Nat} {a b : World} (h : Below B a b) (n : Nat) : Below B a (b.drewN n) := h.trans ⟨rfl, rfl, rfl, Nat.le_refl _, fun _ _ => rfl⟩
theorem grown_set (w : World) (g i : Nat) (v : Value) : w.grownBy (w.setCell ⟨g, i, none⟩ v) (some g) :=
  ⟨rfl, rfl, rfl, by rw [nblk_setCell]; exact Nat.le_refl _, fun k _ hne => blk_setCell_other _ _ _ _ (fun e => hne (by rw [e]))⟩
theorem grown_drew (w : World) (row : Option Nat) : w.grownBy w.drew row := ⟨rfl, rfl, rfl, Nat.le_refl _, fun _ _ _ => rfl⟩
theorem grown_trans {a b c : World} {row : Option Nat} (h : a.grownBy b row) (k : b.grownBy c row) : a.grownBy c row :=
  ⟨k.os.trans h.os, k.tape.trans h.tape, k.output.trans h.output, Nat.le_trans h.size k.size, fun j hj hne => (k.block j (Nat.lt_of_lt_of_le hj h.size) hne).trans (h.block j hj hne)⟩
theorem nil_bytes (w : World) (B : Nat) : Bytes w B (.slice none 0 0) [] := ⟨none, 0, rfl, by simp, by omega, fun h => by simp at h⟩
theorem Bytes.source {w : World} {B n : Nat} {A : Option Addr} {c : Nat} {l : List Int} (h : Bytes w B (.slice A n c) l) (g m : Nat) (hm : n ≤ m) :
    (l.map (Value.int .u8)).length = Nat.min n m ∧ (0 < (l.map (Value.int .u8)).length → (some (⟨g, 0, none⟩ : Addr)) = some ⟨g, 0, none⟩ ∧ ∃ ad, A = some ad ∧ ∀ j v, (l.map (Value.int .u8))[j]? = some v → w.cell? (ad.add j) = some v) := by
  obtain ⟨A', c', e, h1, h2, hr⟩ := h
  injection e with e1 e2 e3
  subst e1 e2
  refine ⟨by rw [List.length_map]; exact (Nat.min_eq_left hm).symm, fun hp => ⟨rfl, ?_⟩⟩
  rw [List.length_map] at hp
  obtain ⟨b, off, rfl, _, hc⟩ := hr hp
  refine ⟨_, rfl, fun j v hv => ?_⟩
  rw [List.getElem?_map, Option.map_eq_some_iff] at hv
  obtain ⟨x, hx, rfl⟩ := hv
  have hj : j < l.length := (List.getElem?_eq_some_iff.1 hx).1
  have := hc j hj
  rw [hx, Option.getD_some] at this
  rw [Addr.add_lit]
  exact this
theorem ones_cells (l : List Int) : ∀ v ∈ l.map (Value.int .u8), v.oneCell' = true := fun v hv => by obtain ⟨x, _, rfl⟩ := List.mem_map.1 hv; rfl
theorem bytes_conv {w : World} {B : Nat} {v : Value} {l : List Int} (h : Bytes w B v l) : (convert 24 9 v).run Tryz.prog w = .ok (.string (strOfNums l)) w := by
  obtain ⟨A, c, rfl, _, _, hr⟩ := h
  rcases l with _ | ⟨x, l⟩
  · rcases A with _ | a
    · exact run_convert_bytes_nil w 24 5 Tryz.underlying24 Tryz.underlying5 _ _ 9 Tryz.underlying9
    · rw [run_convert_bytes_string w 24 9 5 (some a) _ c Tryz.underlying24 Tryz.underlying5 Tryz.underlying9]
      exact run_bytesToString w a 0 c [] (run_loadCells_list w a [] (fun j v h => by simp at h))
  · obtain ⟨b, off, rfl, _, hc⟩ := hr (by simp)
    refine run_convert_bytes_arg w 24 5 Tryz.underlying24 Tryz.underlying5 b off _ c (x :: l) rfl (fun i hi => ?_) 9 Tryz.underlying9
    rw [List.getD_eq_getElem?_getD]
    exact hc i hi
theorem str_inj {l m : List Int} (hl : AllB l) (hm : AllB m) (h : strOfNums l = strOfNums m) : l = m := by
  have h2 : l.map (fun n => UInt8.ofNat n.toNat) = m.map (fun n => UInt8.ofNat n.toNat) := by rw [← strOfNums_data, ← strOfNums_data, h]
  have hlen : l.length = m.length := by simpa using congrArg List.length h2
  apply List.ext_getElem hlen
  intro i h3 h4
  have h5 := congrArg (fun x => x[i]?) h2
  simp only [List.getElem?_map, List.getElem?_eq_getElem h3, List.getElem?_eq_getElem h4, Option.map_some, Option.some.injEq] at h5
  have h6 := congrArg UInt8.toNat h5
  have b1 := hl l[i] (List.getElem_mem h3)
  have b2 := hm m[i] (List.getElem_mem h4)
  simp only [UInt8.toNat_ofNat'] at h6
  omega
theorem str_eq {l m : List Int} {q : Bool} (hl : AllB l) (hm : AllB m) (h : q = true ↔ l = m) : ((strOfNums l).toList == (strOfNums m).toList) = q := by
  rw [Bool.eq_iff_iff, beq_iff_eq, h]
  refine ⟨fun e => str_inj hl hm ?_, fun e => by rw [e]⟩
  rw [ByteArray.toList_eq, ByteArray.toList_eq] at e
  exact congrArg (fun x => (⟨x.toArray⟩ : ByteArray)) e
end Go.Proofs.YtmmlfnblodfjbaaGreatDoor
namespace Go.Proofs.YtmmlfnblodfjbaaGreatDoor
open Go.RowKit Go.Shelf
attribute [local go_sem] Oper.semAt_some
def back (l : List Int) (k : Nat) : List (Int × Int) := (List.range k).map (fun (j : Nat) => ((l.length : Int) - 1 - j, l[l.length - 1 - j]?.getD 0))
theorem back_succ (l : List Int) (k : Nat) : back l (k + 1) = back l k ++ [((l.length : Int) - 1 - k, l[l.length - 1 - k]?.getD 0)] := by simp [back, List.range_succ]
theorem back_length (l : List Int) (k : Nat) : (back l k).length = k := by simp [back]
def KeepsBox (n₀ Bs : Nat) (W W' : World) : Prop := Below n₀ W W' ∧ ∀ v, W.cell? ⟨Bs, 0, none⟩ = some v → W'.cell? ⟨Bs, 0, none⟩ = some v
theorem KeepsBox.trans {n₀ Bs : Nat} {A B C : World} (h : KeepsBox n₀ Bs A B) (k : KeepsBox n₀ Bs B C) : KeepsBox n₀ Bs A C := ⟨h.1.trans k.1, fun v hv => k.2 v (h.2 v hv)⟩
theorem KeepsBox.put {n₀ Bs : Nat} {w : World} (hn : n₀ ≤ w.heap.size) (W : World) (l : Nat) (o o' : Obj) (hl : w.heap.size ≤ l) (ho : W.heap[l]? = some o) (h1 : o.isCells = false) (h2 : o.isWalk = false) : KeepsBox n₀ Bs W (W.putObj l o') :=
  ⟨belowK_b hn W l o o' hl ho h1 h2, fun _ hv => cell_kept hv (grownBy_putObj' _ l o') (fun r e => by cases e; exact ⟨_, ho, h1⟩)⟩
set_option maxHeartbeats 1000000 in
theorem backward1_in (F : Fence) (n : Nat) (h27 : F.fn 163) (hro : F.round = none) (hn : 1 ≤ n) (loop Bs n₀ : Nat) (A : Option Addr) (c : Nat) (l : List Int) (hlen : l.length ≤ 9223372036854775807)
    (J Jx : List (Int × Int) → World → Prop)
    (hY : ∀ pre x W, J pre W → pre.length < l.length → YieldAt F (n - 1) Tryz.prog loop #[.int .i64 x.1, .int .u8 x.2] W fun e W' =>
      (e = .returned (.bool true) ∧ J (pre ++ [x]) W' ∧ KeepsBox n₀ Bs W W') ∨ (e = .returned (.bool false) ∧ Jx (pre ++ [x]) W'))
    (W : World) (hcBs : W.cell? ⟨Bs, 0, none⟩ = some (.slice A l.length c))
    (hr : 0 < l.length → ∃ b off, A = some ⟨b, off, none⟩ ∧ b < n₀ ∧ ∀ j, j < l.length → W.cell? ⟨b, off + j, none⟩ = some (.int .u8 (l[j]?.getD 0))) (h0 : J [] W) :
    CallsIn F n Tryz.prog 163 #[.func (.yield loop) #[] #[], .pointer (some ⟨Bs, 0, none⟩)] W fun e W' => (∃ v, e = .returned v) ∧
      ((∃ ys, ys = back l l.length ∧ J ys W') ∨ (∃ pre, (∃ k, k ≤ l.length ∧ pre = back l k) ∧ Jx pre W')) := by
  have H := LH hr
  clear hr
  refine callsIn_of_wp Tryz.func163 rfl h27 ?_ hro
  simp only [Tryz.ntmps163, List.size_toArray, List.length_cons, List.length_nil, Nat.reduceAdd, Nat.reduceSub, Array.replicate_succ, Array.replicate_zero, List.push_toArray, List.append_toArray, List.nil_append, List.cons_append]
  gi_wp2
  gi_loopw [3] (fun i wr => ∃ k : Nat, k ≤ l.length ∧ i = .int .i64 ((l.length : Int) - 1 - k) ∧ J (back l k) wr ∧ KeepsBox n₀ Bs W wr)
    (fun i _ => (intOf i + 1).toNat)
  case atStart => exact ⟨0, Nat.zero_le _, by simp, h0, Below.refl _ _, fun _ h => h⟩
  case round =>
    obtain ⟨k, hk, rfl, hJs, hnx⟩ := hrel
    have hcb : wr.cell? ⟨Bs, 0, none⟩ = some (.slice A l.length c) := hnx.2 _ hcBs
    by_cases hlt : k < l.length
    · obtain ⟨b, off, rfl, hb, hc⟩ := H.out (by omega)
      have hcx : wr.cell? ⟨b, off + (l.length - 1 - k), none⟩ = some (.int .u8 (l[l.length - 1 - k]?.getD 0)) := (hnx.1.cell (p := ⟨b, off + (l.length - 1 - k), none⟩) hb).trans (hc _ (by omega))
      clear hc
      obtain ⟨fn, tmps, assign, body, hy, hR⟩ := hY _ ((l.length : Int) - 1 - k, l[l.length - 1 - k]?.getD 0) wr hJs (by rw [back_length]; exact hlt)
      dsimp only at hy
      have HS := LH (back_succ l k)
      gi_wp2
      refine hR.mono ?_
      rintro e W3 (⟨rfl, hJ3, hk3⟩ | ⟨rfl, hJx3⟩)
      · gi_wp2
        go_roundw
        case rel => exact ⟨k + 1, by omega, congrArg (Value.int .i64) (by omega), by rw [HS.out]; exact hJ3, hnx.trans hk3⟩
        case measure => simp [intOf]; omega
      · gi_wp2
        refine bodyPost_ret (results_none rfl _ _ _) rfl ?_
        exact ⟨⟨_, rfl⟩, .inr ⟨_, ⟨k + 1, by omega, HS.out.symm⟩, hJx3⟩⟩
    · obtain rfl : k = l.length := by omega
      gi_wp2
      go_end0
      exact ⟨⟨_, rfl⟩, .inl ⟨_, rfl, hJs⟩⟩
set_option maxHeartbeats 400000 in
theorem backward_in (F : Fence) (n : Nat) (h24 : F.fn 143) (hro : F.round = none) (A : Option Addr) (len cap : Nat) (w : World) :
    CallsIn F n Tryz.prog 143 #[.slice A len cap] w fun e w' => e = .returned (.func (.func 163) #[] #[.pointer (some ⟨w.heap.size, 0, none⟩)]) ∧ w' = w.alloc (.cells #[.slice A len cap] 24) := by
  refine callsIn_of_wp Tryz.func143 rfl h24 ?_ hro
  simp only [Tryz.ntmps143, List.size_toArray, List.length_cons, List.length_nil, Nat.reduceAdd, Nat.reduceSub, Array.replicate_succ, Array.replicate_zero, List.push_toArray, List.append_toArray, List.nil_append, List.cons_append]
  gi_wp2
  go_ret
  exact ⟨rfl, rfl⟩
theorem backward_stops (F : Fence) (n : Nat) (h27 : F.fn 163) (hro : F.round = none) (hn : 1 ≤ n) (Bs n₀ : Nat) (A : Option Addr) (m c : Nat) (l : List Int) (hm : m = l.length) (hlen : l.length ≤ 9223372036854775807) (w : World) (hBs : Bs < w.heap.size) (hn₀ : n₀ ≤ w.heap.size)
    (hc : w.cell? ⟨Bs, 0, none⟩ = some (.slice A m c))
    (hr : 0 < l.length → ∃ b off, A = some ⟨b, off, none⟩ ∧ b < n₀ ∧ ∀ j, j < l.length → w.cell? ⟨b, off + j, none⟩ = some (.int .u8 (l[j]?.getD 0))) :
    SeqStopsK F n Tryz.prog 163 #[.pointer (some ⟨Bs, 0, none⟩)] (fun x : Int × Int => #[Value.int .i64 x.1, Value.int .u8 x.2]) (KeepsBox n₀ Bs) (fun ys => ys = back l l.length)
      (fun pre => ∃ k, k ≤ l.length ∧ pre = back l k) l.length w := fun lp J Jx W hW _ _ hY h0 => by
  subst hm
  have hW' := hW.mono hn₀
  have hc' := (hW.cell (p := ⟨Bs, 0, none⟩) hBs).trans hc
  refine backward1_in F n h27 hro hn lp Bs n₀ A c l hlen J Jx hY W hc' (fun hp => ?_) h0
  obtain ⟨b, off, e, hb, hcell⟩ := hr hp
  exact ⟨b, off, e, hb, fun j hj => (hW'.cell (p := ⟨b, off + j, none⟩) hb).trans (hcell j hj)⟩
def gstep (acc x : Int) : Int := bits BinOp.or IntKind.u64 (IntKind.u64.wrap (acc * 256)) (IntKind.u64.wrap x)
def gfold (pre : List (Int × Int)) : Int := pre.foldl (fun a x => gstep a x.2) 0
theorem gfold_snoc (pre : List (Int × Int)) (x : Int × Int) : gfold (pre ++ [x]) = gstep (gfold pre) x.2 := by simp [gfold]
theorem rows2 {w : World} {A : Option Addr} {l : List Int} {o o' : Obj}
    (hr : 0 < l.length → ∃ b off, A = some ⟨b, off, none⟩ ∧ b < w.heap.size ∧ ∀ j, j < l.length → w.cell? ⟨b, off + j, none⟩ = some (.int .u8 (l[j]?.getD 0))) :
    0 < l.length → ∃ b off, A = some ⟨b, off, none⟩ ∧ b < w.heap.size ∧ ∀ j, j < l.length → ((w.alloc o).alloc o').cell? ⟨b, off + j, none⟩ = some (.int .u8 (l[j]?.getD 0)) := fun hp => by
  obtain ⟨b, off, e, hb, hc⟩ := hr hp
  have hB : Below w.heap.size w ((w.alloc o).alloc o') := ((Below.refl _ w).alloc (Nat.le_refl _) _).alloc (by simp) _
  exact ⟨b, off, e, hb, fun j hj => (hB.cell (p := ⟨b, off + j, none⟩) hb).trans (hc j hj)⟩
set_option maxHeartbeats 1000000 in
theorem get_core (F : Fence) (n : Nat) (h14 : F.fn 126) (h24 : F.fn 143) (h27 : F.fn 163) (hro : F.round = none) (hn : 3 ≤ n)
    (A : Option Addr) (c len m : Nat) (l : List Int) (w : World) (hm : m = l.length) (hcase : (len ≤ 8 ∧ len = m) ∨ (8 < len ∧ m = 8)) (hlc : len ≤ c) (hcap : c ≤ 9223372036854775807)
    (hr : 0 < l.length → ∃ b off, A = some ⟨b, off, none⟩ ∧ b < w.heap.size ∧ ∀ j, j < l.length → w.cell? ⟨b, off + j, none⟩ = some (.int .u8 (l[j]?.getD 0))) :
    CallsIn F n Tryz.prog 126 #[.slice A len c] w fun e w' => e = .returned (.int .u64 (gfold (back l l.length))) ∧ Below w.heap.size w w' := by
  have H := LH hr
  clear hr
  have Hm := LH hm
  have hl8 : l.length ≤ 8 := by omega
  clear hm
  have h1 : 1 ≤ n := by omega
  rcases hcase with ⟨k1, rfl⟩ | ⟨k1, rfl⟩
  · refine callsIn_of_wp_marks Tryz.func126 rfl h14 ?_ hro
    simp only [Tryz.ntmps126, List.size_toArray, List.length_cons, List.length_nil, Nat.reduceAdd, Nat.reduceSub, Array.replicate_succ, Array.replicate_zero, List.push_toArray, List.append_toArray, List.nil_append, List.cons_append]
    gi_wp2_with (gi_at_call 143; refine (backward_in F (n - 1) h24 hro _ _ _ _).mono ?_; rintro e w' ⟨rfl, rfl⟩)
    have bS := Boxed.new w 44 (.int .u64 0)
    have bN := Boxed.new (w.alloc (.cells #[.int .u64 0] 44)) 24 (.slice A len c)
    rw [World.size_alloc] at bN
    have hB0 : Below w.heap.size w ((w.alloc (.cells #[.int .u64 0] 44)).alloc (.cells #[.slice A len c] 24)) := ((Below.refl _ w).alloc (Nat.le_refl _) _).alloc (by simp) _
    refine wpIn_rangeFunc_ownG hro h1 (gf := 163) (lb := #[.pointer (some ⟨w.heap.size + 1, 0, none⟩)]) rfl h27 (enters_of Tryz.func163 (by kernel_rfl) rfl)
      (backward_stops F (n - 1) h27 hro (by omega) (w.heap.size + 1) w.heap.size A len c l Hm.out (by omega) _ (by simp) (by simp; omega) bN.cell (rows2 H.out)) KeepsBox.trans (KeepsBox.put (by simp; omega)) (Below.refl _ _) (fun _ => rfl)
      (fun pre W => (W.cell? ⟨w.heap.size, 0, none⟩ = some (.int .u64 (gfold pre)) ∧ W.frozen? ⟨w.heap.size, 0, none⟩ = false) ∧ Below w.heap.size w W)
      (fun _ _ _ => False)
      (OwnFrom.and (Own.from (fun s A B row hs hg hr => ⟨cell_kept hs.1 hg hr, (frozen_kept hs.1 hg hr).trans hs.2⟩) _) (ownFrom_below (Nat.le_refl _) (by simp; omega)))
      (fun _ _ _ _ _ hs _ _ => hs)
      ⟨⟨(bS.alloc _).cell, (bS.alloc _).frozen⟩, hB0⟩
      (fun x => { tmps := #[.slice A len c, undef, .int .u64 0, .pointer (some ⟨w.heap.size, 0, none⟩), undef, .int .u8 x.2, .slice A len c, .slice A len c, .int .i64 len, .int .i64 len, .slice A len c, .func (.func 163) #[] #[.pointer (some ⟨w.heap.size + 1, 0, none⟩)], .int .i64 x.1, .int .u8 x.2, undef, undef, undef, undef, undef, undef], defers := [] }) ?assign ?body ?done ?stop
    case assign =>
      intro l x W K hK
      gi_wp2
      exact hK
    case body =>
      rintro l pre x W ⟨⟨hc, hf⟩, hB⟩ _
      gi_wp2
      exact ⟨(KeepsOthers.setCell _ _ _).from _, ⟨(Below.refl w.heap.size W).setCell (p := ⟨w.heap.size, 0, none⟩) (Nat.le_refl _) _, fun v hv => by rw [World.cell?_setCell_other _ _ _ _ (by simp)]; exact hv⟩, ⟨by rw [gfold_snoc]; exact World.cell?_setCell_same' _ _ _ (by rw [hc]; rfl), by rw [World.frozen?_setCell]; exact hf⟩, hB.setCell (p := ⟨w.heap.size, 0, none⟩) (Nat.le_refl _) _⟩
    case done =>
      rintro D ys W hD rfl ⟨⟨hc, _⟩, hB⟩ hK
      gi_wp2
      refine ⟨by simp, .inl ⟨_, _, rfl, run_takeDeferred hK, ?_⟩⟩
      exact ⟨_, results_tmp rfl _ _ _, rfl, hB.trans (belowK_b (w := w) (Nat.le_refl _) W D _ _ (by simp at hD; omega) hK rfl rfl)⟩
    case stop =>
      rintro D c pre W _ _ h _
      exact h.elim
  · refine callsIn_of_wp_marks Tryz.func126 rfl h14 ?_ hro
    simp only [Tryz.ntmps126, List.size_toArray, List.length_cons, List.length_nil, Nat.reduceAdd, Nat.reduceSub, Array.replicate_succ, Array.replicate_zero, List.push_toArray, List.append_toArray, List.nil_append, List.cons_append]
    gi_wp2_with (gi_at_call 143; refine (backward_in F (n - 1) h24 hro _ _ _ _).mono ?_; rintro e w' ⟨rfl, rfl⟩)
    have bS := Boxed.new w 44 (.int .u64 0)
    have bN := Boxed.new (w.alloc (.cells #[.int .u64 0] 44)) 24 (.slice A 8 c)
    rw [World.size_alloc] at bN
    have hB0 : Below w.heap.size w ((w.alloc (.cells #[.int .u64 0] 44)).alloc (.cells #[.slice A 8 c] 24)) := ((Below.refl _ w).alloc (Nat.le_refl _) _).alloc (by simp) _
    refine wpIn_rangeFunc_ownG hro h1 (gf := 163) (lb := #[.pointer (some ⟨w.heap.size + 1, 0, none⟩)]) rfl h27 (enters_of Tryz.func163 (by kernel_rfl) rfl)
      (backward_stops F (n - 1) h27 hro (by omega) (w.heap.size + 1) w.heap.size A 8 c l Hm.out (by omega) _ (by simp) (by simp; omega) bN.cell (rows2 H.out)) KeepsBox.trans (KeepsBox.put (by simp; omega)) (Below.refl _ _) (fun _ => rfl)
      (fun pre W => (W.cell? ⟨w.heap.size, 0, none⟩ = some (.int .u64 (gfold pre)) ∧ W.frozen? ⟨w.heap.size, 0, none⟩ = false) ∧ Below w.heap.size w W)
      (fun _ _ _ => False)
      (OwnFrom.and (Own.from (fun s A B row hs hg hr => ⟨cell_kept hs.1 hg hr, (frozen_kept hs.1 hg hr).trans hs.2⟩) _) (ownFrom_below (Nat.le_refl _) (by simp; omega)))
      (fun _ _ _ _ _ hs _ _ => hs)
      ⟨⟨(bS.alloc _).cell, (bS.alloc _).frozen⟩, hB0⟩
      (fun x => { tmps := #[.slice A len c, undef, .int .u64 0, .pointer (some ⟨w.heap.size, 0, none⟩), undef, .int .u8 x.2, .slice A len c, .slice A len c, .int .i64 len, .int .i64 8, .slice A 8 c, .func (.func 163) #[] #[.pointer (some ⟨w.heap.size + 1, 0, none⟩)], .int .i64 x.1, .int .u8 x.2, undef, undef, undef, undef, undef, undef], defers := [] }) ?assign ?body ?done ?stop
    case assign =>
      intro l x W K hK
      gi_wp2
      exact hK
    case body =>
      rintro l pre x W ⟨⟨hc, hf⟩, hB⟩ _
      gi_wp2
      exact ⟨(KeepsOthers.setCell _ _ _).from _, ⟨(Below.refl w.heap.size W).setCell (p := ⟨w.heap.size, 0, none⟩) (Nat.le_refl _) _, fun v hv => by rw [World.cell?_setCell_other _ _ _ _ (by simp)]; exact hv⟩, ⟨by rw [gfold_snoc]; exact World.cell?_setCell_same' _ _ _ (by rw [hc]; rfl), by rw [World.frozen?_setCell]; exact hf⟩, hB.setCell (p := ⟨w.heap.size, 0, none⟩) (Nat.le_refl _) _⟩
    case done =>
      rintro D ys W hD rfl ⟨⟨hc, _⟩, hB⟩ hK
      gi_wp2
      refine ⟨by simp, .inl ⟨_, _, rfl, run_takeDeferred hK, ?_⟩⟩
      exact ⟨_, results_tmp rfl _ _ _, rfl, hB.trans (belowK_b (w := w) (Nat.le_refl _) W D _ _ (by simp at hD; omega) hK rfl rfl)⟩
    case stop =>
      rintro D c pre W _ _ h _
      exact h.elim
theorem gstep_eq {a x : Int} (h0 : 0 ≤ a) (h1 : a < 72057594037927936) (h2 : 0 ≤ x) (h3 : x ≤ 255) : gstep a x = 256 * a + x := by
  unfold gstep
  rw [IntKind.wrap_u64, IntKind.wrap_u64, Int.emod_eq_of_lt (by omega) (by omega), Int.emod_eq_of_lt (by omega) (by omega), u64_or _ _ (by omega) (by omega) (by omega) (by omega), nat_join8 _ _ (by omega) (by omega)]
  omega
theorem gfold_back {l : List Int} (hl : AllB l) (h8 : l.length ≤ 8) : ∀ k, k ≤ l.length → gfold (back l k) = getV (l.drop (l.length - k)) := by
  intro k
  induction k with
  | zero => intro _; simp [back, gfold, getV]
  | succ k ih =>
    intro hk
    have e : l.length - (k + 1) = l.length - 1 - k := by omega
    have e2 : l.length - 1 - k + 1 = l.length - k := by omega
    rw [back_succ, gfold_snoc, ih (by omega), e, getV_drop (k := l.length - 1 - k) (by omega), e2]
    have hx := hl.at_ (l.length - 1 - k)
    exact gstep_eq (getV_nonneg (hl.drop _)) (getV_lt7 (hl.drop _) (by simp; omega)) hx.1 hx.2
theorem get_any (v : Value) (l : List Int) (w : World) (h : Bytes w w.heap.size v l) (hl : AllB l) :
    Calls Tryz.prog 126 #[v] w fun e w' => e = .returned (.int .u64 (getV (l.take 8))) ∧ Below w.heap.size w w' := by
  obtain ⟨A, c, rfl, hc, hm, hr⟩ := h
  have ht : (l.take 8).length = min 8 l.length := List.length_take
  have hfin := gfold_back (hl.take 8) (by omega) (l.take 8).length (Nat.le_refl _)
  rw [Nat.sub_self, List.drop_zero] at hfin
  rw [← hfin]
  refine (callsIn_wide (n := 3)).1 (get_core Fence.wide 3 trivial trivial trivial rfl (Nat.le_refl _) A c l.length (l.take 8).length (l.take 8) w rfl (by omega) hc hm (fun hp => ?_))
  obtain ⟨b, off, e, hb, hcell⟩ := hr (by omega)
  refine ⟨b, off, e, hb, fun j hj => ?_⟩
  rw [List.getElem?_take_of_lt (by omega)]
  exact hcell j (by omega)
end Go.Proofs.YtmmlfnblodfjbaaGreatDoor
namespace Go.Proofs.YtmmlfnblodfjbaaGreatDoor
open Go.RowKit Go.Deep
def Spans (w : World) (B : Nat) (v : Value) (l : List Sp) : Prop :=
  ∃ A c, v = .slice A l.length c ∧ l.length ≤ c ∧ c ≤ 9223372036854775807 ∧ (0 < l.length → ∃ b off, A = some ⟨b, off, none⟩ ∧ b < B ∧ ∀ j, j < l.length → w.cell? ⟨b, off + j * 2, none⟩ = some (.int .i64 (l[j]?.getD (0, 0)).1) ∧ w.cell? ⟨b, off + j * 2 + 1, none⟩ = some (.int .i64 (l[j]?.getD (0, 0)).2))
theorem Spans.below {w w' : World} {B B' : Nat} {v : Value} {l : List Sp} (h : Spans w B v l) (hb : Below B' w w') (hB : B ≤ B') : Spans w' B v l := by
  obtain ⟨A, c, e, hc, hm, hr⟩ := h
  refine ⟨A, c, e, hc, hm, fun hl => ?_⟩
  obtain ⟨b, off, ea, hlt, hcell⟩ := hr hl
  exact ⟨b, off, ea, hlt, fun j hj => ⟨(hb.cell (p := ⟨b, off + j * 2, none⟩) (by show b < B'; omega)).trans (hcell j hj).1, (hb.cell (p := ⟨b, off + j * 2 + 1, none⟩) (by show b < B'; omega)).trans (hcell j hj).2⟩⟩
theorem Spans.parts {w : World} {B : Nat} {v : Value} {l : List Sp} (h : Spans w B v l) : ∃ A c, v = .slice A l.length c ∧ l.length ≤ c ∧ c ≤ 9223372036854775807 ∧ (0 < l.length → ∃ b off, A = some ⟨b, off, none⟩ ∧ ∀ j, j < l.length → w.cell? ⟨b, off + j * 2, none⟩ = some (.int .i64 (l[j]?.getD (0, 0)).1) ∧ w.cell? ⟨b, off + j * 2 + 1, none⟩ = some (.int .i64 (l[j]?.getD (0, 0)).2)) := by
  obtain ⟨A, c, e, hc, hm, hr⟩ := h
  refine ⟨A, c, e, hc, hm, fun hp => ?_⟩
  obtain ⟨b, off, e, _, hcell⟩ := hr hp
  exact ⟨b, off, e, hcell⟩
theorem nil_spans (w : World) (B : Nat) : Spans w B (.slice none 0 0) [] := ⟨none, 0, rfl, by simp, by omega, fun h => by simp at h⟩
end Go.Proofs.YtmmlfnblodfjbaaGreatDoor
