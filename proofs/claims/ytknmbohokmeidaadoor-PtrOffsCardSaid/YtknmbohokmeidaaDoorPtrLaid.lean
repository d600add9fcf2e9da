/-
  Layer 6: what the package's variables hold (Laid); its places: wide, most, number, signed, with.
-/
import Derived.Test.YtknmbohokmeidaaDoorPtrRef
import Derived.Laws.BitsAllLaws
import Derived.WalkSmall
import Derived.Deep.RegionHeld3
namespace Go.Proofs.YtknmbohokmeidaaDoor
open Go.RowKit Go.Deep

/-- a variable that holds a place -/
def G2 (w : World) (g : Nat) (a b : Int) : Prop := w.cell? ⟨g, 0, none⟩ = some (.int .i64 a) ∧ w.cell? ⟨g, 1, none⟩ = some (.int .i64 b)
theorem G2.on {w w' : World} {g : Nat} {a b : Int} (h : G2 w g a b) (hB : Below w.heap.size w w') : G2 w' g a b :=
  ⟨(hB.cell (World.block_lt_of_cell? _ _ h.1)).trans h.1, (hB.cell (World.block_lt_of_cell? _ _ h.2)).trans h.2⟩
structure Laid (w : World) : Prop where
  kind : G2 w 0 0 1
  off : G2 w 1 2 31
  data : G2 w 2 32 47
  ptrs : G2 w 3 48 63
  size : G2 w 4 32 34
  count : G2 w 5 35 63
  dbl : G2 w 6 2 2
  far : G2 w 7 3 31
  seg : G2 w 8 32 63
theorem Laid.on {w w' : World} (h : Laid w) (hB : Below w.heap.size w w') : Laid w' :=
  ⟨h.kind.on hB, h.off.on hB, h.data.on hB, h.ptrs.on hB, h.size.on hB, h.count.on hB, h.dbl.on hB, h.far.on hB, h.seg.on hB⟩

/-- the places: from, to, and how wide -/
def IsPlace (a b K A B M : Int) : Prop :=
  (a = 0 ∧ b = 1 ∧ K = 2 ∧ A = 1 ∧ B = 4 ∧ M = 3) ∨ (a = 2 ∧ b = 31 ∧ K = 30 ∧ A = 4 ∧ B = 1073741824 ∧ M = 1073741823) ∨ (a = 32 ∧ b = 47 ∧ K = 16 ∧ A = 4294967296 ∧ B = 65536 ∧ M = 65535) ∨ (a = 48 ∧ b = 63 ∧ K = 16 ∧ A = 281474976710656 ∧ B = 65536 ∧ M = 65535) ∨ (a = 32 ∧ b = 34 ∧ K = 3 ∧ A = 4294967296 ∧ B = 8 ∧ M = 7) ∨ (a = 35 ∧ b = 63 ∧ K = 29 ∧ A = 34359738368 ∧ B = 536870912 ∧ M = 536870911) ∨ (a = 2 ∧ b = 2 ∧ K = 1 ∧ A = 4 ∧ B = 2 ∧ M = 1) ∨ (a = 3 ∧ b = 31 ∧ K = 29 ∧ A = 8 ∧ B = 536870912 ∧ M = 536870911) ∨ (a = 32 ∧ b = 63 ∧ K = 32 ∧ A = 4294967296 ∧ B = 4294967296 ∧ M = 4294967295)

theorem and_low (n : Int) (k : Nat) (hk : k ≤ 63) (h0 : 0 ≤ n) (h1 : n ≤ 18446744073709551615) : bits BinOp.and IntKind.u64 n (2 ^ k - 1) = n % 2 ^ k := by
  have h := bits_and_u64_nat n.toNat (2 ^ k - 1) (by omega) (by have : 2 ^ k ≤ 2 ^ 63 := Nat.pow_le_pow_right (by omega) hk; omega)
  rw [Nat.and_two_pow_sub_one_eq_mod, Int.toNat_of_nonneg h0] at h
  have hp : 0 < 2 ^ k := Nat.pow_pos (by omega)
  have e1 : ((2 ^ k - 1 : Nat) : Int) = 2 ^ k - 1 := by rw [Int.ofNat_sub (by omega)]; simp
  rw [e1] at h
  rw [h]
  have e2 : ((n.toNat % 2 ^ k : Nat) : Int) = (n.toNat : Int) % ((2 ^ k : Nat) : Int) := Int.natCast_emod _ _
  rw [e2, Int.toNat_of_nonneg h0]
  simp
theorem and_lowC (n M B : Int) (h0 : 0 ≤ n) (h1 : n ≤ 18446744073709551615) (h : ∃ k : Nat, k ≤ 63 ∧ (2 : Int) ^ k = B ∧ M = B - 1) : bits BinOp.and IntKind.u64 n M = n % B := by
  obtain ⟨k, hk, rfl, rfl⟩ := h
  exact and_low n k hk h0 h1

set_option maxHeartbeats 400000 in
theorem wide_any (a b K : Int) (w : World) (h : 0 ≤ a ∧ b ≤ 63 ∧ b - a + 1 = K ∧ 0 ≤ K) :
    Calls Tryd.prog 29 #[.agg #[.int .i64 a, .int .i64 b]] w fun e w' => e = .returned (.int .i64 K) ∧ Below w.heap.size w w' := by
  obtain ⟨h1, h2, rfl, h4⟩ := h
  have HB : ∀ cs t, Below w.heap.size w (w.alloc (.cells cs t)) := fun cs t => (Below.refl _ _).alloc (Nat.le_refl _) _
  go_enter Tryd.func29, Tryd.ntmps29
  go_wp2_with fail
  go_ret
  exact ⟨rfl, HB _ _⟩

theorem pl_kind : IsPlace 0 1 2 1 4 3 := by simp [IsPlace]
theorem pl_off : IsPlace 2 31 30 4 1073741824 1073741823 := by simp [IsPlace]
theorem pl_data : IsPlace 32 47 16 4294967296 65536 65535 := by simp [IsPlace]
theorem pl_ptrs : IsPlace 48 63 16 281474976710656 65536 65535 := by simp [IsPlace]
theorem pl_size : IsPlace 32 34 3 4294967296 8 7 := by simp [IsPlace]
theorem pl_count : IsPlace 35 63 29 34359738368 536870912 536870911 := by simp [IsPlace]
theorem pl_dbl : IsPlace 2 2 1 4 2 1 := by simp [IsPlace]
theorem pl_far : IsPlace 3 31 29 8 536870912 536870911 := by simp [IsPlace]
theorem pl_seg : IsPlace 32 63 32 4294967296 4294967296 4294967295 := by simp [IsPlace]

set_option maxRecDepth 100000 in
set_option maxHeartbeats 1000000 in
theorem most_any (a b K A B M : Int) (w : World) (h : IsPlace a b K A B M) :
    Calls Tryd.prog 27 #[.agg #[.int .i64 a, .int .i64 b]] w fun e w' => e = .returned (.int .u64 M) ∧ Below w.heap.size w w' := by
  have HB : ∀ cs t, Below w.heap.size w (w.alloc (.cells cs t)) := fun cs t => (Below.refl _ _).alloc (Nat.le_refl _) _
  rcases h with ⟨rfl, rfl, rfl, rfl, rfl, rfl⟩ | ⟨rfl, rfl, rfl, rfl, rfl, rfl⟩ | ⟨rfl, rfl, rfl, rfl, rfl, rfl⟩ | ⟨rfl, rfl, rfl, rfl, rfl, rfl⟩ | ⟨rfl, rfl, rfl, rfl, rfl, rfl⟩ | ⟨rfl, rfl, rfl, rfl, rfl, rfl⟩ | ⟨rfl, rfl, rfl, rfl, rfl, rfl⟩ | ⟨rfl, rfl, rfl, rfl, rfl, rfl⟩ | ⟨rfl, rfl, rfl, rfl, rfl, rfl⟩
  all_goals
    go_enter Tryd.func27, Tryd.ntmps27
    go_wp2_with fail
    refine (wide_any _ _ _ _ ⟨by decide, by decide, rfl, by decide⟩).mono ?_
    rintro e w1 ⟨rfl, hB1⟩
    go_wp2_with fail
    go_ret
    exact ⟨rfl, (HB _ _).trans (hB1.mono (by simp))⟩

theorem place_cells (w : World) (a b : Int) {w' : World} (h : Below (w.heap.size + 1) (w.alloc (.cells #[.int .i64 a, .int .i64 b] 51)) w') : w'.cell? ⟨w.heap.size, 0, none⟩ = some (.int .i64 a) ∧ w'.cell? ⟨w.heap.size, 1, none⟩ = some (.int .i64 b) := by
  have h0 : ∀ j v, (#[Value.int .i64 a, .int .i64 b])[j]? = some v → w'.cell? ⟨w.heap.size, j, none⟩ = some v := fun j v hv => by
    rw [h.cell (p := ⟨w.heap.size, j, none⟩) (by show w.heap.size < w.heap.size + 1; omega)]
    unfold World.cell?
    dsimp only
    rw [blk_alloc_new]
    exact hv
  exact ⟨h0 0 _ rfl, h0 1 _ rfl⟩
theorem place_below (w : World) (a b : Int) {w' : World} (h : Below (w.heap.size + 1) (w.alloc (.cells #[.int .i64 a, .int .i64 b] 51)) w') : Below w.heap.size w w' :=
  ((Below.refl _ _).alloc (Nat.le_refl _) _).trans (h.mono (by omega))
theorem place_seq {a b c : World} {n : Nat} (h : Below n a b) (hn : n ≤ a.heap.size) (k : Below b.heap.size b c) : Below n a c := h.trans (k.mono (Nat.le_trans hn h.size))

/-! ### place by place -/

set_option maxRecDepth 100000 in
set_option maxHeartbeats 1000000 in
theorem num_kind (n : Int) (w : World) (h0 : 0 ≤ n) (h1 : n ≤ 18446744073709551615) :
    Calls Tryd.prog 19 #[.agg #[.int .i64 0, .int .i64 1], .int .u64 n] w fun e w' => e = .returned (.int .i64 (n % 4)) ∧ Below w.heap.size w w' := by
  have HPC := Lib.hid (fun w' h => place_cells w 0 1 (w' := w') h)
  have HPB := Lib.hid (fun w' h => place_below w 0 1 (w' := w') h)
  have HM := Lib.hid (fun w => most_any 0 1 2 1 4 3 w pl_kind)
  obtain ⟨W, hW⟩ : ∃ W, w.alloc (.cells #[.int .i64 0, .int .i64 1] 51) = W := ⟨_, rfl⟩
  have HS : Hid (w.heap.size + 1 ≤ W.heap.size) := Lib.hid (by rw [← hW]; simp)
  rw [hW] at HPC HPB
  have hd : bits BinOp.and IntKind.u64 (n) 3 = n % 4 := and_lowC _ _ _ (by omega) (by omega) ⟨2, by decide, by decide, by decide⟩
  obtain ⟨R, hR⟩ : ∃ R, n % 4 = R := ⟨_, rfl⟩
  have hb : 0 ≤ R ∧ R ≤ 4294967295 := by omega
  have HWr : Hid (IntKind.i64.wrap R = R) := Lib.hid (IntWalk.i64_in _ (by omega))
  rw [hR] at hd ⊢
  have HD := Lib.hid hd
  clear hd hR hb
  go_enter Tryd.func19, Tryd.ntmps19
  go_wp2_with fail
  have HW := Lib.hid hW
  clear hW
  have hQ0 : Below (w.heap.size + 1) W W.drew := (Below.refl _ _).drew
  obtain ⟨x0, y0⟩ := HPC.out _ hQ0
  have hdd := HD.out
  go_region_held3 (fun w' => w'.cell? ⟨w.heap.size, 0, none⟩ = some (.int .i64 0) ∧ w'.cell? ⟨w.heap.size, 1, none⟩ = some (.int .i64 1)) (first | exact ⟨by assumption, by assumption⟩) (first
    | (go_at_call 27; with_reducible refine (HM.out _).mono ?_; rintro e w1 ⟨rfl, hB1⟩; have hQ1 := place_seq hQ0 HS.out hB1; obtain ⟨x1, y1⟩ := HPC.out _ hQ1))
  all_goals
    go_wp2_with fail
    go_ret
    exact ⟨ret_int HWr.out, HPB.out _ hQ1⟩

set_option maxRecDepth 100000 in
set_option maxHeartbeats 1000000 in
theorem with_kind (n : Int) (w : World) :
    Calls Tryd.prog 30 #[.agg #[.int .i64 0, .int .i64 1], .int .i64 n] w fun e w' => e = .returned (.int .u64 (n % 4)) ∧ Below w.heap.size w w' := by
  have HPC := Lib.hid (fun w' h => place_cells w 0 1 (w' := w') h)
  have HPB := Lib.hid (fun w' h => place_below w 0 1 (w' := w') h)
  have HM := Lib.hid (fun w => most_any 0 1 2 1 4 3 w pl_kind)
  obtain ⟨W, hW⟩ : ∃ W, w.alloc (.cells #[.int .i64 0, .int .i64 1] 51) = W := ⟨_, rfl⟩
  have HS : Hid (w.heap.size + 1 ≤ W.heap.size) := Lib.hid (by rw [← hW]; simp)
  rw [hW] at HPC HPB
  have hd : bits BinOp.and IntKind.u64 (IntKind.u64.wrap n) 3 = n % 4 := by
    rw [IntKind.wrap_u64, and_lowC _ _ 4 (by omega) (by omega) ⟨2, by decide, by decide, by decide⟩]
    omega
  obtain ⟨R, hR⟩ : ∃ R, n % 4 = R := ⟨_, rfl⟩
  have hb : 0 ≤ R ∧ R < 4 := by omega
  have HWr : Hid (IntKind.u64.wrap (R) = R) := Lib.hid (by rw [IntKind.wrap_u64]; omega)
  rw [hR] at hd ⊢
  have HD := Lib.hid hd
  clear hd hR hb
  go_enter Tryd.func30, Tryd.ntmps30
  go_wp2_with fail
  have HW := Lib.hid hW
  clear hW
  have hQ0 : Below (w.heap.size + 1) W W.drew := (Below.refl _ _).drew
  obtain ⟨x0, y0⟩ := HPC.out _ hQ0
  have hdd := HD.out
  go_region_held3 (fun w' => w'.cell? ⟨w.heap.size, 0, none⟩ = some (.int .i64 0) ∧ w'.cell? ⟨w.heap.size, 1, none⟩ = some (.int .i64 1)) (first | exact ⟨by assumption, by assumption⟩) (first
    | (go_at_call 27; with_reducible refine (HM.out _).mono ?_; rintro e w1 ⟨rfl, hB1⟩; have hQ1 := place_seq hQ0 HS.out hB1; obtain ⟨x1, y1⟩ := HPC.out _ hQ1))
  all_goals
    go_wp2_with fail
    go_ret
    exact ⟨ret_int HWr.out, HPB.out _ hQ1⟩

set_option maxRecDepth 100000 in
set_option maxHeartbeats 1000000 in
theorem with_off (n : Int) (w : World) :
    Calls Tryd.prog 30 #[.agg #[.int .i64 2, .int .i64 31], .int .i64 n] w fun e w' => e = .returned (.int .u64 (n % 1073741824 * 4)) ∧ Below w.heap.size w w' := by
  have HPC := Lib.hid (fun w' h => place_cells w 2 31 (w' := w') h)
  have HPB := Lib.hid (fun w' h => place_below w 2 31 (w' := w') h)
  have HM := Lib.hid (fun w => most_any 2 31 30 4 1073741824 1073741823 w pl_off)
  obtain ⟨W, hW⟩ : ∃ W, w.alloc (.cells #[.int .i64 2, .int .i64 31] 51) = W := ⟨_, rfl⟩
  have HS : Hid (w.heap.size + 1 ≤ W.heap.size) := Lib.hid (by rw [← hW]; simp)
  rw [hW] at HPC HPB
  have hd : bits BinOp.and IntKind.u64 (IntKind.u64.wrap n) 1073741823 = n % 1073741824 := by
    rw [IntKind.wrap_u64, and_lowC _ _ 1073741824 (by omega) (by omega) ⟨30, by decide, by decide, by decide⟩]
    omega
  obtain ⟨R, hR⟩ : ∃ R, n % 1073741824 = R := ⟨_, rfl⟩
  have hb : 0 ≤ R ∧ R < 1073741824 := by omega
  have HWr : Hid (IntKind.u64.wrap (R * 4) = R * 4) := Lib.hid (by rw [IntKind.wrap_u64]; omega)
  rw [hR] at hd ⊢
  have HD := Lib.hid hd
  clear hd hR hb
  go_enter Tryd.func30, Tryd.ntmps30
  go_wp2_with fail
  have HW := Lib.hid hW
  clear hW
  have hQ0 : Below (w.heap.size + 1) W W.drew := (Below.refl _ _).drew
  obtain ⟨x0, y0⟩ := HPC.out _ hQ0
  have hdd := HD.out
  go_region_held3 (fun w' => w'.cell? ⟨w.heap.size, 0, none⟩ = some (.int .i64 2) ∧ w'.cell? ⟨w.heap.size, 1, none⟩ = some (.int .i64 31)) (first | exact ⟨by assumption, by assumption⟩) (first
    | (go_at_call 27; with_reducible refine (HM.out _).mono ?_; rintro e w1 ⟨rfl, hB1⟩; have hQ1 := place_seq hQ0 HS.out hB1; obtain ⟨x1, y1⟩ := HPC.out _ hQ1))
  all_goals
    go_wp2_with fail
    go_ret
    exact ⟨ret_int HWr.out, HPB.out _ hQ1⟩

set_option maxRecDepth 100000 in
set_option maxHeartbeats 1000000 in
theorem sgn_off (n : Int) (w : World) :
    Calls Tryd.prog 20 #[.agg #[.int .i64 2, .int .i64 31], .int .u64 n] w fun e w' => e = .returned (.int .i64 (sgn30 (n / 4 % 1073741824))) ∧ Below w.heap.size w w' := by
  have HPC := Lib.hid (fun w' h => place_cells w 2 31 (w' := w') h)
  have HPB := Lib.hid (fun w' h => place_below w 2 31 (w' := w') h)
  have HM := Lib.hid (fun w => wide_any 2 31 30 w (by decide))
  obtain ⟨W, hW⟩ : ∃ W, w.alloc (.cells #[.int .i64 2, .int .i64 31] 51) = W := ⟨_, rfl⟩
  have HS : Hid (w.heap.size + 1 ≤ W.heap.size) := Lib.hid (by rw [← hW]; simp)
  rw [hW] at HPC HPB
  have HV := Lib.hid (fun w => signed_any (n / 4) 30 w)
  have he : sgnV (n / 4) (clipK 30) = sgn30 (n / 4 % 1073741824) := by
    rw [show clipK 30 = 30 by decide, ← sgn30_is _ (by omega) (by omega)]
    exact (sgn_of_mod (by rw [show (2 : Int) ^ 30 = 1073741824 by decide]; omega))
  rw [he] at HV
  clear he
  generalize sgn30 (n / 4 % 1073741824) = R at *
  go_enter Tryd.func20, Tryd.ntmps20
  go_wp2_with fail
  have HW := Lib.hid hW
  clear hW
  have hQ0 : Below (w.heap.size + 1) W W.drew := (Below.refl _ _).drew
  obtain ⟨x0, y0⟩ := HPC.out _ hQ0
  go_region_held3 (fun w' => w'.cell? ⟨w.heap.size, 0, none⟩ = some (.int .i64 2) ∧ w'.cell? ⟨w.heap.size, 1, none⟩ = some (.int .i64 31)) (first | exact ⟨by assumption, by assumption⟩) (first
    | (go_at_call 29; with_reducible refine (HM.out _).mono ?_; rintro e w1 ⟨rfl, hB1⟩; have hQ1 := place_seq hQ0 HS.out hB1; obtain ⟨x1, y1⟩ := HPC.out _ hQ1)
    | (go_at_call 28; with_reducible refine (HV.out _).mono ?_; rintro e w2 ⟨rfl, rfl⟩))
  all_goals
    go_wp2_with fail
    go_ret
    exact ⟨rfl, HPB.out _ hQ1⟩

set_option maxRecDepth 100000 in
set_option maxHeartbeats 1000000 in
theorem num_data (n : Int) (w : World) (h0 : 0 ≤ n) (h1 : n ≤ 18446744073709551615) :
    Calls Tryd.prog 19 #[.agg #[.int .i64 32, .int .i64 47], .int .u64 n] w fun e w' => e = .returned (.int .i64 (n / 4294967296 % 65536)) ∧ Below w.heap.size w w' := by
  have HPC := Lib.hid (fun w' h => place_cells w 32 47 (w' := w') h)
  have HPB := Lib.hid (fun w' h => place_below w 32 47 (w' := w') h)
  have HM := Lib.hid (fun w => most_any 32 47 16 4294967296 65536 65535 w pl_data)
  obtain ⟨W, hW⟩ : ∃ W, w.alloc (.cells #[.int .i64 32, .int .i64 47] 51) = W := ⟨_, rfl⟩
  have HS : Hid (w.heap.size + 1 ≤ W.heap.size) := Lib.hid (by rw [← hW]; simp)
  rw [hW] at HPC HPB
  have hd : bits BinOp.and IntKind.u64 (n / 4294967296) 65535 = n / 4294967296 % 65536 := and_lowC _ _ _ (by omega) (by omega) ⟨16, by decide, by decide, by decide⟩
  obtain ⟨R, hR⟩ : ∃ R, n / 4294967296 % 65536 = R := ⟨_, rfl⟩
  have hb : 0 ≤ R ∧ R ≤ 4294967295 := by omega
  have HWr : Hid (IntKind.i64.wrap R = R) := Lib.hid (IntWalk.i64_in _ (by omega))
  rw [hR] at hd ⊢
  have HD := Lib.hid hd
  clear hd hR hb
  go_enter Tryd.func19, Tryd.ntmps19
  go_wp2_with fail
  have HW := Lib.hid hW
  clear hW
  have hQ0 : Below (w.heap.size + 1) W W.drew := (Below.refl _ _).drew
  obtain ⟨x0, y0⟩ := HPC.out _ hQ0
  have hdd := HD.out
  go_region_held3 (fun w' => w'.cell? ⟨w.heap.size, 0, none⟩ = some (.int .i64 32) ∧ w'.cell? ⟨w.heap.size, 1, none⟩ = some (.int .i64 47)) (first | exact ⟨by assumption, by assumption⟩) (first
    | (go_at_call 27; with_reducible refine (HM.out _).mono ?_; rintro e w1 ⟨rfl, hB1⟩; have hQ1 := place_seq hQ0 HS.out hB1; obtain ⟨x1, y1⟩ := HPC.out _ hQ1))
  all_goals
    go_wp2_with fail
    go_ret
    exact ⟨ret_int HWr.out, HPB.out _ hQ1⟩

set_option maxRecDepth 100000 in
set_option maxHeartbeats 1000000 in
theorem with_data (n : Int) (w : World) :
    Calls Tryd.prog 30 #[.agg #[.int .i64 32, .int .i64 47], .int .i64 n] w fun e w' => e = .returned (.int .u64 (n % 65536 * 4294967296)) ∧ Below w.heap.size w w' := by
  have HPC := Lib.hid (fun w' h => place_cells w 32 47 (w' := w') h)
  have HPB := Lib.hid (fun w' h => place_below w 32 47 (w' := w') h)
  have HM := Lib.hid (fun w => most_any 32 47 16 4294967296 65536 65535 w pl_data)
  obtain ⟨W, hW⟩ : ∃ W, w.alloc (.cells #[.int .i64 32, .int .i64 47] 51) = W := ⟨_, rfl⟩
  have HS : Hid (w.heap.size + 1 ≤ W.heap.size) := Lib.hid (by rw [← hW]; simp)
  rw [hW] at HPC HPB
  have hd : bits BinOp.and IntKind.u64 (IntKind.u64.wrap n) 65535 = n % 65536 := by
    rw [IntKind.wrap_u64, and_lowC _ _ 65536 (by omega) (by omega) ⟨16, by decide, by decide, by decide⟩]
    omega
  obtain ⟨R, hR⟩ : ∃ R, n % 65536 = R := ⟨_, rfl⟩
  have hb : 0 ≤ R ∧ R < 65536 := by omega
  have HWr : Hid (IntKind.u64.wrap (R * 4294967296) = R * 4294967296) := Lib.hid (by rw [IntKind.wrap_u64]; omega)
  rw [hR] at hd ⊢
  have HD := Lib.hid hd
  clear hd hR hb
  go_enter Tryd.func30, Tryd.ntmps30
  go_wp2_with fail
  have HW := Lib.hid hW
  clear hW
  have hQ0 : Below (w.heap.size + 1) W W.drew := (Below.refl _ _).drew
  obtain ⟨x0, y0⟩ := HPC.out _ hQ0
  have hdd := HD.out
  go_region_held3 (fun w' => w'.cell? ⟨w.heap.size, 0, none⟩ = some (.int .i64 32) ∧ w'.cell? ⟨w.heap.size, 1, none⟩ = some (.int .i64 47)) (first | exact ⟨by assumption, by assumption⟩) (first
    | (go_at_call 27; with_reducible refine (HM.out _).mono ?_; rintro e w1 ⟨rfl, hB1⟩; have hQ1 := place_seq hQ0 HS.out hB1; obtain ⟨x1, y1⟩ := HPC.out _ hQ1))
  all_goals
    go_wp2_with fail
    go_ret
    exact ⟨ret_int HWr.out, HPB.out _ hQ1⟩

set_option maxRecDepth 100000 in
set_option maxHeartbeats 1000000 in
theorem num_ptrs (n : Int) (w : World) (h0 : 0 ≤ n) (h1 : n ≤ 18446744073709551615) :
    Calls Tryd.prog 19 #[.agg #[.int .i64 48, .int .i64 63], .int .u64 n] w fun e w' => e = .returned (.int .i64 (n / 281474976710656 % 65536)) ∧ Below w.heap.size w w' := by
  have HPC := Lib.hid (fun w' h => place_cells w 48 63 (w' := w') h)
  have HPB := Lib.hid (fun w' h => place_below w 48 63 (w' := w') h)
  have HM := Lib.hid (fun w => most_any 48 63 16 281474976710656 65536 65535 w pl_ptrs)
  obtain ⟨W, hW⟩ : ∃ W, w.alloc (.cells #[.int .i64 48, .int .i64 63] 51) = W := ⟨_, rfl⟩
  have HS : Hid (w.heap.size + 1 ≤ W.heap.size) := Lib.hid (by rw [← hW]; simp)
  rw [hW] at HPC HPB
  have hd : bits BinOp.and IntKind.u64 (n / 281474976710656) 65535 = n / 281474976710656 % 65536 := and_lowC _ _ _ (by omega) (by omega) ⟨16, by decide, by decide, by decide⟩
  obtain ⟨R, hR⟩ : ∃ R, n / 281474976710656 % 65536 = R := ⟨_, rfl⟩
  have hb : 0 ≤ R ∧ R ≤ 4294967295 := by omega
  have HWr : Hid (IntKind.i64.wrap R = R) := Lib.hid (IntWalk.i64_in _ (by omega))
  rw [hR] at hd ⊢
  have HD := Lib.hid hd
  clear hd hR hb
  go_enter Tryd.func19, Tryd.ntmps19
  go_wp2_with fail
  have HW := Lib.hid hW
  clear hW
  have hQ0 : Below (w.heap.size + 1) W W.drew := (Below.refl _ _).drew
  obtain ⟨x0, y0⟩ := HPC.out _ hQ0
  have hdd := HD.out
  go_region_held3 (fun w' => w'.cell? ⟨w.heap.size, 0, none⟩ = some (.int .i64 48) ∧ w'.cell? ⟨w.heap.size, 1, none⟩ = some (.int .i64 63)) (first | exact ⟨by assumption, by assumption⟩) (first
    | (go_at_call 27; with_reducible refine (HM.out _).mono ?_; rintro e w1 ⟨rfl, hB1⟩; have hQ1 := place_seq hQ0 HS.out hB1; obtain ⟨x1, y1⟩ := HPC.out _ hQ1))
  all_goals
    go_wp2_with fail
    go_ret
    exact ⟨ret_int HWr.out, HPB.out _ hQ1⟩

set_option maxRecDepth 100000 in
set_option maxHeartbeats 1000000 in
theorem with_ptrs (n : Int) (w : World) :
    Calls Tryd.prog 30 #[.agg #[.int .i64 48, .int .i64 63], .int .i64 n] w fun e w' => e = .returned (.int .u64 (n % 65536 * 281474976710656)) ∧ Below w.heap.size w w' := by
  have HPC := Lib.hid (fun w' h => place_cells w 48 63 (w' := w') h)
  have HPB := Lib.hid (fun w' h => place_below w 48 63 (w' := w') h)
  have HM := Lib.hid (fun w => most_any 48 63 16 281474976710656 65536 65535 w pl_ptrs)
  obtain ⟨W, hW⟩ : ∃ W, w.alloc (.cells #[.int .i64 48, .int .i64 63] 51) = W := ⟨_, rfl⟩
  have HS : Hid (w.heap.size + 1 ≤ W.heap.size) := Lib.hid (by rw [← hW]; simp)
  rw [hW] at HPC HPB
  have hd : bits BinOp.and IntKind.u64 (IntKind.u64.wrap n) 65535 = n % 65536 := by
    rw [IntKind.wrap_u64, and_lowC _ _ 65536 (by omega) (by omega) ⟨16, by decide, by decide, by decide⟩]
    omega
  obtain ⟨R, hR⟩ : ∃ R, n % 65536 = R := ⟨_, rfl⟩
  have hb : 0 ≤ R ∧ R < 65536 := by omega
  have HWr : Hid (IntKind.u64.wrap (R * 281474976710656) = R * 281474976710656) := Lib.hid (by rw [IntKind.wrap_u64]; omega)
  rw [hR] at hd ⊢
  have HD := Lib.hid hd
  clear hd hR hb
  go_enter Tryd.func30, Tryd.ntmps30
  go_wp2_with fail
  have HW := Lib.hid hW
  clear hW
  have hQ0 : Below (w.heap.size + 1) W W.drew := (Below.refl _ _).drew
  obtain ⟨x0, y0⟩ := HPC.out _ hQ0
  have hdd := HD.out
  go_region_held3 (fun w' => w'.cell? ⟨w.heap.size, 0, none⟩ = some (.int .i64 48) ∧ w'.cell? ⟨w.heap.size, 1, none⟩ = some (.int .i64 63)) (first | exact ⟨by assumption, by assumption⟩) (first
    | (go_at_call 27; with_reducible refine (HM.out _).mono ?_; rintro e w1 ⟨rfl, hB1⟩; have hQ1 := place_seq hQ0 HS.out hB1; obtain ⟨x1, y1⟩ := HPC.out _ hQ1))
  all_goals
    go_wp2_with fail
    go_ret
    exact ⟨ret_int HWr.out, HPB.out _ hQ1⟩

set_option maxRecDepth 100000 in
set_option maxHeartbeats 1000000 in
theorem num_size (n : Int) (w : World) (h0 : 0 ≤ n) (h1 : n ≤ 18446744073709551615) :
    Calls Tryd.prog 19 #[.agg #[.int .i64 32, .int .i64 34], .int .u64 n] w fun e w' => e = .returned (.int .i64 (n / 4294967296 % 8)) ∧ Below w.heap.size w w' := by
  have HPC := Lib.hid (fun w' h => place_cells w 32 34 (w' := w') h)
  have HPB := Lib.hid (fun w' h => place_below w 32 34 (w' := w') h)
  have HM := Lib.hid (fun w => most_any 32 34 3 4294967296 8 7 w pl_size)
  obtain ⟨W, hW⟩ : ∃ W, w.alloc (.cells #[.int .i64 32, .int .i64 34] 51) = W := ⟨_, rfl⟩
  have HS : Hid (w.heap.size + 1 ≤ W.heap.size) := Lib.hid (by rw [← hW]; simp)
  rw [hW] at HPC HPB
  have hd : bits BinOp.and IntKind.u64 (n / 4294967296) 7 = n / 4294967296 % 8 := and_lowC _ _ _ (by omega) (by omega) ⟨3, by decide, by decide, by decide⟩
  obtain ⟨R, hR⟩ : ∃ R, n / 4294967296 % 8 = R := ⟨_, rfl⟩
  have hb : 0 ≤ R ∧ R ≤ 4294967295 := by omega
  have HWr : Hid (IntKind.i64.wrap R = R) := Lib.hid (IntWalk.i64_in _ (by omega))
  rw [hR] at hd ⊢
  have HD := Lib.hid hd
  clear hd hR hb
  go_enter Tryd.func19, Tryd.ntmps19
  go_wp2_with fail
  have HW := Lib.hid hW
  clear hW
  have hQ0 : Below (w.heap.size + 1) W W.drew := (Below.refl _ _).drew
  obtain ⟨x0, y0⟩ := HPC.out _ hQ0
  have hdd := HD.out
  go_region_held3 (fun w' => w'.cell? ⟨w.heap.size, 0, none⟩ = some (.int .i64 32) ∧ w'.cell? ⟨w.heap.size, 1, none⟩ = some (.int .i64 34)) (first | exact ⟨by assumption, by assumption⟩) (first
    | (go_at_call 27; with_reducible refine (HM.out _).mono ?_; rintro e w1 ⟨rfl, hB1⟩; have hQ1 := place_seq hQ0 HS.out hB1; obtain ⟨x1, y1⟩ := HPC.out _ hQ1))
  all_goals
    go_wp2_with fail
    go_ret
    exact ⟨ret_int HWr.out, HPB.out _ hQ1⟩

set_option maxRecDepth 100000 in
set_option maxHeartbeats 1000000 in
theorem with_size (n : Int) (w : World) :
    Calls Tryd.prog 30 #[.agg #[.int .i64 32, .int .i64 34], .int .i64 n] w fun e w' => e = .returned (.int .u64 (n % 8 * 4294967296)) ∧ Below w.heap.size w w' := by
  have HPC := Lib.hid (fun w' h => place_cells w 32 34 (w' := w') h)
  have HPB := Lib.hid (fun w' h => place_below w 32 34 (w' := w') h)
  have HM := Lib.hid (fun w => most_any 32 34 3 4294967296 8 7 w pl_size)
  obtain ⟨W, hW⟩ : ∃ W, w.alloc (.cells #[.int .i64 32, .int .i64 34] 51) = W := ⟨_, rfl⟩
  have HS : Hid (w.heap.size + 1 ≤ W.heap.size) := Lib.hid (by rw [← hW]; simp)
  rw [hW] at HPC HPB
  have hd : bits BinOp.and IntKind.u64 (IntKind.u64.wrap n) 7 = n % 8 := by
    rw [IntKind.wrap_u64, and_lowC _ _ 8 (by omega) (by omega) ⟨3, by decide, by decide, by decide⟩]
    omega
  obtain ⟨R, hR⟩ : ∃ R, n % 8 = R := ⟨_, rfl⟩
  have hb : 0 ≤ R ∧ R < 8 := by omega
  have HWr : Hid (IntKind.u64.wrap (R * 4294967296) = R * 4294967296) := Lib.hid (by rw [IntKind.wrap_u64]; omega)
  rw [hR] at hd ⊢
  have HD := Lib.hid hd
  clear hd hR hb
  go_enter Tryd.func30, Tryd.ntmps30
  go_wp2_with fail
  have HW := Lib.hid hW
  clear hW
  have hQ0 : Below (w.heap.size + 1) W W.drew := (Below.refl _ _).drew
  obtain ⟨x0, y0⟩ := HPC.out _ hQ0
  have hdd := HD.out
  go_region_held3 (fun w' => w'.cell? ⟨w.heap.size, 0, none⟩ = some (.int .i64 32) ∧ w'.cell? ⟨w.heap.size, 1, none⟩ = some (.int .i64 34)) (first | exact ⟨by assumption, by assumption⟩) (first
    | (go_at_call 27; with_reducible refine (HM.out _).mono ?_; rintro e w1 ⟨rfl, hB1⟩; have hQ1 := place_seq hQ0 HS.out hB1; obtain ⟨x1, y1⟩ := HPC.out _ hQ1))
  all_goals
    go_wp2_with fail
    go_ret
    exact ⟨ret_int HWr.out, HPB.out _ hQ1⟩

set_option maxRecDepth 100000 in
set_option maxHeartbeats 1000000 in
theorem num_count (n : Int) (w : World) (h0 : 0 ≤ n) (h1 : n ≤ 18446744073709551615) :
    Calls Tryd.prog 19 #[.agg #[.int .i64 35, .int .i64 63], .int .u64 n] w fun e w' => e = .returned (.int .i64 (n / 34359738368 % 536870912)) ∧ Below w.heap.size w w' := by
  have HPC := Lib.hid (fun w' h => place_cells w 35 63 (w' := w') h)
  have HPB := Lib.hid (fun w' h => place_below w 35 63 (w' := w') h)
  have HM := Lib.hid (fun w => most_any 35 63 29 34359738368 536870912 536870911 w pl_count)
  obtain ⟨W, hW⟩ : ∃ W, w.alloc (.cells #[.int .i64 35, .int .i64 63] 51) = W := ⟨_, rfl⟩
  have HS : Hid (w.heap.size + 1 ≤ W.heap.size) := Lib.hid (by rw [← hW]; simp)
  rw [hW] at HPC HPB
  have hd : bits BinOp.and IntKind.u64 (n / 34359738368) 536870911 = n / 34359738368 % 536870912 := and_lowC _ _ _ (by omega) (by omega) ⟨29, by decide, by decide, by decide⟩
  obtain ⟨R, hR⟩ : ∃ R, n / 34359738368 % 536870912 = R := ⟨_, rfl⟩
  have hb : 0 ≤ R ∧ R ≤ 4294967295 := by omega
  have HWr : Hid (IntKind.i64.wrap R = R) := Lib.hid (IntWalk.i64_in _ (by omega))
  rw [hR] at hd ⊢
  have HD := Lib.hid hd
  clear hd hR hb
  go_enter Tryd.func19, Tryd.ntmps19
  go_wp2_with fail
  have HW := Lib.hid hW
  clear hW
  have hQ0 : Below (w.heap.size + 1) W W.drew := (Below.refl _ _).drew
  obtain ⟨x0, y0⟩ := HPC.out _ hQ0
  have hdd := HD.out
  go_region_held3 (fun w' => w'.cell? ⟨w.heap.size, 0, none⟩ = some (.int .i64 35) ∧ w'.cell? ⟨w.heap.size, 1, none⟩ = some (.int .i64 63)) (first | exact ⟨by assumption, by assumption⟩) (first
    | (go_at_call 27; with_reducible refine (HM.out _).mono ?_; rintro e w1 ⟨rfl, hB1⟩; have hQ1 := place_seq hQ0 HS.out hB1; obtain ⟨x1, y1⟩ := HPC.out _ hQ1))
  all_goals
    go_wp2_with fail
    go_ret
    exact ⟨ret_int HWr.out, HPB.out _ hQ1⟩

set_option maxRecDepth 100000 in
set_option maxHeartbeats 1000000 in
theorem with_count (n : Int) (w : World) :
    Calls Tryd.prog 30 #[.agg #[.int .i64 35, .int .i64 63], .int .i64 n] w fun e w' => e = .returned (.int .u64 (n % 536870912 * 34359738368)) ∧ Below w.heap.size w w' := by
  have HPC := Lib.hid (fun w' h => place_cells w 35 63 (w' := w') h)
  have HPB := Lib.hid (fun w' h => place_below w 35 63 (w' := w') h)
  have HM := Lib.hid (fun w => most_any 35 63 29 34359738368 536870912 536870911 w pl_count)
  obtain ⟨W, hW⟩ : ∃ W, w.alloc (.cells #[.int .i64 35, .int .i64 63] 51) = W := ⟨_, rfl⟩
  have HS : Hid (w.heap.size + 1 ≤ W.heap.size) := Lib.hid (by rw [← hW]; simp)
  rw [hW] at HPC HPB
  have hd : bits BinOp.and IntKind.u64 (IntKind.u64.wrap n) 536870911 = n % 536870912 := by
    rw [IntKind.wrap_u64, and_lowC _ _ 536870912 (by omega) (by omega) ⟨29, by decide, by decide, by decide⟩]
    omega
  obtain ⟨R, hR⟩ : ∃ R, n % 536870912 = R := ⟨_, rfl⟩
  have hb : 0 ≤ R ∧ R < 536870912 := by omega
  have HWr : Hid (IntKind.u64.wrap (R * 34359738368) = R * 34359738368) := Lib.hid (by rw [IntKind.wrap_u64]; omega)
  rw [hR] at hd ⊢
  have HD := Lib.hid hd
  clear hd hR hb
  go_enter Tryd.func30, Tryd.ntmps30
  go_wp2_with fail
  have HW := Lib.hid hW
  clear hW
  have hQ0 : Below (w.heap.size + 1) W W.drew := (Below.refl _ _).drew
  obtain ⟨x0, y0⟩ := HPC.out _ hQ0
  have hdd := HD.out
  go_region_held3 (fun w' => w'.cell? ⟨w.heap.size, 0, none⟩ = some (.int .i64 35) ∧ w'.cell? ⟨w.heap.size, 1, none⟩ = some (.int .i64 63)) (first | exact ⟨by assumption, by assumption⟩) (first
    | (go_at_call 27; with_reducible refine (HM.out _).mono ?_; rintro e w1 ⟨rfl, hB1⟩; have hQ1 := place_seq hQ0 HS.out hB1; obtain ⟨x1, y1⟩ := HPC.out _ hQ1))
  all_goals
    go_wp2_with fail
    go_ret
    exact ⟨ret_int HWr.out, HPB.out _ hQ1⟩

set_option maxRecDepth 100000 in
set_option maxHeartbeats 1000000 in
theorem num_dbl (n : Int) (w : World) (h0 : 0 ≤ n) (h1 : n ≤ 18446744073709551615) :
    Calls Tryd.prog 19 #[.agg #[.int .i64 2, .int .i64 2], .int .u64 n] w fun e w' => e = .returned (.int .i64 (n / 4 % 2)) ∧ Below w.heap.size w w' := by
  have HPC := Lib.hid (fun w' h => place_cells w 2 2 (w' := w') h)
  have HPB := Lib.hid (fun w' h => place_below w 2 2 (w' := w') h)
  have HM := Lib.hid (fun w => most_any 2 2 1 4 2 1 w pl_dbl)
  obtain ⟨W, hW⟩ : ∃ W, w.alloc (.cells #[.int .i64 2, .int .i64 2] 51) = W := ⟨_, rfl⟩
  have HS : Hid (w.heap.size + 1 ≤ W.heap.size) := Lib.hid (by rw [← hW]; simp)
  rw [hW] at HPC HPB
  have hd : bits BinOp.and IntKind.u64 (n / 4) 1 = n / 4 % 2 := and_lowC _ _ _ (by omega) (by omega) ⟨1, by decide, by decide, by decide⟩
  obtain ⟨R, hR⟩ : ∃ R, n / 4 % 2 = R := ⟨_, rfl⟩
  have hb : 0 ≤ R ∧ R ≤ 4294967295 := by omega
  have HWr : Hid (IntKind.i64.wrap R = R) := Lib.hid (IntWalk.i64_in _ (by omega))
  rw [hR] at hd ⊢
  have HD := Lib.hid hd
  clear hd hR hb
  go_enter Tryd.func19, Tryd.ntmps19
  go_wp2_with fail
  have HW := Lib.hid hW
  clear hW
  have hQ0 : Below (w.heap.size + 1) W W.drew := (Below.refl _ _).drew
  obtain ⟨x0, y0⟩ := HPC.out _ hQ0
  have hdd := HD.out
  go_region_held3 (fun w' => w'.cell? ⟨w.heap.size, 0, none⟩ = some (.int .i64 2) ∧ w'.cell? ⟨w.heap.size, 1, none⟩ = some (.int .i64 2)) (first | exact ⟨by assumption, by assumption⟩) (first
    | (go_at_call 27; with_reducible refine (HM.out _).mono ?_; rintro e w1 ⟨rfl, hB1⟩; have hQ1 := place_seq hQ0 HS.out hB1; obtain ⟨x1, y1⟩ := HPC.out _ hQ1))
  all_goals
    go_wp2_with fail
    go_ret
    exact ⟨ret_int HWr.out, HPB.out _ hQ1⟩

set_option maxRecDepth 100000 in
set_option maxHeartbeats 1000000 in
theorem with_dbl (n : Int) (w : World) :
    Calls Tryd.prog 30 #[.agg #[.int .i64 2, .int .i64 2], .int .i64 n] w fun e w' => e = .returned (.int .u64 (n % 2 * 4)) ∧ Below w.heap.size w w' := by
  have HPC := Lib.hid (fun w' h => place_cells w 2 2 (w' := w') h)
  have HPB := Lib.hid (fun w' h => place_below w 2 2 (w' := w') h)
  have HM := Lib.hid (fun w => most_any 2 2 1 4 2 1 w pl_dbl)
  obtain ⟨W, hW⟩ : ∃ W, w.alloc (.cells #[.int .i64 2, .int .i64 2] 51) = W := ⟨_, rfl⟩
  have HS : Hid (w.heap.size + 1 ≤ W.heap.size) := Lib.hid (by rw [← hW]; simp)
  rw [hW] at HPC HPB
  have hd : bits BinOp.and IntKind.u64 (IntKind.u64.wrap n) 1 = n % 2 := by
    rw [IntKind.wrap_u64, and_lowC _ _ 2 (by omega) (by omega) ⟨1, by decide, by decide, by decide⟩]
    omega
  obtain ⟨R, hR⟩ : ∃ R, n % 2 = R := ⟨_, rfl⟩
  have hb : 0 ≤ R ∧ R < 2 := by omega
  have HWr : Hid (IntKind.u64.wrap (R * 4) = R * 4) := Lib.hid (by rw [IntKind.wrap_u64]; omega)
  rw [hR] at hd ⊢
  have HD := Lib.hid hd
  clear hd hR hb
  go_enter Tryd.func30, Tryd.ntmps30
  go_wp2_with fail
  have HW := Lib.hid hW
  clear hW
  have hQ0 : Below (w.heap.size + 1) W W.drew := (Below.refl _ _).drew
  obtain ⟨x0, y0⟩ := HPC.out _ hQ0
  have hdd := HD.out
  go_region_held3 (fun w' => w'.cell? ⟨w.heap.size, 0, none⟩ = some (.int .i64 2) ∧ w'.cell? ⟨w.heap.size, 1, none⟩ = some (.int .i64 2)) (first | exact ⟨by assumption, by assumption⟩) (first
    | (go_at_call 27; with_reducible refine (HM.out _).mono ?_; rintro e w1 ⟨rfl, hB1⟩; have hQ1 := place_seq hQ0 HS.out hB1; obtain ⟨x1, y1⟩ := HPC.out _ hQ1))
  all_goals
    go_wp2_with fail
    go_ret
    exact ⟨ret_int HWr.out, HPB.out _ hQ1⟩

set_option maxRecDepth 100000 in
set_option maxHeartbeats 1000000 in
theorem num_far (n : Int) (w : World) (h0 : 0 ≤ n) (h1 : n ≤ 18446744073709551615) :
    Calls Tryd.prog 19 #[.agg #[.int .i64 3, .int .i64 31], .int .u64 n] w fun e w' => e = .returned (.int .i64 (n / 8 % 536870912)) ∧ Below w.heap.size w w' := by
  have HPC := Lib.hid (fun w' h => place_cells w 3 31 (w' := w') h)
  have HPB := Lib.hid (fun w' h => place_below w 3 31 (w' := w') h)
  have HM := Lib.hid (fun w => most_any 3 31 29 8 536870912 536870911 w pl_far)
  obtain ⟨W, hW⟩ : ∃ W, w.alloc (.cells #[.int .i64 3, .int .i64 31] 51) = W := ⟨_, rfl⟩
  have HS : Hid (w.heap.size + 1 ≤ W.heap.size) := Lib.hid (by rw [← hW]; simp)
  rw [hW] at HPC HPB
  have hd : bits BinOp.and IntKind.u64 (n / 8) 536870911 = n / 8 % 536870912 := and_lowC _ _ _ (by omega) (by omega) ⟨29, by decide, by decide, by decide⟩
  obtain ⟨R, hR⟩ : ∃ R, n / 8 % 536870912 = R := ⟨_, rfl⟩
  have hb : 0 ≤ R ∧ R ≤ 4294967295 := by omega
  have HWr : Hid (IntKind.i64.wrap R = R) := Lib.hid (IntWalk.i64_in _ (by omega))
  rw [hR] at hd ⊢
  have HD := Lib.hid hd
  clear hd hR hb
  go_enter Tryd.func19, Tryd.ntmps19
  go_wp2_with fail
  have HW := Lib.hid hW
  clear hW
  have hQ0 : Below (w.heap.size + 1) W W.drew := (Below.refl _ _).drew
  obtain ⟨x0, y0⟩ := HPC.out _ hQ0
  have hdd := HD.out
  go_region_held3 (fun w' => w'.cell? ⟨w.heap.size, 0, none⟩ = some (.int .i64 3) ∧ w'.cell? ⟨w.heap.size, 1, none⟩ = some (.int .i64 31)) (first | exact ⟨by assumption, by assumption⟩) (first
    | (go_at_call 27; with_reducible refine (HM.out _).mono ?_; rintro e w1 ⟨rfl, hB1⟩; have hQ1 := place_seq hQ0 HS.out hB1; obtain ⟨x1, y1⟩ := HPC.out _ hQ1))
  all_goals
    go_wp2_with fail
    go_ret
    exact ⟨ret_int HWr.out, HPB.out _ hQ1⟩

set_option maxRecDepth 100000 in
set_option maxHeartbeats 1000000 in
theorem with_far (n : Int) (w : World) :
    Calls Tryd.prog 30 #[.agg #[.int .i64 3, .int .i64 31], .int .i64 n] w fun e w' => e = .returned (.int .u64 (n % 536870912 * 8)) ∧ Below w.heap.size w w' := by
  have HPC := Lib.hid (fun w' h => place_cells w 3 31 (w' := w') h)
  have HPB := Lib.hid (fun w' h => place_below w 3 31 (w' := w') h)
  have HM := Lib.hid (fun w => most_any 3 31 29 8 536870912 536870911 w pl_far)
  obtain ⟨W, hW⟩ : ∃ W, w.alloc (.cells #[.int .i64 3, .int .i64 31] 51) = W := ⟨_, rfl⟩
  have HS : Hid (w.heap.size + 1 ≤ W.heap.size) := Lib.hid (by rw [← hW]; simp)
  rw [hW] at HPC HPB
  have hd : bits BinOp.and IntKind.u64 (IntKind.u64.wrap n) 536870911 = n % 536870912 := by
    rw [IntKind.wrap_u64, and_lowC _ _ 536870912 (by omega) (by omega) ⟨29, by decide, by decide, by decide⟩]
    omega
  obtain ⟨R, hR⟩ : ∃ R, n % 536870912 = R := ⟨_, rfl⟩
  have hb : 0 ≤ R ∧ R < 536870912 := by omega
  have HWr : Hid (IntKind.u64.wrap (R * 8) = R * 8) := Lib.hid (by rw [IntKind.wrap_u64]; omega)
  rw [hR] at hd ⊢
  have HD := Lib.hid hd
  clear hd hR hb
  go_enter Tryd.func30, Tryd.ntmps30
  go_wp2_with fail
  have HW := Lib.hid hW
  clear hW
  have hQ0 : Below (w.heap.size + 1) W W.drew := (Below.refl _ _).drew
  obtain ⟨x0, y0⟩ := HPC.out _ hQ0
  have hdd := HD.out
  go_region_held3 (fun w' => w'.cell? ⟨w.heap.size, 0, none⟩ = some (.int .i64 3) ∧ w'.cell? ⟨w.heap.size, 1, none⟩ = some (.int .i64 31)) (first | exact ⟨by assumption, by assumption⟩) (first
    | (go_at_call 27; with_reducible refine (HM.out _).mono ?_; rintro e w1 ⟨rfl, hB1⟩; have hQ1 := place_seq hQ0 HS.out hB1; obtain ⟨x1, y1⟩ := HPC.out _ hQ1))
  all_goals
    go_wp2_with fail
    go_ret
    exact ⟨ret_int HWr.out, HPB.out _ hQ1⟩

set_option maxRecDepth 100000 in
set_option maxHeartbeats 1000000 in
theorem num_seg (n : Int) (w : World) (h0 : 0 ≤ n) (h1 : n ≤ 18446744073709551615) :
    Calls Tryd.prog 19 #[.agg #[.int .i64 32, .int .i64 63], .int .u64 n] w fun e w' => e = .returned (.int .i64 (n / 4294967296 % 4294967296)) ∧ Below w.heap.size w w' := by
  have HPC := Lib.hid (fun w' h => place_cells w 32 63 (w' := w') h)
  have HPB := Lib.hid (fun w' h => place_below w 32 63 (w' := w') h)
  have HM := Lib.hid (fun w => most_any 32 63 32 4294967296 4294967296 4294967295 w pl_seg)
  obtain ⟨W, hW⟩ : ∃ W, w.alloc (.cells #[.int .i64 32, .int .i64 63] 51) = W := ⟨_, rfl⟩
  have HS : Hid (w.heap.size + 1 ≤ W.heap.size) := Lib.hid (by rw [← hW]; simp)
  rw [hW] at HPC HPB
  have hd : bits BinOp.and IntKind.u64 (n / 4294967296) 4294967295 = n / 4294967296 % 4294967296 := and_lowC _ _ _ (by omega) (by omega) ⟨32, by decide, by decide, by decide⟩
  obtain ⟨R, hR⟩ : ∃ R, n / 4294967296 % 4294967296 = R := ⟨_, rfl⟩
  have hb : 0 ≤ R ∧ R ≤ 4294967295 := by omega
  have HWr : Hid (IntKind.i64.wrap R = R) := Lib.hid (IntWalk.i64_in _ (by omega))
  rw [hR] at hd ⊢
  have HD := Lib.hid hd
  clear hd hR hb
  go_enter Tryd.func19, Tryd.ntmps19
  go_wp2_with fail
  have HW := Lib.hid hW
  clear hW
  have hQ0 : Below (w.heap.size + 1) W W.drew := (Below.refl _ _).drew
  obtain ⟨x0, y0⟩ := HPC.out _ hQ0
  have hdd := HD.out
  go_region_held3 (fun w' => w'.cell? ⟨w.heap.size, 0, none⟩ = some (.int .i64 32) ∧ w'.cell? ⟨w.heap.size, 1, none⟩ = some (.int .i64 63)) (first | exact ⟨by assumption, by assumption⟩) (first
    | (go_at_call 27; with_reducible refine (HM.out _).mono ?_; rintro e w1 ⟨rfl, hB1⟩; have hQ1 := place_seq hQ0 HS.out hB1; obtain ⟨x1, y1⟩ := HPC.out _ hQ1))
  all_goals
    go_wp2_with fail
    go_ret
    exact ⟨ret_int HWr.out, HPB.out _ hQ1⟩

set_option maxRecDepth 100000 in
set_option maxHeartbeats 1000000 in
theorem with_seg (n : Int) (w : World) :
    Calls Tryd.prog 30 #[.agg #[.int .i64 32, .int .i64 63], .int .i64 n] w fun e w' => e = .returned (.int .u64 (n % 4294967296 * 4294967296)) ∧ Below w.heap.size w w' := by
  have HPC := Lib.hid (fun w' h => place_cells w 32 63 (w' := w') h)
  have HPB := Lib.hid (fun w' h => place_below w 32 63 (w' := w') h)
  have HM := Lib.hid (fun w => most_any 32 63 32 4294967296 4294967296 4294967295 w pl_seg)
  obtain ⟨W, hW⟩ : ∃ W, w.alloc (.cells #[.int .i64 32, .int .i64 63] 51) = W := ⟨_, rfl⟩
  have HS : Hid (w.heap.size + 1 ≤ W.heap.size) := Lib.hid (by rw [← hW]; simp)
  rw [hW] at HPC HPB
  have hd : bits BinOp.and IntKind.u64 (IntKind.u64.wrap n) 4294967295 = n % 4294967296 := by
    rw [IntKind.wrap_u64, and_lowC _ _ 4294967296 (by omega) (by omega) ⟨32, by decide, by decide, by decide⟩]
    omega
  obtain ⟨R, hR⟩ : ∃ R, n % 4294967296 = R := ⟨_, rfl⟩
  have hb : 0 ≤ R ∧ R < 4294967296 := by omega
  have HWr : Hid (IntKind.u64.wrap (R * 4294967296) = R * 4294967296) := Lib.hid (by rw [IntKind.wrap_u64]; omega)
  rw [hR] at hd ⊢
  have HD := Lib.hid hd
  clear hd hR hb
  go_enter Tryd.func30, Tryd.ntmps30
  go_wp2_with fail
  have HW := Lib.hid hW
  clear hW
  have hQ0 : Below (w.heap.size + 1) W W.drew := (Below.refl _ _).drew
  obtain ⟨x0, y0⟩ := HPC.out _ hQ0
  have hdd := HD.out
  go_region_held3 (fun w' => w'.cell? ⟨w.heap.size, 0, none⟩ = some (.int .i64 32) ∧ w'.cell? ⟨w.heap.size, 1, none⟩ = some (.int .i64 63)) (first | exact ⟨by assumption, by assumption⟩) (first
    | (go_at_call 27; with_reducible refine (HM.out _).mono ?_; rintro e w1 ⟨rfl, hB1⟩; have hQ1 := place_seq hQ0 HS.out hB1; obtain ⟨x1, y1⟩ := HPC.out _ hQ1))
  all_goals
    go_wp2_with fail
    go_ret
    exact ⟨ret_int HWr.out, HPB.out _ hQ1⟩

end Go.Proofs.YtknmbohokmeidaaDoor
