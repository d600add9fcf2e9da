/-
  Layer 6: the package's laid.
-/
import Derived.Test.YtknmbohokmeidaaDoorPtrGo
import Derived.Deep.RegionHeld3
import Derived.Deep.DeepCutAuto
import Derived.Deep.CutBlock
namespace Go.Proofs.YtknmbohokmeidaaDoor
open Go.RowKit Go.Deep

theorem box_cells {w w' : World} {p : Pt} (h : Below (w.heap.size + 1) (w.alloc (.cells (cellsP p) 24)) w') : w'.cell? ⟨w.heap.size, 0, none⟩ = some (.int .i64 p.kind) ∧ w'.cell? ⟨w.heap.size, 1, none⟩ = some (.int .i64 p.off) ∧ w'.cell? ⟨w.heap.size, 2, none⟩ = some (.int .i64 p.data) ∧ w'.cell? ⟨w.heap.size, 3, none⟩ = some (.int .i64 p.ptrs) ∧ w'.cell? ⟨w.heap.size, 4, none⟩ = some (.int .i64 p.size) ∧ w'.cell? ⟨w.heap.size, 5, none⟩ = some (.int .i64 p.count) ∧ w'.cell? ⟨w.heap.size, 6, none⟩ = some (.int .i64 p.seg) ∧ w'.cell? ⟨w.heap.size, 7, none⟩ = some (.bool p.dbl) :=
  PBox.cells ((h.block w.heap.size (by omega)).trans (PBox.new w p))
theorem box_below {w w' : World} {p : Pt} (h : Below (w.heap.size + 1) (w.alloc (.cells (cellsP p) 24)) w') : Below w.heap.size w w' :=
  ((Below.refl _ _).alloc (Nat.le_refl _) _).trans (h.mono (by omega))

theorem row4_cells (w : World) (a b c d : Int) : ∀ i, i < 4 → (w.alloc (.cells #[.int .u64 a, .int .u64 b, .int .u64 c, .int .u64 d] 22)).cell? ⟨w.heap.size, i, none⟩ = some (.int .u64 (([a, b, c, d] : List Int).getD i 0)) := by
  intro i hi
  unfold World.cell?
  dsimp only
  rw [blk_alloc_new]
  rcases (show i = 0 ∨ i = 1 ∨ i = 2 ∨ i = 3 by omega) with rfl | rfl | rfl | rfl <;> rfl

set_option maxRecDepth 100000 in
set_option maxHeartbeats 1000000 in
theorem laid_1 (o d r s c g : Int) (b : Bool) (w : World) (L : Laid w) :
    Calls Tryd.prog 21 #[.agg (cellsP ⟨1, o, d, r, s, c, g, b⟩)] w fun e w' => e = .returned (.int .u64 (4 * (o % 1073741824) + d % 65536 * 4294967296 + r % 65536 * 281474976710656)) ∧ Below w.heap.size w w' := by
  have HPC := Lib.hid (fun w' h => box_cells (w := w) (p := ⟨1, o, d, r, s, c, g, b⟩) (w' := w') h)
  have HPB := Lib.hid (fun w' h => box_below (w := w) (p := ⟨1, o, d, r, s, c, g, b⟩) (w' := w') h)
  have HLL := Lib.hid (fun w' h => L.on (w' := w') h)
  obtain ⟨A, hA⟩ : ∃ X, (o : Int) % 1073741824 * 4 = X := ⟨_, rfl⟩
  obtain ⟨D, hD⟩ : ∃ X, (d : Int) % 65536 * 4294967296 = X := ⟨_, rfl⟩
  obtain ⟨R, hR⟩ : ∃ X, (r : Int) % 65536 * 281474976710656 = X := ⟨_, rfl⟩
  have HK := Lib.hid (fun w => with_kind 0 w)
  have HA := Lib.hid (fun w => with_off o w)
  rw [hA] at HA
  have HD := Lib.hid (fun w => with_data d w)
  rw [hD] at HD
  have HR := Lib.hid (fun w => with_ptrs r w)
  rw [hR] at HR
  have HO : Hid (orL [0, A, D, R] = 4 * (o % 1073741824) + d % 65536 * 4294967296 + r % 65536 * 281474976710656) := Lib.hid (by
    rw [orL4 0 A D R 2 32 48 (by omega) (by omega) (by omega) (by omega) (by decide) (by omega) (by omega) (by omega) (by omega) (by omega) (by omega)]
    omega)
  generalize 4 * (o % 1073741824) + d % 65536 * 4294967296 + r % 65536 * 281474976710656 = V at *
  clear hA hD hR L
  unfold cellsP at HPC HPB ⊢
  dsimp only at HPC HPB ⊢
  have HKeep0 : ∀ w', Below (w.heap.size + 1) (w.alloc (.cells #[.int .i64 1, .int .i64 o, .int .i64 d, .int .i64 r, .int .i64 s, .int .i64 c, .int .i64 g, .bool b] 24)) w' → w'.cell? ⟨1, 0, none⟩ = some (.int .i64 2) ∧ w'.cell? ⟨1, 1, none⟩ = some (.int .i64 31) ∧ w'.cell? ⟨2, 0, none⟩ = some (.int .i64 32) ∧ w'.cell? ⟨2, 1, none⟩ = some (.int .i64 47) ∧ w'.cell? ⟨3, 0, none⟩ = some (.int .i64 48) ∧ w'.cell? ⟨3, 1, none⟩ = some (.int .i64 63) ∧ w'.cell? ⟨w.heap.size, 1, none⟩ = some (.int .i64 o) ∧ w'.cell? ⟨w.heap.size, 2, none⟩ = some (.int .i64 d) ∧ w'.cell? ⟨w.heap.size, 3, none⟩ = some (.int .i64 r) := fun w' h => by
    obtain ⟨_, y1, y2, y3, _, _, _, _⟩ := HPC.out _ h
    have hl := HLL.out _ (HPB.out _ h)
    exact ⟨hl.off.1, hl.off.2, hl.data.1, hl.data.2, hl.ptrs.1, hl.ptrs.2, y1, y2, y3⟩
  have HKeep := Lib.hid HKeep0
  clear HKeep0
  obtain ⟨W, hW⟩ : ∃ W, w.alloc (.cells #[.int .i64 1, .int .i64 o, .int .i64 d, .int .i64 r, .int .i64 s, .int .i64 c, .int .i64 g, .bool b] 24) = W := ⟨_, rfl⟩
  have HS : Hid (w.heap.size + 1 ≤ W.heap.size) := Lib.hid (by rw [← hW]; simp)
  rw [hW] at HPC HPB HKeep
  have HLW := Lib.hid (HLL.out W (HPB.out W (Below.refl _ _)))
  obtain ⟨q0, q1⟩ := HLW.out.kind
  obtain ⟨z0, z1, z2, z3, z4, z5, z6, z7⟩ := HPC.out W (Below.refl _ _)
  go_enter Tryd.func21, Tryd.ntmps21
  go_wp2_with fail
  refine (HK.out _).mono ?_
  rintro e w1 ⟨rfl, hB1⟩
  have hQ1 := place_seq (Below.refl (w.heap.size + 1) W) HS.out hB1
  clear z0 z1 z2 z3 z4 z5 z6 z7 q0 q1 hW
  obtain ⟨z0, z1, z2, z3, z4, z5, z6, z7⟩ := HPC.out w1 hQ1
  clear z4 z5 z6 z7
  go_wp2_with fail
  have hR0 : Below (w.heap.size + 1) W w1.drew := hQ1.drew
  clear z0 z1 z2 z3
  have hK0 := HKeep.out _ hR0
  go_region_held3 (fun w' => w'.cell? ⟨1, 0, none⟩ = some (.int .i64 2) ∧ w'.cell? ⟨1, 1, none⟩ = some (.int .i64 31) ∧ w'.cell? ⟨2, 0, none⟩ = some (.int .i64 32) ∧ w'.cell? ⟨2, 1, none⟩ = some (.int .i64 47) ∧ w'.cell? ⟨3, 0, none⟩ = some (.int .i64 48) ∧ w'.cell? ⟨3, 1, none⟩ = some (.int .i64 63) ∧ w'.cell? ⟨w.heap.size, 1, none⟩ = some (.int .i64 o) ∧ w'.cell? ⟨w.heap.size, 2, none⟩ = some (.int .i64 d) ∧ w'.cell? ⟨w.heap.size, 3, none⟩ = some (.int .i64 r)) (first | exact HKeep.out _ hR0 | exact HKeep.out _ hR1 | exact HKeep.out _ hR2 | exact HKeep.out _ hR3 | exact HKeep.out _ hR4) (first
    | (go_at_call 30; with_reducible refine (HA.out _).mono ?_; rintro e w2 ⟨rfl, hB2⟩; have hR1 := place_seq hR0 (by have := HS.out; have := hR0.size; omega) hB2)
    | (go_at_call 30; with_reducible refine (HD.out _).mono ?_; rintro e w3 ⟨rfl, hB3⟩; have hR2 := place_seq hR1 (by have := HS.out; have := hR1.size; omega) hB3)
    | (go_at_call 30; with_reducible refine (HR.out _).mono ?_; rintro e w4 ⟨rfl, hB4⟩; have hR3 := place_seq hR2 (by have := HS.out; have := hR2.size; omega) hB4; have hR4 := hR3.alloc (by have := HS.out; have := hR3.size; omega) (.cells #[.int .u64 0, .int .u64 A, .int .u64 D, .int .u64 R] 22); have hJ := row4_cells w4 0 A D R)
    | (go_at_call 31; with_reducible refine (joined_any w4.heap.size 4 [0, A, D, R] _ rfl (by decide) hJ).mono ?_; rintro e w5 ⟨rfl, rfl⟩))
  all_goals
    go_wp2_with fail
    go_ret
    exact ⟨ret_int HO.out, HPB.out _ hR4⟩

set_option maxRecDepth 100000 in
set_option maxHeartbeats 1000000 in
theorem laid_2 (o d r s c g : Int) (b : Bool) (w : World) (L : Laid w) :
    Calls Tryd.prog 21 #[.agg (cellsP ⟨2, o, d, r, s, c, g, b⟩)] w fun e w' => e = .returned (.int .u64 (1 + 4 * (o % 1073741824) + s % 8 * 4294967296 + c % 536870912 * 34359738368)) ∧ Below w.heap.size w w' := by
  have HPC := Lib.hid (fun w' h => box_cells (w := w) (p := ⟨2, o, d, r, s, c, g, b⟩) (w' := w') h)
  have HPB := Lib.hid (fun w' h => box_below (w := w) (p := ⟨2, o, d, r, s, c, g, b⟩) (w' := w') h)
  have HLL := Lib.hid (fun w' h => L.on (w' := w') h)
  obtain ⟨A, hA⟩ : ∃ X, (o : Int) % 1073741824 * 4 = X := ⟨_, rfl⟩
  obtain ⟨D, hD⟩ : ∃ X, (s : Int) % 8 * 4294967296 = X := ⟨_, rfl⟩
  obtain ⟨R, hR⟩ : ∃ X, (c : Int) % 536870912 * 34359738368 = X := ⟨_, rfl⟩
  have HK := Lib.hid (fun w => with_kind 1 w)
  have HA := Lib.hid (fun w => with_off o w)
  rw [hA] at HA
  have HD := Lib.hid (fun w => with_size s w)
  rw [hD] at HD
  have HR := Lib.hid (fun w => with_count c w)
  rw [hR] at HR
  have HO : Hid (orL [1, A, D, R] = 1 + 4 * (o % 1073741824) + s % 8 * 4294967296 + c % 536870912 * 34359738368) := Lib.hid (by
    rw [orL4 1 A D R 2 32 35 (by omega) (by omega) (by omega) (by omega) (by decide) (by omega) (by omega) (by omega) (by omega) (by omega) (by omega)]
    omega)
  generalize 1 + 4 * (o % 1073741824) + s % 8 * 4294967296 + c % 536870912 * 34359738368 = V at *
  clear hA hD hR L
  unfold cellsP at HPC HPB ⊢
  dsimp only at HPC HPB ⊢
  have HKeep0 : ∀ w', Below (w.heap.size + 1) (w.alloc (.cells #[.int .i64 2, .int .i64 o, .int .i64 d, .int .i64 r, .int .i64 s, .int .i64 c, .int .i64 g, .bool b] 24)) w' → w'.cell? ⟨1, 0, none⟩ = some (.int .i64 2) ∧ w'.cell? ⟨1, 1, none⟩ = some (.int .i64 31) ∧ w'.cell? ⟨4, 0, none⟩ = some (.int .i64 32) ∧ w'.cell? ⟨4, 1, none⟩ = some (.int .i64 34) ∧ w'.cell? ⟨5, 0, none⟩ = some (.int .i64 35) ∧ w'.cell? ⟨5, 1, none⟩ = some (.int .i64 63) ∧ w'.cell? ⟨w.heap.size, 1, none⟩ = some (.int .i64 o) ∧ w'.cell? ⟨w.heap.size, 4, none⟩ = some (.int .i64 s) ∧ w'.cell? ⟨w.heap.size, 5, none⟩ = some (.int .i64 c) := fun w' h => by
    obtain ⟨_, y1, _, _, y4, y5, _, _⟩ := HPC.out _ h
    have hl := HLL.out _ (HPB.out _ h)
    exact ⟨hl.off.1, hl.off.2, hl.size.1, hl.size.2, hl.count.1, hl.count.2, y1, y4, y5⟩
  have HKeep := Lib.hid HKeep0
  clear HKeep0
  obtain ⟨W, hW⟩ : ∃ W, w.alloc (.cells #[.int .i64 2, .int .i64 o, .int .i64 d, .int .i64 r, .int .i64 s, .int .i64 c, .int .i64 g, .bool b] 24) = W := ⟨_, rfl⟩
  have HS : Hid (w.heap.size + 1 ≤ W.heap.size) := Lib.hid (by rw [← hW]; simp)
  rw [hW] at HPC HPB HKeep
  have HLW := Lib.hid (HLL.out W (HPB.out W (Below.refl _ _)))
  obtain ⟨q0, q1⟩ := HLW.out.kind
  obtain ⟨z0, z1, z2, z3, z4, z5, z6, z7⟩ := HPC.out W (Below.refl _ _)
  go_enter Tryd.func21, Tryd.ntmps21
  go_wp2_with fail
  refine (HK.out _).mono ?_
  rintro e w1 ⟨rfl, hB1⟩
  have hQ1 := place_seq (Below.refl (w.heap.size + 1) W) HS.out hB1
  clear z0 z1 z2 z3 z4 z5 z6 z7 q0 q1 hW
  obtain ⟨z0, z1, z2, z3, z4, z5, z6, z7⟩ := HPC.out w1 hQ1
  clear z4 z5 z6 z7
  go_wp2_with fail
  have hR0 : Below (w.heap.size + 1) W w1.drew := hQ1.drew
  clear z0 z1 z2 z3
  have hK0 := HKeep.out _ hR0
  go_region_held3 (fun w' => w'.cell? ⟨1, 0, none⟩ = some (.int .i64 2) ∧ w'.cell? ⟨1, 1, none⟩ = some (.int .i64 31) ∧ w'.cell? ⟨4, 0, none⟩ = some (.int .i64 32) ∧ w'.cell? ⟨4, 1, none⟩ = some (.int .i64 34) ∧ w'.cell? ⟨5, 0, none⟩ = some (.int .i64 35) ∧ w'.cell? ⟨5, 1, none⟩ = some (.int .i64 63) ∧ w'.cell? ⟨w.heap.size, 1, none⟩ = some (.int .i64 o) ∧ w'.cell? ⟨w.heap.size, 4, none⟩ = some (.int .i64 s) ∧ w'.cell? ⟨w.heap.size, 5, none⟩ = some (.int .i64 c)) (first | exact HKeep.out _ hR0 | exact HKeep.out _ hR1 | exact HKeep.out _ hR2 | exact HKeep.out _ hR3 | exact HKeep.out _ hR4) (first
    | (go_at_call 30; with_reducible refine (HA.out _).mono ?_; rintro e w2 ⟨rfl, hB2⟩; have hR1 := place_seq hR0 (by have := HS.out; have := hR0.size; omega) hB2)
    | (go_at_call 30; with_reducible refine (HD.out _).mono ?_; rintro e w3 ⟨rfl, hB3⟩; have hR2 := place_seq hR1 (by have := HS.out; have := hR1.size; omega) hB3)
    | (go_at_call 30; with_reducible refine (HR.out _).mono ?_; rintro e w4 ⟨rfl, hB4⟩; have hR3 := place_seq hR2 (by have := HS.out; have := hR2.size; omega) hB4; have hR4 := hR3.alloc (by have := HS.out; have := hR3.size; omega) (.cells #[.int .u64 1, .int .u64 A, .int .u64 D, .int .u64 R] 22); have hJ := row4_cells w4 1 A D R)
    | (go_at_call 31; with_reducible refine (joined_any w4.heap.size 4 [1, A, D, R] _ rfl (by decide) hJ).mono ?_; rintro e w5 ⟨rfl, rfl⟩))
  all_goals
    go_wp2_with fail
    go_ret
    exact ⟨ret_int HO.out, HPB.out _ hR4⟩

set_option maxRecDepth 100000 in
set_option maxHeartbeats 1000000 in
theorem laid_3t (o d r s c g : Int) (w : World) (L : Laid w) :
    Calls Tryd.prog 21 #[.agg (cellsP ⟨3, o, d, r, s, c, g, true⟩)] w fun e w' => e = .returned (.int .u64 (2 + 8 * (o % 536870912) + g % 4294967296 * 4294967296 + 4)) ∧ Below w.heap.size w w' := by
  have HPC := Lib.hid (fun w' h => box_cells (w := w) (p := ⟨3, o, d, r, s, c, g, true⟩) (w' := w') h)
  have HPB := Lib.hid (fun w' h => box_below (w := w) (p := ⟨3, o, d, r, s, c, g, true⟩) (w' := w') h)
  have HLL := Lib.hid (fun w' h => L.on (w' := w') h)
  obtain ⟨A, hA⟩ : ∃ X, (1 : Int) % 2 * 4 = X := ⟨_, rfl⟩
  obtain ⟨D, hD⟩ : ∃ X, (o : Int) % 536870912 * 8 = X := ⟨_, rfl⟩
  obtain ⟨R, hR⟩ : ∃ X, (g : Int) % 4294967296 * 4294967296 = X := ⟨_, rfl⟩
  have HK := Lib.hid (fun w => with_kind 2 w)
  have HA := Lib.hid (fun w => with_dbl 1 w)
  rw [hA] at HA
  have HD := Lib.hid (fun w => with_far o w)
  rw [hD] at HD
  have HR := Lib.hid (fun w => with_seg g w)
  rw [hR] at HR
  have HO : Hid (orL [2, A, D, R] = 2 + 8 * (o % 536870912) + g % 4294967296 * 4294967296 + 4) := Lib.hid (by
    rw [orL4 2 A D R 2 3 32 (by omega) (by omega) (by omega) (by omega) (by decide) (by omega) (by omega) (by omega) (by omega) (by omega) (by omega)]
    omega)
  generalize 2 + 8 * (o % 536870912) + g % 4294967296 * 4294967296 + 4 = V at *
  clear hA hD hR L
  unfold cellsP at HPC HPB ⊢
  dsimp only at HPC HPB ⊢
  have HKeep0 : ∀ w', Below (w.heap.size + 1) (w.alloc (.cells #[.int .i64 3, .int .i64 o, .int .i64 d, .int .i64 r, .int .i64 s, .int .i64 c, .int .i64 g, .bool true] 24)) w' → w'.cell? ⟨6, 0, none⟩ = some (.int .i64 2) ∧ w'.cell? ⟨6, 1, none⟩ = some (.int .i64 2) ∧ w'.cell? ⟨7, 0, none⟩ = some (.int .i64 3) ∧ w'.cell? ⟨7, 1, none⟩ = some (.int .i64 31) ∧ w'.cell? ⟨8, 0, none⟩ = some (.int .i64 32) ∧ w'.cell? ⟨8, 1, none⟩ = some (.int .i64 63) ∧ w'.cell? ⟨w.heap.size, 7, none⟩ = some (.bool true) ∧ w'.cell? ⟨w.heap.size, 1, none⟩ = some (.int .i64 o) ∧ w'.cell? ⟨w.heap.size, 6, none⟩ = some (.int .i64 g) := fun w' h => by
    obtain ⟨_, y1, _, _, _, _, y6, y7⟩ := HPC.out _ h
    have hl := HLL.out _ (HPB.out _ h)
    exact ⟨hl.dbl.1, hl.dbl.2, hl.far.1, hl.far.2, hl.seg.1, hl.seg.2, y7, y1, y6⟩
  have HKeep := Lib.hid HKeep0
  clear HKeep0
  obtain ⟨W, hW⟩ : ∃ W, w.alloc (.cells #[.int .i64 3, .int .i64 o, .int .i64 d, .int .i64 r, .int .i64 s, .int .i64 c, .int .i64 g, .bool true] 24) = W := ⟨_, rfl⟩
  have HS : Hid (w.heap.size + 1 ≤ W.heap.size) := Lib.hid (by rw [← hW]; simp)
  rw [hW] at HPC HPB HKeep
  have HLW := Lib.hid (HLL.out W (HPB.out W (Below.refl _ _)))
  obtain ⟨q0, q1⟩ := HLW.out.kind
  obtain ⟨z0, z1, z2, z3, z4, z5, z6, z7⟩ := HPC.out W (Below.refl _ _)
  go_enter Tryd.func21, Tryd.ntmps21
  go_wp2_with fail
  refine (HK.out _).mono ?_
  rintro e w1 ⟨rfl, hB1⟩
  have hQ1 := place_seq (Below.refl (w.heap.size + 1) W) HS.out hB1
  clear z0 z1 z2 z3 z4 z5 z6 z7 q0 q1 hW
  obtain ⟨z0, z1, z2, z3, z4, z5, z6, z7⟩ := HPC.out w1 hQ1
  clear z4 z5 z6 z7
  go_wp2_with fail
  have hR0 : Below (w.heap.size + 1) W w1.drew := hQ1.drew
  clear z0 z1 z2 z3
  have hK0 := HKeep.out _ hR0
  go_region_held3 (fun w' => w'.cell? ⟨6, 0, none⟩ = some (.int .i64 2) ∧ w'.cell? ⟨6, 1, none⟩ = some (.int .i64 2) ∧ w'.cell? ⟨7, 0, none⟩ = some (.int .i64 3) ∧ w'.cell? ⟨7, 1, none⟩ = some (.int .i64 31) ∧ w'.cell? ⟨8, 0, none⟩ = some (.int .i64 32) ∧ w'.cell? ⟨8, 1, none⟩ = some (.int .i64 63) ∧ w'.cell? ⟨w.heap.size, 7, none⟩ = some (.bool true) ∧ w'.cell? ⟨w.heap.size, 1, none⟩ = some (.int .i64 o) ∧ w'.cell? ⟨w.heap.size, 6, none⟩ = some (.int .i64 g)) (first | exact HKeep.out _ hR0 | exact HKeep.out _ hR1 | exact HKeep.out _ hR2 | exact HKeep.out _ hR3 | exact HKeep.out _ hR4) (first
    | (go_at_call 23; with_reducible refine (bit_any true _).mono ?_; rintro e w' ⟨rfl, rfl⟩)
    | (go_at_call 30; with_reducible refine (HA.out _).mono ?_; rintro e w2 ⟨rfl, hB2⟩; have hR1 := place_seq hR0 (by have := HS.out; have := hR0.size; omega) hB2)
    | (go_at_call 30; with_reducible refine (HD.out _).mono ?_; rintro e w3 ⟨rfl, hB3⟩; have hR2 := place_seq hR1 (by have := HS.out; have := hR1.size; omega) hB3)
    | (go_at_call 30; with_reducible refine (HR.out _).mono ?_; rintro e w4 ⟨rfl, hB4⟩; have hR3 := place_seq hR2 (by have := HS.out; have := hR2.size; omega) hB4; have hR4 := hR3.alloc (by have := HS.out; have := hR3.size; omega) (.cells #[.int .u64 2, .int .u64 A, .int .u64 D, .int .u64 R] 22); have hJ := row4_cells w4 2 A D R)
    | (go_at_call 31; with_reducible refine (joined_any w4.heap.size 4 [2, A, D, R] _ rfl (by decide) hJ).mono ?_; rintro e w5 ⟨rfl, rfl⟩))
  all_goals
    go_wp2_with fail
    go_ret
    exact ⟨ret_int HO.out, HPB.out _ hR4⟩

set_option maxRecDepth 100000 in
set_option maxHeartbeats 1000000 in
theorem laid_3f (o d r s c g : Int) (w : World) (L : Laid w) :
    Calls Tryd.prog 21 #[.agg (cellsP ⟨3, o, d, r, s, c, g, false⟩)] w fun e w' => e = .returned (.int .u64 (2 + 8 * (o % 536870912) + g % 4294967296 * 4294967296 + 0)) ∧ Below w.heap.size w w' := by
  have HPC := Lib.hid (fun w' h => box_cells (w := w) (p := ⟨3, o, d, r, s, c, g, false⟩) (w' := w') h)
  have HPB := Lib.hid (fun w' h => box_below (w := w) (p := ⟨3, o, d, r, s, c, g, false⟩) (w' := w') h)
  have HLL := Lib.hid (fun w' h => L.on (w' := w') h)
  obtain ⟨A, hA⟩ : ∃ X, (0 : Int) % 2 * 4 = X := ⟨_, rfl⟩
  obtain ⟨D, hD⟩ : ∃ X, (o : Int) % 536870912 * 8 = X := ⟨_, rfl⟩
  obtain ⟨R, hR⟩ : ∃ X, (g : Int) % 4294967296 * 4294967296 = X := ⟨_, rfl⟩
  have HK := Lib.hid (fun w => with_kind 2 w)
  have HA := Lib.hid (fun w => with_dbl 0 w)
  rw [hA] at HA
  have HD := Lib.hid (fun w => with_far o w)
  rw [hD] at HD
  have HR := Lib.hid (fun w => with_seg g w)
  rw [hR] at HR
  have HO : Hid (orL [2, A, D, R] = 2 + 8 * (o % 536870912) + g % 4294967296 * 4294967296 + 0) := Lib.hid (by
    rw [orL4 2 A D R 2 3 32 (by omega) (by omega) (by omega) (by omega) (by decide) (by omega) (by omega) (by omega) (by omega) (by omega) (by omega)]
    omega)
  generalize 2 + 8 * (o % 536870912) + g % 4294967296 * 4294967296 + 0 = V at *
  clear hA hD hR L
  unfold cellsP at HPC HPB ⊢
  dsimp only at HPC HPB ⊢
  have HKeep0 : ∀ w', Below (w.heap.size + 1) (w.alloc (.cells #[.int .i64 3, .int .i64 o, .int .i64 d, .int .i64 r, .int .i64 s, .int .i64 c, .int .i64 g, .bool false] 24)) w' → w'.cell? ⟨6, 0, none⟩ = some (.int .i64 2) ∧ w'.cell? ⟨6, 1, none⟩ = some (.int .i64 2) ∧ w'.cell? ⟨7, 0, none⟩ = some (.int .i64 3) ∧ w'.cell? ⟨7, 1, none⟩ = some (.int .i64 31) ∧ w'.cell? ⟨8, 0, none⟩ = some (.int .i64 32) ∧ w'.cell? ⟨8, 1, none⟩ = some (.int .i64 63) ∧ w'.cell? ⟨w.heap.size, 7, none⟩ = some (.bool false) ∧ w'.cell? ⟨w.heap.size, 1, none⟩ = some (.int .i64 o) ∧ w'.cell? ⟨w.heap.size, 6, none⟩ = some (.int .i64 g) := fun w' h => by
    obtain ⟨_, y1, _, _, _, _, y6, y7⟩ := HPC.out _ h
    have hl := HLL.out _ (HPB.out _ h)
    exact ⟨hl.dbl.1, hl.dbl.2, hl.far.1, hl.far.2, hl.seg.1, hl.seg.2, y7, y1, y6⟩
  have HKeep := Lib.hid HKeep0
  clear HKeep0
  obtain ⟨W, hW⟩ : ∃ W, w.alloc (.cells #[.int .i64 3, .int .i64 o, .int .i64 d, .int .i64 r, .int .i64 s, .int .i64 c, .int .i64 g, .bool false] 24) = W := ⟨_, rfl⟩
  have HS : Hid (w.heap.size + 1 ≤ W.heap.size) := Lib.hid (by rw [← hW]; simp)
  rw [hW] at HPC HPB HKeep
  have HLW := Lib.hid (HLL.out W (HPB.out W (Below.refl _ _)))
  obtain ⟨q0, q1⟩ := HLW.out.kind
  obtain ⟨z0, z1, z2, z3, z4, z5, z6, z7⟩ := HPC.out W (Below.refl _ _)
  go_enter Tryd.func21, Tryd.ntmps21
  go_wp2_with fail
  refine (HK.out _).mono ?_
  rintro e w1 ⟨rfl, hB1⟩
  have hQ1 := place_seq (Below.refl (w.heap.size + 1) W) HS.out hB1
  clear z0 z1 z2 z3 z4 z5 z6 z7 q0 q1 hW
  obtain ⟨z0, z1, z2, z3, z4, z5, z6, z7⟩ := HPC.out w1 hQ1
  clear z4 z5 z6 z7
  go_wp2_with fail
  have hR0 : Below (w.heap.size + 1) W w1.drew := hQ1.drew
  clear z0 z1 z2 z3
  have hK0 := HKeep.out _ hR0
  go_region_held3 (fun w' => w'.cell? ⟨6, 0, none⟩ = some (.int .i64 2) ∧ w'.cell? ⟨6, 1, none⟩ = some (.int .i64 2) ∧ w'.cell? ⟨7, 0, none⟩ = some (.int .i64 3) ∧ w'.cell? ⟨7, 1, none⟩ = some (.int .i64 31) ∧ w'.cell? ⟨8, 0, none⟩ = some (.int .i64 32) ∧ w'.cell? ⟨8, 1, none⟩ = some (.int .i64 63) ∧ w'.cell? ⟨w.heap.size, 7, none⟩ = some (.bool false) ∧ w'.cell? ⟨w.heap.size, 1, none⟩ = some (.int .i64 o) ∧ w'.cell? ⟨w.heap.size, 6, none⟩ = some (.int .i64 g)) (first | exact HKeep.out _ hR0 | exact HKeep.out _ hR1 | exact HKeep.out _ hR2 | exact HKeep.out _ hR3 | exact HKeep.out _ hR4) (first
    | (go_at_call 23; with_reducible refine (bit_any false _).mono ?_; rintro e w' ⟨rfl, rfl⟩)
    | (go_at_call 30; with_reducible refine (HA.out _).mono ?_; rintro e w2 ⟨rfl, hB2⟩; have hR1 := place_seq hR0 (by have := HS.out; have := hR0.size; omega) hB2)
    | (go_at_call 30; with_reducible refine (HD.out _).mono ?_; rintro e w3 ⟨rfl, hB3⟩; have hR2 := place_seq hR1 (by have := HS.out; have := hR1.size; omega) hB3)
    | (go_at_call 30; with_reducible refine (HR.out _).mono ?_; rintro e w4 ⟨rfl, hB4⟩; have hR3 := place_seq hR2 (by have := HS.out; have := hR2.size; omega) hB4; have hR4 := hR3.alloc (by have := HS.out; have := hR3.size; omega) (.cells #[.int .u64 2, .int .u64 A, .int .u64 D, .int .u64 R] 22); have hJ := row4_cells w4 2 A D R)
    | (go_at_call 31; with_reducible refine (joined_any w4.heap.size 4 [2, A, D, R] _ rfl (by decide) hJ).mono ?_; rintro e w5 ⟨rfl, rfl⟩))
  all_goals
    go_wp2_with fail
    go_ret
    exact ⟨ret_int HO.out, HPB.out _ hR4⟩

set_option maxRecDepth 100000 in
set_option maxHeartbeats 1000000 in
theorem laid_0 (k o d r s c g : Int) (b : Bool) (w : World) (L : Laid w) (hk : ¬ (k = 1 ∨ k = 2 ∨ k = 3)) :
    Calls Tryd.prog 21 #[.agg (cellsP ⟨k, o, d, r, s, c, g, b⟩)] w fun e w' => e = .returned (.int .u64 0) ∧ Below w.heap.size w w' := by
  have HPC := Lib.hid (fun w' h => box_cells (w := w) (p := ⟨k, o, d, r, s, c, g, b⟩) (w' := w') h)
  have HPB := Lib.hid (fun w' h => box_below (w := w) (p := ⟨k, o, d, r, s, c, g, b⟩) (w' := w') h)
  have HLL := Lib.hid (fun w' h => L.on (w' := w') h)
  have HK := Lib.hid (fun n w => with_kind n w)
  clear L
  unfold cellsP at HPC HPB ⊢
  dsimp only at HPC HPB ⊢
  obtain ⟨W, hW⟩ : ∃ W, w.alloc (.cells #[.int .i64 k, .int .i64 o, .int .i64 d, .int .i64 r, .int .i64 s, .int .i64 c, .int .i64 g, .bool b] 24) = W := ⟨_, rfl⟩
  have HS : Hid (w.heap.size + 1 ≤ W.heap.size) := Lib.hid (by rw [← hW]; simp)
  rw [hW] at HPC HPB
  have HLW := Lib.hid (HLL.out W (HPB.out W (Below.refl _ _)))
  obtain ⟨q0, q1⟩ := HLW.out.kind
  obtain ⟨z0, z1, z2, z3, z4, z5, z6, z7⟩ := HPC.out W (Below.refl _ _)
  have d1 : (k == 1) = false := by rw [beq_eq_false_iff_ne]; omega
  have d2 : (k == 2) = false := by rw [beq_eq_false_iff_ne]; omega
  have d3 : (k == 3) = false := by rw [beq_eq_false_iff_ne]; omega
  clear hk
  go_enter Tryd.func21, Tryd.ntmps21
  go_wp2_with fail
  refine (HK.out _ _).mono ?_
  rintro e w1 ⟨rfl, hB1⟩
  have hQ1 := place_seq (Below.refl (w.heap.size + 1) W) HS.out hB1
  clear z0 z1 z2 z3 z4 z5 z6 z7 q0 q1 hW
  obtain ⟨z0, z1, z2, z3, z4, z5, z6, z7⟩ := HPC.out w1 hQ1
  clear z4 z5 z6 z7
  go_wp2_with fail
  go_ret
  exact ⟨rfl, HPB.out _ hQ1⟩

theorem laid_any (p : Pt) (w : World) (L : Laid w) :
    Calls Tryd.prog 21 #[.agg (cellsP p)] w fun e w' => e = .returned (.int .u64 (rawW p)) ∧ Below w.heap.size w w' := by
  obtain ⟨k, o, d, r, s, c, g, b⟩ := p
  by_cases h1 : k = 1
  · subst h1
    exact laid_1 o d r s c g b w L
  by_cases h2 : k = 2
  · subst h2
    exact laid_2 o d r s c g b w L
  by_cases h3 : k = 3
  · subst h3
    cases b
    · exact laid_3f o d r s c g w L
    · exact laid_3t o d r s c g w L
  rw [show rawW ⟨k, o, d, r, s, c, g, b⟩ = 0 by simp [rawW, h1, h2, h3]]
  exact laid_0 k o d r s c g b w L (by omega)

end Go.Proofs.YtknmbohokmeidaaDoor
