/-
  crc.Table: a new array of 256 numbers, each what eight Steps make of its index.
-/
import Derived.Test.YtgemllmfbglkhaaCrcNum
namespace Go.Proofs.Ytgemllmfbglkhaa
open Go.RowKit Go.Deep

theorem zero_tab (w : World) : (zeroValue 43).run Try.prog w = .ok (.agg (Array.replicate 256 (.int .u32 0))) w := by kernel_rfl
theorem tab_start (w : World) : (w.alloc (.cells (Array.replicate 256 (Value.int .u32 0)) 43)).rowIs w.heap.size 43 256 (fun i => .int .u32 ((if i < 0 then Ts 8 i else 0 : Nat) : Int)) := by
  have h := World.rowIs_alloc w (Array.replicate 256 (Value.int .u32 0)) 43 (fun i => .int .u32 ((if i < 0 then Ts 8 i else 0 : Nat) : Int)) (fun i hi => by simp at hi; simp [hi])
  rwa [Array.size_replicate] at h
theorem tab_step (t i : Nat) : (if i = t then Value.int .u32 (Ts 8 t : Nat) else Value.int .u32 ((if i < t then Ts 8 i else 0 : Nat) : Int)) = Value.int .u32 ((if i < t + 1 then Ts 8 i else 0 : Nat) : Int) := by
  by_cases h : i = t
  · subst h; simp
  · rw [if_neg h]
    by_cases h2 : i < t
    · rw [if_pos h2, if_pos (by omega)]
    · rw [if_neg h2, if_neg (by omega)]

set_option maxRecDepth 100000 in
set_option maxHeartbeats 4000000 in
theorem table_row (w : World) :
    Calls Try.prog 11 #[] w fun e w' => e = .returned (.pointer (some ⟨w.heap.size, 0, none⟩)) ∧ w'.rowIs w.heap.size 43 256 (fun i => .int .u32 (Ts 8 i : Nat)) ∧ Below w.heap.size w w' := by
  have hz := zero_tab
  go_enter Try.func11, Try.ntmps11
  go_wp2_with (go_at_call 23; refine (steps_any 8 _).mono ?_; rintro e w' ⟨rfl, rfl⟩)
  have hb := (World.rowIs_alloc (w.alloc (.cells (Array.replicate 256 (Value.int .u32 0)) 43)) #[Value.int .i64 8] 3 (fun _ => .int .i64 8) (fun i hi => by simp at hi; subst hi; rfl)).cell (i := 0) (by simp)
  rw [World.size_alloc] at hb
  go_loopw [5] (fun c wr => ∃ t : Nat, t ≤ 256 ∧ c = .int .i64 t ∧ wr.rowIs w.heap.size 43 256 (fun i => .int .u32 ((if i < t then Ts 8 i else 0 : Nat) : Int)) ∧ wr.cell? ⟨w.heap.size + 1, 0, none⟩ = some (.int .i64 8) ∧ Below w.heap.size w wr) (fun c _ => 256 - (intOf c).toNat)
  case atStart => exact ⟨0, by omega, rfl, (tab_start w).alloc _, hb, ((Below.refl _ _).alloc (Nat.le_refl _) _).alloc (by simp) _⟩
  case round =>
    obtain ⟨t, ht, rfl, hrow, hbox, hB⟩ := hrel
    clear hb hz
    by_cases hlt : t < 256
    · have hc := hrow.cell hlt
      have hf := hrow.frozen t
      go_wp2_with (go_at_call 28; refine (steps1_any t (w.heap.size + 1) _ (by omega) hbox).mono ?_; rintro e w' ⟨rfl, rfl⟩)
      go_roundw
      case rel => exact ⟨t + 1, by omega, by go_num, (hrow.set t _).congr (fun i _ => tab_step t i), by rw [World.cell?_setCell_other _ _ _ _ (by simp)]; exact hbox, hB.setCell (p := ⟨w.heap.size, t, none⟩) (Nat.le_refl _) _⟩
      case measure => simp [intOf]; omega
    · obtain rfl : t = 256 := by omega
      go_wp2
      go_ret
      exact ⟨rfl, hrow.congr (fun i hi => by simp [hi]), hB⟩

/-- a table that lies below block B -/
def TabAt (w : World) (B : Nat) (b : Nat) : Prop := b < B ∧ ∀ i, i < 256 → w.cell? ⟨b, i, none⟩ = some (.int .u32 (Ts 8 i : Nat))
theorem TabAt.below {w w' : World} {B B' b : Nat} (h : TabAt w B b) (hb : Below B' w w') (hB : B ≤ B') : TabAt w' B b := ⟨h.1, fun i hi => (hb.cell (p := ⟨b, i, none⟩) (by have := h.1; show b < B'; omega)).trans (h.2 i hi)⟩
theorem TabAt.more {w : World} {B B' b : Nat} (h : TabAt w B b) (hB : B ≤ B') : TabAt w B' b := ⟨by have := h.1; omega, h.2⟩
theorem TabAt.on {a b : World} {p : Nat} (h : TabAt a a.heap.size p) (k : Below a.heap.size a b) : TabAt b b.heap.size p := (h.below k (Nat.le_refl _)).more k.size

theorem table_any (w : World) :
    Calls Try.prog 11 #[] w fun e w' => e = .returned (.pointer (some ⟨w.heap.size, 0, none⟩)) ∧ TabAt w' w'.heap.size w.heap.size ∧ Below w.heap.size w w' := by
  refine (table_row w).mono ?_
  rintro e w' ⟨rfl, hrow, hB⟩
  exact ⟨rfl, ⟨hrow.lt, fun i hi => hrow.cell hi⟩, hB⟩

end Go.Proofs.Ytgemllmfbglkhaa
