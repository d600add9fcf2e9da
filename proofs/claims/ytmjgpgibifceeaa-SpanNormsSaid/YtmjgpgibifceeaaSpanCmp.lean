/-
  Layer 4: how the program's sort compares two spans: cmp.Compare, cmp.Or, the closure of sorted.
-/
import Derived.Test.YtmjgpgibifceeaaSpanPut
import Derived.Lib.Small
import Derived.Sort.Grow
namespace Go.Proofs.Ytmjgpgibifceeaa
open Go.RowKit Go.Deep Go.Sort

set_option maxHeartbeats 400000 in
theorem cmp_any (x y : Int) (w : World) : Calls Try.prog 37 #[.int .i64 x, .int .i64 y] w fun e w' => e = .returned (.int .i64 (Lib.compareInt x y)) ∧ w' = w := by
  unfold Lib.compareInt
  by_cases h1 : x < y
  · have d1 : decide (x < y) = true := decide_eq_true h1
    rw [if_pos h1]
    go_enter Try.func37, Try.ntmps37
    go_wp2
    go_ret
    exact ⟨rfl, rfl⟩
  · have d1 : decide (x < y) = false := decide_eq_false h1
    rw [if_neg h1]
    by_cases h2 : y < x
    · have d2 : decide (y < x) = true := decide_eq_true h2
      rw [if_pos h2]
      go_enter Try.func37, Try.ntmps37
      go_wp2
      go_ret
      exact ⟨rfl, rfl⟩
    · have d2 : decide (y < x) = false := decide_eq_false h2
      rw [if_neg h2]
      go_enter Try.func37, Try.ntmps37
      go_wp2
      go_ret
      exact ⟨rfl, rfl⟩

def orI (p q : Int) : Int := if p = 0 then q else p
set_option maxHeartbeats 400000 in
theorem or_any (p q : Int) (b : Nat) (w : World) (c0 : w.cell? ⟨b, 0, none⟩ = some (.int .i64 p)) (c1 : w.cell? ⟨b, 1, none⟩ = some (.int .i64 q)) :
    Calls Try.prog 36 #[.slice (some ⟨b, 0, none⟩) 2 2] w fun e w' => e = .returned (.int .i64 (orI p q)) ∧ w' = w := by
  unfold orI
  by_cases h1 : p = 0
  · subst h1
    rw [if_pos rfl]
    by_cases h2 : q = 0
    · subst h2
      go_enter Try.func36, Try.ntmps36
      go_wp2
      refine wp_loop_rounds 3 ?_
      rw [rounds_succ]
      go_wp2
      rw [rounds_succ]
      go_wp2
      rw [rounds_succ]
      go_wp2
      go_ret
      exact ⟨rfl, rfl⟩
    · have d2 : (q == 0) = false := by simpa using h2
      go_enter Try.func36, Try.ntmps36
      go_wp2
      refine wp_loop_rounds 3 ?_
      rw [rounds_succ]
      go_wp2
      rw [rounds_succ]
      go_wp2
      go_ret
      exact ⟨rfl, rfl⟩
  · have d2 : (p == 0) = false := by simpa using h1
    rw [if_neg h1]
    go_enter Try.func36, Try.ntmps36
    go_wp2
    refine wp_loop_rounds 3 ?_
    rw [rounds_succ]
    go_wp2
    go_ret
    exact ⟨rfl, rfl⟩

def cmpS (x y : Sp) : Int := orI (Lib.compareInt x.1 y.1) (Lib.compareInt x.2 y.2)
set_option maxRecDepth 100000 in
set_option maxHeartbeats 1000000 in
theorem cmpS_any (x y : Sp) (w : World) : Calls Try.prog 35 #[.agg #[.int .i64 x.1, .int .i64 x.2], .agg #[.int .i64 y.1, .int .i64 y.2]] w fun e w' => e = .returned (.int .i64 (cmpS x y)) ∧ ∃ q os', w' = grow (w.drewN q) os' := by
  obtain ⟨a, b⟩ := x
  obtain ⟨a', b'⟩ := y
  obtain ⟨r, hr⟩ : ∃ r, cmpS (a, b) (a', b') = r := ⟨_, rfl⟩
  rw [hr]
  have HR := Lib.hid hr
  clear hr
  obtain ⟨c0, c1⟩ := (Box2.new w a b).cells
  go_enter Try.func35, Try.ntmps35
  go_wp2
  have e0 : ((w.alloc (.cells #[.int .i64 a, .int .i64 b] 24)).alloc (.cells #[.int .i64 a', .int .i64 b'] 24)) = grow w #[.cells #[.int .i64 a, .int .i64 b] 24, .cells #[.int .i64 a', .int .i64 b'] 24] := by rw [alloc_eq_grow, alloc_eq_grow, grow_grow]; rfl
  have b0 : Box2 ((w.alloc (.cells #[.int .i64 a, .int .i64 b] 24)).alloc (.cells #[.int .i64 a', .int .i64 b'] 24)) w.heap.size a b := (Box2.new w a b).of_block (Below.heap_alloc _ _ _ (by simp))
  have b1 : Box2 ((w.alloc (.cells #[.int .i64 a, .int .i64 b] 24)).alloc (.cells #[.int .i64 a', .int .i64 b'] 24)) (w.heap.size + 1) a' b' := by have := Box2.new (w.alloc (.cells #[.int .i64 a, .int .i64 b] 24)) a' b'; rwa [show (w.alloc (.cells #[.int .i64 a, .int .i64 b] 24)).heap.size = w.heap.size + 1 by simp] at this
  generalize ((w.alloc (.cells #[.int .i64 a, .int .i64 b] 24)).alloc (.cells #[.int .i64 a', .int .i64 b'] 24)) = W at *
  clear c0 c1
  obtain ⟨c0, c1⟩ := b0.cells
  obtain ⟨c2, c3⟩ := b1.cells
  have HE := Lib.hid e0
  clear e0 b0 b1
  refine wp_region_still_tail 10 (by kernel_rfl) (by kernel_rfl) ?_
  simp only [List.take_succ_cons, List.take_zero, List.drop_succ_cons, List.drop_zero]
  repeat still_step
  still_call (cmp_any a a' _)
  repeat still_step
  still_call (cmp_any b b' _)
  refine wpStill_nil ?_
  change wpList _ _ _ _ _ W.drew
  have HE2 : Hid (W.drew = grow (w.drewN 1) #[.cells #[.int .i64 a, .int .i64 b] 24, .cells #[.int .i64 a', .int .i64 b'] 24]) := Lib.hid (by rw [HE.out]; rfl)
  generalize W.drew = W2 at *
  clear c0 c1 c2 c3
  have HR2 : Hid (orI (Lib.compareInt a a') (Lib.compareInt b b') = r) := HR
  clear HR
  generalize Lib.compareInt a a' = p at *
  generalize Lib.compareInt b b' = q at *
  have c0 : (W2.alloc (.cells #[.int .i64 p, .int .i64 q] 3)).cell? ⟨W2.heap.size, 0, none⟩ = some (.int .i64 p) := by simp
  have c1 : (W2.alloc (.cells #[.int .i64 p, .int .i64 q] 3)).cell? ⟨W2.heap.size, 1, none⟩ = some (.int .i64 q) := by simp
  have HC := Lib.hid (or_any p q _ _ c0 c1)
  clear c0 c1
  go_wp2_with (go_at_call 36; refine (HC.out).mono ?_; rintro e w' ⟨rfl, rfl⟩)
  go_ret
  exact ⟨by rw [← HR2.out]; rfl, 1, _, by rw [alloc_eq_grow, HE2.out, grow_grow]⟩

end Go.Proofs.Ytmjgpgibifceeaa
