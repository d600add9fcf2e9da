/-
  Layer 4, the law's own norms: the program's five calls and the document's answers, of one row of spans.
-/
import Derived.Test.YtmjgpgibifceeaaSpanLawsC
namespace Go.Proofs.Ytmjgpgibifceeaa
open Go.RowKit Go.Deep

theorem rright_below (v : Value) (l : List Sp) (B : Nat) (w : World) (h : Spans w B v l) (hl : AllS l) (hlen : l.length ≤ 1000000000) :
    Calls Try.prog 22 #[v] w fun e w' => e = .returned (.bool (rightB l)) ∧ Below w.heap.size w w' := by
  refine (rright_any v l B w h hl hlen).mono ?_
  rintro e w' ⟨h1, n, rfl⟩
  exact ⟨h1, below_drewN (Below.refl _ _) n⟩
theorem box_cells {W W' : World} {g : Nat} {p q : Int} (hb : Box2 W g p q) (h : Below W.heap.size W W') : W'.cell? ⟨g, 0, none⟩ = some (.int .i64 p) ∧ W'.cell? ⟨g, 1, none⟩ = some (.int .i64 q) :=
  ⟨(h.cell (p := ⟨g, 0, none⟩) hb.lt).trans hb.cells.1, (h.cell (p := ⟨g, 1, none⟩) hb.lt).trans hb.cells.2⟩

set_option maxRecDepth 100000 in
set_option maxHeartbeats 8000000 in
theorem norms_any (v : Value) (l : List Sp) (p q : Int) (w : World) (h : Spans w w.heap.size v l) (hl : AllS l) (hlen : l.length ≤ 1000) (p0 : -9223372036854775808 ≤ p) (p1 : p ≤ 9223372036854775807) :
    Calls Try.prog 11 #[v, .agg #[.int .i64 p, .int .i64 q]] w fun e w' => e = .returned (.bool true) ∧ Below w.heap.size w w' := by
  have hB0 : Below w.heap.size w (w.alloc (.cells #[.int .i64 p, .int .i64 q] 24)) := (Below.refl _ _).alloc (Nat.le_refl _) _
  have hbx := Box2.new w p q
  have HS0 := Lib.hid (h.on hB0)
  have HA := Lib.hid hl
  have HLe : Hid (l.length ≤ 1000000) := Lib.hid (by omega)
  have HLn : Hid ((normL l).length ≤ 1000000) := Lib.hid (by have := normL_length hl; omega)
  have HLh : Hid ((holesL l (p, q)).length ≤ 1000000) := Lib.hid (by have := holes_length hl (p, q); omega)
  obtain ⟨rb, hrb⟩ : ∃ b, rightB l = b := ⟨_, rfl⟩
  obtain ⟨hb, hhb⟩ : ∃ b, hasL l (p, q) = b := ⟨_, rfl⟩
  obtain ⟨lo, hlo⟩ : ∃ b, longL l = b := ⟨_, rfl⟩
  have HRb := Lib.hid hrb
  have HHb := Lib.hid hhb
  have HLo := Lib.hid hlo
  have d1 : (rb == rb) = true := by simp
  have d2 : (hb == hb) = true := by simp
  have d3 : (lo == lo) = true := by simp
  clear h hl hlen hrb hhb hlo
  go_enter Try.func11, Try.ntmps11
  go_wp2_with fail
  generalize (w.alloc (.cells #[.int .i64 p, .int .i64 q] 24)) = W at *
  have HBx := Lib.hid hbx
  have hQ0 : Below W.heap.size W W.drew := (Below.refl _ _).drew
  obtain ⟨x0, y0⟩ := box_cells HBx.out hQ0
  clear hbx
  go_region_held3 (fun w' => w'.cell? ⟨w.heap.size, 0, none⟩ = some (.int .i64 p) ∧ w'.cell? ⟨w.heap.size, 1, none⟩ = some (.int .i64 q)) (first | exact ⟨by assumption, by assumption⟩) (first
    | (go_at_call 17; with_reducible refine (norm_any _ l _ (HS0.out.on hQ0) HLe.out).mono ?_; rintro e w1 ⟨v1, rfl, ho1, hB1⟩; have HN1 := Lib.hid ho1.spans; have hQ1 := bseq hQ0 hB1; obtain ⟨x1, y1⟩ := box_cells HBx.out hQ1; clear ho1)
    | (go_at_call 13; with_reducible refine (rnorm_any _ l _ (HS0.out.on hQ1) HA.out HLe.out).mono ?_; rintro e w2 ⟨v2, rfl, ho2, hB2⟩; have HN2 := Lib.hid ho2.spans; have HN1b := Lib.hid (HN1.out.on hB2); have hQ2 := bseq hQ1 hB2; obtain ⟨x2, y2⟩ := box_cells HBx.out hQ2; clear ho2)
    | (go_at_call 14; with_reducible refine (same_below _ _ (normL l) (normL l) true _ _ _ HN1b.out HN2.out (by have := HLn.out; omega) (by have := HLn.out; omega) (same_refl _)).mono ?_; rintro e w3 ⟨rfl, hB3⟩; have hQ3 := bseq hQ2 hB3; obtain ⟨x3, y3⟩ := box_cells HBx.out hQ3)
    | (go_at_call 18; with_reducible refine (right_any _ l _ (HS0.out.on hQ3) HLe.out).mono ?_; rintro e w4 ⟨rfl, hB4⟩; rw [HRb.out]; have hQ4 := bseq hQ3 hB4; obtain ⟨x4, y4⟩ := box_cells HBx.out hQ4)
    | (go_at_call 22; with_reducible refine (rright_below _ l _ _ (HS0.out.on hQ4) HA.out (by have := HLe.out; omega)).mono ?_; rintro e w5 ⟨rfl, hB5⟩; rw [HRb.out]; have hQ5 := bseq hQ4 hB5; obtain ⟨x5, y5⟩ := box_cells HBx.out hQ5)
    | (go_at_call 20; with_reducible refine (has_any _ l p q _ (HS0.out.on hQ5) HA.out HLe.out).mono ?_; rintro e w6 ⟨rfl, hB6⟩; rw [HHb.out]; have hQ6 := bseq hQ5 hB6; obtain ⟨x6, y6⟩ := box_cells HBx.out hQ6)
    | (go_at_call 23; with_reducible refine (rhas_any _ l p q _ (HS0.out.on hQ6) HA.out HLe.out p0 p1).mono ?_; rintro e w7 ⟨rfl, hB7⟩; rw [HHb.out]; have hQ7 := bseq hQ6 hB7; obtain ⟨x7, y7⟩ := box_cells HBx.out hQ7))
  all_goals
    clear x0 y0 x1 y1 x2 y2 x3 y3 x4 y4 x5 y5 x6 y6
    go_wp2_with fail
    have hR0 : Below W.heap.size W w7.drew := hQ7.drew
    obtain ⟨x0, y0⟩ := box_cells HBx.out hR0
    go_region_held3 (fun w' => w'.cell? ⟨w.heap.size, 0, none⟩ = some (.int .i64 p) ∧ w'.cell? ⟨w.heap.size, 1, none⟩ = some (.int .i64 q)) (first | exact ⟨by assumption, by assumption⟩) (first
      | (go_at_call 19; with_reducible refine (holes_any _ l p q _ (HS0.out.on hR0) HA.out HLe.out).mono ?_; rintro e z1 ⟨u1, rfl, ko1, hC1⟩; have HM1 := Lib.hid ko1.spans; have hR1 := bseq hR0 hC1; obtain ⟨x1, y1⟩ := box_cells HBx.out hR1; clear ko1)
      | (go_at_call 24; with_reducible refine (rholes_any _ l p q _ (HS0.out.on hR1) HA.out HLe.out p0 p1).mono ?_; rintro e z2 ⟨u2, rfl, ko2, hC2⟩; have HM2 := Lib.hid ko2.spans; have HM1b := Lib.hid (HM1.out.on hC2); have hR2 := bseq hR1 hC2; obtain ⟨x2, y2⟩ := box_cells HBx.out hR2; clear ko2)
      | (go_at_call 14; with_reducible refine (same_below _ _ (holesL l (p, q)) (holesL l (p, q)) true _ _ _ HM1b.out HM2.out (by have := HLh.out; omega) (by have := HLh.out; omega) (same_refl _)).mono ?_; rintro e z3 ⟨rfl, hC3⟩; have hR3 := bseq hR2 hC3; obtain ⟨x3, y3⟩ := box_cells HBx.out hR3)
      | (go_at_call 21; with_reducible refine (long_any _ l _ (HS0.out.on hR3) HA.out HLe.out).mono ?_; rintro e z4 ⟨rfl, hC4⟩; rw [HLo.out]; have hR4 := bseq hR3 hC4; obtain ⟨x4, y4⟩ := box_cells HBx.out hR4)
      | (go_at_call 25; with_reducible refine (rlong_any _ l _ (HS0.out.on hR4) HA.out HLe.out).mono ?_; rintro e z5 ⟨rfl, hC5⟩; rw [HLo.out]; have hR5 := bseq hR4 hC5; obtain ⟨x5, y5⟩ := box_cells HBx.out hR5))
    all_goals
      go_wp2_with fail
      go_ret
      exact ⟨by simp, hB0.trans (hR5.mono hB0.size)⟩

end Go.Proofs.Ytmjgpgibifceeaa
