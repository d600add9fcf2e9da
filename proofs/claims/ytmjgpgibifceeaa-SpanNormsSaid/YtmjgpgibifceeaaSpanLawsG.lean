/-
  The walk of layer 4's law SpanNorms: it returns true, and writes nothing that was there.
-/
import Derived.Test.YtmjgpgibifceeaaSpanNormsA
namespace Go.Proofs.Ytmjgpgibifceeaa
open Go.RowKit Go.Deep

set_option maxRecDepth 100000 in
set_option maxHeartbeats 8000000 in
theorem norms_walk (k : Nat) (x y : Int) (A : Option Addr) (len cap : Nat) (A2 : Option Addr) (len2 cap2 : Nat) (A3 : Option Addr) (len3 cap3 : Nat) (l : List Sp) (c b : List Int) (w : World) (hk : k < 256) (hlen : l.length = len) (hl : AllS l) (hs : Spans w w.heap.size (.slice A len cap) l)
    (x0 : -9223372036854775808 ≤ x) (x1 : x ≤ 9223372036854775807) (_y0 : -9223372036854775808 ≤ y) (_y1 : y ≤ 9223372036854775807) (hc : AllB c) (hbc : Bytes w w.heap.size (.slice A2 len2 cap2) c) (hlen3 : b.length = len3) (hb : AllB b) (hbb : Bytes w w.heap.size (.slice A3 len3 cap3) b) :
    Calls Try.prog 3 #[.slice A len cap, .agg #[.int .i64 x, .int .i64 y], .slice A2 len2 cap2, .slice A3 len3 cap3, .int .u8 k] w fun e w' => e = .returned (.bool true) ∧ Below w.heap.size w w' := by
  have hB0 : Below w.heap.size w (w.alloc (.cells #[.int .i64 x, .int .i64 y] 24)) := (Below.refl _ _).alloc (Nat.le_refl _) _
  have HS0 := Lib.hid (hs.on hB0)
  have HC0 := Lib.hid (hbc.on hB0)
  have HBb0 := Lib.hid (hbb.on hB0)
  by_cases h1 : 60 < len
  · have d0 : decide (60 < (len : Int)) = true := decide_eq_true (by omega)
    clear hs hbc hbb hlen hlen3
    go_enter Try.func3, Try.ntmps3
    go_wp2_with (go_at_call 10; refine (known_any _).mono ?_; rintro e w1 ⟨rfl, hB⟩)
    go_ret
    exact ⟨rfl, hB0.trans (hB.mono hB0.size)⟩
  · have d0 : decide (60 < (len : Int)) = false := decide_eq_false (by omega)
    by_cases h2 : 60 < len3
    · have d1 : decide (60 < (len3 : Int)) = true := decide_eq_true (by omega)
      clear hs hbc hbb hlen hlen3
      go_enter Try.func3, Try.ntmps3
      go_wp2_with (go_at_call 10; refine (known_any _).mono ?_; rintro e w1 ⟨rfl, hB⟩)
      go_ret
      exact ⟨rfl, hB0.trans (hB.mono hB0.size)⟩
    · have d1 : decide (60 < (len3 : Int)) = false := decide_eq_false (by omega)
      have HA := Lib.hid hl
      have HAn := Lib.hid (normL_all hl)
      have HAc := Lib.hid hc
      have HAb := Lib.hid hb
      have HAr := Lib.hid (rowL_all hc)
      have HLr := Lib.hid (rowL_length c)
      have HLl : Hid (l.length ≤ 60) := Lib.hid (by omega)
      have HLn : Hid ((normL l).length ≤ 60) := Lib.hid (by have := normL_length hl; omega)
      have HLb : Hid (b.length ≤ 60) := Lib.hid (by omega)
      have HLo : Hid ((ofL b).length ≤ 480) := Lib.hid (by have : (ofL b).length ≤ 8 * b.length := (ofTo_is b (8 * b.length) (by omega)).2.2.2; omega)
      obtain ⟨K1, hK1⟩ : ∃ q : Int, (k : Int) % 64 = q := ⟨_, rfl⟩
      obtain ⟨K2, hK2⟩ : ∃ q : Int, (k : Int) / 4 = q := ⟨_, rfl⟩
      have e1 : (k : Int).tmod 64 = K1 := by rw [Int.tmod_eq_emod_of_nonneg (by omega)]; exact hK1
      have e2 : (k : Int).tdiv 4 = K2 := by rw [Int.tdiv_eq_ediv_of_nonneg (by omega)]; exact hK2
      have b1 : 0 ≤ K1 ∧ K1 ≤ 63 := by omega
      have b2 : 0 ≤ K2 ∧ K2 ≤ 63 := by omega
      have i1 : IntKind.u8.wrap K1 = K1 := by simp only [IntKind.wrap, IntKind.bits, IntKind.signed]; simp; omega
      have i2 : IntKind.u8.wrap K2 = K2 := by simp only [IntKind.wrap, IntKind.bits, IntKind.signed]; simp; omega
      have i3 : IntKind.i64.wrap K1 = K1 := IntWalk.i64_in _ (by omega)
      have i4 : IntKind.i64.wrap K2 = K2 := IntWalk.i64_in _ (by omega)
      have hbx := Box2.new w x y
      clear hs hbc hbb hlen hlen3 hl hc hb hK1
      go_enter Try.func3, Try.ntmps3
      go_wp2_with fail
      generalize (w.alloc (.cells #[.int .i64 x, .int .i64 y] 24)) = W at *
      have HBx := Lib.hid hbx
      clear hbx
      refine (known_any _).mono ?_
      rintro e wk ⟨rfl, hBk⟩
      go_wp2_with fail
      have hQ0 : Below W.heap.size W wk.drew := hBk.drew
      obtain ⟨m0, n0⟩ := box_cells HBx.out hQ0
      go_region_held3 (fun w' => w'.cell? ⟨w.heap.size, 0, none⟩ = some (.int .i64 x) ∧ w'.cell? ⟨w.heap.size, 1, none⟩ = some (.int .i64 y)) (first | exact ⟨by assumption, by assumption⟩) (first
        | (go_at_call 11; with_reducible refine (norms_any _ l x y _ (HS0.out.on hQ0) HA.out (by have := HLl.out; omega) x0 x1).mono ?_; rintro e w1 ⟨rfl, hB1⟩; have hQ1 := bseq hQ0 hB1; obtain ⟨m1, n1⟩ := box_cells HBx.out hQ1)
        | (go_at_call 12; with_reducible refine (row_any _ c _ (HC0.out.on hQ1) HAc.out).mono ?_; rintro e w2 ⟨v2, rfl, ho2, hB2⟩; have HR2 := Lib.hid ho2.spans; have hQ2 := bseq hQ1 hB2; obtain ⟨m2, n2⟩ := box_cells HBx.out hQ2; clear ho2)
        | (go_at_call 11; with_reducible refine (norms_any _ (rowL c) K1 K2 _ HR2.out HAr.out (by have := HLr.out; omega) (by omega) (by omega)).mono ?_; rintro e w3 ⟨rfl, hB3⟩; have hQ3 := bseq hQ2 hB3; obtain ⟨m3, n3⟩ := box_cells HBx.out hQ3)
        | (go_at_call 13; with_reducible refine (rnorm_any _ l _ (HS0.out.on hQ3) HA.out (by have := HLl.out; omega)).mono ?_; rintro e w4 ⟨v4, rfl, ho4, hB4⟩; have HN4 := Lib.hid ho4.spans; have hQ4 := bseq hQ3 hB4; obtain ⟨m4, n4⟩ := box_cells HBx.out hQ4; clear ho4)
        | (go_at_call 11; with_reducible refine (norms_any _ (normL l) x y _ HN4.out HAn.out (by have := HLn.out; omega) x0 x1).mono ?_; rintro e w5 ⟨rfl, hB5⟩; have hQ5 := bseq hQ4 hB5; obtain ⟨m5, n5⟩ := box_cells HBx.out hQ5)
        | (go_at_call 15; with_reducible refine (of_any _ b _ (HBb0.out.on hQ5) HAb.out (by have := HLb.out; omega)).mono ?_; rintro e w6 ⟨v6, rfl, ho6, hB6⟩; have HO6 := Lib.hid ho6.spans; have hQ6 := bseq hQ5 hB6; obtain ⟨m6, n6⟩ := box_cells HBx.out hQ6; clear ho6)
        | (go_at_call 16; with_reducible refine (rof_any _ b _ (HBb0.out.on hQ6) HAb.out (by have := HLb.out; omega)).mono ?_; rintro e w7 ⟨v7, rfl, ho7, hB7⟩; have HO7 := Lib.hid ho7.spans; have HO6b := Lib.hid (HO6.out.on hB7); have hQ7 := bseq hQ6 hB7; obtain ⟨m7, n7⟩ := box_cells HBx.out hQ7; clear ho7)
        | (go_at_call 14; with_reducible refine (same_below _ _ (ofL b) (ofL b) true _ _ _ HO6b.out HO7.out (by have := HLo.out; omega) (by have := HLo.out; omega) (same_refl _)).mono ?_; rintro e w8 ⟨rfl, hB8⟩; have hQ8 := bseq hQ7 hB8; obtain ⟨m8, n8⟩ := box_cells HBx.out hQ8))
      all_goals
        go_wp2_with fail
        go_ret
        exact ⟨by simp, hB0.trans (hQ8.mono hB0.size)⟩

end Go.Proofs.Ytmjgpgibifceeaa
