/-
  The walk of layer 4's law SpanBack: it returns true, and writes nothing that was there.
-/
import Derived.Test.YtmjgpgibifceeaaSpanLawsB
import Derived.Deep.RegionHeld3
namespace Go.Proofs.Ytmjgpgibifceeaa
open Go.RowKit Go.Deep

theorem same_below (v u : Value) (a b : List Sp) (q : Bool) (B B' : Nat) (w : World) (h : Spans w B v a) (h' : Spans w B' u b) (hlen : a.length ≤ 1000000000) (hlen' : b.length ≤ 1000000000) (hq : sameB a b = q) :
    Calls Try.prog 14 #[v, u] w fun e w' => e = .returned (.bool q) ∧ Below w.heap.size w w' := by
  refine (same_any v u a b B B' w h h' hlen hlen').mono ?_
  rintro e w' ⟨h1, n, rfl⟩
  exact ⟨by rw [h1, hq], below_drewN (Below.refl _ _) n⟩
theorem same_refl (a : List Sp) : sameB a a = true := decide_eq_true rfl

set_option maxRecDepth 100000 in
set_option maxHeartbeats 4000000 in
theorem back_walk (f t : Nat) (A : Option Addr) (len cap : Nat) (c : List Int) (w : World) (hf : f < 256) (ht : t < 256) (hc : AllB c) (hb : Bytes w w.heap.size (.slice A len cap) c) :
    Calls Try.prog 8 #[.slice A len cap, .int .u8 f, .int .u8 t] w fun e w' => e = .returned (.bool true) ∧ Below w.heap.size w w' := by
  have HY := Lib.hid hb
  have HA := Lib.hid hc
  have HAl := Lib.hid (rowL_all hc)
  have HLl := Lib.hid (rowL_length c)
  obtain ⟨F, hF⟩ : ∃ F : Int, (f : Int) % 80 = F := ⟨_, rfl⟩
  obtain ⟨T, hT⟩ : ∃ T : Int, (t : Int) % 80 = T := ⟨_, rfl⟩
  have F0 : 0 ≤ F ∧ F < 80 := by omega
  have T0 : 0 ≤ T ∧ T < 80 := by omega
  have t2 : (f : Int).tmod 80 = F := by rw [Int.tmod_eq_emod_of_nonneg (by omega)]; exact hF
  have t3 : (t : Int).tmod 80 = T := by rw [Int.tmod_eq_emod_of_nonneg (by omega)]; exact hT
  have HBL := Lib.hid (back_long (rowL c) (s := (F, T)) (by simp only; omega) (by simp only; omega) (by simp only; omega) (by simp only; omega))
  clear hc hb
  go_enter Try.func8, Try.ntmps8
  go_wp2_with fail
  refine (row_any _ c w HY.out HA.out).mono ?_
  rintro e w1 ⟨v1, rfl, ho1, hB1⟩
  have HL1 := Lib.hid ho1.spans
  clear ho1
  generalize rowL c = l at *
  go_wp2_with fail
  have hB1a := (Below.refl w1.heap.size w1).alloc (Nat.le_refl _) (.cells #[.int .i64 F, .int .i64 T] 24)
  refine (holes_any _ l F T _ (HL1.out.on hB1a) HAl.out (by have := HLl.out; omega)).mono ?_
  rintro e w2 ⟨v2, rfl, ho2, hB2⟩
  have hBa : Below w1.heap.size w1 w2 := hB1a.trans (hB2.mono hB1a.size)
  have hbx := (Box2.new w1 F T).of_block (w' := w2) (hB2.block _ (by simp))
  have HBX := Lib.hid hbx
  have hbs0 := hbx.lt
  obtain ⟨z0, z1⟩ := hbx.cells
  have HAh := Lib.hid (holes_all l (s := (F, T)) (by simp only; omega) (by simp only; omega))
  have HLh : Hid ((holesL l (F, T)).length ≤ 31) := Lib.hid (by have := holes_length HAl.out (F, T); have := HLl.out; omega)
  have HAx := Lib.hid (holes_all (holesL l (F, T)) (s := (F, T)) (by simp only; omega) (by simp only; omega))
  have HLx : Hid ((holesL (holesL l (F, T)) (F, T)).length ≤ 32) := Lib.hid (by have := holes_length HAh.out (F, T); have := HLh.out; omega)
  have HHas : Hid (∀ u ∈ holesL (holesL l (F, T)) (F, T), hasL l u = true) := Lib.hid (fun _ hu => back_has hu)
  have HAg := Lib.hid (back_again l (F, T))
  have HL2 := Lib.hid ho2.spans
  have HL1b := Lib.hid (HL1.out.on hBa)
  clear hB2 hbx ho2
  generalize holesL l (F, T) = h at *
  go_wp2_with fail
  refine (holes_any _ h F T _ HL2.out HAh.out (by have := HLh.out; omega)).mono ?_
  rintro e w3 ⟨v3, rfl, ho3, hB3⟩
  have HX3 := Lib.hid ho3.spans
  have HL3 := Lib.hid (HL1b.out.on hB3)
  have HH3 := Lib.hid (HL2.out.on hB3)
  have s0 := (hB3.cell (p := ⟨w1.heap.size, 0, none⟩) hbs0).trans z0
  have s1 := (hB3.cell (p := ⟨w1.heap.size, 1, none⟩) hbs0).trans z1
  have hbs : w1.heap.size < w3.heap.size := Nat.lt_of_lt_of_le hbs0 hB3.size
  have hB03 : Below w.heap.size w w3 := bseq (bseq hB1 hBa) hB3
  clear ho3 z0 z1
  generalize holesL h (F, T) = x at *
  obtain ⟨n, hn⟩ : ∃ n, n = x.length := ⟨_, rfl⟩
  obtain ⟨A3, c3, hv3, -, -, hr3⟩ := HX3.out
  rw [← hn] at hv3
  have HN := Lib.hid hn
  have HR3 := Lib.hid hr3
  have hn2 : n ≤ 32 := by rw [hn]; exact HLx.out
  have HS0 := Lib.hid s0
  have HS1 := Lib.hid s1
  clear hn hr3 s0 s1
  subst hv3
  go_wp2_with fail
  go_loopw [11] (fun i wr => ∃ t : Nat, t ≤ n ∧ i = .int .i64 t ∧ Below w3.heap.size w3 wr) (fun i _ => n - (intOf i).toNat)
  case atStart => exact ⟨0, by omega, rfl, Below.refl _ _⟩
  case round =>
    obtain ⟨t, ht, rfl, hB⟩ := hrel
    by_cases hlt : t < n
    · obtain ⟨b5, off5, rfl, hb5, hc5⟩ := HR3.out (by rw [← HN.out]; omega)
      obtain ⟨u0, u1⟩ := hc5 t (by rw [← HN.out]; exact hlt)
      have hc0 := (hB.cell (p := ⟨b5, off5 + t * 2, none⟩) hb5).trans u0
      have hc1 := (hB.cell (p := ⟨b5, off5 + t * 2 + 1, none⟩) hb5).trans u1
      have HH := Lib.hid (HHas.out (x[t]?.getD (0, 0)) (by rw [List.getElem?_eq_getElem (by rw [← HN.out]; exact hlt)]; exact List.getElem_mem _))
      clear hc5 u0 u1
      obtain ⟨u, hu⟩ : ∃ u, x[t]?.getD (0, 0) = u := ⟨_, rfl⟩
      rw [hu] at hc0 hc1 HH
      clear hu
      obtain ⟨x1, y1⟩ := u
      simp only at hc0 hc1
      go_wp2_with fail
      refine (has_any _ l x1 y1 wr (HL3.out.on hB) HAl.out (by have := HLl.out; omega)).mono ?_
      rintro e w5 ⟨rfl, hB5⟩
      rw [HH.out]
      go_wp2_with fail
      go_roundw
      case rel => exact ⟨t + 1, by omega, by go_num, bseq hB hB5⟩
      case measure => simp [intOf]; omega
    · obtain rfl : t = n := by omega
      have s0 := (hB.cell (p := ⟨w1.heap.size, 0, none⟩) hbs).trans HS0.out
      have s1 := (hB.cell (p := ⟨w1.heap.size, 1, none⟩) hbs).trans HS1.out
      obtain ⟨lx, hlx⟩ : ∃ q, longL x = q := ⟨_, rfl⟩
      obtain ⟨lh, hlh⟩ : ∃ q, longL h = q := ⟨_, rfl⟩
      obtain ⟨D, hD⟩ : ∃ D, T - F = D := ⟨_, rfl⟩
      obtain ⟨M, hM⟩ : ∃ M, max D 0 = M := ⟨_, rfl⟩
      have hs : lx + lh = M := by have := HBL.out; rw [hlx, hlh] at this; rw [hD] at this; omega
      have HLX := Lib.hid hlx
      have HLH := Lib.hid hlh
      have i1 : IntKind.i64.wrap (lx + lh) = M := by rw [hs]; exact IntWalk.i64_in _ (by omega)
      have i2 : IntKind.i64.wrap (T - F) = D := by rw [hD]; exact IntWalk.i64_in _ (by omega)
      have i3 : (if D < 0 then 0 else D) = M := by split <;> omega
      clear hlx hlh hD hs
      go_wp2_with fail
      go_region_held3 (fun w' => w'.cell? ⟨w1.heap.size, 0, none⟩ = some (.int .i64 F) ∧ w'.cell? ⟨w1.heap.size, 1, none⟩ = some (.int .i64 T)) (first | exact ⟨by assumption, by assumption⟩) (first
        | (go_at_call 10; refine (known_any _).mono ?_; rintro e wP ⟨rfl, hP⟩; have hQ0 := bseq hB (bseq ((Below.refl wr.heap.size wr).drew) hP); have q0 := (hQ0.cell (p := ⟨w1.heap.size, 0, none⟩) hbs).trans HS0.out; have q1 := (hQ0.cell (p := ⟨w1.heap.size, 1, none⟩) hbs).trans HS1.out)
        | (go_at_call 21; with_reducible refine (long_any _ x _ (HX3.out.on hQ0) HAx.out (by have := HLx.out; omega)).mono ?_; rintro e wR ⟨rfl, hR⟩; rw [HLX.out]; have hQ1 := bseq hQ0 hR; have r0 := (hQ1.cell (p := ⟨w1.heap.size, 0, none⟩) hbs).trans HS0.out; have r1 := (hQ1.cell (p := ⟨w1.heap.size, 1, none⟩) hbs).trans HS1.out)
        | (go_at_call 21; with_reducible refine (long_any _ h _ (HH3.out.on hQ1) HAh.out (by have := HLh.out; omega)).mono ?_; rintro e wT ⟨rfl, hT⟩; rw [HLH.out]; have hQ2 := bseq hQ1 hT; have r2 := (hQ2.cell (p := ⟨w1.heap.size, 0, none⟩) hbs).trans HS0.out; have r3 := (hQ2.cell (p := ⟨w1.heap.size, 1, none⟩) hbs).trans HS1.out)
        | (go_at_call 19; with_reducible refine (holes_any _ x F T _ (HX3.out.on hQ2) HAx.out (by have := HLx.out; omega)).mono ?_; rintro e wU ⟨vU, rfl, hoU, hU⟩; rw [HAg.out] at hoU; have HU := Lib.hid hoU.spans; have hQ3 := bseq hQ2 hU; have r4 := (hQ3.cell (p := ⟨w1.heap.size, 0, none⟩) hbs).trans HS0.out; have r5 := (hQ3.cell (p := ⟨w1.heap.size, 1, none⟩) hbs).trans HS1.out; clear hoU)
        | (go_at_call 14; with_reducible refine (same_below _ _ h h true _ _ _ HU.out (HH3.out.on hQ3) (by have := HLh.out; omega) (by have := HLh.out; omega) (same_refl h)).mono ?_; rintro e wV ⟨rfl, hV⟩; have hQ4 := bseq hQ3 hV; have r6 := (hQ4.cell (p := ⟨w1.heap.size, 0, none⟩) hbs).trans HS0.out; have r7 := (hQ4.cell (p := ⟨w1.heap.size, 1, none⟩) hbs).trans HS1.out))
      all_goals
        go_wp2_with fail
        go_ret
        exact ⟨by simp, bseq hB03 hQ4⟩

end Go.Proofs.Ytmjgpgibifceeaa
