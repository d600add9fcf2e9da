/-
  Layer 4, the program's Long and Right.
-/
import Derived.Test.YtmjgpgibifceeaaSpanGo
import Derived.Shelf.SlSortCmp.QuietGrown
namespace Go.Proofs.Ytmjgpgibifceeaa
open Go.RowKit Go.Deep Go.Sort

theorem wide_eq {x y : Int} (h : x < y) (x0 : -9223372036854775808 ≤ x) (y1 : y ≤ 9223372036854775807) : IntKind.u64.wrap (IntKind.u64.wrap y - IntKind.u64.wrap x) = y - x := by
  simp only [IntKind.wrap, IntKind.bits, IntKind.signed]
  simp
  omega

set_option maxRecDepth 100000 in
set_option maxHeartbeats 1000000 in
theorem long_any (v : Value) (l : List Sp) (w : World) (h : Spans w w.heap.size v l) (hl : AllS l) (hlen : l.length ≤ 1000000) :
    Calls Try.prog 21 #[v] w fun e w' => e = .returned (.int .i64 (longL l)) ∧ Below w.heap.size w w' := by
  have HSp := Lib.hid h
  have HA := Lib.hid hl
  have HLe := Lib.hid hlen
  have hnl := normL_length hl
  have HR := Lib.hid (norm_right l)
  have HE : Hid (longL l = min (total (normL l)) 9007199254740992) := Lib.hid rfl
  clear h hl hlen
  go_enter Try.func21, Try.ntmps21
  go_wp2_with fail
  refine (norm_any _ l _ HSp.out HLe.out).mono ?_
  rintro e w2 ⟨v2, rfl, ho2, hB2⟩
  have hAn := normL_all HA.out
  obtain ⟨A, c, rfl, hc, hm, hr⟩ := ho2.spans
  obtain ⟨len, hn⟩ : ∃ n, n = (normL l).length := ⟨_, rfl⟩
  have H := Lib.hid hr
  have HN := Lib.hid hn
  have HAn := Lib.hid hAn
  rw [← hn] at hnl ⊢
  have hnl2 : len ≤ 1000000 := by have := HLe.out; omega
  clear hr hn hAn ho2 hc
  generalize normL l = n at *
  go_wp2_with fail
  go_loopw [3, 10] (fun s i wr => ∃ (t : Nat) (k : Int), t ≤ len ∧ i = .int .i64 t ∧ s = .int .i64 k ∧ k = min (total (n.take t)) 9007199254740992 ∧ (0 ≤ k ∧ k ≤ 9007199254740992) ∧ Below w2.heap.size w2 wr) (fun _ i _ => len - (intOf i).toNat)
  case atStart => exact ⟨0, 0, by omega, rfl, rfl, by simp [total]; omega, by omega, Below.refl _ _⟩
  case round =>
    obtain ⟨t, s, ht, rfl, rfl, hs, ⟨s0, s1⟩, hB⟩ := hrel
    have hBw : Below w.heap.size w wr := hB2.trans (hB.mono hB2.size)
    have HS := Lib.hid hs
    clear hs
    by_cases hlt : t < len
    · obtain ⟨b, off, rfl, hb, hc⟩ := H.out (by rw [← HN.out]; omega)
      obtain ⟨u0, u1⟩ := hc t (by rw [← HN.out]; exact hlt)
      have hc0 := (hB.cell (p := ⟨b, off + t * 2, none⟩) hb).trans u0
      have hc1 := (hB.cell (p := ⟨b, off + t * 2 + 1, none⟩) hb).trans u1
      obtain ⟨k1, k2, k3, k4⟩ := HAn.out.at_ t
      obtain ⟨t1, t2, t3, t4⟩ := total_take HR.out (t := t) (by rw [← HN.out]; exact hlt)
      have HT := Lib.hid t1
      have HT3 := Lib.hid t3
      clear hc u0 u1 t1 t2 t3
      obtain ⟨u, hu⟩ : ∃ u, n[t]?.getD (0, 0) = u := ⟨_, rfl⟩
      rw [hu] at hc0 hc1 k1 k2 k3 k4 t4 HT
      clear hu
      obtain ⟨x, y⟩ := u
      simp only at hc0 hc1 k1 k2 k3 k4 t4
      have hw := wide_eq t4 k1 k4
      obtain ⟨d, hd⟩ : ∃ d, y - x = d := ⟨_, rfl⟩
      have HDD := Lib.hid hd
      have d0 : 0 ≤ d := by omega
      rw [hd] at hw
      obtain ⟨X, hX⟩ : ∃ X, IntKind.u64.wrap x = X := ⟨_, rfl⟩
      obtain ⟨Y, hY⟩ : ∃ Y, IntKind.u64.wrap y = Y := ⟨_, rfl⟩
      rw [hX, hY] at hw
      clear hd t4
      have hr1 : IntKind.u64.wrap (9007199254740992 - s) = 9007199254740992 - s := by simp only [IntKind.wrap, IntKind.bits, IntKind.signed]; simp; omega
      go_wp2_with fail
      go_roundw
      case rel => exact ⟨t + 1, s + min d (9007199254740992 - s), by omega, by go_num, rfl, by have := HT.out; have := HDD.out; have := HS.out; have := HT3.out; simp only at *; omega, by omega, hB.alloc hB.size _⟩
      case measure => simp [intOf]; omega
    · obtain rfl : t = len := by omega
      have e1 : n.take t = n := List.take_of_length_le (by rw [← HN.out]; exact Nat.le_refl _)
      have HF : Hid (s = longL l) := Lib.hid (by rw [HE.out, HS.out, e1])
      clear e1
      go_wp2
      go_ret
      exact ⟨ret_int HF.out, hBw⟩

theorem isEmpty_grown {x y : Int} {b : Bool} (hb : decide (y ≤ x) = b) (w : World) :
    Calls Try.prog 31 #[.agg #[.int .i64 x, .int .i64 y]] w fun e w' => e = .returned (.bool b) ∧ ∃ q os', w' = grow (w.drewN q) os' :=
  (isEmpty_any x y w).mono fun _ _ ⟨h1, h2⟩ => ⟨by rw [h1, hb], 0, #[.cells #[.int .i64 x, .int .i64 y] 24], by rw [h2, alloc_eq_grow]; rfl⟩
theorem below_grown {a b : World} {B : Nat} (h : Below B a b) (hB : B ≤ b.heap.size) (n : Nat) (os : Array Obj) : Below B a (grow (b.drewN n) os) :=
  ⟨h.os, h.tape, h.output, by have := h.size; simp [grow] at *; omega, fun k hk => (heap_grow_old _ _ (show k < (b.drewN n).heap.size from Nat.lt_of_lt_of_le hk hB)).trans (h.block k hk)⟩

set_option maxRecDepth 100000 in
set_option maxHeartbeats 1000000 in
theorem right_any (v : Value) (l : List Sp) (w : World) (h : Spans w w.heap.size v l) (hlen : l.length ≤ 1000000) :
    Calls Try.prog 18 #[v] w fun e w' => e = .returned (.bool (rightB l)) ∧ Below w.heap.size w w' := by
  obtain ⟨A, c, rfl, hc, hm, hr⟩ := h
  obtain ⟨len, hn⟩ : ∃ n, n = l.length := ⟨_, rfl⟩
  have H := Lib.hid hr
  have HN := Lib.hid hn
  have hlen' : len ≤ 1000000 := by omega
  rw [← hn]
  have mixed : Try.prog.follows .mixedOrders = true := by kernel_rfl
  clear hr hn hlen hc
  go_enter Try.func18, Try.ntmps18
  go_wp2
  go_loopw [7] (fun i wr => ∃ t : Nat, t ≤ len ∧ i = .int .i64 t ∧ rightTo l t ∧ Below w.heap.size w wr) (fun i _ => len - (intOf i).toNat)
  case atStart => exact ⟨0, by omega, rfl, fun i hi => by omega, Below.refl _ _⟩
  case round =>
    obtain ⟨t, ht, rfl, hrt, hB⟩ := hrel
    have HRT := Lib.hid hrt
    clear hrt
    by_cases hlt : t < len
    · obtain ⟨b, off, rfl, hb, hc⟩ := H.out (by rw [← HN.out]; omega)
      obtain ⟨u0, u1⟩ := hc t (by rw [← HN.out]; exact hlt)
      have hc0 := (hB.cell (p := ⟨b, off + t * 2, none⟩) hb).trans u0
      have hc1 := (hB.cell (p := ⟨b, off + t * 2 + 1, none⟩) hb).trans u1
      have HC := Lib.hid hc
      clear hc u0 u1
      generalize hs1 : (l[t]?.getD (0, 0)).1 = x at *
      generalize hs2 : (l[t]?.getD (0, 0)).2 = y at *
      have HS1 := Lib.hid hs1
      have HS2 := Lib.hid hs2
      clear hs1 hs2
      have hB1 := hB.alloc hB.size (.cells #[.int .i64 x, .int .i64 y] 24)
      have hX := Box2.new wr x y
      by_cases hbad : y ≤ x
      · have HF := Lib.hid (rightB_no (l := l) (t := t) (by rw [← HN.out]; exact hlt) (fun h => by have := h.1; rw [HS1.out, HS2.out] at this; omega))
        go_wp2
        generalize (wr.alloc (.cells #[.int .i64 x, .int .i64 y] 24)) = W at *
        clear hc0 hc1
        have b0 := fun n os => cell_grown (a := ⟨wr.heap.size, 0, none⟩) hX.lt hX.cells.1 n os
        have b1 := fun n os => cell_grown (a := ⟨wr.heap.size, 1, none⟩) hX.lt hX.cells.2 n os
        clear hX
        refine wp_region_quiet_grown mixed (by kernel_rfl) ?_
        repeat (go_big_quiet_step ((go_at_call 31; exact Calls.grown_of (isEmpty_grown (decide_eq_true hbad) _))))
        refine wpQuiet_nil ?_
        intro _ hw'
        obtain ⟨⟨nq, osq⟩, hw''⟩ := hw'
        subst hw''
        go_wp2
        go_ret
        exact ⟨ret_bool HF.out, below_grown hB1 hB1.size _ _⟩
      · have HBad := Lib.hid (decide_eq_false hbad)
        cases t with
        | zero =>
          have HR2 := Lib.hid (rightTo_succ HRT.out (by rw [HS1.out, HS2.out]; omega) (fun h => by omega))
          have d2 : decide ((0 : Int) < ((0 : Nat) : Int)) = false := decide_eq_false (by omega)
          have hcA : wr.cell? ⟨b, off, none⟩ = some (.int .i64 x) := by have := hc0; rwa [Nat.zero_mul, Nat.add_zero] at this
          have hcB : wr.cell? ⟨b, off + 1, none⟩ = some (.int .i64 y) := by have := hc1; rwa [Nat.zero_mul, Nat.add_zero] at this
          clear hc0 hc1
          go_wp2
          generalize (wr.alloc (.cells #[.int .i64 x, .int .i64 y] 24)) = W at *
          clear hcA hcB
          have b0 := fun n os => cell_grown (a := ⟨wr.heap.size, 0, none⟩) hX.lt hX.cells.1 n os
          have b1 := fun n os => cell_grown (a := ⟨wr.heap.size, 1, none⟩) hX.lt hX.cells.2 n os
          clear hX
          refine wp_region_quiet_grown mixed (by kernel_rfl) ?_
          repeat (go_big_quiet_step ((go_at_call 31; exact Calls.grown_of (isEmpty_grown HBad.out _))))
          refine wpQuiet_nil ?_
          intro _ hw'
          obtain ⟨⟨nq, osq⟩, hw''⟩ := hw'
          subst hw''
          go_wp2
          go_roundw
          case rel => exact ⟨1, by omega, rfl, HR2.out, below_grown hB1 hB1.size _ _⟩
          case measure => simp [intOf]; omega
        | succ k =>
          have hcz := (hB1.cell (p := ⟨b, off + k * 2 + 1, none⟩) hb).trans (HC.out k (by rw [← HN.out]; omega)).2
          generalize hs3 : (l[k]?.getD (0, 0)).2 = z at *
          have HS3 := Lib.hid hs3
          clear hs3
          have d2 : decide ((0 : Int) < (k : Int) + 1) = true := decide_eq_true (by omega)
          have hw : IntKind.i64.wrap ((k : Int) + 1 - 1) = (k : Int) := by rw [Int.add_sub_cancel]; exact IntWalk.i64_in _ (by omega)
          by_cases hxz : x ≤ z
          · have d3 : decide (x ≤ z) = true := decide_eq_true hxz
            have HF := Lib.hid (rightB_no (l := l) (t := k + 1) (by rw [← HN.out]; exact hlt) (fun h => by have := h.2 (by omega); rw [Nat.add_sub_cancel, HS1.out, HS3.out] at this; omega))
            have HCZ := Lib.hid hcz
            clear hcz
            go_wp2
            generalize (wr.alloc (.cells #[.int .i64 x, .int .i64 y] 24)) = W at *
            clear hc0 hc1
            have b0 := fun n os => cell_grown (a := ⟨wr.heap.size, 0, none⟩) hX.lt hX.cells.1 n os
            have b1 := fun n os => cell_grown (a := ⟨wr.heap.size, 1, none⟩) hX.lt hX.cells.2 n os
            have b2 := fun n os => cell_grown (a := ⟨b, off + k * 2 + 1, none⟩) (by have := hB1.size; show b < _; omega) HCZ.out n os
            clear hX
            refine wp_region_quiet_grown mixed (by kernel_rfl) ?_
            repeat (go_big_quiet_step ((go_at_call 31; exact Calls.grown_of (isEmpty_grown HBad.out _))))
            refine wpQuiet_nil ?_
            intro _ hw'
            obtain ⟨⟨nq, osq⟩, hw''⟩ := hw'
            subst hw''
            go_wp2
            go_ret
            exact ⟨ret_bool HF.out, below_grown hB1 hB1.size _ _⟩
          · have d3 : decide (x ≤ z) = false := decide_eq_false hxz
            have HR2 := Lib.hid (rightTo_succ HRT.out (by rw [HS1.out, HS2.out]; omega) (fun _ => by rw [Nat.add_sub_cancel, HS1.out, HS3.out]; omega))
            have HCZ := Lib.hid hcz
            clear hcz
            go_wp2
            generalize (wr.alloc (.cells #[.int .i64 x, .int .i64 y] 24)) = W at *
            clear hc0 hc1
            have b0 := fun n os => cell_grown (a := ⟨wr.heap.size, 0, none⟩) hX.lt hX.cells.1 n os
            have b1 := fun n os => cell_grown (a := ⟨wr.heap.size, 1, none⟩) hX.lt hX.cells.2 n os
            have b2 := fun n os => cell_grown (a := ⟨b, off + k * 2 + 1, none⟩) (by have := hB1.size; show b < _; omega) HCZ.out n os
            clear hX
            refine wp_region_quiet_grown mixed (by kernel_rfl) ?_
            repeat (go_big_quiet_step ((go_at_call 31; exact Calls.grown_of (isEmpty_grown HBad.out _))))
            refine wpQuiet_nil ?_
            intro _ hw'
            obtain ⟨⟨nq, osq⟩, hw''⟩ := hw'
            subst hw''
            go_wp2
            go_roundw
            case rel => exact ⟨k + 1 + 1, by omega, by go_num, HR2.out, below_grown hB1 hB1.size _ _⟩
            case measure => simp [intOf]; omega
    · obtain rfl : t = len := by omega
      have HF := Lib.hid (rightB_yes (l := l) (by rw [← HN.out]; exact HRT.out))
      go_wp2
      go_ret
      exact ⟨ret_bool HF.out, hB⟩

end Go.Proofs.Ytmjgpgibifceeaa
