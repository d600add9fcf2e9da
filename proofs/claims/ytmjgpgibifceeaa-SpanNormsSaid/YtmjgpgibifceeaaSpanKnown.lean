/-
  Layer 4, the law's own known (the chapter's examples) and Row (spans, as choices say).
-/
import Derived.Test.YtmjgpgibifceeaaSpanGoB
import Derived.Deep.RegionLaw
namespace Go.Proofs.Ytmjgpgibifceeaa
open Go.RowKit Go.Deep

theorem lit_two (w : World) (a b c d : Int) : Spans (w.alloc (.cells #[.int .i64 a, .int .i64 b, .int .i64 c, .int .i64 d] 24)) (w.alloc (.cells #[.int .i64 a, .int .i64 b, .int .i64 c, .int .i64 d] 24)).heap.size (.slice (some ⟨w.heap.size, 0, none⟩) 2 2) [(a, b), (c, d)] :=
  OwnS.spans (base := w.heap.size) (World.ownsRow_lit w #[.int .i64 a, .int .i64 b, .int .i64 c, .int .i64 d] 2 (Nat.le_refl _) (by unfold maxLen; omega) rfl)
theorem lit_sp (w : World) (a b : Int) : Spans (w.alloc (.cells #[.int .i64 a, .int .i64 b] 24)) (w.alloc (.cells #[.int .i64 a, .int .i64 b] 24)).heap.size (.slice (some ⟨w.heap.size, 0, none⟩) 1 1) [(a, b)] :=
  OwnS.spans (base := w.heap.size) (World.ownsRow_lit w #[.int .i64 a, .int .i64 b] 1 (Nat.le_refl _) (by unfold maxLen; omega) rfl)
theorem Spans.at_ {w : World} {B : Nat} {v : Value} {l : List Sp} (h : Spans w B v l) (hp : 0 < l.length) : ∃ b off c, v = .slice (some ⟨b, off, none⟩) l.length c ∧ ∀ j, j < l.length → w.cell? ⟨b, off + j * 2, none⟩ = some (.int .i64 (l[j]?.getD (0, 0)).1) ∧ w.cell? ⟨b, off + j * 2 + 1, none⟩ = some (.int .i64 (l[j]?.getD (0, 0)).2) := by
  obtain ⟨A, c, e, _, _, hr⟩ := h
  obtain ⟨b, off, ea, _, hcell⟩ := hr hp
  exact ⟨b, off, c, by rw [e, ea], hcell⟩

set_option maxRecDepth 100000 in
set_option maxHeartbeats 1000000 in
theorem known_any (w : World) : Calls Try.prog 10 #[] w fun e w' => e = .returned (.bool true) ∧ Below w.heap.size w w' := by
  have HN1 : Hid (normL [(3, 5), (0, 3)] = [(0, 5)]) := Lib.hid (by decide)
  have HN2 : Hid (holesL [(2, 4)] (0, 6) = [(0, 2), (4, 6)]) := Lib.hid (by decide)
  have HN3 : Hid (longL [(0, 5)] = 5) := Lib.hid (by decide)
  have HB0 := Lib.hid ((Below.refl w.heap.size w).alloc (Nat.le_refl _) (.cells #[.int .i64 3, .int .i64 5, .int .i64 0, .int .i64 3] 24))
  have HS0 := Lib.hid (lit_two w 3 5 0 3)
  go_enter Try.func10, Try.ntmps10
  go_wp2_with fail
  refine (norm_any _ [(3, 5), (0, 3)] _ HS0.out (by decide)).mono ?_
  rintro e w2 ⟨v2, rfl, ho2, hB2⟩
  rw [HN1.out] at ho2
  have HB2 := Lib.hid (HB0.out.trans (hB2.mono (by simp)))
  have HO2 := Lib.hid ho2.spans
  have HS1 := Lib.hid (lit_sp w2 2 4)
  have HBa := Lib.hid ((Below.refl w2.heap.size w2).alloc (Nat.le_refl _) (.cells #[.int .i64 2, .int .i64 4] 24))
  clear hB2 ho2
  go_wp2_with fail
  refine (holes_any _ [(2, 4)] 0 6 _ HS1.out (by unfold AllS; decide) (by decide)).mono ?_
  rintro e w3 ⟨v3, rfl, ho3, hB3⟩
  rw [HN2.out] at ho3
  have HB3 := Lib.hid (HBa.out.trans (hB3.mono (by simp)))
  have HO3 := Lib.hid (HO2.out.on HB3.out)
  obtain ⟨b1, o1, c1, e1, q1⟩ := HO3.out.at_ (by decide)
  obtain ⟨b2, o2, c2, e2, q2⟩ := ho3.spans.at_ (by decide)
  have x1 : w3.cell? ⟨b1, o1, none⟩ = some (.int .i64 0) := (q1 0 (by decide)).1
  have x2 : w3.cell? ⟨b1, o1 + 1, none⟩ = some (.int .i64 5) := (q1 0 (by decide)).2
  have x3 : w3.cell? ⟨b2, o2 + 2, none⟩ = some (.int .i64 4) := (q2 1 (by decide)).1
  have x4 : w3.cell? ⟨b2, o2 + 3, none⟩ = some (.int .i64 6) := (q2 1 (by decide)).2
  simp only [List.length_cons, List.length_nil] at e1 e2
  subst e1 e2
  have hq := span_eql
  clear hB3 ho3 q1 q2
  go_wp2_with fail
  refine (long_any _ [(0, 5)] _ HO3.out (by unfold AllS; decide) (by decide)).mono ?_
  rintro e w4 ⟨rfl, hB4⟩
  rw [HN3.out]
  have HB4 := Lib.hid hB4
  clear hB4
  go_wp2_with fail
  go_ret
  exact ⟨rfl, HB2.out.trans ((bseq HB3.out HB4.out).mono HB2.out.size)⟩

theorem step_append {P : Program} {ops : Array Oper} {o : Oper} {a : Act} {w w' : World} {K : Act → World → Prop} {Q : Exit → Act → World → Prop} {E : Prop} {s x : Operand} {t : TypeId} {v u v' : Value}
    (hrun : (Builtin.append_ #[t, t] o.type #[v, u]).run P w = .ok v' w') (hg : o.guard = none) (hop : o.op = Op.call { callee := Callee.builtin Builtin.append, args := #[s, x], argTypes := #[t, t] }) (hs : a.eval s = v) (hx : a.eval x = u) (hK : K (a.put o.dst v') w') :
    if Region.wanted o (yielded ops a.tmps) = true then Oper.wp P o a w K Q else E := by
  have hw : Region.wanted o (yielded ops a.tmps) = true := by simp [Region.wanted, hg]
  rw [if_pos hw]
  unfold Oper.wp
  simp [execOp, hop, resolve, invoke, builtin, hs, hx, hrun, Result.andThen]
  exact hK

/-! ### Row -/
def rowAt (c : List Int) (j : Nat) : Sp := ((c[2 * j]?.getD 0) % 60, (c[2 * j]?.getD 0) % 60 + (c[2 * j + 1]?.getD 0) % 16 - 2)
def rowTo (c : List Int) (t : Nat) : List Sp := (List.range t).map (rowAt c)
def rowN (c : List Int) : Nat := min (c.length / 2) 30
def rowL (c : List Int) : List Sp := rowTo c (rowN c)
theorem rowTo_succ (c : List Int) (t : Nat) : rowTo c (t + 1) = rowTo c t ++ [rowAt c t] := by simp [rowTo, List.range_succ]
theorem rowTo_length (c : List Int) (t : Nat) : (rowTo c t).length = t := by simp [rowTo]
theorem rowL_length (c : List Int) : (rowL c).length ≤ 30 := by rw [rowL, rowTo_length]; unfold rowN; omega
theorem rowL_bounds {c : List Int} (h : AllB c) : ∀ s ∈ rowL c, 0 ≤ s.1 ∧ s.1 ≤ 59 ∧ s.1 - 2 ≤ s.2 ∧ s.2 ≤ 72 := by
  intro s hs
  simp only [rowL, rowTo, List.mem_map] at hs
  obtain ⟨j, _, rfl⟩ := hs
  have h1 := h.at_ (2 * j)
  have h2 := h.at_ (2 * j + 1)
  simp only [rowAt]
  omega
theorem rowL_all {c : List Int} (h : AllB c) : AllS (rowL c) := fun s hs => by have := rowL_bounds h s hs; omega

set_option maxRecDepth 100000 in
set_option maxHeartbeats 1000000 in
theorem row_any (v : Value) (c : List Int) (w : World) (h : Bytes w w.heap.size v c) (hc : AllB c) :
    Calls Try.prog 12 #[v] w fun e w' => ∃ v', e = .returned v' ∧ OwnS w' w.heap.size v' (rowL c) ∧ Below w.heap.size w w' := by
  obtain ⟨A, cap, rfl, hcp, hm, hr⟩ := h
  obtain ⟨len, hn⟩ : ∃ n, n = c.length := ⟨_, rfl⟩
  have H := Lib.hid hr
  have HN := Lib.hid hn
  have HA := Lib.hid hc
  have hlm : len ≤ 9223372036854775807 := by omega
  obtain ⟨N, hN⟩ : ∃ N, N = rowN c := ⟨_, rfl⟩
  have hN2 : N = min (len / 2) 30 := by rw [hN, hn]; rfl
  have HNN := Lib.hid hN
  have HN2 := Lib.hid hN2
  have hN3 : N ≤ 30 := by omega
  rw [← hn]
  clear hr hc hn hN hN2 hcp
  go_enter Try.func12, Try.ntmps12
  go_wp2_with fail
  go_loopw [3, 4] (fun o i wr => ∃ t k : Nat, t ≤ N ∧ k = 2 * t ∧ i = .int .i64 k ∧ OwnS wr w.heap.size o (rowTo c t) ∧ Below w.heap.size w wr) (fun _ i _ => 60 - (intOf i).toNat)
  case atStart => exact ⟨0, 0, by omega, rfl, rfl, OwnS.nil _ _, Below.refl _ _⟩
  case round =>
    obtain ⟨t, k, ht, hk, rfl, hown, hB⟩ := hrel
    have HO := Lib.hid hown
    have HK := Lib.hid hk
    have hk60 : k ≤ 60 := by omega
    clear hown
    by_cases hlt : t < N
    · have hk1 : k + 1 < len := by have := HN2.out; omega
      have hk2 : k < 60 := by omega
      obtain ⟨b, off, rfl, hb, hcell⟩ := H.out (by rw [← HN.out]; omega)
      have hc0 := (hB.cell (p := ⟨b, off + k, none⟩) hb).trans (hcell k (by rw [← HN.out]; omega))
      have hc1 := (hB.cell (p := ⟨b, off + (k + 1), none⟩) hb).trans (hcell (k + 1) (by rw [← HN.out]; omega))
      have hx := HA.out.at_ k
      have hy := HA.out.at_ (k + 1)
      obtain ⟨x, hxe⟩ : ∃ x, x = c[k]?.getD 0 := ⟨_, rfl⟩
      obtain ⟨y, hye⟩ : ∃ y, y = c[k + 1]?.getD 0 := ⟨_, rfl⟩
      rw [← hxe] at hc0 hx
      rw [← hye] at hc1 hy
      have HS : Hid (rowTo c (t + 1) = rowTo c t ++ [(x % 60, x % 60 + y % 16 - 2)]) := Lib.hid (by rw [rowTo_succ]; unfold rowAt; rw [← hk, ← hxe, ← hye])
      have HL := Lib.hid (rowTo_length c t)
      clear hcell hxe hye hk
      generalize rowTo c t = out at *
      obtain ⟨X, hX⟩ : ∃ X, x % 60 = X := ⟨_, rfl⟩
      obtain ⟨Z, hZ⟩ : ∃ Z, y % 16 = Z := ⟨_, rfl⟩
      obtain ⟨S, hS⟩ : ∃ S, X + Z = S := ⟨_, rfl⟩
      obtain ⟨Y, hY⟩ : ∃ Y, S - 2 = Y := ⟨_, rfl⟩
      have t1 : x.tmod 60 = X := by rw [Int.tmod_eq_emod_of_nonneg hx.1]; exact hX
      have t2 : y.tmod 16 = Z := by rw [Int.tmod_eq_emod_of_nonneg hy.1]; exact hZ
      have x0 : 0 ≤ X ∧ X ≤ 59 := by omega
      have z0 : 0 ≤ Z ∧ Z ≤ 15 := by omega
      rw [hX, hZ, hS, hY] at HS
      have i1 : IntKind.i64.wrap X = X := IntWalk.i64_in _ (by omega)
      have i2 : IntKind.i64.wrap Z = Z := IntWalk.i64_in _ (by omega)
      have i3 : IntKind.i64.wrap (X + Z) = S := by rw [hS]; exact IntWalk.i64_in _ (by omega)
      have i4 : IntKind.i64.wrap (S - 2) = Y := by rw [hY]; exact IntWalk.i64_in _ (by omega)
      have i5 : IntKind.u8.wrap X = X := by simp only [IntKind.wrap, IntKind.bits, IntKind.signed]; simp; omega
      have i6 : IntKind.u8.wrap Z = Z := by simp only [IntKind.wrap, IntKind.bits, IntKind.signed]; simp; omega
      have i7 : IntKind.i64.wrap ((k : Int) + 1) = (k : Int) + 1 := IntWalk.i64_in _ (by omega)
      have hO1 : OwnS wr.drew w.heap.size _ out := HO.out
      have hB1 : Below w.heap.size w wr.drew := hB.drew
      obtain ⟨v', w', hrun, ho', hg'⟩ := append_span _ w.heap.size 22 _ out X Y hO1 (by have := HL.out; omega) hB1.size
      have HRun := Lib.hid hrun
      obtain ⟨f1, f2⟩ := app_below hO1 rfl hB1 hg' ho'
      have HF1 := Lib.hid f1
      clear hX hZ hS hY hrun ho' hg' f1 hO1 hB1
      have q1 : (k : Int) < (len : Int) := by omega
      have q2 : (k : Int) + 1 < (len : Int) := by omega
      have q3 : (0 : Int) ≤ (k : Int) := by omega
      have q4 : (0 : Int) ≤ (k : Int) + 1 := by omega
      have q5 : ((k : Int) + 1).toNat = k + 1 := by omega
      go_wp2_with fail
      go_region_law (refine step_append HRun.out rfl rfl rfl rfl ?_)
      all_goals
        go_wp2_with fail
        go_roundw
        case rel => exact ⟨t + 1, k + 2, by omega, by have := HK.out; omega, by go_num, by rw [HS.out]; exact HF1.out, f2⟩
        case measure => simp [intOf]; omega
    · have hk1 : ¬ (k + 1 < len ∧ k < 60) := by have := HN2.out; omega
      obtain rfl : t = N := by omega
      have HO2 : Hid (rowTo c t = rowL c) := Lib.hid (by unfold rowL; rw [← HNN.out])
      rw [HO2.out] at HO
      clear hk
      by_cases hk2 : k + 1 < len
      · have hk3 : ¬ k < 60 := fun h => hk1 ⟨hk2, h⟩
        clear hk1
        go_wp2_with fail
        go_ret
        exact ⟨_, rfl, HO.out, hB⟩
      · clear hk1
        go_wp2_with fail
        go_ret
        exact ⟨_, rfl, HO.out, hB⟩

end Go.Proofs.Ytmjgpgibifceeaa
