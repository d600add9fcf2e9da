/-
  Layer 11: the law ValidCanon, given what the four calls pay.
-/
import Derived.Test.YtmmlfnblodfjbaaGreatDoorZVaK
import Derived.Test.YtmmlfnblodfjbaaGreatDoorZGenZ
import Derived.Test.YtmmlfnblodfjbaaGreatDoorZAr

namespace Go.Proofs.YtmmlfnblodfjbaaGreatDoor
open Go.RowKit Go.Deep

theorem wraps11 {k z : Nat} (hz : z = 3 + k % 60) : wrap64 (3 + (k : Int) % 60) = (z : Int) ∧ IntKind.i64.wrap (3 + (k : Int) % 60) = (z : Int) := by
  refine ⟨?_, ?_⟩
  · unfold wrap64; omega
  · rw [IntWalk.i64_in _ (by omega)]; omega
theorem sameA_self (a : List (List Int)) : sameA a a = true := decide_eq_true rfl

set_option maxRecDepth 100000 in
set_option maxHeartbeats 4000000 in
theorem canon11_walk (H : ValidOK) (c : List Int) (v : Value) (j k : Nat) (w : World) (h : Bytes w w.heap.size v c) (hb : AllB c) (L : Laid w) :
    Calls Tryz.prog 4 #[v, .int .u8 j, .int .u8 k] w fun e w' => e = .returned (.bool true) ∧ Below w.heap.size w w' := by
  have HK := Lib.hid (fun X (hX : Below w.heap.size w X) => known11_any H X (L.on hX))
  obtain ⟨A, cc, rfl⟩ := h.form rfl
  by_cases hlen : 200 < c.length
  · have hlen2 : (200 : Int) < (c.length : Int) := by omega
    generalize c.length = len at *
    clear h hb L hlen H
    go_enter Tryz.func4, Tryz.ntmps4
    go_wp2_with fail
    refine (HK.out w (Below.refl _ _)).mono ?_
    rintro e w2 ⟨rfl, hB2⟩
    go_wp2_with fail
    go_ret
    exact ⟨rfl, hB2⟩
  · have hlen2 : ¬ (200 : Int) < (c.length : Int) := by omega
    obtain ⟨z, hz⟩ : ∃ z : Nat, z = 3 + j % 60 := ⟨_, rfl⟩
    obtain ⟨y, hy⟩ : ∃ y : Nat, y = 3 + k % 60 := ⟨_, rfl⟩
    have HWz := Lib.hid (wraps11 hz)
    have HWy := Lib.hid (wraps11 hy)
    have hin : InB c := hb
    obtain ⟨hr, ⟨l, c1, c2, c3⟩, c4⟩ := canon_built (c := c) (by omega) hin
    obtain ⟨u1, u2, u3⟩ := c4 z (by omega) (by omega)
    obtain ⟨v1, v2, v3⟩ := c4 y (by omega) (by omega)
    have HTr := Lib.hid (tree_all 9 (by omega) c _ w w.heap.size (Nat.le_refl _) h hb)
    generalize (treeC 9 c).1 = t at *
    generalize (treeC 9 c).2 = rest at *
    have HBz := Lib.hid (fun X v (hv : TrV X X.heap.size t v) => rbuild_any t v (z : Int) X hv)
    have HBy := Lib.hid (fun X v (hv : TrV X X.heap.size t v) => rbuild_any t v (y : Int) X hv)
    have hcx : canonT [l] = ([l], 0) := (canon_of c3 hr).trans c1
    have HCx := Lib.hid (fun X (hX : Below w.heap.size w X) v (hv : ArV X X.heap.size v [l]) => H.canon v [l] X (L.on hX) hv (by simp) c2)
    rw [hcx] at HCx
    generalize buildT t (z : Int) = bz at *
    generalize buildT t (y : Int) = by_ at *
    obtain ⟨la, ea⟩ := bz
    obtain ⟨lb, eb⟩ := by_
    dsimp only at u1 u2 u3 v1 v2 v3 HBz HBy
    have HCa : Hid (ea = 0 → ∀ X, Below w.heap.size w X → ∀ v, ArV X X.heap.size v la → Calls Tryz.prog 16 #[v] X fun e w' => ∃ u, e = .returned (.tuple #[u, .int .u16 0]) ∧ ArV w' w'.heap.size u [l] ∧ Below X.heap.size X w') := Lib.hid (fun e X hX v hv => by
      have := H.canon v la X (L.on hX) hv (by omega) u1
      rw [canon_of (u3 e) hr, c1] at this
      exact this)
    have HCb : Hid (eb = 0 → ∀ X, Below w.heap.size w X → ∀ v, ArV X X.heap.size v lb → Calls Tryz.prog 16 #[v] X fun e w' => ∃ u, e = .returned (.tuple #[u, .int .u16 0]) ∧ ArV w' w'.heap.size u [l] ∧ Below X.heap.size X w') := Lib.hid (fun e X hX v hv => by
      have := H.canon v lb X (L.on hX) hv (by omega) v1
      rw [canon_of (v3 e) hr, c1] at this
      exact this)
    have HEab : Hid (ea = 0 → eb = 0 → ∀ X, Below w.heap.size w X → ∀ v u, ArV X X.heap.size v la → ArV X X.heap.size u lb → Calls Tryz.prog 17 #[v, u] X fun e w' => e = .returned (.bool true) ∧ Below X.heap.size X w') := Lib.hid (fun e1 e2 X hX v u hv hu => by
      have := H.equal v u la lb X (L.on hX) hv hu (by omega) (by omega) u1 v1
      rw [equal_of (u3 e1) (v3 e2) hr] at this
      exact this)
    have HEax : Hid (ea = 0 → ∀ X, Below w.heap.size w X → ∀ v u, ArV X X.heap.size v la → ArV X X.heap.size u [l] → Calls Tryz.prog 17 #[v, u] X fun e w' => e = .returned (.bool true) ∧ Below X.heap.size X w') := Lib.hid (fun e1 X hX v u hv hu => by
      have := H.equal v u la [l] X (L.on hX) hv hu (by omega) (by simp) u1 c2
      rw [equal_of (u3 e1) c3 hr] at this
      exact this)
    have HSm := Lib.hid (fun X v u (hv : ArV X X.heap.size v [l]) (hu : ArV X X.heap.size u [l]) => rsame7_any v u _ _ X hv hu)
    rw [sameA_self] at HSm
    obtain ⟨z1, z2⟩ := HWz.out
    obtain ⟨y1, y2⟩ := HWy.out
    generalize c.length = len at *
    clear h hb L hlen hin u1 u2 u3 v1 v2 v3 c1 c2 c3 c4 hz hy hcx H hr
    go_enter Tryz.func4, Tryz.ntmps4
    go_wp2_with fail
    refine HTr.out.mono ?_
    rintro e w1 ⟨x', y', rfl, hP1, hy1, hB1⟩
    obtain ⟨Ay, cy, rfl⟩ := hy1.form rfl
    obtain ⟨k2, zz2, A1, n1, c1, A2, n2, c2, A3, n3, c3, rfl⟩ := hP1.parts
    unfold cellsT
    dsimp only
    obtain ⟨w2, hw2⟩ : ∃ w2, w2 = w1.alloc (.cells #[.int .i64 k2, .int .i64 zz2, .slice A1 n1 c1, .slice A2 n2 c2, .slice A3 n3 c3] 34) := ⟨_, rfl⟩
    have hB2 : Below w1.heap.size w1 w2 := by rw [hw2]; exact (Below.refl _ _).alloc (Nat.le_refl _) _
    have HT2 : Hid (TBox w2 w1.heap.size k2 zz2 (.slice A1 n1 c1) (.slice A2 n2 c2) (.slice A3 n3 c3)) := Lib.hid (by rw [hw2]; exact TBox.new _ _ _ _ _ _)
    have HV2 := Lib.hid ((TrP.trV (fun b hb => hb.2) _ _ hP1).on hB2)
    have HB2 := Lib.hid (bseq8 hB1 hB2)
    generalize rest.length = nr at *
    clear hP1 hy1 hB1 hB2
    go_upto_region 4 with fail
    rw [← hw2]
    clear hw2
    obtain ⟨d0, d1, d2, d3, d4⟩ := HT2.out.cells
    have hC := HBz.out w2 _ HV2.out
    unfold cellsT at hC
    have HC := Lib.hid hC
    clear hC
    go_wp2_with fail
    with_reducible refine HC.out.mono ?_
    rintro e w3 ⟨Aa, na, ca, rfl, ha3, hB3⟩
    have HB3 := Lib.hid hB3
    have HA3 := Lib.hid ha3
    have hC := HBy.out w3 _ (HV2.out.on hB3)
    unfold cellsT at hC
    have HC2 := Lib.hid hC
    clear hC hB3 ha3 d0 d1 d2 d3 d4
    obtain ⟨d0, d1, d2, d3, d4⟩ := (HT2.out.on HB3.out).cells
    go_wp2_with fail
    with_reducible refine HC2.out.mono ?_
    rintro e w4 ⟨Ab, nb, cb, rfl, hb4, hB4⟩
    have HB4 := Lib.hid (bseq8 HB2.out (bseq8 HB3.out hB4))
    have HA4 := Lib.hid (HA3.out.on hB4)
    have HD4 := Lib.hid hb4
    clear hB4 hb4 d0 d1 d2 d3 d4 z1 z2 y1 y2
    by_cases hea : ea = 0
    · subst hea
      by_cases heb : eb = 0
      · subst heb
        have HCb2 := Lib.hid (HCb.out rfl)
        have HEab2 := Lib.hid (HEab.out rfl rfl)
        have HEax2 := Lib.hid (HEax.out rfl)
        have HC5 := Lib.hid (HCa.out rfl w4 HB4.out _ HA4.out)
        go_wp2_with fail
        refine HC5.out.mono ?_
        rintro e w5 ⟨x, rfl, hx5, hB5⟩
        obtain ⟨Ax, cx, rfl⟩ := hx5.form rfl
        have HX5 := Lib.hid hx5
        have HA5 := Lib.hid (HA4.out.on hB5)
        have HD5 := Lib.hid (HD4.out.on hB5)
        have HB5 := Lib.hid (bseq8 HB4.out hB5)
        have HC6 := Lib.hid (HCb2.out w5 HB5.out _ HD5.out)
        clear hx5 hB5
        go_wp2_with fail
        refine HC6.out.mono ?_
        rintro e w6 ⟨x, rfl, hx6, hB6⟩
        obtain ⟨Ay2, cy2, rfl⟩ := hx6.form rfl
        have HY6 := Lib.hid hx6
        have HX6 := Lib.hid (HX5.out.on hB6)
        have HA6 := Lib.hid (HA5.out.on hB6)
        have HD6 := Lib.hid (HD5.out.on hB6)
        have HB6 := Lib.hid (bseq8 HB5.out hB6)
        have HC7 := Lib.hid (HCx.out w6 HB6.out _ HX6.out)
        clear hx6 hB6
        go_wp2_with fail
        refine HC7.out.mono ?_
        rintro e w7 ⟨x, rfl, hx7, hB7⟩
        obtain ⟨Az, cz, rfl⟩ := hx7.form rfl
        have HZ7 := Lib.hid hx7
        have HY7 := Lib.hid (HY6.out.on hB7)
        have HX7 := Lib.hid (HX6.out.on hB7)
        have HA7 := Lib.hid (HA6.out.on hB7)
        have HD7 := Lib.hid (HD6.out.on hB7)
        have HB7 := Lib.hid (bseq8 HB6.out hB7)
        clear hx7 hB7
        go_wp2_with fail
        refine (HK.out w7 HB7.out).mono ?_
        rintro e w8 ⟨rfl, hB8⟩
        have HZ8 := Lib.hid (HZ7.out.on hB8)
        have HY8 := Lib.hid (HY7.out.on hB8)
        have HX8 := Lib.hid (HX7.out.on hB8)
        have HA8 := Lib.hid (HA7.out.on hB8)
        have HB8 := Lib.hid (bseq8 HB7.out hB8)
        have HE8 := Lib.hid (HEab2.out w8 HB8.out _ _ HA8.out (HD7.out.on hB8))
        clear hB8
        go_wp2_with fail
        refine HE8.out.mono ?_
        rintro e w9 ⟨rfl, hB9⟩
        have HZ9 := Lib.hid (HZ8.out.on hB9)
        have HY9 := Lib.hid (HY8.out.on hB9)
        have HX9 := Lib.hid (HX8.out.on hB9)
        have HB9 := Lib.hid (bseq8 HB8.out hB9)
        have HE9 := Lib.hid (HEax2.out w9 HB9.out _ _ (HA8.out.on hB9) HX9.out)
        clear hB9
        go_wp2_with fail
        refine HE9.out.mono ?_
        rintro e wA ⟨rfl, hBA⟩
        have HZA := Lib.hid (HZ9.out.on hBA)
        have HXA := Lib.hid (HX9.out.on hBA)
        have HBA := Lib.hid (bseq8 HB9.out hBA)
        have HSA := Lib.hid (HSm.out wA _ _ HXA.out (HY9.out.on hBA))
        clear hBA
        go_wp2_with fail
        refine HSA.out.mono ?_
        rintro e wB ⟨rfl, hBB⟩
        have HBB := Lib.hid (bseq8 HBA.out hBB)
        have HSB := Lib.hid (HSm.out wB _ _ (HXA.out.on hBB) (HZA.out.on hBB))
        clear hBB
        go_wp2_with fail
        refine HSB.out.mono ?_
        rintro e wC ⟨rfl, hBC⟩
        have HBC := Lib.hid (bseq8 HBB.out hBC)
        clear hBC
        go_wp2_with fail
        go_ret
        exact ⟨rfl, HBC.out⟩
      · have he1 : (eb != 0) = true := by simp [heb]
        go_wp2_with fail
        refine (HK.out w4 HB4.out).mono ?_
        rintro e w5 ⟨rfl, hB5⟩
        have HB5 := Lib.hid (bseq8 HB4.out hB5)
        clear hB5
        go_wp2_with fail
        go_ret
        exact ⟨rfl, HB5.out⟩
    · have he1 : (ea != 0) = true := by simp [hea]
      go_wp2_with fail
      refine (HK.out w4 HB4.out).mono ?_
      rintro e w5 ⟨rfl, hB5⟩
      have HB5 := Lib.hid (bseq8 HB4.out hB5)
      clear hB5
      go_wp2_with fail
      go_ret
      exact ⟨rfl, HB5.out⟩

end Go.Proofs.YtmmlfnblodfjbaaGreatDoor
