/-
  Layer 7: the walk of ArenaPlaces.
-/
import Derived.Test.YthinhknfiaohlaaArLawsA
import Derived.Test.YthinhknfiaohlaaArGenB
namespace Go.Proofs.Ythinhknfiaohlaa
open Go.RowKit Go.Deep

/-- numbers out of choices -/
def numC (c : List Int) (k t : Nat) : List Int := (List.range t).map (fun i => c[i]?.getD 0 * (1 + (k % 24 : Nat)) - (k % 3 : Nat))
theorem numC_succ (c : List Int) (k t : Nat) : numC c k (t + 1) = numC c k t ++ [c[t]?.getD 0 * (1 + (k % 24 : Nat)) - (k % 3 : Nat)] := by simp [numC, List.range_succ]
theorem numC_length (c : List Int) (k t : Nat) : (numC c k t).length = t := by simp [numC]
theorem num_bd {x : Int} (k : Nat) (h : 0 ≤ x ∧ x ≤ 255) : 0 ≤ x * (1 + (k % 24 : Nat)) ∧ x * (1 + (k % 24 : Nat)) ≤ 255 * 24 := by
  have h1 : (0 : Int) ≤ (k % 24 : Nat) := by omega
  have h2 : ((k % 24 : Nat) : Int) ≤ 23 := by omega
  constructor
  · exact Int.mul_nonneg h.1 (by omega)
  · calc x * (1 + (k % 24 : Nat)) ≤ 255 * (1 + (k % 24 : Nat)) := Int.mul_le_mul_of_nonneg_right h.2 (by omega)
      _ ≤ 255 * 24 := by omega
theorem numC_all {c : List Int} (hc : AllB c) (k t : Nat) : All64 (numC c k t) := by
  intro x hx
  obtain ⟨i, _, rfl⟩ := List.mem_map.1 hx
  have := num_bd k (hc.at_ i)
  unfold In64
  omega
set_option maxRecDepth 100000 in
set_option maxHeartbeats 2000000 in
theorem aplaces_walk {K : World → Prop} (T : ArenaOK K) (v vc : Value) (l c : List Int) (g a m : Int) (k : Nat) (w : World) (h : NumS .i64 w w.heap.size v l) (hl : All64 l)
    (hb : Bytes w w.heap.size vc c) (hc : AllB c) (g1 : In64 g) (a1 : In64 a) (m1 : In64 m) (hk : k < 256) (hK : K w) :
    Calls Try.prog 4 #[v, .int .i64 g, .int .i64 a, .int .i64 m, vc, .int .u8 k] w fun e w' => e = .returned (.bool true) ∧ Below w.heap.size w w' := by
  have HT := Lib.hid T
  have HK := Lib.hid hK
  have HV := Lib.hid h
  have HL := Lib.hid hl
  have HB := Lib.hid hb
  have HC := Lib.hid hc
  have HG := Lib.hid g1
  have HA := Lib.hid a1
  have HM := Lib.hid m1
  obtain ⟨A1, c1, rfl, -⟩ := h
  obtain ⟨A3, c3, rfl, -⟩ := hb
  obtain ⟨n1, hn1⟩ : ∃ n, n = l.length := ⟨_, rfl⟩
  obtain ⟨n3, hn3⟩ : ∃ n, n = c.length := ⟨_, rfl⟩
  rw [← hn1] at HV ⊢
  rw [← hn3] at HB ⊢
  have HN1 := Lib.hid hn1
  have HN3 := Lib.hid hn3
  clear T hK hl hc g1 a1 m1 hn1 hn3
  by_cases hbig : 40 < n1
  · have d1 : decide (40 < (n1 : Int)) = true := decide_eq_true (by omega)
    go_enter Try.func4, Try.ntmps4
    go_wp2_with fail
    refine (known7_any HT.out w HK.out).mono ?_
    rintro e w1 ⟨rfl, hB1⟩
    go_wp2_with fail
    go_ret
    exact ⟨rfl, hB1⟩
  · have d1 : decide (40 < (n1 : Int)) = false := decide_eq_false (by omega)
    have HLn : Hid (l.length ≤ 1000000000) := Lib.hid (by rw [← HN1.out]; omega)
    have HI : Hid (In64 ((k : Int) % 20 - 1) ∧ In64 (k : Int) ∧ In64 ((k : Int) / 16) ∧ In64 ((k : Int) % 20) ∧ In64 ((k : Int) / 3) ∧ In64 1) := Lib.hid (by unfold In64; omega)
    go_enter Try.func4, Try.ntmps4
    go_wp2_with fail
    refine (known7_any HT.out w HK.out).mono ?_
    rintro e w1 ⟨rfl, hB1⟩
    have HB1 := Lib.hid hB1
    clear hB1
    go_wp2_with fail
    go_loopw [13, 14] (fun o i wr => ∃ t : Nat, t ≤ n3 ∧ t ≤ 18 ∧ i = .int .i64 t ∧ OwnI wr w1.heap.size o (numC c k t) ∧ Below w1.heap.size w1 wr) (fun _ i _ => 18 - (intOf i).toNat)
    case atStart => exact ⟨0, by omega, by omega, rfl, OwnI.nil _ _, Below.refl _ _⟩
    case round =>
      obtain ⟨t, ht, ht18, rfl, ho, hB⟩ := hrel
      have HO := Lib.hid ho
      have HBw := Lib.hid hB
      clear ho hB
      by_cases hlt : t < n3 ∧ t < 18
      · obtain ⟨hl3, hl18⟩ := hlt
        obtain ⟨A', c', e', _, _, hr⟩ := HB.out.on (bsq HB1.out HBw.out)
        obtain ⟨b, off, ea, _, hcell⟩ := hr (by rw [← HN3.out]; omega)
        rw [← HN3.out] at e'
        cases e'
        subst ea
        have p1 := hcell t (by rw [← HN3.out]; exact hl3)
        have hx := HC.out.at_ t
        obtain ⟨x, hxe⟩ : ∃ x, c[t]?.getD 0 = x := ⟨_, rfl⟩
        rw [hxe] at p1 hx
        have hbd := num_bd k hx
        have HE : Hid (numC c k (t + 1) = numC c k t ++ [x * (1 + ((k : Int) % 24)) - (k : Int) % 3]) := Lib.hid (by rw [numC_succ, hxe]; simp)
        have h24 : ((k % 24 : Nat) : Int) = (k : Int) % 24 := by omega
        rw [h24] at hbd
        obtain ⟨v', w', hrun, ho', hg'⟩ := append_int wr w1.heap.size 31 u13 (numC c k t) (x * (1 + ((k : Int) % 24)) - (k : Int) % 3) HO.out (by rw [numC_length]; omega) HBw.out.size
        have HRun := Lib.hid hrun
        have HR : Hid (OwnI w' w1.heap.size v' (numC c k (t + 1)) ∧ Below w1.heap.size w1 w') := Lib.hid ⟨by rw [HE.out]; exact ho', app_belowI HO.out rfl HBw.out hg'⟩
        have hm1 : IntKind.i64.wrap (x * (1 + (k : Int) % 24)) = x * (1 + (k : Int) % 24) := IntWalk.i64_in _ (by omega)
        have hm2 : IntKind.i64.wrap (x * (1 + (k : Int) % 24) - (k : Int) % 3) = x * (1 + (k : Int) % 24) - (k : Int) % 3 := IntWalk.i64_in _ (by omega)
        have i1 : (t : Int) < (n3 : Int) := by omega
        have i2 : decide ((t : Int) < (n3 : Int)) = true := decide_eq_true i1
        have i3 : decide ((t : Int) < 18) = true := decide_eq_true (by omega)
        clear hr hcell hxe hrun ho' hg' h24
        go_wp2_with (at_builtin; refine Lib.wpList_append_run _ rfl _ _ _ _ rfl _ _ rfl rfl _ _ HRun.out ?_)
        go_roundw
        case rel => exact ⟨t + 1, by omega, by omega, by go_num, HR.out.1, HR.out.2⟩
        case measure => simp [intOf]; omega
      · have HZ := Lib.hid (OwnN.numS HO.out)
        have HZa := Lib.hid (numC_all HC.out k t)
        have HZn : Hid ((numC c k t).length ≤ 1000000000) := Lib.hid (by rw [numC_length]; omega)
        have HFin : Hid (t = n3 ∨ ((18 : Int) < (n3 : Int) ∧ t = 18)) := Lib.hid (by omega)
        clear hlt ht ht18
        have hq0 := bsq HB1.out HBw.out
        have HQ0 := Lib.hid hq0
        clear hq0
        rcases HFin.out with hft | ⟨i1, hft⟩
        all_goals
          subst hft
          go_wp2_with fail
          refine (places_any HT.out _ l g a m wr (HV.out.on HQ0.out) HL.out HLn.out HG.out HA.out HM.out (HT.out.on HK.out HQ0.out)).mono ?_
          rintro e w2 ⟨rfl, hB2⟩
          have HQ2 := Lib.hid (bsq HQ0.out hB2)
          have HZ2 := Lib.hid (HZ.out.on hB2)
          go_wp2_with fail
          refine (places_any HT.out _ _ g a m w2 HZ2.out HZa.out HZn.out HG.out HA.out HM.out (HT.out.on HK.out HQ2.out)).mono ?_
          rintro e w3 ⟨rfl, hB3⟩
          have HQ3 := Lib.hid (bsq HQ2.out hB3)
          have HZ3 := Lib.hid (HZ2.out.on hB3)
          go_wp2_with fail
          refine (places_any HT.out _ _ ((k : Int) % 20 - 1) k ((k : Int) / 16) w3 HZ3.out HZa.out HZn.out HI.out.1 HI.out.2.1 HI.out.2.2.1 (HT.out.on HK.out HQ3.out)).mono ?_
          rintro e w4 ⟨rfl, hB4⟩
          have HQ4 := Lib.hid (bsq HQ3.out hB4)
          go_wp2_with fail
          refine (places_any HT.out _ l ((k : Int) % 20) ((k : Int) / 3) 1 w4 (HV.out.on HQ4.out) HL.out HLn.out HI.out.2.2.2.1 HI.out.2.2.2.2.1 HI.out.2.2.2.2.2 (HT.out.on HK.out HQ4.out)).mono ?_
          rintro e w5 ⟨rfl, hB5⟩
          have hQ5 := bsq HQ4.out hB5
          go_wp2_with fail
          go_ret
          exact ⟨rfl, hQ5⟩

end Go.Proofs.Ythinhknfiaohlaa
