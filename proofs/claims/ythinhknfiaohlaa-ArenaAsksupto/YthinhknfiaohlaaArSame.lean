/-
  Layer 7: the document's Word and Same.
-/
import Derived.Test.YthinhknfiaohlaaArRef
namespace Go.Proofs.Ythinhknfiaohlaa
open Go.RowKit Go.Deep

def wordA (ls : List (List Int)) (g a : Int) : Int := if withinB (sizesL ls) g a 1 = true then (ls[g.toNat]?.getD [])[a.toNat]?.getD 0 else 0
def wordE7 (ls : List (List Int)) (g a : Int) : Int := if withinB (sizesL ls) g a 1 = true then 0 else 20
theorem below_cells {a b : World} {v : Value} {ls : List (List Int)} {A : Option Addr} {n c : Nat} (h : ArV a a.heap.size v ls) (k : Below a.heap.size a b) (hv : v = .slice A n c) {j : Nat} (hj : j < ls.length) : ∃ g off A1 c1, A = some ⟨g, off, none⟩ ∧ b.cell? ⟨g, off + j, none⟩ = some (.slice A1 (ls[j]?.getD []).length c1) ∧ (ls[j]?.getD []).length ≤ 9223372036854775807 ∧ ∀ i, i < (ls[j]?.getD []).length → ∃ g1 off1, A1 = some ⟨g1, off1, none⟩ ∧ b.cell? ⟨g1, off1 + i, none⟩ = some (.int .u64 ((ls[j]?.getD [])[i]?.getD 0)) := by
  obtain ⟨A', c', e, _, _, hr⟩ := h.on k
  rw [hv] at e
  cases e
  obtain ⟨g, off, ea, _, hcell⟩ := hr (by omega)
  obtain ⟨s, p1, A1, c1, rfl, k1, k2, hr1⟩ := hcell j hj
  refine ⟨g, off, A1, c1, ea, p1, by omega, fun i hi => ?_⟩
  obtain ⟨g1, off1, e1, _, hc1⟩ := hr1 (by omega)
  exact ⟨g1, off1, e1, hc1 i hi⟩

set_option maxRecDepth 100000 in
set_option maxHeartbeats 1000000 in
theorem rword7_any (v : Value) (ls : List (List Int)) (g a : Int) (w : World) (h : ArV w w.heap.size v ls) (hlen : ls.length ≤ 1000000000000) :
    Calls Try.prog 30 #[v, .int .i64 g, .int .i64 a] w fun e w' => e = .returned (.tuple #[.int .u64 (wordA ls g a), .int .i64 (wordE7 ls g a)]) ∧ Below w.heap.size w w' := by
  have HS := Lib.hid (rsizes_any v ls w h hlen)
  have HA := Lib.hid (sizes_all64 h)
  have HV := Lib.hid h
  cases hw : withinB (sizesL ls) g a 1 with
  | false =>
    have HE : Hid (wordA ls g a = 0 ∧ wordE7 ls g a = 20) := Lib.hid (by unfold wordA wordE7; rw [hw]; exact ⟨rfl, rfl⟩)
    rw [HE.out.1, HE.out.2]
    have HW := Lib.hid hw
    clear h hlen hw HE
    go_enter Try.func30, Try.ntmps30
    go_wp2_with fail
    refine HS.out.mono ?_
    rintro e w1 ⟨u, rfl, ho, hB⟩
    have HO := Lib.hid (OwnN.numS ho)
    clear ho
    go_wp2_with fail
    refine (rwithin_any u (sizesL ls) g a 1 _ w1 HO.out HA.out).mono ?_
    rintro e w' ⟨rfl, rfl⟩
    rw [HW.out]
    go_wp2_with fail
    go_ret2
    exact ⟨rfl, hB⟩
  | true =>
    have HE : Hid (wordA ls g a = (ls[g.toNat]?.getD [])[a.toNat]?.getD 0 ∧ wordE7 ls g a = 0) := Lib.hid (by unfold wordA wordE7; rw [hw]; exact ⟨rfl, rfl⟩)
    rw [HE.out.1, HE.out.2]
    obtain ⟨w1, w2, w3, w4, w5, w6⟩ : 0 ≤ g ∧ g < (sizesL ls).length ∧ 0 ≤ a ∧ (0 : Int) ≤ 1 ∧ a ≤ (sizesL ls)[g.toNat]?.getD 0 ∧ 1 ≤ (sizesL ls)[g.toNat]?.getD 0 - a := of_decide_eq_true hw
    obtain ⟨j, rfl⟩ := Int.eq_ofNat_of_zero_le w1
    obtain ⟨i, rfl⟩ := Int.eq_ofNat_of_zero_le w3
    rw [sizesL_length] at w2
    have hj : j < ls.length := by omega
    rw [show ((j : Int)).toNat = j by simp, sizesL_get hj] at w6
    rw [show ((j : Int)).toNat = j by simp, show ((i : Int)).toNat = i by simp]
    have hi : i < (ls[j]?.getD []).length := by omega
    have HW := Lib.hid hw
    have HJ := Lib.hid hj
    have HI := Lib.hid hi
    obtain ⟨A, c, rfl, -⟩ := h
    obtain ⟨len, hn⟩ : ∃ n, n = ls.length := ⟨_, rfl⟩
    rw [← hn] at HS HV ⊢
    have i1 : (j : Int) < (len : Int) := by omega
    obtain ⟨m, hm⟩ : ∃ m, m = (ls[j]?.getD []).length := ⟨_, rfl⟩
    have i2 : (i : Int) < (m : Int) := by omega
    have HM := Lib.hid hm
    obtain ⟨x, hx⟩ : ∃ x, (ls[j]?.getD [])[i]?.getD 0 = x := ⟨_, rfl⟩
    rw [hx]
    have HX := Lib.hid hx
    clear hlen hw HE w1 w2 w3 w4 w5 w6 hn hm hx hj hi
    go_enter Try.func30, Try.ntmps30
    go_wp2_with fail
    refine HS.out.mono ?_
    rintro e w1 ⟨u, rfl, ho, hB⟩
    have HO := Lib.hid (OwnN.numS ho)
    clear ho
    go_wp2_with fail
    refine (rwithin_any u (sizesL ls) j i 1 _ w1 HO.out HA.out).mono ?_
    rintro e w' ⟨rfl, rfl⟩
    rw [HW.out]
    obtain ⟨b, off, A1, c1, rfl, p1, _, hr1⟩ := below_cells HV.out hB rfl HJ.out
    obtain ⟨b1, off1, rfl, q1⟩ := hr1 i HI.out
    rw [← HM.out] at p1
    rw [HX.out] at q1
    clear hr1
    go_wp2_with fail
    go_ret2
    exact ⟨rfl, hB⟩

def sameA (a b : List (List Int)) : Bool := decide (a = b)
theorem sameA_no {a b : List (List Int)} {t : Nat} (h : a[t]?.getD [] ≠ b[t]?.getD []) : sameA a b = false := decide_eq_false (fun e => h (by rw [e]))
theorem row_ext {a b : List Int} (h : a.length = b.length) (h2 : ∀ i, i < a.length → a[i]?.getD 0 = b[i]?.getD 0) : a = b :=
  List.ext_getElem h (fun i h1 h3 => by have := h2 i h1; rw [List.getElem?_eq_getElem h1, List.getElem?_eq_getElem h3] at this; exact this)
theorem arena_ext {a b : List (List Int)} (h : a.length = b.length) (h2 : ∀ i, i < a.length → a[i]?.getD [] = b[i]?.getD []) : a = b :=
  List.ext_getElem h (fun i h1 h3 => by have := h2 i h1; rw [List.getElem?_eq_getElem h1, List.getElem?_eq_getElem h3] at this; exact this)
set_option maxRecDepth 100000 in
set_option maxHeartbeats 2000000 in
theorem rsame7_any (v u : Value) (a b : List (List Int)) (w : World) (h : ArV w w.heap.size v a) (h' : ArV w w.heap.size u b) :
    Calls Try.prog 15 #[v, u] w fun e w' => e = .returned (.bool (sameA a b)) ∧ Below w.heap.size w w' := by
  have HV := Lib.hid h
  have HU := Lib.hid h'
  obtain ⟨A, c, rfl, hc, hm, -⟩ := h
  obtain ⟨A', c', rfl, -⟩ := h'
  obtain ⟨len, hn⟩ : ∃ n, n = a.length := ⟨_, rfl⟩
  obtain ⟨len', hn'⟩ : ∃ n, n = b.length := ⟨_, rfl⟩
  have HN := Lib.hid hn
  have HN' := Lib.hid hn'
  rw [← hn] at hc HV
  rw [← hn'] at HU
  rw [← hn, ← hn']
  by_cases hne : len = len'
  · subst hne
    have d0 : ((len : Int) != (len : Int)) = false := by simp
    clear hn hn'
    go_enter Try.func15, Try.ntmps15
    go_wp2_with fail
    go_loopw [5] (fun i wr => ∃ t : Nat, t ≤ len ∧ i = .int .i64 t ∧ (∀ i, i < t → a[i]?.getD [] = b[i]?.getD []) ∧ ∃ n, wr = w.drewN n) (fun i _ => len - (intOf i).toNat)
    case atStart => exact ⟨0, by omega, rfl, fun i hi => by omega, 0, rfl⟩
    case round =>
      obtain ⟨t, ht, rfl, hall, n, rfl⟩ := hrel
      have HL := Lib.hid hall
      clear hall
      by_cases hlt : t < len
      · have hBw : ∀ n, Below w.heap.size w (w.drewN n) := fun n => ⟨rfl, rfl, rfl, Nat.le_refl _, fun _ _ => rfl⟩
        obtain ⟨b1, off1, A1, c1, rfl, p1, k1, hr1⟩ := below_cells HV.out (hBw 0) rfl (j := t) (by rw [← HN.out]; exact hlt)
        obtain ⟨b2, off2, A2, c2, rfl, q1, k2, hr2⟩ := below_cells HU.out (hBw 0) rfl (j := t) (by rw [← HN'.out]; exact hlt)
        rw [World.drewN_zero] at p1 q1 hr1 hr2
        obtain ⟨m, hm1⟩ : ∃ m, (a[t]?.getD []).length = m := ⟨_, rfl⟩
        obtain ⟨m', hm2⟩ : ∃ m, (b[t]?.getD []).length = m := ⟨_, rfl⟩
        rw [hm1] at p1 hr1 k1
        rw [hm2] at q1 hr2 k2
        have HM1 := Lib.hid hm1
        have HM2 := Lib.hid hm2
        have HR1 := Lib.hid hr1
        have HR2 := Lib.hid hr2
        clear hm1 hm2 hr1 hr2 hBw
        by_cases hmm : m = m'
        · subst hmm
          have d1 : ((m : Int) != (m : Int)) = false := by simp
          go_wp2_with fail
          go_quiet (fail)
          go_wp2_with fail
          go_loopw [6] (fun i wr => ∃ k : Nat, k ≤ m ∧ i = .int .i64 k ∧ (∀ i, i < k → (a[t]?.getD [])[i]?.getD 0 = (b[t]?.getD [])[i]?.getD 0) ∧ ∃ n, wr = w.drewN n) (fun i _ => m - (intOf i).toNat)
          case atStart => exact ⟨0, by omega, rfl, fun i hi => by omega, _, by first | rfl | exact World.drewN_drewN _ _ _⟩
          case round =>
            obtain ⟨k, hk, rfl, hall, n2, rfl⟩ := hrel
            have HK := Lib.hid hall
            clear hall
            by_cases hlk : k < m
            · obtain ⟨g1, o1, rfl, x1⟩ := HR1.out k hlk
              obtain ⟨g2, o2, rfl, x2⟩ := HR2.out k hlk
              obtain ⟨x, hx⟩ : ∃ x, (a[t]?.getD [])[k]?.getD 0 = x := ⟨_, rfl⟩
              obtain ⟨y, hy⟩ : ∃ y, (b[t]?.getD [])[k]?.getD 0 = y := ⟨_, rfl⟩
              rw [hx] at x1
              rw [hy] at x2
              have HX := Lib.hid hx
              have HY := Lib.hid hy
              clear hx hy
              by_cases hxy : x = y
              · have d2 : (x != y) = false := by simp [hxy]
                have HL2 : Hid (∀ i, i < k + 1 → (a[t]?.getD [])[i]?.getD 0 = (b[t]?.getD [])[i]?.getD 0) := Lib.hid (fun i hi => by
                  by_cases e : i = k
                  · subst e; rw [HX.out, HY.out]; exact hxy
                  · exact HK.out i (by omega))
                clear hxy
                go_wp2_with fail
                go_quiet (fail)
                go_wp2_with fail
                go_roundw
                case rel => exact ⟨k + 1, by omega, by go_num, HL2.out, _, by first | rfl | exact World.drewN_drewN _ _ _⟩
                case measure => simp [intOf]; omega
              · have d2 : (x != y) = true := by simpa using hxy
                have HF : Hid (false = sameA a b) := Lib.hid (sameA_no (t := t) (fun e => hxy (by rw [← HX.out, ← HY.out, e]))).symm
                clear hxy
                go_wp2_with fail
                go_quiet (fail)
                go_wp2_with fail
                go_ret
                exact ⟨by rw [← HF.out]; rfl, ⟨rfl, rfl, rfl, Nat.le_refl _, fun _ _ => rfl⟩⟩
            · obtain rfl : k = m := by omega
              have HL2 : Hid (∀ i, i < t + 1 → a[i]?.getD [] = b[i]?.getD []) := Lib.hid (fun i hi => by
                by_cases e : i = t
                · subst e; exact row_ext (by rw [HM1.out, HM2.out]) (fun i h1 => HK.out i (by rw [← HM1.out]; exact h1))
                · exact HL.out i (by omega))
              go_wp2_with fail
              go_roundw
              case rel => exact ⟨t + 1, by omega, by go_num, HL2.out, _, by first | rfl | exact World.drewN_drewN _ _ _⟩
              case measure => simp [intOf]; omega
        · have d1 : ((m : Int) != (m' : Int)) = true := by rw [bne_iff_ne]; omega
          have HF : Hid (false = sameA a b) := Lib.hid (sameA_no (t := t) (fun e => hmm (by rw [← HM1.out, ← HM2.out, e]))).symm
          go_wp2_with fail
          go_quiet (fail)
          go_wp2_with fail
          go_ret
          exact ⟨by rw [← HF.out]; rfl, ⟨rfl, rfl, rfl, Nat.le_refl _, fun _ _ => rfl⟩⟩
      · obtain rfl : t = len := by omega
        have HF : Hid (true = sameA a b) := Lib.hid (decide_eq_true (arena_ext (by rw [← HN.out, ← HN'.out]) (fun i h1 => HL.out i (by rw [HN.out]; exact h1)))).symm
        go_wp2_with fail
        go_ret
        exact ⟨by rw [← HF.out]; rfl, ⟨rfl, rfl, rfl, Nat.le_refl _, fun _ _ => rfl⟩⟩
  · have d0 : ((len : Int) != (len' : Int)) = true := by rw [bne_iff_ne]; omega
    have HF : Hid (false = sameA a b) := Lib.hid (decide_eq_false (fun e => hne (by rw [HN.out, HN'.out, e]))).symm
    clear hn hn'
    go_enter Try.func15, Try.ntmps15
    go_wp2_with fail
    go_ret
    exact ⟨by rw [← HF.out]; rfl, Below.refl _ _⟩

end Go.Proofs.Ythinhknfiaohlaa
