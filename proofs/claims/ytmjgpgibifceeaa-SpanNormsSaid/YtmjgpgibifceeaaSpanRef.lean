/-
  Layer 4, the document's functions: Right, Same, add, Norm.
-/
import Derived.Test.YtmjgpgibifceeaaSpanMem
import Derived.Deep.QuietTactic
import Derived.BigQuiet
import Derived.IntWalk
namespace Go.Proofs.Ytmjgpgibifceeaa
open Go.RowKit Go.Deep

theorem ret_bool {a b : Bool} (h : a = b) : Ending.returned (.bool a) = .returned (.bool b) := by rw [h]
/-- so far as the first t go -/
def rightTo (l : List Sp) (t : Nat) : Prop := ∀ i, i < t → (l[i]?.getD (0, 0)).1 < (l[i]?.getD (0, 0)).2 ∧ (0 < i → (l[i - 1]?.getD (0, 0)).2 < (l[i]?.getD (0, 0)).1)

theorem right_iff_to (l : List Sp) : RightL l ↔ rightTo l l.length := by
  induction l with
  | nil => exact ⟨fun _ i hi => by simp at hi, fun _ => RightL.nil⟩
  | cons s l ih =>
    constructor
    · intro h i hi
      have h2 := ih.1 h.tail
      cases i with
      | zero => exact ⟨h.head, fun h0 => by omega⟩
      | succ i =>
        have hi' : i < l.length := by simpa using hi
        obtain ⟨h3, h4⟩ := h2 i hi'
        refine ⟨by simpa using h3, fun _ => ?_⟩
        cases i with
        | zero =>
          have h5 := h.above (List.getElem_mem hi')
          simp only [Nat.add_sub_cancel, List.getElem?_cons_succ, List.getElem?_eq_getElem hi']
          exact h5
        | succ i => simpa using h4 (by omega)
    · intro h
      have h1 : RightL l := ih.2 (fun i hi => by
        obtain ⟨h2, h3⟩ := h (i + 1) (by simp; omega)
        refine ⟨by simpa using h2, fun h0 => ?_⟩
        obtain ⟨j, rfl⟩ : ∃ j, i = j + 1 := ⟨i - 1, by omega⟩
        simpa using h3 (by omega))
      refine h1.cons (by simpa using (h 0 (by simp)).1) (fun t ht => ?_)
      cases l with
      | nil => simp at ht
      | cons u l =>
        have h2 := (h 1 (by simp)).2 (by omega)
        simp only [Nat.sub_self, List.getElem?_cons_zero, List.getElem?_cons_succ, Option.getD_some] at h2
        rcases List.mem_cons.1 ht with rfl | ht
        · exact h2
        · have h3 := h1.above ht
          have h4 := h1.head
          omega
/-- Right, as a truth value -/
noncomputable def rightB (l : List Sp) : Bool := @decide (RightL l) (Classical.propDecidable _)
theorem rightB_iff {l : List Sp} : rightB l = true ↔ RightL l := by unfold rightB; exact @decide_eq_true_iff _ (Classical.propDecidable _)
theorem rightB_no {l : List Sp} {t : Nat} (ht : t < l.length) (h : ¬ ((l[t]?.getD (0, 0)).1 < (l[t]?.getD (0, 0)).2 ∧ (0 < t → (l[t - 1]?.getD (0, 0)).2 < (l[t]?.getD (0, 0)).1))) : false = rightB l := by
  symm
  rw [Bool.eq_false_iff]
  intro h2
  exact h ((right_iff_to l).1 (rightB_iff.1 h2) t ht)
theorem rightB_yes {l : List Sp} (h : rightTo l l.length) : true = rightB l := (rightB_iff.2 ((right_iff_to l).2 h)).symm
theorem rightTo_succ {l : List Sp} {t : Nat} (h : rightTo l t) (h1 : (l[t]?.getD (0, 0)).1 < (l[t]?.getD (0, 0)).2) (h2 : 0 < t → (l[t - 1]?.getD (0, 0)).2 < (l[t]?.getD (0, 0)).1) : rightTo l (t + 1) := by
  intro i hi
  by_cases e : i = t
  · subst e; exact ⟨h1, h2⟩
  · exact h i (by omega)

set_option maxRecDepth 100000 in
set_option maxHeartbeats 1000000 in
theorem rright_any (v : Value) (l : List Sp) (B : Nat) (w : World) (h : Spans w B v l) (hl : AllS l) (hlen : l.length ≤ 1000000000) :
    Calls Try.prog 22 #[v] w fun e w' => e = .returned (.bool (rightB l)) ∧ ∃ n, w' = w.drewN n := by
  obtain ⟨A, c, rfl, hc, hm, hr⟩ := h.parts
  obtain ⟨len, hn⟩ : ∃ n, n = l.length := ⟨_, rfl⟩
  have H := Lib.hid hr
  have HN := Lib.hid hn
  have HA := Lib.hid hl
  have hlen' : len ≤ 1000000000 := by omega
  rw [← hn]
  clear hr h hl hn hlen hc
  go_enter Try.func22, Try.ntmps22
  go_wp2
  go_loopw [3] (fun i wr => ∃ t : Nat, t ≤ len ∧ i = .int .i64 t ∧ rightTo l t ∧ ∃ n, wr = w.drewN n) (fun i _ => len - (intOf i).toNat)
  case atStart => exact ⟨0, by omega, rfl, fun i hi => by omega, 0, rfl⟩
  case round =>
    obtain ⟨t, ht, rfl, hrt, n, rfl⟩ := hrel
    have HRT := Lib.hid hrt
    clear hrt
    by_cases hlt : t < len
    · obtain ⟨b, off, rfl, hc⟩ := H.out (by rw [← HN.out]; omega)
      have hc0 := (hc t (by rw [← HN.out]; exact hlt)).1
      have hc1 := (hc t (by rw [← HN.out]; exact hlt)).2
      obtain ⟨x1, x2, x3, x4⟩ := HA.out.at_ t
      have HC := Lib.hid hc
      clear hc
      generalize hs1 : (l[t]?.getD (0, 0)).1 = x at *
      generalize hs2 : (l[t]?.getD (0, 0)).2 = y at *
      have HS1 := Lib.hid hs1
      have HS2 := Lib.hid hs2
      clear hs1 hs2
      by_cases hbad : y ≤ x
      · have d1 : decide (y ≤ x) = true := decide_eq_true hbad
        have HF := Lib.hid (rightB_no (l := l) (t := t) (by rw [← HN.out]; exact hlt) (fun h => by have := h.1; rw [HS1.out, HS2.out] at this; omega))
        go_wp2
        go_quiet (fail)
        go_wp2
        go_ret
        exact ⟨ret_bool HF.out, _, by first | rfl | exact World.drewN_drewN _ _ _⟩
      · have d1 : decide (y ≤ x) = false := decide_eq_false hbad
        cases t with
        | zero =>
          have hcA : w.cell? ⟨b, off, none⟩ = some (.int .i64 x) := by have := hc0; rwa [Nat.zero_mul, Nat.add_zero] at this
          clear hc0
          have d2 : decide ((0 : Int) < ((0 : Nat) : Int)) = false := decide_eq_false (by omega)
          have HR2 := Lib.hid (rightTo_succ HRT.out (by rw [HS1.out, HS2.out]; omega) (fun h => by omega))
          go_wp2
          go_quiet (fail)
          go_wp2
          go_roundw
          case rel => exact ⟨1, by omega, rfl, HR2.out, _, by first | rfl | exact World.drewN_drewN _ _ _⟩
          case measure => simp [intOf]; omega
        | succ k =>
          have hcz := (HC.out k (by rw [← HN.out]; omega)).2
          obtain ⟨z1, z2, z3, z4⟩ := HA.out.at_ k
          generalize hs3 : (l[k]?.getD (0, 0)).2 = z at *
          have HS3 := Lib.hid hs3
          clear hs3
          have d2 : decide ((0 : Int) < (k : Int) + 1) = true := decide_eq_true (by omega)
          have hw : IntKind.i64.wrap ((k : Int) + 1 - 1) = (k : Int) := by rw [Int.add_sub_cancel]; exact IntWalk.i64_in _ (by omega)
          by_cases hxz : x ≤ z
          · have d3 : decide (x ≤ z) = true := decide_eq_true hxz
            have HF := Lib.hid (rightB_no (l := l) (t := k + 1) (by rw [← HN.out]; exact hlt) (fun h => by have := h.2 (by omega); rw [Nat.add_sub_cancel, HS1.out, HS3.out] at this; omega))
            go_wp2
            go_quiet (fail)
            go_wp2
            go_ret
            exact ⟨ret_bool HF.out, _, by first | rfl | exact World.drewN_drewN _ _ _⟩
          · have d3 : decide (x ≤ z) = false := decide_eq_false hxz
            have HR2 := Lib.hid (rightTo_succ HRT.out (by rw [HS1.out, HS2.out]; omega) (fun _ => by rw [Nat.add_sub_cancel, HS1.out, HS3.out]; omega))
            go_wp2
            go_quiet (fail)
            go_wp2
            go_roundw
            case rel => exact ⟨k + 2, by omega, by go_num, HR2.out, _, by first | rfl | exact World.drewN_drewN _ _ _⟩
            case measure => simp [intOf]; omega
    · obtain rfl : t = len := by omega
      have HF : Hid (true = rightB l) := Lib.hid (rightB_yes (by rw [← HN.out]; exact HRT.out))
      go_wp2
      go_ret
      exact ⟨ret_bool HF.out, _, rfl⟩

end Go.Proofs.Ytmjgpgibifceeaa
