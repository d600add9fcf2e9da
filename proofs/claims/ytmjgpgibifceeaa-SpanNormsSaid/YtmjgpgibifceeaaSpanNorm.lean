/-
  Layer 4, the document's Norm: the right spans with the same places.
-/
import Derived.Test.YtmjgpgibifceeaaSpanAdd
namespace Go.Proofs.Ytmjgpgibifceeaa
open Go.RowKit Go.Deep

theorem addGo_length (l : List Sp) (s : Sp) : (addGo l s).length ≤ l.length + 1 := by
  induction l generalizing s with
  | nil => simp [addGo]
  | cons t l ih =>
    rw [addGo]
    split
    · have := ih s; simp; omega
    · split
      · simp
      · have := ih (min s.1 t.1, max s.2 t.2); simp; omega
theorem addL_length (l : List Sp) (s : Sp) : (addL l s).length ≤ l.length + 1 := by
  unfold addL
  split
  · omega
  · exact addGo_length l s
theorem addGo_all {l : List Sp} {s : Sp} (h : AllS l) (hs : -9223372036854775808 ≤ s.1 ∧ s.1 ≤ 9223372036854775807 ∧ -9223372036854775808 ≤ s.2 ∧ s.2 ≤ 9223372036854775807) : AllS (addGo l s) := by
  induction l generalizing s with
  | nil => intro t ht; rw [addGo, List.mem_singleton] at ht; rw [ht]; exact hs
  | cons u l ih =>
    have hu := h u List.mem_cons_self
    have hl : AllS l := fun t ht => h t (List.mem_cons_of_mem _ ht)
    intro t ht
    rw [addGo] at ht
    split at ht
    · rcases List.mem_cons.1 ht with rfl | ht
      · exact hu
      · exact ih hl hs t ht
    · split at ht
      · rcases List.mem_cons.1 ht with rfl | ht
        · exact hs
        · exact h t ht
      · exact ih hl (s := (min s.1 u.1, max s.2 u.2)) (by simp only; omega) t ht
theorem addL_all {l : List Sp} {s : Sp} (h : AllS l) (hs : -9223372036854775808 ≤ s.1 ∧ s.1 ≤ 9223372036854775807 ∧ -9223372036854775808 ≤ s.2 ∧ s.2 ≤ 9223372036854775807) : AllS (addL l s) := by
  unfold addL
  split
  · exact h
  · exact addGo_all h hs
/-- Norm of the first t -/
def normTo (l : List Sp) (t : Nat) : List Sp := normL (l.take t)
theorem normTo_succ {l : List Sp} {t : Nat} (h : t < l.length) : normTo l (t + 1) = addL (normTo l t) (l[t]?.getD (0, 0)) := by
  unfold normTo normL
  rw [List.take_add_one, List.foldl_append]
  simp [h]
theorem normTo_is {l : List Sp} (hl : AllS l) : ∀ t, t ≤ l.length → (normTo l t).length ≤ t ∧ AllS (normTo l t) := by
  intro t
  induction t with
  | zero => intro _; exact ⟨by simp [normTo, normL], fun s hs => by simp [normTo, normL] at hs⟩
  | succ t ih =>
    intro ht
    obtain ⟨h1, h2⟩ := ih (by omega)
    rw [normTo_succ (by omega)]
    exact ⟨by have := addL_length (normTo l t) (l[t]?.getD (0, 0)); omega, addL_all h2 (hl.at_ t)⟩
theorem normL_length {l : List Sp} (hl : AllS l) : (normL l).length ≤ l.length := by
  have := (normTo_is hl l.length (Nat.le_refl _)).1
  rwa [normTo, List.take_length] at this
theorem normL_all {l : List Sp} (hl : AllS l) : AllS (normL l) := by
  have := (normTo_is hl l.length (Nat.le_refl _)).2
  rwa [normTo, List.take_length] at this

set_option maxRecDepth 100000 in
set_option maxHeartbeats 1000000 in
theorem rnorm_any (v : Value) (l : List Sp) (w : World) (h : Spans w w.heap.size v l) (hl : AllS l) (hlen : l.length ≤ 1000000) :
    Calls Try.prog 13 #[v] w fun e w' => ∃ v', e = .returned v' ∧ OwnS w' w.heap.size v' (normL l) ∧ Below w.heap.size w w' := by
  obtain ⟨A, c, rfl, hc, hm, hr⟩ := h
  obtain ⟨len, hn⟩ : ∃ n, n = l.length := ⟨_, rfl⟩
  have H := Lib.hid hr
  have HN := Lib.hid hn
  have HA := Lib.hid hl
  have HI := Lib.hid (normTo_is hl)
  have HR := Lib.hid (fun t => norm_right (l.take t))
  have hlen' : len ≤ 1000000 := by omega
  rw [← hn]
  clear hr hl hn hlen hc
  go_enter Try.func13, Try.ntmps13
  go_wp2
  go_loopw [3, 4] (fun o i wr => ∃ t : Nat, t ≤ len ∧ i = .int .i64 t ∧ OwnS wr w.heap.size o (normTo l t) ∧ Below w.heap.size w wr) (fun _ i _ => len - (intOf i).toNat)
  case atStart => exact ⟨0, by omega, rfl, OwnS.nil _ _, Below.refl _ _⟩
  case round =>
    obtain ⟨t, ht, rfl, hown, hB⟩ := hrel
    have HO := Lib.hid hown
    clear hown
    by_cases hlt : t < len
    · obtain ⟨b, off, rfl, hb, hc⟩ := H.out (by rw [← HN.out]; omega)
      obtain ⟨u0, u1⟩ := hc t (by rw [← HN.out]; exact hlt)
      have hc0 := (hB.cell (p := ⟨b, off + t * 2, none⟩) hb).trans u0
      have hc1 := (hB.cell (p := ⟨b, off + t * 2 + 1, none⟩) hb).trans u1
      obtain ⟨k1, k2, k3, k4⟩ := HA.out.at_ t
      have HS := Lib.hid (normTo_succ (l := l) (t := t) (by rw [← HN.out]; exact hlt))
      clear hc u0 u1
      obtain ⟨u, hu⟩ : ∃ u, l[t]?.getD (0, 0) = u := ⟨_, rfl⟩
      rw [hu] at hc0 hc1 k1 k2 k3 k4 HS
      clear hu
      obtain ⟨x, y⟩ := u
      simp only at hc0 hc1 k1 k2 k3 k4
      obtain ⟨i1, i2⟩ := HI.out t (by rw [← HN.out]; exact ht)
      have HI2 := Lib.hid i2
      have HR2 : Hid (RightL (normTo l t)) := Lib.hid (HR.out t)
      clear i2
      generalize normTo l t = cur at *
      go_wp2_with fail
      refine (radd_any w.heap.size _ cur x y wr HO.out HI2.out HR2.out (by omega) hB.size k1 k4).mono ?_
      rintro e w3 ⟨v3, rfl, ho3, hB3⟩
      have HO3 := Lib.hid ho3
      clear ho3
      go_wp2_with fail
      go_roundw
      case rel => exact ⟨t + 1, by omega, by go_num, by rw [HS.out]; exact HO3.out, hB.trans (hB3.mono hB.size)⟩
      case measure => simp [intOf]; omega
    · obtain rfl : t = len := by omega
      have HO2 : Hid (normTo l t = normL l) := Lib.hid (by unfold normTo; rw [HN.out, List.take_length])
      rw [HO2.out] at HO
      go_wp2
      go_ret
      exact ⟨_, rfl, HO.out, hB⟩

end Go.Proofs.Ytmjgpgibifceeaa
