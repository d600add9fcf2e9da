/-
  Layer 5, the document's functions: Drop, Set, At.
-/
import Derived.Test.YtlhfgiffdfcplaaTimOwn
namespace Go.Proofs.Ytlhfgiffdfcplaa
open Go.RowKit Go.Deep

/-- without one key -/
def dropL (l : List Sp) (key : Int) : List Sp := l.filter (fun s => !(s.1 == key))
theorem dropL_length (l : List Sp) (key : Int) : (dropL l key).length ≤ l.length := List.length_filter_le _ _
def dropTo (l : List Sp) (key : Int) (t : Nat) : List Sp := dropL (l.take t) key
theorem dropTo_in {l : List Sp} {key : Int} {t : Nat} (h : t < l.length) (hk : ((l[t]?.getD (0, 0)).1 == key) = false) : dropTo l key (t + 1) = dropTo l key t ++ [l[t]?.getD (0, 0)] := by
  unfold dropTo dropL
  rw [List.take_add_one, List.filter_append]
  simp only [List.getElem?_eq_getElem h, Option.getD_some] at hk ⊢
  simp [hk]
theorem dropTo_out {l : List Sp} {key : Int} {t : Nat} (h : t < l.length) (hk : ((l[t]?.getD (0, 0)).1 == key) = true) : dropTo l key (t + 1) = dropTo l key t := by
  unfold dropTo dropL
  rw [List.take_add_one, List.filter_append]
  simp only [List.getElem?_eq_getElem h, Option.getD_some] at hk ⊢
  simp [hk]
theorem dropTo_length (l : List Sp) (key : Int) (t : Nat) : (dropTo l key t).length ≤ t := by
  have := dropL_length (l.take t) key
  unfold dropTo
  rw [List.length_take] at this
  omega

set_option maxRecDepth 100000 in
set_option maxHeartbeats 1000000 in
theorem rdrop_any (v : Value) (l : List Sp) (key : Int) (w : World) (h : Spans w w.heap.size v l) (hlen : l.length ≤ 1000000) :
    Calls Try.prog 21 #[v, .int .i64 key] w fun e w' => ∃ v', e = .returned (.tuple #[v', .bool (decide ((dropL l key).length < l.length))]) ∧ OwnT w' w.heap.size v' (dropL l key) ∧ Below w.heap.size w w' := by
  obtain ⟨A, c, rfl, hc, hm, hr⟩ := h
  obtain ⟨len, hn⟩ : ∃ n, n = l.length := ⟨_, rfl⟩
  have H := Lib.hid hr
  have HN := Lib.hid hn
  have hlen' : len ≤ 1000000 := by omega
  rw [← hn]
  clear hr hn hlen hc
  go_enter Try.func21, Try.ntmps21
  go_wp2_with fail
  go_loopw [6, 7] (fun o i wr => ∃ t : Nat, t ≤ len ∧ i = .int .i64 t ∧ OwnT wr w.heap.size o (dropTo l key t) ∧ Below w.heap.size w wr) (fun _ i _ => len - (intOf i).toNat)
  case atStart => exact ⟨0, by omega, rfl, OwnT.nil _ _, Below.refl _ _⟩
  case round =>
    obtain ⟨t, ht, rfl, hown, hB⟩ := hrel
    have HO := Lib.hid hown
    clear hown
    by_cases hlt : t < len
    · obtain ⟨b, off, rfl, hb, hcell⟩ := H.out (by rw [← HN.out]; omega)
      obtain ⟨u0, u1⟩ := hcell t (by rw [← HN.out]; exact hlt)
      have hc0 := (hB.cell (p := ⟨b, off + t * 2, none⟩) hb).trans u0
      have hc1 := (hB.cell (p := ⟨b, off + t * 2 + 1, none⟩) hb).trans u1
      have HIn := Lib.hid (dropTo_in (l := l) (key := key) (t := t) (by rw [← HN.out]; exact hlt))
      have HOut := Lib.hid (dropTo_out (l := l) (key := key) (t := t) (by rw [← HN.out]; exact hlt))
      have HL := Lib.hid (dropTo_length l key t)
      clear hcell u0 u1
      obtain ⟨u, hu⟩ : ∃ u, l[t]?.getD (0, 0) = u := ⟨_, rfl⟩
      rw [hu] at hc0 hc1 HIn HOut
      clear hu
      obtain ⟨x, y⟩ := u
      simp only at hc0 hc1
      generalize dropTo l key t = out at *
      cases hk : (x == key) with
      | true =>
        have HS : Hid (dropTo l key (t + 1) = out) := Lib.hid (HOut.out hk)
        have d1 : (x != key) = false := by simp [bne, hk]
        clear hk
        go_wp2_with fail
        go_roundw
        case rel => exact ⟨t + 1, by omega, by go_num, by rw [HS.out]; exact HO.out, hB⟩
        case measure => simp [intOf]; omega
      | false =>
        have HS : Hid (dropTo l key (t + 1) = out ++ [(x, y)]) := Lib.hid (HIn.out hk)
        have d1 : (x != key) = true := by simp [bne, hk]
        clear hk
        obtain ⟨v', w', hrun, ho', hg'⟩ := append_t wr w.heap.size 26 _ out x y HO.out (by have := HL.out; omega) hB.size
        have HRun := Lib.hid hrun
        obtain ⟨f1, f2⟩ := app_belowT HO.out rfl hB hg' ho'
        have HF1 := Lib.hid f1
        clear hrun ho' hg' f1
        go_wp2_with (at_builtin; refine Lib.wpList_append_run _ rfl _ _ _ _ rfl _ _ rfl rfl _ _ HRun.out ?_)
        go_roundw
        case rel => exact ⟨t + 1, by omega, by go_num, by rw [HS.out]; exact HF1.out, f2⟩
        case measure => simp [intOf]; omega
    · obtain rfl : t = len := by omega
      have HO2 : Hid (dropTo l key t = dropL l key) := Lib.hid (by unfold dropTo; rw [HN.out, List.take_length])
      rw [HO2.out] at HO
      obtain ⟨A2, c2, hv2, -⟩ := HO.out.spans
      obtain ⟨m, hm2⟩ : ∃ m, m = (dropL l key).length := ⟨_, rfl⟩
      rw [← hm2] at hv2
      have HM2 := Lib.hid hm2
      subst hv2
      have HD : Hid (decide ((m : Int) < (t : Int)) = decide (m < t)) := Lib.hid (by congr 1; apply propext; omega)
      clear hm2
      go_wp2_with fail
      go_ret2
      exact ⟨_, by rw [← HM2.out, ← HD.out]; rfl, HO.out, hB⟩

/-- one key more, at its time, in place of its own; false: no room -/
def setL (l : List Sp) (key at_ : Int) : List Sp := if 1000 ≤ (dropL l key).length then l else dropL l key ++ [(key, at_)]
def setB (l : List Sp) (key : Int) : Bool := decide ((dropL l key).length < 1000)

set_option maxRecDepth 100000 in
set_option maxHeartbeats 1000000 in
theorem rset_any (v : Value) (l : List Sp) (key at_ : Int) (w : World) (h : Spans w w.heap.size v l) (hlen : l.length ≤ 1000000) :
    Calls Try.prog 23 #[v, .int .i64 key, .int .i64 at_] w fun e w' => ∃ v', e = .returned (.tuple #[v', .bool (setB l key)]) ∧ ((v' = v ∧ setL l key at_ = l) ∨ OwnT w' w.heap.size v' (setL l key at_)) ∧ Below w.heap.size w w' := by
  have HSp := Lib.hid h
  have HLe := Lib.hid hlen
  clear h hlen
  go_enter Try.func23, Try.ntmps23
  go_wp2_with fail
  refine (rdrop_any _ l key w HSp.out HLe.out).mono ?_
  rintro e w2 ⟨v2, rfl, ho2, hB2⟩
  obtain ⟨A2, c2, hv2, -⟩ := ho2.spans
  have HO2 := Lib.hid ho2.spans
  have HDl := Lib.hid (dropL_length l key)
  obtain ⟨m, hm⟩ : ∃ m, m = (dropL l key).length := ⟨_, rfl⟩
  rw [← hm] at hv2
  have HM := Lib.hid hm
  clear ho2 hm
  by_cases hk : 1000 ≤ m
  · have hk2 : (1000 : Int) ≤ (m : Int) := by omega
    have HS : Hid (setL l key at_ = l) := Lib.hid (by unfold setL; rw [if_pos (by rw [← HM.out]; exact hk)])
    have HSb : Hid (setB l key = false) := Lib.hid (decide_eq_false (by rw [← HM.out]; omega))
    subst hv2
    go_wp2_with fail
    go_ret2
    exact ⟨_, by rw [HSb.out]; rfl, .inl ⟨rfl, HS.out⟩, hB2⟩
  · have hk2 : ¬ (1000 : Int) ≤ (m : Int) := by omega
    have HS : Hid (setL l key at_ = dropL l key ++ [(key, at_)]) := Lib.hid (by unfold setL; rw [if_neg (by rw [← HM.out]; exact hk)])
    have HSb : Hid (setB l key = true) := Lib.hid (decide_eq_true (by rw [← HM.out]; omega))
    obtain ⟨v3, w3, hrun3, ho3, hg3⟩ := append_anyT w2 w2.heap.size 26 _ v2 [] (dropL l key) _ HO2.out (OwnT.nil _ _) (by have := HDl.out; have := HLe.out; simp; omega) (Nat.le_refl _)
    have hB3 : Below w2.heap.size w2 w3 := (Below.refl _ _).grown hg3 (Nat.le_refl _) (fun k e => by cases e)
    obtain ⟨v4, w4, hrun4, ho4, hg4⟩ := append_t w3 w2.heap.size 26 v3 ([] ++ dropL l key) key at_ ho3 (by have := HDl.out; have := HLe.out; simp; omega) hB3.size
    obtain ⟨f1, f2⟩ := app_belowT ho3 rfl hB3 hg4 ho4
    rw [List.nil_append] at f1
    have HF1 := Lib.hid f1
    have HR3 := Lib.hid hrun3
    have HR4 := Lib.hid hrun4
    subst hv2
    clear hrun3 ho3 hg3 hrun4 ho4 hg4 f1
    go_wp2_with (first | (at_builtin; refine Lib.wpList_append_run _ rfl _ _ _ _ rfl _ _ rfl rfl _ _ HR3.out ?_) | (at_builtin; refine Lib.wpList_append_run _ rfl _ _ _ _ rfl _ _ rfl rfl _ _ HR4.out ?_))
    go_ret2
    exact ⟨_, by rw [HSb.out]; rfl, .inr (by rw [HS.out]; exact HF1.out.base hB2.size), bseq hB2 f2⟩

end Go.Proofs.Ytlhfgiffdfcplaa
