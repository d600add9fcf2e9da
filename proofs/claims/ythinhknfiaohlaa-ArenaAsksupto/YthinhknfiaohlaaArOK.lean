/-
  Layer 7: what the laws ask of the program's ten calls (ArenaOK: to be paid by the program's own walks); the law's places, cuts, words.
-/
import Derived.Test.YthinhknfiaohlaaArCut
namespace Go.Proofs.Ythinhknfiaohlaa
open Go.RowKit Go.Deep

/-- an arena of a modest size -/
def Sm (ls : List (List Int)) : Prop := ls.length ≤ 1000000000 ∧ (sizesL ls).sum ≤ 1000000000 ∧ AllU ls
/-- K: what the program's package variables hold, if there are any -/
structure ArenaOK (K : World → Prop) : Prop where
  on : ∀ {w w' : World}, K w → Below w.heap.size w w' → K w'
  right : ∀ (v : Value) (ls : List (List Int)) (w : World), ArV w w.heap.size v ls → Sm ls → K w → Calls Try.prog 27 #[v] w fun e w' => e = .returned (.bool (fitsL (sizesL ls))) ∧ Below w.heap.size w w'
  sizes : ∀ (v : Value) (ls : List (List Int)) (w : World), ArV w w.heap.size v ls → Sm ls → K w → Calls Try.prog 20 #[v] w fun e w' => ∃ u, e = .returned u ∧ OwnI w' w.heap.size u (sizesL ls) ∧ Below w.heap.size w w'
  words : ∀ (v : Value) (ls : List (List Int)) (w : World), ArV w w.heap.size v ls → Sm ls → K w → Calls Try.prog 24 #[v] w fun e w' => e = .returned (.int .i64 (sizesL ls).sum) ∧ Below w.heap.size w w'
  fits : ∀ (v : Value) (l : List Int) (w : World), NumS .i64 w w.heap.size v l → All64 l → l.length ≤ 1000000000 → K w → Calls Try.prog 26 #[v] w fun e w' => e = .returned (.bool (fitsL l)) ∧ Below w.heap.size w w'
  within : ∀ (v : Value) (l : List Int) (g a n : Int) (w : World), NumS .i64 w w.heap.size v l → All64 l → l.length ≤ 1000000000 → In64 g → In64 a → In64 n → K w → Calls Try.prog 25 #[v, .int .i64 g, .int .i64 a, .int .i64 n] w fun e w' => e = .returned (.bool (withinB l g a n)) ∧ Below w.heap.size w w'
  place : ∀ (v : Value) (l : List Int) (g a : Int) (w : World), NumS .i64 w w.heap.size v l → All64 l → l.length ≤ 1000000000 → In64 g → In64 a → K w → Calls Try.prog 23 #[v, .int .i64 g, .int .i64 a] w fun e w' => e = .returned (.int .i64 (placeI l g a)) ∧ Below w.heap.size w w'
  word : ∀ (v : Value) (ls : List (List Int)) (g a : Int) (w : World), ArV w w.heap.size v ls → Sm ls → In64 g → In64 a → K w → Calls Try.prog 29 #[v, .int .i64 g, .int .i64 a] w fun e w' => e = .returned (.tuple #[.int .u64 (wordA ls g a), .int .u16 (wordE7 ls g a)]) ∧ Below w.heap.size w w'
  bytes : ∀ (v : Value) (ls : List (List Int)) (w : World), ArV w w.heap.size v ls → Sm ls → K w → Calls Try.prog 21 #[v] w fun e w' => ∃ u, e = .returned u ∧ OwnB w' w.heap.size u (bytesA ls) ∧ Below w.heap.size w w'
  cut : ∀ (v u : Value) (l bs : List Int) (w : World), NumS .i64 w w.heap.size v l → All64 l → l.length ≤ 1000000000 → Bytes w w.heap.size u bs → AllB bs → bs.length ≤ 1000000000 → K w → Calls Try.prog 22 #[v, u] w fun e w' => ∃ x, e = .returned (.tuple #[x, .int .u16 (cutE l bs)]) ∧ OwnA w' w.heap.size x (cutR l bs) ∧ Below w.heap.size w w'
  same : ∀ (v u : Value) (a b : List (List Int)) (w : World), ArV w w.heap.size v a → ArV w w.heap.size u b → Sm a → Sm b → K w → Calls Try.prog 14 #[v, u] w fun e w' => e = .returned (.bool (sameA a b)) ∧ Below w.heap.size w w'
theorem bsq {a b c : World} (h : Below a.heap.size a b) (k : Below b.heap.size b c) : Below a.heap.size a c := h.trans (k.mono h.size)

set_option maxRecDepth 100000 in
set_option maxHeartbeats 1000000 in
theorem places_any {K : World → Prop} (T : ArenaOK K) (v : Value) (l : List Int) (g a n : Int) (w : World) (h : NumS .i64 w w.heap.size v l) (hl : All64 l) (hn : l.length ≤ 1000000000) (g1 : In64 g) (a1 : In64 a) (n1 : In64 n) (hK : K w) :
    Calls Try.prog 16 #[v, .int .i64 g, .int .i64 a, .int .i64 n] w fun e w' => e = .returned (.bool true) ∧ Below w.heap.size w w' := by
  have HT := Lib.hid T
  have HK := Lib.hid hK
  clear hK
  have HV := Lib.hid h
  have HL := Lib.hid hl
  have HN := Lib.hid hn
  have HG := Lib.hid g1
  have HA := Lib.hid a1
  have HNn := Lib.hid n1
  obtain ⟨A, c, rfl, -⟩ := h
  obtain ⟨len, hlen⟩ : ∃ m, m = l.length := ⟨_, rfl⟩
  rw [← hlen] at HV ⊢
  clear T hl hn g1 a1 n1 hlen
  have d0 : (fitsL l == fitsL l) = true := by simp
  have d1 : (withinB l g a n == withinB l g a n) = true := by simp
  have d2 : (placeI l g a == placeI l g a) = true := by simp
  obtain ⟨F, hF⟩ : ∃ F, fitsL l = F := ⟨_, rfl⟩
  obtain ⟨W, hW⟩ : ∃ F, withinB l g a n = F := ⟨_, rfl⟩
  obtain ⟨P, hP⟩ : ∃ F, placeI l g a = F := ⟨_, rfl⟩
  have HFe := Lib.hid hF
  have HWe := Lib.hid hW
  have HPe := Lib.hid hP
  rw [hF] at d0
  rw [hW] at d1
  rw [hP] at d2
  clear hF hW hP
  go_enter Try.func16, Try.ntmps16
  go_wp2_with fail
  refine (HT.out.fits _ l w HV.out HL.out HN.out HK.out).mono ?_
  rintro e w1 ⟨rfl, hB1⟩
  rw [HFe.out]
  go_wp2_with fail
  refine (rfits_any _ l _ w1 (HV.out.on hB1) HL.out).mono ?_
  rintro e w' ⟨rfl, rfl⟩
  rw [HFe.out]
  go_wp2_with fail
  refine (HT.out.within _ l g a n w1 (HV.out.on hB1) HL.out HN.out HG.out HA.out HNn.out (HT.out.on HK.out hB1)).mono ?_
  rintro e w2 ⟨rfl, hB2⟩
  have hC2 := bsq hB1 hB2
  rw [HWe.out]
  go_wp2_with fail
  refine (rwithin_any _ l g a n _ w2 (HV.out.on hC2) HL.out).mono ?_
  rintro e w' ⟨rfl, rfl⟩
  rw [HWe.out]
  go_wp2_with fail
  refine (HT.out.place _ l g a w2 (HV.out.on hC2) HL.out HN.out HG.out HA.out (HT.out.on HK.out hC2)).mono ?_
  rintro e w3 ⟨rfl, hB3⟩
  have hC3 := bsq hC2 hB3
  rw [HPe.out]
  go_wp2_with fail
  refine (rplace_any _ l g a _ w3 (HV.out.on hC3) HL.out).mono ?_
  rintro e w' ⟨rfl, rfl⟩
  rw [HPe.out]
  go_wp2_with fail
  go_ret
  exact ⟨rfl, hC3⟩

theorem cutE_bd (l bs : List Int) : cutE l bs = 0 ∨ cutE l bs = 1 ∨ cutE l bs = 10 := by
  unfold cutE
  repeat' split
  all_goals simp
set_option maxRecDepth 100000 in
set_option maxHeartbeats 1000000 in
theorem cuts_any {K : World → Prop} (T : ArenaOK K) (v u : Value) (l bs : List Int) (w : World) (h : NumS .i64 w w.heap.size v l) (hl : All64 l) (hn : l.length ≤ 1000000000) (h' : Bytes w w.heap.size u bs) (hb : AllB bs) (hn' : bs.length ≤ 1000000000) (hK : K w) :
    Calls Try.prog 18 #[v, u] w fun e w' => e = .returned (.bool true) ∧ Below w.heap.size w w' := by
  have HT := Lib.hid T
  have HK := Lib.hid hK
  clear hK
  have HV := Lib.hid h
  have HU := Lib.hid h'
  have HL := Lib.hid hl
  have HN := Lib.hid hn
  have HB := Lib.hid hb
  have HN' := Lib.hid hn'
  have hbd := cutE_bd l bs
  obtain ⟨A, c, rfl, -⟩ := h
  obtain ⟨A', c', rfl, -⟩ := h'
  obtain ⟨len, hlen⟩ : ∃ m, m = l.length := ⟨_, rfl⟩
  obtain ⟨len', hlen'⟩ : ∃ m, m = bs.length := ⟨_, rfl⟩
  rw [← hlen] at HV ⊢
  rw [← hlen'] at HU ⊢
  obtain ⟨E, hE⟩ : ∃ E, cutE l bs = E := ⟨_, rfl⟩
  have HE := Lib.hid hE
  rw [hE] at hbd
  have d0 : (E == E) = true := by simp
  have HS : Hid (sameA (cutR l bs) (cutR l bs) = true) := Lib.hid (decide_eq_true rfl)
  clear T hl hn hb hn' hlen hlen' hE
  have b0 : 0 ≤ E := by omega
  have b1 : E ≤ 10 := by omega
  clear hbd
  go_enter Try.func18, Try.ntmps18
  go_wp2_with fail
  refine (HT.out.cut _ _ l bs w HV.out HL.out HN.out HU.out HB.out HN'.out HK.out).mono ?_
  rintro e w1 ⟨x, rfl, ho, hB1⟩
  rw [HE.out]
  have HO := Lib.hid ho.arV
  clear ho
  go_wp2_with fail
  refine (rcut_any _ _ l bs w1 (HV.out.on hB1) HL.out (HU.out.on hB1) HB.out).mono ?_
  rintro e w2 ⟨y, rfl, ho2, hB2⟩
  rw [HE.out]
  have HO2 := Lib.hid ho2.arV
  have hC2 := bsq hB1 hB2
  clear ho2
  go_wp2_with fail
  refine (rsame7_any x y _ _ w2 (HO.out.on hB2) HO2.out).mono ?_
  rintro e w3 ⟨rfl, hB3⟩
  rw [HS.out]
  have hC3 := bsq hC2 hB3
  go_wp2_with fail
  go_ret
  exact ⟨rfl, hC3⟩

end Go.Proofs.Ythinhknfiaohlaa
