/-
  Layer 9: the law ReadFar.
-/
import Derived.Test.YtmcnnihhnapjpaaDoorZRdLawsA
import Derived.Test.YtmcnnihhnapjpaaDoorZPtrEnc

namespace Go.Proofs.YtmcnnihhnapjpaaDoor
open Go.RowKit Go.Deep

theorem num_row {w : World} {b t : Nat} {l : List Int} (h : RowV w b t (l.map (Value.int .u64))) (hl : l.length ≤ 1000000) : NumS .u64 w w.heap.size (.slice (some ⟨b, 0, none⟩) l.length l.length) l := by
  refine ⟨_, l.length, rfl, Nat.le_refl _, by omega, fun _ => ⟨b, 0, rfl, h.lt, fun j hj => ?_⟩⟩
  rw [Nat.zero_add, h.cell (by simpa using hj), List.getElem?_map, List.getElem?_eq_getElem hj]
  rfl
theorem ar_row {w : World} {b t : Nat} {ss : List Value} {ls : List (List Int)} (h : RowV w b t ss) (hl : ss.length = ls.length) (hs : ls.length ≤ 1000000) (hn : ∀ j, j < ls.length → NumS .u64 w w.heap.size (ss[j]?.getD undef) (ls[j]?.getD [])) : ArV w w.heap.size (.slice (some ⟨b, 0, none⟩) ls.length ls.length) ls := by
  refine ⟨_, ls.length, rfl, Nat.le_refl _, by omega, fun _ => ⟨b, 0, rfl, h.lt, fun j hj => ⟨_, ?_, hn j hj⟩⟩⟩
  rw [Nat.zero_add]
  exact h.cell (by omega)
theorem segF_set (x : Int) (k : Nat) (w : Int) : ((List.replicate (k + 2) (0 : Int)).set 0 x).set (k + 1) w = segF x k w := by
  unfold segF
  rw [List.replicate_succ, List.set_cons_zero, List.set_cons_succ, List.replicate_succ', List.set_append_right _ _ (by simp)]
  simp
theorem segF_row {w : World} {g t : Nat} (x : Int) (k : Nat) (y : Int) (h : RowV w g t (((List.replicate (k + 2) (Value.int .u64 0)).set 0 (.int .u64 x)).set (k + 1) (.int .u64 y))) : RowV w g t ((segF x k y).map (Value.int .u64)) := by
  rw [← segF_set, List.map_set, List.map_set, List.map_replicate]
  exact h
theorem one_row (w : World) (x : Int) : RowV (w.alloc (.cells #[.int .u64 x] 30)) w.heap.size 30 ([x].map (Value.int .u64)) := by unfold RowV; rw [blk_alloc_new]; rfl
theorem encW_bd (p : Pt) : 0 ≤ encW p ∧ encW p ≤ 18446744073709551615 := by
  unfold encW
  split
  · have := rawW_bd p; omega
  · decide
def InU (x : Int) : Prop := 0 ≤ x ∧ x ≤ 18446744073709551615
theorem segF_in {x y : Int} {k : Nat} (hx : InU x) (hy : InU y) : ∀ z ∈ segF x k y, InU z := by
  intro z hz
  unfold segF at hz
  rcases List.mem_cons.1 hz with rfl | hz
  · exact hx
  · rcases List.mem_append.1 hz with hz | hz
    · obtain rfl := List.eq_of_mem_replicate hz
      exact ⟨by decide, by decide⟩
    · obtain rfl := List.mem_singleton.1 hz
      exact hy
theorem allu_one {l : List Int} (h : ∀ z ∈ l, InU z) : AllU [l] := fun s hs x hx => by
  obtain rfl := List.mem_singleton.1 hs
  exact h x hx
theorem allu_two {l m : List Int} (h : ∀ z ∈ l, InU z) (k : ∀ z ∈ m, InU z) : AllU [l, m] := fun s hs x hx => by
  rcases List.mem_cons.1 hs with rfl | hs
  · exact h x hx
  · obtain rfl := List.mem_singleton.1 hs
    exact k x hx
theorem allu_three {l m n : List Int} (h : ∀ z ∈ l, InU z) (k : ∀ z ∈ m, InU z) (i : ∀ z ∈ n, InU z) : AllU [l, m, n] := fun s hs x hx => by
  rcases List.mem_cons.1 hs with rfl | hs
  · exact h x hx
  · rcases List.mem_cons.1 hs with rfl | hs
    · exact k x hx
    · obtain rfl := List.mem_singleton.1 hs
      exact i x hx
theorem RowV.new (w : World) (t : Nat) (c : Array Value) (xs : List Value) (h : c = xs.toArray) : RowV (w.alloc (.cells c t)) w.heap.size t xs := by
  subst h
  unfold RowV
  rw [blk_alloc_new]
theorem RowV.alloc {w : World} {g t : Nat} {xs : List Value} (h : RowV w g t xs) (o : Obj) : RowV (w.alloc o) g t xs := h.below (B := w.heap.size) ((Below.refl _ _).alloc (Nat.le_refl _) _) h.lt
/-- the arena of one segment; of a far pointer and a segment; of a double one -/
theorem ar_one {W : World} {g : Nat} {l : List Int} (hr : RowV W g 30 (l.map (Value.int .u64))) (hl : l.length ≤ 1000) : ArV (W.alloc (.cells #[.slice (some ⟨g, 0, none⟩) l.length l.length] 23)) (W.alloc (.cells #[.slice (some ⟨g, 0, none⟩) l.length l.length] 23)).heap.size (.slice (some ⟨W.heap.size, 0, none⟩) 1 1) [l] := by
  refine ar_row (ls := [l]) (ss := [.slice (some ⟨g, 0, none⟩) l.length l.length]) (RowV.new _ _ _ _ rfl) rfl (by simp) (fun j hj => ?_)
  obtain rfl : j = 0 := by simp at hj; omega
  exact num_row (hr.alloc _) (by omega)
theorem ar_two {W : World} {g : Nat} {l : List Int} (x : Int) (hr : RowV W g 30 (l.map (Value.int .u64))) (hl : l.length ≤ 1000) : ArV ((W.alloc (.cells #[.int .u64 x] 30)).alloc (.cells #[.slice (some ⟨W.heap.size, 0, none⟩) 1 1, .slice (some ⟨g, 0, none⟩) l.length l.length] 23)) ((W.alloc (.cells #[.int .u64 x] 30)).alloc (.cells #[.slice (some ⟨W.heap.size, 0, none⟩) 1 1, .slice (some ⟨g, 0, none⟩) l.length l.length] 23)).heap.size (.slice (some ⟨W.heap.size + 1, 0, none⟩) 2 2) [[x], l] := by
  have h1 := one_row W x
  have hr1 := hr.alloc (.cells #[.int .u64 x] 30)
  have hz : (W.alloc (.cells #[.int .u64 x] 30)).heap.size = W.heap.size + 1 := World.size_alloc _ _
  rw [← hz]
  generalize hX : W.alloc (.cells #[.int .u64 x] 30) = X at *
  refine ar_row (ls := [[x], l]) (ss := [.slice (some ⟨W.heap.size, 0, none⟩) 1 1, .slice (some ⟨g, 0, none⟩) l.length l.length]) (RowV.new _ _ _ _ rfl) rfl (by simp) (fun j hj => ?_)
  rcases j with _ | _ | j
  · exact num_row (l := [x]) (h1.alloc _) (by simp)
  · exact num_row (hr1.alloc _) (by omega)
  · simp at hj; omega
theorem ar_three (W : World) (x p t y : Int) : ArV ((((W.alloc (.cells #[.int .u64 x] 30)).alloc (.cells #[.int .u64 p, .int .u64 t] 30)).alloc (.cells #[.int .u64 y] 30)).alloc (.cells #[.slice (some ⟨W.heap.size, 0, none⟩) 1 1, .slice (some ⟨W.heap.size + 1, 0, none⟩) 2 2, .slice (some ⟨W.heap.size + 1 + 1, 0, none⟩) 1 1] 23)) ((((W.alloc (.cells #[.int .u64 x] 30)).alloc (.cells #[.int .u64 p, .int .u64 t] 30)).alloc (.cells #[.int .u64 y] 30)).alloc (.cells #[.slice (some ⟨W.heap.size, 0, none⟩) 1 1, .slice (some ⟨W.heap.size + 1, 0, none⟩) 2 2, .slice (some ⟨W.heap.size + 1 + 1, 0, none⟩) 1 1] 23)).heap.size (.slice (some ⟨W.heap.size + 1 + 1 + 1, 0, none⟩) 3 3) [[x], [p, t], [y]] := by
  have h1 := (((one_row W x).alloc (.cells #[.int .u64 p, .int .u64 t] 30)).alloc (.cells #[.int .u64 y] 30))
  have h2 := (RowV.new (W.alloc (.cells #[.int .u64 x] 30)) 30 #[.int .u64 p, .int .u64 t] ([p, t].map (Value.int .u64)) rfl).alloc (.cells #[.int .u64 y] 30)
  have h3 := one_row ((W.alloc (.cells #[.int .u64 x] 30)).alloc (.cells #[.int .u64 p, .int .u64 t] 30)) y
  have z1 : (W.alloc (.cells #[.int .u64 x] 30)).heap.size = W.heap.size + 1 := World.size_alloc _ _
  have z2 : ((W.alloc (.cells #[.int .u64 x] 30)).alloc (.cells #[.int .u64 p, .int .u64 t] 30)).heap.size = W.heap.size + 1 + 1 := by rw [World.size_alloc, z1]
  have z3 : (((W.alloc (.cells #[.int .u64 x] 30)).alloc (.cells #[.int .u64 p, .int .u64 t] 30)).alloc (.cells #[.int .u64 y] 30)).heap.size = W.heap.size + 1 + 1 + 1 := by rw [World.size_alloc, z2]
  rw [z1] at h2
  rw [z2] at h3
  rw [← z3]
  generalize ((W.alloc (.cells #[.int .u64 x] 30)).alloc (.cells #[.int .u64 p, .int .u64 t] 30)).alloc (.cells #[.int .u64 y] 30) = X at *
  refine ar_row (ls := [[x], [p, t], [y]]) (ss := [.slice (some ⟨W.heap.size, 0, none⟩) 1 1, .slice (some ⟨W.heap.size + 1, 0, none⟩) 2 2, .slice (some ⟨W.heap.size + 1 + 1, 0, none⟩) 1 1]) (RowV.new _ _ _ _ rfl) rfl (by simp) (fun j hj => ?_)
  rcases j with _ | _ | _ | j
  · exact num_row (l := [x]) (h1.alloc _) (by simp)
  · exact num_row (l := [p, t]) (h2.alloc _) (by simp)
  · exact num_row (l := [y]) (h3.alloc _) (by simp)
  · simp at hj; omega

set_option maxRecDepth 100000 in
set_option maxHeartbeats 4000000 in
theorem far_walk (y : Int) (q : Nat) (d : Bool) (w : World) (hy : 0 ≤ y ∧ y ≤ 18446744073709551615) (L : Laid w) :
    Calls Tryd.prog 4 #[.int .u64 y, .int .u8 q, .bool d] w fun e w' => e = .returned (.bool true) ∧ Below w.heap.size w w' := by
  have HL := Lib.hid (fun X (hX : Below w.heap.size w X) => L.on hX)
  have HK := Lib.hid (fun X (hX : Below w.heap.size w X) => known9_any X (L.on hX))
  obtain ⟨k, hk⟩ : ∃ k : Nat, k = q % 20 := ⟨_, rfl⟩
  have hk1 : k ≤ 19 := by omega
  have hwk : (q : Int) % 20 = (k : Int) := by omega
  have hw1 : IntKind.i64.wrap ((k : Int) + 2) = ((k + 2 : Nat) : Int) := by rw [IntWalk.i64_in _ (by omega)]; omega
  have hw2 : IntKind.i64.wrap ((k : Int) + 1) = ((k + 1 : Nat) : Int) := by rw [IntWalk.i64_in _ (by omega)]; omega
  have hmk := run_make_row' (P := Tryd.prog) 23 30 (.int .u64 0) 8 Tryd.underlying23 Tryd.info30 rfl .i64 .i64 (k + 2) (by omega) (by omega)
  rw [show ((k + 2 : Nat) : Int) = (k : Int) + 2 by omega] at hmk
  obtain ⟨a, ha⟩ : ∃ a, a = encW (nearF k) := ⟨_, rfl⟩
  obtain ⟨b, hb⟩ : ∃ a, a = encW (farF d) := ⟨_, rfl⟩
  obtain ⟨t, ht⟩ : ∃ a, a = encW tagF := ⟨_, rfl⟩
  obtain ⟨p, hp⟩ : ∃ a, a = encW placeF := ⟨_, rfl⟩
  have HE1 := Lib.hid (fun X => renc_any (nearF k) X)
  have HE2 := Lib.hid (fun X => renc_any (farF d) X)
  have HE3 := Lib.hid (fun X => renc_any tagF X)
  have HE4 := Lib.hid (fun X => renc_any placeF X)
  rw [← ha] at HE1
  rw [← hb] at HE2
  rw [← ht] at HE3
  rw [← hp] at HE4
  generalize encE (nearF k) = e1 at *
  generalize encE (farF d) = e2 at *
  generalize encE tagF = e3 at *
  generalize encE placeF = e4 at *
  unfold cellsP at HE1 HE2 HE3 HE4
  unfold nearF at HE1
  unfold farF at HE2
  unfold tagF at HE3
  unfold placeF at HE4
  dsimp only at HE1 HE2 HE3 HE4
  have HA := Lib.hid ha
  have HB := Lib.hid hb
  have HT := Lib.hid ht
  have HP := Lib.hid hp
  clear ha hb ht hp L hk
  go_enter Tryd.func4, Tryd.ntmps4
  go_wp2_with fail
  refine (HE1.out _).mono ?_
  rintro e w1 ⟨rfl, hB1⟩
  have HB1 := Lib.hid hB1
  clear hB1
  go_wp2_with fail
  refine (HE2.out _).mono ?_
  rintro e w2 ⟨rfl, hB2⟩
  have HB2 := Lib.hid (bseq' HB1.out hB2)
  clear hB2
  go_wp2_with fail
  refine (HE3.out _).mono ?_
  rintro e w3 ⟨rfl, hB3⟩
  have HB3 := Lib.hid (bseq' HB2.out hB3)
  clear hB3
  go_wp2_with fail
  refine (HE4.out _).mono ?_
  rintro e w4 ⟨rfl, hB4⟩
  have HB4 := Lib.hid (bseq' HB3.out hB4)
  clear hB4
  have hr5 := RowV.made w4 30 (.int .u64 0) (k + 2)
  obtain ⟨W5, hW5⟩ : ∃ W5, W5 = w4.alloc (.cells (madeCells #[Value.int .u64 0] (k + 2)) 30) := ⟨_, rfl⟩
  have hB5 : Below w.heap.size w W5 := by rw [hW5]; exact HB4.out.alloc HB4.out.size _
  rw [← hW5] at hr5
  have HB5 := Lib.hid hB5
  obtain ⟨g, hg⟩ : ∃ g, g = w4.heap.size := ⟨_, rfl⟩
  have hgw : w.heap.size ≤ g := by rw [hg]; exact HB4.out.size
  have HG := Lib.hid hgw
  rw [← hg] at hr5
  go_upto_region 7 with fail
  rw [← hW5, ← hg]
  have HR5 := Lib.hid hr5
  have HR6 := Lib.hid (hr5.set 0 (.int .u64 a))
  have HR7 := Lib.hid ((hr5.set 0 (.int .u64 a)).set (k + 1) (.int .u64 y))
  have HB7 := Lib.hid ((hB5.setCell (p := ⟨g, 0, none⟩) hgw (.int .u64 a)).setCell (p := ⟨g, k + 1, none⟩) hgw (.int .u64 y))
  have c0 := hr5.cell (j := 0) (by simp)
  have f0 := hr5.frozen 0
  have c1 := HR6.out.cell (j := k + 1) (by simp)
  have f1 := HR6.out.frozen (k + 1)
  clear hW5 hg hr5 hB5 hgw hmk
  go_upto_region 9 with fail
  generalize (W5.setCell ⟨g, 0, none⟩ (.int .u64 a)).setCell ⟨g, k + 1, none⟩ (.int .u64 y) = W7 at *
  have hS7 := segF_row a k y HR7.out
  have hA8 := ar_one hS7 (by rw [segF_len]; omega)
  have hS8 := hS7.alloc (.cells #[.slice (some ⟨g, 0, none⟩) (segF a k y).length (segF a k y).length] 23)
  rw [segF_len] at hA8 hS8
  have hB8 : Below w.heap.size w (W7.alloc (.cells #[.slice (some ⟨g, 0, none⟩) (k + 2) (k + 2)] 23)) := HB7.out.alloc HB7.out.size _
  obtain ⟨W8, hW8⟩ : ∃ W8, W8 = W7.alloc (.cells #[.slice (some ⟨g, 0, none⟩) (k + 2) (k + 2)] 23) := ⟨_, rfl⟩
  rw [← hW8] at hA8 hB8 hS8
  obtain ⟨g8, hg8⟩ : ∃ g8, g8 = W7.heap.size := ⟨_, rfl⟩
  rw [← hg8] at hA8
  clear c0 f0 c1 f1 HR5 HR6 HR7 hS7
  go_upto_region 10 with fail
  rw [← hW8, ← hg8]
  clear hW8 hg8
  have hya : InU y := hy
  have haa : InU a := by rw [HA.out]; exact encW_bd _
  have hbb : InU b := by rw [HB.out]; exact encW_bd _
  have htt : InU t := by rw [HT.out]; exact encW_bd _
  have hpp : InU p := by rw [HP.out]; exact encW_bd _
  have HOa := Lib.hid (fun X (hX : Below W8.heap.size W8 X) => of_any _ [segF a k y] X (.slice none 0 0) [] 0 9 (HL.out X (hB8.trans (hX.mono hB8.size))) (hA8.on hX) (by simp) (allu_one (segF_in haa hya)) ⟨none, 0, rfl, by simp, by omega, fun h => by simp at h⟩ (fun x hx => by simp at hx) ⟨by decide, by decide⟩ ⟨by decide, by decide⟩)
  rw [far_near a k y (by omega) HA.out] at HOa
  have hB10 := ar_two b hS8 (by rw [segF_len]; omega)
  rw [segF_len] at hB10
  have hA10 : Below W8.heap.size W8 ((W8.alloc (.cells #[.int .u64 b] 30)).alloc (.cells #[.slice (some ⟨W8.heap.size, 0, none⟩) 1 1, .slice (some ⟨g, 0, none⟩) (k + 2) (k + 2)] 23)) := ((Below.refl _ _).alloc (Nat.le_refl _) _).alloc (by simp) _
  obtain ⟨W10, hW10⟩ : ∃ W10, W10 = (W8.alloc (.cells #[.int .u64 b] 30)).alloc (.cells #[.slice (some ⟨W8.heap.size, 0, none⟩) 1 1, .slice (some ⟨g, 0, none⟩) (k + 2) (k + 2)] 23) := ⟨_, rfl⟩
  rw [← hW10] at hB10 hA10
  have HA10 := Lib.hid hA10
  have HB8 := Lib.hid hB8
  have HD10 := Lib.hid hB10
  clear hA10 hB8 hB10 hA8 hS8
  go_upto_region 11 with fail
  rw [← hW10]
  clear hW10
  cases d with
  | false =>
    have HBx := Lib.hid (HB8.out.trans (HA10.out.mono HB8.out.size))
    have HOb := Lib.hid (fun X (hX : Below W10.heap.size W10 X) => of_any _ [[b], segF a k y] X (.slice none 0 0) [] 0 9 (HL.out X (HBx.out.trans (hX.mono HBx.out.size))) (HD10.out.on hX) (by simp) (allu_two (fun z hz => by obtain rfl := List.mem_singleton.1 hz; exact hbb) (segF_in haa hya)) ⟨none, 0, rfl, by simp, by omega, fun h => by simp at h⟩ (fun x hx => by simp at hx) ⟨by decide, by decide⟩ ⟨by decide, by decide⟩)
    rw [far_one b a k y (by omega) HB.out HA.out] at HOb
    clear hya haa hbb htt hpp HD10
    go_wp2_with fail
    refine (HOa.out W10 HA10.out).mono ?_
    rintro e v1 ⟨rfl, hC1⟩
    unfold cellsV
    dsimp only
    have hC2 : Below v1.heap.size v1 (v1.alloc (.cells (cellsV ⟨1, 0, 0, 0, y⟩) 32)) := (Below.refl _ _).alloc (Nat.le_refl _) _
    have HV2 := Lib.hid (VBox.new v1 ⟨1, 0, 0, 0, y⟩)
    have HC2 := Lib.hid (HBx.out.trans ((hC1.trans (hC2.mono hC1.size)).mono HBx.out.size))
    have HAx := Lib.hid (hC1.trans (hC2.mono hC1.size))
    obtain ⟨v2, hv2⟩ : ∃ v2, v2 = v1.alloc (.cells (cellsV ⟨1, 0, 0, 0, y⟩) 32) := ⟨_, rfl⟩
    rw [← hv2] at HV2 HC2 HAx
    unfold cellsV at hv2
    dsimp only at hv2
    clear hC1 hC2
    go_upto_region 14 with fail
    rw [← hv2]
    clear hv2
    go_wp2_with fail
    refine (HOb.out v2 HAx.out).mono ?_
    rintro e v3 ⟨rfl, hC3⟩
    unfold cellsV
    dsimp only
    have hC4 : Below v3.heap.size v3 (v3.alloc (.cells (cellsV ⟨1, 0, 0, 0, y⟩) 32)) := (Below.refl _ _).alloc (Nat.le_refl _) _
    have HV4 := Lib.hid ((HV2.out.on hC3).on hC4)
    have HU4 := Lib.hid (VBox.new v3 ⟨1, 0, 0, 0, y⟩)
    have HC4 := Lib.hid (HC2.out.trans ((hC3.trans (hC4.mono hC3.size)).mono HC2.out.size))
    obtain ⟨v4, hv4⟩ : ∃ v4, v4 = v3.alloc (.cells (cellsV ⟨1, 0, 0, 0, y⟩) 32) := ⟨_, rfl⟩
    rw [← hv4] at HV4 HU4 HC4
    unfold cellsV at hv4
    dsimp only at hv4
    clear hC3 hC4
    go_upto_region 15 with fail
    rw [← hv4]
    clear hv4
    go_wp2_with fail
    refine (HK.out v4 HC4.out).mono ?_
    rintro e v5 ⟨rfl, hC5⟩
    have HV5 := Lib.hid (HV4.out.on hC5)
    have HU5 := Lib.hid (HU4.out.on hC5)
    have HC5 := Lib.hid (HC4.out.trans (hC5.mono HC4.out.size))
    clear hC5
    obtain ⟨x0, x1, x2, x3, x4⟩ := HV5.out.cells
    obtain ⟨y0, y1, y2, y3, y4⟩ := HU5.out.cells
    dsimp only at x0 x1 x2 x3 x4 y0 y1 y2 y3 y4
    have hqe : ∀ X, (binOp .eql 32 (.agg #[.int .i64 1, .int .i64 0, .int .i64 0, .int .i64 0, .int .u64 y]) (.agg #[.int .i64 1, .int .i64 0, .int .i64 0, .int .i64 0, .int .u64 y])).run Tryd.prog X = .ok (.bool true) X := fun X => by rw [← eqV_iff.2 (rfl : (⟨1, 0, 0, 0, y⟩ : Va) = ⟨1, 0, 0, 0, y⟩)]; exact run_eql_V X ⟨1, 0, 0, 0, y⟩ ⟨1, 0, 0, 0, y⟩
    have hgd := fun w op x y xs ys => run_eqGuard_agg (P := Tryd.prog) w op 32 x y xs ys (by kernel_rfl)
    go_wp2_with fail
    go_ret
    exact ⟨rfl, HC5.out⟩
  | true =>
    have hD14 := ar_three W10 b p t y
    have hA14 : Below W10.heap.size W10 ((((W10.alloc (.cells #[.int .u64 b] 30)).alloc (.cells #[.int .u64 p, .int .u64 t] 30)).alloc (.cells #[.int .u64 y] 30)).alloc (.cells #[.slice (some ⟨W10.heap.size, 0, none⟩) 1 1, .slice (some ⟨W10.heap.size + 1, 0, none⟩) 2 2, .slice (some ⟨W10.heap.size + 1 + 1, 0, none⟩) 1 1] 23)) := ((((Below.refl _ _).alloc (Nat.le_refl _) _).alloc (by simp) _).alloc (by simp; omega) _).alloc (by simp; omega) _
    obtain ⟨W14, hW14⟩ : ∃ W14, W14 = (((W10.alloc (.cells #[.int .u64 b] 30)).alloc (.cells #[.int .u64 p, .int .u64 t] 30)).alloc (.cells #[.int .u64 y] 30)).alloc (.cells #[.slice (some ⟨W10.heap.size, 0, none⟩) 1 1, .slice (some ⟨W10.heap.size + 1, 0, none⟩) 2 2, .slice (some ⟨W10.heap.size + 1 + 1, 0, none⟩) 1 1] 23) := ⟨_, rfl⟩
    rw [← hW14] at hD14 hA14
    have HA14 := Lib.hid (HA10.out.trans (hA14.mono HA10.out.size))
    have HBx := Lib.hid (HB8.out.trans (HA14.out.mono HB8.out.size))
    have HD14 := Lib.hid hD14
    have HOb := Lib.hid (fun X (hX : Below W14.heap.size W14 X) => of_any _ [[b], [p, t], [y]] X (.slice none 0 0) [] 0 9 (HL.out X (HBx.out.trans (hX.mono HBx.out.size))) (HD14.out.on hX) (by simp) (allu_three (fun z hz => by obtain rfl := List.mem_singleton.1 hz; exact hbb) (fun z hz => by rcases List.mem_cons.1 hz with rfl | hz; exact hpp; obtain rfl := List.mem_singleton.1 hz; exact htt) (fun z hz => by obtain rfl := List.mem_singleton.1 hz; exact hya)) ⟨none, 0, rfl, by simp, by omega, fun h => by simp at h⟩ (fun x hx => by simp at hx) ⟨by decide, by decide⟩ ⟨by decide, by decide⟩)
    rw [far_two b p t y HB.out HP.out HT.out] at HOb
    clear hya haa hbb htt hpp HD10 HD14 hD14 hA14
    go_upto_region 13 with fail
    rw [← hW14]
    clear hW14
    go_wp2_with fail
    refine (HOa.out W14 HA14.out).mono ?_
    rintro e v1 ⟨rfl, hC1⟩
    unfold cellsV
    dsimp only
    have hC2 : Below v1.heap.size v1 (v1.alloc (.cells (cellsV ⟨1, 0, 0, 0, y⟩) 32)) := (Below.refl _ _).alloc (Nat.le_refl _) _
    have HV2 := Lib.hid (VBox.new v1 ⟨1, 0, 0, 0, y⟩)
    have HC2 := Lib.hid (HBx.out.trans ((hC1.trans (hC2.mono hC1.size)).mono HBx.out.size))
    have HAx := Lib.hid (hC1.trans (hC2.mono hC1.size))
    obtain ⟨v2, hv2⟩ : ∃ v2, v2 = v1.alloc (.cells (cellsV ⟨1, 0, 0, 0, y⟩) 32) := ⟨_, rfl⟩
    rw [← hv2] at HV2 HC2 HAx
    unfold cellsV at hv2
    dsimp only at hv2
    clear hC1 hC2
    go_upto_region 14 with fail
    rw [← hv2]
    clear hv2
    go_wp2_with fail
    refine (HOb.out v2 HAx.out).mono ?_
    rintro e v3 ⟨rfl, hC3⟩
    unfold cellsV
    dsimp only
    have hC4 : Below v3.heap.size v3 (v3.alloc (.cells (cellsV ⟨1, 0, 0, 0, y⟩) 32)) := (Below.refl _ _).alloc (Nat.le_refl _) _
    have HV4 := Lib.hid ((HV2.out.on hC3).on hC4)
    have HU4 := Lib.hid (VBox.new v3 ⟨1, 0, 0, 0, y⟩)
    have HC4 := Lib.hid (HC2.out.trans ((hC3.trans (hC4.mono hC3.size)).mono HC2.out.size))
    obtain ⟨v4, hv4⟩ : ∃ v4, v4 = v3.alloc (.cells (cellsV ⟨1, 0, 0, 0, y⟩) 32) := ⟨_, rfl⟩
    rw [← hv4] at HV4 HU4 HC4
    unfold cellsV at hv4
    dsimp only at hv4
    clear hC3 hC4
    go_upto_region 15 with fail
    rw [← hv4]
    clear hv4
    go_wp2_with fail
    refine (HK.out v4 HC4.out).mono ?_
    rintro e v5 ⟨rfl, hC5⟩
    have HV5 := Lib.hid (HV4.out.on hC5)
    have HU5 := Lib.hid (HU4.out.on hC5)
    have HC5 := Lib.hid (HC4.out.trans (hC5.mono HC4.out.size))
    clear hC5
    obtain ⟨x0, x1, x2, x3, x4⟩ := HV5.out.cells
    obtain ⟨y0, y1, y2, y3, y4⟩ := HU5.out.cells
    dsimp only at x0 x1 x2 x3 x4 y0 y1 y2 y3 y4
    have hqe : ∀ X, (binOp .eql 32 (.agg #[.int .i64 1, .int .i64 0, .int .i64 0, .int .i64 0, .int .u64 y]) (.agg #[.int .i64 1, .int .i64 0, .int .i64 0, .int .i64 0, .int .u64 y])).run Tryd.prog X = .ok (.bool true) X := fun X => by rw [← eqV_iff.2 (rfl : (⟨1, 0, 0, 0, y⟩ : Va) = ⟨1, 0, 0, 0, y⟩)]; exact run_eql_V X ⟨1, 0, 0, 0, y⟩ ⟨1, 0, 0, 0, y⟩
    have hgd := fun w op x y xs ys => run_eqGuard_agg (P := Tryd.prog) w op 32 x y xs ys (by kernel_rfl)
    go_wp2_with fail
    go_ret
    exact ⟨rfl, HC5.out⟩

end Go.Proofs.YtmcnnihhnapjpaaDoor
