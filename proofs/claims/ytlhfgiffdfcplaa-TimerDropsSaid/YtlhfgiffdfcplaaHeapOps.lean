/-
  Layer 5: container/heap's own functions, over whatever lies behind the interface: Push, Pop, Fix, Remove.
-/
import Derived.Test.YtlhfgiffdfcplaaHeapLib
namespace Go.Proofs.Ytlhfgiffdfcplaa
open Go.RowKit Go.Sort
variable {α : Type} [Inhabited α]

/-! ### rows -/
theorem perm_all {d d' : Array α} {n : Nat} (hn : n ≤ d.size) (h : PermIn 0 n d d') : d'.toList.Perm d.toList := by
  have h2 := permIn_mono d d' 0 n 0 d.size (Nat.le_refl _) hn (Nat.le_refl _) h
  have := h2.2.2
  rw [show d.extract 0 d.size = d by simp, show d'.extract 0 d.size = d' by rw [← h.1]; simp] at this
  exact this
theorem swp_perm (d : Array α) {i j : Nat} (hi : i < d.size) (hj : j < d.size) : (swp d i j).toList.Perm d.toList :=
  perm_all (Nat.le_refl _) (swp_permIn d 0 d.size i j (Nat.zero_le _) hi (Nat.zero_le _) hj (Nat.le_refl _))
theorem pop_get (d : Array α) {k : Nat} (hk : k + 1 < d.size) : d.pop[k]! = d[k]! := by
  rw [getElem!_pos d.pop k (by simp; omega), getElem!_pos d k (by omega)]
  simp
theorem pop_list (d : Array α) {n : Nat} (hn : d.size = n + 1) : d.toList = d.pop.toList ++ [d[n]!] := by
  have hl : d.toList.length = n + 1 := by simpa using hn
  have hne : d.toList ≠ [] := fun e => by rw [e] at hl; simp at hl
  have e : d[n]! = d.toList.getLast hne := by
    rw [getElem!_pos d n (by omega), List.getLast_eq_getElem]
    simp [hn]
  rw [Array.toList_pop, e]
  exact (List.dropLast_concat_getLast hne).symm
theorem push_get (d : Array α) (x : α) {k : Nat} (hk : k < d.size) : (d.push x)[k]! = d[k]! := by
  rw [getElem!_pos (d.push x) k (by simp; omega), getElem!_pos d k hk, Array.getElem_push_lt]
theorem heap_pop {lt : α → α → Bool} {d : Array α} {n : Nat} (hn : d.size = n + 1) (h : HeapN lt n d) : HeapN lt d.pop.size d.pop := by
  intro k k0 kn
  have hk : k < n := by simp at kn; omega
  have hp : par k < k := by unfold par; omega
  rw [pop_get d (by omega), pop_get d (by omega)]
  exact h k k0 hk
theorem up_push {lt : α → α → Bool} {d : Array α} (h : HeapN lt d.size d) (x : α) : UpInv lt (d.push x).size (d.push x) d.size := by
  constructor
  · intro k k0 kn kk
    have hk : k < d.size := by simp at kn; omega
    have hp : par k < k := by unfold par; omega
    rw [push_get d x hk, push_get d x (by omega)]
    exact h k k0 hk
  · intro k k0 kn kp _
    simp at kn
    unfold par at kp; omega
/-- the last one in the place of i: of those ahead of it i alone may be out of place -/
theorem heap_last {lt : α → α → Bool} (hO : SWO lt) {d : Array α} {i n : Nat} (hn : d.size = n + 1) (h : HeapN lt d.size d) (hi : i < n) : DownInv lt n (swp d i n) i i := by
  have hs := swp_at d (i := i) (j := n) (by omega) (by omega)
  constructor
  · intro k k0 kn kp kk
    have hp : par k < k := by unfold par; omega
    rw [hs k, hs (par k), if_neg (by omega), if_neg (fun e => kk e rfl), if_neg (by omega), if_neg kp]
    exact h k k0 (by omega)
  · intro k k0 kn kp i0
    have hp : par k < k := by unfold par; omega
    have hpi : par i < i := by unfold par; omega
    rw [hs k, hs (par i), if_neg (by omega), if_neg (by omega), if_neg (by omega), if_neg (by omega)]
    have h1 := h k k0 (by omega)
    rw [kp] at h1
    exact le_trans' hO (h i i0 (by omega)) h1

/-- what container/heap asks besides: Push and Pop; 'New W x v': the interface value v is the new element x; 'rv x': x as it is handed back -/
structure HeapMore (T : TypeId) (pv : Value) (HQ : World → Array α → Prop) (New : World → Array α → α → Value → Prop) (rv : α → Value) : Prop where
  push : ∀ (W : World) (d : Array α) (x : α) (v : Value), HQ W d → New W d x v → ∃ f r, Sem.run Try.prog (method (Try.prog.types.size + 100) T pv "Push") W = .ok (f, r) W ∧ (∀ args w, (callFunc f args).run Try.prog w = .ok (.enter f args) w) ∧
    Calls Try.prog f #[r, v] W fun e W' => e = .returned (.tuple #[]) ∧ HQ W' (d.push x)
  pop : ∀ (W : World) (d : Array α) (n : Nat), HQ W d → d.size = n + 1 → ∃ f r, Sem.run Try.prog (method (Try.prog.types.size + 100) T pv "Pop") W = .ok (f, r) W ∧ (∀ args w, (callFunc f args).run Try.prog w = .ok (.enter f args) w) ∧
    Calls Try.prog f #[r] W fun e W' => e = .returned (rv d[n]!) ∧ HQ W' d.pop

set_option maxRecDepth 100000 in
set_option maxHeartbeats 1000000 in
theorem push_any {T : TypeId} {pv : Value} {HQ : World → Array α → Prop} {lt : α → α → Bool} {New : World → Array α → α → Value → Prop} {rv : α → Value} (H : HeapOn T pv HQ lt) (M : HeapMore T pv HQ New rv) (hO : SWO lt) (W : World) (d : Array α) (x : α) (v : Value) (h : HQ W d) (hx : New W d x v) (hh : HeapN lt d.size d) (hsz : d.size ≤ 900000) :
    Calls Try.prog 32 #[.iface T pv, v] W fun e W' => e = .returned (.tuple #[]) ∧ ∃ d', HQ W' d' ∧ d'.toList.Perm (d.toList ++ [x]) ∧ HeapN lt d'.size d' := by
  obtain ⟨f, r, r1, r2, r3⟩ := M.push W d x v h hx
  have R3 := Lib.hid r3
  have HH := Lib.hid H
  have HU := Lib.hid (up_push hh x)
  have hs1 : (d.push x).size = d.size + 1 := by simp
  have HS1 := Lib.hid hs1
  have HL : Hid ((d.push x).toList = d.toList ++ [x]) := Lib.hid (by simp)
  simp only [Try.types_size, Nat.reduceAdd] at r1
  clear r3 H M h hx hh
  obtain ⟨n, hn⟩ : ∃ n, n = d.size := ⟨_, rfl⟩
  rw [← hn] at hs1 hsz HU
  have HN := Lib.hid hn
  clear hn HS1
  generalize d.push x = d1 at *
  go_enter Try.func32, Try.ntmps32
  go_wp2_with fail
  refine R3.out.mono ?_
  rintro e w1 ⟨rfl, hq1⟩
  obtain ⟨f2, rv2, s1, s2, s3⟩ := HH.out.len w1 d1 hq1
  rw [hs1] at s3
  have S3 := Lib.hid s3
  have HS := Lib.hid hs1
  simp only [Try.types_size, Nat.reduceAdd] at s1
  clear s3 hq1 r1 r2 hs1
  go_wp2_with fail
  refine S3.out.mono ?_
  rintro e w2 ⟨rfl, hq2⟩
  have HQ2 := Lib.hid hq2
  clear hq2 s1 s2
  go_wp2_with fail
  refine (up_any HH.out hO w2 d1 n d1.size HQ2.out (Nat.le_refl _) (by rw [HS.out]; omega) HU.out (by rw [HS.out]; omega)).mono ?_
  rintro e w3 ⟨rfl, d', hq3, hp, hh⟩
  have HE : Hid (HQ w3 d' ∧ d'.toList.Perm (d.toList ++ [x]) ∧ HeapN lt d'.size d') := Lib.hid ⟨hq3, by rw [← HL.out]; exact perm_all (Nat.le_refl _) hp, by rw [hp.1]; exact hh⟩
  clear hq3 hp hh
  go_wp2_with fail
  go_end0
  exact ⟨rfl, d', HE.out⟩

set_option maxRecDepth 100000 in
set_option maxHeartbeats 1000000 in
theorem fix_any {T : TypeId} {pv : Value} {HQ : World → Array α → Prop} {lt : α → α → Bool} (H : HeapOn T pv HQ lt) (hO : SWO lt) (W : World) (d : Array α) (i : Nat) (h : HQ W d) (hi : i < d.size) (hh : DownInv lt d.size d i i) (hsz : d.size ≤ 900000) :
    Calls Try.prog 27 #[.iface T pv, .int .i64 i] W fun e W' => e = .returned (.tuple #[]) ∧ ∃ d', HQ W' d' ∧ d'.toList.Perm d.toList ∧ HeapN lt d'.size d' := by
  have HH := Lib.hid H
  have HI := Lib.hid hh
  obtain ⟨f2, rv2, s1, s2, s3⟩ := H.len W d h
  have S3 := Lib.hid s3
  simp only [Try.types_size, Nat.reduceAdd] at s1
  clear H h hh s3
  go_enter Try.func27, Try.ntmps27
  go_wp2_with fail
  refine S3.out.mono ?_
  rintro e w1 ⟨rfl, hq1⟩
  have HQ1 := Lib.hid hq1
  clear hq1 s1 s2
  go_wp2_with fail
  refine (down_any HH.out hO w1 d i d.size HQ1.out (Nat.le_refl _) HI.out (by omega) (by omega)).mono ?_
  rintro e w2 ⟨moved, rfl, d2, hq2, hp2, he2, -⟩
  have HQ2 := Lib.hid hq2
  have HP2 := Lib.hid hp2
  have HE2 := Lib.hid he2
  have hs2 : d2.size = d.size := hp2.1
  clear hq2 hp2 he2
  cases moved with
  | true =>
    have HR : Hid (HQ w2 d2 ∧ d2.toList.Perm d.toList ∧ HeapN lt d2.size d2) := Lib.hid ⟨HQ2.out, perm_all (Nat.le_refl _) HP2.out, by
      rcases HE2.out with ⟨_, h⟩ | ⟨h, _⟩
      · rw [hs2]; exact h
      · cases h⟩
    go_wp2_with fail
    go_end0
    exact ⟨rfl, d2, HR.out⟩
  | false =>
    have HU : Hid (d2 = d ∧ UpInv lt d.size d2 i) := Lib.hid (by
      rcases HE2.out with ⟨h, _⟩ | ⟨_, h⟩
      · cases h
      · exact h)
    go_wp2_with fail
    refine (up_any HH.out hO w2 d2 i d2.size HQ2.out (Nat.le_refl _) (by omega) (by rw [hs2]; exact HU.out.2) (by omega)).mono ?_
    rintro e w3 ⟨rfl, d3, hq3, hp3, hh3⟩
    have HR : Hid (HQ w3 d3 ∧ d3.toList.Perm d.toList ∧ HeapN lt d3.size d3) := Lib.hid ⟨hq3, by have := perm_all (Nat.le_refl _) hp3; rw [HU.out.1] at this; exact this, by rw [hp3.1]; exact hh3⟩
    clear hq3 hp3 hh3
    go_wp2_with fail
    go_end0
    exact ⟨rfl, d3, HR.out⟩

theorem down_none {lt : α → α → Bool} (d : Array α) (i : Nat) : DownInv lt 0 d i i := ⟨fun k _ kn => by omega, fun k _ kn => by omega⟩
theorem up_none {lt : α → α → Bool} (d : Array α) (i : Nat) : UpInv lt 0 d i := ⟨fun k _ kn => by omega, fun k _ kn => by omega⟩
theorem perm_last {d d2 : Array α} {i n : Nat} (hn : d.size = n + 1) (hi : i < d.size) (hp : PermIn 0 n (swp d i n) d2) : d2[n]! = d[i]! ∧ (d2.pop.toList ++ [d[i]!]).Perm d.toList := by
  have e : d2[n]! = d[i]! := by
    rw [hp.2.1 n (.inr (Nat.le_refl _)), swp_at d hi (by omega), if_pos rfl]
  refine ⟨e, ?_⟩
  have hs : d2.size = n + 1 := by rw [hp.1, size_swp, hn]
  rw [← e, ← pop_list d2 hs]
  exact (perm_all (by rw [size_swp]; omega) hp).trans (swp_perm d hi (by omega))

set_option maxRecDepth 100000 in
set_option maxHeartbeats 2000000 in
theorem remove_any {T : TypeId} {pv : Value} {HQ : World → Array α → Prop} {lt : α → α → Bool} {New : World → Array α → α → Value → Prop} {rv : α → Value} (H : HeapOn T pv HQ lt) (M : HeapMore T pv HQ New rv) (hO : SWO lt) (W : World) (d : Array α) (i n : Nat) (h : HQ W d) (hn : d.size = n + 1) (hi : i ≤ n) (hh : HeapN lt d.size d) (hsz : n ≤ 900000) :
    Calls Try.prog 33 #[.iface T pv, .int .i64 i] W fun e W' => e = .returned (rv d[i]!) ∧ ∃ d', HQ W' d' ∧ (d'.toList ++ [d[i]!]).Perm d.toList ∧ HeapN lt d'.size d' := by
  have HH := Lib.hid H
  have HM := Lib.hid M
  have HHe := Lib.hid hh
  obtain ⟨f2, rv2, s1, s2, s3⟩ := H.len W d h
  rw [hn] at s3
  have S3 := Lib.hid s3
  have HN := Lib.hid hn
  simp only [Try.types_size, Nat.reduceAdd] at s1
  have hw : IntKind.i64.wrap ((n : Int) + 1 - 1) = (n : Int) := by rw [Int.add_sub_cancel]; exact IntWalk.i64_in _ (by omega)
  clear H M h hh s3 hn
  by_cases hni : n = i
  · subst hni
    have e0 : ((n : Int) != (n : Int)) = false := by simp
    have HPX0 : Hid (d.size = n + 1 ∧ d[n]! = d[n]! ∧ (d.pop.toList ++ [d[n]!]).Perm d.toList ∧ HeapN lt n d) := Lib.hid ⟨HN.out, rfl, by rw [← pop_list d HN.out], fun k k0 kn => HHe.out k k0 (by rw [HN.out]; omega)⟩
    go_enter Try.func33, Try.ntmps33
    go_wp2_with fail
    refine S3.out.mono ?_
    rintro e w1 ⟨rfl, hq1⟩
    have HQ1 := Lib.hid hq1
    clear hq1 s1 s2
    have HPX := HPX0
    clear HPX0
    obtain ⟨f4, rv4, q1, q2, q3⟩ := HM.out.pop w1 d n HQ1.out (by rw [HPX.out.1])
    have Q3 := Lib.hid q3
    simp only [Try.types_size, Nat.reduceAdd] at q1
    clear q3
    go_wp2_with fail
    refine Q3.out.mono ?_
    rintro e w4 ⟨rfl, hq4⟩
    have HR : Hid (HQ w4 d.pop ∧ (d.pop.toList ++ [d[n]!]).Perm d.toList ∧ HeapN lt d.pop.size d.pop) := Lib.hid ⟨hq4, HPX.out.2.2.1, heap_pop HPX.out.1 HPX.out.2.2.2⟩
    clear hq4 q1 q2
    go_wp2_with fail
    go_ret
    exact ⟨rfl, d.pop, HR.out⟩
  · have e0 : ((n : Int) != (i : Int)) = true := by simpa using (fun e => hni (by omega))
    have HD := Lib.hid (heap_last hO HN.out HHe.out (i := i) (by omega))
    go_enter Try.func33, Try.ntmps33
    go_wp2_with fail
    refine S3.out.mono ?_
    rintro e w1 ⟨rfl, hq1⟩
    obtain ⟨f3, rv3, p1, p2, p3⟩ := HH.out.swap w1 d i n hq1 (by rw [HN.out]; omega) (by rw [HN.out]; omega)
    have P3 := Lib.hid p3
    simp only [Try.types_size, Nat.reduceAdd] at p1
    clear hq1 s1 s2 p3
    go_wp2_with fail
    refine P3.out.mono ?_
    rintro e w2 ⟨rfl, hq2⟩
    have HQ2 := Lib.hid hq2
    clear hq2 p1 p2
    go_wp2_with fail
    refine (down_any HH.out hO w2 (swp d i n) i n HQ2.out (by rw [size_swp, HN.out]; omega) HD.out (by rw [size_swp, HN.out]; omega) (by omega)).mono ?_
    rintro e w3 ⟨moved, rfl, d3, hq3, hp3, he3, -⟩
    have HQ3 := Lib.hid hq3
    have HP3 := Lib.hid hp3
    have HE3 := Lib.hid he3
    have HS3 : Hid (d3.size = n + 1) := Lib.hid (by rw [hp3.1, size_swp, HN.out])
    clear hq3 hp3 he3
    cases moved with
    | true =>
      have HPX : Hid (d3.size = n + 1 ∧ d3[n]! = d[i]! ∧ (d3.pop.toList ++ [d[i]!]).Perm d.toList ∧ HeapN lt n d3) := Lib.hid ⟨HS3.out, (perm_last HN.out (by rw [HN.out]; omega) HP3.out).1, (perm_last HN.out (by rw [HN.out]; omega) HP3.out).2, by
        rcases HE3.out with ⟨_, h⟩ | ⟨h, _⟩
        · exact h
        · cases h⟩
      obtain ⟨f4, rv4, q1, q2, q3⟩ := HM.out.pop w3 d3 n HQ3.out (by rw [HPX.out.1])
      rw [HPX.out.2.1] at q3
      have Q3 := Lib.hid q3
      simp only [Try.types_size, Nat.reduceAdd] at q1
      clear q3
      go_wp2_with fail
      refine Q3.out.mono ?_
      rintro e w4 ⟨rfl, hq4⟩
      have HR : Hid (HQ w4 d3.pop ∧ (d3.pop.toList ++ [d[i]!]).Perm d.toList ∧ HeapN lt d3.pop.size d3.pop) := Lib.hid ⟨hq4, HPX.out.2.2.1, heap_pop HPX.out.1 HPX.out.2.2.2⟩
      clear hq4 q1 q2
      go_wp2_with fail
      go_ret
      exact ⟨rfl, d3.pop, HR.out⟩
    | false =>
      have HU : Hid (d3 = swp d i n ∧ UpInv lt n d3 i) := Lib.hid (by
        rcases HE3.out with ⟨h, _⟩ | ⟨_, h⟩
        · cases h
        · exact h)
      go_wp2_with fail
      refine (up_any HH.out hO w3 d3 i n HQ3.out (by rw [HS3.out]; omega) (by omega) HU.out.2 (by rw [HS3.out]; omega)).mono ?_
      rintro e w5 ⟨rfl, d5, hq5, hp5, hh5⟩
      have HQ5 := Lib.hid hq5
      have hp6 : PermIn 0 n (swp d i n) d5 := by have := hp5; rw [HU.out.1] at this; exact this
      have HPX : Hid (d5.size = n + 1 ∧ d5[n]! = d[i]! ∧ (d5.pop.toList ++ [d[i]!]).Perm d.toList ∧ HeapN lt n d5) := Lib.hid ⟨by rw [hp5.1, HS3.out], (perm_last HN.out (by rw [HN.out]; omega) hp6).1, (perm_last HN.out (by rw [HN.out]; omega) hp6).2, hh5⟩
      clear hq5 hp5 hh5 hp6
      obtain ⟨f4, rv4, q1, q2, q3⟩ := HM.out.pop w5 d5 n HQ5.out (by rw [HPX.out.1])
      rw [HPX.out.2.1] at q3
      have Q3 := Lib.hid q3
      simp only [Try.types_size, Nat.reduceAdd] at q1
      clear q3
      go_wp2_with fail
      refine Q3.out.mono ?_
      rintro e w4 ⟨rfl, hq4⟩
      have HR : Hid (HQ w4 d5.pop ∧ (d5.pop.toList ++ [d[i]!]).Perm d.toList ∧ HeapN lt d5.pop.size d5.pop) := Lib.hid ⟨hq4, HPX.out.2.2.1, heap_pop HPX.out.1 HPX.out.2.2.2⟩
      clear hq4 q1 q2
      go_wp2_with fail
      go_ret
      exact ⟨rfl, d5.pop, HR.out⟩

end Go.Proofs.Ytlhfgiffdfcplaa
