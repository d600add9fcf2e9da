/-
  Layer 5: the program's queue and what only looks at it: find, Len, At, Next; New; the calls of a nil queue that look.
-/
import Derived.Test.YtlhfgiffdfcplaaTimMap
import Derived.Test.YtlhfgiffdfcplaaTimInst
namespace Go.Proofs.Ytlhfgiffdfcplaa
open Go.RowKit Go.Deep Go.Sort

structure QL (w : World) (a : Nat) (mv lv : Value) (d : Array It) (m : List (Int × Value)) (l : List Sp) : Prop where
  mem : Mem w a mv lv d
  heap : HeapN ltI d.size d
  mp : MapP w mv m
  mks : m.Perm (d.toList.map fun x => (x.2.1, ptrOf x))
  ls : (d.toList.map (·.2)).Perm l
  keys : (l.map (·.1)).Nodup
  small : l.length ≤ 1000
def QR (w : World) (S : Nat → Prop) (q : Value) (l : List Sp) : Prop :=
  ∃ a mv lv d m, q = .pointer (some ⟨a, 0, none⟩) ∧ (∀ k, S k ↔ Own a mv lv d k) ∧ QL w a mv lv d m l

section
variable {w : World} {a : Nat} {mv lv : Value} {d : Array It} {m : List (Int × Value)} {l : List Sp}
theorem QL.len (h : QL w a mv lv d m l) : d.size = l.length := by
  have := h.ls.length_eq
  simpa using this
theorem QL.mkeys (h : QL w a mv lv d m l) : (m.map (·.1)).Nodup := by
  have e : (m.map (·.1)).Perm (l.map (·.1)) := by
    have h1 := h.mks.map (·.1)
    have h2 := h.ls.map (·.1)
    simp only [List.map_map] at h1 h2
    exact h1.trans h2
  exact e.nodup_iff.2 h.keys
theorem QL.at_l (h : QL w a mv lv d m l) {i : Nat} (hi : i < d.size) : d[i]!.2 ∈ l := h.ls.subset (List.mem_map_of_mem (at_mem hi))
theorem QL.at_m (h : QL w a mv lv d m l) {i : Nat} (hi : i < d.size) : (d[i]!.2.1, ptrOf d[i]!) ∈ m := h.mks.symm.subset (List.mem_map.2 ⟨d[i]!, at_mem hi, rfl⟩)
theorem QL.look_in (h : QL w a mv lv d m l) {i : Nat} (hi : i < d.size) : lookV d[i]!.2.1 m = ptrOf d[i]! := by
  obtain ⟨j, h1, _⟩ := lookAt_some 0 h.mkeys (h.at_m hi)
  unfold lookV
  rw [h1]
theorem QL.out_m (h : QL w a mv lv d m l) {key : Int} (hk : ∀ s ∈ l, s.1 ≠ key) : ∀ p ∈ m, p.1 ≠ key := by
  intro p hp e
  obtain ⟨x, hx, e2⟩ := List.mem_map.1 (h.mks.subset hp)
  rw [← e2] at e
  exact hk x.2 (h.ls.subset (List.mem_map_of_mem hx)) e
theorem QL.look_out (h : QL w a mv lv d m l) {key : Int} (hk : ∀ s ∈ l, s.1 ≠ key) : lookV key m = .pointer none := by
  unfold lookV
  rw [lookAt_none 0 (h.out_m hk)]
theorem QL.has (h : QL w a mv lv d m l) (key : Int) : (∃ i, i < d.size ∧ d[i]!.2.1 = key) ∨ ∀ s ∈ l, s.1 ≠ key := by
  by_cases hc : ∃ s ∈ l, s.1 = key
  · obtain ⟨s, hs, e⟩ := hc
    obtain ⟨x, hx, e2⟩ := List.mem_map.1 (h.ls.symm.subset hs)
    obtain ⟨i, hi, e3⟩ := mem_at hx
    exact .inl ⟨i, hi, by rw [e3, e2]; exact e⟩
  · exact .inr (fun s hs e => hc ⟨s, hs, e⟩)
theorem QL.next (h : QL w a mv lv d m l) (hd : 0 < d.size) : nextL l = d[0]!.2 := by
  refine next_is (h.at_l hd) (fun s hs hne => ?_)
  obtain ⟨x, hx, e2⟩ := List.mem_map.1 (h.ls.symm.subset hs)
  obtain ⟨i, hi, e3⟩ := mem_at hx
  have h1 := heap_least ltI_swo h.heap i hi
  have h2 : s.1 ≠ d[0]!.2.1 := fun e => hne (next_key h.keys hs (h.at_l hd) e)
  unfold ltI at h1
  rw [e3, e2, ahead_no] at h1
  rw [ahead_iff]
  omega
theorem find_is {l : List Sp} (hk : Keys l) {s : Sp} (hs : s ∈ l) : l.find? (isKey s.1) = some s := by
  cases hf : l.find? (isKey s.1) with
  | none =>
    have := List.find?_eq_none.1 hf s hs
    simp [isKey] at this
  | some t =>
    have h1 := List.find?_some hf
    have h2 := List.mem_of_find?_eq_some hf
    simp only [isKey, beq_iff_eq] at h1
    rw [next_key hk h2 hs h1]
theorem find_no {l : List Sp} {key : Int} (h : ∀ s ∈ l, s.1 ≠ key) : l.find? (isKey key) = none := by
  rw [List.find?_eq_none]
  intro s hs
  simp [isKey, h s hs]
theorem QL.drewN (h : QL w a mv lv d m l) (n : Nat) : QL (w.drewN n) a mv lv d m l := ⟨h.mem.drewN n, h.heap, h.mp.kept (fun _ _ => rfl), h.mks, h.ls, h.keys, h.small⟩
theorem QL.perm (h : QL w a mv lv d m l) {l' : List Sp} (hp : l.Perm l') : QL w a mv lv d m l' := ⟨h.mem, h.heap, h.mp, h.mks, h.ls.trans hp, (hp.map _).nodup_iff.1 h.keys, by rw [← hp.length_eq]; exact h.small⟩

set_option maxRecDepth 100000 in
theorem qfind_any (h : QL w a mv lv d m l) (key : Int) : Calls Try.prog 26 #[.pointer (some ⟨a, 0, none⟩), .int .i64 key] w fun e w' => e = .returned (lookV key m) ∧ w' = w := by
  have c1 := h.mem.q.cells.2
  have hrun := run_look h.mp key
  clear h
  generalize lookV key m = v at *
  go_enter Try.func26, Try.ntmps26
  go_wp2_with fail
  go_ret
  exact ⟨rfl, rfl⟩
set_option maxRecDepth 100000 in
theorem qfind_nil (w : World) (key : Int) : Calls Try.prog 26 #[.pointer none, .int .i64 key] w fun e w' => e = .returned (.pointer none) ∧ w' = w := by
  go_enter Try.func26, Try.ntmps26
  go_wp2_with fail
  go_ret
  exact ⟨rfl, rfl⟩
set_option maxRecDepth 100000 in
theorem qlen_any (h : QL w a mv lv d m l) : Calls Try.prog 16 #[.pointer (some ⟨a, 0, none⟩)] w fun e w' => e = .returned (.int .i64 d.size) ∧ w' = w := by
  obtain ⟨A, cap, rfl⟩ := h.mem.lv_any
  have c1 := h.mem.q.cells.1
  clear h
  generalize d.size = n at *
  go_enter Try.func16, Try.ntmps16
  go_wp2_with fail
  go_ret
  exact ⟨rfl, rfl⟩
set_option maxRecDepth 100000 in
theorem qlen_nil (w : World) : Calls Try.prog 16 #[.pointer none] w fun e w' => e = .returned (.int .i64 0) ∧ w' = w := by
  go_enter Try.func16, Try.ntmps16
  go_wp2_with fail
  go_ret
  exact ⟨rfl, rfl⟩
set_option maxRecDepth 100000 in
theorem qat_any (h : QL w a mv lv d m l) (key : Int) : Calls Try.prog 17 #[.pointer (some ⟨a, 0, none⟩), .int .i64 key] w fun e w' => e = .returned (.tuple #[.int .i64 (atI l key), .bool (atB l key)]) ∧ w' = w := by
  have hF := qfind_any h key
  rcases h.has key with ⟨i, hi, hk⟩ | hk
  · have e1 := h.look_in hi
    have hf := find_is h.keys (h.at_l hi)
    rw [hk] at e1 hf
    have HI : Hid (atI l key = d[i]!.2.2 ∧ atB l key = true) := Lib.hid (by unfold atI atB; rw [hf]; exact ⟨rfl, rfl⟩)
    have c1 := (h.mem.item i hi).cells.2.1
    rw [HI.out.1, HI.out.2]
    rw [e1] at hF
    unfold ptrOf at hF
    clear HI hf e1 h hk
    generalize d[i]! = x at *
    obtain ⟨b, k, t⟩ := x
    simp only at c1 hF
    have HFF := Lib.hid hF
    clear hF
    go_enter Try.func17, Try.ntmps17
    go_wp2_with fail
    refine HFF.out.mono ?_
    rintro e w' ⟨rfl, rfl⟩
    go_wp2_with fail
    go_ret2
    exact ⟨rfl, rfl⟩
  · have HI : Hid (atI l key = 0 ∧ atB l key = false) := Lib.hid (by unfold atI atB; rw [find_no hk]; exact ⟨rfl, rfl⟩)
    rw [HI.out.1, HI.out.2]
    rw [h.look_out hk] at hF
    have HFF := Lib.hid hF
    clear HI hF h hk
    go_enter Try.func17, Try.ntmps17
    go_wp2_with fail
    refine HFF.out.mono ?_
    rintro e w' ⟨rfl, rfl⟩
    go_wp2_with fail
    go_ret2
    exact ⟨rfl, rfl⟩
set_option maxRecDepth 100000 in
theorem qat_nil (w : World) (key : Int) : Calls Try.prog 17 #[.pointer none, .int .i64 key] w fun e w' => e = .returned (.tuple #[.int .i64 0, .bool false]) ∧ w' = w := by
  go_enter Try.func17, Try.ntmps17
  go_wp2_with fail
  refine (qfind_nil w key).mono ?_
  rintro e w' ⟨rfl, rfl⟩
  go_wp2_with fail
  go_ret2
  exact ⟨rfl, rfl⟩
theorem next_none {l : List Sp} (h : l.length = 0) : nextL l = (0, 0) := by unfold nextL; rw [h]; rfl
set_option maxRecDepth 100000 in
theorem qnext_any (h : QL w a mv lv d m l) : Calls Try.prog 20 #[.pointer (some ⟨a, 0, none⟩)] w fun e w' => e = .returned (.tuple #[.int .i64 (nextL l).1, .int .i64 (nextL l).2, .bool (decide (0 < l.length))]) ∧ ∃ n, w' = w.drewN n := by
  have HL := Lib.hid (qlen_any h)
  rcases Nat.eq_zero_or_pos d.size with h0 | h0
  · have hl : l.length = 0 := by rw [← h.len]; exact h0
    have HN : Hid (nextL l = (0, 0) ∧ decide (0 < l.length) = false) := Lib.hid ⟨next_none hl, by simp [hl]⟩
    rw [HN.out.1, HN.out.2]
    rw [h0] at HL
    clear h h0 hl HN
    go_enter Try.func20, Try.ntmps20
    go_wp2_with fail
    refine HL.out.mono ?_
    rintro e w' ⟨rfl, rfl⟩
    go_wp2_with fail
    refine bodyPost_ret (v := .tuple #[.int .i64 0, .int .i64 0, .bool false]) ?_ rfl ⟨rfl, 0, rfl⟩
    simp [results, Try.f20, go_sem]
  · have hl : 0 < l.length := by rw [← h.len]; exact h0
    have HN : Hid (nextL l = d[0]!.2 ∧ decide (0 < l.length) = true) := Lib.hid ⟨h.next h0, by simp [hl]⟩
    obtain ⟨g, cap, rfl, hc, -⟩ := h.mem.lv_form h0
    have c1 := h.mem.q.cells.1
    have c2 := h.mem.cell h0
    obtain ⟨k1, k2, -⟩ := (h.mem.item 0 h0).cells
    rw [HN.out.1, HN.out.2]
    clear HN h hl hc
    generalize d[0]! = x at *
    obtain ⟨b, k, t⟩ := x
    simp only at c2 k1 k2
    generalize d.size = n at *
    have i1 : (0 : Int) < (n : Int) := by omega
    have i2 : ((n : Int) == 0) = false := by rw [beq_eq_false_iff_ne]; omega
    go_enter Try.func20, Try.ntmps20
    go_wp2_with fail
    refine HL.out.mono ?_
    rintro e w' ⟨rfl, rfl⟩
    go_wp2_with fail
    go_quiet (fail)
    go_wp2_with fail
    refine bodyPost_ret (v := .tuple #[.int .i64 k, .int .i64 t, .bool true]) ?_ rfl ⟨rfl, _, rfl⟩
    simp [results, Try.f20, go_sem]
set_option maxRecDepth 100000 in
theorem qnext_nil (w : World) : Calls Try.prog 20 #[.pointer none] w fun e w' => e = .returned (.tuple #[.int .i64 0, .int .i64 0, .bool false]) ∧ w' = w := by
  go_enter Try.func20, Try.ntmps20
  go_wp2_with fail
  refine (qlen_nil w).mono ?_
  rintro e w' ⟨rfl, rfl⟩
  go_wp2_with fail
  refine bodyPost_ret (v := .tuple #[.int .i64 0, .int .i64 0, .bool false]) ?_ rfl ⟨rfl, rfl⟩
  simp [results, Try.f20, go_sem]
end

set_option maxRecDepth 100000 in
theorem qnew_any (w : World) : Calls Try.prog 11 #[] w fun e w' => ∃ q S, e = .returned q ∧ QR w' S q [] ∧ Grows (fun _ => False) S w w' := by
  go_enter Try.func11, Try.ntmps11
  go_wp2_with fail
  go_ret
  refine ⟨_, Own w.heap.size (.map none) (.slice none 0 0) #[], rfl, ⟨w.heap.size, .map none, .slice none 0 0, #[], [], rfl, fun k => Iff.rfl, ⟨⟨?_, World.ownsRow_nil _ _ _ _, fun i hi => by simp at hi, fun x hx => by simp at hx, by simp [Value.ownBlock], by simp [mapB], fun g hg => by simp [Value.ownBlock] at hg, fun g hg => by simp [Value.ownBlock] at hg, fun x hx => by simp at hx, by simp⟩, fun k k0 kn => by simp at kn, .inl ⟨rfl, rfl⟩, by simp, by simp, by simp, by simp⟩⟩, ⟨rfl, rfl, rfl, by simp, fun k hk _ => blk_alloc_lt _ _ _ hk, fun k hk => ?_⟩⟩
  · exact blk_alloc_new _ _
  · rcases hk with rfl | hk | hk | ⟨x, hx, _⟩
    · exact .inr (Nat.le_refl _)
    · simp [mapB] at hk
    · simp [Value.ownBlock] at hk
    · simp at hx

end Go.Proofs.Ytlhfgiffdfcplaa
