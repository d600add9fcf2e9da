/-
  Layer 5: the program's seven calls as the laws lean on them (TimerOK: to be paid by the program's own walks), the law's known, the walk of TimerNil.
-/
import Derived.Test.YtlhfgiffdfcplaaTimOK
namespace Go.Proofs.Ytlhfgiffdfcplaa
open Go.RowKit Go.Deep

def In64 (x : Int) : Prop := -9223372036854775808 ≤ x ∧ x ≤ 9223372036854775807
structure TimerOK (QR : World → (Nat → Prop) → Value → List Sp → Prop) : Prop where
  lt : ∀ {w S q l}, QR w S q l → ∀ k, S k → k < w.heap.size
  small : ∀ {w S q l}, QR w S q l → l.length ≤ 1000
  keys : ∀ {w S q l}, QR w S q l → (l.map (·.1)).Nodup
  frame : ∀ {w w' S q l}, QR w S q l → w.heap.size ≤ w'.heap.size → (∀ k, S k → w'.heap[k]? = w.heap[k]?) → QR w' S q l
  new : ∀ w, Calls Try.prog 11 #[] w fun e w' => ∃ q S, e = .returned q ∧ QR w' S q [] ∧ Grows (fun _ => False) S w w'
  set : ∀ {w S q l} (key at_ : Int), QR w S q l → In64 key → In64 at_ → Calls Try.prog 14 #[q, .int .i64 key, .int .i64 at_] w fun e w' => e = .returned (.bool (setB l key)) ∧ ∃ S', QR w' S' q (setL l key at_) ∧ Grows S S' w w'
  drop : ∀ {w S q l} (key : Int), QR w S q l → In64 key → Calls Try.prog 18 #[q, .int .i64 key] w fun e w' => e = .returned (.bool (decide ((dropL l key).length < l.length))) ∧ ∃ S', QR w' S' q (dropL l key) ∧ Grows S S' w w'
  at_ : ∀ {w S q l} (key : Int), QR w S q l → In64 key → Calls Try.prog 17 #[q, .int .i64 key] w fun e w' => e = .returned (.tuple #[.int .i64 (atI l key), .bool (atB l key)]) ∧ ∃ S', QR w' S' q l ∧ Grows S S' w w'
  due : ∀ {w S q l} (now : Int), QR w S q l → In64 now → Calls Try.prog 15 #[q, .int .i64 now] w fun e w' => ∃ v, e = .returned v ∧ (∃ S', QR w' S' q (dueL l now).1 ∧ Grows S S' w w' ∧ ∀ k, v.ownBlock = some k → ¬ S' k) ∧ OwnI w' w.heap.size v (dueL l now).2
  next : ∀ {w S q l}, QR w S q l → Calls Try.prog 20 #[q] w fun e w' => e = .returned (.tuple #[.int .i64 (nextL l).1, .int .i64 (nextL l).2, .bool (decide (0 < l.length))]) ∧ ∃ S', QR w' S' q l ∧ Grows S S' w w'
  len : ∀ {w S q l}, QR w S q l → Calls Try.prog 16 #[q] w fun e w' => e = .returned (.int .i64 l.length) ∧ ∃ S', QR w' S' q l ∧ Grows S S' w w'
  setNil : ∀ w (key at_ : Int), In64 key → In64 at_ → Calls Try.prog 14 #[.pointer none, .int .i64 key, .int .i64 at_] w fun e w' => e = .returned (.bool false) ∧ Below w.heap.size w w'
  dropNil : ∀ w (key : Int), In64 key → Calls Try.prog 18 #[.pointer none, .int .i64 key] w fun e w' => e = .returned (.bool false) ∧ Below w.heap.size w w'
  atNil : ∀ w (key : Int), In64 key → Calls Try.prog 17 #[.pointer none, .int .i64 key] w fun e w' => e = .returned (.tuple #[.int .i64 0, .bool false]) ∧ Below w.heap.size w w'
  dueNil : ∀ w (now : Int), In64 now → Calls Try.prog 15 #[.pointer none, .int .i64 now] w fun e w' => ∃ v, e = .returned v ∧ OwnI w' w.heap.size v [] ∧ Below w.heap.size w w'
  nextNil : ∀ w, Calls Try.prog 20 #[.pointer none] w fun e w' => e = .returned (.tuple #[.int .i64 0, .int .i64 0, .bool false]) ∧ Below w.heap.size w w'
  lenNil : ∀ w, Calls Try.prog 16 #[.pointer none] w fun e w' => e = .returned (.int .i64 0) ∧ Below w.heap.size w w'

theorem Grows.new_from {S : Nat → Prop} {w w' : World} (h : Grows (fun _ => False) S w w') : ∀ k, S k → w.heap.size ≤ k := fun k hk => (h.own k hk).elim (fun h => h.elim) id
theorem Grows.new_below {S : Nat → Prop} {w w' : World} (h : Grows (fun _ => False) S w w') : Below w.heap.size w w' := ⟨h.os, h.tape, h.output, h.size, fun k hk => h.block k hk (fun h => h)⟩
theorem OwnI.one {w : World} {base : Nat} {v : Value} {x : Int} (h : OwnI w base v [x]) : ∃ g c, v = .slice (some ⟨g, 0, none⟩) 1 c ∧ g < w.heap.size ∧ w.cell? ⟨g, 0, none⟩ = some (.int .i64 x) := by
  have h0 := h
  obtain ⟨_, ⟨_, hn⟩ | ⟨g, cap, cur, rfl, hb, hh, hc, hm, hs, ht⟩⟩ := h
  · simp at hn
  · exact ⟨g, cap, rfl, (World.ownsRow.lt h0 g rfl).2, by rw [World.ownsRow.cellAt h0 0 (by simp)]; rfl⟩

set_option maxRecDepth 100000 in
set_option maxHeartbeats 1000000 in
theorem known_any {QR : World → (Nat → Prop) → Value → List Sp → Prop} (T : TimerOK QR) (w : World) : Calls Try.prog 10 #[] w fun e w' => e = .returned (.bool true) ∧ Below w.heap.size w w' := by
  have HT := Lib.hid T
  have E1 : Hid (setB [] 1 = true ∧ setL [] 1 5 = [(1, 5)]) := Lib.hid (by decide)
  have E2 : Hid (setB [(1, 5)] 2 = true ∧ setL [(1, 5)] 2 3 = [(1, 5), (2, 3)]) := Lib.hid (by decide)
  have E3 : Hid ((dueL [(1, 5), (2, 3)] 4).1 = [(1, 5)] ∧ (dueL [(1, 5), (2, 3)] 4).2 = [2]) := Lib.hid (by decide)
  clear T
  go_enter Try.func10, Try.ntmps10
  go_wp2_with fail
  refine (HT.out.new w).mono ?_
  rintro e w1 ⟨q, S, rfl, hq, hg⟩
  have HQ1 := Lib.hid hq
  have HF1 := Lib.hid hg.new_from
  have HB1 := Lib.hid hg.new_below
  have HG1 := Lib.hid hg
  clear hq hg
  go_wp2_with fail
  refine (HT.out.set 1 5 HQ1.out ⟨by decide, by decide⟩ ⟨by decide, by decide⟩).mono ?_
  rintro e w2 ⟨rfl, S2, hq2, hg2⟩
  rw [E1.out.1]
  rw [E1.out.2] at hq2
  have HQ2 := Lib.hid hq2
  have HG2 := Lib.hid (HG1.out.trans hg2)
  clear hq2 hg2
  go_wp2_with fail
  refine (HT.out.set 2 3 HQ2.out ⟨by decide, by decide⟩ ⟨by decide, by decide⟩).mono ?_
  rintro e w3 ⟨rfl, S3, hq3, hg3⟩
  rw [E2.out.1]
  rw [E2.out.2] at hq3
  have HQ3 := Lib.hid hq3
  have HG3 := Lib.hid (HG2.out.trans hg3)
  clear hq3 hg3
  go_wp2_with fail
  refine (HT.out.due 4 HQ3.out ⟨by decide, by decide⟩).mono ?_
  rintro e w4 ⟨v, rfl, ⟨S4, hq4, hg4, -⟩, ho⟩
  rw [E3.out.1] at hq4
  rw [E3.out.2] at ho
  obtain ⟨g, c, rfl, hgl, hc⟩ := ho.one
  have HQ4 := Lib.hid hq4
  have HG4 := Lib.hid (HG3.out.trans hg4)
  clear hq4 hg4 ho
  go_wp2_with fail
  refine (HT.out.len HQ4.out).mono ?_
  rintro e w5 ⟨rfl, S5, hq5, hg5⟩
  have HG5 := Lib.hid (HG4.out.trans hg5)
  clear hq5 hg5
  go_wp2_with fail
  go_ret
  exact ⟨rfl, HG5.out.new_below⟩

set_option maxRecDepth 100000 in
set_option maxHeartbeats 1000000 in
theorem nil_walk {QR : World → (Nat → Prop) → Value → List Sp → Prop} (T : TimerOK QR) (key at_ : Int) (w : World) (hk : In64 key) (ha : In64 at_) :
    Calls Try.prog 7 #[.int .i64 key, .int .i64 at_] w fun e w' => e = .returned (.bool true) ∧ Below w.heap.size w w' := by
  have HT := Lib.hid T
  have HK := Lib.hid hk
  have HA := Lib.hid ha
  clear T hk ha
  go_enter Try.func7, Try.ntmps7
  go_wp2_with fail
  refine (HT.out.setNil w key at_ HK.out HA.out).mono ?_
  rintro e w1 ⟨rfl, hB1⟩
  go_wp2_with fail
  refine (HT.out.atNil w1 key HK.out).mono ?_
  rintro e w2 ⟨rfl, hB2⟩
  have hC2 := bseq hB1 hB2
  go_wp2_with fail
  refine (HT.out.nextNil w2).mono ?_
  rintro e w3 ⟨rfl, hB3⟩
  have hC3 := bseq hC2 hB3
  go_wp2_with fail
  refine (known_any HT.out w3).mono ?_
  rintro e w4 ⟨rfl, hB4⟩
  have hC4 := bseq hC3 hB4
  go_wp2_with fail
  refine (HT.out.dropNil w4 key HK.out).mono ?_
  rintro e w5 ⟨rfl, hB5⟩
  have hC5 := bseq hC4 hB5
  go_wp2_with fail
  refine (HT.out.dueNil w5 at_ HA.out).mono ?_
  rintro e w6 ⟨v, rfl, ho, hB6⟩
  have hC6 := bseq hC5 hB6
  obtain ⟨A, c, rfl, -⟩ := ho.ints
  clear ho
  go_wp2_with fail
  refine (HT.out.lenNil w6).mono ?_
  rintro e w7 ⟨rfl, hB7⟩
  have hC7 := bseq hC6 hB7
  go_wp2_with fail
  go_ret
  exact ⟨by simp, hC7⟩

end Go.Proofs.Ytlhfgiffdfcplaa
