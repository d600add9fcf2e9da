/-
  Layer 5: the law's own deed and like, over any queue that is as TimerOK asks.
-/
import Derived.Test.YtlhfgiffdfcplaaTimLawsA
import Derived.Deep.DeepCutAuto
namespace Go.Proofs.Ytlhfgiffdfcplaa
open Go.RowKit Go.Deep
variable {QR : World → (Nat → Prop) → Value → List Sp → Prop}

theorem TimerOK.on (T : TimerOK QR) {w w' : World} {S : Nat → Prop} {q : Value} {l : List Sp} (h : QR w S q l) (hB : Below w.heap.size w w') : QR w' S q l :=
  T.frame h hB.size (fun k hk => hB.block k (T.lt h k hk))
theorem OwnI.grows {w w' : World} {S S' : Nat → Prop} {B : Nat} {v : Value} {xs : List Int} (h : OwnI w B v xs) (hS : ∀ k, v.ownBlock = some k → ¬ S k) (hg : Grows S S' w w') : OwnI w' B v xs := by
  obtain ⟨h1, h2 | ⟨g, c, cur, e, hb, hh, r⟩⟩ := h
  · exact ⟨h1, .inl h2⟩
  · refine ⟨h1, .inr ⟨g, c, cur, e, hb, ?_, r⟩⟩
    rw [hg.block g (Array.getElem?_eq_some_iff.1 hh).1 (hS g (by rw [e]; rfl))]
    exact hh
/-- a deed's box -/
def Box3 (w : World) (g : Nat) (k x y : Int) : Prop := w.heap[g]? = some (.cells #[.int .u8 k, .int .i64 x, .int .i64 y] 30 (0, 0))
theorem Box3.cells {w : World} {g : Nat} {k x y : Int} (h : Box3 w g k x y) : w.cell? ⟨g, 0, none⟩ = some (.int .u8 k) ∧ w.cell? ⟨g, 1, none⟩ = some (.int .i64 x) ∧ w.cell? ⟨g, 2, none⟩ = some (.int .i64 y) := by
  unfold Box3 at h
  simp [World.cell?, h]
theorem Box3.new (w : World) (k x y : Int) : Box3 (w.alloc (.cells #[.int .u8 k, .int .i64 x, .int .i64 y] 30)) w.heap.size k x y := by unfold Box3; rw [blk_alloc_new]
theorem Box3.lt {w : World} {g : Nat} {k x y : Int} (h : Box3 w g k x y) : g < w.heap.size := (Array.getElem?_eq_some_iff.1 h).1

def keyOf (k key : Int) : Int := if 1 < k % 8 then key.tmod 12 else key
def deedL (l : List Sp) (k key at_ : Int) : List Sp := if k % 4 = 0 then dropL l (keyOf k key) else if k % 4 = 1 then (dueL l at_).1 else setL l (keyOf k key) at_
theorem dueGo_length (now : Int) : ∀ (f : Nat) (l : List Sp), l.length ≤ f → (dueGo now f l).2.length ≤ l.length := by
  intro f
  induction f with
  | zero => intro l _; simp [dueGo]
  | succ f ih =>
    intro l h
    rw [dueGo]
    split
    · simp
    · rename_i hc
      have h1 := drop_less (nextL_mem (l := l) (by omega))
      have h2 := ih (dropL l (nextL l).1) (by omega)
      simp only [List.length_cons]
      omega
theorem due_length (l : List Sp) (now : Int) : (dueL l now).2.length ≤ l.length := dueGo_length now _ l (Nat.le_refl _)
/-- what a deed leaves -/
def DeedPost (QR : World → (Nat → Prop) → Value → List Sp → Prop) (S : Nat → Prop) (q : Value) (w : World) (l' : List Sp) (e : Ending) (w' : World) : Prop :=
  ∃ v' S', e = .returned (.tuple #[v', .bool true]) ∧ QR w' S' q l' ∧ Beside w' S' v' l' ∧ Grows S S' w w'

set_option maxRecDepth 100000 in
set_option maxHeartbeats 2000000 in
theorem deed_any (T : TimerOK QR) (S : Nat → Prop) (q v : Value) (l : List Sp) (k key at_ : Int) (w : World) (hq : QR w S q l) (hv : Beside w S v l) (hk : 0 ≤ k ∧ k ≤ 255) (hkey : In64 key) (hat : In64 at_) :
    Calls Try.prog 12 #[q, v, .agg #[.int .u8 k, .int .i64 key, .int .i64 at_]] w fun e w' => DeedPost QR S q w (deedL l k key at_) e w' := by
  have HT := Lib.hid T
  have hB0 : Below w.heap.size w (w.alloc (.cells #[.int .u8 k, .int .i64 key, .int .i64 at_] 30)) := (Below.refl _ _).alloc (Nat.le_refl _) _
  have HQ0 := Lib.hid (T.on hq hB0)
  have HG0 := Lib.hid (Grows.same (S := S) hB0)
  have HV0 := Lib.hid (hv.grows HG0.out)
  have HLt := Lib.hid (T.lt HQ0.out)
  have HSm := Lib.hid (T.small hq)
  have hbx := Box3.new w k key at_
  have HKey : Hid (In64 (keyOf k key)) := Lib.hid (by
    unfold keyOf In64 at *
    split
    · have h1 := Int.tmod_lt_of_pos key (show (0 : Int) < 12 by decide)
      have h2 := Int.lt_tmod_of_pos key (show (0 : Int) < 12 by decide)
      omega
    · exact hkey)
  have HAt := Lib.hid hat
  obtain ⟨k8, hk8⟩ : ∃ z, k % 8 = z := ⟨_, rfl⟩
  obtain ⟨k4, hk4⟩ : ∃ z, k % 4 = z := ⟨_, rfl⟩
  have t1 : k.tmod 8 = k8 := by rw [Int.tmod_eq_emod_of_nonneg hk.1]; exact hk8
  have t2 : k.tmod 4 = k4 := by rw [Int.tmod_eq_emod_of_nonneg hk.1]; exact hk4
  have b8 : 0 ≤ k8 ∧ k8 ≤ 7 := by omega
  have b4 : 0 ≤ k4 ∧ k4 ≤ 3 := by omega
  have iw8 : IntKind.u8.wrap k8 = k8 := by simp only [IntKind.wrap, IntKind.bits, IntKind.signed]; simp; omega
  have iw4 : IntKind.u8.wrap k4 = k4 := by simp only [IntKind.wrap, IntKind.bits, IntKind.signed]; simp; omega
  obtain ⟨K, hK⟩ : ∃ K, keyOf k key = K := ⟨_, rfl⟩
  rw [hK] at HKey
  have HD : Hid (deedL l k key at_ = if k4 = 0 then dropL l K else if k4 = 1 then (dueL l at_).1 else setL l K at_) := Lib.hid (by unfold deedL; rw [hk4, hK])
  have HKe : Hid ((1 < k8 → key.tmod 12 = K) ∧ (¬ 1 < k8 → key = K)) := Lib.hid (by
    unfold keyOf at hK
    rw [hk8] at hK
    exact ⟨fun h => by rw [if_pos h] at hK; exact hK, fun h => by rw [if_neg h] at hK; exact hK⟩)
  clear T hq hv hkey hat hk8 hk4 hK hB0
  go_enter Try.func12, Try.ntmps12
  go_upto_if 20 with fail
  generalize (w.alloc (.cells #[.int .u8 k, .int .i64 key, .int .i64 at_] 30)) = W at *
  obtain ⟨c0, c1, c2⟩ := hbx.cells
  go_cut [8] (fun s8 wx => s8 = .int .i64 K ∧ W = wx)
  case first =>
    by_cases h8 : 1 < k8
    · have e8 : decide (1 < k8) = true := decide_eq_true h8
      have e1 := HKe.out.1 h8
      have hwK : IntKind.i64.wrap K = K := IntWalk.i64_in _ HKey.out
      go_wp2_with fail
      go_meet
      exact ⟨rfl, rfl⟩
    · have e8 : decide (1 < k8) = false := decide_eq_false h8
      have e1 := HKe.out.2 h8
      have HE := Lib.hid e1
      clear e1
      go_wp2_with fail
      go_meet
      exact ⟨congrArg (Value.int .i64) HE.out, rfl⟩
  case rest =>
    obtain ⟨rfl, rfl⟩ := hcut
    by_cases h0 : k4 = 0
    · have HL : Hid (deedL l k key at_ = dropL l K) := Lib.hid (by rw [HD.out, if_pos h0])
      have e0 : (k4 == 0) = true := by rw [beq_iff_eq]; exact h0
      go_wp2_with fail
      refine (rdrop_any _ l K W HV0.out.spans (by have := HSm.out; omega)).mono ?_
      rintro e w2 ⟨v2, rfl, ho2, hB2⟩
      have HQ2 := Lib.hid (HT.out.on HQ0.out hB2)
      have HV2 := Lib.hid (Beside.own ho2 HLt.out)
      have HG2 := Lib.hid (HG0.out.trans (Grows.same (S := S) hB2))
      clear ho2 hB2
      go_wp2_with fail
      refine (HT.out.drop K HQ2.out HKey.out).mono ?_
      rintro e w3 ⟨rfl, S3, hq3, hg3⟩
      have HR : Hid (QR w3 S3 q (dropL l K) ∧ Beside w3 S3 v2 (dropL l K) ∧ Grows S S3 w w3) := Lib.hid ⟨hq3, HV2.out.grows hg3, HG2.out.trans hg3⟩
      clear hq3 hg3
      go_wp2_with fail
      go_ret2
      exact ⟨v2, S3, by simp, by rw [HL.out]; exact HR.out⟩
    · have e0 : (k4 == 0) = false := by simpa using h0
      by_cases h1 : k4 = 1
      · have HL : Hid (deedL l k key at_ = (dueL l at_).1) := Lib.hid (by rw [HD.out, if_neg h0, if_pos h1])
        have e1 : (k4 == 1) = true := by rw [beq_iff_eq]; exact h1
        go_wp2_with fail
        refine (rdue_any _ l at_ W HV0.out.spans (by have := HSm.out; omega)).mono ?_
        rintro e w2 ⟨v2, u2, rfl, hl2, ho2, hB2⟩
        have HQ2 := Lib.hid (HT.out.on HQ0.out hB2)
        have HV2 := Lib.hid (Beside.left HV0.out hl2 hB2 HLt.out)
        have HG2 := Lib.hid (HG0.out.trans (Grows.same (S := S) hB2))
        have HO2 := Lib.hid ho2
        have b2 : Box3 w2 w.heap.size k key at_ := (hB2.block _ hbx.lt).trans hbx
        obtain ⟨_, _, c3⟩ := b2.cells
        clear hl2 ho2 hB2
        go_wp2_with fail
        refine (HT.out.due at_ HQ2.out HAt.out).mono ?_
        rintro e w3 ⟨u3, rfl, ⟨S3, hq3, hg3, hn3⟩, ho3⟩
        have HO3 := Lib.hid ho3.ints
        have HO2b := Lib.hid (HO2.out.grows (fun i e => fun h => by have := (World.ownsRow.lt HO2.out i e).1; have := HLt.out i h; omega) hg3).ints
        have HL3 := Lib.hid (due_length l at_)
        have HQ3 := Lib.hid hq3
        have HV3 := Lib.hid (HV2.out.grows hg3)
        have HG3 := Lib.hid (HG2.out.trans hg3)
        clear hq3 hg3 hn3 ho3
        go_wp2_with fail
        refine (isame_any _ _ (dueL l at_).2 (dueL l at_).2 _ _ w3 HO3.out HO2b.out (by have := HSm.out; have := HL3.out; omega) (by have := HSm.out; have := HL3.out; omega)).mono ?_
        rintro e w4 ⟨rfl, hB4⟩
        have HS4 : Hid (sameI (dueL l at_).2 (dueL l at_).2 = true) := Lib.hid (decide_eq_true rfl)
        rw [HS4.out]
        have HR : Hid (QR w4 S3 q (dueL l at_).1 ∧ Beside w4 S3 v2 (dueL l at_).1 ∧ Grows S S3 w w4) := Lib.hid ⟨HT.out.on HQ3.out hB4, HV3.out.grows (Grows.same hB4), HG3.out.trans (Grows.same hB4)⟩
        clear hB4
        go_wp2_with fail
        go_ret2
        exact ⟨v2, S3, by simp, by rw [HL.out]; exact HR.out⟩
      · have HL : Hid (deedL l k key at_ = setL l K at_) := Lib.hid (by rw [HD.out, if_neg h0, if_neg h1])
        have e1 : (k4 == 1) = false := by simpa using h1
        go_wp2_with fail
        refine (rset_any _ l K at_ W HV0.out.spans (by have := HSm.out; omega)).mono ?_
        rintro e w2 ⟨v2, rfl, hl2, hB2⟩
        have HQ2 := Lib.hid (HT.out.on HQ0.out hB2)
        have HV2 : Hid (Beside w2 S v2 (setL l K at_)) := Lib.hid (by
          rcases hl2 with ⟨rfl, e⟩ | h
          · rw [e]; exact HV0.out.grows (Grows.same hB2)
          · exact Beside.own h HLt.out)
        have HG2 := Lib.hid (HG0.out.trans (Grows.same (S := S) hB2))
        have b2 : Box3 w2 w.heap.size k key at_ := (hB2.block _ hbx.lt).trans hbx
        obtain ⟨_, _, c3⟩ := b2.cells
        clear hl2 hB2
        go_wp2_with fail
        refine (HT.out.set K at_ HQ2.out HKey.out HAt.out).mono ?_
        rintro e w3 ⟨rfl, S3, hq3, hg3⟩
        have HR : Hid (QR w3 S3 q (setL l K at_) ∧ Beside w3 S3 v2 (setL l K at_) ∧ Grows S S3 w w3) := Lib.hid ⟨hq3, HV2.out.grows hg3, HG2.out.trans hg3⟩
        clear hq3 hg3
        go_wp2_with fail
        go_ret2
        exact ⟨v2, S3, by simp, by rw [HL.out]; exact HR.out⟩

/-- what like leaves -/
def LikePost (QR : World → (Nat → Prop) → Value → List Sp → Prop) (S : Nat → Prop) (q v : Value) (l : List Sp) (w : World) (e : Ending) (w' : World) : Prop :=
  ∃ S', e = .returned (.bool true) ∧ QR w' S' q l ∧ Beside w' S' v l ∧ Grows S S' w w'

set_option maxRecDepth 100000 in
set_option maxHeartbeats 2000000 in
theorem like_any (T : TimerOK QR) (S : Nat → Prop) (q v : Value) (l : List Sp) (key : Int) (w : World) (hq : QR w S q l) (hv : Beside w S v l) (hkey : In64 key) :
    Calls Try.prog 13 #[q, v, .int .i64 key] w fun e w' => LikePost QR S q v l w e w' := by
  have HT := Lib.hid T
  have HQ0 := Lib.hid hq
  have HV0 := Lib.hid hv
  have HSm := Lib.hid (T.small hq)
  have HKey := Lib.hid hkey
  obtain ⟨A, c, hvv, -⟩ := hv.spans
  obtain ⟨n, hn⟩ : ∃ n, n = l.length := ⟨_, rfl⟩
  have HN := Lib.hid hn
  rw [← hn] at hvv
  have hn2 : n ≤ 1000 := by rw [hn]; exact HSm.out
  obtain ⟨s, hs⟩ : ∃ s, nextL l = s := ⟨_, rfl⟩
  have HSn := Lib.hid hs
  obtain ⟨x, y⟩ := s
  obtain ⟨ai, hai⟩ : ∃ z, atI l key = z := ⟨_, rfl⟩
  obtain ⟨ab, hab⟩ : ∃ z, atB l key = z := ⟨_, rfl⟩
  have HAi := Lib.hid hai
  have HAb := Lib.hid hab
  obtain ⟨nb, hnb⟩ : ∃ z, decide (0 < n) = z := ⟨_, rfl⟩
  have HNb : Hid (decide (0 < l.length) = nb) := Lib.hid (by rw [← hn]; exact hnb)
  have d1 : (x == x) = true := by simp
  have d2 : (y == y) = true := by simp
  have d3 : (nb == nb) = true := by simp
  have d4 : (ai == ai) = true := by simp
  have d5 : (ab == ab) = true := by simp
  have d6 : ((n : Int) == (n : Int)) = true := by simp
  clear T hq hv hkey hn hs hai hab hnb
  subst hvv
  go_enter Try.func13, Try.ntmps13
  go_wp2_with fail
  refine (HT.out.next HQ0.out).mono ?_
  rintro e w1 ⟨rfl, S1, hq1, hg1⟩
  rw [HSn.out, HNb.out]
  have HQ1 := Lib.hid hq1
  have HV1 := Lib.hid (HV0.out.grows hg1)
  have HG1 := Lib.hid hg1
  clear hq1 hg1
  go_wp2_with fail
  refine (rnext_any _ l w1 HV1.out.spans (by have := HSm.out; omega)).mono ?_
  rintro e w2 ⟨rfl, hB2⟩
  rw [HSn.out, HNb.out]
  have hBb : Below w2.heap.size w2 (w2.alloc (.cells #[.int .i64 x, .int .i64 y] 63)) := (Below.refl _ _).alloc (Nat.le_refl _) _
  have HBx := Lib.hid (BoxT.new w2 x y)
  have HQ2 := Lib.hid (HT.out.on (HT.out.on HQ1.out hB2) hBb)
  have HG2 := Lib.hid (HG1.out.trans (Grows.same (S := S1) (bseq hB2 hBb)))
  have HV2 := Lib.hid (HV1.out.grows (Grows.same (S := S1) (bseq hB2 hBb)))
  have HL1 := Lib.hid (HT.out.lt HQ1.out)
  have HLe := Lib.hid hB2.size
  clear hB2 hBb
  go_wp2_with fail
  generalize (w2.alloc (.cells #[.int .i64 x, .int .i64 y] 63)) = W2 at *
  have hsz : w2.heap.size < W2.heap.size := HBx.out.lt
  have HN1 : Hid (¬ S1 w2.heap.size) := Lib.hid (fun h => by have := HL1.out _ h; have := HLe.out; omega)
  refine (HT.out.at_ key HQ2.out HKey.out).mono ?_
  rintro e w3 ⟨rfl, S3, hq3, hg3⟩
  rw [HAi.out, HAb.out]
  have b3 : BoxT w3 w2.heap.size x y := HBx.out.of_block (hg3.block _ hsz HN1.out)
  obtain ⟨c0, c1⟩ := b3.cells
  have HQ3 := Lib.hid hq3
  have HV3 := Lib.hid (HV2.out.grows hg3)
  have HG3 := Lib.hid (HG2.out.trans hg3)
  clear hq3 hg3 b3
  go_wp2_with fail
  refine (rat_any _ l key _ w3 HV3.out.spans (by have := HSm.out; omega)).mono ?_
  rintro e w' ⟨rfl, rfl⟩
  rw [HAi.out, HAb.out]
  go_wp2_with fail
  refine (HT.out.len HQ3.out).mono ?_
  rintro e w4 ⟨rfl, S4, hq4, hg4⟩
  rw [← HN.out]
  have HR : Hid (QR w4 S4 q l ∧ Beside w4 S4 (.slice A n c) l ∧ Grows S S4 w w4) := Lib.hid ⟨hq4, HV3.out.grows hg4, HG3.out.trans hg4⟩
  clear hq4 hg4
  go_wp2_with fail
  go_ret
  exact ⟨S4, by simp, HR.out⟩

end Go.Proofs.Ytlhfgiffdfcplaa
