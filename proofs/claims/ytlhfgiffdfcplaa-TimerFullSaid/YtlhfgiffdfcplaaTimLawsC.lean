/-
  Layer 5: the walk of TimerParts, over any queue that is as TimerOK asks.
-/
import Derived.Test.YtlhfgiffdfcplaaTimSpec
namespace Go.Proofs.Ytlhfgiffdfcplaa
open Go.RowKit Go.Deep
variable {QR : World → (Nat → Prop) → Value → List Sp → Prop}

/-- the keys 0, 1, .. at their times -/
def atTo (xs : List Int) (t : Nat) : List Sp := (List.range t).map (fun i : Nat => ((i : Int), xs[i]?.getD 0))
theorem atTo_succ (xs : List Int) (t : Nat) : atTo xs (t + 1) = atTo xs t ++ [((t : Int), xs[t]?.getD 0)] := by simp [atTo, List.range_succ]
theorem atTo_length (xs : List Int) (t : Nat) : (atTo xs t).length = t := by simp [atTo]
theorem atTo_mem {xs : List Int} {t : Nat} {s : Sp} (h : s ∈ atTo xs t) : 0 ≤ s.1 ∧ s.1 < (t : Int) := by
  simp only [atTo, List.mem_map, List.mem_range] at h
  obtain ⟨i, hi, rfl⟩ := h
  simp only; omega
theorem set_new {l : List Sp} {k a : Int} (h : ∀ s ∈ l, s.1 ≠ k) (hl : l.length < 1000) : setL l k a = l ++ [(k, a)] ∧ setB l k = true := by
  have e : dropL l k = l := by
    unfold dropL
    exact List.filter_eq_self.2 (fun s hs => by simpa using h s hs)
  unfold setL setB
  rw [e]
  exact ⟨if_neg (by omega), decide_eq_true hl⟩
theorem set_at (xs : List Int) {t : Nat} (ht : t < 1000) : setL (atTo xs t) t (xs[t]?.getD 0) = atTo xs (t + 1) ∧ setB (atTo xs t) t = true := by
  have := set_new (l := atTo xs t) (k := (t : Int)) (a := xs[t]?.getD 0) (fun s hs => by have := atTo_mem hs; omega) (by rw [atTo_length]; exact ht)
  rw [atTo_succ]
  exact this

/-- two queues that share nothing -/
theorem TimerOK.beside (T : TimerOK QR) {w w' : World} {S S' R : Nat → Prop} {p : Value} {l : List Sp} (h : QR w R p l) (hd : ∀ k, S k → ¬ R k) (hg : Grows S S' w w') : QR w' R p l ∧ ∀ k, S' k → ¬ R k :=
  ⟨T.frame h hg.size (fun k hk => hg.block k (T.lt h k hk) (fun h2 => hd k h2 hk)), fun k hk => (hg.own k hk).elim (hd k) (fun h2 h3 => by have := T.lt h k h3; omega)⟩
structure Two (QR : World → (Nat → Prop) → Value → List Sp → Prop) (B : Nat) (w0 w : World) (q p : Value) (l m : List Sp) (S R : Nat → Prop) : Prop where
  q : QR w S q l
  p : QR w R p m
  apart : ∀ k, S k → ¬ R k
  sq : ∀ k, S k → B ≤ k
  sp : ∀ k, R k → B ≤ k
  size : B ≤ w.heap.size
  below : Below B w0 w
theorem Two.left (T : TimerOK QR) {B : Nat} {w0 w w' : World} {q p : Value} {l l' m : List Sp} {S S' R : Nat → Prop} (h : Two QR B w0 w q p l m S R) (hq : QR w' S' q l') (hg : Grows S S' w w') : Two QR B w0 w' q p l' m S' R :=
  ⟨hq, (T.beside h.p h.apart hg).1, (T.beside h.p h.apart hg).2, hg.from_ h.sq h.size, h.sp, Nat.le_trans h.size hg.size, h.below.trans (hg.below h.sq h.size)⟩
theorem Two.right (T : TimerOK QR) {B : Nat} {w0 w w' : World} {q p : Value} {l m m' : List Sp} {S R R' : Nat → Prop} (h : Two QR B w0 w q p l m S R) (hp : QR w' R' p m') (hg : Grows R R' w w') : Two QR B w0 w' q p l m' S R' :=
  ⟨(T.beside h.q (fun k h1 h2 => h.apart k h2 h1) hg).1, hp, fun k h1 h2 => (T.beside h.q (fun k h1 h2 => h.apart k h2 h1) hg).2 k h2 h1, h.sq, hg.from_ h.sp h.size, Nat.le_trans h.size hg.size, h.below.trans (hg.below h.sp h.size)⟩
theorem Two.on (T : TimerOK QR) {B : Nat} {w0 w w' : World} {q p : Value} {l m : List Sp} {S R : Nat → Prop} (h : Two QR B w0 w q p l m S R) (hB : Below w.heap.size w w') : Two QR B w0 w' q p l m S R :=
  h.left T (T.on h.q hB) (Grows.same hB)

theorem append_is (w : World) (base ty : Nat) (v u : Value) (l m : List Int) (B : Nat) (hs : Ints w B u m) (hown : OwnI w base v l) (hk : l.length + m.length ≤ 1000000000) (hbase : base ≤ w.heap.size) :
    ∃ v' w', (Builtin.append_ #[36, 36] ty #[v, u]).run Try.prog w = .ok v' w' ∧ OwnI w' base v' (l ++ m) ∧ w.grownBy w' v.ownBlock := by
  obtain ⟨i0, hi, hz0, hz1, hz2⟩ := info_parts Try.info3
  obtain ⟨A, c, rfl, hr⟩ := hs
  cases A with
  | none =>
    have hl : m = [] := by
      rcases Nat.eq_zero_or_pos m.length with h | h
      · exact List.eq_nil_of_length_eq_zero h
      · obtain ⟨b, off, e, _⟩ := hr h; cases e
    subst hl
    have hrun : (Builtin.append_ #[36, 36] ty #[v, .slice none 0 c]).run Try.prog w = .ok v w := by
      have ht := Try.underlying36
      rcases hown.2 with ⟨rfl, h0⟩ | ⟨g, cap, cur, rfl, _, _, hnc, _⟩
      · simp [Builtin.append_, run_underlying ht, sizeOf, typeInfo, hi, Builtin.lenOf, Builtin.firstCells]
      · simp [Builtin.append_, run_underlying ht, sizeOf, typeInfo, hi, Builtin.lenOf, Builtin.firstCells, hnc, storeCells]
    exact ⟨v, w, hrun, by rw [List.append_nil]; exact hown, ⟨rfl, rfl, rfl, Nat.le_refl _, fun _ _ _ => rfl⟩⟩
  | some A =>
    obtain ⟨v', w', hrun, ho, hg, _⟩ := run_append_own (P := Try.prog) (w := w) base 36 ty 3 i0 _ 1 8 Try.underlying36 hi hz0 hz1 hz2 rfl (by decide) v l.length (l.map (Value.int .i64)) hown A m.length c (m.map (Value.int .i64)) (by simp)
      (fun j u hu => by
        have hj : j < m.length := by simpa using (List.getElem?_eq_some_iff.1 hu).1
        obtain ⟨b, off, ea, _, hcell⟩ := hr (by omega)
        cases ea
        have e1 : (⟨b, off, none⟩ : Addr).add j = ⟨b, off + j, none⟩ := by simp [Addr.add]
        rw [e1, hcell j hj, ← hu]
        simp [hj])
      (fun u hu => by simp only [List.mem_map] at hu; obtain ⟨x, _, rfl⟩ := hu; rfl) (by unfold maxLen; omega) (by omega) (by omega)
    refine ⟨v', w', hrun, ?_, hg⟩
    unfold OwnI
    rw [List.map_append, List.length_append]
    exact ho
theorem append_empty {A : Option Addr} {c : Nat} {w : World} {B : Nat} {l : List Int} (h : Ints w B (.slice A 0 c) l) : l = [] := by
  obtain ⟨A', c', e, _⟩ := h
  injection e with e1 e2 e3
  exact List.eq_nil_of_length_eq_zero e2.symm

set_option maxRecDepth 100000 in
set_option maxHeartbeats 2000000 in
theorem parts_walk (T : TimerOK QR) (a b : Nat) (A : Option Addr) (len cap : Nat) (xs : List Int) (w : World) (ha : a < 256) (hb : b < 256) (hlen : xs.length = len) (hxs : AllB xs) (hby : Bytes w w.heap.size (.slice A len cap) xs) :
    Calls Try.prog 6 #[.slice A len cap, .int .u8 a, .int .u8 b] w fun e w' => e = .returned (.bool true) ∧ Below w.heap.size w w' := by
  have HT := Lib.hid T
  by_cases hlong : 100 < len
  · have d0 : decide (100 < (len : Int)) = true := decide_eq_true (by omega)
    clear hlen hby
    go_enter Try.func6, Try.ntmps6
    go_wp2_with (go_at_call 10; refine (known_any HT.out _).mono ?_; rintro e w1 ⟨rfl, hB⟩)
    go_ret
    exact ⟨rfl, hB⟩
  · have d0 : decide (100 < (len : Int)) = false := decide_eq_false (by omega)
    have hle : len ≤ 100 := by omega
    obtain ⟨A', c', e, _, _, hr⟩ := hby
    rw [hlen] at e
    cases e
    have H := Lib.hid hr
    have HN := Lib.hid hlen
    have HA := Lib.hid hxs
    clear T hr hlen hxs
    go_enter Try.func6, Try.ntmps6
    go_wp2_with fail
    refine (HT.out.new w).mono ?_
    rintro e w1 ⟨q, S1, rfl, hq1, hg1⟩
    have HQ1 := Lib.hid hq1
    have HG1 := Lib.hid hg1
    clear hq1 hg1
    go_wp2_with fail
    refine (HT.out.new w1).mono ?_
    rintro e w2 ⟨p, R1, rfl, hp1, hg2⟩
    have HW : Hid (Two QR w.heap.size w w2 q p (atTo xs 0) (atTo xs 0) S1 R1) := Lib.hid
      ⟨HT.out.on HQ1.out hg2.new_below, hp1, fun k h1 h2 => by have := HT.out.lt HQ1.out k h1; have := hg2.new_from k h2; omega, HG1.out.new_from, fun k h => Nat.le_trans HG1.out.size (hg2.new_from k h), Nat.le_trans HG1.out.size hg2.size, HG1.out.new_below.trans (hg2.new_below.mono HG1.out.size)⟩
    clear hp1 hg2
    go_wp2_with fail
    go_loopw [9] (fun i wr => ∃ (t : Nat) (S R : Nat → Prop), t ≤ len ∧ i = .int .i64 t ∧ Two QR w.heap.size w wr q p (atTo xs t) (atTo xs t) S R) (fun i _ => len - (intOf i).toNat)
    case atStart => exact ⟨0, S1, R1, by omega, rfl, HW.out⟩
    case round =>
      obtain ⟨t, S, R, ht, rfl, htw⟩ := hrel
      have HTw := Lib.hid htw
      have hB := htw.below
      clear htw
      by_cases hlt : t < len
      · obtain ⟨bb, off, rfl, hbb, hcell⟩ := H.out (by rw [HN.out]; omega)
        have u0 := hcell t (by rw [HN.out]; exact hlt)
        have hc0 := (hB.cell (p := ⟨bb, off + t, none⟩) hbb).trans u0
        have hx := HA.out.at_ t
        have HS := Lib.hid (set_at xs (t := t) (by omega))
        have HU := Lib.hid u0
        clear hcell u0
        generalize xs[t]?.getD 0 = x at *
        go_wp2_with fail
        refine (HT.out.set t x HTw.out.q ⟨by omega, by omega⟩ ⟨by omega, by omega⟩).mono ?_
        rintro e w3 ⟨rfl, S3, hq3, hg3⟩
        rw [HS.out.1] at hq3
        have HT3 := Lib.hid (HTw.out.left HT.out hq3 hg3)
        have hc1 := (HT3.out.below.cell (p := ⟨bb, off + t, none⟩) hbb).trans HU.out
        clear hq3 hg3
        go_wp2_with fail
        refine (HT.out.set t x HT3.out.p ⟨by omega, by omega⟩ ⟨by omega, by omega⟩).mono ?_
        rintro e w4 ⟨rfl, R4, hp4, hg4⟩
        rw [HS.out.1] at hp4
        have HT4 := Lib.hid (HT3.out.right HT.out hp4 hg4)
        clear hp4 hg4
        go_wp2_with fail
        go_roundw
        case rel => exact ⟨t + 1, S3, R4, by omega, by go_num, HT4.out⟩
        case measure => simp [intOf]; omega
      · obtain rfl : t = len := by omega
        rcases Nat.lt_trichotomy a b with hab | hab | hab
        · have f1 : (a : Int) < (b : Int) := by omega
          have f2 : ¬ (b : Int) < (a : Int) := by omega
          have HPa := Lib.hid (due_parts (lo := (a : Int)) (hi := (b : Int)) (by omega) (atTo xs t))
          have HL0 := Lib.hid (atTo_length xs t)
          generalize atTo xs t = L at *
          go_wp2_with fail
          refine (HT.out.due (a : Int) HTw.out.q ⟨by omega, by omega⟩).mono ?_
          rintro e w3 ⟨y, rfl, ⟨S3, hq3, hg3, hn3⟩, ho3⟩
          have HT3 := Lib.hid (HTw.out.left HT.out hq3 hg3)
          have HY3 := Lib.hid ho3
          have HNy := Lib.hid hn3
          clear hq3 hg3 hn3 ho3
          go_wp2_with fail
          refine (HT.out.due (b : Int) HT3.out.q ⟨by omega, by omega⟩).mono ?_
          rintro e w4 ⟨z, rfl, ⟨S4, hq4, hg4, hn4⟩, ho4⟩
          have HT4 := Lib.hid (HT3.out.left HT.out hq4 hg4)
          have HY4 := Lib.hid (HY3.out.grows HNy.out hg4).ints
          have HZ4 := Lib.hid ho4.ints
          have HC1 := Lib.hid (due_length L (a : Int))
          have HC2 := Lib.hid (due_length (dueL L (a : Int)).1 (b : Int))
          have HC3 : Hid ((dueL L (a : Int)).2.length + (dueL (dueL L (a : Int)).1 (b : Int)).2.length ≤ 200) := Lib.hid (by
            have h1 := due_count (a : Int) L (HT.out.keys HTw.out.q)
            have h2 := HC2.out
            have h3 := HL0.out
            omega)
          clear hq4 hg4 hn4 ho4
          obtain ⟨v5, w5, hrun5, ho5, hg5⟩ := append_is w4 w4.heap.size 36 _ y [] (dueL L (a : Int)).2 _ HY4.out (OwnI.nil _ _) (by have := HC3.out; simp; omega) (Nat.le_refl _)
          have hB5 : Below w4.heap.size w4 w5 := (Below.refl _ _).grown hg5 (Nat.le_refl _) (fun k e => by cases e)
          obtain ⟨v6, w6, hrun6, ho6, hg6⟩ := append_is w5 w4.heap.size 36 _ z ([] ++ (dueL L (a : Int)).2) (dueL (dueL L (a : Int)).1 (b : Int)).2 _ (HZ4.out.on hB5) ho5 (by have := HC3.out; simp; omega) hB5.size
          have hB6 : Below w4.heap.size w4 w6 := hB5.grown hg6 hB5.size (fun k e => (World.ownsRow.lt ho5 k e).1)
          rw [List.nil_append] at ho6
          have HX6 := Lib.hid ho6
          have HR5 := Lib.hid hrun5
          have HR6 := Lib.hid hrun6
          have HT6 := Lib.hid (HT4.out.on HT.out hB6)
          have HLr := Lib.hid (HT.out.lt HT4.out.p)
          clear hrun5 ho5 hg5 hB5 hrun6 ho6 hg6 hB6
          go_wp2_with (first | (at_builtin; refine Lib.wpList_append_run _ rfl _ _ _ _ rfl _ _ rfl rfl _ _ HR5.out ?_) | (at_builtin; refine Lib.wpList_append_run _ rfl _ _ _ _ rfl _ _ rfl rfl _ _ HR6.out ?_))
          refine (known_any HT.out w6).mono ?_
          rintro e w7 ⟨rfl, hB7⟩
          have HT7 := Lib.hid (HT6.out.on HT.out hB7)
          have HX7 : Hid (OwnI w7 w4.heap.size v6 ((dueL L (a : Int)).2 ++ (dueL (dueL L (a : Int)).1 (b : Int)).2)) := Lib.hid (HX6.out.on hB7)
          clear hB7
          go_wp2_with fail
          refine (HT.out.due (b : Int) HT7.out.p ⟨by omega, by omega⟩).mono ?_
          rintro e w8 ⟨u, rfl, ⟨R8, hp8, hg8, hn8⟩, ho8⟩
          have HT8 := Lib.hid (HT7.out.right HT.out hp8 hg8)
          have HX8 := Lib.hid (HX7.out.grows (fun k e h => by have := (World.ownsRow.lt HX7.out k e).1; have := HLr.out k h; omega) hg8).ints
          have HU8 := Lib.hid ho8.ints
          clear hp8 hg8 hn8 ho8
          go_wp2_with fail
          refine (isame_any _ _ _ _ _ _ w8 HX8.out HU8.out (by rw [List.length_append]; have := HC3.out; omega) (by have := due_length L (b : Int); have := HL0.out; omega)).mono ?_
          rintro e w9 ⟨rfl, hB9⟩
          have HSm : Hid (sameI ((dueL L (a : Int)).2 ++ (dueL (dueL L (a : Int)).1 (b : Int)).2) (dueL L (b : Int)).2 = true) := Lib.hid (decide_eq_true (congrArg (fun r => r.2) HPa.out).symm)
          rw [HSm.out]
          have HT9 := Lib.hid (HT8.out.on HT.out hB9)
          clear hB9
          go_wp2_with fail
          refine (HT.out.len HT9.out.q).mono ?_
          rintro e w10 ⟨rfl, S10, hq10, hg10⟩
          have HT10 := Lib.hid (HT9.out.left HT.out hq10 hg10)
          clear hq10 hg10
          go_wp2_with fail
          refine (HT.out.len HT10.out.p).mono ?_
          rintro e w11 ⟨rfl, R11, hp11, hg11⟩
          have HT11 := Lib.hid (HT10.out.right HT.out hp11 hg11)
          have HEq : Hid ((((dueL (dueL L (a : Int)).1 (b : Int)).1.length : Nat) : Int) == (((dueL L (b : Int)).1.length : Nat) : Int)) := Lib.hid (beq_iff_eq.2 (congrArg (fun r => ((r.1.length : Nat) : Int)) HPa.out).symm)
          have hEq := HEq.out
          clear hp11 hg11
          go_wp2_with fail
          go_ret
          exact ⟨by simp, HT11.out.below⟩
        · subst hab
          have f1 : ¬ (a : Int) < (a : Int) := by omega
          have HPa := Lib.hid (due_parts (lo := (a : Int)) (hi := (a : Int)) (by omega) (atTo xs t))
          have HL0 := Lib.hid (atTo_length xs t)
          generalize atTo xs t = L at *
          go_wp2_with fail
          refine (HT.out.due (a : Int) HTw.out.q ⟨by omega, by omega⟩).mono ?_
          rintro e w3 ⟨y, rfl, ⟨S3, hq3, hg3, hn3⟩, ho3⟩
          have HT3 := Lib.hid (HTw.out.left HT.out hq3 hg3)
          have HY3 := Lib.hid ho3
          have HNy := Lib.hid hn3
          clear hq3 hg3 hn3 ho3
          go_wp2_with fail
          refine (HT.out.due (a : Int) HT3.out.q ⟨by omega, by omega⟩).mono ?_
          rintro e w4 ⟨z, rfl, ⟨S4, hq4, hg4, hn4⟩, ho4⟩
          have HT4 := Lib.hid (HT3.out.left HT.out hq4 hg4)
          have HY4 := Lib.hid (HY3.out.grows HNy.out hg4).ints
          have HZ4 := Lib.hid ho4.ints
          have HC1 := Lib.hid (due_length L (a : Int))
          have HC2 := Lib.hid (due_length (dueL L (a : Int)).1 (a : Int))
          have HC3 : Hid ((dueL L (a : Int)).2.length + (dueL (dueL L (a : Int)).1 (a : Int)).2.length ≤ 200) := Lib.hid (by
            have h1 := due_count (a : Int) L (HT.out.keys HTw.out.q)
            have h2 := HC2.out
            have h3 := HL0.out
            omega)
          clear hq4 hg4 hn4 ho4
          obtain ⟨v5, w5, hrun5, ho5, hg5⟩ := append_is w4 w4.heap.size 36 _ y [] (dueL L (a : Int)).2 _ HY4.out (OwnI.nil _ _) (by have := HC3.out; simp; omega) (Nat.le_refl _)
          have hB5 : Below w4.heap.size w4 w5 := (Below.refl _ _).grown hg5 (Nat.le_refl _) (fun k e => by cases e)
          obtain ⟨v6, w6, hrun6, ho6, hg6⟩ := append_is w5 w4.heap.size 36 _ z ([] ++ (dueL L (a : Int)).2) (dueL (dueL L (a : Int)).1 (a : Int)).2 _ (HZ4.out.on hB5) ho5 (by have := HC3.out; simp; omega) hB5.size
          have hB6 : Below w4.heap.size w4 w6 := hB5.grown hg6 hB5.size (fun k e => (World.ownsRow.lt ho5 k e).1)
          rw [List.nil_append] at ho6
          have HX6 := Lib.hid ho6
          have HR5 := Lib.hid hrun5
          have HR6 := Lib.hid hrun6
          have HT6 := Lib.hid (HT4.out.on HT.out hB6)
          have HLr := Lib.hid (HT.out.lt HT4.out.p)
          clear hrun5 ho5 hg5 hB5 hrun6 ho6 hg6 hB6
          go_wp2_with (first | (at_builtin; refine Lib.wpList_append_run _ rfl _ _ _ _ rfl _ _ rfl rfl _ _ HR5.out ?_) | (at_builtin; refine Lib.wpList_append_run _ rfl _ _ _ _ rfl _ _ rfl rfl _ _ HR6.out ?_))
          refine (known_any HT.out w6).mono ?_
          rintro e w7 ⟨rfl, hB7⟩
          have HT7 := Lib.hid (HT6.out.on HT.out hB7)
          have HX7 : Hid (OwnI w7 w4.heap.size v6 ((dueL L (a : Int)).2 ++ (dueL (dueL L (a : Int)).1 (a : Int)).2)) := Lib.hid (HX6.out.on hB7)
          clear hB7
          go_wp2_with fail
          refine (HT.out.due (a : Int) HT7.out.p ⟨by omega, by omega⟩).mono ?_
          rintro e w8 ⟨u, rfl, ⟨R8, hp8, hg8, hn8⟩, ho8⟩
          have HT8 := Lib.hid (HT7.out.right HT.out hp8 hg8)
          have HX8 := Lib.hid (HX7.out.grows (fun k e h => by have := (World.ownsRow.lt HX7.out k e).1; have := HLr.out k h; omega) hg8).ints
          have HU8 := Lib.hid ho8.ints
          clear hp8 hg8 hn8 ho8
          go_wp2_with fail
          refine (isame_any _ _ _ _ _ _ w8 HX8.out HU8.out (by rw [List.length_append]; have := HC3.out; omega) (by have := due_length L (a : Int); have := HL0.out; omega)).mono ?_
          rintro e w9 ⟨rfl, hB9⟩
          have HSm : Hid (sameI ((dueL L (a : Int)).2 ++ (dueL (dueL L (a : Int)).1 (a : Int)).2) (dueL L (a : Int)).2 = true) := Lib.hid (decide_eq_true (congrArg (fun r => r.2) HPa.out).symm)
          rw [HSm.out]
          have HT9 := Lib.hid (HT8.out.on HT.out hB9)
          clear hB9
          go_wp2_with fail
          refine (HT.out.len HT9.out.q).mono ?_
          rintro e w10 ⟨rfl, S10, hq10, hg10⟩
          have HT10 := Lib.hid (HT9.out.left HT.out hq10 hg10)
          clear hq10 hg10
          go_wp2_with fail
          refine (HT.out.len HT10.out.p).mono ?_
          rintro e w11 ⟨rfl, R11, hp11, hg11⟩
          have HT11 := Lib.hid (HT10.out.right HT.out hp11 hg11)
          have HEq : Hid ((((dueL (dueL L (a : Int)).1 (a : Int)).1.length : Nat) : Int) == (((dueL L (a : Int)).1.length : Nat) : Int)) := Lib.hid (beq_iff_eq.2 (congrArg (fun r => ((r.1.length : Nat) : Int)) HPa.out).symm)
          have hEq := HEq.out
          clear hp11 hg11
          go_wp2_with fail
          go_ret
          exact ⟨by simp, HT11.out.below⟩
        · have f1 : (b : Int) < (a : Int) := by omega
          have f2 : ¬ (a : Int) < (b : Int) := by omega
          have HPa := Lib.hid (due_parts (lo := (b : Int)) (hi := (a : Int)) (by omega) (atTo xs t))
          have HL0 := Lib.hid (atTo_length xs t)
          generalize atTo xs t = L at *
          go_wp2_with fail
          refine (HT.out.due (b : Int) HTw.out.q ⟨by omega, by omega⟩).mono ?_
          rintro e w3 ⟨y, rfl, ⟨S3, hq3, hg3, hn3⟩, ho3⟩
          have HT3 := Lib.hid (HTw.out.left HT.out hq3 hg3)
          have HY3 := Lib.hid ho3
          have HNy := Lib.hid hn3
          clear hq3 hg3 hn3 ho3
          go_wp2_with fail
          refine (HT.out.due (a : Int) HT3.out.q ⟨by omega, by omega⟩).mono ?_
          rintro e w4 ⟨z, rfl, ⟨S4, hq4, hg4, hn4⟩, ho4⟩
          have HT4 := Lib.hid (HT3.out.left HT.out hq4 hg4)
          have HY4 := Lib.hid (HY3.out.grows HNy.out hg4).ints
          have HZ4 := Lib.hid ho4.ints
          have HC1 := Lib.hid (due_length L (b : Int))
          have HC2 := Lib.hid (due_length (dueL L (b : Int)).1 (a : Int))
          have HC3 : Hid ((dueL L (b : Int)).2.length + (dueL (dueL L (b : Int)).1 (a : Int)).2.length ≤ 200) := Lib.hid (by
            have h1 := due_count (b : Int) L (HT.out.keys HTw.out.q)
            have h2 := HC2.out
            have h3 := HL0.out
            omega)
          clear hq4 hg4 hn4 ho4
          obtain ⟨v5, w5, hrun5, ho5, hg5⟩ := append_is w4 w4.heap.size 36 _ y [] (dueL L (b : Int)).2 _ HY4.out (OwnI.nil _ _) (by have := HC3.out; simp; omega) (Nat.le_refl _)
          have hB5 : Below w4.heap.size w4 w5 := (Below.refl _ _).grown hg5 (Nat.le_refl _) (fun k e => by cases e)
          obtain ⟨v6, w6, hrun6, ho6, hg6⟩ := append_is w5 w4.heap.size 36 _ z ([] ++ (dueL L (b : Int)).2) (dueL (dueL L (b : Int)).1 (a : Int)).2 _ (HZ4.out.on hB5) ho5 (by have := HC3.out; simp; omega) hB5.size
          have hB6 : Below w4.heap.size w4 w6 := hB5.grown hg6 hB5.size (fun k e => (World.ownsRow.lt ho5 k e).1)
          rw [List.nil_append] at ho6
          have HX6 := Lib.hid ho6
          have HR5 := Lib.hid hrun5
          have HR6 := Lib.hid hrun6
          have HT6 := Lib.hid (HT4.out.on HT.out hB6)
          have HLr := Lib.hid (HT.out.lt HT4.out.p)
          clear hrun5 ho5 hg5 hB5 hrun6 ho6 hg6 hB6
          go_wp2_with (first | (at_builtin; refine Lib.wpList_append_run _ rfl _ _ _ _ rfl _ _ rfl rfl _ _ HR5.out ?_) | (at_builtin; refine Lib.wpList_append_run _ rfl _ _ _ _ rfl _ _ rfl rfl _ _ HR6.out ?_))
          refine (known_any HT.out w6).mono ?_
          rintro e w7 ⟨rfl, hB7⟩
          have HT7 := Lib.hid (HT6.out.on HT.out hB7)
          have HX7 : Hid (OwnI w7 w4.heap.size v6 ((dueL L (b : Int)).2 ++ (dueL (dueL L (b : Int)).1 (a : Int)).2)) := Lib.hid (HX6.out.on hB7)
          clear hB7
          go_wp2_with fail
          refine (HT.out.due (a : Int) HT7.out.p ⟨by omega, by omega⟩).mono ?_
          rintro e w8 ⟨u, rfl, ⟨R8, hp8, hg8, hn8⟩, ho8⟩
          have HT8 := Lib.hid (HT7.out.right HT.out hp8 hg8)
          have HX8 := Lib.hid (HX7.out.grows (fun k e h => by have := (World.ownsRow.lt HX7.out k e).1; have := HLr.out k h; omega) hg8).ints
          have HU8 := Lib.hid ho8.ints
          clear hp8 hg8 hn8 ho8
          go_wp2_with fail
          refine (isame_any _ _ _ _ _ _ w8 HX8.out HU8.out (by rw [List.length_append]; have := HC3.out; omega) (by have := due_length L (a : Int); have := HL0.out; omega)).mono ?_
          rintro e w9 ⟨rfl, hB9⟩
          have HSm : Hid (sameI ((dueL L (b : Int)).2 ++ (dueL (dueL L (b : Int)).1 (a : Int)).2) (dueL L (a : Int)).2 = true) := Lib.hid (decide_eq_true (congrArg (fun r => r.2) HPa.out).symm)
          rw [HSm.out]
          have HT9 := Lib.hid (HT8.out.on HT.out hB9)
          clear hB9
          go_wp2_with fail
          refine (HT.out.len HT9.out.q).mono ?_
          rintro e w10 ⟨rfl, S10, hq10, hg10⟩
          have HT10 := Lib.hid (HT9.out.left HT.out hq10 hg10)
          clear hq10 hg10
          go_wp2_with fail
          refine (HT.out.len HT10.out.p).mono ?_
          rintro e w11 ⟨rfl, R11, hp11, hg11⟩
          have HT11 := Lib.hid (HT10.out.right HT.out hp11 hg11)
          have HEq : Hid ((((dueL (dueL L (b : Int)).1 (a : Int)).1.length : Nat) : Int) == (((dueL L (a : Int)).1.length : Nat) : Int)) := Lib.hid (beq_iff_eq.2 (congrArg (fun r => ((r.1.length : Nat) : Int)) HPa.out).symm)
          have hEq := HEq.out
          clear hp11 hg11
          go_wp2_with fail
          go_ret
          exact ⟨by simp, HT11.out.below⟩

end Go.Proofs.Ytlhfgiffdfcplaa
