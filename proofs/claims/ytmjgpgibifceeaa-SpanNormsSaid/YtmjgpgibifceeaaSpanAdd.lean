/-
  Layer 4, the document's add (one span more, to spans that are right) and Norm.
-/
import Derived.Test.YtmjgpgibifceeaaSpanSame
import Derived.Test.YtmjgpgibifceeaaSpanOwn
import Derived.Test.YtmjgpgibifceeaaBytesRow
import Derived.Lib.AppendZeros
import Derived.StillTailTactics
namespace Go.Proofs.Ytmjgpgibifceeaa
open Go.RowKit Go.Deep

/-- a box of one span -/
def Box2 (w : World) (g : Nat) (x y : Int) : Prop := w.heap[g]? = some (.cells #[.int .i64 x, .int .i64 y] 24 (0, 0))
theorem Box2.cells {w : World} {g : Nat} {x y : Int} (h : Box2 w g x y) : w.cell? ⟨g, 0, none⟩ = some (.int .i64 x) ∧ w.cell? ⟨g, 1, none⟩ = some (.int .i64 y) := by
  unfold Box2 at h
  simp [World.cell?, h]
theorem Box2.frozen {w : World} {g : Nat} {x y : Int} (h : Box2 w g x y) (j : Nat) : w.frozen? ⟨g, j, none⟩ = false := by
  unfold Box2 at h
  simp [World.frozen?, h]
theorem Box2.of_block {w w' : World} {g : Nat} {x y : Int} (h : Box2 w g x y) (e : w'.heap[g]? = w.heap[g]?) : Box2 w' g x y := e.trans h
theorem Box2.lt {w : World} {g : Nat} {x y : Int} (h : Box2 w g x y) : g < w.heap.size := (Array.getElem?_eq_some_iff.1 h).1
theorem Box2.new (w : World) (x y : Int) : Box2 (w.alloc (.cells #[.int .i64 x, .int .i64 y] 24)) w.heap.size x y := by unfold Box2; rw [blk_alloc_new]
theorem Box2.set {w : World} {g : Nat} {x y : Int} (h : Box2 w g x y) (x' y' : Int) : Box2 ((w.setCell ⟨g, 0, none⟩ (.int .i64 x')).setCell ⟨g, 1, none⟩ (.int .i64 y')) g x' y' := by
  unfold Box2 at h ⊢
  simp [World.setCell, Array.getElem?_modify, h]

/-- where add stands: so many have been laid, s' is what one span more has become, 'laid': it lies among these -/
def AddAt (l : List Sp) (s : Sp) (rest out : List Sp) (laid : Bool) (s' : Sp) : Prop :=
  if laid then out ++ rest = addGo l s ∧ ∀ u ∈ rest, s'.2 < u.1 else out ++ addGo rest s' = addGo l s

theorem AddAt.ahead {l r out : List Sp} {s u s' : Sp} {laid : Bool} (h : AddAt l s (u :: r) out laid s') (hR : RightL (u :: r)) (hs : s'.1 < s'.2) (h1 : u.2 < s'.1) : laid = false ∧ AddAt l s r (out ++ [u]) false s' := by
  cases laid with
  | true =>
    exfalso
    have := h.2 u List.mem_cons_self
    have := hR.head
    omega
  | false =>
    refine ⟨rfl, ?_⟩
    have h2 : out ++ addGo (u :: r) s' = addGo l s := h
    rw [addGo, if_pos h1] at h2
    show out ++ [u] ++ addGo r s' = addGo l s
    rw [List.append_assoc]
    exact h2
theorem AddAt.behind {l r out : List Sp} {s u s' : Sp} (h : AddAt l s (u :: r) out false s') (hR : RightL (u :: r)) (h1 : ¬ u.2 < s'.1) (h2 : s'.2 < u.1) : AddAt l s r (out ++ [s'] ++ [u]) true s' := by
  have h3 : out ++ addGo (u :: r) s' = addGo l s := h
  rw [addGo, if_neg h1, if_pos h2] at h3
  refine ⟨?_, fun v hv => ?_⟩
  · rw [← h3]; simp
  · have := hR.above hv
    have := hR.head
    omega
theorem AddAt.copy {l r out : List Sp} {s u s' : Sp} (h : AddAt l s (u :: r) out true s') : AddAt l s r (out ++ [u]) true s' := by
  obtain ⟨h1, h2⟩ := h
  refine ⟨?_, fun v hv => h2 v (List.mem_cons_of_mem _ hv)⟩
  rw [← h1]; simp
theorem AddAt.join {l r out : List Sp} {s u s' : Sp} {laid : Bool} (h : AddAt l s (u :: r) out laid s') (h1 : ¬ u.2 < s'.1) (h2 : ¬ s'.2 < u.1) : laid = false ∧ AddAt l s r out false (min s'.1 u.1, max s'.2 u.2) := by
  cases laid with
  | true => exact absurd (h.2 u List.mem_cons_self) h2
  | false =>
    refine ⟨rfl, ?_⟩
    have h3 : out ++ addGo (u :: r) s' = addGo l s := h
    rw [addGo, if_neg h1, if_neg h2] at h3
    exact h3
theorem drop_cons {l : List Sp} {t : Nat} (h : t < l.length) : l.drop t = l[t]?.getD (0, 0) :: l.drop (t + 1) := by
  rw [List.drop_eq_getElem_cons h, List.getElem?_eq_getElem h]; rfl
theorem RightL.drop {l : List Sp} (h : RightL l) (t : Nat) : RightL (l.drop t) := by
  have := List.take_append_drop t l
  rw [← this] at h
  exact h.right

theorem OwnS.setOther {w : World} {base g : Nat} {v : Value} {l : List Sp} (h : OwnS w base v l) (hg : g < base) (j : Nat) (x : Value) : OwnS (w.setCell ⟨g, j, none⟩ x) base v l := by
  obtain ⟨h1, h2 | ⟨k, c, cur, e, hk, hh, r⟩⟩ := h
  · exact ⟨h1, .inl h2⟩
  · exact ⟨h1, .inr ⟨k, c, cur, e, hk, (blk_setCell_other _ _ _ _ (by show k ≠ g; omega)).trans hh, r⟩⟩
theorem OwnS.base {w : World} {base base' : Nat} {v : Value} {l : List Sp} (h : OwnS w base v l) (hb : base' ≤ base) : OwnS w base' v l := by
  obtain ⟨h1, h2 | ⟨g, c, cur, e, hg, r⟩⟩ := h
  · exact ⟨h1, .inl h2⟩
  · exact ⟨h1, .inr ⟨g, c, cur, e, by omega, r⟩⟩
/-- what an append of one span leaves: the row, the box of another one, all that lay below -/
theorem app_after {w W w' : World} {g : Nat} {v v' : Value} {out : List Sp} {x y p q : Int} (hown : OwnS W (g + 1) v out) (hbox : Box2 W g p q) (hB : Below g w W) (hg : (W.alloc (.cells #[.int .i64 x, .int .i64 y] 24)).grownBy w' v.ownBlock) (ho' : OwnS w' (g + 1) v' (out ++ [(x, y)])) :
    OwnS w' (g + 1) v' (out ++ [(x, y)]) ∧ Box2 w' g p q ∧ Below g w w' := by
  have hlt := hbox.lt
  refine ⟨ho', ?_, ?_⟩
  · refine hbox.of_block ((hg.block g (by simp; omega) (fun e => ?_)).trans (blk_alloc_lt _ _ _ hlt))
    have := (World.ownsRow.lt hown g e.symm).1
    omega
  · refine (hB.alloc (by omega) _).grown hg (by simp; omega) (fun k e => ?_)
    have := (World.ownsRow.lt hown k e).1
    omega

set_option maxRecDepth 100000 in
set_option maxHeartbeats 4000000 in
theorem radd_go (A : Option Addr) (c len : Nat) (l : List Sp) (x y : Int) (w : World) (hn : len = l.length) (hxy : x < y) (hl : AllS l) (hR : RightL l) (hlen : len ≤ 1000000) (x0 : -9223372036854775808 ≤ x) (y1 : y ≤ 9223372036854775807)
    (hr : 0 < l.length → ∃ b off, A = some ⟨b, off, none⟩ ∧ b < w.heap.size ∧ ∀ j, j < l.length → w.cell? ⟨b, off + j * 2, none⟩ = some (.int .i64 (l[j]?.getD (0, 0)).1) ∧ w.cell? ⟨b, off + j * 2 + 1, none⟩ = some (.int .i64 (l[j]?.getD (0, 0)).2)) :
    Calls Try.prog 26 #[.slice A len c, .agg #[.int .i64 x, .int .i64 y]] w fun e w' => ∃ v', e = .returned v' ∧ OwnS w' w.heap.size v' (addGo l (x, y)) ∧ Below w.heap.size w w' := by
  have H := Lib.hid hr
  have HN := Lib.hid hn
  have HA := Lib.hid hl
  have HR := Lib.hid hR
  have d0 : decide (y ≤ x) = false := decide_eq_false (by omega)
  have hbx := Box2.new w x y
  have HBX := Lib.hid hbx
  obtain ⟨c0, c1⟩ := hbx.cells
  have hB0 : Below w.heap.size w (w.alloc (.cells #[.int .i64 x, .int .i64 y] 24)) := (Below.refl _ _).alloc (Nat.le_refl _) _
  clear hr hl hn hR hbx
  go_enter Try.func26, Try.ntmps26
  go_wp2
  go_loopw [5, 6, 7] (fun o d i wr => ∃ (t : Nat) (out : List Sp) (laid : Bool) (p q : Int), t ≤ len ∧ i = .int .i64 t ∧ d = .bool laid ∧ OwnS wr (w.heap.size + 1) o out ∧ Box2 wr w.heap.size p q ∧ (p < q ∧ -9223372036854775808 ≤ p ∧ q ≤ 9223372036854775807 ∧ out.length ≤ t + laid.toNat) ∧ AddAt l (x, y) (l.drop t) out laid (p, q) ∧ Below w.heap.size w wr) (fun _ _ i _ => len - (intOf i).toNat)
  case atStart => exact ⟨0, [], false, x, y, by omega, rfl, rfl, OwnS.nil _ _, HBX.out, ⟨hxy, x0, y1, by simp⟩, rfl, hB0⟩
  case round =>
    clear c0 c1 hB0 HBX
    obtain ⟨t, out, laid, p, q, ht, rfl, rfl, hown, hbox, ⟨hpq, p0, q1, hol⟩, hadd, hB⟩ := hrel
    obtain ⟨c0, c1⟩ := hbox.cells
    have hfz0 := hbox.frozen 0
    have hfz1 := hbox.frozen 1
    have HO := Lib.hid hown
    have HBo := Lib.hid hbox
    have HAd := Lib.hid hadd
    have hbl := hbox.lt
    clear hown hbox hadd
    by_cases hlt : t < len
    · obtain ⟨b, off, rfl, hb, hc⟩ := H.out (by rw [← HN.out]; omega)
      obtain ⟨u0, u1⟩ := hc t (by rw [← HN.out]; exact hlt)
      have hc0 := (hB.cell (p := ⟨b, off + t * 2, none⟩) hb).trans u0
      have hc1 := (hB.cell (p := ⟨b, off + t * 2 + 1, none⟩) hb).trans u1
      obtain ⟨k1, k2, k3, k4⟩ := HA.out.at_ t
      have HD := Lib.hid (drop_cons (l := l) (t := t) (by rw [← HN.out]; exact hlt))
      have HRd : Hid (RightL (l[t]?.getD (0, 0) :: l.drop (t + 1))) := Lib.hid (by rw [← HD.out]; exact HR.out.drop t)
      have HU := Lib.hid (And.intro u0 u1)
      clear hc u0 u1
      obtain ⟨u, hu⟩ : ∃ u, l[t]?.getD (0, 0) = u := ⟨_, rfl⟩
      rw [hu] at hc0 hc1 k1 k2 k3 k4 HD HRd HU
      clear hu
      obtain ⟨a, z⟩ := u
      simp only at hc0 hc1 k1 k2 k3 k4
      have HAd2 : Hid (AddAt l (x, y) ((a, z) :: l.drop (t + 1)) out laid (p, q)) := Lib.hid (by rw [← HD.out]; exact HAd.out)
      have haz := HRd.out.head
      simp only at haz
      clear HAd HD
      by_cases h1 : z < p
      · have d1 : decide (z < p) = true := decide_eq_true h1
        obtain ⟨rfl, hadd2⟩ := HAd2.out.ahead HRd.out hpq h1
        simp only [Bool.toNat_false] at hol
        have HAd3 := Lib.hid hadd2
        clear hadd2
        go_wp2
        go_quiet (fail)
        have hO2 : OwnS (wr.drewN nq) (w.heap.size + 1) _ out := HO.out
        have hb2 : Box2 (wr.drewN nq) w.heap.size p q := HBo.out
        have hd0 : (wr.drewN nq).cell? ⟨b, off + t * 2, none⟩ = some (.int .i64 a) := hc0
        have hd1 : (wr.drewN nq).cell? ⟨b, off + t * 2 + 1, none⟩ = some (.int .i64 z) := hc1
        have hB2 : Below w.heap.size w (wr.drewN nq) := below_drewN hB nq
        generalize wr.drewN nq = W at *
        clear HO HBo hc0 hc1 hB c0 c1 hfz0 hfz1 hbl
        have hbl := hb2.lt
        obtain ⟨v', w', hrun, ho', hg'⟩ := append_span W (w.heap.size + 1) 22 _ out a z hO2 (by omega) (by omega)
        have HRun := Lib.hid hrun
        have HAf := Lib.hid (app_after hO2 hb2 hB2 hg' ho')
        clear hrun ho' hg' hO2 hb2 hB2
        go_wp2_with (at_builtin; refine Lib.wpList_append_run _ rfl _ _ _ _ rfl _ _ rfl rfl _ _ HRun.out ?_)
        go_roundw
        case rel => exact ⟨t + 1, out ++ [(a, z)], false, p, q, by omega, by go_num, rfl, HAf.out.1, HAf.out.2.1, ⟨hpq, p0, q1, by simp; omega⟩, HAd3.out, HAf.out.2.2⟩
        case measure => simp [intOf]; omega
      · have d1 : decide (z < p) = false := decide_eq_false h1
        by_cases h2 : q < a
        · have d2 : decide (q < a) = true := decide_eq_true h2
          go_wp2
          go_quiet (fail)
          have hO2 : OwnS (wr.drewN nq) (w.heap.size + 1) _ out := HO.out
          have hb2 : Box2 (wr.drewN nq) w.heap.size p q := HBo.out
          have hB2 : Below w.heap.size w (wr.drewN nq) := below_drewN hB nq
          generalize wr.drewN nq = W at *
          clear HO HBo hc0 hc1 hB c0 c1 hfz0 hfz1 hbl
          obtain ⟨c0, c1⟩ := hb2.cells
          have hd0 := (hB2.cell (p := ⟨b, off + t * 2, none⟩) hb).trans HU.out.1
          have hd1 := (hB2.cell (p := ⟨b, off + t * 2 + 1, none⟩) hb).trans HU.out.2
          have HO2 := Lib.hid hO2
          have HB2 := Lib.hid hb2
          clear hO2 hb2
          go_wp2
          go_quiet (fail)
          have hO3 : OwnS (W.drewN nq) (w.heap.size + 1) _ out := HO2.out
          have hb3 : Box2 (W.drewN nq) w.heap.size p q := HB2.out
          have hB3 : Below w.heap.size w (W.drewN nq) := below_drewN hB2 nq
          generalize W.drewN nq = W2 at *
          clear HO2 HB2 hd0 hd1 hB2 c0 c1
          obtain ⟨c0, c1⟩ := hb3.cells
          have hd0 := (hB3.cell (p := ⟨b, off + t * 2, none⟩) hb).trans HU.out.1
          have hd1 := (hB3.cell (p := ⟨b, off + t * 2 + 1, none⟩) hb).trans HU.out.2
          have hbl := hb3.lt
          cases laid with
          | true =>
            simp only [Bool.toNat_true] at hol
            have HAd3 := Lib.hid (HAd2.out.copy)
            obtain ⟨v', w', hrun, ho', hg'⟩ := append_span W2 (w.heap.size + 1) 22 _ out a z hO3 (by omega) (by omega)
            have HRun := Lib.hid hrun
            have HAf := Lib.hid (app_after hO3 hb3 hB3 hg' ho')
            clear hrun ho' hg' hO3 hb3 hB3
            go_wp2_with (at_builtin; refine Lib.wpList_append_run _ rfl _ _ _ _ rfl _ _ rfl rfl _ _ HRun.out ?_)
            go_roundw
            case rel => exact ⟨t + 1, out ++ [(a, z)], true, p, q, by omega, by go_num, rfl, HAf.out.1, HAf.out.2.1, ⟨hpq, p0, q1, by simp; omega⟩, HAd3.out, HAf.out.2.2⟩
            case measure => simp [intOf]; omega
          | false =>
            simp only [Bool.toNat_false] at hol
            have HAd3 := Lib.hid (HAd2.out.behind HRd.out (by simp only; omega) h2)
            obtain ⟨v', w', hrun, ho', hg'⟩ := append_span W2 (w.heap.size + 1) 22 _ out p q hO3 (by omega) (by omega)
            have HRun := Lib.hid hrun
            obtain ⟨f1, f2, f3⟩ := app_after hO3 hb3 hB3 hg' ho'
            have hbl2 := f2.lt
            have he0 := (f3.cell (p := ⟨b, off + t * 2, none⟩) hb).trans HU.out.1
            have he1 := (f3.cell (p := ⟨b, off + t * 2 + 1, none⟩) hb).trans HU.out.2
            obtain ⟨v2, w2, hrun2, ho2, hg2⟩ := append_span w' (w.heap.size + 1) 22 _ (out ++ [(p, q)]) a z f1 (by simp; omega) (by omega)
            have HRun2 := Lib.hid hrun2
            have HAf := Lib.hid (app_after f1 f2 f3 hg2 ho2)
            clear hrun ho' hg' hO3 hb3 hB3 f1 f2 f3 hrun2 ho2 hg2
            go_wp2_with (at_builtin; first | (refine Lib.wpList_append_run _ rfl _ _ _ _ rfl _ _ rfl rfl _ _ HRun.out ?_) | (refine Lib.wpList_append_run _ rfl _ _ _ _ rfl _ _ rfl rfl _ _ HRun2.out ?_))
            go_roundw
            case rel => exact ⟨t + 1, out ++ [(p, q)] ++ [(a, z)], true, p, q, by omega, by go_num, rfl, HAf.out.1, HAf.out.2.1, ⟨hpq, p0, q1, by simp; omega⟩, HAd3.out, HAf.out.2.2⟩
            case measure => simp [intOf]; omega
        · have d2 : decide (q < a) = false := decide_eq_false h2
          obtain ⟨rfl, hadd2⟩ := HAd2.out.join (by simp only; omega) (by simp only; omega)
          simp only [Bool.toNat_false] at hol
          have HAd3 := Lib.hid hadd2
          clear hadd2
          go_wp2
          go_quiet (fail)
          have hO2 : OwnS (wr.drewN nq) (w.heap.size + 1) _ out := HO.out
          have hb2 : Box2 (wr.drewN nq) w.heap.size p q := HBo.out
          have hB2 : Below w.heap.size w (wr.drewN nq) := below_drewN hB nq
          generalize wr.drewN nq = W at *
          clear HO HBo hc0 hc1 hB c0 c1 hfz0 hfz1 hbl
          obtain ⟨c0, c1⟩ := hb2.cells
          have hd0 := (hB2.cell (p := ⟨b, off + t * 2, none⟩) hb).trans HU.out.1
          have hd1 := (hB2.cell (p := ⟨b, off + t * 2 + 1, none⟩) hb).trans HU.out.2
          have HO2 := Lib.hid hO2
          have HB2 := Lib.hid hb2
          clear hO2 hb2
          go_wp2
          go_quiet (fail)
          have hO3 : OwnS (W.drewN nq) (w.heap.size + 1) _ out := HO2.out
          have hb3 : Box2 (W.drewN nq) w.heap.size p q := HB2.out
          have hB3 : Below w.heap.size w (W.drewN nq) := below_drewN hB2 nq
          generalize W.drewN nq = W2 at *
          clear HO2 HB2 hd0 hd1 hB2 c0 c1
          obtain ⟨c0, c1⟩ := hb3.cells
          have hd0 := (hB3.cell (p := ⟨b, off + t * 2, none⟩) hb).trans HU.out.1
          have hd1 := (hB3.cell (p := ⟨b, off + t * 2 + 1, none⟩) hb).trans HU.out.2
          have hfz0 := hb3.frozen 0
          have hfz1 := hb3.frozen 1
          have HO3 := Lib.hid hO3
          have HB3 := Lib.hid hb3
          clear hO3 hb3
          go_wp2
          go_still_tail 17, (by kernel_rfl)
          rw [show (if a < p then a else p) = min p a by split <;> omega, show (if q < z then z else q) = max q z by split <;> omega]
          change wpList _ _ _ _ _ W2.drew
          have hO4 : OwnS W2.drew (w.heap.size + 1) _ out := HO3.out
          have hb4 : Box2 W2.drew w.heap.size p q := HB3.out
          have hB4 : Below w.heap.size w W2.drew := hB3.drew
          generalize W2.drew = W3 at *
          clear HO3 HB3 hB3 c0 c1 hfz0 hfz1 hd0 hd1
          obtain ⟨c0, c1⟩ := hb4.cells
          have hfz0 := hb4.frozen 0
          have hfz1 := hb4.frozen 1
          have HAf := Lib.hid (And.intro ((hO4.setOther (g := w.heap.size) (by omega) 0 (.int .i64 (min p a))).setOther (g := w.heap.size) (by omega) 1 (.int .i64 (max q z))) (And.intro (hb4.set (min p a) (max q z)) ((hB4.setCell (p := ⟨w.heap.size, 0, none⟩) (Nat.le_refl _) (.int .i64 (min p a))).setCell (p := ⟨w.heap.size, 1, none⟩) (Nat.le_refl _) (.int .i64 (max q z)))))
          clear hO4 hb4 hB4
          go_wp2
          go_roundw
          case rel => exact ⟨t + 1, out, false, min p a, max q z, by omega, by go_num, rfl, HAf.out.1, HAf.out.2.1, ⟨by omega, by omega, by omega, by simp only [Bool.toNat_false]; omega⟩, HAd3.out, HAf.out.2.2⟩
          case measure => simp [intOf]; omega
    · obtain rfl : t = len := by omega
      have hdr : l.drop t = [] := List.drop_eq_nil_of_le (by rw [← HN.out]; exact Nat.le_refl _)
      have hadd : AddAt l (x, y) [] out laid (p, q) := by rw [← hdr]; exact HAd.out
      clear hdr HAd
      cases laid with
      | true =>
        have hE : Hid (out = addGo l (x, y)) := Lib.hid (by have := hadd.1; rwa [List.append_nil] at this)
        clear hadd
        go_wp2
        go_ret
        exact ⟨_, rfl, by rw [← hE.out]; exact HO.out.base (by omega), hB⟩
      | false =>
        have hE : Hid (out ++ [(p, q)] = addGo l (x, y)) := Lib.hid hadd
        clear hadd
        obtain ⟨v', w', hrun, ho', hg'⟩ := append_span wr (w.heap.size + 1) 22 _ out p q HO.out (by simp only [Bool.toNat_false] at hol; omega) (by omega)
        have HRun := Lib.hid hrun
        have HAf := Lib.hid (app_after HO.out HBo.out hB hg' ho')
        clear hrun ho' hg'
        go_wp2_with (at_builtin; refine Lib.wpList_append_run _ rfl _ _ _ _ rfl _ _ rfl rfl _ _ HRun.out ?_)
        go_ret
        exact ⟨_, rfl, by rw [← hE.out]; exact HAf.out.1.base (by omega), HAf.out.2.2⟩

set_option maxHeartbeats 400000 in
theorem radd_any (base : Nat) (v : Value) (l : List Sp) (x y : Int) (w : World) (h : OwnS w base v l) (hl : AllS l) (hR : RightL l) (hlen : l.length ≤ 1000000) (hb : base ≤ w.heap.size) (x0 : -9223372036854775808 ≤ x) (y1 : y ≤ 9223372036854775807) :
    Calls Try.prog 26 #[v, .agg #[.int .i64 x, .int .i64 y]] w fun e w' => ∃ v', e = .returned v' ∧ OwnS w' base v' (addL l (x, y)) ∧ Below w.heap.size w w' := by
  unfold addL
  obtain ⟨A, c, rfl, hc, hm, hr⟩ := h.spans
  by_cases hxy : y ≤ x
  · rw [if_pos hxy]
    have HO := Lib.hid h
    clear h hr hc
    go_enter Try.func26, Try.ntmps26
    go_wp2
    go_ret
    exact ⟨_, rfl, HO.out.on ((Below.refl _ _).alloc (Nat.le_refl _) _), (Below.refl _ _).alloc (Nat.le_refl _) _⟩
  · rw [if_neg hxy]
    refine (radd_go A c l.length l x y w rfl (by omega) hl hR hlen x0 y1 hr).mono ?_
    rintro e w' ⟨v', rfl, h1, h2⟩
    exact ⟨v', rfl, h1.base hb, h2⟩

end Go.Proofs.Ytmjgpgibifceeaa
