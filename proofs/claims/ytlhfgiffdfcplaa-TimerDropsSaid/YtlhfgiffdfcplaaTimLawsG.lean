/-
  Layer 5: the walk of TimerDrops, over any queue that is as TimerOK asks.
-/
import Derived.Test.YtlhfgiffdfcplaaTimLawsE
import Derived.Test.YtlhfgiffdfcplaaBytesRow
namespace Go.Proofs.Ytlhfgiffdfcplaa
open Go.RowKit Go.Deep
variable {QR : World → (Nat → Prop) → Value → List Sp → Prop}

/-- block g is a row of bools that holds just the list f -/
def RowF (w : World) (g : Nat) (f : List Bool) : Prop := w.heap[g]? = some (.cells (f.map Value.bool).toArray 4 (0, 0))
theorem RowF.lt {w : World} {g : Nat} {f : List Bool} (h : RowF w g f) : g < w.heap.size := (Array.getElem?_eq_some_iff.1 h).1
theorem RowF.cell {w : World} {g : Nat} {f : List Bool} (h : RowF w g f) {j : Nat} (hj : j < f.length) : w.cell? ⟨g, j, none⟩ = some (.bool (f[j]?.getD false)) := by
  unfold RowF at h
  simp [World.cell?, h, hj]
theorem RowF.frozen {w : World} {g : Nat} {f : List Bool} (h : RowF w g f) (j : Nat) : w.frozen? ⟨g, j, none⟩ = false := by
  unfold RowF at h
  simp [World.frozen?, h]
theorem RowF.of_block {w w' : World} {g : Nat} {f : List Bool} (h : RowF w g f) (e : w'.heap[g]? = w.heap[g]?) : RowF w' g f := e.trans h
theorem RowF.set {w : World} {g : Nat} {f : List Bool} (h : RowF w g f) (i : Nat) (x : Bool) : RowF (w.setCell ⟨g, i, none⟩ (.bool x)) g (f.set i x) := by
  unfold RowF at h ⊢
  simp [World.setCell, Array.getElem?_modify, h]
theorem RowF.made (w : World) (n : Nat) : RowF (w.alloc (.cells (madeCells #[Value.bool false] n) 4)) w.heap.size (List.replicate n false) := by
  unfold RowF
  rw [blk_alloc_new]
  congr 2
  apply Array.ext'
  rw [toList_madeCells_one, List.map_replicate]
theorem Grows.set_ {S S' : Nat → Prop} {a b : World} (h : Grows S S' a b) {g : Nat} (hg : a.heap.size ≤ g) (i : Nat) (v : Value) : Grows S S' a (b.setCell ⟨g, i, none⟩ v) :=
  ⟨h.os, h.tape, h.output, by rw [nblk_setCell]; exact h.size, fun k hk hs => (blk_setCell_other _ _ _ _ (by show k ≠ g; omega)).trans (h.block k hk hs), h.own⟩

theorem drop_less_one {l : List Sp} (hk : Keys l) {k : Int} (h : (dropL l k).length < l.length) : (dropL l k).length + 1 = l.length := by
  by_cases hm : ∃ s ∈ l, s.1 = k
  · obtain ⟨s, hs, rfl⟩ := hm
    exact drop_lone hk hs
  · rw [drop_none (fun s hs e => hm ⟨s, hs, e⟩)] at h
    omega
/-- none of the keys that are marked is there -/
def Gone (f : List Bool) (l : List Sp) : Prop := ∀ j : Nat, f[j]?.getD false = true → ∀ s ∈ l, s.1 ≠ (j : Int)
theorem Gone.start (n : Nat) (l : List Sp) : Gone (List.replicate n false) l := by
  intro j h
  rw [List.getElem?_replicate] at h
  split at h <;> simp at h
theorem Gone.drop {f : List Bool} {l : List Sp} (h : Gone f l) (k : Int) : Gone f (dropL l k) := fun j hj s hs => h j hj s (drop_mem.1 hs).1
theorem Gone.set {f : List Bool} {l : List Sp} (h : Gone f l) (k : Nat) : Gone (f.set k true) (dropL l k) := by
  intro j hj s hs
  by_cases e : k = j
  · subst e; exact (drop_mem.1 hs).2
  · rw [List.getElem?_set_ne e] at hj
    exact h j hj s (drop_mem.1 hs).1
/-- what is left of the keys 0, 1, .. -/
def Some_ (xs : List Int) (len : Nat) (l : List Sp) : Prop := ∀ s ∈ l, s ∈ atTo xs len
theorem Some_.drop {xs : List Int} {len : Nat} {l : List Sp} (h : Some_ xs len l) (k : Int) : Some_ xs len (dropL l k) := fun s hs => h s (drop_mem.1 hs).1
theorem drops_due {xs : List Int} (hx : AllB xs) {len : Nat} {l : List Sp} {f : List Bool} (hk : Keys l) (hs : Some_ xs len l) (hg : Gone f l) :
    (dueL l 255).2.length = l.length ∧ ∀ i, i < (dueL l 255).2.length → ∃ k : Nat, k < len ∧ (dueL l 255).2[i]?.getD 0 = (k : Int) ∧ f[k]?.getD false = false := by
  have e1 := due_left 255 _ hk
  have e2 := due_count 255 _ hk
  have hsm : ∀ s ∈ l, 0 ≤ s.2 ∧ s.2 ≤ 255 ∧ 0 ≤ s.1 ∧ s.1 < (len : Int) := fun s h => by
    have h1 := hs s h
    have h3 := atTo_mem h1
    simp only [atTo, List.mem_map, List.mem_range] at h1
    obtain ⟨i, hi, rfl⟩ := h1
    have := hx.at_ i
    exact ⟨this.1, this.2, h3.1, h3.2⟩
  rw [List.filter_eq_nil_iff.2 (fun s h => by have := hsm s h; simp; omega)] at e1
  rw [e1] at e2
  refine ⟨by simpa using e2, fun i hi => ?_⟩
  obtain ⟨s, h, e, _⟩ := due_mem 255 _ hk _ (List.getElem_mem hi)
  have h4 := hsm s h
  refine ⟨s.1.toNat, by omega, by rw [List.getElem?_eq_getElem hi, Option.getD_some, ← e]; omega, ?_⟩
  rw [Bool.eq_false_iff]
  exact fun h5 => hg _ h5 s h (by omega)

theorem Try.info4 : (Try.prog.info? 4).map (fun i => (i.zero, i.size, i.bytes)) = some (some (.bool false), 1, 1) := by kernel_rfl

set_option maxRecDepth 100000 in
set_option maxHeartbeats 2000000 in
theorem drops_walk (T : TimerOK QR) (A : Option Addr) (len cap : Nat) (xs : List Int) (A2 : Option Addr) (len2 cap2 : Nat) (ys : List Int) (w : World) (hlen : xs.length = len) (hxs : AllB xs) (hby : Bytes w w.heap.size (.slice A len cap) xs)
    (hlen2 : ys.length = len2) (hys : AllB ys) (hby2 : Bytes w w.heap.size (.slice A2 len2 cap2) ys) (h2 : len2 ≤ 140737488355328) :
    Calls Try.prog 9 #[.slice A len cap, .slice A2 len2 cap2] w fun e w' => e = .returned (.bool true) ∧ Below w.heap.size w w' := by
  have HT := Lib.hid T
  by_cases hlong : 60 < len
  · have d0 : decide (60 < (len : Int)) = true := decide_eq_true (by omega)
    clear hlen hby hlen2 hby2
    go_enter Try.func9, Try.ntmps9
    go_wp2_with (go_at_call 10; refine (known_any HT.out _).mono ?_; rintro e w1 ⟨rfl, hB⟩)
    go_ret
    exact ⟨rfl, hB⟩
  have d0 : decide (60 < (len : Int)) = false := decide_eq_false (by omega)
  have hle : len ≤ 60 := by omega
  obtain ⟨A', c', e, _, _, hr⟩ := hby
  rw [hlen] at e
  cases e
  obtain ⟨A', c', e, _, _, hr2⟩ := hby2
  rw [hlen2] at e
  cases e
  have H := Lib.hid hr
  have HN := Lib.hid hlen
  have HA := Lib.hid hxs
  have H2 := Lib.hid hr2
  have HN2 := Lib.hid hlen2
  have HA2 := Lib.hid hys
  clear T hr hlen hxs hr2 hlen2 hys
  have hmk : ∀ w : World, (Instr.makeSlice 51 (.int .i64 256) (.int .i64 256)).run Try.prog w = .ok (.slice (some ⟨w.heap.size, 0, none⟩) 256 256) (w.alloc (.cells (madeCells #[.bool false] 256) 4)) := run_make_row' (P := Try.prog) 51 4 (.bool false) 1 Try.underlying51 Try.info4 rfl .i64 .i64 256 (by omega) (by omega)
  go_enter Try.func9, Try.ntmps9
  go_wp2_with fail
  refine (HT.out.new w).mono ?_
  rintro e w1 ⟨q, S1, rfl, hq1, hg1⟩
  have HQ1 := Lib.hid hq1
  have HG1 := Lib.hid hg1
  clear hq1 hg1
  go_wp2_with fail
  go_loopw [6] (fun i wr => ∃ (t : Nat) (S : Nat → Prop), t ≤ len ∧ i = .int .i64 t ∧ QR wr S q (atTo xs t) ∧ Grows (fun _ => False) S w wr) (fun i _ => len - (intOf i).toNat)
  case atStart => exact ⟨0, S1, by omega, rfl, HQ1.out, HG1.out⟩
  case round =>
    obtain ⟨t, S, ht, rfl, hq, hg⟩ := hrel
    have HQ := Lib.hid hq
    have HG := Lib.hid hg
    have hB := hg.new_below
    clear hq hg
    by_cases hlt : t < len
    · obtain ⟨bb, off, rfl, hbb, hcell⟩ := H.out (by rw [HN.out]; omega)
      have hc0 := (hB.cell (p := ⟨bb, off + t, none⟩) hbb).trans (hcell t (by rw [HN.out]; exact hlt))
      have hx := HA.out.at_ t
      have HS := Lib.hid (set_at xs (t := t) (by omega))
      clear hcell
      generalize xs[t]?.getD 0 = x at *
      go_wp2_with fail
      refine (HT.out.set t x HQ.out ⟨by omega, by omega⟩ ⟨by omega, by omega⟩).mono ?_
      rintro e w3 ⟨rfl, S3, hq3, hg3⟩
      rw [HS.out.1] at hq3
      have HQ3 := Lib.hid hq3
      have HG3 := Lib.hid (HG.out.trans hg3)
      clear hq3 hg3
      go_wp2_with fail
      go_roundw
      case rel => exact ⟨t + 1, S3, by omega, by go_num, HQ3.out, HG3.out⟩
      case measure => simp [intOf]; omega
    · obtain rfl : t = len := by omega
      have hAl : Below wr.heap.size wr (wr.alloc (.cells (madeCells #[Value.bool false] 256) 4)) := (Below.refl _ _).alloc (Nat.le_refl _) _
      have HF : Hid (RowF (wr.alloc (.cells (madeCells #[Value.bool false] 256) 4)) wr.heap.size (List.replicate 256 false)) := Lib.hid (RowF.made wr 256)
      have HQ0 := Lib.hid (HT.out.on HQ.out hAl)
      have HG0 := Lib.hid (HG.out.trans (Grows.same (S := S) hAl))
      have HLt : Hid (¬ S wr.heap.size) := Lib.hid (fun h => by have := HT.out.lt HQ.out _ h; omega)
      have hsz := hB.size
      clear hAl
      go_wp2_with fail
      generalize (wr.alloc (.cells (madeCells #[Value.bool false] 256) 4)) = W0 at *
      obtain ⟨g, hg⟩ : ∃ g, g = wr.heap.size := ⟨_, rfl⟩
      have hgw : w.heap.size ≤ g := by omega
      rw [← hg] at HF HLt ⊢
      clear hg hsz
      go_loopw [8, 9] (fun nv i wx => ∃ (d n : Nat) (R : Nat → Prop) (cur : List Sp) (f : List Bool), d ≤ len2 ∧ i = .int .i64 d ∧ nv = .int .i64 n ∧ n + cur.length = t ∧ QR wx R q cur ∧ Grows (fun _ => False) R w wx ∧ RowF wx g f ∧ f.length = 256 ∧ ¬ R g ∧ Some_ xs t cur ∧ Gone f cur) (fun _ i _ => len2 - (intOf i).toNat)
      case atStart => exact ⟨0, 0, S, atTo xs t, List.replicate 256 false, by omega, rfl, rfl, by rw [atTo_length]; omega, HQ0.out, HG0.out, HF.out, List.length_replicate, HLt.out, fun _ h => h, Gone.start _ _⟩
      case round =>
        obtain ⟨d, n, R, cur, f, hd, rfl, rfl, hnc, hq, hg, hf, hfl, hR, hso, hgo⟩ := hrel
        have HQx := Lib.hid hq
        have HGx := Lib.hid hg
        have HFx := Lib.hid hf
        have HFl := Lib.hid hfl
        have HRx := Lib.hid hR
        have HSo := Lib.hid hso
        have HGo := Lib.hid hgo
        have HNc := Lib.hid hnc
        have hBx := hg.new_below
        clear hq hg hf hfl hR hso hgo
        have hn60 : n ≤ 60 := by omega
        clear hnc
        by_cases hgo : d < len2 ∧ d < 100
        · obtain ⟨hd2, hd1⟩ := hgo
          have d2 : decide ((d : Int) < (len2 : Int)) = true := decide_eq_true (by omega)
          have d3 : decide ((d : Int) < 100) = true := decide_eq_true (by omega)
          obtain ⟨bb, off, rfl, hbb, hcell⟩ := H2.out (by rw [HN2.out]; omega)
          have u0 := hcell d (by rw [HN2.out]; exact hd2)
          have hc0 := (hBx.cell (p := ⟨bb, off + d, none⟩) hbb).trans u0
          have hyb := HA2.out.at_ d
          obtain ⟨y, hy⟩ : ∃ y : Nat, ys[d]?.getD 0 = (y : Int) := ⟨(ys[d]?.getD 0).toNat, by omega⟩
          have hy2 : y < 256 := by omega
          clear hyb
          rw [hy] at hc0 u0
          have HU := Lib.hid u0
          clear hcell u0 hy
          go_wp2_with fail
          refine (HT.out.drop (y : Int) HQx.out ⟨by omega, by omega⟩).mono ?_
          rintro e w3 ⟨rfl, R3, hq3, hg3⟩
          have HQ3 := Lib.hid hq3
          have HG3 := Lib.hid (HGx.out.trans hg3)
          have HF3 := Lib.hid (HFx.out.of_block (hg3.block _ HFx.out.lt HRx.out))
          have HR3 : Hid (¬ R3 g) := Lib.hid (fun h => (hg3.own g h).elim HRx.out (fun h2 => by have := HFx.out.lt; omega))
          have hc1 := (HG3.out.new_below.cell (p := ⟨bb, off + d, none⟩) hbb).trans HU.out
          clear hq3 hg3
          by_cases hdr : (dropL cur y).length < cur.length
          · rw [decide_eq_true hdr]
            have HD1 := Lib.hid (drop_less_one (HT.out.keys HQx.out) hdr)
            have hcs := HF3.out.cell (j := y) (by rw [HFl.out]; omega)
            have hfs := HF3.out.frozen y
            have HRel : Hid (n + 1 + (dropL cur y).length = t ∧ QR (w3.setCell ⟨g, y, none⟩ (.bool true)) R3 q (dropL cur y) ∧ Grows (fun _ => False) R3 w (w3.setCell ⟨g, y, none⟩ (.bool true)) ∧ RowF (w3.setCell ⟨g, y, none⟩ (.bool true)) g (f.set y true) ∧ (f.set y true).length = 256 ∧ ¬ R3 g ∧ Some_ xs t (dropL cur y) ∧ Gone (f.set y true) (dropL cur y)) := Lib.hid
              ⟨by have := HD1.out; have := HNc.out; omega, HT.out.frame HQ3.out (by rw [nblk_setCell]; exact Nat.le_refl _) (fun k hk => blk_setCell_other _ _ _ _ (fun e => HR3.out (by have e2 : k = g := e; rw [← e2]; exact hk))), HG3.out.set_ hgw _ _, HF3.out.set _ _, by rw [List.length_set]; exact HFl.out, HR3.out, HSo.out.drop _, HGo.out.set _⟩
            clear hdr
            go_wp2_with fail
            go_roundw
            case rel => exact ⟨d + 1, n + 1, R3, dropL cur y, f.set y true, by omega, by go_num, by go_num, HRel.out⟩
            case measure => simp [intOf]; omega
          · rw [decide_eq_false hdr]
            have HRel : Hid (n + (dropL cur y).length = t ∧ QR w3 R3 q (dropL cur y) ∧ Grows (fun _ => False) R3 w w3 ∧ RowF w3 g f ∧ f.length = 256 ∧ ¬ R3 g ∧ Some_ xs t (dropL cur y) ∧ Gone f (dropL cur y)) := Lib.hid
              ⟨by have := dropL_length cur y; have := HNc.out; omega, HQ3.out, HG3.out, HF3.out, HFl.out, HR3.out, HSo.out.drop _, HGo.out.drop _⟩
            clear hdr
            go_wp2_with fail
            go_roundw
            case rel => exact ⟨d + 1, n, R3, dropL cur y, f, by omega, by go_num, rfl, HRel.out⟩
            case measure => simp [intOf]; omega
        · have HDu := Lib.hid (drops_due HA.out (len := t) (l := cur) (f := f) (HT.out.keys HQx.out) HSo.out HGo.out)
          obtain ⟨m, hm⟩ : ∃ m, m = (dueL cur 255).2 := ⟨_, rfl⟩
          rw [← hm] at HDu
          obtain ⟨c, hc⟩ : ∃ c, c = cur.length := ⟨_, rfl⟩
          have hct : n + c = t := by rw [hc]; exact HNc.out
          have HMl : Hid (m.length = c) := Lib.hid (by rw [hc]; exact HDu.out.1)
          have HAt := Lib.hid HDu.out.2
          have HM := Lib.hid hm
          clear hc hm HDu
          have hends : (d = len2) ∨ (d < len2 ∧ 100 ≤ d) := by omega
          clear hgo
          rcases hends with hend | ⟨hend, hend2⟩
          · have d2 : decide ((d : Int) < (len2 : Int)) = false := decide_eq_false (by omega)
            have d3 : ¬ ((d : Int) < (len2 : Int)) := by omega
            clear hend
            go_wp2_with fail
            refine (HT.out.due 255 HQx.out ⟨by decide, by decide⟩).mono ?_
            rintro e w4 ⟨v, rfl, ⟨R4, hq4, hg4, -⟩, ho4⟩
            rw [← HM.out] at ho4
            obtain ⟨A4, c4, rfl, hc4⟩ := ho4.ints
            have H4 := Lib.hid hc4
            have HB4 := Lib.hid (HGx.out.trans hg4).new_below
            have HF4 := Lib.hid (HFx.out.of_block (hg4.block _ HFx.out.lt HRx.out))
            rw [HMl.out]
            clear hq4 hg4 ho4 hc4
            go_wp2_with fail
            go_loopw [11] (fun i wy => ∃ s : Nat, s ≤ c ∧ i = .int .i64 s ∧ wy = w4) (fun i _ => c - (intOf i).toNat)
            case atStart => exact ⟨0, by omega, rfl, rfl⟩
            case round =>
              obtain ⟨s, hs, rfl, rfl⟩ := hrel
              by_cases hls : s < c
              · obtain ⟨b5, off5, rfl, hb5, hc5⟩ := H4.out (by rw [HMl.out]; omega)
                obtain ⟨k, hk, ek, hkf⟩ := HAt.out s (by rw [HMl.out]; exact hls)
                have u0 := hc5 s (by rw [HMl.out]; exact hls)
                rw [ek] at u0
                have u1 := HF4.out.cell (j := k) (by rw [HFl.out]; omega)
                rw [hkf] at u1
                have d4 : decide ((k : Int) < 0) = false := decide_eq_false (by omega)
                have d5 : decide (255 < (k : Int)) = false := decide_eq_false (by omega)
                clear hc5 ek hkf
                go_wp2_with fail
                go_roundw
                case rel => exact ⟨s + 1, by omega, by go_num, by first | trivial | rfl⟩
                case measure => simp [intOf]; omega
              · obtain rfl : s = c := by omega
                have hw : IntKind.i64.wrap ((t : Int) - (n : Int)) = (s : Int) := by rw [IntWalk.i64_in _ (by omega)]; omega
                have d6 : ((s : Int) == (s : Int)) = true := by simp
                go_wp2_with fail
                refine (known_any HT.out _).mono ?_
                rintro e w7 ⟨rfl, hB7⟩
                have HB7 := Lib.hid (HB4.out.trans (hB7.mono HB4.out.size))
                clear hB7
                go_wp2_with fail
                go_ret
                exact ⟨rfl, HB7.out⟩
          · have d2 : decide ((d : Int) < (len2 : Int)) = true := decide_eq_true (by omega)
            have d3 : decide ((d : Int) < 100) = false := decide_eq_false (by omega)
            go_wp2_with fail
            refine (HT.out.due 255 HQx.out ⟨by decide, by decide⟩).mono ?_
            rintro e w4 ⟨v, rfl, ⟨R4, hq4, hg4, -⟩, ho4⟩
            rw [← HM.out] at ho4
            obtain ⟨A4, c4, rfl, hc4⟩ := ho4.ints
            have H4 := Lib.hid hc4
            have HB4 := Lib.hid (HGx.out.trans hg4).new_below
            have HF4 := Lib.hid (HFx.out.of_block (hg4.block _ HFx.out.lt HRx.out))
            rw [HMl.out]
            clear hq4 hg4 ho4 hc4
            go_wp2_with fail
            go_loopw [11] (fun i wy => ∃ s : Nat, s ≤ c ∧ i = .int .i64 s ∧ wy = w4) (fun i _ => c - (intOf i).toNat)
            case atStart => exact ⟨0, by omega, rfl, rfl⟩
            case round =>
              obtain ⟨s, hs, rfl, rfl⟩ := hrel
              by_cases hls : s < c
              · obtain ⟨b5, off5, rfl, hb5, hc5⟩ := H4.out (by rw [HMl.out]; omega)
                obtain ⟨k, hk, ek, hkf⟩ := HAt.out s (by rw [HMl.out]; exact hls)
                have u0 := hc5 s (by rw [HMl.out]; exact hls)
                rw [ek] at u0
                have u1 := HF4.out.cell (j := k) (by rw [HFl.out]; omega)
                rw [hkf] at u1
                have d4 : decide ((k : Int) < 0) = false := decide_eq_false (by omega)
                have d5 : decide (255 < (k : Int)) = false := decide_eq_false (by omega)
                clear hc5 ek hkf
                go_wp2_with fail
                go_roundw
                case rel => exact ⟨s + 1, by omega, by go_num, by first | trivial | rfl⟩
                case measure => simp [intOf]; omega
              · obtain rfl : s = c := by omega
                have hw : IntKind.i64.wrap ((t : Int) - (n : Int)) = (s : Int) := by rw [IntWalk.i64_in _ (by omega)]; omega
                have d6 : ((s : Int) == (s : Int)) = true := by simp
                go_wp2_with fail
                refine (known_any HT.out _).mono ?_
                rintro e w7 ⟨rfl, hB7⟩
                have HB7 := Lib.hid (HB4.out.trans (hB7.mono HB4.out.size))
                clear hB7
                go_wp2_with fail
                go_ret
                exact ⟨rfl, HB7.out⟩

end Go.Proofs.Ytlhfgiffdfcplaa
