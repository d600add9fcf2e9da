/-
  The walk of layer 3's law BitsSets: it returns true, and writes nothing that was there.
-/
import Derived.Test.YtdphkgknjgdjoaaBitsSetsFacts
import Derived.Deep.QuietTactic
import Derived.BigQuiet
namespace Go.Proofs.Ytdphkgknjgdjoaa
open Go.RowKit Go.Deep

theorem Try.info4 : (Try.prog.info? 4).map (fun i => (i.zero, i.size, i.bytes)) = some (some (.bool false), 1, 1) := by kernel_rfl
theorem q_get (v : Value) (l : List Int) (B : Nat) (i : Nat) (q : Bool) (w : World) (k : Nat) (h : Bytes (w.drewN k) B v l) (hl : AllB l) (h1 : i ≤ 1000000000000) (hq : bt l i = q) :
    Calls Try.prog 19 #[v, .int .i64 (i : Nat)] (w.drewN k) fun e w' => e = .returned (.bool q) ∧ ∃ m, w' = w.drewN m :=
  Calls.quiet_of_same ((bget_any v l B (i : Nat) _ h hl (by omega) (by omega)).mono fun _ _ ⟨h1, h2⟩ => ⟨by rw [h1, getB_nat, hq], h2.symm⟩)
theorem Bytes.drewN {w : World} {B : Nat} {v : Value} {l : List Int} (h : Bytes w B v l) (k : Nat) : Bytes (w.drewN k) B v l := h

set_option maxRecDepth 100000 in
set_option maxHeartbeats 4000000 in
theorem sets_walk (m : Nat) (A : Option Addr) (len cap : Nat) (l : List Int) (w : World) (hm : m < 256) (hlen : l.length = len) (hl : AllB l) (hb : Bytes w w.heap.size (.slice A len cap) l) :
    Calls Try.prog 5 #[.slice A len cap, .int .u8 m] w fun e w' => e = .returned (.bool true) ∧ Below w.heap.size w w' := by
  have HB := Lib.hid hb
  have HL := Lib.hid hlen
  by_cases hlong : 60 < len
  · clear hb hlen
    go_enter Try.func5, Try.ntmps5
    go_wp2_with (go_at_call 10; refine (known_any _).mono ?_; rintro e w1 ⟨rfl, hB⟩)
    go_ret
    exact ⟨rfl, hB⟩
  · obtain ⟨M, hM⟩ : ∃ M, makeN (m : Nat) = M := ⟨_, rfl⟩
    have hM2 : M = (m + 7) / 8 := by rw [← hM]; exact makeN_nat (by omega)
    have HM := Lib.hid hM
    have HM2 := Lib.hid hM2
    have hM3 : M ≤ 40 := by omega
    have hM4 : m ≤ 8 * M := by omega
    have HA := Lib.hid hl
    have HT := Lib.hid (fun t h => setTo_is M l t h)
    have HTS := Lib.hid (fun t (h : t < l.length) => setTo_succ M (l := l) (t := t) h)
    have HTZ := Lib.hid (setTo_zero M l)
    have HC := Lib.hid (fun t h => allTo_is M t h)
    have HCS := Lib.hid (allTo_succ M)
    have hmk : ∀ w : World, (Instr.makeSlice 30 (.int .i64 256) (.int .i64 256)).run Try.prog w = .ok (.slice (some ⟨w.heap.size, 0, none⟩) 256 256) (w.alloc (.cells (madeCells #[.bool false] 256) 4)) := run_make_row' (P := Try.prog) 30 4 (.bool false) 1 Try.underlying30 Try.info4 rfl .i64 .i64 256 (by omega) (by omega)
    clear hb hlen hM hM2 hl
    go_enter Try.func5, Try.ntmps5
    go_wp2_with fail
    refine (bmake_row _ _).mono ?_
    rintro e w1 ⟨rfl, hr1, hB1⟩
    rw [HM.out] at hr1 ⊢
    have HY1 : Hid (Bytes w1 w1.heap.size (.slice (some ⟨w.heap.size, 0, none⟩) M M) (List.replicate M 0)) := Lib.hid (by have := hr1.bytes (c := M) (by simp) (by omega); rwa [List.length_replicate] at this)
    clear hr1
    have hmade := World.rowIs_made w1 (.bool false) 256 4
    have hB2 : Below w1.heap.size w1 (w1.alloc (.cells (madeCells #[Value.bool false] 256) 4)) := (Below.refl _ _).alloc (Nat.le_refl _) _
    have HY2 := Lib.hid (HY1.out.on hB2)
    have HB2 := Lib.hid (bseq hB1 hB2)
    have HRM : Hid ((w1.alloc (.cells (madeCells #[Value.bool false] 256) 4)).rowIs w1.heap.size 4 256 (fun j => .bool (bt (setTo M l 0) j))) := Lib.hid (hmade.congr (fun j _ => by rw [HTZ.out, bt_zeros]))
    have HC0 : Hid (0 = cntL (setTo M l 0)) := Lib.hid (by rw [HTZ.out, cnt_zeros])
    have hsz := hB1.size
    clear hmade hB2 HY1
    go_wp2_with fail
    obtain ⟨g, hg⟩ : ∃ g, g = w1.heap.size := ⟨_, rfl⟩
    have hgw : w.heap.size ≤ g := by omega
    rw [← hg] at HRM ⊢
    clear hg
    go_loopw [6, 8, 9] (fun b s i wr => ∃ t : Nat, t ≤ len ∧ i = .int .i64 t ∧ s = .int .i64 (cntL (setTo M l t) : Nat) ∧ Bytes wr wr.heap.size b (setTo M l t) ∧ wr.rowIs g 4 256 (fun j => .bool (bt (setTo M l t) j)) ∧ Below w.heap.size w wr) (fun _ _ i _ => len - (intOf i).toNat)
    case atStart => exact ⟨0, by omega, rfl, by rw [← HC0.out]; rfl, by rw [HTZ.out]; exact HY2.out, HRM.out, HB2.out⟩
    case round =>
      clear HRM HC0 HY2 HB2 HTZ
      obtain ⟨t, ht, rfl, rfl, hby, hrow, hB⟩ := hrel
      obtain ⟨T1, T2⟩ := HT.out t (by rw [HL.out]; exact ht)
      have hcn := cntL_le (setTo M l t)
      rw [T1] at hcn
      have HT2 := Lib.hid T2
      have HT1 := Lib.hid T1
      obtain ⟨Ab, cb, rfl⟩ := hby.form T1
      have HBy := Lib.hid hby
      clear T1 T2 hby
      by_cases hlt : t < len
      · have HS := Lib.hid (HTS.out t (by rw [HL.out]; exact hlt))
        obtain ⟨x, hx, hx2⟩ := AllB_nat HA.out t
        rw [hx] at HS
        obtain ⟨Aa, ca, ea, _, _, hra⟩ := (HB.out.below hB (Nat.le_refl _))
        injection ea with e1 e2 e3
        subst e1
        obtain ⟨ba, offa, rfl, hba, hca⟩ := hra (by rw [HL.out]; omega)
        have hc0 := hca t (by rw [HL.out]; exact hlt)
        rw [hx] at hc0
        clear hca hra e2 e3 hx
        generalize setTo M l t = bs at *
        go_wp2_with fail
        refine (bset_row _ bs (x : Nat) wr HBy.out HT2.out (by rw [HT1.out]; omega) (by omega) (by omega)).mono ?_
        rintro e w3 ⟨rfl, hr3, hB3⟩
        rw [HT1.out]
        have hglt := hrow.lt
        have HY3 := Lib.hid (hr3.whole ((setL_length _ _).trans HT1.out) (by omega))
        have HY4 := Lib.hid ((hr3.other (g' := g) (by omega) x (.bool true)).whole ((setL_length _ _).trans HT1.out) (by omega))
        have hc1 := (hB3.cell (p := ⟨ba, offa + t, none⟩) (by show ba < wr.heap.size; have := hB.size; omega)).trans hc0
        have hrow3 := hrow.of_block (hB3.block g hrow.lt)
        have hB4 : Below w.heap.size w w3 := hB.trans (hB3.mono hB.size)
        have HR3 := Lib.hid hrow3
        have hcs := hrow3.cell hx2
        have hfs := hrow3.frozen x
        clear hr3 hc0 hrow hrow3 hglt
        have hmm := HM2.out
        by_cases hin : x / 8 < M
        · have d1 : (x : Int) / 8 < ((m : Int) + 7) / 8 := by omega
          clear hmm
          cases hbit : bt bs x with
          | true =>
            have HO := Lib.hid (set_old HT2.out hbit)
            rw [HO.out] at HY3 HS
            rw [hbit] at hcs
            clear hbit
            go_wp2_with fail
            go_roundw
            case rel => exact ⟨t + 1, by omega, by go_num, by rw [HS.out], by rw [HS.out]; exact HY3.out, by rw [HS.out]; exact HR3.out, hB4⟩
            case measure => simp [intOf]; omega
          | false =>
            obtain ⟨o1, o2⟩ := set_new HT2.out HT1.out hin hbit
            have HO1 := Lib.hid o1
            have HO2 := Lib.hid o2
            rw [hbit] at hcs
            clear hbit o1 o2
            go_wp2_with fail
            go_roundw
            case rel => exact ⟨t + 1, by omega, by go_num, by rw [HS.out, HO1.out]; go_num, by rw [HS.out]; exact HY4.out, by rw [HS.out]; exact (HR3.out.set x _).congr (fun j _ => HO2.out j), hB4.setCell (p := ⟨g, x, none⟩) hgw _⟩
            case measure => simp [intOf]; omega
        · have d1 : ¬ (x : Int) / 8 < ((m : Int) + 7) / 8 := by omega
          have HO := Lib.hid (set_out (x := x) HT1.out (by omega))
          rw [HO.out] at HY3 HS
          clear hmm
          go_wp2_with fail
          go_roundw
          case rel => exact ⟨t + 1, by omega, by go_num, by rw [HS.out], by rw [HS.out]; exact HY3.out, by rw [HS.out]; exact HR3.out, hB4⟩
          case measure => simp [intOf]; omega
      · have hge : len ≤ t := by omega
        generalize setTo M l t = bs at *
        generalize hcb : cntL bs = some_ at *
        have HCB := Lib.hid hcb
        clear hcb
        have HRow := Lib.hid hrow
        go_wp2_with fail
        go_loopw [10] (fun i wx => ∃ t : Nat, t ≤ 256 ∧ i = .int .i64 t ∧ ∃ d, wx = wr.drewN d) (fun i _ => 256 - (intOf i).toNat)
        case atStart => exact ⟨0, by omega, rfl, 0, rfl⟩
        case round =>
          obtain ⟨k, hk, rfl, d, rfl⟩ := hrel
          by_cases hk2 : k < 256
          · obtain ⟨W, hW⟩ : ∃ W, wr.drewN d = W := ⟨_, rfl⟩
            have HW := Lib.hid hW
            have HRW : Hid (W.rowIs g 4 256 (fun j => .bool (bt bs j))) := Lib.hid (by rw [← hW]; exact hrow)
            have HYW : Hid (Bytes W wr.heap.size (.slice Ab M cb) bs) := Lib.hid (by rw [← hW]; exact HBy.out)
            rw [hW]
            clear hW hrow
            have hcell := HRW.out.cell hk2
            have HQ : Hid (∀ q, bt bs k = q → ∀ d', Calls Try.prog 19 #[.slice Ab M cb, .int .i64 (k : Nat)] (W.drewN d') fun e w' => e = .returned (.bool q) ∧ ∃ m, w' = W.drewN m) := Lib.hid (fun q hq d' => q_get _ bs wr.heap.size k q _ d' HYW.out HT2.out (by omega) hq)
            clear HRW HYW
            generalize bt bs k = q at *
            have HQ2 := Lib.hid (HQ.out q rfl)
            clear HQ
            cases q with
            | true =>
              go_wp2_with fail
              go_quiet ((go_at_call 19; exact HQ2.out _))
              go_wp2_with fail
              go_roundw
              case rel => exact ⟨k + 1, by omega, by go_num, _, by rw [← HW.out, World.drewN_drewN]⟩
              case measure => simp [intOf]; omega
            | false =>
              go_wp2_with fail
              go_quiet ((go_at_call 19; exact HQ2.out _))
              go_wp2_with fail
              go_roundw
              case rel => exact ⟨k + 1, by omega, by go_num, _, by rw [← HW.out, World.drewN_drewN]⟩
              case measure => simp [intOf]; omega
          · have hge2 : 256 ≤ k := by omega
            have hBd : Below w.heap.size w (wr.drewN d) := below_drewN hB d
            have HYb : Hid (Bytes (wr.drewN d) (wr.drewN d).heap.size (.slice Ab M cb) bs) := HBy
            generalize wr.drewN d = W at *
            clear hrow HBy HRow
            go_wp2_with fail
            refine (bmake_row _ _).mono ?_
            rintro e w4 ⟨rfl, hr4, hB4⟩
            rw [HM.out] at hr4 ⊢
            have HY4 := Lib.hid (hr4.whole (M := M) (by simp) (by omega))
            have hsz4 := hB4.size
            clear hr4
            go_wp2_with fail
            go_loopw [11, 12] (fun c i wx => ∃ t : Nat, t ≤ m ∧ i = .int .i64 t ∧ Bytes wx wx.heap.size c (allTo M t) ∧ Below W.heap.size W wx) (fun _ i _ => m - (intOf i).toNat)
            case atStart => exact ⟨0, by omega, rfl, HY4.out, hB4⟩
            case round =>
              obtain ⟨j, hj, rfl, hby, hBx⟩ := hrel
              obtain ⟨C1, C2, C3⟩ := HC.out j (by omega)
              obtain ⟨Ac, cc, rfl⟩ := hby.form C1
              have HBy := Lib.hid hby
              have HC1 := Lib.hid C1
              have HC2 := Lib.hid C2
              have HC3 := Lib.hid C3
              have HCj := Lib.hid (HCS.out j)
              clear C1 C2 C3 hby
              by_cases hj2 : j < m
              · generalize allTo M j = cj at *
                go_wp2_with fail
                refine (bset_row _ cj (j : Nat) wr HBy.out HC2.out (by rw [HC1.out]; omega) (by omega) (by omega)).mono ?_
                rintro e w5 ⟨rfl, hr5, hB5⟩
                rw [HC1.out]
                have HY5 := Lib.hid (hr5.whole ((setL_length _ _).trans HC1.out) (by omega))
                clear hr5
                go_wp2_with fail
                go_roundw
                case rel => exact ⟨j + 1, by omega, by go_num, by rw [HCj.out]; exact HY5.out, hBx.trans (hB5.mono hBx.size)⟩
                case measure => simp [intOf]; omega
              · obtain rfl : j = m := by omega
                have F1 := Lib.hid (all_cnt (m := j) (by rw [HC1.out]; omega) HC3.out)
                have F2 := Lib.hid (all_first (m := j) (by omega) HC3.out)
                have F3 := Lib.hid (all_right (m := j) (by omega) (HC1.out.trans HM.out.symm) HC3.out)
                clear HC3 HCj
                generalize allTo M j = cj at *
                have HYb2 := Lib.hid (HYb.out.on hBx)
                have HBw : Hid (Below w.heap.size w wr) := Lib.hid (hBd.trans (hBx.mono hBd.size))
                clear HYb hBx hBd
                go_wp2_with fail
                refine (known_any _).mono ?_
                rintro e w6 ⟨rfl, hB6⟩
                go_wp2_with fail
                refine (bcount_any _ bs _ _ (HYb2.out.on hB6) HT2.out (by rw [HT1.out]; omega)).mono ?_
                rintro e w' ⟨rfl, rfl⟩
                rw [HCB.out]
                go_wp2_with fail
                refine (bfirst_any _ cj (j : Nat) _ (HBy.out.on hB6) HC2.out (by rw [HC1.out]; omega)).mono ?_
                rintro e w7 ⟨rfl, hB7⟩
                rw [F2.out]
                go_wp2_with fail
                refine (bcount_any _ cj _ _ (HBy.out.on (bseq hB6 hB7)) HC2.out (by rw [HC1.out]; omega)).mono ?_
                rintro e w' ⟨rfl, rfl⟩
                rw [F1.out]
                go_wp2_with fail
                refine (bright_any _ cj (j : Nat) _ (HBy.out.on (bseq hB6 hB7)) HC2.out).mono ?_
                rintro e w8 ⟨rfl, hB8⟩
                rw [F3.out]
                go_wp2_with fail
                go_ret
                exact ⟨rfl, HBw.out.trans ((bseq hB6 (bseq hB7 hB8)).mono HBw.out.size)⟩

end Go.Proofs.Ytdphkgknjgdjoaa
