/-
  Layer 4, the document's Holes and Has.
-/
import Derived.Test.YtmjgpgibifceeaaSpanNorm
namespace Go.Proofs.Ytmjgpgibifceeaa
open Go.RowKit Go.Deep

theorem app_below {w0 W w' : World} {base : Nat} {v v' : Value} {out : List Sp} {x y : Int} (hown : OwnS W base v out) (hb : base = w0.heap.size) (hB : Below w0.heap.size w0 W) (hg : (W.alloc (.cells #[.int .i64 x, .int .i64 y] 24)).grownBy w' v.ownBlock) (ho' : OwnS w' base v' (out ++ [(x, y)])) :
    OwnS w' base v' (out ++ [(x, y)]) ∧ Below w0.heap.size w0 w' := by
  subst hb
  refine ⟨ho', (hB.alloc hB.size _).grown hg (by have := hB.size; simp; omega) (fun k e => (World.ownsRow.lt hown k e).1)⟩
theorem holes_skip {t : Sp} {l : List Sp} {a to : Int} (h : t.2 ≤ a ∨ to ≤ t.1) : holesGo (t :: l) a to = holesGo l a to := by rw [holesGo, if_pos h]
theorem holes_lay {t : Sp} {l : List Sp} {a to : Int} (h1 : ¬ t.2 ≤ a) (h2 : ¬ to ≤ t.1) (h3 : a < t.1) : holesGo (t :: l) a to = (a, t.1) :: holesGo l t.2 to := by rw [holesGo, if_neg (by omega), if_pos h3]
theorem holes_move {t : Sp} {l : List Sp} {a to : Int} (h1 : ¬ t.2 ≤ a) (h2 : ¬ to ≤ t.1) (h3 : ¬ a < t.1) : holesGo (t :: l) a to = holesGo l t.2 to := by rw [holesGo, if_neg (by omega), if_neg h3]

set_option maxRecDepth 100000 in
set_option maxHeartbeats 4000000 in
theorem rholes_any (v : Value) (l : List Sp) (p q : Int) (w : World) (h : Spans w w.heap.size v l) (hl : AllS l) (hlen : l.length ≤ 1000000) (p0 : -9223372036854775808 ≤ p) (p1 : p ≤ 9223372036854775807) :
    Calls Try.prog 24 #[v, .agg #[.int .i64 p, .int .i64 q]] w fun e w' => ∃ v', e = .returned v' ∧ OwnS w' w.heap.size v' (holesL l (p, q)) ∧ Below w.heap.size w w' := by
  have HSp := Lib.hid h
  have HA := Lib.hid hl
  have hnl := normL_length hl
  obtain ⟨A0, c0, rfl, -⟩ := h.parts
  have HLe := Lib.hid hlen
  have hbx := Box2.new w p q
  have HBX := Lib.hid hbx
  obtain ⟨cc0, cc1⟩ := hbx.cells
  have hB0 : Below w.heap.size w (w.alloc (.cells #[.int .i64 p, .int .i64 q] 24)) := (Below.refl _ _).alloc (Nat.le_refl _) _
  have HSp0 := Lib.hid (HSp.out.on hB0)
  have hsz0 : (w.alloc (.cells #[.int .i64 p, .int .i64 q] 24)).heap.size = w.heap.size + 1 := by simp
  have HSZ := Lib.hid hsz0
  clear h hl hlen hbx hsz0
  go_enter Try.func24, Try.ntmps24
  go_wp2_with fail
  refine (rnorm_any _ l _ HSp0.out HA.out HLe.out).mono ?_
  rintro e w2 ⟨v2, rfl, ho2, hB2⟩
  have hAn := normL_all HA.out
  obtain ⟨A, c, rfl, hc, hm, hr⟩ := ho2.spans
  have hB3 : Below w.heap.size w w2 := hB0.trans (hB2.mono (by simp))
  have hbx2 : Box2 w2 w.heap.size p q := HBX.out.of_block (hB2.block _ (by rw [HSZ.out]; omega))
  have hlt2 := hbx2.lt
  have HBX2 := Lib.hid hbx2
  obtain ⟨len, hn⟩ : ∃ n, n = (normL l).length := ⟨_, rfl⟩
  have H := Lib.hid hr
  have HN := Lib.hid hn
  have HAn := Lib.hid hAn
  have hE : holesL l (p, q) = holesGo (normL l) p q := rfl
  have HE := Lib.hid hE
  rw [← hn] at hnl ⊢
  have hnl2 : len ≤ 1000000 := by have := HLe.out; omega
  clear hE hr hn hAn ho2 hbx2 cc0 cc1 hB2 hB0 hc HBX
  generalize normL l = n at *
  obtain ⟨cc0, cc1⟩ := HBX2.out.cells
  go_wp2_with fail
  go_loopw [6, 7, 8] (fun o a i wr => ∃ (t : Nat) (out : List Sp) (at_ : Int), t ≤ len ∧ i = .int .i64 t ∧ a = .int .i64 at_ ∧ OwnS wr w2.heap.size o out ∧ (out.length ≤ t ∧ -9223372036854775808 ≤ at_ ∧ at_ ≤ 9223372036854775807) ∧ out ++ holesGo (n.drop t) at_ q = holesGo n p q ∧ Below w2.heap.size w2 wr) (fun _ _ i _ => len - (intOf i).toNat)
  case atStart => exact ⟨0, [], p, by omega, rfl, rfl, OwnS.nil _ _, ⟨by simp, p0, p1⟩, rfl, Below.refl _ _⟩
  case round =>
    clear cc0 cc1
    obtain ⟨t, out, at_, ht, rfl, rfl, hown, ⟨hol, a0, a1⟩, hh, hB⟩ := hrel
    have HO := Lib.hid hown
    have HH := Lib.hid hh
    have cc0 := (hB.cell (p := ⟨w.heap.size, 0, none⟩) hlt2).trans HBX2.out.cells.1
    have cc1 := (hB.cell (p := ⟨w.heap.size, 1, none⟩) hlt2).trans HBX2.out.cells.2
    clear hown hh
    by_cases hlt : t < len
    · obtain ⟨b, off, rfl, hb, hc⟩ := H.out (by rw [← HN.out]; omega)
      obtain ⟨u0, u1⟩ := hc t (by rw [← HN.out]; exact hlt)
      have hc0 := (hB.cell (p := ⟨b, off + t * 2, none⟩) hb).trans u0
      have hc1 := (hB.cell (p := ⟨b, off + t * 2 + 1, none⟩) hb).trans u1
      obtain ⟨k1, k2, k3, k4⟩ := HAn.out.at_ t
      have HD := Lib.hid (drop_cons (l := n) (t := t) (by rw [← HN.out]; exact hlt))
      rw [HD.out] at HH
      clear hc u0 u1 HD
      obtain ⟨u, hu⟩ : ∃ u, n[t]?.getD (0, 0) = u := ⟨_, rfl⟩
      rw [hu] at hc0 hc1 k1 k2 k3 k4 HH
      clear hu
      obtain ⟨x, y⟩ := u
      simp only at hc0 hc1 k1 k2 k3 k4
      by_cases h1 : y ≤ at_
      · have d1 : decide (y ≤ at_) = true := decide_eq_true h1
        have HH2 : Hid (out ++ holesGo (n.drop (t + 1)) at_ q = holesGo n p q) := Lib.hid (by rw [← HH.out, holes_skip (.inl h1)])
        go_wp2
        go_quiet (fail)
        have hO2 : OwnS (wr.drewN nq) w2.heap.size _ out := HO.out
        have HO2 := Lib.hid hO2
        have hB2 : Below w2.heap.size w2 (wr.drewN nq) := below_drewN hB nq
        clear hO2
        go_wp2
        go_roundw
        case rel => exact ⟨t + 1, out, at_, by omega, by go_num, rfl, HO2.out, ⟨by omega, a0, a1⟩, HH2.out, hB2⟩
        case measure => simp [intOf]; omega
      · have d1 : decide (y ≤ at_) = false := decide_eq_false h1
        by_cases h2 : q ≤ x
        · have d2 : decide (q ≤ x) = true := decide_eq_true h2
          have HH2 : Hid (out ++ holesGo (n.drop (t + 1)) at_ q = holesGo n p q) := Lib.hid (by rw [← HH.out, holes_skip (.inr h2)])
          go_wp2
          go_quiet (fail)
          have hO2 : OwnS (wr.drewN nq) w2.heap.size _ out := HO.out
          have HO2 := Lib.hid hO2
          have hB2 : Below w2.heap.size w2 (wr.drewN nq) := below_drewN hB nq
          clear hO2
          go_wp2
          go_roundw
          case rel => exact ⟨t + 1, out, at_, by omega, by go_num, rfl, HO2.out, ⟨by omega, a0, a1⟩, HH2.out, hB2⟩
          case measure => simp [intOf]; omega
        · have d2 : decide (q ≤ x) = false := decide_eq_false h2
          by_cases h3 : at_ < x
          · have d3 : decide (at_ < x) = true := decide_eq_true h3
            have HH2 : Hid ((out ++ [(at_, x)]) ++ holesGo (n.drop (t + 1)) y q = holesGo n p q) := Lib.hid (by rw [← HH.out, holes_lay h1 h2 h3]; simp)
            go_wp2
            go_quiet (fail)
            have hO2 : OwnS (wr.drewN nq) w2.heap.size _ out := HO.out
            have hB2 : Below w2.heap.size w2 (wr.drewN nq) := below_drewN hB nq
            have hd0 : (wr.drewN nq).cell? ⟨b, off + t * 2, none⟩ = some (.int .i64 x) := hc0
            have hd1 : (wr.drewN nq).cell? ⟨b, off + t * 2 + 1, none⟩ = some (.int .i64 y) := hc1
            generalize wr.drewN nq = W at *
            clear HO hc0 hc1 hB cc0 cc1
            obtain ⟨v', w', hrun, ho', hg'⟩ := append_span W w2.heap.size 22 _ out at_ x hO2 (by omega) hB2.size
            have HRun := Lib.hid hrun
            obtain ⟨f1, f2⟩ := app_below hO2 rfl hB2 hg' ho'
            have HF1 := Lib.hid f1
            have he1 : w'.cell? ⟨b, off + t * 2 + 1, none⟩ = some (.int .i64 y) := (f2.cell (p := ⟨b, off + t * 2 + 1, none⟩) hb).trans ((hB2.cell (p := ⟨b, off + t * 2 + 1, none⟩) hb).symm.trans hd1)
            clear hrun ho' hg' f1
            go_wp2_with (at_builtin; refine Lib.wpList_append_run _ rfl _ _ _ _ rfl _ _ rfl rfl _ _ HRun.out ?_)
            go_roundw
            case rel => exact ⟨t + 1, out ++ [(at_, x)], y, by omega, by go_num, rfl, HF1.out, ⟨by simp; omega, by omega, by omega⟩, HH2.out, f2⟩
            case measure => simp [intOf]; omega
          · have d3 : decide (at_ < x) = false := decide_eq_false h3
            have HH2 : Hid (out ++ holesGo (n.drop (t + 1)) y q = holesGo n p q) := Lib.hid (by rw [← HH.out, holes_move h1 h2 h3])
            go_wp2
            go_quiet (fail)
            have hO2 : OwnS (wr.drewN nq) w2.heap.size _ out := HO.out
            have HO2 := Lib.hid hO2
            have hB2 : Below w2.heap.size w2 (wr.drewN nq) := below_drewN hB nq
            clear hO2
            go_wp2
            go_roundw
            case rel => exact ⟨t + 1, out, y, by omega, by go_num, rfl, HO2.out, ⟨by omega, by omega, by omega⟩, HH2.out, hB2⟩
            case measure => simp [intOf]; omega
    · obtain rfl : t = len := by omega
      have hdr : n.drop t = [] := List.drop_eq_nil_of_le (by rw [← HN.out]; exact Nat.le_refl _)
      rw [hdr, holesGo] at HH
      clear hdr
      have hBw : Below w.heap.size w wr := hB3.trans (hB.mono (Nat.le_of_lt hlt2))
      by_cases h1 : at_ < q
      · have HH2 : Hid (out ++ [(at_, q)] = holesGo n p q) := Lib.hid (by rw [← HH.out, if_pos h1])
        obtain ⟨v', w', hrun, ho', hg'⟩ := append_span wr w2.heap.size 22 _ out at_ q HO.out (by omega) hB.size
        have HRun := Lib.hid hrun
        obtain ⟨f1, f2⟩ := app_below HO.out rfl hB hg' ho'
        have HF1 := Lib.hid f1
        clear hrun ho' hg' f1
        go_wp2_with (at_builtin; refine Lib.wpList_append_run _ rfl _ _ _ _ rfl _ _ rfl rfl _ _ HRun.out ?_)
        go_ret
        exact ⟨_, rfl, by rw [HE.out, ← HH2.out]; exact HF1.out.base (Nat.le_of_lt hlt2), hB3.trans (f2.mono (Nat.le_of_lt hlt2))⟩
      · have HH2 : Hid (out = holesGo n p q) := Lib.hid (by rw [← HH.out, if_neg h1, List.append_nil])
        go_wp2
        go_ret
        exact ⟨_, rfl, by rw [HE.out, ← HH2.out]; exact HO.out.base (Nat.le_of_lt hlt2), hBw⟩

end Go.Proofs.Ytmjgpgibifceeaa
