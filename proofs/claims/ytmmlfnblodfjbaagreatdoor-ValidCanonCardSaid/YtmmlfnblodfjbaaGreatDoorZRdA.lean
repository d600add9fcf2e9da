/-
  Layer 9, the landed package: things in memory; thing, near, pointerTo, Words.
-/
import Derived.Test.YtmmlfnblodfjbaaGreatDoorZRdPlain
import Derived.Test.YtmmlfnblodfjbaaGreatDoorZRsA
import Derived.Test.YtmmlfnblodfjbaaGreatDoorZPtr
import Derived.Test.YtmmlfnblodfjbaaGreatDoorZCut
import Derived.Deep.DeepCutAuto
import Derived.Deep.CutBlock
import Derived.LoopN

namespace Go.Proofs.YtmmlfnblodfjbaaGreatDoor
open Go.RowKit Go.Deep

set_option maxRecDepth 100000 in
set_option maxHeartbeats 400000 in
theorem thing_any (p : Pt) (g a : Int) (w : World) :
    Calls Tryz.prog 165 #[.agg (cellsP p), .int .i64 g, .int .i64 a] w fun e w' => e = .returned (.agg (cellsO (thingO p g a))) ∧ Below w.heap.size w w' := by
  have HB : ∀ cs cs' t t', Below w.heap.size w ((w.alloc (.cells cs t)).alloc (.cells cs' t')) := fun cs cs' t t' => ((Below.refl _ _).alloc (Nat.le_refl _) _).alloc (by simp) _
  unfold cellsP cellsO thingO
  go_enter Tryz.func165, Tryz.ntmps165
  go_wp2_with fail
  refine bodyPost_ret (v := .agg (cellsO (thingO p g a))) ?_ rfl ⟨rfl, HB _ _ _ _⟩
  simp [results, Tryz.f165, go_sem, cellsO, thingO]

set_option maxRecDepth 100000 in
set_option maxHeartbeats 400000 in
theorem ptrto_any (o : Ob) (w : World) :
    Calls Tryz.prog 129 #[.agg (cellsO o)] w fun e w' => e = .returned (.agg (cellsP (ptrO o))) ∧ Below w.heap.size w w' := by
  have HB : ∀ cs cs' t t', Below w.heap.size w ((w.alloc (.cells cs t)).alloc (.cells cs' t')) := fun cs cs' t t' => ((Below.refl _ _).alloc (Nat.le_refl _) _).alloc (by simp) _
  unfold cellsP cellsO ptrO
  go_enter Tryz.func129, Tryz.ntmps129
  go_wp2_with fail
  refine bodyPost_ret (v := .agg (cellsP (ptrO o))) ?_ rfl ⟨rfl, HB _ _ _ _⟩
  simp [results, Tryz.f129, go_sem, cellsP, ptrO]

/-- Words of what points there -/
theorem pwords_q (p : Pt) (w : World) (hp : OkQ p) :
    Calls Tryz.prog 128 #[.agg (cellsP p)] w fun e w' => e = .returned (.tuple #[.int .i64 (wordN p), .int .u16 (wordE p)]) ∧ Below w.heap.size w w' := by
  rcases hp with hp | rfl
  · exact pwords_any p w hp
  · have HE : Hid (wordN ⟨1, 0, 0, 0, 0, 0, 0, false⟩ = 0 ∧ wordE ⟨1, 0, 0, 0, 0, 0, 0, false⟩ = 0) := Lib.hid (by decide)
    rw [HE.out.1, HE.out.2]
    clear HE
    unfold cellsP
    dsimp only
    go_enter Tryz.func128, Tryz.ntmps128
    go_wp2_with fail
    go_ret2
    exact ⟨rfl, (Below.refl _ _).alloc (Nat.le_refl _) _⟩

set_option maxRecDepth 100000 in
set_option maxHeartbeats 400000 in
theorem words9_any (o : Ob) (w : World) (ho : OkQ (ptrO o)) :
    Calls Tryz.prog 101 #[.agg (cellsO o)] w fun e w' => e = .returned (.int .i64 (wordsO o)) ∧ Below w.heap.size w w' := by
  have HB : Hid (Below w.heap.size w (w.alloc (.cells (cellsO o) 129))) := Lib.hid ((Below.refl _ _).alloc (Nat.le_refl _) _)
  have HP := Lib.hid (fun X => ptrto_any o X)
  have HW := Lib.hid (fun X => pwords_q (ptrO o) X ho)
  have HE : Hid (wordsO o = wordN (ptrO o)) := Lib.hid rfl
  rw [HE.out]
  clear HE ho
  generalize wordN (ptrO o) = n at *
  generalize wordE (ptrO o) = x at *
  generalize ptrO o = p at *
  unfold cellsO at *
  go_enter Tryz.func101, Tryz.ntmps101
  go_wp2_with fail
  refine (HP.out _).mono ?_
  rintro e w1 ⟨rfl, hB1⟩
  have HB1 := Lib.hid (bseq' HB.out hB1)
  clear hB1
  go_wp2_with fail
  refine (HW.out _).mono ?_
  rintro e w2 ⟨rfl, hB2⟩
  have HB2 := Lib.hid (bseq' HB1.out hB2)
  clear hB2
  go_wp2_with fail
  go_ret
  exact ⟨rfl, HB2.out⟩

set_option maxRecDepth 100000 in
set_option maxHeartbeats 1000000 in
theorem near9_at (p : Pt) (g a m t x : Int) (b1 b2 : Bool) (w : World) (hm : IntKind.i64.wrap (p.off + 1) = m) (ht : IntKind.i64.wrap (a + m) = t) (d1 : decide (t < a) = b1) (d2 : decide (m < 0) = b2) (hx : x = if b1 = b2 then t else -1) :
    Calls Tryz.prog 146 #[.agg (cellsP p), .int .i64 g, .int .i64 a] w fun e w' => e = .returned (.agg (cellsO (thingO p g x))) ∧ Below w.heap.size w w' := by
  have hp0 : PBox ((w.alloc (.cells (cellsP p) 70)).alloc (.cells (cellsO Ob.zero) 129)) w.heap.size p := (PBox.new w p).on ((Below.refl _ _).alloc (Nat.le_refl _) _)
  have ho0 : OBox ((w.alloc (.cells (cellsP p) 70)).alloc (.cells (cellsO Ob.zero) 129)) (w.heap.size + 1) Ob.zero := by
    have := OBox.new (w.alloc (.cells (cellsP p) 70)) Ob.zero
    rwa [World.size_alloc] at this
  have hB0 : Below w.heap.size w ((w.alloc (.cells (cellsP p) 70)).alloc (.cells (cellsO Ob.zero) 129)) := ((Below.refl _ _).alloc (Nat.le_refl _) _).alloc (by simp) _
  have HT := Lib.hid (fun X => thing_any p g x X)
  obtain ⟨W1, hW1⟩ : ∃ W1, W1 = (w.alloc (.cells (cellsP p) 70)).alloc (.cells (cellsO Ob.zero) 129) := ⟨_, rfl⟩
  rw [← hW1] at hB0 hp0 ho0
  have HB0 := Lib.hid hB0
  have HO0 := Lib.hid ho0
  obtain ⟨z0, z1, z2, z3, z4, z5, z6, z7⟩ := hp0.cells
  unfold cellsP cellsO Ob.zero at hW1
  unfold cellsP at HT ⊢
  dsimp only at hW1
  clear hB0 hp0 ho0
  cases b1 <;> cases b2
  all_goals
    simp only [Bool.false_eq_true, Bool.true_eq_false, reduceIte] at hx
    subst hx
    generalize thingO p g _ = O at *
    obtain ⟨o1, o2, o3, o4, o5, o6, o7⟩ := O
    unfold cellsO at HT ⊢
    dsimp only at HT ⊢
    go_enter Tryz.func146, Tryz.ntmps146
    go_upto_region 1 with fail
    rw [← hW1]
    clear hW1
    go_wp2_with fail
    refine (HT.out _).mono ?_
    rintro e w2 ⟨rfl, hB2⟩
    have ho2 := HO0.out.on hB2
    have HB2 := Lib.hid (bseq' HB0.out hB2)
    obtain ⟨y0, y1, y2, y3, y4, y5, y6⟩ := ho2.cells
    obtain ⟨f0, f1, f2, f3, f4, f5, f6⟩ := ho2.frozens
    unfold Ob.zero at y0 y1 y2 y3 y4 y5 y6
    dsimp only at y0 y1 y2 y3 y4 y5 y6
    have HX := Lib.hid (ho2.set7 o1 o2 o3 o4 o5 o6 o7)
    have HBX := Lib.hid (below_set7 (g := w.heap.size + 1) HB2.out (by omega) (.int .i64 o1) (.int .i64 o2) (.int .i64 o3) (.int .i64 o4) (.int .i64 o5) (.int .i64 o6) (.int .i64 o7))
    clear hB2 ho2
    go_wp2_with fail
    clear y0 y1 y2 y3 y4 y5 y6
    obtain ⟨y0, y1, y2, y3, y4, y5, y6⟩ := HX.out.cells
    dsimp only at y0 y1 y2 y3 y4 y5 y6
    refine bodyPost_ret (v := .agg (cellsO ⟨o1, o2, o3, o4, o5, o6, o7⟩)) ?_ rfl ⟨rfl, HBX.out⟩
    simp [results, Tryz.f146, go_sem, cellsO, y0, y1, y2, y3, y4, y5, y6]
theorem near9_any (p : Pt) (g a : Int) (w : World) (ho : -536870912 ≤ p.off ∧ p.off < 536870912) (ha : In64 a) :
    Calls Tryz.prog 146 #[.agg (cellsP p), .int .i64 g, .int .i64 a] w fun e w' => e = .returned (.agg (cellsO (nearO p g a))) ∧ Below w.heap.size w w' := by
  obtain ⟨h1, h2⟩ := ho
  obtain ⟨h3, h4⟩ := ha
  refine near9_at p g a (p.off + 1) (IntKind.i64.wrap (a + (p.off + 1))) (nearA p a) (decide (IntKind.i64.wrap (a + (p.off + 1)) < a)) (decide (p.off + 1 < 0)) w (IntWalk.i64_in _ (by omega)) rfl rfl rfl ?_
  rw [IntKind.wrap_i64]
  unfold nearA
  by_cases hin : -9223372036854775808 ≤ a + (p.off + 1) ∧ a + (p.off + 1) ≤ 9223372036854775807
  · rw [if_pos hin, if_pos]
    · omega
    · rw [decide_eq_decide]; omega
  · rw [if_neg hin, if_neg]
    rw [decide_eq_decide]; omega

end Go.Proofs.YtmmlfnblodfjbaaGreatDoor

namespace Go.Proofs.YtmmlfnblodfjbaaGreatDoor
open Go.RowKit Go.Deep

/-- the value s gives what sr says, in each world of which K holds -/
structure SrcOK (K : World → Prop) (s : Value) (sr : Sr) : Prop where
  good : sr.Good
  on : ∀ {w w' : World}, K w → Below w.heap.size w w' → K w'
  laid : ∀ {w : World}, K w → Laid w
  form : ∃ t v, s = .iface t v
  word : ∀ (g a : Int) (w : World), K w → In64 g → In64 a → Calls Tryz.prog 102 #[s, .int .i64 g, .int .i64 a] w fun e w' => e = .returned (.tuple #[.int .u64 (sr.wd g a), .int .u16 (sr.we g a)]) ∧ Below w.heap.size w w'
  sizes : ∀ (w : World), K w → Calls Tryz.prog 131 #[s] w fun e w' => ∃ u, e = .returned u ∧ NumS .i64 w' w'.heap.size u sr.sz ∧ Below w.heap.size w w'

theorem Tryz.info70 : (Tryz.prog.info? 70).map (fun i => (i.zero, i.size, i.bytes)) = some (some (.agg (cellsP Pt.zero)), 8, 64) := by kernel_rfl
theorem run_make_P (n : Nat) (hn : n ≤ 1000) (w : World) :
    (Instr.makeSlice 205 (.int .i64 (n : Int)) (.int .i64 (n : Int))).run Tryz.prog w = .ok (.slice (some ⟨w.heap.size, 0, none⟩) n n) (w.alloc (.cells (madeCells (cellsP Pt.zero) (n * 8)) 70)) := by
  obtain ⟨i, hi, hzz⟩ := Option.map_eq_some_iff.1 Tryz.info70
  simp only [Prod.mk.injEq] at hzz
  obtain ⟨hz, hs, hb⟩ := hzz
  have hr := run_make (P := Tryz.prog) w 205 70 i _ Tryz.underlying205 hi hz .i64 .i64 n n (by omega) (Int.le_refl _) (by rw [hb]; omega) (by omega)
  simp only [Int.toNat_natCast, hs] at hr
  exact hr
theorem made_u1 : madeCells #[Value.int .u64 0] 1 = #[Value.int .u64 0] := by kernel_rfl
theorem made_u2 : madeCells #[Value.int .u64 0] 2 = #[Value.int .u64 0, Value.int .u64 0] := by kernel_rfl
theorem made_1 : madeCells (cellsP Pt.zero) (1 * 8) = cellsP Pt.zero := by kernel_rfl
theorem made_2 : madeCells (cellsP Pt.zero) (2 * 8) = cellsP Pt.zero ++ cellsP Pt.zero := by kernel_rfl

/-- a row of one pointer is its box -/
def Row1 (w : World) (b : Nat) (x : Int) : Prop := w.heap[b]? = some (.cells #[.int .u64 x] 44 (0, 0))
theorem Row1.lt {w : World} {b : Nat} {x : Int} (h : Row1 w b x) : b < w.heap.size := (Array.getElem?_eq_some_iff.1 h).1
theorem Row1.on {w w' : World} {b : Nat} {x : Int} (h : Row1 w b x) (hB : Below w.heap.size w w') : Row1 w' b x := (hB.block b h.lt).trans h
theorem Row1.cell {w : World} {b : Nat} {x : Int} (h : Row1 w b x) : w.cell? ⟨b, 0, none⟩ = some (.int .u64 x) ∧ w.frozen? ⟨b, 0, none⟩ = false := by
  unfold Row1 at h
  simp [World.cell?, World.frozen?, h]
theorem Row1.set {w : World} {b : Nat} {x : Int} (h : Row1 w b x) (y : Int) : Row1 (w.setCell ⟨b, 0, none⟩ (.int .u64 y)) b y := by
  have := heap_setCell_same _ b 0 _ _ (.int .u64 y) h
  unfold Row1
  rw [this]
  simp
theorem two_new (w : World) (c1 c2 : Array Value) (t1 t2 : TypeId) : ((w.alloc (.cells c1 t1)).alloc (.cells c2 t2)).drew.heap[w.heap.size]? = some (.cells c1 t1 (0, 0)) ∧ ((w.alloc (.cells c1 t1)).alloc (.cells c2 t2)).drew.heap[w.heap.size + 1]? = some (.cells c2 t2 (0, 0)) ∧ Below w.heap.size w ((w.alloc (.cells c1 t1)).alloc (.cells c2 t2)).drew := by
  refine ⟨?_, ?_, (((Below.refl _ _).alloc (Nat.le_refl _) _).alloc (by simp) _).drew⟩
  · show ((w.alloc (.cells c1 t1)).alloc (.cells c2 t2)).heap[w.heap.size]? = _
    rw [blk_alloc_lt _ _ _ (by simp), blk_alloc_new]
  · show ((w.alloc (.cells c1 t1)).alloc (.cells c2 t2)).heap[w.heap.size + 1]? = _
    have := blk_alloc_new (w.alloc (.cells c1 t1)) (.cells c2 t2)
    rwa [World.size_alloc] at this

/-- what pointers hands back: nothing behind an error -/
def PtrsR (x : Int) (Q : World → Value → Prop) (w : World) (e : Ending) (w' : World) : Prop := ∃ v, e = .returned (.tuple #[v, .int .u16 x]) ∧ (x = 0 → Q w' v) ∧ Below w.heap.size w w'
def One (p : Pt) (w : World) (v : Value) : Prop := ∃ b, v = .slice (some ⟨b, 0, none⟩) 1 1 ∧ PBox w b p
theorem ite_err {E D : Int} : (if E ≠ 0 then E else D) = if E = 0 then D else E := by
  by_cases h : E = 0
  · rw [if_neg (by simp [h]), if_pos h]
  · rw [if_pos h, if_neg h]

set_option maxRecDepth 100000 in
set_option maxHeartbeats 1000000 in
theorem pointers_1 {K : World → Prop} {s : Value} {sr : Sr} (H : SrcOK K s sr) (g a : Int) (w : World) (hK : K w) (hg : In64 g) (ha : In64 a) :
    Calls Tryz.prog 144 #[s, .int .i64 g, .int .i64 a, .int .i64 1] w (PtrsR (ptE sr g a) (One (ptS sr g a)) w) := by
  obtain ⟨t, v, rfl⟩ := H.form
  have HH := Lib.hid H
  have hm1 := run_make_row' (P := Tryz.prog) 31 44 (.int .u64 0) 8 Tryz.underlying31 Tryz.info44 rfl .i64 .i64 1 (by omega) (by omega)
  have hm2 := run_make_P 1 (by omega)
  rw [made_1] at hm2
  rw [show ((1 : Nat) : Int) = 1 from rfl] at hm1 hm2
  rw [made_u1] at hm1
  have HK := Lib.hid hK
  have HG := Lib.hid hg
  have HA := Lib.hid ha
  have hwa : IntKind.i64.wrap a = a := IntWalk.i64_in _ ha
  obtain ⟨X, hX⟩ : ∃ X, X = sr.wd g a := ⟨_, rfl⟩
  obtain ⟨E, hE⟩ : ∃ E, E = sr.we g a := ⟨_, rfl⟩
  have HPt : Hid (ptS sr g a = decP X) := Lib.hid (by rw [hX]; rfl)
  have HPe : Hid (ptE sr g a = if E = 0 then decE X else E) := Lib.hid (by rw [hX, hE, ← ite_err]; rfl)
  have HW := Lib.hid (fun Y (hY : K Y) => H.word g a Y hY hg ha)
  have HD := Lib.hid (fun Y (hY : Laid Y) => dec_any X Y hY (by rw [hX]; exact (H.good.wd g a).1) (by rw [hX]; exact (H.good.wd g a).2))
  rw [← hX, ← hE] at HW
  rw [HPt.out]
  obtain ⟨Z, hZ⟩ : ∃ Z, Z = ptE sr g a := ⟨_, rfl⟩
  have HZ : Hid (Z = if E = 0 then decE X else E) := Lib.hid (hZ.trans HPe.out)
  rw [← hZ]
  clear hX hE hZ HPt HPe H hK hg ha
  go_enter Tryz.func144, Tryz.ntmps144
  go_upto_region 1 with fail
  go_cut [10, 11] (fun x y wx => ∃ b1 b2, x = .slice (some ⟨b1, 0, none⟩) 1 1 ∧ y = .slice (some ⟨b2, 0, none⟩) 1 1 ∧ Row1 wx b1 0 ∧ PBox wx b2 Pt.zero ∧ b1 ≠ b2 ∧ w.heap.size ≤ b1 ∧ w.heap.size ≤ b2 ∧ Below w.heap.size w wx)
  case first =>
    go_region
    · go_wp2_with fail
      go_meet
      obtain ⟨e1, e2, e3⟩ := two_new w #[.int .u64 0] (cellsP Pt.zero) 44 70
      exact ⟨_, _, rfl, rfl, e1, e2, by omega, by omega, by omega, e3⟩
    · go_wp2_with fail
      go_meet
      obtain ⟨e1, e2, e3⟩ := two_new w (cellsP Pt.zero) #[.int .u64 0] 70 44
      exact ⟨_, _, rfl, rfl, e2, e1, by omega, by omega, by omega, e3⟩
  case rest =>
    obtain ⟨b1, b2, rfl, rfl, hr1, hp1, hne, hb1, hb2, hB1⟩ := hcut
    obtain ⟨c0, f0⟩ := hr1.cell
    have HB1 := Lib.hid hB1
    have HP1 := Lib.hid hp1
    have HR1 := Lib.hid hr1
    have HW1 := HW.out wc (HH.out.on HK.out hB1)
    have HNe := Lib.hid hne
    have HLe := Lib.hid (And.intro hb1 hb2)
    clear hm1 hm2 hr1 hp1 hne hb1 hb2 hB1
    go_wp2_with fail
    refine wp_loop_rounds 2 ?_
    rw [rounds_succ]
    go_wp2_with fail
    refine HW1.mono ?_
    rintro e w2 ⟨rfl, hB2⟩
    have HR2 := Lib.hid (HR1.out.on hB2)
    have HP2 := Lib.hid (HP1.out.on hB2)
    have HB2 := Lib.hid (bseq' HB1.out hB2)
    obtain ⟨c0', f0'⟩ := HR2.out.cell
    have HR3 := Lib.hid (HR2.out.set X)
    have HP3 := Lib.hid (HP2.out.other HNe.out.symm 0 (.int .u64 X))
    have HB3 := Lib.hid (HB2.out.setCell (p := ⟨b1, 0, none⟩) HLe.out.1 (.int .u64 X))
    clear hB2 c0 f0 HW1
    by_cases hE : E = 0
    · subst hE
      have HD3 := HD.out _ ((HH.out.laid HK.out).on HB3.out)
      obtain rfl : Z = decE X := HZ.out.trans (if_pos rfl)
      clear HZ
      generalize decE X = D at *
      generalize decP X = p at *
      obtain ⟨c0, f0⟩ := HR3.out.cell
      have HLd : Hid (∀ Y, Below (w2.setCell ⟨b1, 0, none⟩ (.int .u64 X)).heap.size (w2.setCell ⟨b1, 0, none⟩ (.int .u64 X)) Y → PBox Y b2 Pt.zero ∧ Below w.heap.size w Y) := Lib.hid (fun Y hY => ⟨HP3.out.on hY, bseq' HB3.out hY⟩)
      go_wp2_with fail
      rw [rounds_succ]
      go_wp2_with fail
      refine wp_loop_rounds 2 ?_
      rw [rounds_succ]
      go_wp2_with fail
      refine HD3.mono ?_
      rintro e w3 ⟨rfl, hB4⟩
      obtain ⟨hp4, hB5⟩ := HLd.out _ hB4
      have HP4 := Lib.hid hp4
      have HB5 := Lib.hid hB5
      clear hB4 hp4 hB5 c0 f0 c0' f0' HLd HD3
      obtain ⟨y0, y1, y2, y3, y4, y5, y6, y7⟩ := HP4.out.cells
      obtain ⟨f0, f1, f2, f3, f4, f5, f6, f7⟩ := HP4.out.frozens
      unfold Pt.zero at y0 y1 y2 y3 y4 y5 y6 y7
      dsimp only at y0 y1 y2 y3 y4 y5 y6 y7
      obtain ⟨q0, q1, q2, q3, q4, q5, q6, q7⟩ := p
      have HP5 := Lib.hid (HP4.out.set8 q0 q1 q2 q3 q4 q5 q6 q7)
      have HB6 := Lib.hid (below_set8 HB5.out HLe.out.2 (.int .i64 q0) (.int .i64 q1) (.int .i64 q2) (.int .i64 q3) (.int .i64 q4) (.int .i64 q5) (.int .i64 q6) (.bool q7))
      unfold cellsP
      dsimp only
      by_cases hD : D = 0
      · subst hD
        go_wp2_with fail
        rw [rounds_succ]
        go_wp2_with fail
        go_ret2
        exact ⟨_, rfl, fun _ => ⟨_, rfl, HP5.out⟩, HB6.out⟩
      · have hD1 : (D != 0) = true := by simp [hD]
        go_wp2_with fail
        go_ret2
        exact ⟨_, rfl, fun h => absurd h hD, HB6.out⟩
    · have hE1 : (E != 0) = true := by simp [hE]
      obtain rfl : Z = E := HZ.out.trans (if_neg hE)
      clear HZ
      go_wp2_with fail
      go_ret2
      exact ⟨_, rfl, fun h => absurd h hE, HB3.out⟩

end Go.Proofs.YtmmlfnblodfjbaaGreatDoor

namespace Go.Proofs.YtmmlfnblodfjbaaGreatDoor
open Go.RowKit Go.Deep

/-- a row of two pointers -/
def PBox2 (w : World) (g : Nat) (p q : Pt) : Prop := w.heap[g]? = some (.cells (cellsP p ++ cellsP q) 70 (0, 0))
theorem PBox2.lt {w : World} {g : Nat} {p q : Pt} (h : PBox2 w g p q) : g < w.heap.size := (Array.getElem?_eq_some_iff.1 h).1
theorem PBox2.on {w w' : World} {g : Nat} {p q : Pt} (h : PBox2 w g p q) (hB : Below w.heap.size w w') : PBox2 w' g p q := (hB.block g h.lt).trans h
theorem PBox2.other {w : World} {g b : Nat} {p q : Pt} (h : PBox2 w g p q) (hne : g ≠ b) (j : Nat) (v : Value) : PBox2 (w.setCell ⟨b, j, none⟩ v) g p q := (blk_setCell_other _ _ _ _ hne).trans h
theorem PBox2.cells1 {w : World} {g : Nat} {p q : Pt} (h : PBox2 w g p q) : w.cell? ⟨g, 0, none⟩ = some (.int .i64 p.kind) ∧ w.cell? ⟨g, 1, none⟩ = some (.int .i64 p.off) ∧ w.cell? ⟨g, 2, none⟩ = some (.int .i64 p.data) ∧ w.cell? ⟨g, 3, none⟩ = some (.int .i64 p.ptrs) ∧ w.cell? ⟨g, 4, none⟩ = some (.int .i64 p.size) ∧ w.cell? ⟨g, 5, none⟩ = some (.int .i64 p.count) ∧ w.cell? ⟨g, 6, none⟩ = some (.int .i64 p.seg) ∧ w.cell? ⟨g, 7, none⟩ = some (.bool p.dbl) := by
  unfold PBox2 at h
  simp [World.cell?, h, cellsP]
theorem PBox2.cells2 {w : World} {g : Nat} {p q : Pt} (h : PBox2 w g p q) : w.cell? ⟨g, 8, none⟩ = some (.int .i64 q.kind) ∧ w.cell? ⟨g, 9, none⟩ = some (.int .i64 q.off) ∧ w.cell? ⟨g, 10, none⟩ = some (.int .i64 q.data) ∧ w.cell? ⟨g, 11, none⟩ = some (.int .i64 q.ptrs) ∧ w.cell? ⟨g, 12, none⟩ = some (.int .i64 q.size) ∧ w.cell? ⟨g, 13, none⟩ = some (.int .i64 q.count) ∧ w.cell? ⟨g, 14, none⟩ = some (.int .i64 q.seg) ∧ w.cell? ⟨g, 15, none⟩ = some (.bool q.dbl) := by
  unfold PBox2 at h
  simp [World.cell?, h, cellsP]
theorem PBox2.frozen {w : World} {g : Nat} {p q : Pt} (h : PBox2 w g p q) (j : Nat) : w.frozen? ⟨g, j, none⟩ = false := by
  unfold PBox2 at h
  simp [World.frozen?, h]
theorem PBox2.frozens1 {w : World} {g : Nat} {p q : Pt} (h : PBox2 w g p q) : w.frozen? ⟨g, 0, none⟩ = false ∧ w.frozen? ⟨g, 1, none⟩ = false ∧ w.frozen? ⟨g, 2, none⟩ = false ∧ w.frozen? ⟨g, 3, none⟩ = false ∧ w.frozen? ⟨g, 4, none⟩ = false ∧ w.frozen? ⟨g, 5, none⟩ = false ∧ w.frozen? ⟨g, 6, none⟩ = false ∧ w.frozen? ⟨g, 7, none⟩ = false :=
  ⟨h.frozen 0, h.frozen 1, h.frozen 2, h.frozen 3, h.frozen 4, h.frozen 5, h.frozen 6, h.frozen 7⟩
theorem PBox2.frozens2 {w : World} {g : Nat} {p q : Pt} (h : PBox2 w g p q) : w.frozen? ⟨g, 8, none⟩ = false ∧ w.frozen? ⟨g, 9, none⟩ = false ∧ w.frozen? ⟨g, 10, none⟩ = false ∧ w.frozen? ⟨g, 11, none⟩ = false ∧ w.frozen? ⟨g, 12, none⟩ = false ∧ w.frozen? ⟨g, 13, none⟩ = false ∧ w.frozen? ⟨g, 14, none⟩ = false ∧ w.frozen? ⟨g, 15, none⟩ = false :=
  ⟨h.frozen 8, h.frozen 9, h.frozen 10, h.frozen 11, h.frozen 12, h.frozen 13, h.frozen 14, h.frozen 15⟩
theorem PBox2.set1 {w : World} {g : Nat} {p q : Pt} (h : PBox2 w g p q) (k o d r s c e : Int) (b : Bool) :
    PBox2 ((((((((w.setCell ⟨g, 0, none⟩ (.int .i64 k)).setCell ⟨g, 1, none⟩ (.int .i64 o)).setCell ⟨g, 2, none⟩ (.int .i64 d)).setCell ⟨g, 3, none⟩ (.int .i64 r)).setCell ⟨g, 4, none⟩ (.int .i64 s)).setCell ⟨g, 5, none⟩ (.int .i64 c)).setCell ⟨g, 6, none⟩ (.int .i64 e)).setCell ⟨g, 7, none⟩ (.bool b)) g ⟨k, o, d, r, s, c, e, b⟩ q := by
  have h0 : w.heap[g]? = some (.cells (cellsP p ++ cellsP q) 70 (0, 0)) := h
  have h1 := heap_setCell_same _ g 0 _ _ (.int .i64 k) h0
  have h2 := heap_setCell_same _ g 1 _ _ (.int .i64 o) h1
  have h3 := heap_setCell_same _ g 2 _ _ (.int .i64 d) h2
  have h4 := heap_setCell_same _ g 3 _ _ (.int .i64 r) h3
  have h5 := heap_setCell_same _ g 4 _ _ (.int .i64 s) h4
  have h6 := heap_setCell_same _ g 5 _ _ (.int .i64 c) h5
  have h7 := heap_setCell_same _ g 6 _ _ (.int .i64 e) h6
  have h8 := heap_setCell_same _ g 7 _ _ (.bool b) h7
  unfold PBox2
  rw [h8]
  simp [cellsP]
theorem PBox2.set2 {w : World} {g : Nat} {p q : Pt} (h : PBox2 w g p q) (k o d r s c e : Int) (b : Bool) :
    PBox2 ((((((((w.setCell ⟨g, 8, none⟩ (.int .i64 k)).setCell ⟨g, 9, none⟩ (.int .i64 o)).setCell ⟨g, 10, none⟩ (.int .i64 d)).setCell ⟨g, 11, none⟩ (.int .i64 r)).setCell ⟨g, 12, none⟩ (.int .i64 s)).setCell ⟨g, 13, none⟩ (.int .i64 c)).setCell ⟨g, 14, none⟩ (.int .i64 e)).setCell ⟨g, 15, none⟩ (.bool b)) g p ⟨k, o, d, r, s, c, e, b⟩ := by
  have h0 : w.heap[g]? = some (.cells (cellsP p ++ cellsP q) 70 (0, 0)) := h
  have h1 := heap_setCell_same _ g 8 _ _ (.int .i64 k) h0
  have h2 := heap_setCell_same _ g 9 _ _ (.int .i64 o) h1
  have h3 := heap_setCell_same _ g 10 _ _ (.int .i64 d) h2
  have h4 := heap_setCell_same _ g 11 _ _ (.int .i64 r) h3
  have h5 := heap_setCell_same _ g 12 _ _ (.int .i64 s) h4
  have h6 := heap_setCell_same _ g 13 _ _ (.int .i64 c) h5
  have h7 := heap_setCell_same _ g 14 _ _ (.int .i64 e) h6
  have h8 := heap_setCell_same _ g 15 _ _ (.bool b) h7
  unfold PBox2
  rw [h8]
  simp [cellsP]
theorem below_set8' {w W : World} {g : Nat} (h : Below w.heap.size w W) (hg : w.heap.size ≤ g) (a0 a1 a2 a3 a4 a5 a6 a7 : Value) :
    Below w.heap.size w ((((((((W.setCell ⟨g, 8, none⟩ a0).setCell ⟨g, 9, none⟩ a1).setCell ⟨g, 10, none⟩ a2).setCell ⟨g, 11, none⟩ a3).setCell ⟨g, 12, none⟩ a4).setCell ⟨g, 13, none⟩ a5).setCell ⟨g, 14, none⟩ a6).setCell ⟨g, 15, none⟩ a7) :=
  ((((((((h.setCell (p := ⟨g, 8, none⟩) hg a0).setCell (p := ⟨g, 9, none⟩) hg a1).setCell (p := ⟨g, 10, none⟩) hg a2).setCell (p := ⟨g, 11, none⟩) hg a3).setCell (p := ⟨g, 12, none⟩) hg a4).setCell (p := ⟨g, 13, none⟩) hg a5).setCell (p := ⟨g, 14, none⟩) hg a6).setCell (p := ⟨g, 15, none⟩) hg a7)
def Row2 (w : World) (b : Nat) (x y : Int) : Prop := w.heap[b]? = some (.cells #[.int .u64 x, .int .u64 y] 44 (0, 0))
theorem Row2.lt {w : World} {b : Nat} {x y : Int} (h : Row2 w b x y) : b < w.heap.size := (Array.getElem?_eq_some_iff.1 h).1
theorem Row2.on {w w' : World} {b : Nat} {x y : Int} (h : Row2 w b x y) (hB : Below w.heap.size w w') : Row2 w' b x y := (hB.block b h.lt).trans h
theorem Row2.cell {w : World} {b : Nat} {x y : Int} (h : Row2 w b x y) : w.cell? ⟨b, 0, none⟩ = some (.int .u64 x) ∧ w.cell? ⟨b, 1, none⟩ = some (.int .u64 y) ∧ w.frozen? ⟨b, 0, none⟩ = false ∧ w.frozen? ⟨b, 1, none⟩ = false := by
  unfold Row2 at h
  simp [World.cell?, World.frozen?, h]
theorem Row2.set1 {w : World} {b : Nat} {x y : Int} (h : Row2 w b x y) (z : Int) : Row2 (w.setCell ⟨b, 0, none⟩ (.int .u64 z)) b z y := by
  have := heap_setCell_same _ b 0 _ _ (.int .u64 z) h
  unfold Row2
  rw [this]
  simp
theorem Row2.set2 {w : World} {b : Nat} {x y : Int} (h : Row2 w b x y) (z : Int) : Row2 (w.setCell ⟨b, 1, none⟩ (.int .u64 z)) b x z := by
  have := heap_setCell_same _ b 1 _ _ (.int .u64 z) h
  unfold Row2
  rw [this]
  simp
def TwoP (p q : Pt) (w : World) (v : Value) : Prop := ∃ b, v = .slice (some ⟨b, 0, none⟩) 2 2 ∧ PBox2 w b p q
theorem Row2.other {w : World} {g b : Nat} {x y : Int} (h : Row2 w g x y) (hne : g ≠ b) (j : Nat) (v : Value) : Row2 (w.setCell ⟨b, j, none⟩ v) g x y := (blk_setCell_other _ _ _ _ hne).trans h

set_option maxRecDepth 100000 in
set_option maxHeartbeats 2000000 in
theorem pointers_2 {K : World → Prop} {s : Value} {sr : Sr} (H : SrcOK K s sr) (g a : Int) (w : World) (hK : K w) (hg : In64 g) (ha : 0 ≤ a ∧ a < 1000000000) :
    Calls Tryz.prog 144 #[s, .int .i64 g, .int .i64 a, .int .i64 2] w (PtrsR (ptE2 sr g a) (TwoP (ptS sr g a) (ptS sr g (a + 1))) w) := by
  obtain ⟨t, v, rfl⟩ := H.form
  have HH := Lib.hid H
  have hm1 := run_make_row' (P := Tryz.prog) 31 44 (.int .u64 0) 8 Tryz.underlying31 Tryz.info44 rfl .i64 .i64 2 (by omega) (by omega)
  have hm2 := run_make_P 2 (by omega)
  rw [made_2] at hm2
  rw [show ((2 : Nat) : Int) = 2 from rfl] at hm1 hm2
  rw [made_u2] at hm1
  have HK := Lib.hid hK
  have ha0 : In64 a := ⟨by omega, by omega⟩
  have ha1 : In64 (a + 1) := ⟨by omega, by omega⟩
  have hwa : IntKind.i64.wrap a = a := IntWalk.i64_in _ ha0
  have hwb : IntKind.i64.wrap (a + 1) = a + 1 := IntWalk.i64_in _ ha1
  obtain ⟨X, hX⟩ : ∃ X, X = sr.wd g a := ⟨_, rfl⟩
  obtain ⟨E, hE⟩ : ∃ E, E = sr.we g a := ⟨_, rfl⟩
  obtain ⟨Y, hY⟩ : ∃ X, X = sr.wd g (a + 1) := ⟨_, rfl⟩
  obtain ⟨F, hF⟩ : ∃ E, E = sr.we g (a + 1) := ⟨_, rfl⟩
  have HPt : Hid (ptS sr g a = decP X ∧ ptS sr g (a + 1) = decP Y) := Lib.hid ⟨by rw [hX]; rfl, by rw [hY]; rfl⟩
  have HPe : Hid (ptE2 sr g a = if E = 0 then (if F = 0 then (if decE X = 0 then decE Y else decE X) else F) else E) := Lib.hid (by rw [hX, hE, hY, hF, ← ite_err, ← ite_err, ← ite_err]; rfl)
  have HW := Lib.hid (fun Y (hY : K Y) => H.word g a Y hY hg ha0)
  have HV := Lib.hid (fun Y (hY : K Y) => H.word g (a + 1) Y hY hg ha1)
  have HD := Lib.hid (fun Y (hY : Laid Y) => dec_any X Y hY (by rw [hX]; exact (H.good.wd g a).1) (by rw [hX]; exact (H.good.wd g a).2))
  have HC := Lib.hid (fun Z (hZ : Laid Z) => dec_any Y Z hZ (by rw [hY]; exact (H.good.wd g (a + 1)).1) (by rw [hY]; exact (H.good.wd g (a + 1)).2))
  rw [← hX, ← hE] at HW
  rw [← hY, ← hF] at HV
  rw [HPt.out.1, HPt.out.2]
  obtain ⟨Z, hZ⟩ : ∃ Z, Z = ptE2 sr g a := ⟨_, rfl⟩
  have HZ : Hid (Z = if E = 0 then (if F = 0 then (if decE X = 0 then decE Y else decE X) else F) else E) := Lib.hid (hZ.trans HPe.out)
  rw [← hZ]
  clear hX hE hY hF hZ HPt HPe H hK hg ha ha0 ha1
  go_enter Tryz.func144, Tryz.ntmps144
  go_upto_region 1 with fail
  go_cut [10, 11] (fun x y wx => ∃ b1 b2, x = .slice (some ⟨b1, 0, none⟩) 2 2 ∧ y = .slice (some ⟨b2, 0, none⟩) 2 2 ∧ Row2 wx b1 0 0 ∧ PBox2 wx b2 Pt.zero Pt.zero ∧ b1 ≠ b2 ∧ w.heap.size ≤ b1 ∧ w.heap.size ≤ b2 ∧ Below w.heap.size w wx)
  case first =>
    go_region
    · go_wp2_with fail
      go_meet
      obtain ⟨e1, e2, e3⟩ := two_new w #[.int .u64 0, .int .u64 0] (cellsP Pt.zero ++ cellsP Pt.zero) 44 70
      exact ⟨_, _, rfl, rfl, e1, e2, by omega, by omega, by omega, e3⟩
    · go_wp2_with fail
      go_meet
      obtain ⟨e1, e2, e3⟩ := two_new w (cellsP Pt.zero ++ cellsP Pt.zero) #[.int .u64 0, .int .u64 0] 70 44
      exact ⟨_, _, rfl, rfl, e2, e1, by omega, by omega, by omega, e3⟩
  case rest =>
    obtain ⟨b1, b2, rfl, rfl, hr1, hp1, hne, hb1, hb2, hB1⟩ := hcut
    obtain ⟨c0, c1, f0, f1⟩ := hr1.cell
    have HB1 := Lib.hid hB1
    have HP1 := Lib.hid hp1
    have HR1 := Lib.hid hr1
    have HW1 := HW.out wc (HH.out.on HK.out hB1)
    have HNe := Lib.hid hne
    have HLe := Lib.hid (And.intro hb1 hb2)
    clear hm1 hm2 hr1 hp1 hne hb1 hb2 hB1
    go_wp2_with fail
    refine wp_loop_rounds 3 ?_
    rw [rounds_succ]
    go_wp2_with fail
    refine HW1.mono ?_
    rintro e w2 ⟨rfl, hB2⟩
    have HR2 := Lib.hid (HR1.out.on hB2)
    have HP2 := Lib.hid (HP1.out.on hB2)
    have HB2 := Lib.hid (bseq' HB1.out hB2)
    clear hB2 c0 c1 f0 f1 HW1
    obtain ⟨c0, c1, f0, f1⟩ := HR2.out.cell
    have HR3 := Lib.hid (HR2.out.set1 X)
    have HP3 := Lib.hid (HP2.out.other HNe.out.symm 0 (.int .u64 X))
    have HB3 := Lib.hid (HB2.out.setCell (p := ⟨b1, 0, none⟩) HLe.out.1 (.int .u64 X))
    by_cases hE : E = 0
    · subst hE
      have HZ1 : Hid (Z = if F = 0 then (if decE X = 0 then decE Y else decE X) else F) := Lib.hid (HZ.out.trans (if_pos rfl))
      clear HZ
      have HV3 := HV.out _ (HH.out.on HK.out HB3.out)
      go_wp2_with fail
      rw [rounds_succ]
      generalize w2.setCell ⟨b1, 0, none⟩ (.int .u64 X) = W3 at *
      clear c0 c1 f0 f1 HR2 HP2 HB2
      go_wp2_with fail
      refine HV3.mono ?_
      rintro e w4 ⟨rfl, hB4⟩
      have HR4 := Lib.hid (HR3.out.on hB4)
      have HP4 := Lib.hid (HP3.out.on hB4)
      have HB4 := Lib.hid (bseq' HB3.out hB4)
      clear hB4 HV3
      obtain ⟨c0, c1, f0, f1⟩ := HR4.out.cell
      have HR5 := Lib.hid (HR4.out.set2 Y)
      have HP5 := Lib.hid (HP4.out.other HNe.out.symm 1 (.int .u64 Y))
      have HB5 := Lib.hid (HB4.out.setCell (p := ⟨b1, 1, none⟩) HLe.out.1 (.int .u64 Y))
      by_cases hF : F = 0
      · subst hF
        have HZ2 : Hid (Z = if decE X = 0 then decE Y else decE X) := Lib.hid (HZ1.out.trans (if_pos rfl))
        clear HZ1
        have HL5 := Lib.hid ((HH.out.laid HK.out).on HB5.out)
        have HD5 := HD.out _ HL5.out
        go_wp2_with fail
        rw [rounds_succ]
        generalize w4.setCell ⟨b1, 1, none⟩ (.int .u64 Y) = W5 at *
        clear c0 c1 f0 f1 HR4 HP4 HB4
        obtain ⟨c0, c1, f0, f1⟩ := HR5.out.cell
        go_wp2_with fail
        refine wp_loop_rounds 3 ?_
        rw [rounds_succ]
        go_wp2_with fail
        refine HD5.mono ?_
        rintro e w6 ⟨rfl, hB6⟩
        have HR6 := Lib.hid (HR5.out.on hB6)
        have HP6 := Lib.hid (HP5.out.on hB6)
        have HB6 := Lib.hid (bseq' HB5.out hB6)
        clear hB6 HD5 c0 c1 f0 f1
        obtain ⟨y0, y1, y2, y3, y4, y5, y6, y7⟩ := HP6.out.cells1
        obtain ⟨f0, f1, f2, f3, f4, f5, f6, f7⟩ := HP6.out.frozens1
        unfold Pt.zero at y0 y1 y2 y3 y4 y5 y6 y7
        dsimp only at y0 y1 y2 y3 y4 y5 y6 y7
        generalize decE X = D at *
        generalize decP X = p at *
        obtain ⟨q0, q1, q2, q3, q4, q5, q6, q7⟩ := p
        have HP7 := Lib.hid (HP6.out.set1 q0 q1 q2 q3 q4 q5 q6 q7)
        have HB7 := Lib.hid (below_set8 HB6.out HLe.out.2 (.int .i64 q0) (.int .i64 q1) (.int .i64 q2) (.int .i64 q3) (.int .i64 q4) (.int .i64 q5) (.int .i64 q6) (.bool q7))
        have HR7 := Lib.hid ((((((((HR6.out.other HNe.out 0 (.int .i64 q0)).other HNe.out 1 (.int .i64 q1)).other HNe.out 2 (.int .i64 q2)).other HNe.out 3 (.int .i64 q3)).other HNe.out 4 (.int .i64 q4)).other HNe.out 5 (.int .i64 q5)).other HNe.out 6 (.int .i64 q6)).other HNe.out 7 (.bool q7))
        unfold cellsP
        dsimp only
        by_cases hD : D = 0
        · subst hD
          obtain rfl : Z = decE Y := HZ2.out.trans (if_pos rfl)
          clear HZ2
          have HL7 := Lib.hid ((HH.out.laid HK.out).on HB7.out)
          have HC7 := HC.out _ HL7.out
          go_wp2_with fail
          rw [rounds_succ]
          generalize ((((((((w6.setCell ⟨b2, 0, none⟩ (.int .i64 q0)).setCell ⟨b2, 1, none⟩ (.int .i64 q1)).setCell ⟨b2, 2, none⟩ (.int .i64 q2)).setCell ⟨b2, 3, none⟩ (.int .i64 q3)).setCell ⟨b2, 4, none⟩ (.int .i64 q4)).setCell ⟨b2, 5, none⟩ (.int .i64 q5)).setCell ⟨b2, 6, none⟩ (.int .i64 q6)).setCell ⟨b2, 7, none⟩ (.bool q7)) = W7 at *
          clear y0 y1 y2 y3 y4 y5 y6 y7 f0 f1 f2 f3 f4 f5 f6 f7 HR6 HP6 HB6
          obtain ⟨c0, c1, f0, f1⟩ := HR7.out.cell
          go_wp2_with fail
          refine HC7.mono ?_
          rintro e w8 ⟨rfl, hB8⟩
          have HP8 := Lib.hid (HP7.out.on hB8)
          have HB8 := Lib.hid (bseq' HB7.out hB8)
          clear hB8 HC7 c0 c1 f0 f1
          obtain ⟨y0, y1, y2, y3, y4, y5, y6, y7⟩ := HP8.out.cells2
          obtain ⟨f0, f1, f2, f3, f4, f5, f6, f7⟩ := HP8.out.frozens2
          unfold Pt.zero at y0 y1 y2 y3 y4 y5 y6 y7
          dsimp only at y0 y1 y2 y3 y4 y5 y6 y7
          generalize decE Y = G at *
          generalize decP Y = p at *
          obtain ⟨r0, r1, r2, r3, r4, r5, r6, r7⟩ := p
          have HP9 := Lib.hid (HP8.out.set2 r0 r1 r2 r3 r4 r5 r6 r7)
          have HB9 := Lib.hid (below_set8' HB8.out HLe.out.2 (.int .i64 r0) (.int .i64 r1) (.int .i64 r2) (.int .i64 r3) (.int .i64 r4) (.int .i64 r5) (.int .i64 r6) (.bool r7))
          unfold cellsP
          dsimp only
          by_cases hG : G = 0
          · subst hG
            go_wp2_with fail
            rw [rounds_succ]
            go_wp2_with fail
            go_ret2
            exact ⟨_, rfl, fun _ => ⟨_, rfl, HP9.out⟩, HB9.out⟩
          · have hG1 : (G != 0) = true := by simp [hG]
            go_wp2_with fail
            go_ret2
            exact ⟨_, rfl, fun h => absurd h hG, HB9.out⟩
        · have hD1 : (D != 0) = true := by simp [hD]
          obtain rfl : Z = D := HZ2.out.trans (if_neg hD)
          clear HZ2
          go_wp2_with fail
          go_ret2
          exact ⟨_, rfl, fun h => absurd h hD, HB7.out⟩
      · have hF1 : (F != 0) = true := by simp [hF]
        obtain rfl : Z = F := HZ1.out.trans (if_neg hF)
        clear HZ1
        go_wp2_with fail
        go_ret2
        exact ⟨_, rfl, fun h => absurd h hF, HB5.out⟩
    · have hE1 : (E != 0) = true := by simp [hE]
      obtain rfl : Z = E := HZ.out.trans (if_neg hE)
      clear HZ
      go_wp2_with fail
      go_ret2
      exact ⟨_, rfl, fun h => absurd h hE, HB3.out⟩

end Go.Proofs.YtmmlfnblodfjbaaGreatDoor
