/-
  Layer 10, the landed package: paths: the function that makes the iterator; steps that are laid behind others.
-/
import Derived.Test.YtdfldfnjjjcleaaDoorZTdTell
import Derived.Test.YtdfldfnjjjcleaaDoorZTdPlain
import Derived.Test.YtdfldfnjjjcleaaDoorZTeC
import Derived.Test.YtdfldfnjjjcleaaDoorZTaA
import Derived.Laws.EntriesVeiled
import Derived.RangeFuncNested
import Derived.RangeFuncBound
import Derived.RangeFuncCalls
import Derived.RangeFuncLeaves
import Derived.RangeFuncBox
import Derived.Shelf.Abstract
import Derived.Shelf.RegionOpen
import Derived.OwnWalkIn
import Derived.TacticsInMore
import Derived.LoopNIn
import Derived.LoopIn
import Derived.Deep.RegionHeld3
import Derived.Deep.RegionHeldLaw
import Derived.Lib.AppendZeros
import Derived.IntWalk
import Derived.Test.YtdfldfnjjjcleaaDoorZMem

namespace Go.Proofs.YtdfldfnjjjcleaaDoor
open Go.RowKit Go.Deep

/-- a path as it is told -/
def EncP (W : World) (G : Nat → Prop) (p : List Int × Int) (v : Value) : Prop := ∃ sv, v = .agg #[sv, .int .i64 p.2] ∧ NumP .i64 W G sv p.1
/-- paths, behind steps -/
def pfx (ks : List Int) (l : List (List Int × Int)) : List (List Int × Int) := l.map (fun p => (ks ++ p.1, p.2))
theorem pfx_behind (ks : List Int) (k : Int) (l : List (List Int × Int)) : pfx ks (l.map (behindP k)) = pfx (ks ++ [k]) l := by
  unfold pfx behindP
  rw [List.map_map]
  refine List.map_congr_left (fun p _ => ?_)
  simp
theorem pfx_app (ks : List Int) (a b : List (List Int × Int)) : pfx ks (a ++ b) = pfx ks a ++ pfx ks b := by
  unfold pfx
  rw [List.map_append]
theorem pfx_nil (l : List (List Int × Int)) : pfx [] l = l := by
  unfold pfx
  simp

theorem ownI_cases {w : World} {base : Nat} {sv : Value} {ks : List Int} (h : OwnI w base sv ks) : (sv = .slice none 0 0 ∧ ks = []) ∨ ∃ g cap cur, sv = .slice (some ⟨g, 0, none⟩) ks.length cap ∧ base ≤ g ∧ w.heap[g]? = some (.cells cur 3 (0, 0)) ∧ ks.length ≤ cap ∧ cap ≤ maxLen ∧ cur.size = cap ∧ cur.toList.take ks.length = ks.map (Value.int .i64) := by
  obtain ⟨h1, ⟨h2, h3⟩ | ⟨g, cap, cur, h2, h3, h4, h5, h6, h7, h8⟩⟩ := h
  · exact .inl ⟨h2, List.eq_nil_of_length_eq_zero h3⟩
  · exact .inr ⟨g, cap, cur, h2, h3, h4, h5, h6, by omega, by simpa using h8⟩
theorem ownI_of {w : World} {base g cap : Nat} {cur : Array Value} {ks : List Int} (h3 : base ≤ g) (h4 : w.heap[g]? = some (.cells cur 3 (0, 0))) (h5 : ks.length ≤ cap) (h6 : cap ≤ maxLen) (h7 : cur.size = cap) (h8 : cur.toList.take ks.length = ks.map (Value.int .i64)) : OwnI w base (.slice (some ⟨g, 0, none⟩) ks.length cap) ks :=
  ⟨by simp, .inr ⟨g, cap, cur, rfl, h3, h4, h5, h6, by omega, by simpa using h8⟩⟩
theorem ownI_keep {w w' : World} {base : Nat} {sv : Value} {ks : List Int} (h : OwnI w base sv ks) (hk : ∀ b, sv.ownBlock = some b → w'.heap[b]? = w.heap[b]?) : OwnI w' base sv ks := by
  rcases ownI_cases h with ⟨rfl, rfl⟩ | ⟨g, cap, cur, rfl, h3, h4, h5, h6, h7, h8⟩
  · exact OwnI.nil _ _
  · exact ownI_of h3 ((hk g rfl).trans h4) h5 h6 h7 h8
theorem ownI_lt {w : World} {base : Nat} {sv : Value} {ks : List Int} (h : OwnI w base sv ks) : ∀ b, sv.ownBlock = some b → base ≤ b ∧ b < w.heap.size := World.ownsRow.lt h
/-- steps with one more behind them: either both read as they did, whatever is laid behind -/
theorem append_keep (w : World) (base ty : Nat) (sv : Value) (ks : List Int) (k : Int) (tb : Nat) (hown : OwnI w base sv ks) (hc : w.cell? ⟨tb, 0, none⟩ = some (.int .i64 k)) (hk : ks.length ≤ 100) (hbase : base ≤ w.heap.size) :
    ∃ v' w', (Builtin.append_ #[31, 31] ty #[sv, .slice (some ⟨tb, 0, none⟩) 1 1]).run Tryd.prog w = .ok v' w' ∧ OwnI w' base v' (ks ++ [k]) ∧ w.grownBy w' sv.ownBlock ∧ (∀ b, v'.ownBlock = some b → sv.ownBlock = some b ∨ w.heap.size ≤ b) ∧
      ∀ W'', OwnI W'' base v' (ks ++ [k]) → (∀ b, sv.ownBlock = some b → v'.ownBlock ≠ some b → W''.heap[b]? = w'.heap[b]?) → OwnI W'' base sv ks := by
  obtain ⟨i0, hi, hz0, hz1, hz2⟩ := info_parts Tryd.info3
  have hnews : ∀ j u, ([Value.int .i64 k] : List Value)[j]? = some u → w.cell? ((⟨tb, 0, none⟩ : Addr).add j) = some u := fun j u hu => by
    cases j with
    | zero =>
      simp at hu
      subst hu
      rw [Addr.add_lit]
      exact hc
    | succ j => simp at hu
  have hone : ∀ u ∈ ([Value.int .i64 k] : List Value), u.oneCell' = true := fun u hu => by simp at hu; subst hu; rfl
  obtain ⟨v', w', hrun, ho, hg, _, hl⟩ := run_append_own_at (P := Tryd.prog) (w := w) base 31 ty 3 i0 _ 1 8 Tryd.underlying31 hi hz0 hz1 hz2 rfl (by decide) sv ks.length (ks.map (Value.int .i64)) hown ⟨tb, 0, none⟩ 1 1 [.int .i64 k] rfl hnews hone (by unfold maxLen; omega) (by omega) hbase
  have ho' : OwnI w' base v' (ks ++ [k]) := by
    unfold OwnI OwnN
    rw [List.length_append, List.map_append]
    exact ho
  refine ⟨v', w', hrun, ho', hg, fun b hb => ?_, fun W'' h1 h2 => ?_⟩
  · rcases hl with e | e
    · exact .inl (e ▸ hb)
    · rw [e] at hb
      injection hb with hb
      exact .inr (by omega)
  rcases ownI_cases hown with ⟨rfl, rfl⟩ | ⟨g, cap, cur, rfl, h3, h4, h5, h6, h7, h8⟩
  · exact OwnI.nil _ _
  by_cases hroom : ks.length + 1 ≤ cap
  · have hr := run_append_room (P := Tryd.prog) (w := w) 31 ty 3 i0 Tryd.underlying31 hi g ks.length cap cur h4 ⟨tb, 0, none⟩ 1 1 [.int .i64 k] (by rw [hz1]; rfl) hnews hone hroom (by rw [hz1, h7]; show ks.length * 1 + 1 ≤ cap; omega)
    rw [hrun] at hr
    injection hr with e1 e2
    rw [e1] at h1
    rcases ownI_cases h1 with ⟨e, -⟩ | ⟨g', cap', cur', e, q3, q4, q5, q6, q7, q8⟩
    · cases e
    · injection e with e3 e4 e5
      injection e3 with e3
      injection e3 with e3
      subst e3
      subst e5
      refine ownI_of q3 q4 h5 h6 q7 ?_
      have e9 : cur'.toList.take ks.length = (cur'.toList.take (ks ++ [k]).length).take ks.length := by rw [List.take_take, List.length_append, Nat.min_eq_left (by omega)]
      rw [e9, q8, List.map_append, List.take_append_of_le_length (by simp)]
      exact List.take_of_length_le (by simp)
  · have hr := run_append_grow (P := Tryd.prog) (w := w) 31 ty 3 i0 _ Tryd.underlying31 hi hz0 ⟨g, 0, none⟩ ks.length cap (ks.map (Value.int .i64)) (by rw [hz1]; simp) (fun j u hu => by
      rw [Addr.add_lit, Nat.zero_add]
      have hj : j < ks.length := by have := (List.getElem?_eq_some_iff.1 hu).1; simpa using this
      rw [← h8, List.getElem?_take_of_lt hj] at hu
      simp [World.cell?, h4]
      simpa using hu) ⟨tb, 0, none⟩ 1 1 [.int .i64 k] (by rw [hz1]; rfl) hnews (by omega) (by omega) (by
        rw [hz2]
        unfold Builtin.nextslicecap
        split
        · omega
        · split
          · omega
          · omega)
    rw [hrun] at hr
    injection hr with e1 e2
    have hglt : g < w.heap.size := (Array.getElem?_eq_some_iff.1 h4).1
    have h9 := h2 g rfl (by rw [e1]; intro e; injection e with e; simp at e; omega)
    refine ownI_of h3 (h9.trans ?_) h5 h6 h7 h8
    rw [e2]
    exact (blk_alloc_lt _ _ _ hglt).trans h4

/-- the iterator: what it was made of lies in two boxes -/
structure PaW (W : World) (bt bs : Nat) (k z : Int) (vw vb vk sv : Value) : Prop where
  node : TBox W bt k z vw vb vk
  steps : Bx W bs 31 sv
set_option maxRecDepth 100000 in
set_option maxHeartbeats 1000000 in
theorem paths_any (k z : Int) (A1 : Option Addr) (n1 c1 : Nat) (A2 : Option Addr) (n2 c2 : Nat) (A3 : Option Addr) (n3 c3 : Nat) (A : Option Addr) (n c : Nat) (w : World) :
    Calls Tryd.prog 48 #[.agg (cellsT k z (.slice A1 n1 c1) (.slice A2 n2 c2) (.slice A3 n3 c3)), .slice A n c] w fun e w' => e = .returned (.func (.func 78) #[] #[.pointer (some ⟨w.heap.size, 0, none⟩), .pointer (some ⟨w.heap.size + 1, 0, none⟩)]) ∧ w' = (w.alloc (.cells (cellsT k z (.slice A1 n1 c1) (.slice A2 n2 c2) (.slice A3 n3 c3)) 37)).alloc (.cells #[.slice A n c] 31) := by
  have hmf : ∀ (fn : Fn) (first cap : Array Value) (w : World), (Instr.makeFunc fn first cap).run Tryd.prog w = .ok (.func fn first cap) w := fun _ _ _ _ => rfl
  unfold cellsT
  go_enter Tryd.func48, Tryd.ntmps48
  go_wp2_with fail
  go_ret
  exact ⟨rfl, rfl⟩

end Go.Proofs.YtdfldfnjjjcleaaDoor

namespace Go.Proofs.YtdfldfnjjjcleaaDoor
open Go.RowKit Go.Shelf Go.Deep

attribute [local go_sem] Oper.semAt_some

def marks (Ds : List Nat) : List Deferred := Ds.map (fun D => { target := .collected D, args := #[] })
theorem leaves_marks {n : Nat} {P : Program} {fn : Func} {tmps : Array Value} {R : Ending → World → Prop} : (Ds : List Nat) → (W : World) → Ds.Nodup → (∀ D ∈ Ds, W.heap[D]? = some (.deferred (some []))) → (∀ W', Mv (fun b => b ∈ Ds) W W' → LeavesIn Fence.wide n P fn tmps R [] .returning W') → LeavesInM Fence.wide n P fn tmps R (marks Ds) .returning W
  | [], W, _, _, h => h W (Mv.refl _ _)
  | D :: Ds, W, hn, hd, h => by
    rw [List.nodup_cons] at hn
    refine ⟨by simp, .inl ⟨D, _, rfl, run_takeDeferred (hd D (List.mem_cons_self ..)), ?_⟩⟩
    refine leaves_marks Ds _ hn.2 (fun D' h' => ?_) (fun W' hm => h W' ?_)
    · exact (World.putObj_heap_other (fun e => hn.1 (by rw [← e]; exact h'))).trans (hd D' (List.mem_cons_of_mem _ h'))
    · exact ((Mv.putObj W D (.deferred none)).mono (fun b _ e => by subst e; exact List.mem_cons_self ..) : Mv (fun b => b ∈ D :: Ds) W _).trans hm (fun b _ e => List.mem_cons_of_mem _ e)

/-- the box of a round that a caller asks for -/
def YBox (W : World) (b l : Nat) : Prop := Bx W b 142 (.func (.yield l) #[] #[])
/-- what the iterator tells of trees -/
def PathsK (t : Tr) : Prop := ∀ (m : Nat) (ks : List Int) (k z : Int) (A1 : Option Addr) (n1 c1 : Nat) (A2 : Option Addr) (n2 c2 : Nat) (A3 : Option Addr) (n3 c3 : Nat) (A : Option Addr) (n c : Nat) (bt bs base : Nat) (W : World),
  base ≤ W.heap.size → base ≤ bt → base ≤ bs → TrV W base t (.agg (cellsT k z (.slice A1 n1 c1) (.slice A2 n2 c2) (.slice A3 n3 c3))) → PaW W bt bs k z (.slice A1 n1 c1) (.slice A2 n2 c2) (.slice A3 n3 c3) (.slice A n c) → OwnI W base (.slice A n c) ks →
  (Value.slice A n c).ownBlock ≠ some bt → (Value.slice A n c).ownBlock ≠ some bs → FineT t → ks.length + highT t ≤ 32 →
  Tells Fence.wide m Tryd.prog 78 #[.pointer (some ⟨bt, 0, none⟩), .pointer (some ⟨bs, 0, none⟩)] EncP (pfx ks (fullP t)) base (fun b => b = bt ∨ b = bs ∨ (Value.slice A n c).ownBlock = some b) (fun b => (Value.slice A n c).ownBlock = some b) (fun W' => OwnI W' base (.slice A n c) ks) W
theorem RoundR.bool {α : Type} {I Ix : List α → (Nat → Prop) → World → Prop} {xs : List α} {C G : Nat → Prop} {W W' : World} {e : Ending} (h : RoundR I Ix xs C G W e W') : ∃ (bb : Bool) (C' : Nat → Prop), e = .returned (.bool bb) ∧ Mv C W W' ∧ (∀ b, C' b → C b ∨ G b ∨ W.heap.size ≤ b) ∧ (bb = true → I xs C' W') ∧ (bb = false → Ix xs C' W') := by
  obtain ⟨C', h1, h2, ⟨rfl, h3⟩ | ⟨rfl, h3⟩⟩ := h
  · exact ⟨true, C', rfl, h1, h2, fun _ => h3, fun h => (by cases h)⟩
  · exact ⟨false, C', rfl, h1, h2, fun h => (by cases h), fun _ => h3⟩
/-- between two rounds: what has been told, by whom which block may be turned -/
def Told (I : List (List Int × Int) → (Nat → Prop) → World → Prop) (xs : List (List Int × Int)) (C Y : Nat → Prop) (Z : World → Prop) (W : World) (by_ l : Nat) (wr : World) : Prop :=
  ∃ C' : Nat → Prop, I xs C' wr ∧ (∀ b, C' b → C b ∨ (W.heap.size ≤ b ∧ b ≠ by_)) ∧ Mv (fun b => C b ∨ Y b) W wr ∧ YBox wr by_ l ∧ Z wr
theorem told_step {C Y C' G C2 : Nat → Prop} {W wr w5 w6 : World} {l : Nat} (hCl : ∀ b, C b → b < W.heap.size) (hC' : ∀ b, C' b → C b ∨ (W.heap.size ≤ b ∧ b ≠ W.heap.size)) (hM : Mv (fun b => C b ∨ Y b) W wr) (hY : YBox wr W.heap.size l) (hB : Below wr.heap.size wr w5) (hG : ∀ b, G b → wr.heap.size ≤ b) (hm : Mv C' w5 w6) (hC2 : ∀ b, C2 b → C' b ∨ G b ∨ w5.heap.size ≤ b) :
    (∀ b, C2 b → C b ∨ (W.heap.size ≤ b ∧ b ≠ W.heap.size)) ∧ Mv (fun b => C b ∨ Y b) W w6 ∧ YBox w6 W.heap.size l ∧ (∀ b, b < W.heap.size → ¬ C b → w6.heap[b]? = w5.heap[b]?) := by
  have h1 := hM.size
  have h2 := hB.size
  have h3 := hY.lt
  have hk : ∀ b, b < W.heap.size → ¬ C b → w6.heap[b]? = w5.heap[b]? := fun b hb hn => hm.same b (by omega) (fun h => (hC' b h).elim hn (fun h => by omega))
  refine ⟨fun b hb => ?_, ?_, ?_, hk⟩
  · rcases hC2 b hb with h | h | h
    · exact hC' b h
    · exact .inr (by have := hG b h; omega)
    · exact .inr (by omega)
  · refine ⟨hm.os.trans (hB.os.trans hM.os), hm.tape.trans (hB.tape.trans hM.tape), hm.output.trans (hB.output.trans hM.output), by have := hm.size; omega, fun b hb hn => ?_⟩
    exact (hk b hb (fun h => hn (.inl h))).trans ((hB.block b (by omega)).trans (hM.same b hb hn))
  · refine (hm.same _ (by omega) (fun h => ?_)).trans ((hB.block _ h3).trans hY)
    rcases hC' _ h with h | h
    · have := hCl _ h; omega
    · exact h.2 rfl

theorem run_field_words (a b x d y : Int) (w : World) : (Instr.field 55 (.agg #[.int .i64 a, .int .i64 b, .int .i64 x, .int .i64 d, .int .u64 y]) 2).run Tryd.prog w = .ok (.int .i64 x) w := by kernel_rfl
/-- what is told of something itself: its first so many paths -/
def headP (j : Nat) : List (List Int × Int) := (List.range j).map (fun (i : Nat) => (([] : List Int), (i : Int) - 1))
theorem headP_next (ks : List Int) (j : Nat) : pfx ks (headP (j + 1)) = pfx ks (headP j) ++ [(ks, (j : Int) - 1)] := by
  unfold headP
  rw [List.range_succ, List.map_append, pfx_app]
  simp [pfx]
theorem headP_all (n : Nat) : headP (n + 1) = ([], -1) :: (List.range n).map (fun (i : Nat) => (([] : List Int), (i : Int))) := by
  unfold headP
  rw [List.range_succ_eq_map, List.map_cons, List.map_map]
  congr 1
  refine List.map_congr_left (fun i _ => ?_)
  show (([] : List Int), ((i + 1 : Nat) : Int) - 1) = _
  rw [show ((i + 1 : Nat) : Int) - 1 = i by omega]
theorem headP_pre {j n : Nat} (h : j ≤ n) : headP j <+: headP n := by
  unfold headP
  obtain ⟨d, rfl⟩ : ∃ d, n = j + d := ⟨n - j, by omega⟩
  rw [List.range_add, List.map_append]
  exact List.prefix_append _ _
theorem pfx_pre {ks : List Int} {a b : List (List Int × Int)} (h : a <+: b) : pfx ks a <+: pfx ks b := by
  obtain ⟨r, rfl⟩ := h
  rw [pfx_app]
  exact List.prefix_append _ _
theorem fullP_head (k z : Int) (w b : List Int) (kids : List Tr) : fullP (.mk k z w b kids) = headP (w.length + b.length + 1) ++ fullK kids 0 := by
  unfold fullP
  rw [headP_all]
  rfl

theorem end_marks {n : Nat} {P : Program} {fn : Func} {tmps : Array Value} {I Ix : List (List Int × Int) → (Nat → Prop) → World → Prop} {L : List (List Int × Int)} {C Y C' : Nat → Prop} {Z : World → Prop} {W wr : World}
    (hres : ∀ W', (results fn tmps).run P W' = .ok (.tuple #[]) W') (oI : Ours I) (oIx : Ours Ix) (hZ : ∀ A B : World, Z A → (∀ b, b < W.heap.size → B.heap[b]? = A.heap[b]?) → Z B) (Ds : List Nat)
    (h1 : ∀ b, C' b → C b ∨ W.heap.size ≤ b) (hM : Mv (fun b => C b ∨ Y b) W wr) (hz : Z wr) (hn : Ds.Nodup) (hD : ∀ D ∈ Ds, wr.heap[D]? = some (.deferred (some [])) ∧ ¬ C' D ∧ W.heap.size ≤ D)
    (h : I L C' wr ∨ ∃ pre, pre <+: L ∧ Ix pre C' wr) : LeavesInM Fence.wide n P fn tmps (TellR I Ix L C Y Z W) (marks Ds) .returning wr := by
  refine leaves_marks Ds wr hn (fun D hd => (hD D hd).1) (fun W' hm => ⟨_, hres W', ⟨_, rfl⟩, C', h1, ?_, ?_, ?_⟩)
  · exact hM.trans hm (fun b hb hd => absurd (hD b hd).2.2 (by omega))
  · exact hZ _ _ hz (fun b hb => hm.same b (Nat.lt_of_lt_of_le hb hM.size) (fun hd => absurd (hD b hd).2.2 (by omega)))
  · have hs : ∀ b, C' b → b < wr.heap.size → W'.heap[b]? = wr.heap[b]? := fun b hb hlt => hm.same b hlt (fun hd => (hD b hd).2.1 hb)
    exact h.elim (fun h => .inl (oI.on h (fun b hb => hs b hb (oI.lt h b hb)))) (fun ⟨pre, hp, h⟩ => .inr ⟨pre, hp, oIx.on h (fun b hb => hs b hb (oIx.lt h b hb))⟩)

/-- what the rounds of a Kid's paths keep: what the caller keeps, and the box of its round -/
def InI (I : List (List Int × Int) → (Nat → Prop) → World → Prop) (told : List (List Int × Int)) (by_ l : Nat) (pre : List (List Int × Int)) (C : Nat → Prop) (W : World) : Prop :=
  ∃ C1 : Nat → Prop, (∀ b, C b ↔ C1 b ∨ b = by_) ∧ ¬ C1 by_ ∧ I (told ++ pre) C1 W ∧ YBox W by_ l
def InX (Ix : List (List Int × Int) → (Nat → Prop) → World → Prop) (told : List (List Int × Int)) (by_ l : Nat) (c : Code) (pre : List (List Int × Int)) (C : Nat → Prop) (W : World) : Prop :=
  c = .ret ∧ InI Ix told by_ l pre C W
theorem ours_in {I : List (List Int × Int) → (Nat → Prop) → World → Prop} (h : Ours I) (told : List (List Int × Int)) (by_ l : Nat) : Ours (InI I told by_ l) := by
  refine ⟨fun {pre C A B} hi hs => ?_, fun {pre C A} hi b hb => ?_⟩
  · obtain ⟨C1, hC, hn, h1, h2⟩ := hi
    exact ⟨C1, hC, hn, h.on h1 (fun b hb => hs b ((hC b).2 (.inl hb))), (hs _ ((hC _).2 (.inr rfl))).trans h2⟩
  · obtain ⟨C1, hC, hn, h1, h2⟩ := hi
    rcases (hC b).1 hb with h' | rfl
    · exact h.lt h1 b h'
    · exact h2.lt
theorem ours_inx {Ix : List (List Int × Int) → (Nat → Prop) → World → Prop} (h : Ours Ix) (told : List (List Int × Int)) (by_ l : Nat) (c : Code) : Ours (InX Ix told by_ l c) :=
  ⟨fun hi hs => ⟨hi.1, (ours_in h told by_ l).on hi.2 hs⟩, fun hi b hb => (ours_in h told by_ l).lt hi.2 b hb⟩
theorem in_round {C C1 C2 G : Nat → Prop} {W2 W6 : World} {by_ l : Nat} (hC : ∀ b, C b ↔ C1 b ∨ b = by_) (hn : ¬ C1 by_) (hY : YBox W2 by_ l) (hG : ∀ b, G b → ¬ C b) (hm : Mv C1 W2 W6) (hC2 : ∀ b, C2 b → C1 b ∨ G b ∨ W2.heap.size ≤ b) :
    Mv C W2 W6 ∧ (∀ b, (C2 b ∨ b = by_) → C b ∨ G b ∨ W2.heap.size ≤ b) ∧ ¬ C2 by_ ∧ YBox W6 by_ l := by
  have hlt := hY.lt
  refine ⟨hm.mono (fun b _ h => (hC b).2 (.inl h)), fun b hb => ?_, fun h => ?_, (hm.same _ hlt hn).trans hY⟩
  · rcases hb with h | rfl
    · rcases hC2 b h with h | h | h
      · exact .inl ((hC b).2 (.inl h))
      · exact .inr (.inl h)
      · exact .inr (.inr h)
    · exact .inl ((hC _).2 (.inr rfl))
  · rcases hC2 _ h with h | h | h
    · exact hn h
    · exact hG _ h ((hC _).2 (.inr rfl))
    · omega
/-- between two Kids: what has been told, and the marks of the ranges that have ended -/
def ToldM (I : List (List Int × Int) → (Nat → Prop) → World → Prop) (xs : List (List Int × Int)) (C Y : Nat → Prop) (Z : World → Prop) (W : World) (l : Nat) (Ds : List Nat) (wr : World) : Prop :=
  ∃ C' : Nat → Prop, I xs C' wr ∧ (∀ b, C' b → C b ∨ (W.heap.size ≤ b ∧ b ≠ W.heap.size)) ∧ Mv (fun b => C b ∨ Y b) W wr ∧ YBox wr W.heap.size l ∧ Z wr ∧ Ds.Nodup ∧ ∀ D ∈ Ds, wr.heap[D]? = some (.deferred (some [])) ∧ ¬ C' D ∧ W.heap.size ≤ D ∧ D ≠ W.heap.size
theorem told_kid {C Y C' C'' C1 Y' : Nat → Prop} {Wb wr w W : World} {Ds : List Nat} (hC' : ∀ b, C' b → C b ∨ (Wb.heap.size ≤ b ∧ b ≠ Wb.heap.size)) (hM : Mv (fun b => C b ∨ Y b) Wb wr) (hYl : ∀ b, Y b → b < Wb.heap.size)
    (hD : ∀ D ∈ Ds, wr.heap[D]? = some (.deferred (some [])) ∧ ¬ C' D ∧ Wb.heap.size ≤ D ∧ D ≠ Wb.heap.size) (hn : Ds.Nodup) (hby : Wb.heap.size < wr.heap.size)
    (h9 : Mv Y wr w) (hY' : ∀ b, Y' b → Y b ∨ wr.heap.size ≤ b)
    (hC'' : ∀ b, C'' b → (C' b ∨ b = Wb.heap.size) ∨ w.heap.size + 2 ≤ b) (hMv : Mv (fun b => (C' b ∨ b = Wb.heap.size) ∨ Y' b) w W) (hk : W.heap[w.heap.size]? = some (.deferred (some []))) (hnk : ¬ C'' w.heap.size) (hC1 : ∀ b, C'' b ↔ C1 b ∨ b = Wb.heap.size) (hn1 : ¬ C1 Wb.heap.size) :
    (∀ b, C1 b → C b ∨ (Wb.heap.size ≤ b ∧ b ≠ Wb.heap.size)) ∧ Mv (fun b => C b ∨ Y b) Wb W ∧ (w.heap.size :: Ds).Nodup ∧ (∀ D ∈ w.heap.size :: Ds, W.heap[D]? = some (.deferred (some [])) ∧ ¬ C1 D ∧ Wb.heap.size ≤ D ∧ D ≠ Wb.heap.size) := by
  have s1 := hM.size
  have s2 := h9.size
  have s3 := hMv.size
  have hDl : ∀ D ∈ Ds, D < wr.heap.size := fun D hd => (Array.getElem?_eq_some_iff.1 (hD D hd).1).1
  refine ⟨fun b hb => ?_, ?_, ?_, fun D hd => ?_⟩
  · rcases hC'' b ((hC1 b).2 (.inl hb)) with (h | rfl) | h
    · exact hC' b h
    · exact absurd hb hn1
    · exact .inr (by omega)
  · refine (hM.trans h9 (fun b _ h => .inr h)).trans hMv (fun b hb h => ?_)
    rcases h with (h | h) | h
    · rcases hC' b h with h | h
      · exact .inl h
      · omega
    · omega
    · rcases hY' b h with h | h
      · exact .inr h
      · omega
  · rw [List.nodup_cons]
    exact ⟨fun h => by have := hDl _ h; omega, hn⟩
  · rw [List.mem_cons] at hd
    rcases hd with rfl | hd
    · exact ⟨hk, fun h => hnk ((hC1 _).2 (.inl h)), by omega, by omega⟩
    · obtain ⟨d1, d2, d3, d4⟩ := hD D hd
      have d5 := hDl D hd
      refine ⟨((hMv.same D (by omega) (fun h => ?_)).trans (h9.same D d5 (fun h => by have := hYl D h; omega))).trans d1, fun h => ?_, d3, d4⟩
      · rcases h with (h | h) | h
        · exact d2 h
        · exact d4 h
        · rcases hY' D h with h | h
          · have := hYl D h; omega
          · omega
      · rcases hC'' D ((hC1 D).2 (.inl h)) with (h | h) | h
        · exact d2 h
        · exact d4 h
        · omega
theorem step_append_run {P : Program} {ops : Array Oper} {o : Oper} {a : Act} {w : World} {K : Act → World → Prop} {Q : Exit → Act → World → Prop} {E : Prop} (hgd : o.guard = none) (s x : Operand) (t tn : TypeId)
    (ho : o.op = .call { callee := .builtin .append, args := #[s, x], argTypes := #[t, tn] }) (vs vx : Value) (hs : a.eval s = vs) (hx : a.eval x = vx)
    (v' : Value) (w' : World) (hr : (Builtin.append_ #[t, tn] o.type #[vs, vx]).run P w = .ok v' w') (h : K (a.put o.dst v') w') : if Region.wanted o (yielded ops a.tmps) = true then Oper.wp P o a w K Q else E := by
  have hw : Region.wanted o (yielded ops a.tmps) = true := by simp [Region.wanted, hgd]
  rw [if_pos hw]
  exact Lib.wp_append_run w s x t tn ho vs vx hs hx v' w' hr h

theorem wrap_next (q : Nat) (h : q + 1 ≤ 9223372036854775807) : wrap64 ((q : Int) + 1) = ((q + 1 : Nat) : Int) := by
  unfold wrap64
  omega
theorem kids_less {n q : Nat} (h : q < n) : ((n : Int) - ((q + 1 : Nat) : Int)).toNat < ((n : Int) - (q : Int)).toNat := by omega
theorem kids_high {kk zz : Int} {ws bs : List Int} {kids : List Tr} {n q : Nat} (hf : FineT (.mk kk zz ws bs kids)) (hh : n + highT (.mk kk zz ws bs kids) ≤ 32) (hq : q < kids.length) : FineT (kids[q]?.getD Tr.nil) ∧ n + 1 + highT (kids[q]?.getD Tr.nil) ≤ 32 := by
  unfold FineT at hf
  unfold highT at hh
  have := high_kid kids q hq
  exact ⟨fineAll_at kids hf.2 q, by omega⟩

set_option maxRecDepth 100000 in
set_option maxHeartbeats 4000000 in
theorem paths1_step (t : Tr) (ih : ∀ j, j < t.kids.length → PathsK (t.kids[j]?.getD Tr.nil)) : PathsK t := by
  intro m ks k z A1 n1 c1 A2 n2 c2 A3 n3 c3 A n c bt bs base W hbase hbt hbs hT hP hO hne1 hne2 hf hh l I Ix C oI oIx hC hR h0
  have HT := Lib.hid (fun X (hX : Mv (fun b => C b ∨ (Value.slice A n c).ownBlock = some b) W X) => TrV.below (hX.below hbase (fun b hb => hb.elim (fun h => (hC b h).1) (fun h => (ownI_lt hO b h).1))) (Nat.le_refl _) _ _ hT)
  have HP : Hid (∀ X, Mv (fun b => C b ∨ (Value.slice A n c).ownBlock = some b) W X → PaW X bt bs k z (.slice A1 n1 c1) (.slice A2 n2 c2) (.slice A3 n3 c3) (.slice A n c)) := Lib.hid (fun X hX => ⟨hP.node.of_block (hX.same _ hP.node.lt (fun h => h.elim (fun h => (hC _ h).2 (.inl rfl)) hne1)), (hX.same _ hP.steps.lt (fun h => h.elim (fun h => (hC _ h).2 (.inr (.inl rfl))) hne2)).trans hP.steps⟩)
  have HOI := Lib.hid oI
  have HOx := Lib.hid oIx
  have HRd := Lib.hid hR
  have HSh := Lib.hid (fun X (hX : Mv (fun b => C b ∨ (Value.slice A n c).ownBlock = some b) W X) => shape10_any t _ X (TrV.more (Nat.le_trans hbase hX.size) _ _ (HT.out X hX)) hf)
  obtain ⟨W1, hW1⟩ : ∃ W1, W1 = W.alloc (.cells #[.func (.yield l) #[] #[]] 142) := ⟨_, rfl⟩
  have hY1 : YBox W1 W.heap.size l := by rw [hW1]; unfold YBox Bx; rw [blk_alloc_new]
  have hM1 : Mv (fun b => C b ∨ (Value.slice A n c).ownBlock = some b) W W1 := by
    rw [hW1]
    exact (Mv.of_below ((Below.refl W.heap.size W).alloc (Nat.le_refl _) _)).mono (fun b hb (h : W.heap.size ≤ b) => by omega)
  have hI1 : I [] C W1 := oI.on h0 (fun b hb => by rw [hW1]; exact blk_alloc_lt _ _ _ (oI.lt h0 b hb))
  have HOl := Lib.hid (fun b (hb : C b) => oI.lt h0 b hb)
  have HCx := Lib.hid hC
  have HOw := Lib.hid hO
  have HBs := Lib.hid (And.intro hbase (And.intro hbt (And.intro hbs (And.intro hne1 hne2))))
  have HFirst : Hid (Told I (pfx ks (headP 0)) C (fun b => (Value.slice A n c).ownBlock = some b) (fun X => OwnI X base (.slice A n c) ks) W W.heap.size l W1) := Lib.hid ⟨C, hI1, fun b hb => .inl hb, hM1, hY1, ownI_keep hO (fun b hb => by rw [hW1]; exact blk_alloc_lt _ _ _ (ownI_lt hO b hb).2)⟩
  obtain ⟨kk, zz, ws, bs', kids⟩ := t
  obtain ⟨m1, hm1⟩ : ∃ m1, m1 = ws.length + bs'.length := ⟨_, rfl⟩
  have HL : Hid (fullP (.mk kk zz ws bs' kids) = headP (m1 + 1) ++ fullK kids 0) := Lib.hid (by rw [hm1]; exact fullP_head _ _ _ _ _)
  have HShv : Hid (∃ u1 u2 u4, shapeT (.mk kk zz ws bs' kids) = ⟨u1, u2, (m1 : Int), u4, 0⟩) := Lib.hid ⟨kk, zz, _, by rw [hm1]; rfl⟩
  have hm1b : m1 ≤ 2000000 := by
    obtain ⟨_, _, _, _, _, _, -, hg, -⟩ := hT.parts
    obtain ⟨-, -, g3, g4, -⟩ := hg
    omega
  have HLn : Hid (ks.length ≤ 32) := Lib.hid (by omega)
  obtain ⟨Z, hZ⟩ : ∃ Z, Z = pfx ks (fullP (.mk kk zz ws bs' kids)) := ⟨_, rfl⟩
  have HZ := Lib.hid hZ
  rw [← hZ] at HRd ⊢
  clear hY1 hM1 hI1 oI oIx hC h0 hT hP hO hne1 hne2 hbt hbs hR hm1 hZ
  refine (callsIn_wide (n := m)).2 ((callsIn_wide (n := 5)).1 ?_)
  refine callsIn_of_wp_marks Tryd.func78 rfl trivial ?_ rfl
  refine wpIn_mono (Q := NoPanic _) ?_ NoPanic.imp
  simp only [Tryd.ntmps78, List.size_toArray, List.length_cons, List.length_nil, Nat.reduceAdd, Nat.reduceSub, Array.replicate_succ, Array.replicate_zero, List.push_toArray, List.append_toArray, List.nil_append, List.cons_append]
  gi_wp2
  rw [← hW1]
  clear hW1
  gi_loopw [4] (fun i wr => ∃ j : Nat, j ≤ m1 + 1 ∧ i = .int .i64 ((j : Int) - 1) ∧ Told I (pfx ks (headP j)) C (fun b => (Value.slice A n c).ownBlock = some b) (fun X => OwnI X base (.slice A n c) ks) W W.heap.size l wr) (fun i _ => (m1 + 1 - (intOf i + 1)).toNat)
  case atStart => exact ⟨0, by omega, rfl, HFirst.out⟩
  case round =>
    obtain ⟨j, hj, rfl, hTold⟩ := hrel
    obtain ⟨C', hI, hC', hM, hY, hO⟩ := hTold
    have HO := Lib.hid hO
    have HI := Lib.hid hI
    have HC' := Lib.hid hC'
    have HM := Lib.hid hM
    have HY := Lib.hid hY
    have hp := HP.out wr hM
    obtain ⟨t0, t1, t2, t3, t4⟩ := hp.node.cells
    have HS2 := Lib.hid (HSh.out wr hM)
    obtain ⟨u1, u2, u4, hsv⟩ := HShv.out
    rw [hsv] at HS2
    unfold cellsV at HS2
    unfold cellsT at HS2
    dsimp only at HS2
    clear hI hC' hM hY hO hp hsv
    have hfd := run_field_words
    refine wpIn_wide.2 ?_
    go_wp2_with fail
    refine HS2.out.mono ?_
    rintro e w2 ⟨rfl, hB2⟩
    have HB2 := Lib.hid hB2
    clear hB2 t0 t1 t2 t3 t4
    by_cases hlt : (j : Int) - 1 < (m1 : Int)
    · have hwr := HM.out.size
      have hw2 := HB2.out.size
      have HMd : Hid (Mv (fun b => C b ∨ (Value.slice A n c).ownBlock = some b) W w2.drew) := Lib.hid ((HM.out.trans ((Mv.of_below HB2.out).mono (fun b hb (h : wr.heap.size ≤ b) => absurd hb (by omega)) : Mv (fun _ => False) wr w2) (fun _ _ h => h.elim)).trans (⟨rfl, rfl, rfl, Nat.le_refl _, fun _ _ _ => rfl⟩ : Mv (fun _ => False) w2 w2.drew) (fun _ _ h => h.elim))
      have hp2 := HP.out _ HMd.out
      have HOd : Hid (OwnI w2.drew base (.slice A n c) ks) := Lib.hid (ownI_keep HO.out (fun b hb => HB2.out.block b (ownI_lt HO.out b hb).2))
      have HCl := Lib.hid (clone_i64 (.slice A n c) ks w2.drew (OwnN.numS HOd.out) (by have := HLn.out; omega))
      have HYd : Hid (∀ w5 v', OwnI w5 w2.drew.heap.size v' ks → Below w2.drew.heap.size w2.drew w5 → YieldAt Fence.wide (5 - 1) Tryd.prog l #[.agg #[v', .int .i64 ((j : Int) - 1)]] w5 (RoundR I Ix (pfx ks (headP (j + 1))) C' (fun b => v'.ownBlock = some b) w5)) := Lib.hid (fun w5 v' ho hB => by
        have h := HRd.out (5 - 1) (pfx ks (headP j)) (ks, (j : Int) - 1) (.agg #[v', .int .i64 ((j : Int) - 1)]) C' (fun b => v'.ownBlock = some b) w5 (HOI.out.on HI.out (fun b hb => (hB.block b (Nat.lt_of_lt_of_le (HOI.out.lt HI.out b hb) HB2.out.size)).trans (HB2.out.block b (HOI.out.lt HI.out b hb)))) (by
          rw [← headP_next, HZ.out, HL.out, pfx_app]
          exact (pfx_pre (headP_pre (by omega))).trans (List.prefix_append _ _)) ⟨v', rfl, OwnN.numP ho⟩ (fun b hb => by
          have h1 := ownI_lt ho b hb
          have h2 : w2.drew.heap.size = w2.heap.size := rfl
          refine ⟨by have := HBs.out.1; omega, h1.2, fun hc => ?_⟩
          have := HOI.out.lt HI.out b hc
          omega)
        rw [← headP_next] at h
        exact h)
      have hcs : w2.drew.cell? ⟨bs, 0, none⟩ = some (.slice A n c) := hp2.steps.cell.1
      have hy2 : YBox w2.drew W.heap.size l := (HB2.out.block _ HY.out.lt).trans HY.out
      have hcy : w2.drew.cell? ⟨W.heap.size, 0, none⟩ = some (.func (.yield l) #[] #[]) := Bx.cell (w := w2.drew) hy2 |>.1
      have HYb := Lib.hid hy2
      have HCc : Hid (∀ X, Below w2.drew.heap.size w2.drew X → X.cell? ⟨bs, 0, none⟩ = some (.slice A n c) ∧ X.cell? ⟨W.heap.size, 0, none⟩ = some (.func (.yield l) #[] #[])) := Lib.hid (fun X hX => ⟨(hX.cell (p := ⟨bs, 0, none⟩) (by show bs < w2.drew.heap.size; exact hp2.steps.lt)).trans hp2.steps.cell.1, (Bx.cell (w := X) (Bx.on (w := w2.drew) hy2 hX)).1⟩)
      clear hp2 hy2
      go_upto_region 4 with fail
      refine (wpIn_wide (n := 5)).1 ?_
      gi_region_with (first
        | (refine ⟨trivial, ?_⟩; refine (callsIn_wide.2 HCl.out).mono ?_; rintro e w5 ⟨v', rfl, ho, hB5⟩; obtain ⟨A', c', rfl⟩ := (OwnN.numP ho).form; obtain ⟨fn, tmps, assign, body, hy, hRd⟩ := HYd.out w5 _ ho hB5; obtain ⟨hcs5, hcy5⟩ := HCc.out w5 hB5)
        | (refine hRd.mono ?_; intro e w6 hr6; obtain ⟨bb, C2, he6, hm6, hC6, hI6, hx6⟩ := hr6.bool; subst he6; clear hr6))
      all_goals
        have HEnd := Lib.hid (told_step HOl.out HC'.out HM.out HY.out (HB2.out.drew.trans (hB5.mono HB2.out.size)) (fun b hb => by have := ownI_lt ho b hb; have h2 : w2.drew.heap.size = w2.heap.size := rfl; omega) hm6 hC6)
        have HO6 : Hid (OwnI w6 base (.slice A n c) ks) := Lib.hid (by
          refine ownI_keep HOd.out (fun b hb => ?_)
          have h1 := ownI_lt HOw.out b hb
          exact (HEnd.out.2.2.2 b h1.2 (fun h => (HCx.out b h).2 (.inr (.inr hb)))).trans (hB5.block b (ownI_lt HOd.out b hb).2))
        have HI6 := Lib.hid (And.intro hI6 hx6)
        clear hm6 hC6 hI6 hx6 ho hB5 hcs5 hcy5 hy hRd
        simp [Act.put]
        cases bb with
        | true =>
          have HI7 := Lib.hid (HI6.out.1 rfl)
          go_wp2_with fail
          refine ⟨⟨j + 1, by omega, congrArg (Value.int .i64) (by omega), C2, HI7.out, HEnd.out.1, HEnd.out.2.1, HEnd.out.2.2.1, HO6.out⟩, ?_⟩
          show ((m1 : Int) + 1 - ((j : Int) + 1)).toNat < ((m1 : Int) + 1 - ((j : Int) - 1 + 1)).toNat
          omega
        | false =>
          have HX7 : Hid (TellR I Ix Z C (fun b => (Value.slice A n c).ownBlock = some b) (fun X => OwnI X base (.slice A n c) ks) W (.returned (.tuple #[])) w6) := Lib.hid ⟨⟨_, rfl⟩, C2, fun b hb => (HEnd.out.1 b hb).elim .inl (fun h => .inr h.1), HEnd.out.2.1, HO6.out, .inr ⟨_, (by
            rw [HZ.out, HL.out, pfx_app]
            exact (pfx_pre (headP_pre (by omega))).trans (List.prefix_append _ _)), HI6.out.2 rfl⟩⟩
          go_wp2_with fail
          exact ⟨_, results_none rfl _ _ _, HX7.out⟩
    · obtain rfl : j = m1 + 1 := by omega
      have hwr := HM.out.size
      have HM2 : Hid (Mv (fun b => C b ∨ (Value.slice A n c).ownBlock = some b) W w2) := Lib.hid (HM.out.trans ((Mv.of_below HB2.out).mono (fun b hb (h : wr.heap.size ≤ b) => absurd hb (by omega)) : Mv (fun _ => False) wr w2) (fun _ _ h => h.elim))
      have HO2 : Hid (OwnI w2 base (.slice A n c) ks) := Lib.hid (ownI_keep HO.out (fun b hb => HB2.out.block b (ownI_lt HO.out b hb).2))
      have HI2 : Hid (I (pfx ks (headP (m1 + 1))) C' w2) := Lib.hid (HOI.out.on HI.out (fun b hb => HB2.out.block b (HOI.out.lt HI.out b hb)))
      have HY2 : Hid (YBox w2 W.heap.size l) := Lib.hid ((HB2.out.block _ HY.out.lt).trans HY.out)
      have hp := HP.out w2 HM2.out
      have hcs : w2.cell? ⟨bs, 0, none⟩ = some (.slice A n c) := hp.steps.cell.1
      obtain ⟨t0, t1, t2, t3, t4⟩ := hp.node.cells
      have hn : n = ks.length := by
        rcases ownI_cases HO2.out with ⟨e, e2⟩ | ⟨g, cap, cur, e, -⟩
        · injection e with e3 e4 e5
          rw [e4, e2]
          rfl
        · injection e with e3 e4 e5
      have hn3 : n3 = kids.length := by
        obtain ⟨_, _, _, _, _, _, e, -⟩ := (HT.out w2 HM2.out).parts
        unfold cellsT at e
        injection e with e
        have := congrArg (fun x => x[4]?) e
        simp at this
        exact this.2.1
      by_cases h32 : n = 32
      · have hk0 : kids = [] := by
          unfold highT at hh
          cases kids with
          | nil => rfl
          | cons t r => unfold highAll at hh; omega
        have HX7 : Hid (TellR I Ix Z C (fun b => (Value.slice A n c).ownBlock = some b) (fun X => OwnI X base (.slice A n c) ks) W (.returned (.tuple #[])) w2) := Lib.hid ⟨⟨_, rfl⟩, C', fun b hb => (HC'.out b hb).elim .inl (fun h => .inr h.1), HM2.out, HO2.out, .inl (by
          rw [HZ.out, HL.out, hk0]
          unfold fullK
          rw [List.append_nil]
          exact HI2.out)⟩
        have h321 : (n : Int) = 32 := by omega
        go_wp2_with fail
        refine wpIn_wide.2 ?_
        go_wp2_with fail
        exact ⟨_, results_none rfl _ _ _, HX7.out⟩
      · have h321 : ¬ (n : Int) = 32 := by omega
        clear hp
        go_wp2_with fail
        refine wpIn_wide.2 ?_
        go_wp2_with fail
        refine (wpIn_wide (n := 5)).1 ?_
        clear hcs t0 t1 t2 t3 t4
        subst hn3
        subst hn
        have HZk : Hid (∀ A' B' : World, OwnI A' base (.slice A ks.length c) ks → (∀ b, b < W.heap.size → B'.heap[b]? = A'.heap[b]?) → OwnI B' base (.slice A ks.length c) ks) := Lib.hid (fun A' B' hz hs => ownI_keep hz (fun b hb => hs b (ownI_lt HOw.out b hb).2))
        have HFirst2 : Hid (ToldM I (pfx ks (headP (m1 + 1) ++ fullK (kids.take 0) 0)) C (fun b => (Value.slice A ks.length c).ownBlock = some b) (fun X => OwnI X base (.slice A ks.length c) ks) W l [] w2) := Lib.hid ⟨C', by
          rw [List.take_zero]
          unfold fullK
          rw [List.append_nil]
          exact HI2.out, HC'.out, HM2.out, HY2.out, HO2.out, List.nodup_nil, fun D hd => by cases hd⟩
        refine wpIn_loop (fun a w => ∃ (q : Nat) (Ds : List Nat) (u5 u6 u7 u24 u29 u30 u31 u32 u33 u34 u35 u36 u37 u38 u39 u40 u41 u42 u43 u44 : Value), q ≤ kids.length ∧ a = { tmps := #[.func (.yield l) #[] #[], .pointer (some ⟨bt, 0, none⟩), .pointer (some ⟨bs, 0, none⟩), .pointer (some ⟨W.heap.size, 0, none⟩), .int .i64 m1, u5, u6, u7, .int .i64 m1, .agg #[.int .i64 k, .int .i64 z, .slice A1 n1 c1, .slice A2 n2 c2, .slice A3 kids.length c3], .agg #[.int .i64 u1, .int .i64 u2, .int .i64 m1, .int .i64 u4, .int .u64 0], .int .i64 m1, .bool false, u13, u14, u15, u16, u17, u18, u19, u20, u21, .slice A ks.length c, .int .i64 ks.length, u24, .pointer (some ⟨bt, 4, none⟩), .slice A3 kids.length c3, .int .i64 kids.length, .int .i64 q, u29, u30, u31, u32, u33, u34, u35, u36, u37, u38, u39, u40, u41, u42, u43, u44], defers := marks Ds } ∧ ToldM I (pfx ks (headP (m1 + 1) ++ fullK (kids.take q) 0)) C (fun b => (Value.slice A ks.length c).ownBlock = some b) (fun X => OwnI X base (.slice A ks.length c) ks) W l Ds w) (fun a _ => ((kids.length : Int) - intOf (a.tmps.getD 28 undef)).toNat) ?_ ?_
        · refine ⟨0, [], undef, undef, undef, .bool ((ks.length : Int) == 32), undef, undef, undef, undef, undef, undef, undef, undef, undef, undef, undef, undef, undef, undef, undef, undef, Nat.zero_le _, ?_, HFirst2.out⟩
          rfl
        · rintro a wr ⟨q, Ds, v5, v6, v7, v24, v29, v30, v31, v32, v33, v34, v35, v36, v37, v38, v39, v40, v41, v42, v43, v44, hq, rfl, hTold⟩
          obtain ⟨C2, hI, hC2, hM, hY, hO, hDn, hDs⟩ := hTold
          have HI := Lib.hid hI
          have HC2 := Lib.hid hC2
          have HM := Lib.hid hM
          have HY := Lib.hid hY
          have HO := Lib.hid hO
          have HDn := Lib.hid hDn
          have HDs := Lib.hid hDs
          clear hI hC2 hM hY hO hDn hDs
          by_cases hlt : q < kids.length
          · obtain ⟨_, _, _, _, A3', c3', e3, -, -, -, hc3, hm3, hkid⟩ := (HT.out wr HM.out).parts
            have e3' : Value.slice A3 kids.length c3 = .slice A3' kids.length c3' := by
              unfold cellsT at e3
              injection e3 with e3
              have := congrArg (fun x => x[4]?) e3
              simpa using this
            injection e3' with e4 e5 e6
            subst e4
            have HQ : Hid (wrap64 ((q : Int) + 1) = ((q + 1 : Nat) : Int)) := Lib.hid (wrap_next q (by clear HI HM HC2 HY; omega))
            clear e3 e5 e6 hc3 hm3
            obtain ⟨b3, off3, rfl, hb3, hkj⟩ := hkid (by omega)
            obtain ⟨k', z', vw, vb, vk, p0, p1, p2, p3, p4, hTk⟩ := hkj q hlt
            obtain ⟨A4, n4, c4, A5, n5, c5, A6, n6, c6, rfl, rfl, rfl⟩ := hTk.three
            have HTk := Lib.hid hTk
            have HIh : Hid (PathsK (kids[q]?.getD Tr.nil)) := Lib.hid (ih q hlt)
            clear hkid hkj hTk
            obtain ⟨W3, hW3⟩ : ∃ W3, W3 = wr.alloc (.cells #[.int .i64 k', .int .i64 z', .slice A4 n4 c4, .slice A5 n5 c5, .slice A6 n6 c6] 37) := ⟨_, rfl⟩
            have hwr := HM.out.size
            have hyl := HY.out.lt
            have hB3 : Below wr.heap.size wr W3 := by rw [hW3]; exact (Below.refl _ _).alloc (Nat.le_refl _) _
            have hs3 : W3.heap.size = wr.heap.size + 1 := by rw [hW3]; simp
            have hX3 : TBox W3 wr.heap.size k' z' (.slice A4 n4 c4) (.slice A5 n5 c5) (.slice A6 n6 c6) := by rw [hW3]; exact TBox.new _ _ _ _ _ _
            have hS3 : Bx W3 bs 31 (.slice A ks.length c) := ((hB3.block bs (by have := (HP.out wr HM.out).steps.lt; omega)).trans (HP.out wr HM.out).steps)
            obtain ⟨W4, hW4⟩ : ∃ W4, W4 = (W3.alloc (.cells #[.int .i64 q] 3)).drew := ⟨_, rfl⟩
            have hB4 : Below W3.heap.size W3 W4 := by rw [hW4]; exact ((Below.refl W3.heap.size W3).alloc (Nat.le_refl _) _).drew
            have hs4 : W4.heap.size = wr.heap.size + 2 := by rw [hW4]; show (W3.alloc _).heap.size = _; rw [World.size_alloc]; omega
            have hO4 : OwnI W4 base (.slice A ks.length c) ks := ownI_keep HO.out (fun b hb => by
              have hl := (ownI_lt HO.out b hb).2
              exact (hB4.block b (by omega)).trans (hB3.block b hl))
            obtain ⟨v', w5, hrun, ho5, hg5, hv5, hkeep5⟩ := append_keep W4 base 31 (.slice A ks.length c) ks q W3.heap.size hO4 (by rw [hW4]; exact (Bx.cell (w := W3.alloc _) (b := W3.heap.size) (t := 3) (blk_alloc_new _ _)).1) (by have := HLn.out; omega) (by have := HBs.out.1; omega)
            obtain ⟨A5', c5', rfl⟩ := (OwnN.numP ho5).form
            have hgs5 := hg5.size
            have hownA : ∀ b, (Value.slice A ks.length c).ownBlock = some b → b < W.heap.size ∧ ¬ C b ∧ b ≠ bs ∧ b ≠ wr.heap.size := fun b hb => ⟨(ownI_lt HOw.out b hb).2, fun h => (HCx.out b h).2 (.inr (.inr hb)), fun e => HBs.out.2.2.2.2 (e ▸ hb), fun e => by have := (ownI_lt HOw.out b hb).2; omega⟩
            have hX5 : TBox w5 wr.heap.size k' z' (.slice A4 n4 c4) (.slice A5 n5 c5) (.slice A6 n6 c6) := ((hg5.block _ (by omega) (fun e => (hownA _ e.symm).2.2.2 rfl)).trans (hB4.block _ (by omega))).trans hX3
            have hS5 : Bx w5 bs 31 (.slice A ks.length c) := ((hg5.block _ (by have := hS3.lt; omega) (fun e => (hownA _ e.symm).2.2.1 rfl)).trans (hB4.block _ hS3.lt)).trans hS3
            have HE0 := Lib.hid (And.intro (TBox.cells (w := W3.drew) hX3) (Bx.cell (w := W3.drew) hS3).1)
            have HE4 := Lib.hid (And.intro (TBox.cells (w := W4) ((hB4.block _ (by omega)).trans hX3)) (Bx.cell (w := W4) ((hB4.block _ hS3.lt).trans hS3)).1)
            have HE5 := Lib.hid (And.intro (TBox.cells (w := w5) hX5) (Bx.cell (w := w5) hS5).1)
            have HE8 : Hid (∀ o1 o2, (((w5.alloc o1).alloc o2).cell? ⟨wr.heap.size, 0, none⟩ = some (.int .i64 k') ∧ ((w5.alloc o1).alloc o2).cell? ⟨wr.heap.size, 1, none⟩ = some (.int .i64 z') ∧ ((w5.alloc o1).alloc o2).cell? ⟨wr.heap.size, 2, none⟩ = some (.slice A4 n4 c4) ∧ ((w5.alloc o1).alloc o2).cell? ⟨wr.heap.size, 3, none⟩ = some (.slice A5 n5 c5) ∧ ((w5.alloc o1).alloc o2).cell? ⟨wr.heap.size, 4, none⟩ = some (.slice A6 n6 c6)) ∧ ((w5.alloc o1).alloc o2).cell? ⟨bs, 0, none⟩ = some (.slice A ks.length c)) := Lib.hid (fun o1 o2 => by
              have hb := ((Below.refl w5.heap.size w5).alloc (Nat.le_refl _) o1).alloc (by simp) o2
              exact And.intro (TBox.cells (w := (w5.alloc o1).alloc o2) (hX5.on hb)) (Bx.cell (w := (w5.alloc o1).alloc o2) (hS5.on hb)).1)
            have HRun := Lib.hid hrun
            clear hrun
            rw [hW4] at HRun HE4
            refine wpIn_wide.2 ?_
            go_upto_region 9 with fail
            rw [← hW3]
            have HSz := Lib.hid (And.intro hs3 (And.intro hs4 (And.intro hgs5 (And.intro hB3 (And.intro hB4 hg5)))))
            have HO5 := Lib.hid (And.intro ho5 (And.intro hv5 hkeep5))
            clear hW3 hs3 hs4 hgs5 hwr hyl hB3 hX3 hS3 hB4 hO4 hg5 ho5 hv5 hkeep5 hownA hX5 hS5 p0 p1 p2 p3 p4 hW4
            go_region_held_law (fun w' => (w'.cell? ⟨wr.heap.size, 0, none⟩ = some (.int .i64 k') ∧ w'.cell? ⟨wr.heap.size, 1, none⟩ = some (.int .i64 z') ∧ w'.cell? ⟨wr.heap.size, 2, none⟩ = some (.slice A4 n4 c4) ∧ w'.cell? ⟨wr.heap.size, 3, none⟩ = some (.slice A5 n5 c5) ∧ w'.cell? ⟨wr.heap.size, 4, none⟩ = some (.slice A6 n6 c6)) ∧ w'.cell? ⟨bs, 0, none⟩ = some (.slice A ks.length c)) (with_reducible first | exact HE0.out | exact HE4.out | exact HE5.out | exact HE8.out _ _) (first
              | (refine step_append_run (by rfl) _ _ _ _ (by rfl) _ _ (by rfl) (by rfl) _ _ HRun.out ?_)
              | (go_at_call 48; refine (paths_any _ _ _ _ _ _ _ _ _ _ _ _ _ _ _).mono ?_; rintro e w8 ⟨rfl, rfl⟩))
            go_wp2_with fail
            obtain ⟨w9, hw9⟩ : ∃ w9, w9 = (w5.alloc (.cells (cellsT k' z' (.slice A4 n4 c4) (.slice A5 n5 c5) (.slice A6 n6 c6)) 37)).alloc (.cells #[.slice A5' (ks.length + 1) c5'] 31) := ⟨_, rfl⟩
            rw [← hw9]
            have HSz9 : Hid (w9.heap.size = w5.heap.size + 2 ∧ Below w5.heap.size w5 w9) := Lib.hid ⟨by rw [hw9]; simp, by rw [hw9]; exact ((Below.refl w5.heap.size w5).alloc (Nat.le_refl _) _).alloc (by simp) _⟩
            have HBt : Hid (TBox w9 w5.heap.size k' z' (.slice A4 n4 c4) (.slice A5 n5 c5) (.slice A6 n6 c6) ∧ Bx w9 (w5.heap.size + 1) 31 (.slice A5' (ks.length + 1) c5')) := Lib.hid (by
              obtain ⟨t1, t2, -, -⟩ := two_new10 w5 (cellsT k' z' (.slice A4 n4 c4) (.slice A5 n5 c5) (.slice A6 n6 c6)) #[.slice A5' (ks.length + 1) c5'] 37 31 w9 hw9
              exact ⟨t1, t2⟩)
            clear hw9
            have hlen : (ks ++ [(q : Int)]).length = ks.length + 1 := by simp
            rw [hlen] at HO5
            have HKd := Lib.hid (kids_high hf hh hlt)
            have HFc : Hid (Mv (fun b => (Value.slice A ks.length c).ownBlock = some b) wr w9 ∧ wr.heap.size + 2 ≤ w5.heap.size) := Lib.hid (by
              obtain ⟨s3, s4, s5, b3, b4, g5⟩ := HSz.out
              refine ⟨(((Mv.of_below b3).mono (fun b hb (h : wr.heap.size ≤ b) => absurd hb (by omega)) : Mv (fun _ => False) wr W3).trans ((Mv.of_below b4).mono (fun b hb (h : W3.heap.size ≤ b) => absurd hb (by omega)) : Mv (fun _ => False) W3 W4) (fun _ _ h => h)).mono (fun _ _ h => h.elim) |>.trans (Mv.of_grown g5) (fun _ _ h => h) |>.trans ((Mv.of_below HSz9.out.2).mono (fun b hb (h : w5.heap.size ≤ b) => absurd hb (by omega)) : Mv (fun _ => False) w5 w9) (fun _ _ h => h.elim), by omega⟩)
            obtain ⟨told, htold⟩ : ∃ told, told = pfx ks (headP (m1 + 1) ++ fullK (kids.take q) 0) := ⟨_, rfl⟩
            obtain ⟨kid, hkid⟩ : ∃ kid, kid = kids[q]?.getD Tr.nil := ⟨_, rfl⟩
            have HTold : Hid (told ++ pfx (ks ++ [(q : Int)]) (fullP kid) = pfx ks (headP (m1 + 1) ++ fullK (kids.take (q + 1)) 0) ∧ (told ++ pfx (ks ++ [(q : Int)]) (fullP kid)) <+: Z) := Lib.hid (by
              have e : told ++ pfx (ks ++ [(q : Int)]) (fullP kid) = pfx ks (headP (m1 + 1) ++ fullK (kids.take (q + 1)) 0) := by
                rw [htold, ← pfx_behind, ← pfx_app, List.append_assoc, List.take_add_one, List.getElem?_eq_getElem hlt, hkid]
                simp only [Option.toList_some]
                rw [fullK_app, List.length_take, Nat.min_eq_left (by omega), Nat.zero_add]
                congr 2
                rw [List.getElem?_eq_getElem hlt]
                simp [fullK]
              refine ⟨e, ?_⟩
              rw [e, HZ.out, HL.out]
              refine pfx_pre ?_
              rw [List.prefix_append_right_inj]
              refine ⟨fullK (kids.drop (q + 1)) (q + 1), ?_⟩
              have := fullK_app (kids.take (q + 1)) (kids.drop (q + 1)) 0
              rw [List.take_append_drop, List.length_take, Nat.min_eq_left (by omega), Nat.zero_add] at this
              exact this.symm)
            rw [← hkid] at HIh HTk HKd
            rw [← htold] at HI
            clear htold hkid
            have HC0 : Hid ((∀ b, C2 b → b < wr.heap.size ∧ base ≤ b ∧ b ≠ W.heap.size ∧ (Value.slice A ks.length c).ownBlock ≠ some b) ∧ W.heap.size < wr.heap.size) := Lib.hid ⟨fun b hb => by
              have h1 := HOI.out.lt HI.out b hb
              have h2 := HBs.out.1
              rcases HC2.out b hb with h | h
              · exact ⟨h1, (HCx.out b h).1, by have := HOl.out b h; omega, fun e => (HCx.out b h).2 (.inr (.inr e))⟩
              · exact ⟨h1, by omega, h.2, fun e => by have := (ownI_lt HOw.out b e).2; omega⟩, HY.out.lt⟩
            have HOw5 : Hid (∀ b, (Value.slice A5' (ks.length + 1) c5').ownBlock = some b → (Value.slice A ks.length c).ownBlock = some b ∨ (wr.heap.size + 2 ≤ b ∧ b < w5.heap.size)) := Lib.hid (fun b hb => by
              have h1 := ownI_lt HO5.out.1 b hb
              rcases HO5.out.2.1 b hb with h | h
              · exact .inl h
              · exact .inr ⟨by have := HSz.out.2.1; omega, h1.2⟩)
            have HI9 : Hid (InI I told W.heap.size l [] (fun b => C2 b ∨ b = W.heap.size) w9) := Lib.hid (by
              refine ⟨C2, fun _ => Iff.rfl, fun h => (HC0.out.1 _ h).2.2.1 rfl, ?_, ?_⟩
              · rw [List.append_nil]
                exact HOI.out.on HI.out (fun b hb => HFc.out.1.same b (HC0.out.1 b hb).1 (HC0.out.1 b hb).2.2.2)
              · exact (HFc.out.1.same _ HC0.out.2 (fun e => by have := (ownI_lt HOw.out _ e).2; omega)).trans HY.out)
            have HTl : Hid (∀ o, Tells Fence.wide (5 - 1) Tryd.prog 78 #[.pointer (some ⟨w5.heap.size, 0, none⟩), .pointer (some ⟨w5.heap.size + 1, 0, none⟩)] EncP (pfx (ks ++ [(q : Int)]) (fullP kid)) base (fun b => b = w5.heap.size ∨ b = w5.heap.size + 1 ∨ (Value.slice A5' (ks.length + 1) c5').ownBlock = some b) (fun b => (Value.slice A5' (ks.length + 1) c5').ownBlock = some b) (fun W' => OwnI W' base (.slice A5' (ks.length + 1) c5') (ks ++ [(q : Int)])) ((w9.alloc (.deferred (some []))).alloc (.loop o))) := Lib.hid (fun o => by
              have hs9 := HSz9.out.1
              have hb9 : Below w9.heap.size w9 ((w9.alloc (.deferred (some []))).alloc (.loop o)) := ((Below.refl w9.heap.size w9).alloc (Nat.le_refl _) _).alloc (by simp) _
              have hsz := hb9.size
              have hwr := HM.out.size
              have hbase := HBs.out.1
              have h5 := HFc.out.2
              refine HIh.out (5 - 1) (ks ++ [(q : Int)]) k' z' A4 n4 c4 A5 n5 c5 A6 n6 c6 A5' (ks.length + 1) c5' w5.heap.size (w5.heap.size + 1) base _ (by omega) (by omega) (by omega) ?_ ⟨HBt.out.1.on hb9, HBt.out.2.on hb9⟩ (ownI_keep HO5.out.1 (fun b hb => ?_)) (fun e => ?_) (fun e => ?_) HKd.out.1 (by rw [hlen]; exact HKd.out.2)
              · refine TrV.below (B' := base) ?_ (Nat.le_refl _) _ _ HTk.out
                exact (HFc.out.1.below (by omega) (fun b hb => (ownI_lt HOw.out b hb).1)).trans (hb9.mono (by omega))
              · have := (ownI_lt HO5.out.1 b hb).2
                exact (hb9.block b (by omega)).trans (HSz9.out.2.block b this)
              · have := (ownI_lt HO5.out.1 _ e).2; omega
              · have := (ownI_lt HO5.out.1 _ e).2; omega)
            have HOb : Hid (∀ W6 : World, Mv (fun b => (C2 b ∨ b = W.heap.size) ∨ (Value.slice A5' (ks.length + 1) c5').ownBlock = some b) w9 W6 → OwnI W6 base (.slice A5' (ks.length + 1) c5') (ks ++ [(q : Int)]) → OwnI W6 base (.slice A ks.length c) ks) := Lib.hid (fun W6 hM6 hO6 => by
              refine HO5.out.2.2 W6 hO6 (fun b hb hne => ?_)
              have hl := (ownI_lt HOw.out b hb).2
              have h5 := HFc.out.2
              have hw := HM.out.size
              refine (hM6.same b (by have := HSz9.out.1; omega) (fun h => ?_)).trans (HSz9.out.2.block b (by omega))
              rcases h with (h | h) | h
              · exact (HC0.out.1 b h).2.2.2 hb
              · omega
              · exact hne h)
            refine (wpIn_wide (n := 5)).1 ?_
            refine range_tells (base := base) (X := fun b => b = w5.heap.size ∨ b = w5.heap.size + 1 ∨ (Value.slice A5' (ks.length + 1) c5').ownBlock = some b) (Y := fun b => (Value.slice A5' (ks.length + 1) c5').ownBlock = some b) (Z := fun W' => OwnI W' base (.slice A5' (ks.length + 1) c5') (ks ++ [(q : Int)])) rfl rfl (gf := 78) (lb := #[.pointer (some ⟨w5.heap.size, 0, none⟩), .pointer (some ⟨w5.heap.size + 1, 0, none⟩)]) rfl trivial (enters_of Tryd.func78 (by kernel_rfl) rfl) (Enc := EncP) (L := pfx (ks ++ [(q : Int)]) (fullP kid)) ?hbase ?hX (fun b hb => .inr (.inr hb)) ?hZ HTl.out (InI I told W.heap.size l) (InX Ix told W.heap.size l) (ours_in HOI.out told W.heap.size l) (fun c => ours_inx HOx.out told W.heap.size l c) (fun b => C2 b ∨ b = W.heap.size) ?hC0 HI9.out ?body ?done ?stop
            case hbase =>
              have := HSz9.out.1; have := HFc.out.2; have := HC0.out.2; have := HBs.out.1; omega
            case hX =>
              have hs9 := HSz9.out.1
              rintro b (h | h | h)
              · omega
              · omega
              · have := (ownI_lt HO5.out.1 b h).2; omega
            case hZ => exact fun A' B' hz hs => ownI_keep hz (fun b hb => hs b (by have := (ownI_lt HO5.out.1 b hb).2; have := HSz9.out.1; omega))
            case hC0 =>
              have h5 := HFc.out.2
              have h0 := HC0.out.2
              have hb0 := HBs.out.1
              rintro b (h | rfl)
              · obtain ⟨q1, q2, q3, q4⟩ := HC0.out.1 b h
                refine ⟨q2, fun e => ?_⟩
                rcases e with e | e | e
                · omega
                · omega
                · rcases HOw5.out b e with e | e
                  · exact q4 e
                  · omega
              · refine ⟨hb0, fun e => ?_⟩
                rcases e with e | e | e
                · omega
                · omega
                · rcases HOw5.out _ e with e | e
                  · have := (ownI_lt HOw.out _ e).2; omega
                  · omega
            case body =>
              intro m' pre x v C3 G Wr hI3 hpre henc hG hcn hcn1 hsz hrec K hK
              obtain ⟨C1, hc1, hn1, hi3, hy3⟩ := hI3
              obtain ⟨sv, rfl, hnum⟩ := henc
              obtain ⟨A7, c7, rfl⟩ := hnum.form
              have hMa : Mv (fun _ => False) Wr (Wr.alloc (.cells #[.slice A7 x.1.length c7, .int .i64 x.2] 33)) := (Mv.of_below ((Below.refl Wr.heap.size Wr).alloc (Nat.le_refl _) _)).mono (fun b hb (h : Wr.heap.size ≤ b) => absurd hb (by omega))
              have hcell := blk_alloc_new Wr (.cells #[.slice A7 x.1.length c7, .int .i64 x.2] 33)
              have hKk := Lib.hid (hK)
              gi_wp2
              refine hKk.out _ _ hMa (fun W2 hm2 hs2 hr2 => ?_)
              have hwl : ∀ b, b < Wr.heap.size → b ≠ w9.heap.size + 1 → W2.heap[b]? = Wr.heap[b]? := fun b hb hn => (hm2.same b (by rw [World.size_alloc]; omega) hn).trans (blk_alloc_lt _ _ _ hb)
              have hW2s : Wr.heap.size < W2.heap.size := by rw [hs2, World.size_alloc]; omega
              have hnew : W2.heap[Wr.heap.size]? = some (.cells #[.slice A7 x.1.length c7, .int .i64 x.2] 33 (0, 0)) := (hm2.same _ (by rw [World.size_alloc]; omega) (by omega)).trans hcell
              have hy2 : YBox W2 W.heap.size l := (hwl _ hy3.lt (fun e => hcn1 ((hc1 _).2 (.inr e.symm)))).trans hy3
              have HYr := HRd.out (m' - 1) (told ++ pre) x (.agg #[.slice A7 x.1.length c7, .int .i64 x.2]) C1 G W2 (HOI.out.on hi3 (fun b hb => hwl b (HOI.out.lt hi3 b hb) (fun e => hcn1 ((hc1 _).2 (.inl (e ▸ hb)))))) (by
                obtain ⟨r, hr⟩ := hpre
                obtain ⟨r2, hr2⟩ := HTold.out.2
                exact ⟨r ++ r2, by rw [← hr2, ← hr]; simp⟩) ⟨_, rfl, hnum.keep (fun b hb => hwl b (hG b hb).2.1 (hG b hb).2.2.2.2)⟩ (fun b hb => ⟨(hG b hb).1, Nat.lt_trans (hG b hb).2.1 hW2s, fun h => (hG b hb).2.2.1 ((hc1 b).2 (.inl h))⟩)
              obtain ⟨fn, tmps, assign, body, hyr, hRr⟩ := HYr
              have hRr2 : RoundIn (Fence.wide.inRound (w9.heap.size + 1)) (m' - 1) Tryd.prog l fn tmps assign body W2 _ := hRr
              have y0 := (Bx.cell (w := W2) hy2).1
              have y1 : W2.cell? ⟨Wr.heap.size, 0, none⟩ = some (.slice A7 x.1.length c7) := by simp [World.cell?, hnew]
              have y2 : W2.cell? ⟨Wr.heap.size, 1, none⟩ = some (.int .i64 x.2) := by simp [World.cell?, hnew]
              have HIn := Lib.hid (fun (w6 : World) (Cz : Nat → Prop) (hm : Mv C1 W2 w6) (hC : ∀ b, Cz b → C1 b ∨ G b ∨ W2.heap.size ≤ b) => in_round hc1 hn1 hy2 (fun b hb => (hG b hb).2.2.1) hm hC)
              clear hwl hnew hy2 hRr hnum hpre hG hc1 hn1 hi3 hy3 hcell hMa hK hm2 hs2 hr2 hrec hcn hcn1 hsz
              gi_wp2_with (refine ⟨fun h => (by cases h), ?_⟩; refine hRr2.mono ?_; intro e w6 hr6; obtain ⟨bb, Cz, he6, hm6, hC6, hI6, hx6⟩ := hr6.bool; subst he6; clear hr6; have HIz := Lib.hid (And.intro (HIn.out w6 Cz hm6 hC6) (And.intro hI6 hx6)); clear hm6 hC6 hI6 hx6)
              · rename_i hb
                refine ⟨fun b => Cz b ∨ b = W.heap.size, HIz.out.1.1, HIz.out.1.2.1, rfl, Cz, fun _ => Iff.rfl, HIz.out.1.2.2.1, ?_, HIz.out.1.2.2.2⟩
                rw [← List.append_assoc]
                exact HIz.out.2.2 (by cases bb with | true => cases hb | false => rfl)
              · rename_i hb
                refine ⟨fun b => Cz b ∨ b = W.heap.size, HIz.out.1.1, HIz.out.1.2.1, Cz, fun _ => Iff.rfl, HIz.out.1.2.2.1, ?_, HIz.out.1.2.2.2⟩
                rw [← List.append_assoc]
                exact HIz.out.2.1 (by cases bb with | true => rfl | false => cases hb)
            case done =>
              intro C4 W6 hC4 hM4 hZ4 hI4 hk4 hnk4
              obtain ⟨C1, hc1, hn1, hi1, hy1⟩ := hI4
              obtain ⟨g1, g2, g3, g4⟩ := told_kid HC2.out HM.out (fun b hb => (ownI_lt HOw.out b hb).2) HDs.out HDn.out HC0.out.2 HFc.out.1 (fun b hb => (HOw5.out b hb).elim .inl (fun h => .inr (by omega))) hC4 hM4 hk4 hnk4 hc1 hn1
              have HT6 : Hid (ToldM I (pfx ks (headP (m1 + 1) ++ fullK (kids.take (q + 1)) 0)) C (fun b => (Value.slice A ks.length c).ownBlock = some b) (fun X => OwnI X base (.slice A ks.length c) ks) W l (w9.heap.size :: Ds) W6) := Lib.hid (by
                refine ⟨C1, ?_, g1, g2, hy1, ?_, g3, g4⟩
                · rw [← HTold.out.1]; exact hi1
                · exact HOb.out W6 hM4 hZ4)
              clear hC4 hM4 hZ4 hk4 hnk4 hc1 hn1 hi1 hy1 g1 g2 g3 g4
              go_wp2_with fail
              rw [HQ.out]
              refine ⟨⟨q + 1, w9.heap.size :: Ds, _, _, _, _, _, _, _, _, _, _, _, _, _, _, _, _, _, _, _, _, Nat.succ_le_of_lt hlt, rfl, HT6.out⟩, ?_⟩
              exact kids_less hlt
            case stop =>
              intro c' pre C4 W6 hpre hC4 hM4 hZ4 hI4 hk4 hnk4
              obtain ⟨rfl, C1, hc1, hn1, hi1, hy1⟩ := hI4
              obtain ⟨g1, g2, g3, g4⟩ := told_kid HC2.out HM.out (fun b hb => (ownI_lt HOw.out b hb).2) HDs.out HDn.out HC0.out.2 HFc.out.1 (fun b hb => (HOw5.out b hb).elim .inl (fun h => .inr (by omega))) hC4 hM4 hk4 hnk4 hc1 hn1
              have HL7 : Hid (∀ tmps, LeavesInM Fence.wide 5 Tryd.prog Tryd.f78 tmps (TellR I Ix Z C (fun b => (Value.slice A ks.length c).ownBlock = some b) (fun X => OwnI X base (.slice A ks.length c) ks) W) (marks (w9.heap.size :: Ds)) .returning W6) := Lib.hid (fun tmps => end_marks (fun W' => results_none rfl _ _ _) HOI.out HOx.out HZk.out (w9.heap.size :: Ds) (fun b hb => (g1 b hb).elim .inl (fun h => .inr h.1)) g2 (HOb.out W6 hM4 hZ4) g3 (fun D hd => ⟨(g4 D hd).1, (g4 D hd).2.1, (g4 D hd).2.2.1⟩) (.inr ⟨told ++ pre, by
                obtain ⟨r, hr⟩ := hpre
                obtain ⟨r2, hr2⟩ := HTold.out.2
                exact ⟨r ++ r2, by rw [← hr2, ← hr]; simp⟩, hi1⟩))
              clear hC4 hM4 hZ4 hk4 hnk4 hc1 hn1 hi1 hy1 g1 g2 g3 g4 hpre
              refine wpIn_wide.2 ?_
              go_wp2_with fail
              exact HL7.out _
          · obtain rfl : q = kids.length := by omega
            have HL7 : Hid (∀ tmps, LeavesInM Fence.wide 5 Tryd.prog Tryd.f78 tmps (TellR I Ix Z C (fun b => (Value.slice A ks.length c).ownBlock = some b) (fun X => OwnI X base (.slice A ks.length c) ks) W) (marks Ds) .returning wr) := Lib.hid (fun tmps => end_marks (fun W' => results_none rfl _ _ _) HOI.out HOx.out HZk.out Ds (fun b hb => (HC2.out b hb).elim .inl (fun h => .inr h.1)) HM.out HO.out HDn.out (fun D hd => ⟨(HDs.out D hd).1, (HDs.out D hd).2.1, (HDs.out D hd).2.2.1⟩) (.inl (by
              rw [HZ.out, HL.out]
              have := HI.out
              rw [List.take_length] at this
              exact this)))
            refine wpIn_wide.2 ?_
            go_wp2_with fail
            exact HL7.out _

end Go.Proofs.YtdfldfnjjjcleaaDoor

namespace Go.Proofs.YtdfldfnjjjcleaaDoor
open Go.RowKit Go.Shelf Go.Deep

attribute [local go_sem] Oper.semAt_some

theorem paths1_any : (n : Nat) → (t : Tr) → highT t ≤ n → PathsK t
  | 0, t, h => paths1_step t (fun j hj => by
    obtain ⟨k, z, ws, bs, ks⟩ := t
    unfold highT at h
    have := high_kid ks j hj
    omega)
  | n + 1, t, h => paths1_step t (fun j hj => paths1_any n _ (by
    obtain ⟨k, z, ws, bs, ks⟩ := t
    unfold highT at h
    have := high_kid ks j hj
    show highT (ks[j]?.getD Tr.nil) ≤ n
    omega))

/-- a row of paths of the call's own, each with its steps in a block of which P holds -/
def PRow (w : World) (P : Nat → Prop) (base : Nat) (v : Value) (ps : List (List Int × Int)) : Prop :=
  ∃ xs : List Value, w.ownsRow base 33 2 v ps.length xs ∧ (∀ b, v.ownBlock = some b → P b) ∧
    ∀ j, (hj : j < ps.length) → ∃ sv, xs[j * 2]? = some sv ∧ xs[j * 2 + 1]? = some (.int .i64 ps[j].2) ∧ NumP .i64 w (fun b => P b ∧ v.ownBlock ≠ some b) sv ps[j].1
theorem PRow.nil (w : World) (P : Nat → Prop) (base : Nat) : PRow w P base (.slice none 0 0) [] := ⟨[], ⟨rfl, .inl ⟨rfl, rfl⟩⟩, fun b hb => (by cases hb), fun j hj => (by simp at hj)⟩
theorem PRow.lt {w : World} {P : Nat → Prop} {base : Nat} {v : Value} {ps : List (List Int × Int)} (h : PRow w P base v ps) : ∀ b, v.ownBlock = some b → base ≤ b ∧ b < w.heap.size := by
  obtain ⟨xs, ho, -⟩ := h
  exact World.ownsRow.lt ho
theorem row_on {w w' : World} {base e size : Nat} {v : Value} {n : Nat} {xs : List Value} (h : w.ownsRow base e size v n xs) (hk : ∀ b, v.ownBlock = some b → w'.heap[b]? = w.heap[b]?) : w'.ownsRow base e size v n xs := by
  obtain ⟨h1, h2 | ⟨g, cap, cur, rfl, h3, h4, h5⟩⟩ := h
  · exact ⟨h1, .inl h2⟩
  · exact ⟨h1, .inr ⟨g, cap, cur, rfl, h3, (hk g rfl).trans h4, h5⟩⟩
theorem PRow.keep {w w' : World} {P : Nat → Prop} {base : Nat} {v : Value} {ps : List (List Int × Int)} (h : PRow w P base v ps) (hk : ∀ b, P b → w'.heap[b]? = w.heap[b]?) : PRow w' P base v ps := by
  obtain ⟨xs, ho, hp, hx⟩ := h
  refine ⟨xs, row_on ho (fun b hb => hk b (hp b hb)), hp, fun j hj => ?_⟩
  obtain ⟨sv, e0, e1, e2⟩ := hx j hj
  exact ⟨sv, e0, e1, e2.keep (fun b hb => hk b hb.1)⟩
theorem PRow.mono {w : World} {P Q : Nat → Prop} {base : Nat} {v : Value} {ps : List (List Int × Int)} (h : PRow w P base v ps) (hPQ : ∀ b, P b → Q b) : PRow w Q base v ps := by
  obtain ⟨xs, ho, hp, hx⟩ := h
  refine ⟨xs, ho, fun b hb => hPQ b (hp b hb), fun j hj => ?_⟩
  obtain ⟨sv, e0, e1, e2⟩ := hx j hj
  exact ⟨sv, e0, e1, e2.mono (fun b hb => ⟨hPQ b hb.1, hb.2⟩)⟩

def pathZero : Value := .agg #[.slice none 0 0, .int .i64 0]
theorem Tryd.infoPath : (Tryd.prog.info? 33).map (fun i => (i.zero, i.size, i.bytes)) = some (some pathZero, 2, 32) := by kernel_rfl
theorem two_newP (w : World) (t : TypeId) (a0 a1 : Value) : ∀ j u, [a0, a1][j]? = some u → (w.alloc (.cells #[a0, a1] t)).cell? ((⟨w.heap.size, 0, none⟩ : Addr).add j) = some u := by
  intro j u h
  rw [Addr.add_lit]
  have hb : (w.alloc (.cells #[a0, a1] t)).heap[w.heap.size]? = some (.cells #[a0, a1] t) := by rw [blk_alloc_new]
  simp only [World.cell?, hb, Nat.zero_add]
  simpa using h
/-- one more behind it; its steps lie in blocks of G -/
theorem append_path (w : World) (P G : Nat → Prop) (base ty : Nat) (v : Value) (ps : List (List Int × Int)) (x : List Int × Int) (A : Option Addr) (c : Nat) (h : PRow w P base v ps) (hx : NumP .i64 w G (.slice A x.1.length c) x.1) (hP : ∀ b, P b → b < w.heap.size) (hG : ∀ b, G b → b < w.heap.size ∧ ¬ P b) (hk : ps.length ≤ 100000000) (hbase : base ≤ w.heap.size) :
    ∃ v' w', (Builtin.append_ #[60, 60] ty #[v, .slice (some ⟨w.heap.size, 0, none⟩) 1 1]).run Tryd.prog (w.alloc (.cells #[.slice A x.1.length c, .int .i64 x.2] 33)) = .ok v' w' ∧
      PRow w' (fun b => P b ∨ G b ∨ (w.heap.size ≤ b ∧ b < w'.heap.size)) base v' (ps ++ [x]) ∧ Mv (fun b => v.ownBlock = some b) w w' := by
  obtain ⟨i0, hi, hz0, hz1, hz2⟩ := info_parts Tryd.infoPath
  obtain ⟨xs, ho, hp, hxs⟩ := h
  obtain ⟨v', w', hrun, ho', hg, _, hl⟩ := run_append_own_at (P := Tryd.prog) (w := w.alloc (.cells #[.slice A x.1.length c, .int .i64 x.2] 33)) base 60 ty 33 i0 _ 2 32 Tryd.underlying60 hi hz0 hz1 hz2 rfl (by decide) v ps.length xs (World.ownsRow.alloc ho _) ⟨w.heap.size, 0, none⟩ 1 1 [.slice A x.1.length c, .int .i64 x.2] rfl (two_newP w _ _ _)
    (fun u hu => by simp at hu; rcases hu with rfl | rfl <;> rfl) (by unfold maxLen; omega) (by omega) (by simp; omega)
  have hsz : w.heap.size + 1 ≤ w'.heap.size := by have := hg.size; rwa [World.size_alloc] at this
  have hmv : Mv (fun b => v.ownBlock = some b) w w' := ((((Mv.of_below ((Below.refl w.heap.size w).alloc (Nat.le_refl _) _)).mono (fun b hb (h : w.heap.size ≤ b) => absurd hb (by omega)) : Mv (fun _ => False) w _).mono (fun _ _ h => h.elim)).trans (Mv.of_grown hg) (fun _ _ h => h))
  have hxl : xs.length = ps.length * 2 := ho.1
  have hne : ∀ b, b < w.heap.size → v.ownBlock ≠ some b → v'.ownBlock ≠ some b := fun b hb hv => by
    rcases hl with e | e
    · rw [e]; exact hv
    · rw [e]
      intro e2
      cases e2
      simp at hb
      omega
  refine ⟨v', w', hrun, ⟨_, by rw [List.length_append]; exact ho', fun b hb => ?_, fun j hj => ?_⟩, hmv⟩
  · rcases hl with e | e
    · exact .inl (hp b (e ▸ hb))
    · rw [e, World.size_alloc] at hb
      cases hb
      exact .inr (.inr ⟨Nat.le_succ _, (World.ownsRow.lt ho' _ (by rw [e, World.size_alloc])).2⟩)
  rw [List.length_append] at hj
  simp only [List.length_cons, List.length_nil] at hj
  by_cases e : j < ps.length
  · obtain ⟨sv, e0, e1, e2⟩ := hxs j e
    refine ⟨sv, by rw [List.getElem?_append_left (by omega)]; exact e0, ?_, ?_⟩
    · rw [List.getElem?_append_left (by omega), List.getElem_append_left e]; exact e1
    · rw [List.getElem_append_left e]
      refine (e2.keep (fun b hb => hmv.same b (hP b hb.1) hb.2)).mono (fun b hb => ⟨.inl hb.1, hne b (hP b hb.1) hb.2⟩)
  · obtain rfl : j = ps.length := by omega
    refine ⟨.slice A x.1.length c, ?_, ?_, ?_⟩
    · rw [List.getElem?_append_right (by omega), hxl, Nat.sub_self]; rfl
    · rw [List.getElem?_append_right (by omega), hxl, show ps.length * 2 + 1 - ps.length * 2 = 1 by omega]; simp
    · rw [List.getElem_append_right (Nat.le_refl _)]
      simp only [Nat.sub_self, List.getElem_cons_zero]
      have hv : ∀ b, G b → v.ownBlock ≠ some b := fun b hb e => (hG b hb).2 (hp b e)
      exact (hx.keep (fun b hb => hmv.same b (hG b hb).1 (hv b hb))).mono (fun b hb => ⟨.inr (.inl hb), hne b (hG b hb).1 (hv b hb)⟩)

theorem wpListIn_append_run {F : Fence} {n : Nat} {P : Program} (w : World) {ops : Array Oper} {rest : List Oper} {o : Oper} {a : Act} {Q : Exit → Act → World → Prop} (hg : o.guard = none) (s x : Operand) (t tn : TypeId)
    (hop : o.op = Op.call { callee := Callee.builtin Builtin.append, args := #[s, x], argTypes := #[t, tn] }) (vs vx : Value) (hs : a.eval s = vs) (hx : a.eval x = vx)
    (v' : Value) (w' : World) (hr : (Builtin.append_ #[t, tn] o.type #[vs, vx]).run P w = .ok v' w') (hK : wpListIn F n P ops Q rest (a.put o.dst v') w') : wpListIn F n P ops Q (o :: rest) a w := by
  refine wpListIn_plain hg fun K hK' => ?_
  unfold Oper.wpIn
  refine ⟨?_, ?_⟩
  · simp [Oper.about, hop, resolve, Target.leads, Sem.run_pure]
  · rw [Oper.semAt_plain F _ _ (by rw [hop]; intro c hc'; cases hc')]
    simp [execOp, hop, resolve, invoke, builtin, hs, hx, hr, Result.andThen]
    exact hK' _ _ hK

/-- what the loop of Paths keeps: the row and how many there may be, each in its box -/
def PathI (bl bm base : Nat) (most : Int) (M : Nat) (pre : List (List Int × Int)) (C : Nat → Prop) (W : World) : Prop :=
  C bl ∧ C bm ∧ (∀ b, C b → b < W.heap.size) ∧ Bx W bm 3 (.int .i64 most) ∧ pre.length ≤ M ∧ ∃ v, Bx W bl 60 v ∧ PRow W (fun b => C b ∧ b ≠ bl ∧ b ≠ bm) base v pre
def PathX (bl bm base : Nat) (most : Int) (M : Nat) (c : Code) (xs : List (List Int × Int)) (C : Nat → Prop) (W : World) : Prop :=
  c = .exit 0 ∧ ∃ pre x, xs = pre ++ [x] ∧ pre.length = M ∧ PathI bl bm base most M pre C W
theorem ours_path (bl bm base : Nat) (most : Int) (M : Nat) : Ours (PathI bl bm base most M) :=
  ⟨fun {pre C A B} h hs => by
    obtain ⟨h1, h2, h3, h4, h5, v, h6, h7⟩ := h
    exact ⟨h1, h2, fun b hb => by
      have := hs b hb
      have hl := h3 b hb
      exact Classical.byContradiction fun hn => by
        have e : B.heap[b]? = none := by simp; omega
        rw [e] at this
        simp at this
        omega, (hs _ h2).trans h4, h5, v, (hs _ h1).trans h6, h7.keep (fun b hb => hs b hb.1)⟩, fun h => h.2.2.1⟩
theorem ours_pathx (bl bm base : Nat) (most : Int) (M : Nat) (c : Code) : Ours (PathX bl bm base most M c) :=
  ⟨fun h hs => by
    obtain ⟨h1, pre, x, h2, h3, h4⟩ := h
    exact ⟨h1, pre, x, h2, h3, (ours_path bl bm base most M).on h4 hs⟩, fun h => by
    obtain ⟨h1, pre, x, h2, h3, h4⟩ := h
    exact h4.2.2.1⟩

theorem PRow.form {w : World} {P : Nat → Prop} {base : Nat} {v : Value} {ps : List (List Int × Int)} (h : PRow w P base v ps) : ∃ A c, v = .slice A ps.length c := by
  obtain ⟨xs, ⟨-, ⟨rfl, hn⟩ | ⟨g, cap, cur, rfl, -⟩⟩, -⟩ := h
  · exact ⟨none, 0, by rw [hn]⟩
  · exact ⟨_, _, rfl⟩
theorem Bx.mv {X : Nat → Prop} {A B : World} {b t : Nat} {v : Value} (h : Bx A b t v) (hm : Mv X A B) (hn : ¬ X b) : Bx B b t v := (hm.same b h.lt hn).trans h
theorem path_round {W2 : World} {C3 G : Nat → Prop} {bl bm base ty M c7 : Nat} {most : Int} {pre : List (List Int × Int)} {x : List Int × Int} {A7 : Option Addr} {u : Value} (hlm : bl ≠ bm) (i1 : C3 bl) (i2 : C3 bm) (i3 : ∀ b, C3 b → b < W2.heap.size) (i4 : Bx W2 bm 3 (.int .i64 most)) (i6 : Bx W2 bl 60 u) (i7 : PRow W2 (fun b => C3 b ∧ b ≠ bl ∧ b ≠ bm) base u pre)
    (hnum : NumP .i64 W2 G (.slice A7 x.1.length c7) x.1) (hG : ∀ b, G b → b < W2.heap.size ∧ ¬ C3 b) (hM : M ≤ 10000) (hlt : pre.length < M) (hbase : base ≤ W2.heap.size) :
    ∃ v' w6, (Builtin.append_ #[60, 60] ty #[u, .slice (some ⟨W2.heap.size, 0, none⟩) 1 1]).run Tryd.prog (W2.alloc (.cells #[.slice A7 x.1.length c7, .int .i64 x.2] 33)) = .ok v' w6 ∧ Bx w6 bl 60 u ∧ (∃ A c, v' = .slice A (pre ++ [x]).length c) ∧
      ∃ C' : Nat → Prop, Mv C3 W2 (w6.setCell ⟨bl, 0, none⟩ v') ∧ (∀ b, C' b → C3 b ∨ G b ∨ W2.heap.size ≤ b) ∧ PathI bl bm base most M (pre ++ [x]) C' (w6.setCell ⟨bl, 0, none⟩ v') := by
  have hown : ∀ b, u.ownBlock = some b → C3 b ∧ b ≠ bl ∧ b ≠ bm := by
    obtain ⟨xs, -, hp, -⟩ := i7
    exact hp
  obtain ⟨v', w6, hrun, hr, hm⟩ := append_path W2 (fun b => C3 b ∧ b ≠ bl ∧ b ≠ bm) G base ty u pre x A7 c7 i7 hnum (fun b hb => i3 b hb.1) (fun b hb => ⟨(hG b hb).1, fun h => (hG b hb).2 h.1⟩) (by omega) hbase
  have hbl : Bx w6 bl 60 u := i6.mv hm (fun e => (hown _ e).2.1 rfl)
  have hbm : Bx w6 bm 3 (.int .i64 most) := i4.mv hm (fun e => (hown _ e).2.2 rfl)
  have hs := hm.size
  have hmz : Mv (fun b => b = bl) w6 (w6.setCell ⟨bl, 0, none⟩ v') := ⟨rfl, rfl, rfl, by simp [World.setCell], fun b _ hb => blk_setCell_other _ _ _ _ hb⟩
  refine ⟨v', w6, hrun, hbl, hr.form, fun b => C3 b ∨ G b ∨ (W2.heap.size ≤ b ∧ b < w6.heap.size), ?_, fun b hb => ?_, .inl i1, .inl i2, fun b hb => ?_, hbm.other (Ne.symm hlm) _ _, by simp; omega, v', hbl.set v', ?_⟩
  · exact (hm.mono (fun b _ h => (hown b h).1)).trans hmz (fun b _ h => h ▸ i1)
  · rcases hb with h | h | h
    · exact .inl h
    · exact .inr (.inl h)
    · exact .inr (.inr h.1)
  · refine Nat.lt_of_lt_of_le ?_ hmz.size
    rcases hb with h | h | h
    · have := i3 b h; omega
    · have := (hG b h).1; omega
    · exact h.2
  · have hne : ∀ b, ((C3 b ∧ b ≠ bl ∧ b ≠ bm) ∨ G b ∨ (W2.heap.size ≤ b ∧ b < w6.heap.size)) → b ≠ bl ∧ b ≠ bm := fun b hb => by
      have h1 := i3 _ i1
      have h2 := i3 _ i2
      rcases hb with h | h | h
      · exact h.2
      · exact ⟨fun e => (hG b h).2 (e ▸ i1), fun e => (hG b h).2 (e ▸ i2)⟩
      · omega
    refine (hr.keep (fun b hb => ?_)).mono (fun b hb => ⟨?_, hne b hb⟩)
    · exact blk_setCell_other _ _ _ _ (hne b hb).1
    · rcases hb with h | h | h
      · exact .inl h.1
      · exact .inr (.inl h)
      · exact .inr (.inr h)

theorem paths_end {w W1 w9 W6 : World} {t : Tr} {most : Int} {C4 : Nat → Prop} {u : Value} {l : List (List Int × Int)} (h1 : Below w.heap.size w W1) (h9 : Below w.heap.size W1 w9) (hs : w.heap.size + 5 ≤ w9.heap.size)
    (hC4 : ∀ b, C4 b → (b = w.heap.size + 1 + 1 ∨ b = w.heap.size + 1) ∨ w9.heap.size + 2 ≤ b) (hM : Mv (fun b => (b = w.heap.size + 1 + 1 ∨ b = w.heap.size + 1) ∨ (Value.slice none 0 0).ownBlock = some b) w9 W6) (h3 : ∀ b, C4 b → b < W6.heap.size)
    (hr : PRow W6 (fun b => C4 b ∧ b ≠ w.heap.size + 1 + 1 ∧ b ≠ w.heap.size + 1) w.heap.size u l)
    (hl : l = (fullP t).take (min most 10000).toNat ∨ ∃ x, l.length = (min most 10000).toNat ∧ l ++ [x] <+: fullP t) (hn : ¬ C4 w9.heap.size) :
    ∀ W', Mv (fun b => b ∈ [w9.heap.size]) W6 W' → PRow W' (fun b => w.heap.size ≤ b ∧ b < W'.heap.size) w.heap.size u (pathsT t most) ∧ Below w.heap.size w W' := by
  intro W' hm
  have e : l = pathsT t most := by
    unfold pathsT
    rcases hl with h | ⟨x, h, r, hr⟩
    · exact h
    · rw [← hr, ← h, List.append_assoc, List.take_left]
  rw [← e]
  have hmem : ∀ b, b ∈ [w9.heap.size] → b = w9.heap.size := fun b hb => by simpa using hb
  have hs6 := hm.size
  refine ⟨(hr.keep (fun b hb => hm.same b (h3 b hb.1) (fun h => hn (hmem b h ▸ hb.1)))).mono (fun b hb => ⟨?_, Nat.lt_of_lt_of_le (h3 b hb.1) hs6⟩), ((h1.trans h9).trans (hM.below (by omega) (fun b hb => ?_))).trans (hm.below (by have := hM.size; omega) (fun b hb => by have := hmem b hb; omega))⟩
  · rcases hC4 b hb.1 with (h | h) | h <;> omega
  · rcases hb with (h | h) | h
    · omega
    · omega
    · cases h

set_option maxRecDepth 100000 in
set_option maxHeartbeats 4000000 in
theorem paths10_any (t : Tr) (v : Value) (most : Int) (w : World) (h : TrV w w.heap.size t v) (hf : FineT t) (hh : highT t ≤ 32) :
    Calls Tryd.prog 26 #[v, .int .i64 most] w fun e w' => ∃ u, e = .returned u ∧ PRow w' (fun b => w.heap.size ≤ b ∧ b < w'.heap.size) w.heap.size u (pathsT t most) ∧ Below w.heap.size w w' := by
  obtain ⟨k, z, A1, n1, c1, A2, n2, c2, A3, n3, c3, rfl⟩ : ∃ k z A1 n1 c1 A2 n2 c2 A3 n3 c3, v = .agg (cellsT k z (.slice A1 n1 c1) (.slice A2 n2 c2) (.slice A3 n3 c3)) := by
    obtain ⟨kk, zz, ws, bs', kids⟩ := t
    obtain ⟨A1, c1, A2, c2, A3, c3, e, -⟩ := h.parts
    exact ⟨_, _, _, _, _, _, _, _, _, _, _, e⟩
  obtain ⟨W1, hW1⟩ : ∃ W1, W1 = ((w.alloc (.cells (cellsT k z (.slice A1 n1 c1) (.slice A2 n2 c2) (.slice A3 n3 c3)) 37)).alloc (.cells #[.int .i64 most] 3)).alloc (.cells #[.slice none 0 0] 60) := ⟨_, rfl⟩
  obtain ⟨hb1, hb2, hb3, hB1, hs1⟩ := three_new w _ _ _ _ _ _ W1 hW1
  have HB1 := Lib.hid (And.intro hB1 hs1)
  have HX1 : Hid (TBox W1 w.heap.size k z (.slice A1 n1 c1) (.slice A2 n2 c2) (.slice A3 n3 c3)) := Lib.hid hb1
  have HM1 : Hid (Bx W1 (w.heap.size + 1) 3 (.int .i64 most)) := Lib.hid hb2
  have HL1 : Hid (Bx W1 (w.heap.size + 1 + 1) 60 (.slice none 0 0)) := Lib.hid hb3
  have HT := Lib.hid h
  obtain ⟨y0, y1, y2, y3, y4⟩ := HX1.out.cells
  have HCall := Lib.hid (paths_any k z A1 n1 c1 A2 n2 c2 A3 n3 c3 none 0 0 W1)
  clear hb1 hb2 hb3 hB1 hs1 h
  unfold cellsT at hW1 HCall ⊢
  refine (callsIn_wide (n := 5)).1 ?_
  refine callsIn_of_wp_marks Tryd.func26 rfl trivial ?_ rfl
  simp only [Tryd.ntmps26, List.size_toArray, List.length_cons, List.length_nil, Nat.reduceAdd, Nat.reduceSub, Array.replicate_succ, Array.replicate_zero, List.push_toArray, List.append_toArray, List.nil_append, List.cons_append]
  refine wpIn_wide.2 ?_
  go_upto_region 2 with fail
  rw [← hW1]
  clear hW1
  go_wp2_with (go_at_call 48; refine HCall.out.mono ?_; rintro e w9 ⟨rfl, rfl⟩)
  obtain ⟨w9, hw9⟩ : ∃ w9, w9 = (W1.alloc (.cells #[.int .i64 k, .int .i64 z, .slice A1 n1 c1, .slice A2 n2 c2, .slice A3 n3 c3] 37)).alloc (.cells #[.slice none 0 0] 31) := ⟨_, rfl⟩
  rw [← hw9]
  have hs1 := HB1.out.2
  have hB1 := HB1.out.1
  have HB9 : Hid (w9.heap.size = w.heap.size + 5 ∧ Below W1.heap.size W1 w9) := Lib.hid ⟨by rw [hw9]; simp; omega, by rw [hw9]; exact ((Below.refl W1.heap.size W1).alloc (Nat.le_refl _) _).alloc (by simp) _⟩
  have HBt : Hid (TBox w9 W1.heap.size k z (.slice A1 n1 c1) (.slice A2 n2 c2) (.slice A3 n3 c3) ∧ Bx w9 (W1.heap.size + 1) 31 (.slice none 0 0)) := Lib.hid (by
    obtain ⟨t1, t2, -, -⟩ := two_new10 W1 (cellsT k z (.slice A1 n1 c1) (.slice A2 n2 c2) (.slice A3 n3 c3)) #[.slice none 0 0] 37 31 w9 hw9
    exact ⟨t1, t2⟩)
  obtain ⟨M, hM⟩ : ∃ M, M = (min most 10000).toNat := ⟨_, rfl⟩
  have HMe := Lib.hid hM
  have HI9 : Hid (PathI (w.heap.size + 1 + 1) (w.heap.size + 1) w.heap.size most M [] (fun b => b = w.heap.size + 1 + 1 ∨ b = w.heap.size + 1) w9) := Lib.hid ⟨.inl rfl, .inr rfl, fun b hb => by have := HB9.out.1; omega, HM1.out.on HB9.out.2, Nat.zero_le _, _, HL1.out.on HB9.out.2, PRow.nil _ _ _⟩
  have HTl : Hid (∀ o, Tells Fence.wide (5 - 1) Tryd.prog 78 #[.pointer (some ⟨W1.heap.size, 0, none⟩), .pointer (some ⟨W1.heap.size + 1, 0, none⟩)] EncP (fullP t) w.heap.size (fun b => b = W1.heap.size ∨ b = W1.heap.size + 1 ∨ (Value.slice none 0 0).ownBlock = some b) (fun b => (Value.slice none 0 0).ownBlock = some b) (fun W' => OwnI W' w.heap.size (.slice none 0 0) []) ((w9.alloc (.deferred (some []))).alloc (.loop o))) := Lib.hid (fun o => by
    have hb9 : Below w9.heap.size w9 ((w9.alloc (.deferred (some []))).alloc (.loop o)) := ((Below.refl w9.heap.size w9).alloc (Nat.le_refl _) _).alloc (by simp) _
    have hsz := hb9.size
    have hs9 := HB9.out.1
    have := paths1_any (highT t) t (Nat.le_refl _) (5 - 1) [] k z A1 n1 c1 A2 n2 c2 A3 n3 c3 none 0 0 W1.heap.size (W1.heap.size + 1) w.heap.size ((w9.alloc (.deferred (some []))).alloc (.loop o)) (by omega) (by omega) (by omega) (TrV.below (hB1.trans ((HB9.out.2.mono (by omega)).trans (hb9.mono (by omega)))) (Nat.le_refl _) _ _ HT.out) ⟨HBt.out.1.on hb9, HBt.out.2.on hb9⟩ (OwnI.nil _ _) (fun e => by cases e) (fun e => by cases e) hf (by simpa using hh)
    rw [pfx_nil] at this
    exact this)
  clear hw9 y0 y1 y2 y3 y4 hM
  refine (wpIn_wide (n := 5)).1 ?_
  refine range_tells (base := w.heap.size) (X := fun b => b = W1.heap.size ∨ b = W1.heap.size + 1 ∨ (Value.slice none 0 0).ownBlock = some b) (Y := fun b => (Value.slice none 0 0).ownBlock = some b) (Z := fun W' => OwnI W' w.heap.size (.slice none 0 0) []) rfl rfl (gf := 78) (lb := #[.pointer (some ⟨W1.heap.size, 0, none⟩), .pointer (some ⟨W1.heap.size + 1, 0, none⟩)]) rfl trivial (enters_of Tryd.func78 (by kernel_rfl) rfl) (Enc := EncP) (L := fullP t) ?hbase ?hX (fun b hb => .inr (.inr hb)) (fun _ _ _ _ => OwnI.nil _ _) HTl.out (PathI (w.heap.size + 1 + 1) (w.heap.size + 1) w.heap.size most M) (PathX (w.heap.size + 1 + 1) (w.heap.size + 1) w.heap.size most M) (ours_path _ _ _ _ _) (fun c => ours_pathx _ _ _ _ _ c) (fun b => b = w.heap.size + 1 + 1 ∨ b = w.heap.size + 1) ?hC0 HI9.out ?body ?done ?stop
  case hbase => have := HB9.out.1; omega
  case hX =>
    have hs9 := HB9.out.1
    rintro b (h | h | h)
    · omega
    · omega
    · cases h
  case hC0 =>
    rintro b (h | h)
    · refine ⟨by omega, fun e => ?_⟩
      rcases e with e | e | e
      · omega
      · omega
      · cases e
    · refine ⟨by omega, fun e => ?_⟩
      rcases e with e | e | e
      · omega
      · omega
      · cases e
  case done =>
    intro C4 W6 hC4 hM4 hZ4 hI4 hk4 hnk4
    obtain ⟨i1, i2, i3, i4, i5, u, i6, i7⟩ := hI4
    have HEnd := Lib.hid (paths_end (t := t) (most := most) HB1.out.1 (HB9.out.2.mono (by omega)) (by have := HB9.out.1; omega) hC4 hM4 i3 i7 (.inl (by rw [← HMe.out]; exact (List.take_of_length_le i5).symm)) hnk4)
    have hc6 := i6.cell.1
    have HF6 := Lib.hid hk4
    clear hC4 hM4 hZ4 hk4 hnk4 i1 i2 i3 i4 i5 i6 i7
    go_wp2_with fail
    exact leaves_marks [w9.heap.size] W6 (by simp) (fun D hd => by rw [List.mem_singleton] at hd; subst hd; exact HF6.out) (fun W' hm => ⟨_, results_tmp rfl _ _ _, u, rfl, HEnd.out W' hm⟩)
  case stop =>
    intro c' pre C4 W6 hpre hC4 hM4 hZ4 hI4 hk4 hnk4
    obtain ⟨rfl, pre', x, rfl, hlen, i1, i2, i3, i4, i5, u, i6, i7⟩ := hI4
    have HEnd := Lib.hid (paths_end (t := t) (most := most) HB1.out.1 (HB9.out.2.mono (by omega)) (by have := HB9.out.1; omega) hC4 hM4 i3 i7 (.inr ⟨x, by rw [← HMe.out]; exact hlen, hpre⟩) hnk4)
    have hc6 := i6.cell.1
    have HF6 := Lib.hid hk4
    clear hC4 hM4 hZ4 hk4 hnk4 i1 i2 i3 i4 i5 i6 i7 hpre hlen
    refine wpIn_wide.2 ?_
    go_wp2_with fail
    exact leaves_marks [w9.heap.size] W6 (by simp) (fun D hd => by rw [List.mem_singleton] at hd; subst hd; exact HF6.out) (fun W' hm => ⟨_, results_tmp rfl _ _ _, u, rfl, HEnd.out W' hm⟩)
  case body =>
    intro m' pre x v C3 G Wr hI3 hpre henc hG hcn hcn1 hsz hrec K hK
    obtain ⟨i1, i2, i3, i4, i5, u, i6, i7⟩ := hI3
    obtain ⟨sv, rfl, hnum⟩ := henc
    obtain ⟨A7, c7, rfl⟩ := hnum.form
    obtain ⟨Au, cu, rfl⟩ := i7.form
    have hMa : Mv (fun _ => False) Wr (Wr.alloc (.cells #[.slice A7 x.1.length c7, .int .i64 x.2] 33)) := (Mv.of_below ((Below.refl Wr.heap.size Wr).alloc (Nat.le_refl _) _)).mono (fun b hb (h : Wr.heap.size ≤ b) => absurd hb (by omega))
    have hcell := blk_alloc_new Wr (.cells #[.slice A7 x.1.length c7, .int .i64 x.2] 33)
    have hKk := Lib.hid (hK)
    have HMb : Hid (M ≤ 10000 ∧ (M : Int) = max (min most 10000) 0) := Lib.hid (by have := HMe.out; omega)
    gi_wp2
    refine hKk.out _ _ hMa (fun W2 hm2 hs2 hr2 => ?_)
    have hwl : ∀ b, b < Wr.heap.size → b ≠ w9.heap.size + 1 → W2.heap[b]? = Wr.heap[b]? := fun b hb hn => (hm2.same b (by rw [World.size_alloc]; omega) hn).trans (blk_alloc_lt _ _ _ hb)
    have hCw : ∀ b, C3 b → W2.heap[b]? = Wr.heap[b]? := fun b hb => hwl b (i3 b hb) (fun e => hcn1 (e ▸ hb))
    have hW2s : Wr.heap.size < W2.heap.size := by rw [hs2, World.size_alloc]; omega
    have hnew : W2.heap[Wr.heap.size]? = some (.cells #[.slice A7 x.1.length c7, .int .i64 x.2] 33 (0, 0)) := (hm2.same _ (by rw [World.size_alloc]; omega) (by omega)).trans hcell
    have y1 : W2.cell? ⟨Wr.heap.size, 0, none⟩ = some (.slice A7 x.1.length c7) := by simp [World.cell?, hnew]
    have y2 : W2.cell? ⟨Wr.heap.size, 1, none⟩ = some (.int .i64 x.2) := by simp [World.cell?, hnew]
    have j4 : Bx W2 (w.heap.size + 1) 3 (.int .i64 most) := (hCw _ i2).trans i4
    have j6 : Bx W2 (w.heap.size + 1 + 1) 60 (.slice Au pre.length cu) := (hCw _ i1).trans i6
    have j7 := i7.keep (w' := W2) (fun b hb => hCw b hb.1)
    have jn := hnum.keep (w' := W2) (fun b hb => hwl b (hG b hb).2.1 (hG b hb).2.2.2.2)
    have z4 := j4.cell.1
    have z6 := j6.cell.1
    have HI2 : Hid (PathI (w.heap.size + 1 + 1) (w.heap.size + 1) w.heap.size most M pre C3 W2) := Lib.hid ⟨i1, i2, fun b hb => Nat.lt_trans (i3 b hb) hW2s, j4, i5, _, j6, j7⟩
    by_cases hfull : M ≤ pre.length
    · have hge : min most 10000 ≤ (pre.length : Int) := by have := HMb.out.2; omega
      have HX : Hid (bodyR (PathI (w.heap.size + 1 + 1) (w.heap.size + 1) w.heap.size most M) (PathX (w.heap.size + 1 + 1) (w.heap.size + 1) w.heap.size most M) (pre ++ [x]) C3 G W2 (.exit 0) { tmps := #[], defers := [] } W2) := Lib.hid ⟨C3, Mv.refl _ _, fun b hb => .inl hb, rfl, pre, x, rfl, by omega, HI2.out⟩
      clear hwl hCw hnew hnum jn j4 j6 j7 i1 i2 i3 i4 i5 i6 i7 hpre hG hcn hcn1 hcell hMa hK hm2 hs2 hr2 hrec hsz hfull
      by_cases hm10 : most ≤ 10000
      · have hge2 : most ≤ (pre.length : Int) := by omega
        gi_wp2
        exact HX.out
      · have hge2 : 10000 ≤ (pre.length : Int) := by omega
        gi_wp2
        exact HX.out
    · obtain ⟨v', w6, hrun, hbl6, ⟨A', c', rfl⟩, C', hmv, hC', hI'⟩ := path_round (ty := 60) (G := G) (by omega) i1 i2 (fun b hb => Nat.lt_trans (i3 b hb) hW2s) j4 j6 j7 jn (fun b hb => ⟨Nat.lt_trans (hG b hb).2.1 hW2s, (hG b hb).2.2.1⟩) HMb.out.1 (by omega) (by have := HB9.out.1; omega)
      rw [List.length_append, List.length_singleton] at hrun hmv hI'
      have HRun := Lib.hid hrun
      have HI6 := Lib.hid (And.intro hmv (And.intro hC' hI'))
      have hge : ¬ min most 10000 ≤ (pre.length : Int) := by have := HMb.out.2; omega
      obtain ⟨g0, g1⟩ := hbl6.cell
      clear hwl hCw hnew hnum jn j4 j6 j7 i1 i2 i3 i4 i5 i6 i7 hpre hG hcn hcn1 hcell hMa hK hm2 hs2 hr2 hrec hsz hrun hmv hC' hI' hbl6 hfull
      by_cases hm10 : most ≤ 10000
      · have hge2 : ¬ most ≤ (pre.length : Int) := by omega
        gi_wp2_with (gi_at_builtin; refine wpListIn_append_run _ rfl _ _ _ _ rfl _ _ rfl rfl _ _ HRun.out ?_)
        exact ⟨C', HI6.out.1, HI6.out.2.1, HI6.out.2.2⟩
      · have hge2 : ¬ 10000 ≤ (pre.length : Int) := by omega
        gi_wp2_with (gi_at_builtin; refine wpListIn_append_run _ rfl _ _ _ _ rfl _ _ rfl rfl _ _ HRun.out ?_)
        exact ⟨C', HI6.out.1, HI6.out.2.1, HI6.out.2.2⟩

end Go.Proofs.YtdfldfnjjjcleaaDoor
