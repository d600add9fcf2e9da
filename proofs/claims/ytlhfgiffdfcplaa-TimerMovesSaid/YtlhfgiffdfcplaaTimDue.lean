/-
  Layer 5, the document's function: Due.
-/
import Derived.Test.YtlhfgiffdfcplaaTimNext
namespace Go.Proofs.Ytlhfgiffdfcplaa
open Go.RowKit Go.Deep

/-! ### rows of numbers of the call's own -/
theorem Try.info3 : (Try.prog.info? 3).map (fun i => (i.zero, i.size, i.bytes)) = some (some (.int .i64 0), 1, 8) := by kernel_rfl
/-- v is a row of numbers of the call's own, from block 'base' on -/
def OwnI (w : World) (base : Nat) (v : Value) (xs : List Int) : Prop := w.ownsRow base 3 1 v xs.length (xs.map (Value.int .i64))
theorem OwnI.nil (w : World) (base : Nat) : OwnI w base (.slice none 0 0) [] := World.ownsRow_nil _ _ _ _
theorem OwnI.on {w w' : World} {base : Nat} {v : Value} {xs : List Int} (h : OwnI w base v xs) (hB : Below w.heap.size w w') : OwnI w' base v xs := own_on h hB
theorem append_i (w : World) (base ty : Nat) (v : Value) (xs : List Int) (x : Int) (hown : OwnI w base v xs) (hk : xs.length ≤ 1000000000) (hbase : base ≤ w.heap.size) :
    ∃ v' w', (Builtin.append_ #[36, 36] ty #[v, .slice (some ⟨w.heap.size, 0, none⟩) 1 1]).run Try.prog (w.alloc (.cells #[.int .i64 x] 3)) = .ok v' w' ∧ OwnI w' base v' (xs ++ [x]) ∧ (w.alloc (.cells #[.int .i64 x] 3)).grownBy w' v.ownBlock := by
  obtain ⟨i0, hi, hz0, hz1, hz2⟩ := info_parts Try.info3
  have hB : Below w.heap.size w (w.alloc (.cells #[.int .i64 x] 3)) := (Below.refl _ _).alloc (Nat.le_refl _) _
  obtain ⟨v', w', hrun, ho, hg, _⟩ := run_append_own (P := Try.prog) (w := w.alloc (.cells #[.int .i64 x] 3)) base 36 ty 3 i0 _ 1 8 Try.underlying36 hi hz0 hz1 hz2 rfl (by decide) v xs.length (xs.map (Value.int .i64)) (hown.on hB) ⟨w.heap.size, 0, none⟩ 1 1 [.int .i64 x] rfl
    (fun j u hu => by
      match j, hu with
      | 0, hu => simp at hu; subst hu; simp [Addr.add])
    (fun u hu => by simp at hu; subst hu; rfl) (by unfold maxLen; omega) (by omega) (by simp; omega)
  refine ⟨v', w', hrun, ?_, hg⟩
  unfold OwnI
  rw [List.map_append, List.length_append]
  exact ho

/-! ### Due -/
theorem next_mem {l : List Sp} : ∀ t, t < l.length → nextTo l (t + 1) ∈ l := by
  intro t
  induction t with
  | zero => intro h; rw [nextTo, if_pos (.inl rfl), List.getElem?_eq_getElem h]; exact List.getElem_mem _
  | succ t ih =>
    intro h
    rw [nextTo]
    split
    · rw [List.getElem?_eq_getElem h]; exact List.getElem_mem _
    · exact ih (by omega)
theorem nextL_mem {l : List Sp} (h : 0 < l.length) : nextL l ∈ l := by
  obtain ⟨n, hn⟩ : ∃ n, l.length = n + 1 := ⟨l.length - 1, by omega⟩
  unfold nextL
  rw [hn]
  exact next_mem n (by omega)
theorem drop_less {l : List Sp} {s : Sp} (h : s ∈ l) : (dropL l s.1).length < l.length := by
  unfold dropL
  refine Nat.lt_of_le_of_ne (List.length_filter_le _ _) (fun e => ?_)
  have := List.length_filter_eq_length_iff.1 e s h
  simp at this
def dueGo (now : Int) : Nat → List Sp → List Sp × List Int
  | 0, l => (l, [])
  | f + 1, l => if l.length = 0 ∨ now < (nextL l).2 then (l, []) else ((dueGo now f (dropL l (nextL l).1)).1, (nextL l).1 :: (dueGo now f (dropL l (nextL l).1)).2)
theorem dueGo_more (now : Int) : ∀ (f g : Nat) (l : List Sp), l.length ≤ f → l.length ≤ g → dueGo now f l = dueGo now g l := by
  intro f
  induction f with
  | zero =>
    intro g l h1 h2
    have h0 : l.length = 0 := by omega
    cases g with
    | zero => rfl
    | succ g => rw [dueGo, dueGo, if_pos (.inl h0)]
  | succ f ih =>
    intro g l h1 h2
    cases g with
    | zero =>
      have h0 : l.length = 0 := by omega
      rw [dueGo, dueGo, if_pos (.inl h0)]
    | succ g =>
      rw [dueGo, dueGo]
      split
      · rfl
      · rename_i hc
        have := drop_less (nextL_mem (l := l) (by omega))
        rw [ih g _ (by omega) (by omega)]
def dueL (l : List Sp) (now : Int) : List Sp × List Int := dueGo now l.length l
theorem due_end {l : List Sp} {now : Int} (h : l.length = 0 ∨ now < (nextL l).2) : dueL l now = (l, []) := by
  unfold dueL
  cases hn : l.length with
  | zero => rfl
  | succ n => rw [dueGo, if_pos h]
theorem due_step {l : List Sp} {now : Int} (h : 0 < l.length) (h2 : ¬ now < (nextL l).2) : dueL l now = ((dueL (dropL l (nextL l).1) now).1, (nextL l).1 :: (dueL (dropL l (nextL l).1) now).2) := by
  obtain ⟨n, hn⟩ : ∃ n, l.length = n + 1 := ⟨l.length - 1, by omega⟩
  have hl := drop_less (nextL_mem h)
  have e : dueL l now = dueGo now (n + 1) l := by unfold dueL; rw [hn]
  rw [e, dueGo, if_neg (fun h3 => h3.elim (fun h3 => by omega) h2)]
  have e2 : dueGo now n (dropL l (nextL l).1) = dueL (dropL l (nextL l).1) now := dueGo_more now _ _ _ (by omega) (Nat.le_refl _)
  rw [e2]

/-- the keys that are left: those that came in, or a row of the call's own -/
def Left (vi : Value) (W : World) (B : Nat) (v : Value) (l : List Sp) : Prop := (v = vi ∧ Spans W B v l) ∨ OwnT W B v l
theorem Left.spans {W : World} {B : Nat} {vi v : Value} {l : List Sp} (h : Left vi W B v l) (hB : B ≤ W.heap.size) : Spans W W.heap.size v l := h.elim (fun h => h.2.more hB) OwnT.spans
theorem Left.on {W W' : World} {B : Nat} {vi v : Value} {l : List Sp} (h : Left vi W B v l) (hB : B ≤ W.heap.size) (k : Below W.heap.size W W') : Left vi W' B v l := h.elim (fun h => .inl ⟨h.1, h.2.below (k.mono hB) (Nat.le_refl _)⟩) (fun h => .inr (h.on k))
theorem Left.kept {W W' : World} {B : Nat} {vi v u : Value} {l : List Sp} {out : List Int} (h : Left vi W B v l) (hO : OwnI W B u out) (hB : B ≤ W.heap.size) (o : Obj) (hg : (W.alloc o).grownBy W' u.ownBlock) : Left vi W' B v l := by
  rcases h with h | h
  · exact .inl ⟨h.1, h.2.below (((Below.refl B W).alloc hB o).grown hg (by simp; omega) (fun k e => (World.ownsRow.lt hO k e).1)) (Nat.le_refl _)⟩
  · refine .inr (World.ownsRow.kept (World.ownsRow.alloc h o) hg ?_)
    obtain ⟨_, ⟨rfl, _⟩ | ⟨g, c, cur, rfl, _, hh, _⟩⟩ := h
    · exact .inl rfl
    · refine .inr (fun e => ?_)
      obtain ⟨_, ⟨rfl, _⟩ | ⟨g', c', cur', rfl, _, hh', _⟩⟩ := hO
      · simp [Value.ownBlock] at e
      · simp only [Value.ownBlock, Option.some.injEq] at e
        subst e
        rw [hh] at hh'
        simp at hh'

def lenV : Value → Nat | .slice _ n _ => n | _ => 0
set_option maxRecDepth 100000 in
set_option maxHeartbeats 2000000 in
theorem rdue_any (v : Value) (l : List Sp) (now : Int) (w : World) (h : Spans w w.heap.size v l) (hlen : l.length ≤ 1000000) :
    Calls Try.prog 22 #[v, .int .i64 now] w fun e w' => ∃ v1 v2, e = .returned (.tuple #[v1, v2]) ∧ Left v w' w.heap.size v1 (dueL l now).1 ∧ OwnI w' w.heap.size v2 (dueL l now).2 ∧ Below w.heap.size w w' := by
  have HS0 := Lib.hid h
  have hlen' := hlen
  have HL0 := Lib.hid hlen
  clear h hlen hlen'
  go_enter Try.func22, Try.ntmps22
  go_wp2_with fail
  go_loopw [0, 6] (fun v0 o wr => ∃ (cur : List Sp) (out : List Int), Left v wr w.heap.size v0 cur ∧ OwnI wr w.heap.size o out ∧ (dueL cur now).1 = (dueL l now).1 ∧ out ++ (dueL cur now).2 = (dueL l now).2 ∧ cur.length + out.length ≤ 1000000 ∧ Below w.heap.size w wr) (fun v0 _ _ => lenV v0)
  case atStart => exact ⟨l, [], .inl ⟨rfl, HS0.out⟩, OwnI.nil _ _, rfl, rfl, by simpa using HL0.out, Below.refl _ _⟩
  case round =>
    obtain ⟨cur, out, hs, ho, h1, h2, hlc, hB⟩ := hrel
    have HLf := Lib.hid hs
    have HS := Lib.hid (hs.spans hB.size)
    have HO := Lib.hid ho
    have H1 := Lib.hid h1
    have H2 := Lib.hid h2
    obtain ⟨A, c, hv, -⟩ := HS.out.parts
    obtain ⟨m, hm⟩ : ∃ m, m = cur.length := ⟨_, rfl⟩
    rw [← hm] at hv hlc
    have HM := Lib.hid hm
    clear hs ho h1 h2 hm
    subst hv
    have HNx := Lib.hid (rnext_any _ cur wr HS.out (by rw [← HM.out]; omega))
    rw [← HM.out] at HNx
    go_wp2_with fail
    refine HNx.out.mono ?_
    rintro e w2 ⟨rfl, hB2⟩
    have HO2 := Lib.hid (HO.out.on hB2)
    have HS2 := Lib.hid (HS.out.on hB2)
    have HLf2 := Lib.hid (HLf.out.on hB.size hB2)
    obtain ⟨s, hs⟩ : ∃ s, nextL cur = s := ⟨_, rfl⟩
    have HSn := Lib.hid hs
    rw [hs]
    obtain ⟨x, y⟩ := s
    clear hs HO HS HNx
    by_cases h0 : m = 0
    · subst h0
      have e0 : decide (0 < 0) = false := rfl
      rw [e0]
      have HEnd := Lib.hid (due_end (l := cur) (now := now) (.inl HM.out.symm))
      have hBb : Below w2.heap.size w2 (w2.alloc (.cells #[.int .i64 x, .int .i64 y] 63)) := (Below.refl _ _).alloc (Nat.le_refl _) _
      have HR : Hid (Left v (w2.alloc (.cells #[.int .i64 x, .int .i64 y] 63)) w.heap.size (.slice A 0 c) (dueL l now).1) := Lib.hid (by rw [← H1.out, HEnd.out]; exact HLf2.out.on (Nat.le_trans hB.size hB2.size) hBb)
      have HR2 : Hid (OwnI (w2.alloc (.cells #[.int .i64 x, .int .i64 y] 63)) w.heap.size u6 (dueL l now).2) := Lib.hid (by rw [← H2.out, HEnd.out, List.append_nil]; exact HO2.out.on hBb)
      have HBf := Lib.hid (hB.trans ((hB2.mono hB.size).trans (hBb.mono (Nat.le_trans hB.size hB2.size))))
      have HX := BoxT.new w2 x y
      clear hBb
      go_wp2_with fail
      go_ret2
      exact ⟨_, _, rfl, HR.out, HR2.out, HBf.out⟩
    · have e0 : decide (0 < m) = true := decide_eq_true (by omega)
      rw [e0]
      obtain ⟨c0, c1⟩ := (BoxT.new w2 x y).cells
      by_cases h3 : now < y
      · have e1 : decide (now < y) = true := decide_eq_true h3
        have HEnd := Lib.hid (due_end (l := cur) (now := now) (.inr (by rw [HSn.out]; exact h3)))
        have hBb : Below w2.heap.size w2 (w2.alloc (.cells #[.int .i64 x, .int .i64 y] 63)) := (Below.refl _ _).alloc (Nat.le_refl _) _
        have HR : Hid (Left v (w2.alloc (.cells #[.int .i64 x, .int .i64 y] 63)) w.heap.size (.slice A m c) (dueL l now).1) := Lib.hid (by rw [← H1.out, HEnd.out]; exact HLf2.out.on (Nat.le_trans hB.size hB2.size) hBb)
        have HR2 : Hid (OwnI (w2.alloc (.cells #[.int .i64 x, .int .i64 y] 63)) w.heap.size u6 (dueL l now).2) := Lib.hid (by rw [← H2.out, HEnd.out, List.append_nil]; exact HO2.out.on hBb)
        have HBf := Lib.hid (hB.trans ((hB2.mono hB.size).trans (hBb.mono (Nat.le_trans hB.size hB2.size))))
        clear hBb
        go_wp2_with fail
        go_ret2
        exact ⟨_, _, rfl, HR.out, HR2.out, HBf.out⟩
      · have e1 : decide (now < y) = false := decide_eq_false h3
        have HSt := Lib.hid (due_step (l := cur) (now := now) (by rw [← HM.out]; omega) (by rw [HSn.out]; exact h3))
        have HLs := Lib.hid (drop_less (nextL_mem (l := cur) (by rw [← HM.out]; omega)))
        rw [HSn.out] at HSt HLs
        have hBb : Below w2.heap.size w2 (w2.alloc (.cells #[.int .i64 x, .int .i64 y] 63)) := (Below.refl _ _).alloc (Nat.le_refl _) _
        have hbx := BoxT.new w2 x y
        have HOb := Lib.hid (HO2.out.on hBb)
        have HLfb := Lib.hid (HLf2.out.on (Nat.le_trans hB.size hB2.size) hBb)
        have HBb := Lib.hid (hB.trans ((hB2.mono hB.size).trans (hBb.mono (Nat.le_trans hB.size hB2.size))))
        have HLo := Lib.hid (World.ownsRow.lt HO2.out)
        obtain ⟨v3, w3, hrun, ho3, hg3⟩ := append_i (w2.alloc (.cells #[.int .i64 x, .int .i64 y] 63)) w.heap.size 36 u6 out x HOb.out (by omega) HBb.out.size
        rw [show (w2.alloc (.cells #[.int .i64 x, .int .i64 y] 63)).heap.size = w2.heap.size + 1 by simp] at hrun
        have HRun := Lib.hid hrun
        have HO3 := Lib.hid ho3
        have HLf3 := Lib.hid (HLfb.out.kept HOb.out HBb.out.size _ hg3)
        have hx3 : BoxT w3 w2.heap.size x y := hbx.of_block ((hg3.block _ (by simp; omega) (fun e => by have := (HLo.out _ e.symm).2; omega)).trans (Below.heap_alloc _ _ _ (by simp)))
        have HB3 := Lib.hid ((HBb.out.alloc HBb.out.size (.cells #[.int .i64 x] 3)).grown hg3 (by have := HBb.out.size; simp at *; omega) (fun k e => (World.ownsRow.lt HOb.out k e).1))
        obtain ⟨z0, z1⟩ := hx3.cells
        clear hrun ho3
        go_wp2_with (at_builtin; refine Lib.wpList_append_run _ rfl _ _ _ _ rfl _ _ rfl rfl _ _ HRun.out ?_)
        refine (rdrop_any _ cur x w3 (HLf3.out.spans HB3.out.size) (by rw [← HM.out]; omega)).mono ?_
        rintro e w4 ⟨v4, rfl, ho4, hB4⟩
        obtain ⟨A4, c4, hv4, -⟩ := ho4.spans
        have HR : Hid (Left v w4 w.heap.size v4 (dropL cur x)) := Lib.hid (.inr (ho4.base HB3.out.size))
        have HR2 : Hid (OwnI w4 w.heap.size v3 (out ++ [x])) := Lib.hid (HO3.out.on hB4)
        have HR3 : Hid ((dueL (dropL cur x) now).1 = (dueL l now).1) := Lib.hid (by rw [← H1.out, HSt.out])
        have HR4 : Hid ((out ++ [x]) ++ (dueL (dropL cur x) now).2 = (dueL l now).2) := Lib.hid (by rw [← H2.out, HSt.out]; simp)
        have HR5 : Hid (Below w.heap.size w w4) := Lib.hid (HB3.out.trans (hB4.mono HB3.out.size))
        have HR6 : Hid ((dropL cur x).length < m ∧ (dropL cur x).length + (out ++ [x]).length ≤ 1000000) := Lib.hid (by have := HLs.out; rw [← HM.out] at this; refine ⟨this, ?_⟩; rw [List.length_append]; simp; omega)
        clear ho4 hB4
        subst hv4
        go_wp2_with fail
        go_roundw
        case rel => exact ⟨dropL cur x, out ++ [x], HR.out, HR2.out, HR3.out, HR4.out, HR6.out.2, HR5.out⟩
        case measure => exact HR6.out.1

end Go.Proofs.Ytlhfgiffdfcplaa
