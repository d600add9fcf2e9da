/-
  Layer 5: the program's Drop and Due.
-/
import Derived.Test.YtlhfgiffdfcplaaTimTake
import Derived.LoopTactic
namespace Go.Proofs.Ytlhfgiffdfcplaa
open Go.RowKit Go.Deep Go.Sort

theorem own_same (a : Nat) (mv lv : Value) (d : Array It) (w : World) : Grows (Own a mv lv d) (Own a mv lv d) w w := ⟨rfl, rfl, rfl, Nat.le_refl _, fun _ _ _ => rfl, fun _ h => .inl h⟩
set_option maxRecDepth 100000 in
set_option maxHeartbeats 1000000 in
theorem qdrop_any {w : World} {a : Nat} {mv lv : Value} {d : Array It} {m : List (Int × Value)} {l : List Sp} (h : QL w a mv lv d m l) (key : Int) :
    Calls Try.prog 18 #[.pointer (some ⟨a, 0, none⟩), .int .i64 key] w fun e w' => e = .returned (.bool (decide ((dropL l key).length < l.length))) ∧ ∃ lv' d' m', QL w' a mv lv' d' m' (dropL l key) ∧ Grows (Own a mv lv d) (Own a mv lv' d') w w' := by
  have hF := qfind_any h key
  rcases h.has key with ⟨i, hi, hk⟩ | hk
  · have HT := Lib.hid (qtake_any h hi)
    have e1 := h.look_in hi
    have HB : Hid (decide ((dropL l key).length < l.length) = true) := Lib.hid (by rw [decide_eq_true_iff, ← hk]; exact drop_less (h.at_l hi))
    rw [hk] at e1 HT
    rw [e1] at hF
    have c1 := (h.mem.item i hi).cells.2.2
    rw [HB.out]
    unfold ptrOf at hF
    clear HB e1 hk h
    generalize d[i]!.1 = g at *
    have HF := Lib.hid hF
    clear hF
    go_enter Try.func18, Try.ntmps18
    go_wp2_with fail
    refine HF.out.mono ?_
    rintro e w' ⟨rfl, rfl⟩
    go_wp2_with fail
    refine HT.out.mono ?_
    rintro e w' ⟨rfl, hq⟩
    have HQ := Lib.hid hq
    clear hq
    go_wp2_with fail
    go_ret
    exact ⟨rfl, HQ.out⟩
  · have HB : Hid (dropL l key = l ∧ decide ((dropL l key).length < l.length) = false) := Lib.hid (by rw [drop_none hk]; simp)
    rw [h.look_out hk] at hF
    rw [HB.out.2]
    have HF := Lib.hid hF
    have HQ : Hid (∃ lv' d' m', QL w a mv lv' d' m' (dropL l key) ∧ Grows (Own a mv lv d) (Own a mv lv' d') w w) := Lib.hid (by rw [HB.out.1]; exact ⟨lv, d, m, h, own_same a mv lv d w⟩)
    clear HB hF h hk
    go_enter Try.func18, Try.ntmps18
    go_wp2_with fail
    refine HF.out.mono ?_
    rintro e w' ⟨rfl, rfl⟩
    go_wp2_with fail
    go_ret
    exact ⟨rfl, HQ.out⟩
set_option maxRecDepth 100000 in
theorem qdrop_nil (w : World) (key : Int) : Calls Try.prog 18 #[.pointer none, .int .i64 key] w fun e w' => e = .returned (.bool false) ∧ w' = w := by
  go_enter Try.func18, Try.ntmps18
  go_wp2_with fail
  refine (qfind_nil w key).mono ?_
  rintro e w' ⟨rfl, rfl⟩
  go_wp2_with fail
  go_ret
  exact ⟨rfl, rfl⟩

/-! ### Due -/
theorem QL.frame {w w' : World} {a : Nat} {mv lv : Value} {d : Array It} {m : List (Int × Value)} {l : List Sp} (h : QL w a mv lv d m l) (hb : ∀ k, Own a mv lv d k → w'.heap[k]? = w.heap[k]?) : QL w' a mv lv d m l :=
  ⟨h.mem.other (fun k hk _ => hb k hk), h.heap, h.mp.kept (fun k hk => hb k (.inr (.inl hk))), h.mks, h.ls, h.keys, h.small⟩
theorem append_j (w : World) (base ty : Nat) (v : Value) (xs : List Int) (x : Int) (hown : OwnI w base v xs) (hk : xs.length ≤ 1000000) (hbase : base ≤ w.heap.size) :
    ∃ v' w', (Builtin.append_ #[36, 36] ty #[v, .slice (some ⟨w.heap.size, 0, none⟩) 1 1]).run Try.prog (w.alloc (.cells #[.int .i64 x] 3)) = .ok v' w' ∧ OwnI w' base v' (xs ++ [x]) ∧ (w.alloc (.cells #[.int .i64 x] 3)).grownBy w' v.ownBlock ∧ (v'.ownBlock = v.ownBlock ∨ v'.ownBlock = some (w.heap.size + 1)) := by
  obtain ⟨i0, hi, hz0, hz1, hz2⟩ := info_parts Try.info3
  obtain ⟨v', w', hrun, ho, hg, _, hl⟩ := run_append_own_at (P := Try.prog) (w := w.alloc (.cells #[.int .i64 x] 3)) base 36 ty 3 i0 _ 1 8 Try.underlying36 hi hz0 hz1 hz2 rfl (by decide) v xs.length (xs.map (Value.int .i64)) (World.ownsRow.alloc hown _) ⟨w.heap.size, 0, none⟩ 1 1 [.int .i64 x] rfl (cell_one_new _ _ _) (fun u hu => by simp at hu; subst hu; rfl) (by unfold maxLen; omega) (by omega) (by simp; omega)
  refine ⟨v', w', hrun, ?_, hg, by simpa using hl⟩
  unfold OwnI
  rw [List.length_append, List.map_append]
  exact ho
theorem OwnI.kept {w w' : World} {base : Nat} {v : Value} {xs : List Int} (h : OwnI w base v xs) (hb : ∀ k, v.ownBlock = some k → w'.heap[k]? = w.heap[k]?) : OwnI w' base v xs := by
  obtain ⟨h1, h2 | ⟨k, c, cur, e, hk, hh, r⟩⟩ := h
  · exact ⟨h1, .inl h2⟩
  · exact ⟨h1, .inr ⟨k, c, cur, e, hk, (hb k (by rw [e]; rfl)).trans hh, r⟩⟩

/-- while what is due is gathered -/
structure DueAt (w : World) (a : Nat) (mv : Value) (S : Nat → Prop) (l : List Sp) (now : Int) (W : World) (v : Value) (l' : List Sp) (ks : List Int) (lv : Value) (d : Array It) (m : List (Int × Value)) : Prop where
  q : QL W a mv lv d m l'
  g : Grows S (Own a mv lv d) w W
  o : OwnI W w.heap.size v ks
  ap : ∀ k, v.ownBlock = some k → ¬ Own a mv lv d k
  e1 : (dueL l' now).1 = (dueL l now).1
  e2 : ks ++ (dueL l' now).2 = (dueL l now).2
  n : l'.length + ks.length ≤ 1000
theorem DueAt.step {w : World} {a : Nat} {mv : Value} {S : Nat → Prop} {l : List Sp} {now : Int} {W W2 : World} {v : Value} {l' : List Sp} {ks : List Int} {lv lv2 : Value} {d d2 : Array It} {m m2 : List (Int × Value)} (h : DueAt w a mv S l now W v l' ks lv d m) (hd : 0 < d.size) (hnow : ¬ now < d[0]!.2.2)
    (hq : QL W2 a mv lv2 d2 m2 (dropL l' d[0]!.2.1)) (hg : Grows (Own a mv lv d) (Own a mv lv2 d2) W W2) :
    ∃ v' w', (∀ ty, (Builtin.append_ #[36, 36] ty #[v, .slice (some ⟨W2.heap.size, 0, none⟩) 1 1]).run Try.prog (W2.alloc (.cells #[.int .i64 d[0]!.2.1] 3)) = .ok v' w') ∧ DueAt w a mv S l now w' v' (dropL l' d[0]!.2.1) (ks ++ [d[0]!.2.1]) lv2 d2 m2 := by
  have hlt := World.ownsRow.lt h.o
  have ho2 : OwnI W2 w.heap.size v ks := h.o.kept (fun k hk => hg.block k (hlt k hk).2 (h.ap k hk))
  have hsz := Nat.le_trans h.g.size hg.size
  obtain ⟨v', w', hrun, ho3, hg3, hl⟩ := append_j W2 w.heap.size 1 v ks d[0]!.2.1 ho2 (by have := h.n; omega) hsz
  have hne : ∀ k, Own a mv lv2 d2 k → v.ownBlock ≠ some k := fun k hk e => by
    rcases hg.own k hk with h1 | h1
    · exact h.ap k e h1
    · have := (hlt k e).2; omega
  have hmlt : ∀ k, Own a mv lv2 d2 k → k < W2.heap.size := fun k hk => Own.lt hq.mem hq.mp.lt hk
  have hkeep : ∀ k, k < W2.heap.size → v.ownBlock ≠ some k → w'.heap[k]? = W2.heap[k]? := fun k hk hn => (hg3.block k (by simp; omega) (fun e => hn e.symm)).trans (blk_alloc_lt _ _ _ hk)
  have hst := due_step (l := l') (now := now) (by rw [← h.q.len]; exact hd) (by rw [h.q.next hd]; exact hnow)
  rw [h.q.next hd] at hst
  have hless := drop_less (h.q.at_l hd)
  refine ⟨v', w', fun ty => hrun, ⟨hq.frame (fun k hk => hkeep k (hmlt k hk) (hne k hk)), ?_, ho3, ?_, ?_, ?_, ?_⟩⟩
  · have hgg := h.g.trans hg
    refine ⟨hg3.os.trans hgg.os, hg3.tape.trans hgg.tape, hg3.output.trans hgg.output, ?_, ?_, hgg.own⟩
    · have := hg3.size; simp at this; omega
    · intro k hk hn
      rw [hkeep k (by omega) (fun e => by have := (hlt k e).1; omega)]
      exact hgg.block k hk hn
  · intro k hk hO
    rcases hl with e | e
    · exact hne k hO (by rw [← e]; exact hk)
    · rw [e] at hk
      cases hk
      have := hmlt _ hO
      omega
  · rw [← h.e1, hst]
  · rw [← h.e2, hst]; simp
  · have := h.n
    rw [List.length_append]
    simp only [List.length_cons, List.length_nil]
    omega

set_option maxRecDepth 100000 in
set_option maxHeartbeats 1000000 in
theorem qdue_any {w : World} {a : Nat} {mv lv : Value} {d : Array It} {m : List (Int × Value)} {l : List Sp} (h : QL w a mv lv d m l) (now : Int) :
    Calls Try.prog 15 #[.pointer (some ⟨a, 0, none⟩), .int .i64 now] w fun e w' => ∃ v, e = .returned v ∧ (∃ lv' d' m', QL w' a mv lv' d' m' (dueL l now).1 ∧ Grows (Own a mv lv d) (Own a mv lv' d') w w' ∧ ∀ k, v.ownBlock = some k → ¬ Own a mv lv' d' k) ∧ OwnI w' w.heap.size v (dueL l now).2 := by
  have H0 : Hid (DueAt w a mv (Own a mv lv d) l now w (.slice none 0 0) l [] lv d m) := Lib.hid ⟨h, own_same a mv lv d w, OwnI.nil _ _, fun k hk => by simp [Value.ownBlock] at hk, rfl, by simp, by have := h.small; simpa using this⟩
  obtain ⟨S, hS⟩ : ∃ S, S = Own a mv lv d := ⟨_, rfl⟩
  rw [← hS] at H0 ⊢
  clear h hS
  go_enter Try.func15, Try.ntmps15
  go_wp2_with fail
  go_loopw [5] (fun v wr => ∃ l' ks lv' d' m', DueAt w a mv S l now wr v l' ks lv' d' m') (fun v _ => 1001 - lenV v)
  case atStart => exact ⟨l, [], lv, d, m, H0.out⟩
  case round =>
    obtain ⟨l', ks, lv', d', m', hd⟩ := hrel
    have HD := Lib.hid hd
    have HLen := Lib.hid (qlen_any hd.q)
    clear hd H0
    rcases Nat.eq_zero_or_pos d'.size with h0 | h0
    · have HR : Hid (∃ v, Ending.returned u5 = .returned v ∧ (∃ lv' d' m', QL wr a mv lv' d' m' (dueL l now).1 ∧ Grows S (Own a mv lv' d') w wr ∧ ∀ k, v.ownBlock = some k → ¬ Own a mv lv' d' k) ∧ OwnI wr w.heap.size v (dueL l now).2) := Lib.hid (by
        have he := due_end (l := l') (now := now) (.inl (by rw [← HD.out.q.len]; exact h0))
        have e1 := HD.out.e1
        have e2 := HD.out.e2
        rw [he] at e1 e2
        rw [List.append_nil] at e2
        exact ⟨u5, rfl, ⟨lv', d', m', by rw [← e1]; exact HD.out.q, HD.out.g, HD.out.ap⟩, by rw [← e2]; exact HD.out.o⟩)
      rw [h0] at HLen
      have e0 : decide ((0 : Int) < 0) = false := rfl
      clear HD h0
      go_wp2_with fail
      refine HLen.out.mono ?_
      rintro e w2 ⟨rfl, rfl⟩
      go_wp2_with fail
      go_ret
      exact HR.out
    · obtain ⟨g, cap, rfl, hc, -⟩ := HD.out.q.mem.lv_form h0
      have c1 := HD.out.q.mem.q.cells.1
      have c2 := HD.out.q.mem.cell h0
      have k2 := (HD.out.q.mem.item 0 h0).cells.2.1
      obtain ⟨x, hx⟩ : ∃ x, x = d'[0]! := ⟨_, rfl⟩
      have HX := Lib.hid hx
      have HH0 := Lib.hid h0
      have HT := Lib.hid (qtake_any HD.out.q h0)
      have HNx := Lib.hid (HD.out.q.next h0)
      rw [← hx] at c2 k2 HT HNx
      obtain ⟨b, k, t⟩ := x
      simp only at c2 k2
      obtain ⟨n, hn⟩ : ∃ n, n = d'.size := ⟨_, rfl⟩
      have HN := Lib.hid hn
      rw [← hn] at c1 HLen
      have i0 : (0 : Int) < (n : Int) := by omega
      have i1 : decide ((0 : Int) < (n : Int)) = true := decide_eq_true i0
      clear hx hc h0 hn
      by_cases hnow : now < t
      · have HR : Hid (∃ v, Ending.returned u5 = .returned v ∧ (∃ lv2 d2 m2, QL wr a mv lv2 d2 m2 (dueL l now).1 ∧ Grows S (Own a mv lv2 d2) w wr ∧ ∀ k, v.ownBlock = some k → ¬ Own a mv lv2 d2 k) ∧ OwnI wr w.heap.size v (dueL l now).2) := Lib.hid (by
          have he := due_end (l := l') (now := now) (.inr (by rw [HNx.out]; exact hnow))
          have e1 := HD.out.e1
          have e2 := HD.out.e2
          rw [he] at e1 e2
          rw [List.append_nil] at e2
          exact ⟨u5, rfl, ⟨_, d', m', by rw [← e1]; exact HD.out.q, HD.out.g, HD.out.ap⟩, by rw [← e2]; exact HD.out.o⟩)
        have i2 : decide (t ≤ now) = false := decide_eq_false (by omega)
        clear HD HT HX HNx HN HH0
        go_wp2_with fail
        refine HLen.out.mono ?_
        rintro e w2 ⟨rfl, rfl⟩
        go_wp2_with fail
        go_ret
        exact HR.out
      · have i2 : decide (t ≤ now) = true := decide_eq_true (by omega)
        have i3 : t ≤ now := by omega
        go_wp2_with fail
        refine HLen.out.mono ?_
        rintro e w2 ⟨rfl, rfl⟩
        go_wp2_with fail
        refine HT.out.mono ?_
        rintro e W2 ⟨rfl, lv2, d2, m2, hq2, hg2⟩
        obtain ⟨v', w', hrun, hd2⟩ := HD.out.step HH0.out (by rw [← HX.out]; show ¬ now < t; omega) (by rw [← HX.out]; exact hq2) hg2
        rw [← HX.out] at hrun hd2
        obtain ⟨A, cc, hv⟩ : ∃ A cc, v' = .slice A (ks.length + 1) cc := by
          obtain ⟨A, cc, e, -⟩ := hd2.o.ints
          exact ⟨A, cc, by rw [e, List.length_append]; rfl⟩
        obtain ⟨A0, c0, hv0⟩ : ∃ A cc, u5 = .slice A ks.length cc := by
          obtain ⟨A, cc, e, -⟩ := HD.out.o.ints
          exact ⟨A, cc, e⟩
        have HRun := Lib.hid hrun
        have HD2 := Lib.hid hd2
        have HM : Hid (1001 - lenV v' < 1001 - lenV u5) := Lib.hid (by
          rw [hv, hv0]
          have := HD.out.n
          show 1001 - (ks.length + 1) < 1001 - ks.length
          omega)
        clear hrun hd2 hv hv0 hq2 hg2
        go_wp2_with (at_builtin; refine Lib.wpList_append_run _ rfl _ _ _ _ rfl _ _ rfl rfl _ _ (HRun.out _) ?_)
        go_roundw
        case rel => exact ⟨_, _, lv2, d2, m2, HD2.out⟩
        case measure => exact HM.out

end Go.Proofs.Ytlhfgiffdfcplaa
