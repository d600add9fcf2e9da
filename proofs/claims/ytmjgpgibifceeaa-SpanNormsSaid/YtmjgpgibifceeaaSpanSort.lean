/-
  Layer 4: the program's sorted: the same spans, each behind those that begin ahead of it, in a row of the call's own.
-/
import Derived.Test.YtmjgpgibifceeaaSpanClone
import Derived.Test.YtmjgpgibifceeaaShelf
import Derived.Shelf.SlSortCmp.WholeK
namespace Go.Proofs.Ytmjgpgibifceeaa
open Go.RowKit Go.Deep Go.Sort

theorem compare_lt (x y : Int) : Lib.compareInt x y < 0 ↔ x < y := by
  unfold Lib.compareInt
  split
  · exact ⟨fun _ => by assumption, fun _ => by decide⟩
  · split <;> constructor <;> intro h <;> first | omega | exact absurd h (by decide)
theorem compare_zero (x y : Int) : Lib.compareInt x y = 0 ↔ x = y := by
  unfold Lib.compareInt
  split
  · exact ⟨fun h => absurd h (by decide), fun _ => by omega⟩
  · split
    · exact ⟨fun h => absurd h (by decide), fun _ => by omega⟩
    · exact ⟨fun _ => by omega, fun _ => rfl⟩
theorem ltS (x y : Sp) : ltOf cmpS x y = decide (x.1 < y.1 ∨ (x.1 = y.1 ∧ x.2 < y.2)) := by
  have a1 := compare_lt x.1 y.1
  have a2 := compare_zero x.1 y.1
  have a3 := compare_lt x.2 y.2
  unfold ltOf cmpS orI
  congr 1
  apply propext
  split
  · rename_i h; have := a2.1 h; rw [a3]; omega
  · rename_i h; rw [a1]; constructor
    · exact .inl
    · rintro (h2 | ⟨h2, _⟩)
      · exact h2
      · exact absurd (a2.2 h2) h
theorem swoS : SWO (ltOf cmpS) where
  irrefl x := by rw [ltS]; simp
  trans x y z h1 h2 := by rw [ltS] at *; simp only [decide_eq_true_eq] at *; omega
  ntrans x y z h1 h2 := by rw [ltS] at *; simp only [decide_eq_false_iff_not] at *; omega

theorem cmp_lays (blk off size : Nat) (w : World) : CmpLays Try.prog 35 #[] encS 2 cmpS blk off size w :=
  fun _ _ _ _ x y => cmpS_any x y _

/-! ### no element -/
set_option maxHeartbeats 1000000 in
theorem insertion_none (p : Option Addr) (cap : Nat) (fv : Value) (w : World) : Calls Try.prog 41 #[.slice p 0 cap, .int .i64 0, .int .i64 0, fv] w fun e w' => e = .returned (.tuple #[]) ∧ w' = w := by
  go_enter Try.func41, Try.ntmps41
  go_wp2
  refine wp_loop_rounds 1 ?_
  rw [rounds_succ]
  go_wp2
  go_end0
  exact ⟨rfl, rfl⟩
set_option maxHeartbeats 1000000 in
theorem pdq_none (p : Option Addr) (cap : Nat) (lim : Int) (fv : Value) (w : World) : Calls Try.prog 38 #[.slice p 0 cap, .int .i64 0, .int .i64 0, .int .i64 lim, fv] w fun e w' => e = .returned (.tuple #[]) ∧ w' = w := by
  go_enter Try.func38, Try.ntmps38
  go_wp2
  refine wp_loop_rounds 1 ?_
  rw [rounds_succ]
  go_wp2_with (go_at_call 41; refine (insertion_none _ _ _ _).mono ?_; rintro e w' ⟨rfl, rfl⟩)
  (try simp only [Exit.inBlock, Exit.then]); refine bodyPost_ret (results_none rfl _ _ _) rfl ?_
  exact ⟨rfl, rfl⟩
theorem len_zero (w : World) : Calls Try.prog 39 #[.int .u64 0] w fun e w' => e = .returned (.int .i64 (Lib.bitLen 0 : Nat)) ∧ w' = w :=
  Any.bits_Len (SlLaysF0.n15.bits (P := Try.prog) (ρ := Try.sortSpan_ren) { Try.sortSpan with }) 0 w (by omega) (by omega)
set_option maxHeartbeats 1000000 in
theorem sort_none (p : Option Addr) (cap : Nat) (fv : Value) (w : World) : Calls Try.prog 34 #[.slice p 0 cap, fv] w fun e w' => e = .returned (.tuple #[]) ∧ w' = w := by
  have hl := fun W => len_zero W
  generalize (Lib.bitLen 0 : Nat) = k at hl
  go_enter Try.func34, Try.ntmps34
  go_wp2_with (first | (go_at_call 39; refine (hl _).mono ?_; rintro e w' ⟨rfl, rfl⟩) | (go_at_call 38; refine (pdq_none _ _ _ _ _).mono ?_; rintro e w' ⟨rfl, rfl⟩))
  go_end0
  exact ⟨rfl, rfl⟩

/-! ### the sort -/
theorem sort_any (base g cap n : Nat) (l : List Sp) (w : World) (h : OwnS w base (.slice (some ⟨g, 0, none⟩) n cap) l) (hn : l.length = n) (hlen : n ≤ 1000000) :
    Calls Try.prog 34 #[.slice (some ⟨g, 0, none⟩) n cap, .func (.func 35) #[] #[]] w fun e w' => e = .returned (.tuple #[]) ∧
      ∃ m : List Sp, m.Perm l ∧ m.Pairwise (fun a b => a.1 ≤ b.1) ∧ OwnS w' base (.slice (some ⟨g, 0, none⟩) n cap) m ∧ w.grownBy w' (some g) := by
  have eg : ∀ args w, (callFunc 35 args).run Try.prog w = .ok (.enter 35 args) w := enters_of Try.func35 (by kernel_rfl) rfl
  have hg := World.ownsRow.lt h g rfl
  have hcon := AnyQ.slices_SortFunc Try.sortSpan 2 Try.isAgg24 Try.sizeOf24 encS (fun _ => rfl) (fun x v hv => by simp [encS] at hv; rcases hv with rfl | rfl <;> rfl) cmpS swoS 35 #[] g 0 cap l.toArray w eg (cmp_lays g 0 _ w) (holds_own h hn) hg.2 (by simp; omega)
  have hsz : l.toArray.size = n := by simpa using hn
  rw [hsz] at hcon
  refine Calls.mono hcon ?_
  rintro e w' ⟨he, d', q, os, hp, hs, rfl⟩
  have hsd : d'.size = n := by rw [hp.1, hsz]
  have hperm : d'.toList.Perm l := by
    have := hp.2.2
    rw [show d'.extract 0 n = d' by rw [← hsd]; simp, show l.toArray.extract 0 n = l.toArray by rw [← hsz]; simp] at this
    simpa using this
  have hd : d' = d'.toList.toArray := by simp
  rw [hd]
  obtain ⟨o1, o2⟩ := own_sorted (q := q) (os := os) (m := d'.toList) h hn (by simpa using hsd)
  refine ⟨he, d'.toList, hperm, ?_, o1, o2⟩
  rw [List.pairwise_iff_getElem]
  intro i j hi hj hij
  have := hs i j (Nat.zero_le _) hij (by simpa [hsd] using hj)
  rw [getElem!_pos d' i (by simpa using hi), getElem!_pos d' j (by simpa using hj), ltS, decide_eq_false_iff_not] at this
  simp only [Array.getElem_toList]
  omega

/-- the same, whether the row has spans or not -/
theorem sort_own {base : Nat} {u : Value} {l : List Sp} {w : World} (h : OwnS w base u l) (hlen : l.length ≤ 1000000) : ∀ f, f = Value.func (.func 35) #[] #[] → Calls Try.prog 34 #[u, f] w fun e w' => e = .returned (.tuple #[]) ∧
      ∃ m : List Sp, m.Perm l ∧ m.Pairwise (fun a b => a.1 ≤ b.1) ∧ OwnS w' base u m ∧ w.grownBy w' u.ownBlock := by
  rintro f rfl
  rcases Nat.eq_zero_or_pos l.length with h0 | h0
  · have hl : l = [] := List.eq_nil_of_length_eq_zero h0
    subst hl
    have h2 := h
    obtain ⟨_, ⟨rfl, _⟩ | ⟨g, cap, cur, rfl, _⟩⟩ := h2
    · refine (sort_none none 0 _ w).mono ?_
      rintro e w' ⟨rfl, rfl⟩
      exact ⟨rfl, [], List.Perm.refl _, List.Pairwise.nil, h, ⟨rfl, rfl, rfl, Nat.le_refl _, fun _ _ _ => rfl⟩⟩
    · refine (sort_none (some ⟨g, 0, none⟩) cap _ w).mono ?_
      rintro e w' ⟨rfl, rfl⟩
      exact ⟨rfl, [], List.Perm.refl _, List.Pairwise.nil, h, ⟨rfl, rfl, rfl, Nat.le_refl _, fun _ _ _ => rfl⟩⟩
  · obtain ⟨g, cap, rfl, _, _⟩ := OwnS.form h h0
    exact sort_any base g cap l.length l w h rfl hlen

set_option maxHeartbeats 1000000 in
theorem sorted_any (v : Value) (l : List Sp) (w : World) (h : Spans w w.heap.size v l) (hlen : l.length ≤ 1000000) :
    Calls Try.prog 30 #[v] w fun e w' => ∃ v' m, e = .returned v' ∧ List.Perm m l ∧ m.Pairwise (fun a b => a.1 ≤ b.1) ∧ Spans w' w'.heap.size v' m ∧ Below w.heap.size w w' := by
  have HC := Lib.hid (clone_any v l w h hlen)
  clear h
  go_enter Try.func30, Try.ntmps30
  go_wp2_with (first | (go_at_call 33; refine HC.out.mono ?_; rintro e w2 ⟨u, rfl, hO, hB⟩; have HO := Lib.hid hO; have HB := Lib.hid hB; have HS : Hid (∀ f, f = Value.func (.func 35) #[] #[] → Calls Try.prog 34 #[u, f] w2 fun e w' => e = .returned (.tuple #[]) ∧ ∃ m : List Sp, m.Perm l ∧ m.Pairwise (fun a b => a.1 ≤ b.1) ∧ OwnS w' w.heap.size u m ∧ w2.grownBy w' u.ownBlock) := Lib.hid (sort_own hO hlen); clear hO hB) | (go_at_call 34; refine (HS.out _ rfl).mono ?_; rintro e w3 ⟨rfl, m, hp, hs, hO2, hg⟩; have HP := Lib.hid hp; have HSo := Lib.hid hs; have HO2 := Lib.hid hO2; have HG := Lib.hid hg; clear hp hs hO2 hg))
  go_ret
  exact ⟨_, m, rfl, HP.out, HSo.out, HO2.out.spans, HB.out.grown HG.out HB.out.size (fun k e => (World.ownsRow.lt HO.out k e).1)⟩

end Go.Proofs.Ytmjgpgibifceeaa
