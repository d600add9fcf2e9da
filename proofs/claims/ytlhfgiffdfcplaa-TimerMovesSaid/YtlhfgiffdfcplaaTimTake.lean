/-
  Layer 5: take: a key is taken out of the line by container/heap, and out of the map.
-/
import Derived.Test.YtlhfgiffdfcplaaTimQueue
namespace Go.Proofs.Ytlhfgiffdfcplaa
open Go.RowKit Go.Deep Go.Sort

theorem drop_perm {l l' : List Sp} (h : l.Perm l') (key : Int) : (dropL l key).Perm (dropL l' key) := h.filter _
theorem drop_cons {r : List Sp} {s : Sp} (h : Keys (s :: r)) : dropL (s :: r) s.1 = r := by
  unfold Keys at h
  rw [List.map_cons, List.nodup_cons] at h
  unfold dropL
  rw [List.filter_cons_of_neg (by simp)]
  refine List.filter_eq_self.2 (fun t ht => ?_)
  have : t.1 ≠ s.1 := fun e => h.1 (by rw [← e]; exact List.mem_map_of_mem ht)
  simp [this]
/-- of a list with other names: a key is dropped -/
theorem drop_one {l r : List Sp} {s : Sp} (hk : Keys l) (h : l.Perm (s :: r)) : (dropL l s.1).Perm r := by
  have := drop_perm h s.1
  rw [drop_cons ((h.map _).nodup_iff.1 hk)] at this
  exact this
theorem drop_none {l : List Sp} {key : Int} (h : ∀ s ∈ l, s.1 ≠ key) : dropL l key = l := by
  unfold dropL
  refine List.filter_eq_self.2 (fun t ht => ?_)
  simp [h t ht]

theorem Mem.other {w w' : World} {a : Nat} {mv lv : Value} {d : Array It} (h : Mem w a mv lv d) (hb : ∀ k, Own a mv lv d k → mapB mv ≠ some k → w'.heap[k]? = w.heap[k]?) : Mem w' a mv lv d := by
  refine ⟨(hb a (.inl rfl) h.am).trans h.q, ?_, fun i hi => (hb _ (.inr (.inr (.inr ⟨_, at_mem hi, rfl⟩))) (h.xm _ (at_mem hi))).trans (h.item i hi), h.aq, h.ar, h.am, h.rm, h.rx, h.xm, h.xx⟩
  obtain ⟨h1, h2 | ⟨k, c, cur, e, hk, hh, r⟩⟩ := h.row
  · exact ⟨h1, .inl h2⟩
  · refine ⟨h1, .inr ⟨k, c, cur, e, hk, ?_, r⟩⟩
    have e2 : lv.ownBlock = some k := by rw [e]; rfl
    rw [hb k (.inr (.inr (.inl e2))) (h.rm k e2)]
    exact hh

theorem HQ.start {w : World} {a : Nat} {mv lv : Value} {d : Array It} {m : List (Int × Value)} {l : List Sp} (h : QL w a mv lv d m l) : HQ w (Own a mv lv d) a mv d.toList w d :=
  ⟨⟨lv, h.mem, ⟨rfl, rfl, rfl, Nat.le_refl _, fun _ _ _ => rfl, fun _ hk => .inl hk⟩, fun x hx e => h.mem.rx _ e x hx rfl⟩, fun k hk => ⟨h.mp.lt k hk, rfl⟩, fun x hx => by
    obtain ⟨i, hi, rfl⟩ := mem_at hx
    exact ⟨⟨_, h.mem.item i hi⟩, h.mem.aq _ hx⟩, by have := h.len; have := h.small; omega⟩

/-- what is left when x was taken -/
theorem taken {w W w2 : World} {a b : Nat} {lv lv' : Value} {d d' : Array It} {m m' : List (Int × Value)} {l : List Sp} {i : Nat} (h : QL w a (.map (some b)) lv d m l)
    (hm : Mem W a (.map (some b)) lv' d') (hp : (d'.toList ++ [d[i]!]).Perm d.toList) (hh : HeapN ltI d'.size d')
    (hmp : MapP w2 (.map (some b)) m') (hpm : m.Perm ((d[i]!.2.1, ptrOf d[i]!) :: m')) (hg2 : Grows (fun k => k = b) (fun k => k = b) W w2) : QL w2 a (.map (some b)) lv' d' m' (dropL l d[i]!.2.1) := by
  have hp2 : d.toList.Perm (d[i]! :: d'.toList) := hp.symm.trans (List.perm_append_singleton _ _)
  have hlt : ∀ k, Own a (.map (some b)) lv' d' k → mapB (.map (some b)) ≠ some k → k < W.heap.size := fun k hk hn => by
    rcases hk with rfl | hk | hk | ⟨x, hx, rfl⟩
    · exact hm.q.lt
    · exact absurd hk hn
    · exact (World.ownsRow.lt hm.row k hk).2
    · obtain ⟨j, hj, rfl⟩ := mem_at hx
      exact (hm.item j hj).lt
  have hls : (d'.toList.map (·.2)).Perm (dropL l d[i]!.2.1) := (drop_one h.keys (h.ls.symm.trans (hp2.map _))).symm
  refine ⟨hm.other (fun k hk hn => hg2.block k (hlt k hk hn) (fun e => hn (by rw [e]; rfl))), hh, hmp, ?_, hls, drop_keys h.keys _, Nat.le_trans (dropL_length _ _) h.small⟩
  have h1 := hpm.symm.trans (h.mks.trans (hp2.map (fun x => (x.2.1, ptrOf x))))
  exact List.Perm.cons_inv h1

theorem QL.map_form {w : World} {a : Nat} {mv lv : Value} {d : Array It} {m : List (Int × Value)} {l : List Sp} (h : QL w a mv lv d m l) (hd : 0 < d.size) : ∃ b, mv = .map (some b) := by
  rcases h.mp with ⟨_, e⟩ | ⟨b, _, _, e, _⟩
  · have := h.mks.length_eq
    rw [e] at this
    simp at this
    omega
  · exact ⟨b, e⟩

set_option maxRecDepth 100000 in
set_option maxHeartbeats 1000000 in
theorem qtake_any {w : World} {a : Nat} {mv lv : Value} {d : Array It} {m : List (Int × Value)} {l : List Sp} (h : QL w a mv lv d m l) {i : Nat} (hi : i < d.size) :
    Calls Try.prog 29 #[.pointer (some ⟨a, 0, none⟩), .int .i64 i] w fun e w' => e = .returned (.int .i64 d[i]!.2.1) ∧ ∃ lv' d' m', QL w' a mv lv' d' m' (dropL l d[i]!.2.1) ∧ Grows (Own a mv lv d) (Own a mv lv' d') w w' := by
  obtain ⟨n, hn⟩ : ∃ n, d.size = n + 1 := ⟨d.size - 1, by omega⟩
  obtain ⟨b, rfl⟩ := h.map_form (by omega)
  have HR := Lib.hid (remove_any (heap_on w (Own a (.map (some b)) lv d) a (.map (some b)) d.toList) (heap_more w (Own a (.map (some b)) lv d) a (.map (some b)) d.toList) ltI_swo w d i n (HQ.start h) hn (by omega) h.heap (by have := h.len; have := h.small; omega))
  have H := Lib.hid h
  have HI := Lib.hid hi
  obtain ⟨x, hxe⟩ : ∃ x, x = d[i]! := ⟨_, rfl⟩
  have HXe := Lib.hid hxe
  rw [← hxe] at HR ⊢
  obtain ⟨g, k, t⟩ := x
  clear h hi hn hxe
  go_enter Try.func29, Try.ntmps29
  go_wp2_with fail
  refine HR.out.mono ?_
  rintro e W ⟨rfl, d', hq, hp, hh⟩
  obtain ⟨lv', hm, hg, -⟩ := hq.mem
  have hmp : MapP W.drew (.map (some b)) m := H.out.mp.kept (fun k hk => (hq.map k hk).2)
  obtain ⟨w2, m', hdel, hmp2, hpm, hg2⟩ := run_del (ty := 1) hmp d[i]!.2.1 (ptrOf d[i]!) H.out.mkeys (H.out.at_m HI.out)
  obtain ⟨p, hx⟩ := (hq.all d[i]! (at_mem HI.out)).1
  have HE := Lib.hid (taken H.out (hm.drewN 1) (by rw [← HXe.out]; exact hp) hh hmp2 hpm hg2)
  have HG : Hid (Grows (Own a (.map (some b)) lv d) (Own a (.map (some b)) lv' d') w w2) := Lib.hid (by
    refine hg.trans ⟨hg2.os, hg2.tape, hg2.output, hg2.size, fun k hk hn => hg2.block k hk (fun e => hn (.inr (.inl (by rw [e]; rfl)))), fun k hk => .inl hk⟩)
  have hx2 : WBox w2 d[i]! p := (hg2.block d[i]!.1 hx.lt (fun e => H.out.mem.xm _ (at_mem HI.out) (by rw [e]; rfl))).trans hx
  have k1 := hx.cells.1
  have k2 := hx2.cells.1
  have c1 := hm.q.cells.2
  have hta := run_assert_w (.pointer (some ⟨d[i]!.1, 0, none⟩))
  rw [← HXe.out] at k1 k2 hdel HE hta
  clear hmp hmp2 hpm hg2 hx hx2 hq hm hg hp hh
  simp only [ptrOf] at k1 k2 hdel hta ⊢
  have HDel : ∀ ty, Sem.run Try.prog (Builtin.delete_ #[55, 3] ty #[.map (some b), .int .i64 k]) W.drew = .ok (.tuple #[]) w2 := fun _ => hdel
  clear hdel
  go_wp2_with fail
  go_region
  go_wp2_with fail
  go_ret
  exact ⟨rfl, lv', d', m', HE.out, HG.out⟩

end Go.Proofs.Ytlhfgiffdfcplaa
