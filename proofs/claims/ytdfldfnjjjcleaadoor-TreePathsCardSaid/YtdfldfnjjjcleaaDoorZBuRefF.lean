/-
  Layer 8: the document's builder: lay: what holds between its steps.
-/
import Derived.Test.YtdfldfnjjjcleaaDoorZBuRefE

namespace Go.Proofs.YtdfldfnjjjcleaaDoor
open Go.RowKit Go.Deep

/-- what holds between the steps of lay -/
structure LSt (w : World) (P : Nat → Prop) (sz : Nat) (k z : Int) (vw vb vk : Value) (A : Option Addr) (n c : Nat) (st : St) (X : World) : Prop where
  len : n = st.a.length
  box : SBox X w.heap.size (.slice A n c) sz st.full
  tree : TBox X (w.heap.size + 1) k z vw vb vk
  res : SBox X (w.heap.size + 2) (.slice none 0 0) 0 false
  ar : ArP X (fun b => P b ∨ (w.heap.size + 3 ≤ b ∧ b < X.heap.size)) (.slice A n c) st.a
  below : Below w.heap.size w X
  size : w.heap.size + 3 ≤ X.heap.size
section
variable {w X : World} {P : Nat → Prop} {sz : Nat} {k z : Int} {vw vb vk : Value} {A : Option Addr} {n c : Nat} {st : St}
theorem LSt.hP (h : LSt w P sz k z vw vb vk A n c st X) (hPw : ∀ b, P b → b < w.heap.size) : ∀ b, (P b ∨ (w.heap.size + 3 ≤ b ∧ b < X.heap.size)) → b < X.heap.size := fun b hb => by
  rcases hb with hb | hb
  · have := hPw b hb
    have := h.size
    omega
  · exact hb.2
theorem LSt.on (h : LSt w P sz k z vw vb vk A n c st X) (hPw : ∀ b, P b → b < w.heap.size) {Y : World} (hB : Below X.heap.size X Y) : LSt w P sz k z vw vb vk A n c st Y :=
  ⟨h.len, h.box.on hB, h.tree.on hB, h.res.on hB, (h.ar.keep (fun b hb => hB.block b (h.hP hPw b hb))).mono (fun b hb => by
    have := hB.size
    rcases hb with hb | hb
    · exact .inl hb
    · exact .inr ⟨hb.1, by omega⟩), h.below.trans (hB.mono (by have := h.size; omega)), by have := h.size; have := hB.size; omega⟩
theorem LSt.lc (h : LSt w P sz k z vw vb vk A n c st X) : LCells w (.slice A n c) sz st.full k z vw vb vk X := lcells h.box h.tree
/-- a call's answer is stored as the state -/
theorem LSt.put (h : LSt w P sz k z vw vb vk A n c st X) (hPw : ∀ b, P b → b < w.heap.size) {Y V : World} (hX : Below X.heap.size X Y) (hB : Below Y.heap.size Y V) {st' : St} {A' : Option Addr} {n' c' : Nat} (hn : n' = st'.a.length)
    (hA : ArP V (fun b => (P b ∨ (w.heap.size + 3 ≤ b ∧ b < X.heap.size)) ∨ (Y.heap.size ≤ b ∧ b < V.heap.size)) (.slice A' n' c') st'.a) :
    LSt w P sz k z vw vb vk A' n' c' st' (((V.setCell ⟨w.heap.size, 0, none⟩ (.slice A' n' c')).setCell ⟨w.heap.size, 1, none⟩ (.int .i64 sz)).setCell ⟨w.heap.size, 2, none⟩ (.bool st'.full)) := by
  have hXY := hX.size
  have hYV := hB.size
  have hz := h.size
  have hXV : Below X.heap.size X V := hX.trans (hB.mono hXY)
  refine ⟨hn, (h.box.on hXV).set3 _ _ _, ?_, ?_, ?_, below_set3 (h.below.trans (hXV.mono (by omega))) (Nat.le_refl _) _ _ _, by rw [size_set3]; omega⟩
  · exact (set3_other V w.heap.size _ _ _ (by omega)).trans (h.tree.on hXV)
  · exact (set3_other V w.heap.size _ _ _ (by omega)).trans (h.res.on hXV)
  · rw [size_set3]
    refine (hA.put (fun b hb => ?_) _ _ _).mono (fun b hb => ?_)
    · rcases hb with (hb | hb) | hb
      · have := hPw b hb; omega
      · omega
      · omega
    · rcases hb with (hb | hb) | hb
      · exact .inl hb
      · exact .inr ⟨hb.1, by omega⟩
      · exact .inr ⟨by omega, hb.2⟩
/-- what the store wants -/
def LPut (w : World) (P : Nat → Prop) (sz : Nat) (k z : Int) (vw vb vk : Value) (A : Option Addr) (n c : Nat) (st : St) (A' : Option Addr) (n' c' : Nat) (st' : St) (V : World) : Prop :=
  V.cell? ⟨w.heap.size, 0, none⟩ = some (.slice A n c) ∧ V.cell? ⟨w.heap.size, 1, none⟩ = some (.int .i64 sz) ∧ V.cell? ⟨w.heap.size, 2, none⟩ = some (.bool st.full) ∧ V.frozen? ⟨w.heap.size, 0, none⟩ = false ∧ V.frozen? ⟨w.heap.size, 1, none⟩ = false ∧ V.frozen? ⟨w.heap.size, 2, none⟩ = false ∧
    LSt w P sz k z vw vb vk A' n' c' st' (((V.setCell ⟨w.heap.size, 0, none⟩ (.slice A' n' c')).setCell ⟨w.heap.size, 1, none⟩ (.int .i64 sz)).setCell ⟨w.heap.size, 2, none⟩ (.bool st'.full))
theorem LSt.lput (h : LSt w P sz k z vw vb vk A n c st X) (hPw : ∀ b, P b → b < w.heap.size) {Y V : World} (hX : Below X.heap.size X Y) (hB : Below Y.heap.size Y V) {st' : St} {A' : Option Addr} {n' c' : Nat} (hn : n' = st'.a.length)
    (hA : ArP V (fun b => (P b ∨ (w.heap.size + 3 ≤ b ∧ b < X.heap.size)) ∨ (Y.heap.size ≤ b ∧ b < V.heap.size)) (.slice A' n' c') st'.a) : LPut w P sz k z vw vb vk A n c st A' n' c' st' V := by
  have hb := (h.on hPw (hX.trans (hB.mono hX.size))).box
  exact ⟨hb.cells.1, hb.cells.2.1, hb.cells.2.2, hb.frozen 0, hb.frozen 1, hb.frozen 2, h.put hPw hX hB hn hA⟩
theorem LSt.setC {a : List (List Int)} (h : LSt w P sz k z vw vb vk A n c ⟨a, false⟩ X) (hPw : ∀ b, P b → b < w.heap.size) {Y : World} (hX : Below X.heap.size X Y) (s i : Nat) (x : Int) (hs : s < n) (hi : i < (a[s]?.getD []).length) (hk : n ≤ 1000000) (hl : (a[s]?.getD []).length ≤ 1000000) :
    Calls Tryd.prog 60 #[.agg #[.slice A n c, .int .i64 sz, .bool false], .int .i64 s, .int .i64 i, .int .u64 x] Y fun e V => ∃ A' c', e = .returned (.agg #[.slice A' n c', .int .i64 sz, .bool false]) ∧ LPut w P sz k z vw vb vk A n c ⟨a, false⟩ A' n c' ⟨setA a s i x, false⟩ V ∧ Below Y.heap.size Y V ∧
      ArP V (fun b => (P b ∨ (w.heap.size + 3 ≤ b ∧ b < X.heap.size)) ∨ (X.heap.size ≤ b ∧ b < V.heap.size)) (.slice A' n c') (setA a s i x) := by
  refine (rset_any n A c a sz false s i x Y (fun b => P b ∨ (w.heap.size + 3 ≤ b ∧ b < X.heap.size)) (fun b hb => Nat.lt_of_lt_of_le (h.hP hPw b hb) hX.size) (h.ar.keep (fun b hb => hX.block b (h.hP hPw b hb))) h.len hs hi hk hl).mono ?_
  rintro e V ⟨A', c', rfl, hA, hB⟩
  have hXY := hX.size
  exact ⟨A', c', rfl, h.lput hPw hX hB (by rw [show (⟨setA a s i x, false⟩ : St).a = setA a s i x from rfl, setA_len]; exact h.len) hA, hB, hA.mono (fun b hb => by
    rcases hb with hb | hb
    · exact .inl hb
    · exact .inr ⟨by omega, hb.2⟩)⟩
theorem LSt.moreC (h : LSt w P sz k z vw vb vk A n c st X) (hPw : ∀ b, P b → b < w.heap.size) {Y : World} (hX : Below X.heap.size X Y) {A1 : Option Addr} {n1 c1 : Nat} {a : List (List Int)} {f : Bool} (hn : n1 = a.length) (hA : ArP Y (fun b => (P b ∨ (w.heap.size + 3 ≤ b ∧ b < X.heap.size)) ∨ (X.heap.size ≤ b ∧ b < Y.heap.size)) (.slice A1 n1 c1) a) (hp : 0 < n1)
    (seg : Nat) (hs : seg ≤ n1) (Al : Option Addr) (m cl : Nat) (l : List Int) (hl : NumS .u64 Y Y.heap.size (.slice Al m cl) l) (hk : n1 ≤ 1000000) (hm : l.length ≤ 1000000) (hlen : lenS a ≤ 1000000) :
    Calls Tryd.prog 62 #[.agg #[.slice A1 n1 c1, .int .i64 sz, .bool f], .int .i64 seg, .slice Al m cl] Y fun e V => ∃ A' n' c', e = .returned (.agg #[.slice A' n' c', .int .i64 sz, .bool (moreW sz ⟨a, f⟩ seg l).full]) ∧ LPut w P sz k z vw vb vk A n c st A' n' c' (moreW sz ⟨a, f⟩ seg l) V := by
  have hXY := hX.size
  refine (rmore_any n1 A1 c1 a sz f seg Al m cl l Y (fun b => (P b ∨ (w.heap.size + 3 ≤ b ∧ b < X.heap.size)) ∨ (X.heap.size ≤ b ∧ b < Y.heap.size)) (fun b hb => by
    rcases hb with hb | hb
    · exact Nat.lt_of_lt_of_le (h.hP hPw b hb) hXY
    · exact hb.2) hA hn hp hs hl hk hm hlen).mono ?_
  rintro e V ⟨A', n', c', rfl, hA', hn', hB⟩
  have hYV := hB.size
  exact ⟨A', n', c', rfl, h.lput hPw (Below.refl _ _) (hX.trans (hB.mono hXY)) hn' (hA'.mono (fun b hb => by
    rcases hb with (hb | hb) | hb
    · exact .inl hb
    · exact .inr ⟨hb.1, by omega⟩
    · exact .inr ⟨by omega, hb.2⟩))⟩
theorem LSt.layC (h : LSt w P sz k z vw vb vk A n c st X) (hPw : ∀ b, P b → b < w.heap.size) {Y : World} (hX : Below X.heap.size X Y) {t : Tr} (ih : RLayC sz t) (left : Nat) (v : Value) (s i : Nat) (hd : deepB t left = true) (hT : TrV Y Y.heap.size t v) (hp : 0 < n) (hf : st.full = false → (∃ x, Has st.a s i x) ∧ RoomA sz st.a) :
    Calls Tryd.prog 38 #[.agg #[.slice A n c, .int .i64 sz, .bool st.full], v, .int .i64 s, .int .i64 i] Y fun e V => ∃ A' n' c', e = .returned (.agg #[.slice A' n' c', .int .i64 sz, .bool (lay sz t st s i).full]) ∧ LPut w P sz k z vw vb vk A n c st A' n' c' (lay sz t st s i) V := by
  obtain ⟨a, f⟩ := st
  refine (ih left v n A c a f s i Y (fun b => P b ∨ (w.heap.size + 3 ≤ b ∧ b < X.heap.size)) (fun b hb => Nat.lt_of_lt_of_le (h.hP hPw b hb) hX.size) hd hT (h.ar.keep (fun b hb => hX.block b (h.hP hPw b hb))) h.len hp hf).mono ?_
  rintro e V ⟨A', n', c', rfl, hA', hn', hB⟩
  exact ⟨A', n', c', rfl, h.lput hPw hX hB hn' hA'⟩
end

theorem one_in8 (q : IntKind) (t : Nat) (w : World) (x : Int) : NumS q (w.alloc (.cells #[.int q x] t)) (w.alloc (.cells #[.int q x] t)).heap.size (.slice (some ⟨w.heap.size, 0, none⟩) 1 1) [x] := by
  refine ⟨_, 1, rfl, by simp, by omega, fun _ => ⟨w.heap.size, 0, rfl, by simp, fun j hj => ?_⟩⟩
  obtain rfl : j = 0 := by simp at hj; omega
  have := cell_one_new w (.int q x) t 0 (.int q x) rfl
  rwa [Addr.add_lit] at this
/-- its pointer, and where it is laid -/
def ptSt (sz : Nat) (t : Tr) (st : St) (s i : Nat) : St × Nat × Nat :=
  if s = st.a.length - 1 ∧ (st.a[st.a.length - 1]?.getD []).length + needT t ≤ sz then (setW st s i (nearW t (((st.a[st.a.length - 1]?.getD []).length : Int) - i - 1)), st.a.length - 1, (st.a[st.a.length - 1]?.getD []).length)
  else if s = st.a.length - 1 ∨ sz < (st.a[st.a.length - 1]?.getD []).length + needT t + 1 then (moreW sz (setW st s i (farW (st.a.length - 1 + 1) 0)) (st.a.length - 1 + 1) [nearW t 0], st.a.length - 1 + 1, 0 + 1)
  else (moreW sz (setW st s i (farW (st.a.length - 1) (st.a[st.a.length - 1]?.getD []).length)) (st.a.length - 1) [nearW t 0], st.a.length - 1, (st.a[st.a.length - 1]?.getD []).length + 1)
theorem laySt_pt (sz : Nat) (t : Tr) (st : St) (s i : Nat) : laySt sz t st s i = (moreW sz (ptSt sz t st s i).1 (ptSt sz t st s i).2.1 (contentT t), (ptSt sz t st s i).2.1, (ptSt sz t st s i).2.2) := by
  unfold laySt ptSt
  dsimp only
  by_cases h1 : s = st.a.length - 1 ∧ (st.a[st.a.length - 1]?.getD []).length + needT t ≤ sz
  · rw [if_pos h1, if_pos h1]
  · rw [if_neg h1, if_neg h1]
    by_cases h2 : s = st.a.length - 1 ∨ sz < (st.a[st.a.length - 1]?.getD []).length + needT t + 1
    · simp only [if_pos h2]
    · simp only [if_neg h2]

theorem need_small {k z : Int} {ws bs : List Int} {ks : List Tr} {left : Nat} (hd : deepB (.mk k z ws bs ks) left = true) (hk : k ≠ 0) : needT (.mk k z ws bs ks) ≤ 4096 := by
  unfold deepB at hd
  rw [if_neg hk] at hd
  simp only [Bool.and_eq_true] at hd
  have h := hd.1
  unfold oneB at h
  by_cases h2 : k = 2
  · subst h2
    rw [if_pos rfl] at h
    have h := of_decide_eq_true h
    rw [need2]
    omega
  · rw [if_neg h2] at h
    have h := of_decide_eq_true h
    obtain ⟨rfl, h3⟩ := h
    rw [need1]
    omega
/-- what holds of the state behind the pointer -/
theorem ptSt_bd {sz : Nat} {t : Tr} {a : List (List Int)} {s i : Nat} (hR : RoomA sz a) (hs : s < a.length) :
    0 < (ptSt sz t ⟨a, false⟩ s i).1.a.length ∧ (ptSt sz t ⟨a, false⟩ s i).1.a.length ≤ 17 ∧ (ptSt sz t ⟨a, false⟩ s i).2.1 < (ptSt sz t ⟨a, false⟩ s i).1.a.length ∧ lenS (ptSt sz t ⟨a, false⟩ s i).1.a ≤ 4097 ∧ (ptSt sz t ⟨a, false⟩ s i).2.2 ≤ 4097 := by
  have h1 := hR.2.1
  have h2 := hR.2.2
  have h3 := seg_leS a (a.length - 1)
  have hsl : (setA a s i 0).length = a.length := setA_len _ _ _ _
  have e1 : ∀ x, (setW ⟨a, false⟩ s i x).a = setA a s i x := fun _ => rfl
  have e2 : ∀ x seg y, (moreW sz (setW ⟨a, false⟩ s i x) seg [y]).a = (preA (setA a s i x) seg).set seg ((preA (setA a s i x) seg)[seg]?.getD [] ++ [y]) := fun _ _ _ => rfl
  have e3 : ∀ x, lenS (setA a s i x) = lenS a := fun x => setA_lenS _ _ _ _
  unfold ptSt
  dsimp only
  split
  · dsimp only
    rw [e1, setA_len, e3]
    omega
  · split
    · dsimp only
      have hp : ∀ x, preA (setA a s i x) (a.length - 1 + 1) = setA a s i x ++ [[]] := fun x => by
        unfold preA
        rw [if_pos (by rw [setA_len]; omega)]
      rw [e2, List.length_set, lenS_app (by rw [hp, List.length_append, setA_len]; simp; omega), hp, List.length_append, setA_len]
      have : ∀ x, lenS (setA a s i x ++ [[]]) = lenS a := fun x => by rw [← e3 x]; simp [lenS]
      rw [this]
      simp
      omega
    · dsimp only
      have hp : ∀ x, preA (setA a s i x) (a.length - 1) = setA a s i x := fun x => by
        unfold preA
        rw [if_neg (by rw [setA_len]; omega)]
      rw [e2, List.length_set, lenS_app (by rw [hp, setA_len]; omega), hp, setA_len, e3]
      simp
      omega

end Go.Proofs.YtdfldfnjjjcleaaDoor
