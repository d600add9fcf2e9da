/-
  Layer 11: the law ValidParts: its tree in memory.
-/
import Derived.Test.YtmmlfnblodfjbaaGreatDoorZVaK
import Derived.Test.YtmmlfnblodfjbaaGreatDoorZVaQ
import Derived.Test.YtmmlfnblodfjbaaGreatDoorZBuH
import Derived.Test.YtmmlfnblodfjbaaGreatDoorZGenZ
import Derived.Test.YtmmlfnblodfjbaaGreatDoorZMem
import Derived.Deep.DeepCutAuto
import Derived.Deep.CutBlock

namespace Go.Proofs.YtmmlfnblodfjbaaGreatDoor
open Go.RowKit Go.Deep

theorem wrap_ub {x : Tr} (h : UbT x) : (m : Nat) → UbT (wrapT m x)
  | 0 => by unfold wrapT; exact h
  | m+1 => by
    have ih := wrap_ub h m
    unfold wrapT UbT UbAll UbAll
    refine ⟨fun x hx => by simp at hx, fun x hx => by simp [wordsB] at hx, ?_, ih, trivial⟩
    unfold nearP wordN
    simp [Tr.kind, Tr.words, Tr.kids]
theorem base_ub {t : Tr} (h : UbT t) : UbT (baseT t) := by
  unfold baseT UbT UbAll UbAll
  refine ⟨fun x hx => by rw [List.eq_of_mem_replicate hx]; unfold Ubd; decide, fun x hx => by simp [wordsB] at hx, ?_, h, trivial⟩
  unfold nearP wordN
  simp [Tr.kind, Tr.words, Tr.kids]
/-- what the law builds of choices -/
theorem parts_built {c : List Int} (hc : c.length ≤ 100) (hb : InB c) {m : Nat} (hm : m ≤ 25) :
    (buildT (wrapT m (baseT (treeC 5 c).1)) 4096 = ([], 1)) ∨ (∃ l, buildT (wrapT m (baseT (treeC 5 c).1)) 4096 = ([l], 0) ∧ AllU [l] ∧ 100 ≤ l.length ∧ l.length ≤ 4096 ∧ checkT [l] = 0 ∧ checkT [l.dropLast] = 20 ∧ checkT [l, List.replicate 4096 0] = 1 ∧ checkT [[], l] = 1) := by
  obtain ⟨c1, c2, c3⟩ := treeC_cheap 5 c
  have hn := (treeC_fine 5 c).2.2
  rcases parts_all (t := (treeC 5 c).1) hm (by omega) (by omega) c3 with h | ⟨l, h1, h2, h3, h4, h5, h6, h7⟩
  · exact .inl h
  · refine .inr ⟨l, h1, ?_, h2, h3, h4, h5, h6, h7⟩
    have := build_ub (wrap_ub (base_ub (treeC_ub 5 c hb).1) m) 4096
    rw [h1] at this
    exact this

theorem kids_one_Q {w : World} {P : Nat → Prop} {b : Nat} {k z : Int} {vw vb vk : Value} {T : Tr} (h : TBox w b k z vw vb vk) (ht : TrP w P T (.agg (cellsT k z vw vb vk))) : KidsP w P b 0 [T] := by
  obtain ⟨h0, h1, h2, h3, h4⟩ := h.cells
  unfold KidsP
  exact ⟨⟨k, z, vw, vb, vk, h0, h1, h2, h3, h4, ht⟩, by unfold KidsP; trivial⟩
/-- a node of one kid, of which it is known where it lies -/
theorem link_Q (X : World) (P : Nat → Prop) (hP : ∀ b, P b → b < X.heap.size) (T : Tr) (k z : Int) (vw vb vk : Value) (h : TrP X P T (.agg (cellsT k z vw vb vk))) :
    TrP (X.alloc (.cells (cellsT k z vw vb vk) 34)) (fun b => P b ∨ b = X.heap.size) (.mk 1 0 [] [] [T])
      (.agg (cellsT 1 0 (.slice none 0 0) (.slice none 0 0) (.slice (some ⟨X.heap.size, 0, none⟩) 1 1))) := by
  have hb : Below X.heap.size X (X.alloc (.cells (cellsT k z vw vb vk) 34)) := (Below.refl _ _).alloc (Nat.le_refl _) _
  unfold TrP
  refine ⟨_, _, _, 1, rfl, ⟨⟨by decide, by decide⟩, ⟨by decide, by decide⟩, by simp, by simp, by simp, by simp, by simp⟩, NumP.nil _ _ _, NumP.nil _ _ _, by simp, by omega, fun _ => ⟨X.heap.size, 0, rfl, ⟨.inr rfl, _, _, TBox.new X k z vw vb vk⟩, kids_one_Q (TBox.new X k z vw vb vk) (TrP.mono (fun b hb => .inl hb) _ _ (TrP.keep (fun b h => hb.block b (hP b h)) _ _ h))⟩⟩
/-- a node of a hundred noughts over one kid -/
theorem base_Q (X : World) (P : Nat → Prop) (u kb : Nat) (hu : X.heap[u]? = some (.cells (madeCells #[Value.int .u64 0] 100) 44 (0, 0))) (pu : P u) (pk : P kb) (T : Tr) (k z : Int) (vw vb vk : Value) (hk : TBox X kb k z vw vb vk) (h : TrP X P T (.agg (cellsT k z vw vb vk))) :
    TrP X P (baseT T) (.agg (cellsT 1 0 (.slice (some ⟨u, 0, none⟩) 100 100) (.slice none 0 0) (.slice (some ⟨kb, 0, none⟩) 1 1))) := by
  unfold baseT TrP
  refine ⟨_, _, _, 1, rfl, ⟨⟨by decide, by decide⟩, ⟨by decide, by decide⟩, by simp, by simp, by simp, fun y hy => by rw [List.eq_of_mem_replicate hy]; decide, by simp⟩, ⟨some ⟨u, 0, none⟩, 100, by simp, by simp, by omega, fun _ => ⟨u, 0, rfl, pu, fun j hj => ?_⟩⟩, NumP.nil _ _ _, by simp, by omega, fun _ => ⟨kb, 0, rfl, ⟨pk, _, _, hk⟩, kids_one_Q hk h⟩⟩
  rw [List.length_replicate] at hj
  have h1 : X.cell? ⟨u, 0 + j, none⟩ = (madeCells #[Value.int .u64 0] 100).toList[j]? := by
    simp [World.cell?, hu]
  rw [h1, toList_madeCells_one, List.getElem?_replicate, if_pos hj, List.getElem?_replicate, if_pos hj]
  rfl

/-- the i-th of three new blocks -/
def Nth3 (w : World) (o0 o1 o2 : Obj) (b : Nat) (o : Obj) : Prop := (b = w.heap.size ∧ o0 = o) ∨ (b = w.heap.size + 1 ∧ o1 = o) ∨ (b = w.heap.size + 1 + 1 ∧ o2 = o)
theorem Nth3.at_ {w : World} {o0 o1 o2 : Obj} {b : Nat} {o : Obj} (h : Nth3 w o0 o1 o2 b o) : (((w.alloc o0).alloc o1).alloc o2).drew.heap[b]? = some o ∧ w.heap.size ≤ b ∧ b < w.heap.size + 3 := by
  have e0 : (((w.alloc o0).alloc o1).alloc o2).drew.heap[w.heap.size]? = some o0 := by
    show (((w.alloc o0).alloc o1).alloc o2).heap[w.heap.size]? = _
    rw [blk_alloc_lt _ _ _ (by simp; omega), blk_alloc_lt _ _ _ (by simp), blk_alloc_new]
  have e1 : (((w.alloc o0).alloc o1).alloc o2).drew.heap[w.heap.size + 1]? = some o1 := by
    show (((w.alloc o0).alloc o1).alloc o2).heap[w.heap.size + 1]? = _
    rw [blk_alloc_lt _ _ _ (by simp)]
    have := blk_alloc_new (w.alloc o0) o1
    rwa [World.size_alloc] at this
  have e2 : (((w.alloc o0).alloc o1).alloc o2).drew.heap[w.heap.size + 1 + 1]? = some o2 := by
    show (((w.alloc o0).alloc o1).alloc o2).heap[w.heap.size + 1 + 1]? = _
    have := blk_alloc_new ((w.alloc o0).alloc o1) o2
    rwa [World.size_alloc, World.size_alloc] at this
  rcases h with ⟨rfl, rfl⟩ | ⟨rfl, rfl⟩ | ⟨rfl, rfl⟩
  · exact ⟨e0, by omega, by omega⟩
  · exact ⟨e1, by omega, by omega⟩
  · exact ⟨e2, by omega, by omega⟩
/-- the node of a hundred noughts, wherever its three blocks lie -/
theorem base_cut {w2 : World} {o0 o1 o2 : Obj} {lo hi : Nat} {t : Tr} {k z : Int} {vw vb vk : Value} {u kb nb : Nat} (hP : TrP w2 (fun x => lo ≤ x ∧ x < hi) t (.agg (cellsT k z vw vb vk))) (h1 : hi ≤ w2.heap.size) (h2 : lo ≤ w2.heap.size)
    (hn : Nth3 w2 o0 o1 o2 nb (.cells (cellsT 1 0 (.slice (some ⟨u, 0, none⟩) 100 100) (.slice none 0 0) (.slice (some ⟨kb, 0, none⟩) 1 1)) 34)) (hu : Nth3 w2 o0 o1 o2 u (.cells (madeCells #[Value.int .u64 0] 100) 44)) (hk : Nth3 w2 o0 o1 o2 kb (.cells (cellsT k z vw vb vk) 34)) (hne : u ≠ nb ∧ kb ≠ nb) :
    ∃ nb' A n p A' n' p', Value.pointer (some ⟨nb, 0, none⟩) = Value.pointer (some ⟨nb', 0, none⟩) ∧ w2.heap.size ≤ nb' ∧ nb' < (((w2.alloc o0).alloc o1).alloc o2).drew.heap.size ∧ TBox (((w2.alloc o0).alloc o1).alloc o2).drew nb' 1 0 (.slice A n p) (.slice none 0 0) (.slice A' n' p') ∧ TrP (((w2.alloc o0).alloc o1).alloc o2).drew (fun b => lo ≤ b ∧ b < (((w2.alloc o0).alloc o1).alloc o2).drew.heap.size ∧ b ≠ nb') (baseT t) (.agg (cellsT 1 0 (.slice A n p) (.slice none 0 0) (.slice A' n' p'))) ∧ Below w2.heap.size w2 (((w2.alloc o0).alloc o1).alloc o2).drew := by
  obtain ⟨n1, n2, n3⟩ := hn.at_
  obtain ⟨u1, u2, u3⟩ := hu.at_
  obtain ⟨k1, k2, k3⟩ := hk.at_
  have hB : Below w2.heap.size w2 (((w2.alloc o0).alloc o1).alloc o2).drew := ((((Below.refl _ _).alloc (Nat.le_refl _) _).alloc (by simp) _).alloc (by simp; omega) _).drew
  have hs : (((w2.alloc o0).alloc o1).alloc o2).drew.heap.size = w2.heap.size + 3 := by
    show (((w2.alloc o0).alloc o1).alloc o2).heap.size = _
    simp
  generalize (((w2.alloc o0).alloc o1).alloc o2).drew = W at *
  refine ⟨nb, _, _, _, _, _, _, rfl, n2, by omega, n1, base_Q W _ u kb u1 ⟨by omega, by omega, hne.1⟩ ⟨by omega, by omega, hne.2⟩ t k z vw vb vk k1 ?_, hB⟩
  exact TrP.mono (fun x hx => ⟨hx.1, by omega, by omega⟩) _ _ (TrP.keep (fun x (hx : lo ≤ x ∧ x < hi) => hB.block x (by omega)) _ _ hP)

/-- rows of one segment, and of two -/
theorem cell_of_blk {W : World} {b i : Nat} {c : Array Value} {t : Nat} {r : Nat × Nat} (h : W.heap[b]? = some (.cells c t r)) : W.cell? ⟨b, i, none⟩ = c[i]? := by simp [World.cell?, h]
theorem row1_A (w : World) (T : Nat) (s : Value) (l : List Int) (h : NumS .u64 w w.heap.size s l) : ArV (w.alloc (.cells #[s] T)) (w.alloc (.cells #[s] T)).heap.size (.slice (some ⟨w.heap.size, 0, none⟩) 1 1) [l] := by
  have hb := blk_alloc_new w (.cells #[s] T)
  refine ⟨_, 1, rfl, by simp, by omega, fun _ => ⟨w.heap.size, 0, rfl, by simp, fun j hj => ?_⟩⟩
  obtain rfl : j = 0 := by simp at hj; omega
  exact ⟨s, (cell_of_blk hb).trans (by simp), by simpa using h.on ((Below.refl _ _).alloc (Nat.le_refl _) (.cells #[s] T))⟩
theorem row2_A (w : World) (T : Nat) (s u : Value) (l m : List Int) (h : NumS .u64 w w.heap.size s l) (g : NumS .u64 w w.heap.size u m) : ArV (w.alloc (.cells #[s, u] T)) (w.alloc (.cells #[s, u] T)).heap.size (.slice (some ⟨w.heap.size, 0, none⟩) 2 2) [l, m] := by
  have hb := blk_alloc_new w (.cells #[s, u] T)
  refine ⟨_, 2, rfl, by simp, by omega, fun _ => ⟨w.heap.size, 0, rfl, by simp, fun j hj => ?_⟩⟩
  have hj2 : j = 0 ∨ j = 1 := by simp at hj; omega
  rcases hj2 with rfl | rfl
  · exact ⟨s, (cell_of_blk hb).trans (by simp), by simpa using h.on ((Below.refl _ _).alloc (Nat.le_refl _) (.cells #[s, u] T))⟩
  · exact ⟨u, (cell_of_blk hb).trans (by simp), by simpa using g.on ((Below.refl _ _).alloc (Nat.le_refl _) (.cells #[s, u] T))⟩
theorem made_N (w : World) (n : Nat) (hn : n ≤ 1000000) : NumS .u64 (w.alloc (.cells (madeCells #[Value.int .u64 0] n) 44)) (w.alloc (.cells (madeCells #[Value.int .u64 0] n) 44)).heap.size (.slice (some ⟨w.heap.size, 0, none⟩) n n) (List.replicate n 0) := by
  have hb := blk_alloc_new w (.cells (madeCells #[Value.int .u64 0] n) 44)
  refine ⟨some ⟨w.heap.size, 0, none⟩, n, by simp, by simp, by omega, fun _ => ⟨w.heap.size, 0, rfl, by simp, fun j hj => ?_⟩⟩
  rw [List.length_replicate] at hj
  have h1 : (w.alloc (.cells (madeCells #[Value.int .u64 0] n) 44)).cell? ⟨w.heap.size, 0 + j, none⟩ = (madeCells #[Value.int .u64 0] n).toList[j]? := by
    rw [cell_of_blk hb]; simp
  rw [h1, toList_madeCells_one, List.getElem?_replicate, if_pos hj, List.getElem?_replicate, if_pos hj]
  rfl
theorem drop_take (l : List Int) : l.dropLast = l.take (l.length - 1) := List.dropLast_eq_take
theorem nil_N (w : World) (B : Nat) : NumS .u64 w B (.slice none 0 0) [] := NumS.nil _ _ _

end Go.Proofs.YtmmlfnblodfjbaaGreatDoor

namespace Go.Proofs.YtmmlfnblodfjbaaGreatDoor
open Go.RowKit Go.Deep

set_option maxRecDepth 100000 in
set_option maxHeartbeats 2000000 in
theorem parts11_walk (H : ValidOK) (c : List Int) (vc : Value) (m q : Nat) (w : World) (hc : Bytes w w.heap.size vc c) (hcb : AllB c) (hm : m ≤ 255) (hq : q ≤ 255) (L : Laid w) :
    Calls Tryz.prog 7 #[vc, .int .u8 m, .int .u8 q] w fun e w' => e = .returned (.bool true) ∧ Below w.heap.size w w' := by
  have HK := Lib.hid (fun X (hX : Below w.heap.size w X) => known11_any H X (L.on hX))
  have HCk := Lib.hid (fun X v ls (hX : Below w.heap.size w X) (ha : ArV X X.heap.size v ls) (hl : ls.length ≤ 10000000000000) (hu : AllU ls) => H.check v ls X (L.on hX) ha hl hu)
  obtain ⟨Ac, cc, rfl⟩ := hc.form rfl
  by_cases hlen : 100 < c.length
  · have hlen2 : (100 : Int) < (c.length : Int) := by omega
    generalize c.length = len at *
    clear hc hcb hm hq L hlen H
    go_enter Tryz.func7, Tryz.ntmps7
    go_wp2_with fail
    refine (HK.out w (Below.refl _ _)).mono ?_
    rintro e w2 ⟨rfl, hB2⟩
    go_wp2_with fail
    go_ret
    exact ⟨rfl, hB2⟩
  · have hlen2 : ¬ (100 : Int) < (c.length : Int) := by omega
    have HP := Lib.hid (fun M (hM : M ≤ 25) => parts_built (c := c) (by omega) hcb (m := M) hM)
    have HTr := Lib.hid (tree_all 5 (by omega) c _ w w.heap.size (Nat.le_refl _) hc hcb)
    generalize (treeC 5 c).1 = t at *
    generalize (treeC 5 c).2 = rest at *
    have hmk := run_make_row' (P := Tryz.prog) 31 44 (.int .u64 0) 8 Tryz.underlying31 Tryz.info44 rfl .i64 .i64 100 (by omega) (by omega)
    rw [show ((100 : Nat) : Int) = 100 from rfl] at hmk
    obtain ⟨Z, hZ⟩ : ∃ Z, Z = madeCells #[Value.int .u64 0] 100 := ⟨_, rfl⟩
    rw [← hZ] at hmk
    have HZ := Lib.hid hZ
    generalize c.length = len at *
    clear hc hcb L hlen H hZ
    go_enter Tryz.func7, Tryz.ntmps7
    go_wp2_with fail
    refine HTr.out.mono ?_
    rintro e w1 ⟨x', y', rfl, hP1, hy1, hB1⟩
    obtain ⟨Ay, cy, rfl⟩ := hy1.form rfl
    obtain ⟨k2, zz2, A1, n1, c1, A2, n2, c2, A3, n3, c3, rfl⟩ := hP1.parts
    unfold cellsT
    dsimp only
    obtain ⟨w2, hw2⟩ : ∃ w2, w2 = w1.alloc (.cells #[.int .i64 k2, .int .i64 zz2, .slice A1 n1 c1, .slice A2 n2 c2, .slice A3 n3 c3] 34) := ⟨_, rfl⟩
    have hB2 : Below w1.heap.size w1 w2 := by rw [hw2]; exact (Below.refl _ _).alloc (Nat.le_refl _) _
    have HT2 : Hid (TBox w2 w1.heap.size k2 zz2 (.slice A1 n1 c1) (.slice A2 n2 c2) (.slice A3 n3 c3)) := Lib.hid (by rw [hw2]; exact TBox.new _ _ _ _ _ _)
    have HS2 : Hid (w1.heap.size ≤ w2.heap.size ∧ w.heap.size ≤ w1.heap.size) := Lib.hid ⟨hB2.size, hB1.size⟩
    have HP2 := Lib.hid (TrP.keep (fun x (hx : w.heap.size ≤ x ∧ x < w1.heap.size) => hB2.block x hx.2) _ _ hP1)
    have HB2 := Lib.hid (bseq8 hB1 hB2)
    generalize rest.length = nr at *
    clear hP1 hy1 hB1 hB2
    go_upto_region 4 with fail
    rw [← hw2]
    clear hw2
    obtain ⟨d0, d1, d2, d3, d4⟩ := HT2.out.cells
    have HBx : Hid (∀ o, (w2.alloc o).cell? ⟨w1.heap.size, 0, none⟩ = some (.int .i64 k2)) := Lib.hid (fun o => ((HT2.out.on ((Below.refl _ _).alloc (Nat.le_refl _) o)).cells).1)
    have e1 := fun o => (HT2.out.on ((Below.refl _ _).alloc (Nat.le_refl _) o)).cells
    have e2 := fun o o' => (HT2.out.on (((Below.refl w2.heap.size w2).alloc (Nat.le_refl _) o).alloc (by simp) o')).cells
    have x0 := fun o => (e1 o).1
    have x1 := fun o => (e1 o).2.1
    have x2 := fun o => (e1 o).2.2.1
    have x3 := fun o => (e1 o).2.2.2.1
    have x4 := fun o => (e1 o).2.2.2.2
    have y0 := fun o o' => (e2 o o').1
    have y1 := fun o o' => (e2 o o').2.1
    have y2 := fun o o' => (e2 o o').2.2.1
    have y3 := fun o o' => (e2 o o').2.2.2.1
    have y4 := fun o o' => (e2 o o').2.2.2.2
    clear e1 e2
    go_cut [9] (fun y wx => ∃ nb A n p A' n' p', y = .pointer (some ⟨nb, 0, none⟩) ∧ w2.heap.size ≤ nb ∧ nb < wx.heap.size ∧ TBox wx nb 1 0 (.slice A n p) (.slice none 0 0) (.slice A' n' p') ∧ TrP wx (fun b => w.heap.size ≤ b ∧ b < wx.heap.size ∧ b ≠ nb) (baseT t) (.agg (cellsT 1 0 (.slice A n p) (.slice none 0 0) (.slice A' n' p'))) ∧ Below w2.heap.size w2 wx)
    case first =>
      go_region
      all_goals go_wp2_with fail
      all_goals go_meet
      all_goals rw [HZ.out]
      all_goals
        apply base_cut HP2.out HS2.out.1 (Nat.le_trans HS2.out.2 HS2.out.1)
        · first | exact .inl ⟨rfl, rfl⟩ | exact .inr (.inl ⟨rfl, rfl⟩) | exact .inr (.inr ⟨rfl, rfl⟩)
        · first | exact .inl ⟨rfl, rfl⟩ | exact .inr (.inl ⟨rfl, rfl⟩) | exact .inr (.inr ⟨rfl, rfl⟩)
        · first | exact .inl ⟨rfl, rfl⟩ | exact .inr (.inl ⟨rfl, rfl⟩) | exact .inr (.inr ⟨rfl, rfl⟩)
        · exact ⟨by omega, by omega⟩
    case rest =>
      obtain ⟨nb, A, n, p, A', n', p', rfl, hnb, hnl, hT, hP, hB⟩ := hcut
      have HT3 := Lib.hid hT
      have HP3 := Lib.hid hP
      have HB3 := Lib.hid (bseq8 HB2.out hB)
      have HNb : Hid (w.heap.size ≤ nb ∧ nb < wc.heap.size) := Lib.hid ⟨Nat.le_trans HB2.out.size hnb, hnl⟩
      obtain ⟨M, hM⟩ : ∃ M : Nat, M = m % 26 := ⟨_, rfl⟩
      have hM25 : M ≤ 25 := by omega
      have HMm := Lib.hid hM
      have HPM := Lib.hid (HP.out M hM25)
      clear hM hT hP hB hnb hnl HP hmk HZ d0 d1 d2 d3 d4 x0 x1 x2 x3 x4 y0 y1 y2 y3 y4 HT2 HP2 HS2 HBx HTr
      go_wp2_with fail
      go_loopw [10] (fun i wr => ∃ j : Nat, j ≤ M ∧ i = .int .i64 j ∧ ∃ A n p A' n' p', TBox wr nb 1 0 (.slice A n p) (.slice none 0 0) (.slice A' n' p') ∧ TrP wr (fun b => w.heap.size ≤ b ∧ b < wr.heap.size ∧ b ≠ nb) (wrapT j (baseT t)) (.agg (cellsT 1 0 (.slice A n p) (.slice none 0 0) (.slice A' n' p'))) ∧ Below w.heap.size w wr ∧ nb < wr.heap.size) (fun i _ => M - (intOf i).toNat)
      case atStart => exact ⟨0, by omega, rfl, A, n, p, A', n', p', HT3.out, by unfold wrapT; exact HP3.out, HB3.out, HNb.out.2⟩
      case round =>
        obtain ⟨j, hj, rfl, A, n, p, A', n', p', hT, hP, hB, hnl⟩ := hrel
        generalize wr = wa at *
        have HT4 := Lib.hid hT
        have HP4 := Lib.hid hP
        have HB4 := Lib.hid hB
        have HJ := Lib.hid (And.intro hj hnl)
        obtain ⟨C, hC⟩ : ∃ C, C = decide (j < M) := ⟨_, rfl⟩
        have HC2 := Lib.hid hC
        clear hj hT hP hB hnl hC HT3 HP3 HB3
        go_upto_region 6 with fail
        go_cut [33] (fun x wx => x = .bool C ∧ wa = wx)
        case first =>
          go_wp2_with fail
          go_meet
          exact ⟨by rw [HC2.out]; congr 1; have := HMm.out; exact decide_eq_decide.2 (by omega), rfl⟩
        case rest =>
          obtain ⟨rfl, rfl⟩ := hcut
          by_cases hlt : j < M
          · obtain rfl : C = true := by rw [HC2.out]; exact decide_eq_true hlt
            have hT := HT4.out
            have hnl := HJ.out.2
            obtain ⟨X, hX⟩ : ∃ X, X = wa.alloc (.cells (cellsT 1 0 (.slice A n p) (.slice none 0 0) (.slice A' n' p')) 34) := ⟨_, rfl⟩
            have hXz : X.heap.size = wa.heap.size + 1 := by rw [hX]; simp
            have hXB : Below wa.heap.size wa X := by rw [hX]; exact (Below.refl _ _).alloc (Nat.le_refl _) _
            have hL := link_Q wa _ (fun b (hb : w.heap.size ≤ b ∧ b < wa.heap.size ∧ b ≠ nb) => hb.2.1) _ 1 0 (.slice A n p) (.slice none 0 0) (.slice A' n' p') HP4.out
            rw [← hX] at hL
            have hXT := hT.on hXB
            obtain ⟨W4, hW4⟩ : ∃ W4, W4 = ((((X.setCell ⟨nb, 0, none⟩ (.int .i64 1)).setCell ⟨nb, 1, none⟩ (.int .i64 0)).setCell ⟨nb, 2, none⟩ (.slice none 0 0)).setCell ⟨nb, 3, none⟩ (.slice none 0 0)).setCell ⟨nb, 4, none⟩ (.slice (some ⟨wa.heap.size, 0, none⟩) 1 1) := ⟨_, rfl⟩
            have hz4 : W4.heap.size = X.heap.size := by rw [hW4, nblk_setCell, nblk_setCell, nblk_setCell, nblk_setCell, nblk_setCell]
            have HFin : Hid (∃ A n p A' n' p', TBox W4 nb 1 0 (.slice A n p) (.slice none 0 0) (.slice A' n' p') ∧ TrP W4 (fun b => w.heap.size ≤ b ∧ b < W4.heap.size ∧ b ≠ nb) (wrapT (j + 1) (baseT t)) (.agg (cellsT 1 0 (.slice A n p) (.slice none 0 0) (.slice A' n' p'))) ∧ Below w.heap.size w W4 ∧ nb < W4.heap.size) := Lib.hid (by
              refine ⟨none, 0, 0, some ⟨wa.heap.size, 0, none⟩, 1, 1, by rw [hW4]; exact hXT.set5 _ _ _ _ _, ?_, by rw [hW4]; exact below_set5 (HB4.out.trans (hXB.mono HB4.out.size)) HNb.out.1 _ _ _ _ _, by rw [hz4, hXz]; omega⟩
              unfold wrapT
              refine TrP.mono (fun b hb => ?_) _ _ (TrP.keep (fun b hb => by rw [hW4]; exact set5_other X nb _ _ _ _ _ (by rcases hb with hb | hb <;> omega)) _ _ hL)
              have h1 := HB4.out.size
              rw [hz4, hXz]
              rcases hb with hb | hb <;> omega)
            obtain ⟨x0, x1, x2, x3, x4⟩ := hT.cells
            have f0 := hT.frozen 0
            have f1 := hT.frozen 1
            have f2 := hT.frozen 2
            have f3 := hT.frozen 3
            have f4 := hT.frozen 4
            have g0 := hXT.frozen 0
            have g1 := hXT.frozen 1
            have g2 := hXT.frozen 2
            have g3 := hXT.frozen 3
            have g4 := hXT.frozen 4
            obtain ⟨y0, y1, y2, y3, y4⟩ := hXT.cells
            unfold cellsT at hX
            rw [hX] at g0 g1 g2 g3 g4 y0 y1 y2 y3 y4 hW4
            clear hX hXT hXB hL hz4 hXz hT hnl
            have hj25 : (j : Int) < 25 := by omega
            go_upto_region 7 with fail
            rw [← hW4]
            clear hW4 x0 x1 x2 x3 x4 y0 y1 y2 y3 y4 f0 f1 f2 f3 f4 g0 g1 g2 g3 g4
            go_wp2_with fail
            go_roundw
            case rel => exact ⟨j + 1, hlt, by go_num, HFin.out⟩
            case measure => simp [intOf]; omega
          · obtain rfl : C = false := by rw [HC2.out]; exact decide_eq_false hlt
            obtain rfl : j = M := by have := HJ.out.1; omega
            have HBl := Lib.hid (rbuild_any (wrapT j (baseT t)) _ 4096 wa (TrP.trV (fun b (hb : w.heap.size ≤ b ∧ b < wa.heap.size ∧ b ≠ nb) => hb.2.1) _ _ HP4.out))
            obtain ⟨x0, x1, x2, x3, x4⟩ := HT4.out.cells
            unfold cellsT at HBl
            have hpm := HPM.out
            generalize buildT (wrapT j (baseT t)) 4096 = Y at *
            clear hlt HC2 HPM HT4 HP4
            rcases hpm with rfl | ⟨l, rfl, hU, hl1, hl2, hk0, hk1, hk2, hk3⟩
            · dsimp only at HBl
              go_wp2_with fail
              refine HBl.out.mono ?_
              rintro e w5 ⟨Aa, na, ca, rfl, hA, hB5⟩
              have HB5 := Lib.hid (HB4.out.trans (hB5.mono HB4.out.size))
              have HCk5 := Lib.hid (fun X (hX : Below w5.heap.size w5 X) => HCk.out X _ [] (HB5.out.trans (hX.mono HB5.out.size)) (hA.on hX) (by simp) (fun s hs => by simp at hs))
              rw [show checkT [] = 1 from check_unfit (by decide)] at HCk5
              have HK5 := Lib.hid (HK.out w5 HB5.out)
              clear hA hB5 x0 x1 x2 x3 x4 HBl
              go_wp2_with fail
              refine HK5.out.mono ?_
              rintro e w6 ⟨rfl, hB6⟩
              have HB6 := Lib.hid hB6
              clear hB6
              go_wp2_with fail
              refine (HCk5.out w6 HB6.out).mono ?_
              rintro e w7 ⟨rfl, hB7⟩
              have HB7 := Lib.hid (HB5.out.trans ((HB6.out.trans (hB7.mono HB6.out.size)).mono HB5.out.size))
              clear hB7
              go_wp2_with fail
              go_ret
              exact ⟨rfl, HB7.out⟩
            · dsimp only at HBl
              have HU := Lib.hid hU
              have HLl := Lib.hid (And.intro hl1 hl2)
              have HKs := Lib.hid (And.intro hk0 (And.intro hk1 (And.intro hk2 hk3)))
              clear hU hl1 hl2 hk0 hk1 hk2 hk3
              go_wp2_with fail
              refine HBl.out.mono ?_
              rintro e w5 ⟨Aa, na, ca, rfl, hA, hB5⟩
              have HB5 := Lib.hid (HB4.out.trans (hB5.mono HB4.out.size))
              have HA5 := Lib.hid hA
              obtain ⟨A9, c9, e9, hc9, -, hr9⟩ := hA
              injection e9 with e91 e92 e93
              subst e91 e92 e93
              obtain ⟨b, off, rfl, hbl, hcell⟩ := hr9 (by simp)
              obtain ⟨s0, hs0, hn0⟩ := hcell 0 (by simp)
              obtain ⟨As, cs, rfl⟩ := hn0.form rfl
              have HN0 : Hid (NumS .u64 w5 w5.heap.size (.slice As l.length cs) l) := Lib.hid hn0
              have HC0 := Lib.hid hs0
              have HBl5 := Lib.hid hbl
              obtain ⟨ll, hll⟩ : ∃ n, n = l.length := ⟨_, rfl⟩
              have HLL := Lib.hid hll
              simp only [List.getElem?_cons_zero, Option.getD_some, List.length_cons, List.length_nil] at hs0 hc9 HC0 ⊢
              rw [← hll] at hs0 HC0
              clear hB5 x0 x1 x2 x3 x4 HBl hr9 hcell hn0 hbl hll
              obtain ⟨E, hE⟩ : ∃ E : Int, E = if q % 3 = 0 then 20 else 1 := ⟨_, rfl⟩
              have HE := Lib.hid hE
              rw [Nat.add_zero] at hs0 HC0
              clear hE
              go_upto_block 2 with fail
              go_cut [13] (fun x wx => ∃ Ab n' cb bl, x = .slice Ab n' cb ∧ ArV wx wx.heap.size (.slice Ab n' cb) bl ∧ AllU bl ∧ bl.length ≤ 2 ∧ checkT bl = E ∧ Below w5.heap.size w5 wx)
              case first =>
                by_cases h0 : q % 3 = 0
                · have hq3 : (q : Int) % 3 = 0 := by omega
                  have hw1 : IntKind.i64.wrap ((ll : Int) - 1) = ((ll - 1 : Nat) : Int) := by have := HLl.out.1; rw [← HLL.out] at this; rw [show ((ll : Int) - 1) = ((ll - 1 : Nat) : Int) by omega]; exact IntWalk.i64_in _ (by have := HLl.out.2; rw [← HLL.out] at this; omega)
                  have hll1 : 100 ≤ ll ∧ ll ≤ 4096 := by rw [HLL.out]; exact HLl.out
                  obtain ⟨hl3, hl4⟩ := hll1
                  have hcs : ll ≤ cs := by obtain ⟨_, _, e, h1, _⟩ := HN0.out; injection e with _ _ e; rw [e, HLL.out]; exact h1
                  have HFr : Hid (NumS .u64 w5 w5.heap.size (.slice As (ll - 1) cs) l.dropLast) := Lib.hid (by rw [drop_take, ← HLL.out]; exact NumS.front HN0.out rfl (by have := HLL.out; omega))
                  go_wp2_with fail
                  have hB6 : Below w5.heap.size w5 (w5.alloc (.cells #[.slice As (ll - 1) cs] 31)) := (Below.refl _ _).alloc (Nat.le_refl _) _
                  have HB6 := Lib.hid hB6
                  clear hB6
                  go_region
                  all_goals go_wp2_with fail
                  all_goals go_meet
                  all_goals exact ⟨_, _, _, [l.dropLast], rfl, row1_A w5 _ _ _ HFr.out, fun s hs x hx => by rw [List.mem_singleton.1 hs] at hx; exact HU.out l (by simp) x ((List.dropLast_sublist l).subset hx), by simp, by rw [HE.out, if_pos h0]; exact HKs.out.2.1, by first | exact HB6.out | exact HB6.out.drew⟩
                · by_cases h1 : q % 3 = 1
                  · have hq3 : (q : Int) % 3 = 1 := by omega
                    have hmk := run_make_row' (P := Tryz.prog) 31 44 (.int .u64 0) 8 Tryz.underlying31 Tryz.info44 rfl .i64 .i64 4096 (by omega) (by omega)
                    rw [show ((4096 : Nat) : Int) = 4096 from rfl] at hmk
                    obtain ⟨Z, hZ⟩ : ∃ Z, Z = madeCells #[Value.int .u64 0] 4096 := ⟨_, rfl⟩
                    rw [← hZ] at hmk
                    have HZ := Lib.hid hZ
                    have hx0 : ∀ o, (w5.alloc o).cell? ⟨b, off, none⟩ = some (.slice As ll cs) := fun o => (((Below.refl w5.heap.size w5).alloc (Nat.le_refl _) o).cell (p := ⟨b, off, none⟩) HBl5.out).trans HC0.out
                    clear hZ
                    go_wp2_with fail
                    have hB6 : Below w5.heap.size w5 (w5.alloc (.cells Z 44)) := (Below.refl _ _).alloc (Nat.le_refl _) _
                    have HB6 := Lib.hid hB6
                    have HMd : Hid (NumS .u64 (w5.alloc (.cells Z 44)) (w5.alloc (.cells Z 44)).heap.size (.slice (some ⟨w5.heap.size, 0, none⟩) 4096 4096) (List.replicate 4096 0)) := Lib.hid (by rw [HZ.out]; exact made_N w5 4096 (by omega))
                    have hR2 := row2_A (w5.alloc (.cells Z 44)) 31 (.slice As ll cs) (.slice (some ⟨w5.heap.size, 0, none⟩) 4096 4096) l (List.replicate 4096 0) (by rw [HLL.out]; exact HN0.out.on HB6.out) HMd.out
                    rw [show (w5.alloc (.cells Z 44)).heap.size = w5.heap.size + 1 from World.size_alloc _ _] at hR2
                    have HR2 := Lib.hid hR2
                    have HB7 : Hid (Below w5.heap.size w5 ((w5.alloc (.cells Z 44)).alloc (.cells #[.slice As ll cs, .slice (some ⟨w5.heap.size, 0, none⟩) 4096 4096] 31))) := Lib.hid (HB6.out.alloc HB6.out.size _)
                    clear hB6 hR2
                    go_region
                    all_goals go_wp2_with fail
                    all_goals go_meet
                    all_goals exact ⟨_, _, _, [l, List.replicate 4096 0], rfl, HR2.out, fun s hs x hx => by
                      rcases List.mem_cons.1 hs with rfl | hs
                      · exact HU.out _ (by simp) x hx
                      · rw [List.mem_singleton.1 hs] at hx; rw [List.eq_of_mem_replicate hx]; decide, by simp, by rw [HE.out, if_neg h0]; exact HKs.out.2.2.1, by first | exact HB7.out | exact HB7.out.drew⟩
                  · have hq3 : (q : Int) % 3 = 2 := by omega
                    go_wp2_with fail
                    go_meet
                    have hB6 : Below w5.heap.size w5 (w5.alloc (.cells #[.slice none 0 0, .slice As ll cs] 31)) := (Below.refl _ _).alloc (Nat.le_refl _) _
                    exact ⟨_, _, _, [[], l], rfl, row2_A w5 _ _ _ [] l (nil_N _ _) (by rw [HLL.out]; exact HN0.out), fun s hs => by
                      rcases List.mem_cons.1 hs with rfl | hs
                      · intro x hx; simp at hx
                      · exact HU.out s hs, by simp, by rw [HE.out, if_neg h0]; exact HKs.out.2.2.2, hB6⟩
              case rest =>
                obtain ⟨Ab, n', cb, bl, rfl, hAb, hUb, hlb, hcb, hB6⟩ := hcut
                have HB6 := Lib.hid (HB5.out.trans (hB6.mono HB5.out.size))
                have HCk6 := Lib.hid (HCk.out wc _ bl HB6.out hAb (by omega) hUb)
                rw [hcb] at HCk6
                have HCa := Lib.hid (fun X (hX : Below wc.heap.size wc X) => HCk.out X _ [l] (HB6.out.trans (hX.mono HB6.out.size)) ((HA5.out.on hB6).on hX) (by simp) HU.out)
                rw [HKs.out.1] at HCa
                clear hAb hUb hlb hcb hB6 hs0 hc9
                go_wp2_with fail
                refine HCk6.out.mono ?_
                rintro e w7 ⟨rfl, hB7⟩
                have HB67 := Lib.hid hB7
                have HB7 := Lib.hid (HB6.out.trans (hB7.mono HB6.out.size))
                clear hB7
                by_cases h0 : q % 3 = 0
                · obtain rfl : E = 20 := HE.out.trans (if_pos h0)
                  have hq3 : (q : Int) % 3 = 0 := by omega
                  go_wp2_with fail
                  refine (HK.out w7 HB7.out).mono ?_
                  rintro e w8 ⟨rfl, hB8⟩
                  have HB8 := Lib.hid (bseq8 HB67.out hB8)
                  clear hB8
                  go_wp2_with fail
                  refine (HCa.out w8 HB8.out).mono ?_
                  rintro e w9 ⟨rfl, hB9⟩
                  have HB9 := Lib.hid (HB6.out.trans ((bseq8 HB8.out hB9).mono HB6.out.size))
                  clear hB9
                  go_wp2_with fail
                  go_ret
                  exact ⟨rfl, HB9.out⟩
                · obtain rfl : E = 1 := HE.out.trans (if_neg h0)
                  obtain ⟨r, hr⟩ : ∃ r : Nat, (q : Int) % 3 = ((r + 1 : Nat) : Int) := ⟨q % 3 - 1, by omega⟩
                  have hr1 : ¬ ((r + 1 : Nat) : Int) = 0 := by omega
                  have hr2 : ((r + 1 : Nat) : Int) > 0 := by omega
                  have hr3 : (((r + 1 : Nat) : Int) == 0) = false := by simp; omega
                  go_wp2_with fail
                  refine (HK.out w7 HB7.out).mono ?_
                  rintro e w8 ⟨rfl, hB8⟩
                  have HB8 := Lib.hid (bseq8 HB67.out hB8)
                  clear hB8
                  go_wp2_with fail
                  refine (HCa.out w8 HB8.out).mono ?_
                  rintro e w9 ⟨rfl, hB9⟩
                  have HB9 := Lib.hid (HB6.out.trans ((bseq8 HB8.out hB9).mono HB6.out.size))
                  clear hB9
                  go_wp2_with fail
                  go_ret
                  exact ⟨rfl, HB9.out⟩

end Go.Proofs.YtmmlfnblodfjbaaGreatDoor
