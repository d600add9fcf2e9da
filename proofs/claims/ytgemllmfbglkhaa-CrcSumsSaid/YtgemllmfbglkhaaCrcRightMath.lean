/-
  Plain facts: what is sealed is right, and only that; rows of bytes as strings.
-/
import Derived.Test.YtgemllmfbglkhaaCrcSeal
import Derived.Laws.BytesArg
namespace Go.Proofs.Ytgemllmfbglkhaa
open Go.RowKit Go.Deep

/-- string(v) of a row of bytes -/
theorem bytes_conv {w : World} {B : Nat} {v : Value} {l : List Int} (h : Bytes w B v l) : (convert 23 9 v).run Try.prog w = .ok (.string (strOfNums l)) w := by
  obtain ⟨A, c, rfl, _, _, hr⟩ := h
  rcases l with _ | ⟨x, l⟩
  · rcases A with _ | a
    · exact run_convert_bytes_nil w 23 5 Try.underlying23 Try.underlying5 _ _ 9 Try.underlying9
    · rw [run_convert_bytes_string w 23 9 5 (some a) _ c Try.underlying23 Try.underlying5 Try.underlying9]
      exact run_bytesToString w a 0 c [] (run_loadCells_list w a [] (fun j v h => by simp at h))
  · obtain ⟨b, off, rfl, _, hc⟩ := hr (by simp)
    refine run_convert_bytes_arg w 23 5 Try.underlying23 Try.underlying5 b off _ c (x :: l) rfl (fun i hi => ?_) 9 Try.underlying9
    rw [List.getD_eq_getElem?_getD]
    exact hc i hi

/-- what a call leaves for the conversion behind it: the string, in every later world -/
theorem conv_later {w : World} {v : Value} {l : List Int} (h : Bytes w w.heap.size v l) : ∀ W, Below w.heap.size w W → (convert 23 9 v).run Try.prog W = .ok (.string (strOfNums l)) W := fun _ hb => bytes_conv (h.below hb (Nat.le_refl _))

theorem byteAt_le (s i : Nat) : byteAt (s : Int) i = ((s / 256 ^ i % 256 : Nat) : Int) := by
  unfold byteAt
  rw [← pow256 i]
  simp
theorem nats_putL (s k : Nat) : nats (putL (s : Int) k) = le k s := by
  apply List.ext_getElem?
  intro i
  by_cases hi : i < k
  · rw [le_get _ _ _ hi]
    unfold nats putL
    simp only [List.map_map, List.getElem?_map, List.getElem?_range hi, Option.map_some, Function.comp, byteAt_le, Int.toNat_natCast]
  · rw [List.getElem?_eq_none (by rw [nats_length, putL_length]; omega), List.getElem?_eq_none (by rw [le_length]; omega)]
theorem getV_nats {l : List Int} (h : AllB l) : getV l = (leV (nats l) : Nat) := by
  induction l with
  | nil => rfl
  | cons x l ih =>
    rw [getV_cons, ih (fun y hy => h y (List.mem_cons_of_mem _ hy))]
    have := h x List.mem_cons_self
    show _ = ((256 * leV (nats l) + x.toNat : Nat) : Int)
    omega
theorem nats_inj {l m : List Int} (hl : AllB l) (hm : AllB m) (h : nats l = nats m) : l = m := by
  induction l generalizing m with
  | nil => cases m with
    | nil => rfl
    | cons y m => simp [nats] at h
  | cons x l ih => cases m with
    | nil => simp [nats] at h
    | cons y m =>
      simp only [nats, List.map_cons, List.cons.injEq] at h
      have h1 := hl x List.mem_cons_self
      have h2 := hm y List.mem_cons_self
      rw [ih (m := m) (fun z hz => hl z (List.mem_cons_of_mem _ hz)) (fun z hz => hm z (List.mem_cons_of_mem _ hz)) h.2]
      congr 1
      omega
/-- four bytes are a number's just if they read as it -/
theorem tail_iff {m : List Int} {s : Nat} (hm : AllB m) (h4 : m.length = 4) (hs : s < 4294967296) : m = putL s 4 ↔ getV m = s := by
  constructor
  · intro h
    rw [getV_nats hm, h, nats_putL, leV_le (by simpa using hs)]
  · intro h
    apply nats_inj hm (putL_AllB _ _)
    rw [nats_putL]
    rw [getV_nats hm] at h
    have h' : leV (nats m) = s := by omega
    have h2 := le_leV (nats_BB hm)
    rw [nats_length, h4, h'] at h2
    exact h2.symm

/-- are the last four bytes the sum of those ahead? -/
def rightB (l : List Int) : Bool := decide (4 ≤ l.length) && decide (getV (l.drop (l.length - 4)) = (crcSum (nats (l.take (l.length - 4))) : Nat))
theorem rightB_short {l : List Int} (h : l.length < 4) : rightB l = false := by unfold rightB; rw [decide_eq_false (by omega)]; rfl
theorem rightB_iff {l : List Int} (hl : AllB l) (h4 : 4 ≤ l.length) : rightB l = true ↔ sealL (l.take (l.length - 4)) = l := by
  have hd : (l.drop (l.length - 4)).length = 4 := by rw [List.length_drop]; omega
  have ht := tail_iff (hl.drop (l.length - 4)) hd (crcSum_lt (nats_BB (hl.take (l.length - 4))))
  unfold rightB sealL
  rw [decide_eq_true h4, Bool.true_and, decide_eq_true_iff, ← ht]
  constructor
  · intro h; rw [← h, List.take_append_drop]
  · intro h
    have h2 := List.take_append_drop (l.length - 4) l
    have h3 : l.take (l.length - 4) ++ putL (crcSum (nats (l.take (l.length - 4))) : Nat) 4 = l.take (l.length - 4) ++ l.drop (l.length - 4) := h.trans h2.symm
    exact (List.append_cancel_left h3).symm
theorem rightB_seal {l : List Int} (hl : AllB l) : rightB (sealL l) = true := by
  have h4 : 4 ≤ (sealL l).length := by rw [sealL_length]; omega
  rw [rightB_iff (sealL_AllB hl) h4]
  have : (sealL l).take ((sealL l).length - 4) = l := by
    rw [sealL_length]
    unfold sealL
    rw [Nat.add_sub_cancel, List.take_left]
  rw [this]
/-- right, by the register -/
theorem rightB_reg {l : List Int} (hl : AllB l) (h4 : 4 ≤ l.length) : rightB l = true ↔ U ones (nats l) = Ts 32 ones := by
  have hd : (l.drop (l.length - 4)).length = 4 := by rw [List.length_drop]; omega
  have hx : leV (nats (l.drop (l.length - 4))) < 4294967296 := by
    have := leV_lt (nats_BB (hl.drop (l.length - 4)))
    rw [nats_length, hd] at this
    exact this
  have hs := sealed_iff (nats_BB (hl.take (l.length - 4))) hx
  have e : nats (l.take (l.length - 4)) ++ le 4 (leV (nats (l.drop (l.length - 4)))) = nats l := by
    have h2 := le_leV (nats_BB (hl.drop (l.length - 4)))
    rw [nats_length, hd] at h2
    rw [h2]
    unfold nats
    rw [← List.map_append, List.take_append_drop]
  rw [e] at hs
  rw [hs]
  unfold rightB
  rw [decide_eq_true h4, Bool.true_and, decide_eq_true_iff, getV_nats (hl.drop _)]
  omega
theorem strOfNums_inj {l m : List Int} (hl : AllB l) (hm : AllB m) (h : strOfNums l = strOfNums m) : l = m := by
  have h1 : l.map (fun n => UInt8.ofNat n.toNat) = m.map (fun n => UInt8.ofNat n.toNat) := by rw [← strOfNums_data, ← strOfNums_data, h]
  have key : ∀ {k : List Int}, AllB k → nats k = (k.map (fun n => UInt8.ofNat n.toNat)).map UInt8.toNat := by
    intro k hk
    unfold nats
    rw [List.map_map]
    apply List.map_congr_left
    intro x hx
    have := hk x hx
    simp only [Function.comp, UInt8.toNat_ofNat']
    omega
  exact nats_inj hl hm (by rw [key hl, key hm, h1])

end Go.Proofs.Ytgemllmfbglkhaa
