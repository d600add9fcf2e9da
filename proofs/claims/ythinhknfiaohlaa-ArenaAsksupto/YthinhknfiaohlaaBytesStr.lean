/-
  A row of bytes as a string.
-/
import Derived.Test.YthinhknfiaohlaaWordBytes
import Derived.Laws.BytesArg
namespace Go.Proofs.Ythinhknfiaohlaa
open Go.RowKit Go.Deep

/-- string(v) of a row of bytes -/
theorem bytes_conv {w : World} {B : Nat} {v : Value} {l : List Int} (h : Bytes w B v l) : (convert 24 9 v).run Try.prog w = .ok (.string (strOfNums l)) w := by
  obtain ⟨A, c, rfl, _, _, hr⟩ := h
  rcases l with _ | ⟨x, l⟩
  · rcases A with _ | a
    · exact run_convert_bytes_nil w 24 5 Try.underlying24 Try.underlying5 _ _ 9 Try.underlying9
    · rw [run_convert_bytes_string w 24 9 5 (some a) _ c Try.underlying24 Try.underlying5 Try.underlying9]
      exact run_bytesToString w a 0 c [] (run_loadCells_list w a [] (fun j v h => by simp at h))
  · obtain ⟨b, off, rfl, _, hc⟩ := hr (by simp)
    refine run_convert_bytes_arg w 24 5 Try.underlying24 Try.underlying5 b off _ c (x :: l) rfl (fun i hi => ?_) 9 Try.underlying9
    rw [List.getD_eq_getElem?_getD]
    exact hc i hi

/-- rows of bytes with one string are one -/
theorem str_inj {l m : List Int} (hl : AllB l) (hm : AllB m) (h : strOfNums l = strOfNums m) : l = m := by
  have h2 : l.map (fun n => UInt8.ofNat n.toNat) = m.map (fun n => UInt8.ofNat n.toNat) := by rw [← strOfNums_data, ← strOfNums_data, h]
  have hlen : l.length = m.length := by simpa using congrArg List.length h2
  apply List.ext_getElem hlen
  intro i h3 h4
  have h5 := congrArg (fun x => x[i]?) h2
  simp only [List.getElem?_map, List.getElem?_eq_getElem h3, List.getElem?_eq_getElem h4, Option.map_some, Option.some.injEq] at h5
  have h6 := congrArg UInt8.toNat h5
  have b1 := hl l[i] (List.getElem_mem h3)
  have b2 := hm m[i] (List.getElem_mem h4)
  simp only [UInt8.toNat_ofNat'] at h6
  omega
theorem str_eq {l m : List Int} {q : Bool} (hl : AllB l) (hm : AllB m) (h : q = true ↔ l = m) : ((strOfNums l).toList == (strOfNums m).toList) = q := by
  rw [Bool.eq_iff_iff, beq_iff_eq, h]
  refine ⟨fun e => str_inj hl hm ?_, fun e => by rw [e]⟩
  rw [ByteArray.toList_eq, ByteArray.toList_eq] at e
  exact congrArg (fun x => (⟨x.toArray⟩ : ByteArray)) e

end Go.Proofs.Ythinhknfiaohlaa
