/-
  A row of bytes as a string.
-/
import Derived.Test.YtdphkgknjgdjoaaWordBytes
import Derived.Laws.BytesArg
namespace Go.Proofs.Ytdphkgknjgdjoaa
open Go.RowKit Go.Deep

/-- string(v) of a row of bytes -/
theorem bytes_conv {w : World} {B : Nat} {v : Value} {l : List Int} (h : Bytes w B v l) : (convert 22 9 v).run Try.prog w = .ok (.string (strOfNums l)) w := by
  obtain ⟨A, c, rfl, _, _, hr⟩ := h
  rcases l with _ | ⟨x, l⟩
  · rcases A with _ | a
    · exact run_convert_bytes_nil w 22 5 Try.underlying22 Try.underlying5 _ _ 9 Try.underlying9
    · rw [run_convert_bytes_string w 22 9 5 (some a) _ c Try.underlying22 Try.underlying5 Try.underlying9]
      exact run_bytesToString w a 0 c [] (run_loadCells_list w a [] (fun j v h => by simp at h))
  · obtain ⟨b, off, rfl, _, hc⟩ := hr (by simp)
    refine run_convert_bytes_arg w 22 5 Try.underlying22 Try.underlying5 b off _ c (x :: l) rfl (fun i hi => ?_) 9 Try.underlying9
    rw [List.getD_eq_getElem?_getD]
    exact hc i hi

end Go.Proofs.Ytdphkgknjgdjoaa
