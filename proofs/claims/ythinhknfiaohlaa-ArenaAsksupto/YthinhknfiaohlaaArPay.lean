/-
  Layer 7, the landed package: what the laws ask of its ten calls, paid.
-/
import Derived.Test.YthinhknfiaohlaaArPayA
import Derived.Test.YthinhknfiaohlaaArPayB
import Derived.Test.YthinhknfiaohlaaArPayD
import Derived.Test.YthinhknfiaohlaaArPayF
namespace Go.Proofs.Ythinhknfiaohlaa
open Go.RowKit Go.Deep

theorem same_below {w w' : World} (h : w = w') : Below w.heap.size w w' := by subst h; exact Below.refl _ _
theorem arena_ok : ArenaOK (fun _ => True) where
  on := fun _ _ => trivial
  right := fun v ls w h hs _ => aright_any v ls w h hs
  sizes := fun v ls w h hs _ => asizes_any v ls w h hs
  words := fun v ls w h hs _ => awords_any v ls w h hs
  fits := fun v l w h hl _ _ => (afits_any v l _ w h hl).mono fun _ _ hh => ⟨hh.1, same_below hh.2⟩
  within := fun v l g a n w h hl _ _ ha hn _ => (awithin_any v l g a n _ w h hl ha hn).mono fun _ _ hh => ⟨hh.1, same_below hh.2⟩
  place := fun v l g a w h hl _ _ ha _ => (aplace_any v l g a _ w h hl ha).mono fun _ _ hh => ⟨hh.1, same_below hh.2⟩
  word := fun v ls g a w h _ _ _ _ => aword_any v ls g a w h
  bytes := fun v ls w h hs _ => abytes_any v ls w h hs
  cut := fun v u l bs w h hl _ h' hb _ _ => acutr_any v u l bs w h hl h' hb
  same := fun v u a b w h h' _ _ _ => asame_any v u a b w h h'

end Go.Proofs.Ythinhknfiaohlaa
