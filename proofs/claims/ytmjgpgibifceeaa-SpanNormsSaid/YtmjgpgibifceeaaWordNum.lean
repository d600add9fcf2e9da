/-
  Contracts of layer 1's functions on numbers (word.Add, Mul, Ceil, Signed, clip, and the document's own): each returns what the plain function says, and leaves the world as it was.
-/
import Derived.Test.YtmjgpgibifceeaaRows
import Derived.Test.YtmjgpgibifceeaaWordMath
import Derived.WalkKit
import Derived.WalkSpells
import Derived.WalkLawsBesides
import Derived.Lib.Hide
namespace Go.Proofs.Ytmjgpgibifceeaa
open Go.RowKit

end Go.Proofs.Ytmjgpgibifceeaa
