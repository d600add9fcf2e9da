/- Layer 8: what stays while words are laid; a range over a method value whose rounds never stop it. -/
import Derived.RangeFuncNested
import Derived.RangeFuncBound
import Derived.RangeFuncCalls
import Derived.RangeFuncLeaves
import Derived.RangeFuncBox
import Derived.Test.YtmmlfnblodfjbaaGreatDoorQBuA
import Derived.Test.YtmmlfnblodfjbaaGreatDoorQCut
import Derived.Shelf.Abstract
import Derived.Shelf.RegionOpen
import Derived.WalkKit
import Derived.OwnWalkIn
import Derived.TacticsInMore
import Derived.LoopNIn
import Derived.LoopIn
import Derived.RegionIn
import Derived.Stop.RegionWithIn
import Derived.Test.YtmmlfnblodfjbaaGreatDoorQWord
import Derived.Maps.OwnIn
namespace Go.Proofs.YtmmlfnblodfjbaaGreatDoor
open Go.RowKit Go.Deep
end Go.Proofs.YtmmlfnblodfjbaaGreatDoor
namespace Go.Proofs.YtmmlfnblodfjbaaGreatDoor
open Go.RowKit Go.Shelf
attribute [local go_sem] Oper.semAt_some
attribute [local go_sem] Oper.semAt_some
def wordB (bs:List Int) (j:Nat):Int:=getV ((bs.drop (8*j)).take 8)
theorem wordsB_eq (bs:List Int):wordsB bs=(List.range ((bs.length+7) / 8)).map (wordB bs):=rfl
theorem own_cells {w:World} {base e n g:Nat} {v:Value} {xs:List Value} (h:w.ownsRow base e 1 v n xs) (hg:v.ownBlock=some g):∃cur,w.heap[g]? = some (.cells cur e (0,0))∧base≤g:=by
 rcases h.2 with ⟨rfl,_⟩ | ⟨g1,c,cur,rfl,hb,hh,_⟩
 ·simp[Value.ownBlock] at hg
 ·simp only[Value.ownBlock,Option.some.injEq] at hg;subst hg;exact ⟨cur,hh,hb⟩
end Go.Proofs.YtmmlfnblodfjbaaGreatDoor
