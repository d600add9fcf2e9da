/- Plain facts for layer 10 (tree): trees each of whose things has what its kind has; how high trees are. No program is named here. -/
import Derived.Test.YtmmlfnblodfjbaaGreatDoorQTdPlain
import Derived.Test.YtmmlfnblodfjbaaGreatDoorQMem
import Derived.Test.YtmmlfnblodfjbaaGreatDoorQTeA
import Derived.Test.YtmmlfnblodfjbaaGreatDoorQBuA
import Derived.Test.YtmmlfnblodfjbaaGreatDoorQRdC
import Derived.BigRegion
import Derived.Deep.DeepCutAuto
namespace Go.Proofs.YtmmlfnblodfjbaaGreatDoor
def fine1 (k z:Int) (nw nb nk:Nat):Prop :=
 (k=0∧z=0∧nw=0∧nb=0∧nk=0)∨(k=1∧z=0∧nb=0)∨(k=2∧((z=2∧nw=0∧nk=0)∨(z=5∧nb=0∧nk=0)∨(z=6∧nw=0∧nb=0)))
mutual
def FineT:Tr→Prop
 | .mk k z w b ks=>fine1 k z w.length b.length ks.length∧FineAll ks
def FineAll:List Tr→Prop
 | []=>True
 | t :: r=>FineT t∧FineAll r
end
mutual
def highT:Tr→Nat
 | .mk _ _ _ _ ks=>highAll ks
def highAll:List Tr→Nat
 | []=>0
 | t :: r=>max (highT t+1) (highAll r)
end
theorem fine_nil:FineT Tr.nil:=by
 unfold Tr.nil FineT FineAll;exact ⟨.inl ⟨rfl,rfl,rfl,rfl,rfl⟩,trivial⟩
theorem fineAll_at:(l:List Tr)→FineAll l→(j:Nat)→FineT (l[j]?.getD Tr.nil)
 | [],_,_=>by simpa using fine_nil
 | t :: r,h,0=>by
  unfold FineAll at h
  simpa using h.1
 | t :: r,h,j+1=>by
  unfold FineAll at h;rw[List.getElem?_cons_succ];exact fineAll_at r h.2 j
theorem high_kid:(l:List Tr)→(j:Nat)→j<l.length→highT (l[j]?.getD Tr.nil)+1≤highAll l
 | [],_,h=>by simp at h
 | t :: r,0,_=>by
  unfold highAll
  simp
  omega
 | t :: r,j+1,h=>by
  unfold highAll;rw[List.getElem?_cons_succ];have:=high_kid r j (by simpa using h)
  omega
theorem step_fine {t:Tr} (h:FineT t) (k:Int):FineT (stepT t k).1:=by
 obtain ⟨kk,z,w,b,ks⟩:=t;unfold FineT at h;unfold stepT
 split
 ·exact fine_nil
 ·split
  ·exact fine_nil
  ·split
   ·exact fine_nil
   ·exact fineAll_at ks h.2 _
theorem ob_fine {s:Sr} {o:Ob} (h:GoodO s.sz o):fine1 o.kind o.size (wordsF s o).length (bytesF s o).length (nKids o):=by
 have hlw:(wordsF s o).length=nWords o:=by simp[wordsF]
 have hlb:(bytesF s o).length=nBytes o:=by simp[bytesF]
 rw[hlw,hlb]
 rcases h with rfl | ⟨hk,hq,he,hw⟩
 ·exact .inl ⟨rfl,rfl,rfl,rfl,rfl⟩
 ·unfold nWords nBytes nKids
  rcases hk with hk | hk
  ·have hz:o.size=0:=by
    rcases hq with (h0 | ⟨-,-,-,-,h5,h6,-⟩ | ⟨h1,-⟩ | ⟨h1,-⟩) | h0
    ·exact absurd ((congrArg Pt.kind h0).symm.trans hk) (by decide)
    ·exact h5
    ·exact absurd (h1.symm.trans hk) (by decide)
    ·exact absurd (h1.symm.trans hk) (by decide)
    ·exact congrArg Pt.size h0
   rw[if_neg (by omega),if_neg (by omega),if_neg (by omega)];exact .inr (.inl ⟨hk,hz,rfl⟩)
  ·have hd:o.data=0∧o.ptrs=0:=by
    rcases hq with (h0 | ⟨h1,-⟩ | ⟨-,-,h3,h4,-⟩ | ⟨h1,-⟩) | h0
    ·exact absurd ((congrArg Pt.kind h0).symm.trans hk) (by decide)
    ·exact absurd (h1.symm.trans hk) (by decide)
    ·exact ⟨h3,h4⟩
    ·exact absurd (h1.symm.trans hk) (by decide)
    ·exact absurd ((congrArg Pt.kind h0).symm.trans hk) (by decide)
   unfold wordE ptrO at he;dsimp only at he;rw[if_neg (by omega),if_neg (by omega),if_pos hk] at he;refine .inr (.inr ⟨hk,?_⟩)
   by_cases z2:o.size=2
   ·rw[if_neg (by omega),if_pos z2,if_neg (by omega),hd.1,hd.2];exact .inl ⟨z2,rfl,rfl⟩
   ·by_cases z5:o.size=5
    ·rw[if_pos ⟨hk,z5⟩,if_neg z2,if_neg (by omega),hd.2];exact .inr (.inl ⟨z5,rfl,rfl⟩)
    ·by_cases z6:o.size=6
     ·rw[if_neg (by omega),if_neg z2,if_pos ⟨hk,z6⟩,hd.1];exact .inr (.inr ⟨z6,rfl,rfl⟩)
     ·rw[if_neg (by omega)] at he;exact absurd he (by decide)
theorem kids_fine {f:Int→Int→Int→Dn} {d:Nat} (hf:∀g a p,(f g a p).err=0→FineT (f g a p).t∧highT (f g a p).t≤d):(n:Nat)→(g a paid:Int)→(decKids f n g a paid).1=0→(decKids f n g a paid).2.2.length=n∧FineAll (decKids f n g a paid).2.2∧highAll (decKids f n g a paid).2.2≤d+1
 | 0,_,_,_,_=>by
  unfold decKids FineAll highAll;exact ⟨rfl,trivial,by omega⟩
 | n+1,g,a,paid,h=>by
  rw[decKids] at h ⊢
  by_cases he:(f g a paid).err≠0
  ·rw[if_pos he] at h;exact absurd h he
  ·rw[if_neg he] at h ⊢;obtain ⟨h1,h2⟩:=hf g a paid (Decidable.of_not_not he);obtain ⟨h3,h4,h5⟩:=kids_fine hf n g (a+1) (f g a paid).paid h;refine ⟨by simp[h3],?_,?_⟩
   ·rw[FineAll];exact ⟨h1,h4⟩
   ·rw[highAll];omega
theorem dec_fine {s:Sr} (hs:s.Good):(d:Nat)→(g a paid:Int)→(decN s d g a paid).err=0→FineT (decN s d g a paid).t∧highT (decN s d g a paid).t≤d
 | 0,g,a,paid,h=>by
  have ht:(decN s 0 g a paid).t=Tr.nil:=by
   unfold decN
   repeat' split
   all_goals rfl
  rw[ht];exact ⟨fine_nil,by unfold Tr.nil highT highAll;omega⟩
 | d+1,g,a,paid,h=>by
  rw[decN] at h ⊢
  by_cases h1:(followO s g a).2≠0
  ·rw[if_pos h1] at h;exact absurd h h1
  rw[if_neg h1] at h ⊢
  by_cases h2:8192<paid+(1+wordsO (followO s g a).1)
  ·rw[if_pos h2] at h;exact absurd h (by show ¬(22:Int)=0;decide)
  rw[if_neg h2] at h ⊢
  by_cases h3:(followO s g a).1.kind=0
  ·rw[if_pos h3];exact ⟨fine_nil,by unfold Tr.nil highT highAll;omega⟩
  rw[if_neg h3] at h ⊢
  by_cases h4:(decKids (decN s d) (nKids (followO s g a).1) (followO s g a).1.seg (kidsA (followO s g a).1) (paid+(1+wordsO (followO s g a).1))).1≠0
  ·rw[if_pos h4] at h;exact absurd h h4
  rw[if_neg h4];obtain ⟨h5,h6,h7⟩:=kids_fine (fun g a p=>dec_fine hs d g a p) _ _ _ _ (Decidable.of_not_not h4)
  have h8:=ob_fine (follow_good hs g a);rw[←h5] at h8;unfold FineT highT;exact ⟨⟨h8,h6⟩,h7⟩
theorem decode_fine {ls:List (List Int)} (hg:(srA ls).Good):FineT (decodeT ls).1∧highT (decodeT ls).1≤32:=by
 unfold decodeT
 split
 ·split
  ·exact ⟨fine_nil,by unfold Tr.nil highT highAll;omega⟩
  ·rename_i h
   exact dec_fine hg 32 0 0 0 (Decidable.of_not_not h)
 ·exact ⟨fine_nil,by unfold Tr.nil highT highAll;omega⟩
end Go.Proofs.YtmmlfnblodfjbaaGreatDoor
namespace Go.Proofs.YtmmlfnblodfjbaaGreatDoor
open Go.RowKit Go.Deep
theorem two_new10 (w:World) (c1 c2:Array Value) (t1 t2:TypeId):∀W,W=(w.alloc (.cells c1 t1)).alloc (.cells c2 t2) →
  W.heap[w.heap.size]? = some (.cells c1 t1 (0,0))∧W.heap[w.heap.size+1]? = some (.cells c2 t2 (0,0))∧Below w.heap.size w W∧W.heap.size=w.heap.size+2:=by
 rintro W rfl;refine ⟨?_,?_,((Below.refl _ _).alloc (Nat.le_refl _) _).alloc (by simp) _,by simp⟩
 ·rw[blk_alloc_lt _ _ _ (by simp),blk_alloc_new]
 ·have:=blk_alloc_new (w.alloc (.cells c1 t1)) (.cells c2 t2)
  rwa [World.size_alloc] at this
def shapeT (t:Tr):Va:=⟨t.kind,t.size,((t.words.length+t.bytes.length:Nat):Int),(t.kids.length:Int),0⟩
theorem step_err {t:Tr} {k:Int} (h:(stepT t k).2≠0):(stepT t k).1=Tr.nil:=by
 unfold stepT at h ⊢
 repeat' split
 all_goals first | rfl | skip
 rename_i h1 h2 h3
 rw[if_neg h1,if_neg h2,if_neg h3] at h;exact absurd rfl h
theorem TrV.parts2 {w:World} {B:Nat} {t:Tr} {v:Value} (h:TrV w B t v):∃k z A1 n1 c1 A2 n2 c2 A3 n3 c3,v= .agg (cellsT k z (.slice A1 n1 c1) (.slice A2 n2 c2) (.slice A3 n3 c3)):=by
 obtain ⟨k,z,ws,bs,ks⟩:=t;obtain ⟨A1,c1,A2,c2,A3,c3,rfl,-⟩:=h.parts;exact ⟨_,_,_,_,_,_,_,_,_,_,_,rfl⟩
end Go.Proofs.YtmmlfnblodfjbaaGreatDoor
