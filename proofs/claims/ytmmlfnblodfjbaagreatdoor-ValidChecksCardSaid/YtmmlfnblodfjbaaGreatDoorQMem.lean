/- Layer 8: a tree in memory: a node's five cells; a slice of nodes. No program is named here. -/
import Derived.Test.YtmmlfnblodfjbaaGreatDoorQPlain
import Derived.Test.YtmmlfnblodfjbaaGreatDoorQWord
import Derived.Deep.OwnRows
import Derived.Maps.AppendAt
import Derived.Deep.QuietTactic
import Derived.BigQuiet
import Derived.Below
import Derived.RangeFuncNested
import Derived.RangeFuncBound
import Derived.RangeFuncCalls
import Derived.RangeFuncLeaves
set_option maxRecDepth 100000
namespace Go.Proofs.YtmmlfnblodfjbaaGreatDoor
open Go.RowKit Go.Deep
def cellsT (k z:Int) (vw vb vk:Value):Array Value:=#[.int .i64 k,.int .i64 z,vw,vb,vk]
def Good1 (k z:Int) (ws bs:List Int) (n:Nat):Prop :=
 In64 k∧In64 z∧ws.length≤1000000∧bs.length≤1000000∧n≤1000000∧(∀x∈ws,0≤x∧x≤18446744073709551615)∧(∀x∈bs,0≤x∧x≤255)
mutual
def TrV (w:World) (B:Nat):Tr→Value→Prop
 | .mk k z ws bs ks,v=>∃vw vb A c,v= .agg (cellsT k z vw vb (.slice A ks.length c))∧Good1 k z ws bs ks.length∧NumS .u64 w B vw ws∧Bytes w B vb bs∧ks.length≤c∧c≤9223372036854775807 ∧
   (0<ks.length→∃b off,A=some ⟨b,off,none⟩∧b<B∧KidsAt w B b off ks)
def KidsAt (w:World) (B b:Nat):Nat→List Tr→Prop
 | _,[]=>True
 | off,t :: r=>(∃k z vw vb vk,w.cell? ⟨b,off,none⟩=some (.int .i64 k)∧w.cell? ⟨b,off+1,none⟩=some (.int .i64 z)∧w.cell? ⟨b,off+2,none⟩=some vw∧w.cell? ⟨b,off+3,none⟩=some vb∧w.cell? ⟨b,off+4,none⟩=some vk∧TrV w B t (.agg (cellsT k z vw vb vk)))∧KidsAt w B b (off+5) r
end
mutual
theorem TrV.below {w w':World} {B B':Nat} (hb:Below B' w w') (hB:B≤B'):(t:Tr)→(v:Value)→TrV w B t v→TrV w' B t v
 | .mk k z ws bs ks,v,h=>by
  unfold TrV at h ⊢;obtain ⟨vw,vb,A,c,e,hg,h1,h2,h3,h4,h5⟩:=h;refine ⟨vw,vb,A,c,e,hg,h1.below hb hB,h2.below hb hB,h3,h4,fun hp=> ?_⟩
  obtain ⟨b,off,ea,hlt,hk⟩:=h5 hp;exact ⟨b,off,ea,hlt,KidsAt.below hb hB hlt off ks hk⟩
theorem KidsAt.below {w w':World} {B B' b:Nat} (hb:Below B' w w') (hB:B≤B') (hlt:b<B):(off:Nat)→(l:List Tr)→KidsAt w B b off l→KidsAt w' B b off l
 | _,[],_=>by
  unfold KidsAt
  trivial
 | off,t :: r,h=>by
  unfold KidsAt at h ⊢;obtain ⟨⟨k,z,vw,vb,vk,c0,c1,c2,c3,c4,ht⟩,hr⟩:=h;have hc:∀i,w'.cell? ⟨b,i,none⟩=w.cell? ⟨b,i,none⟩:=fun i=>hb.cell (p:=⟨b,i,none⟩) (by show b<B';omega)
  exact ⟨⟨k,z,vw,vb,vk,(hc _).trans c0,(hc _).trans c1,(hc _).trans c2,(hc _).trans c3,(hc _).trans c4,TrV.below hb hB t _ ht⟩,KidsAt.below hb hB hlt (off+5) r hr⟩
end
mutual
theorem TrV.more {w:World} {B B':Nat} (hB:B≤B'):(t:Tr)→(v:Value)→TrV w B t v→TrV w B' t v
 | .mk k z ws bs ks,v,h=>by
  unfold TrV at h ⊢;obtain ⟨vw,vb,A,c,e,hg,h1,h2,h3,h4,h5⟩:=h;refine ⟨vw,vb,A,c,e,hg,h1.more hB,h2.more hB,h3,h4,fun hp=> ?_⟩
  obtain ⟨b,off,ea,hlt,hk⟩:=h5 hp;exact ⟨b,off,ea,by omega,KidsAt.more hB off ks hk⟩
theorem KidsAt.more {w:World} {B B' b:Nat} (hB:B≤B'):(off:Nat)→(l:List Tr)→KidsAt w B b off l→KidsAt w B' b off l
 | _,[],_=>by
  unfold KidsAt
  trivial
 | off,t :: r,h=>by
  unfold KidsAt at h ⊢;obtain ⟨⟨k,z,vw,vb,vk,c0,c1,c2,c3,c4,ht⟩,hr⟩:=h;exact ⟨⟨k,z,vw,vb,vk,c0,c1,c2,c3,c4,TrV.more hB t _ ht⟩,KidsAt.more hB (off+5) r hr⟩
end
theorem TrV.on {a b:World} {t:Tr} {v:Value} (h:TrV a a.heap.size t v) (k:Below a.heap.size a b):TrV b b.heap.size t v:=TrV.more k.size t v (TrV.below k (Nat.le_refl _) t v h)
theorem KidsAt.at_ {w:World} {B b:Nat}:(l:List Tr)→(off j:Nat)→(hj:j<l.length)→KidsAt w B b off l →
  ∃k z vw vb vk,w.cell? ⟨b,off+j*5,none⟩=some (.int .i64 k)∧w.cell? ⟨b,off+j*5+1,none⟩=some (.int .i64 z)∧w.cell? ⟨b,off+j*5+2,none⟩=some vw∧w.cell? ⟨b,off+j*5+3,none⟩=some vb∧w.cell? ⟨b,off+j*5+4,none⟩=some vk∧TrV w B l[j] (.agg (cellsT k z vw vb vk))
 | [],_,_,hj,_=>by simp at hj
 | t :: r,off,0,_,h=>by
  unfold KidsAt at h;rw[Nat.zero_mul,Nat.add_zero];exact h.1
 | t :: r,off,j+1,hj,h=>by
  unfold KidsAt at h;obtain ⟨k,z,vw,vb,vk,c0,c1,c2,c3,c4,ht⟩:=KidsAt.at_ r (off+5) j (by simpa using hj) h.2;have e:off+(j+1)*5=off+5+j*5:=by omega
  rw[e];exact ⟨k,z,vw,vb,vk,c0,c1,c2,c3,c4,ht⟩
theorem TrV.parts {w:World} {B:Nat} {k z:Int} {ws bs:List Int} {ks:List Tr} {v:Value} (h:TrV w B (.mk k z ws bs ks) v) :
  ∃A1 c1 A2 c2 A3 c3,v= .agg (cellsT k z (.slice A1 ws.length c1) (.slice A2 bs.length c2) (.slice A3 ks.length c3))∧Good1 k z ws bs ks.length∧NumS .u64 w B (.slice A1 ws.length c1) ws∧Bytes w B (.slice A2 bs.length c2) bs∧ks.length≤c3∧c3≤9223372036854775807 ∧
   (0<ks.length→∃b off,A3=some ⟨b,off,none⟩∧b<B∧∀j,j<ks.length→∃k z vw vb vk,w.cell? ⟨b,off+j*5,none⟩=some (.int .i64 k)∧w.cell? ⟨b,off+j*5+1,none⟩=some (.int .i64 z)∧w.cell? ⟨b,off+j*5+2,none⟩=some vw∧w.cell? ⟨b,off+j*5+3,none⟩=some vb∧w.cell? ⟨b,off+j*5+4,none⟩=some vk∧TrV w B (ks[j]?.getD Tr.nil) (.agg (cellsT k z vw vb vk))):=by
 unfold TrV at h;obtain ⟨vw,vb,A,c,e,hg,h1,h2,h3,h4,h5⟩:=h;obtain ⟨A1,c1,rfl⟩:=h1.form rfl;obtain ⟨A2,c2,eb,hb2⟩:=h2;subst eb;refine ⟨A1,c1,A2,c2,A,c,e,hg,h1,⟨A2,c2,rfl,hb2⟩,h3,h4,fun hp=> ?_⟩
 obtain ⟨b,off,ea,hlt,hk⟩:=h5 hp;exact ⟨b,off,ea,hlt,fun j hj=>by
  rw[List.getElem?_eq_getElem hj];exact KidsAt.at_ ks off j hj hk⟩
def NumP (q:IntKind) (w:World) (P:Nat→Prop) (v:Value) (l:List Int):Prop :=
 ∃A c,v= .slice A l.length c∧l.length≤c∧c≤9223372036854775807∧(0<l.length→∃b off,A=some ⟨b,off,none⟩∧P b∧∀j,j<l.length→w.cell? ⟨b,off+j,none⟩=some (.int q (l[j]?.getD 0)))
theorem NumP.mono {q:IntKind} {w:World} {P Q:Nat→Prop} {v:Value} {l:List Int} (h:NumP q w P v l) (hPQ:∀b,P b→Q b):NumP q w Q v l:=by
 obtain ⟨A,c,e,h1,h2,h3⟩:=h;refine ⟨A,c,e,h1,h2,fun hp=> ?_⟩
 obtain ⟨b,off,ea,hb,hc⟩:=h3 hp;exact ⟨b,off,ea,hPQ b hb,hc⟩
theorem cell_same {w w':World} {b:Nat} (h:w'.heap[b]? = w.heap[b]?) (i:Nat):w'.cell? ⟨b,i,none⟩=w.cell? ⟨b,i,none⟩:=by
 simp[World.cell?,h]
theorem NumP.keep {q:IntKind} {w w':World} {P:Nat→Prop} {v:Value} {l:List Int} (h:NumP q w P v l) (hk:∀b,P b→w'.heap[b]? = w.heap[b]?):NumP q w' P v l:=by
 obtain ⟨A,c,e,h1,h2,h3⟩:=h;refine ⟨A,c,e,h1,h2,fun hp=> ?_⟩
 obtain ⟨b,off,ea,hb,hc⟩:=h3 hp;exact ⟨b,off,ea,hb,fun j hj=>(cell_same (hk b hb) _).trans (hc j hj)⟩
theorem NumP.numS {q:IntKind} {w:World} {P:Nat→Prop} {v:Value} {l:List Int} {B:Nat} (h:NumP q w P v l) (hB:∀b,P b→b<B):NumS q w B v l:=by
 obtain ⟨A,c,e,h1,h2,h3⟩:=h;refine ⟨A,c,e,h1,h2,fun hp=> ?_⟩
 obtain ⟨b,off,ea,hb,hc⟩:=h3 hp;exact ⟨b,off,ea,hB b hb,hc⟩
theorem NumP.nil (q:IntKind) (w:World) (P:Nat→Prop):NumP q w P (.slice none 0 0) []:=⟨none,0,rfl,by simp,by omega,fun h=>by simp at h⟩
theorem NumP.form {q:IntKind} {w:World} {P:Nat→Prop} {v:Value} {l:List Int} (h:NumP q w P v l):∃A c,v= .slice A l.length c:=by
 obtain ⟨A,c,e,_⟩:=h;exact ⟨A,c,e⟩
theorem OwnN.numP {q:IntKind} {t:Nat} {w:World} {base:Nat} {v:Value} {l:List Int} (h:OwnN q t w base v l):NumP q w (fun b=>v.ownBlock=some b) v l:=by
 have h0:=h;obtain ⟨h1,⟨rfl,hn⟩ | ⟨g,cap,cur,rfl,hb,hh,hc,hm,hs,ht⟩⟩:=h
 ·exact ⟨none,0,by rw[hn],by omega,by omega,fun hp=>by omega⟩
 ·refine ⟨_,cap,rfl,hc,by unfold maxLen at hm;omega,fun hp=>⟨g,0,rfl,rfl,fun j hj=> ?_⟩⟩
  rw[Nat.zero_add,World.ownsRow.cellAt h0 j (by omega),List.getElem?_map,List.getElem?_eq_getElem hj]
  rfl
def Cl (w:World) (b:Nat):Prop:=∃cur T,w.heap[b]? = some (.cells cur T (0,0))
theorem Cl.same {w w':World} {b:Nat} (h:Cl w b) (hk:w'.heap[b]? = w.heap[b]?):Cl w' b:=by
 obtain ⟨cur,T,hc⟩:=h;exact ⟨cur,T,hk.trans hc⟩
mutual
def TrP (w:World) (P:Nat→Prop):Tr→Value→Prop
 | .mk k z ws bs ks,v=>∃vw vb A c,v= .agg (cellsT k z vw vb (.slice A ks.length c))∧Good1 k z ws bs ks.length∧NumP .u64 w P vw ws∧NumP .u8 w P vb bs∧ks.length≤c∧c≤9223372036854775807 ∧
   (0<ks.length→∃b off,A=some ⟨b,off,none⟩∧(P b∧Cl w b)∧KidsP w P b off ks)
def KidsP (w:World) (P:Nat→Prop) (b:Nat):Nat→List Tr→Prop
 | _,[]=>True
 | off,t :: r=>(∃k z vw vb vk,w.cell? ⟨b,off,none⟩=some (.int .i64 k)∧w.cell? ⟨b,off+1,none⟩=some (.int .i64 z)∧w.cell? ⟨b,off+2,none⟩=some vw∧w.cell? ⟨b,off+3,none⟩=some vb∧w.cell? ⟨b,off+4,none⟩=some vk∧TrP w P t (.agg (cellsT k z vw vb vk)))∧KidsP w P b (off+5) r
end
mutual
theorem TrP.mono {w:World} {P Q:Nat→Prop} (hPQ:∀b,P b→Q b):(t:Tr)→(v:Value)→TrP w P t v→TrP w Q t v
 | .mk k z ws bs ks,v,h=>by
  unfold TrP at h ⊢;obtain ⟨vw,vb,A,c,e,hg,h1,h2,h3,h4,h5⟩:=h;refine ⟨vw,vb,A,c,e,hg,h1.mono hPQ,h2.mono hPQ,h3,h4,fun hp=> ?_⟩
  obtain ⟨b,off,ea,hb,hk⟩:=h5 hp;exact ⟨b,off,ea,⟨hPQ b hb.1,hb.2⟩,KidsP.mono hPQ b off ks hk⟩
theorem KidsP.mono {w:World} {P Q:Nat→Prop} (hPQ:∀b,P b→Q b) (b:Nat):(off:Nat)→(l:List Tr)→KidsP w P b off l→KidsP w Q b off l
 | _,[],_=>by unfold KidsP;trivial
 | off,t :: r,h=>by
  unfold KidsP at h ⊢;obtain ⟨⟨k,z,vw,vb,vk,c0,c1,c2,c3,c4,ht⟩,hr⟩:=h;exact ⟨⟨k,z,vw,vb,vk,c0,c1,c2,c3,c4,TrP.mono hPQ t _ ht⟩,KidsP.mono hPQ b (off+5) r hr⟩
end
mutual
theorem TrP.keep {w w':World} {P:Nat→Prop} (hk:∀b,P b→w'.heap[b]? = w.heap[b]?):(t:Tr)→(v:Value)→TrP w P t v→TrP w' P t v
 | .mk k z ws bs ks,v,h=>by
  unfold TrP at h ⊢;obtain ⟨vw,vb,A,c,e,hg,h1,h2,h3,h4,h5⟩:=h;refine ⟨vw,vb,A,c,e,hg,h1.keep hk,h2.keep hk,h3,h4,fun hp=> ?_⟩
  obtain ⟨b,off,ea,hb,hk5⟩:=h5 hp;exact ⟨b,off,ea,⟨hb.1,hb.2.same (hk b hb.1)⟩,KidsP.keep hk b hb.1 off ks hk5⟩
theorem KidsP.keep {w w':World} {P:Nat→Prop} (hk:∀b,P b→w'.heap[b]? = w.heap[b]?) (b:Nat) (hb:P b):(off:Nat)→(l:List Tr)→KidsP w P b off l→KidsP w' P b off l
 | _,[],_=>by unfold KidsP;trivial
 | off,t :: r,h=>by
  unfold KidsP at h ⊢;obtain ⟨⟨k,z,vw,vb,vk,c0,c1,c2,c3,c4,ht⟩,hr⟩:=h;have hc:=fun i=>cell_same (hk b hb) i
  exact ⟨⟨k,z,vw,vb,vk,(hc _).trans c0,(hc _).trans c1,(hc _).trans c2,(hc _).trans c3,(hc _).trans c4,TrP.keep hk t _ ht⟩,KidsP.keep hk b hb (off+5) r hr⟩
end
mutual
theorem TrP.trV {w:World} {P:Nat→Prop} {B:Nat} (hB:∀b,P b→b<B):(t:Tr)→(v:Value)→TrP w P t v→TrV w B t v
 | .mk k z ws bs ks,v,h=>by
  unfold TrP at h;unfold TrV;obtain ⟨vw,vb,A,c,e,hg,h1,h2,h3,h4,h5⟩:=h;refine ⟨vw,vb,A,c,e,hg,h1.numS hB,h2.numS hB,h3,h4,fun hp=> ?_⟩
  obtain ⟨b,off,ea,hb,hk⟩:=h5 hp;exact ⟨b,off,ea,hB b hb.1,KidsP.kidsAt hB b off ks hk⟩
theorem KidsP.kidsAt {w:World} {P:Nat→Prop} {B:Nat} (hB:∀b,P b→b<B) (b:Nat):(off:Nat)→(l:List Tr)→KidsP w P b off l→KidsAt w B b off l
 | _,[],_=>by unfold KidsAt;trivial
 | off,t :: r,h=>by
  unfold KidsP at h;unfold KidsAt;obtain ⟨⟨k,z,vw,vb,vk,c0,c1,c2,c3,c4,ht⟩,hr⟩:=h;exact ⟨⟨k,z,vw,vb,vk,c0,c1,c2,c3,c4,TrP.trV hB t _ ht⟩,KidsP.kidsAt hB b (off+5) r hr⟩
end
theorem TrP.parts {w:World} {P:Nat→Prop} {t:Tr} {v:Value} (h:TrP w P t v):∃k z A1 n1 c1 A2 n2 c2 A3 n3 c3,v= .agg (cellsT k z (.slice A1 n1 c1) (.slice A2 n2 c2) (.slice A3 n3 c3)):=by
 obtain ⟨k,z,ws,bs,ks⟩:=t;unfold TrP at h;obtain ⟨vw,vb,A,c,rfl,-,h1,h2,-⟩:=h;obtain ⟨A1,c1,rfl⟩:=h1.form;obtain ⟨A2,c2,rfl⟩:=h2.form;exact ⟨_,_,_,_,_,_,_,_,_,_,_,rfl⟩
theorem KidsP.of {w:World} {P:Nat→Prop} {b:Nat}:(l:List Tr)→(off:Nat) →
  (∀j,(hj:j<l.length)→∃k z vw vb vk,w.cell? ⟨b,off+j*5,none⟩=some (.int .i64 k)∧w.cell? ⟨b,off+j*5+1,none⟩=some (.int .i64 z)∧w.cell? ⟨b,off+j*5+2,none⟩=some vw∧w.cell? ⟨b,off+j*5+3,none⟩=some vb∧w.cell? ⟨b,off+j*5+4,none⟩=some vk∧TrP w P l[j] (.agg (cellsT k z vw vb vk)))→KidsP w P b off l
 | [],_,_=>by unfold KidsP;trivial
 | t :: r,off,h=>by
  unfold KidsP;refine ⟨?_,KidsP.of r (off+5) (fun j hj=> ?_)⟩
  ·have:=h 0 (by simp);rw[Nat.zero_mul,Nat.add_zero] at this;exact this
  ·have:=h (j+1) (by simpa using hj);rw[show off+(j+1)*5=off+5+j*5 by omega] at this
   exact this
def KRow (T:Nat) (w:World) (base:Nat) (v:Value) (ks:List Tr):Prop :=
 ∃xs:List Value,w.ownsRow base T 5 v ks.length xs∧∀j,j<ks.length→∃k z vw vb vk,xs[j*5]? = some (.int .i64 k)∧xs[j*5+1]? = some (.int .i64 z)∧xs[j*5+2]? = some vw∧xs[j*5+3]? = some vb∧xs[j*5+4]? = some vk ∧
  TrP w (fun b=>base≤b∧b<w.heap.size∧v.ownBlock≠some b) (ks[j]?.getD Tr.nil) (.agg (cellsT k z vw vb vk))
theorem KRow.nil (T:Nat) (w:World) (base:Nat):KRow T w base (.slice none 0 0) []:=⟨[],World.ownsRow_nil _ _ _ _,fun j hj=>by simp at hj⟩
theorem KRow.keep {T:Nat} {w w':World} {base:Nat} {v:Value} {ks:List Tr} (h:KRow T w base v ks) (hs:w.heap.size≤w'.heap.size) (hk:∀b,base≤b→b<w.heap.size→w'.heap[b]? = w.heap[b]?):KRow T w' base v ks:=by
 obtain ⟨xs,ho,hx⟩:=h;refine ⟨xs,?_,fun j hj=> ?_⟩
 ·obtain ⟨h1,h2 | ⟨g,c,cur,rfl,hb,hh,r⟩⟩:=ho
  ·exact ⟨h1,.inl h2⟩
  ·exact ⟨h1,.inr ⟨g,c,cur,rfl,hb,(hk g hb (Array.getElem?_eq_some_iff.1 hh).1).trans hh,r⟩⟩
 ·obtain ⟨k,z,vw,vb,vk,e0,e1,e2,e3,e4,ht⟩:=hx j hj;refine ⟨k,z,vw,vb,vk,e0,e1,e2,e3,e4,TrP.mono (fun b hb=>⟨hb.1,by omega,hb.2.2⟩) _ _ (TrP.keep (fun b hb=>hk b hb.1 hb.2.1) _ _ ht)⟩
theorem KRow.form {T:Nat} {w:World} {base:Nat} {v:Value} {ks:List Tr} (h:KRow T w base v ks):∃A c,v= .slice A ks.length c∧ks.length≤c∧c≤9223372036854775807:=by
 obtain ⟨xs,⟨h1,⟨rfl,hn⟩ | ⟨g,c,cur,rfl,hb,hh,hc,hm,_⟩⟩,-⟩:=h
 ·exact ⟨none,0,by rw[hn],by omega,by omega⟩
 ·exact ⟨_,c,rfl,hc,by unfold maxLen at hm;omega⟩
theorem KRow.kids {T:Nat} {w:World} {base:Nat} {v:Value} {ks:List Tr} (h:KRow T w base v ks):∃A c,v= .slice A ks.length c∧ks.length≤c∧c≤9223372036854775807∧(0<ks.length→∃b off,A=some ⟨b,off,none⟩∧((base≤b∧b<w.heap.size)∧Cl w b)∧KidsP w (fun b=>base≤b∧b<w.heap.size) b off ks):=by
 obtain ⟨A,c,rfl,h1,h2⟩:=h.form;refine ⟨A,c,rfl,h1,h2,fun hp=> ?_⟩
 obtain ⟨xs,ho,hx⟩:=h;have ho2:=ho;obtain ⟨h3,⟨e,_⟩ | ⟨g,c',cur,e,hb,hh,_⟩⟩:=ho
 ·injection e with e1 e2 e3
  omega
 ·injection e with e1 e2 e3
  subst e1 e3;have hlt:=(Array.getElem?_eq_some_iff.1 hh).1;refine ⟨g,0,rfl,⟨⟨hb,hlt⟩,cur,_,hh⟩,KidsP.of ks 0 (fun j hj=> ?_)⟩
  obtain ⟨k,z,vw,vb,vk,e0,e1,e2,e3,e4,ht⟩:=hx j hj;rw[List.getElem?_eq_getElem hj,Option.getD_some] at ht;have hcell:∀i u,i<5→xs[j*5+i]? = some u→w.cell? ⟨g,0+j*5+i,none⟩=some u:=fun i u hi hu=>by
   have hl:j*5+i<xs.length:=(List.getElem?_eq_some_iff.1 hu).1;have:=World.ownsRow.cellAt ho2 (j*5+i) (by omega);rw[Nat.zero_add,this];exact hu
  exact ⟨k,z,vw,vb,vk,hcell 0 _ (by omega) e0,hcell 1 _ (by omega) e1,hcell 2 _ (by omega) e2,hcell 3 _ (by omega) e3,hcell 4 _ (by omega) e4,TrP.mono (fun b hb=>⟨hb.1,hb.2.1⟩) _ _ ht⟩
def TBox (w:World) (g:Nat) (k z:Int) (vw vb vk:Value):Prop:=w.heap[g]? = some (.cells (cellsT k z vw vb vk) 34 (0,0))
theorem TBox.new (w:World) (k z:Int) (vw vb vk:Value):TBox (w.alloc (.cells (cellsT k z vw vb vk) 34)) w.heap.size k z vw vb vk:=by unfold TBox;rw[blk_alloc_new]
theorem TBox.lt {w:World} {g:Nat} {k z:Int} {vw vb vk:Value} (h:TBox w g k z vw vb vk):g<w.heap.size:=(Array.getElem?_eq_some_iff.1 h).1
theorem TBox.on {w w':World} {g:Nat} {k z:Int} {vw vb vk:Value} (h:TBox w g k z vw vb vk) (hB:Below w.heap.size w w'):TBox w' g k z vw vb vk:=(hB.block g h.lt).trans h
theorem TBox.cells {w:World} {g:Nat} {k z:Int} {vw vb vk:Value} (h:TBox w g k z vw vb vk):w.cell? ⟨g,0,none⟩=some (.int .i64 k)∧w.cell? ⟨g,1,none⟩=some (.int .i64 z)∧w.cell? ⟨g,2,none⟩=some vw∧w.cell? ⟨g,3,none⟩=some vb∧w.cell? ⟨g,4,none⟩=some vk:=by
 unfold TBox at h
 simp[World.cell?,h,cellsT]
theorem bseq8 {a b c:World} (h:Below a.heap.size a b) (k:Below b.heap.size b c):Below a.heap.size a c:=h.trans (k.mono h.size)
set_option maxHeartbeats 1000000 in
theorem rneed_any (t:Tr) (v:Value) (w:World) (h:TrV w w.heap.size t v) :
  Calls Tryz.prog 52 #[v] w fun e w'=>e= .returned (.int .i64 (needT t))∧Below w.heap.size w w':=by
 obtain ⟨k,z,ws,bs,ks⟩:=t;obtain ⟨A1,c1,A2,c2,A3,c3,rfl,hg,-⟩:=h.parts;obtain ⟨g1,g2,g3,g4,g5,-⟩:=hg;clear h
 by_cases k1:k=1
 ·subst k1;rw[need1];generalize ws.length=nw at *
  generalize ks.length=nk at *
  unfold cellsT;go_enter Tryz.func52,Tryz.ntmps52
  go_wp2_with fail
  go_ret;exact ⟨by simp,(Below.refl _ _).alloc (Nat.le_refl _) _⟩
 ·by_cases k2:k=2
  ·subst k2;rw[need2];generalize ws.length=nw at *
   generalize ks.length=nk at *
   generalize bs.length=nb at *
   unfold cellsT;go_enter Tryz.func52,Tryz.ntmps52
   go_wp2_with fail
   go_ret;exact ⟨by simp,(Below.refl _ _).alloc (Nat.le_refl _) _⟩
  ·have hn:needT (.mk k z ws bs ks)=0:=by
    unfold needT;exact (if_neg k1).trans (if_neg k2)
   rw[hn];unfold cellsT;go_enter Tryz.func52,Tryz.ntmps52
   go_wp2_with fail
   go_ret;exact ⟨by simp,(Below.refl _ _).alloc (Nat.le_refl _) _⟩
def nodeZero:Value:= .agg #[.int .i64 0,.int .i64 0,.slice none 0 0,.slice none 0 0,.slice none 0 0]
theorem Tryz.infoNode:(Tryz.prog.info? 34).map (fun i=>(i.zero,i.size,i.bytes))=some (some nodeZero,5,88):=by kernel_rfl
def KRowN (w:World) (base:Nat) (v:Value) (ks:List Tr):Prop:=KRow 34 w base v ks
theorem five_new (w:World) (t:TypeId) (a0 a1 a2 a3 a4:Value):∀j u,[a0,a1,a2,a3,a4][j]? = some u→(w.alloc (.cells #[a0,a1,a2,a3,a4] t)).cell? ((⟨w.heap.size,0,none⟩:Addr).add j)=some u:=by
 intro j u h;rw[Addr.add_lit];have hb:(w.alloc (.cells #[a0,a1,a2,a3,a4] t)).heap[w.heap.size]? = some (.cells #[a0,a1,a2,a3,a4] t):=by rw[blk_alloc_new]
 simp only[World.cell?,hb,Nat.zero_add]
 simpa using h
theorem append_node (w:World) (base ty:Nat) (v:Value) (ks:List Tr) (t:Tr) (k z:Int) (A1 A2 A3:Option Addr) (n1 n2 n3 c1 c2 c3:Nat) (h:KRowN w base v ks) (ht:TrP w (fun b=>base≤b∧b<w.heap.size∧v.ownBlock≠some b) t (.agg (cellsT k z (.slice A1 n1 c1) (.slice A2 n2 c2) (.slice A3 n3 c3)))) (hk:ks.length≤1000000000000) (hbase:base≤w.heap.size) :
  ∃v' w',(Builtin.append_ #[32,32] ty #[v,.slice (some ⟨w.heap.size,0,none⟩) 1 1]).run Tryz.prog (w.alloc (.cells #[.int .i64 k,.int .i64 z,.slice A1 n1 c1,.slice A2 n2 c2,.slice A3 n3 c3] 34))= .ok v' w'∧KRowN w' base v' (ks ++ [t]) ∧
   (w.alloc (.cells #[.int .i64 k,.int .i64 z,.slice A1 n1 c1,.slice A2 n2 c2,.slice A3 n3 c3] 34)).grownBy w' v.ownBlock∧(∀g,v'.ownBlock=some g→base≤g):=by
 obtain ⟨i0,hi,hz0,hz1,hz2⟩:=info_parts Tryz.infoNode;obtain ⟨xs,ho,hx⟩:=h;obtain ⟨v',w',hrun,ho',hg,_,hl⟩:=run_append_own_at (P:=Tryz.prog) (w:=w.alloc (.cells #[.int .i64 k,.int .i64 z,.slice A1 n1 c1,.slice A2 n2 c2,.slice A3 n3 c3] 34)) base 32 ty 34 i0 _ 5 88 Tryz.underlying32 hi hz0 hz1 hz2 rfl (by decide) v ks.length xs (World.ownsRow.alloc ho _) ⟨w.heap.size,0,none⟩ 1 1 [.int .i64 k,.int .i64 z,.slice A1 n1 c1,.slice A2 n2 c2,.slice A3 n3 c3] rfl (five_new w _ _ _ _ _ _)
  (fun u hu=>by simp at hu;rcases hu with rfl | rfl | rfl | rfl | rfl <;> rfl) (by unfold maxLen;omega) (by omega) (by simp;omega)
 have hsz:w.heap.size+1≤w'.heap.size:=by have:=hg.size;rwa [World.size_alloc] at this
 have hkeep:∀b,base≤b∧b<w.heap.size∧v.ownBlock≠some b→w'.heap[b]? = w.heap[b]? := fun b hb =>
  (hg.block b (by simp;omega) (fun e=>hb.2.2 e.symm)).trans (Below.heap_alloc _ _ _ hb.2.1)
 have hnew:∀b,base≤b∧b<w.heap.size∧v.ownBlock≠some b→base≤b∧b<w'.heap.size∧v'.ownBlock≠some b:=fun b hb=>by
  refine ⟨hb.1,by omega,?_⟩
  rcases hl with e | e
  ·rw[e];exact hb.2.2
  ·rw[e];intro e2;cases e2
   have:=hb.2.1
   simp at this
   omega
 have hxl:xs.length=ks.length*5:=ho.1;refine ⟨v',w',hrun,⟨_,by rw[List.length_append];exact ho',fun j hj=> ?_⟩,hg,fun g hg2=>(World.ownsRow.lt ho' g hg2).1⟩
 rw[List.length_append] at hj;simp only[List.length_cons,List.length_nil] at hj
 by_cases e:j<ks.length
 ·obtain ⟨k',z',vw,vb,vk,e0,e1,e2,e3,e4,ht'⟩:=hx j e;refine ⟨k',z',vw,vb,vk,?_,?_,?_,?_,?_,?_⟩
  ·rw[List.getElem?_append_left (by omega)];exact e0
  ·rw[List.getElem?_append_left (by omega)];exact e1
  ·rw[List.getElem?_append_left (by omega)];exact e2
  ·rw[List.getElem?_append_left (by omega)];exact e3
  ·rw[List.getElem?_append_left (by omega)];exact e4
  ·rw[List.getElem?_append_left e];exact TrP.mono hnew _ _ (TrP.keep hkeep _ _ ht')
 ·obtain rfl:j=ks.length:=by omega
  refine ⟨k,z,.slice A1 n1 c1,.slice A2 n2 c2,.slice A3 n3 c3,?_,?_,?_,?_,?_,?_⟩
  ·rw[List.getElem?_append_right (by omega),hxl,Nat.sub_self];rfl
  ·rw[List.getElem?_append_right (by omega),hxl,show ks.length*5+1 - ks.length*5=1 by omega];rfl
  ·rw[List.getElem?_append_right (by omega),hxl,show ks.length*5+2 - ks.length*5=2 by omega];rfl
  ·rw[List.getElem?_append_right (by omega),hxl,show ks.length*5+3 - ks.length*5=3 by omega];rfl
  ·rw[List.getElem?_append_right (by omega),hxl,show ks.length*5+4 - ks.length*5=4 by omega];rfl
  ·rw[List.getElem?_append_right (Nat.le_refl _),Nat.sub_self];exact TrP.mono hnew _ _ (TrP.keep hkeep _ _ ht)
theorem TBox.frozen {w:World} {g:Nat} {k z:Int} {vw vb vk:Value} (h:TBox w g k z vw vb vk) (i:Nat):w.frozen? ⟨g,i,none⟩=false:=by
 unfold TBox at h
 simp[World.frozen?,h]
theorem TBox.set0 {w:World} {g:Nat} {k z:Int} {vw vb vk:Value} (h:TBox w g k z vw vb vk) (x:Int):TBox (w.setCell ⟨g,0,none⟩ (.int .i64 x)) g x z vw vb vk:=by
 unfold TBox cellsT at *
 simp[World.setCell,Array.getElem?_modify,h]
theorem TBox.set1 {w:World} {g:Nat} {k z:Int} {vw vb vk:Value} (h:TBox w g k z vw vb vk) (x:Int):TBox (w.setCell ⟨g,1,none⟩ (.int .i64 x)) g k x vw vb vk:=by
 unfold TBox cellsT at *
 simp[World.setCell,Array.getElem?_modify,h]
theorem TBox.set2 {w:World} {g:Nat} {k z:Int} {vw vb vk:Value} (h:TBox w g k z vw vb vk) (x:Value):TBox (w.setCell ⟨g,2,none⟩ x) g k z x vb vk:=by
 unfold TBox cellsT at *
 simp[World.setCell,Array.getElem?_modify,h]
theorem TBox.set3 {w:World} {g:Nat} {k z:Int} {vw vb vk:Value} (h:TBox w g k z vw vb vk) (x:Value):TBox (w.setCell ⟨g,3,none⟩ x) g k z vw x vk:=by
 unfold TBox cellsT at *
 simp[World.setCell,Array.getElem?_modify,h]
theorem TBox.set4 {w:World} {g:Nat} {k z:Int} {vw vb vk:Value} (h:TBox w g k z vw vb vk) (x:Value):TBox (w.setCell ⟨g,4,none⟩ x) g k z vw vb x:=by
 unfold TBox cellsT at *
 simp[World.setCell,Array.getElem?_modify,h]
theorem TBox.apart {w:World} {g:Nat} {k z:Int} {vw vb vk:Value} (h:TBox w g k z vw vb vk) {g' i:Nat} {v:Value} (hne:g≠g'):TBox (w.setCell ⟨g',i,none⟩ v) g k z vw vb vk:=(blk_setCell_other _ _ _ _ hne).trans h
theorem TBox.kept {w w':World} {g:Nat} {k z:Int} {vw vb vk:Value} {row:Option Nat} (h:TBox w g k z vw vb vk) (hg:w.grownBy w' row) (hne:row≠some g):TBox w' g k z vw vb vk:=(hg.block g h.lt (fun e=>hne e.symm)).trans h
end Go.Proofs.YtmmlfnblodfjbaaGreatDoor
namespace Go.Proofs.YtmmlfnblodfjbaaGreatDoor
open Go.RowKit
structure Mv (X:Nat→Prop) (W W':World):Prop where
 os:W'.os=W.os
 tape:W'.tape=W.tape
 output:W'.output=W.output
 size:W.heap.size≤W'.heap.size
 same:∀b,b<W.heap.size→¬X b→W'.heap[b]? = W.heap[b]?
theorem Mv.refl (X:Nat→Prop) (W:World):Mv X W W:=⟨rfl,rfl,rfl,Nat.le_refl _,fun _ _ _=>rfl⟩
theorem Mv.trans {X Y:Nat→Prop} {A B C:World} (h:Mv X A B) (k:Mv Y B C) (hXY:∀b,b<A.heap.size→Y b→X b):Mv X A C :=
 ⟨k.os.trans h.os,k.tape.trans h.tape,k.output.trans h.output,Nat.le_trans h.size k.size,fun b hb hx=>(k.same b (Nat.lt_of_lt_of_le hb h.size) (fun hy=>hx (hXY b hb hy))).trans (h.same b hb hx)⟩
theorem Mv.mono {X Y:Nat→Prop} {A B:World} (h:Mv X A B) (hXY:∀b,b<A.heap.size→X b→Y b):Mv Y A B :=
 ⟨h.os,h.tape,h.output,h.size,fun b hb hy=>h.same b hb (fun hx=>hy (hXY b hb hx))⟩
theorem Mv.below {X:Nat→Prop} {A B:World} (h:Mv X A B) {n:Nat} (hn:n≤A.heap.size) (hX:∀b,X b→n≤b):Below n A B :=
 ⟨h.os,h.tape,h.output,h.size,fun b hb=>h.same b (by omega) (fun hx=>by have:=hX b hx;omega)⟩
theorem Mv.of_below {n:Nat} {A B:World} (h:Below n A B):Mv (fun b=>n≤b) A B:=⟨h.os,h.tape,h.output,h.size,fun b _ hb=>h.block b (by omega)⟩
theorem Mv.of_grown {A B:World} {row:Option Nat} (h:A.grownBy B row):Mv (fun b=>row=some b) A B:=⟨h.os,h.tape,h.output,h.size,fun b hb hx=>h.block b hb (fun e=>hx e.symm)⟩
variable {F:Fence} {n:Nat} {P:Program}
end Go.Proofs.YtmmlfnblodfjbaaGreatDoor
