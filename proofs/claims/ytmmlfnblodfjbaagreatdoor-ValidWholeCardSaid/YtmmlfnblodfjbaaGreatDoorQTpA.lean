/- Layer 10, the landed package: paths: the function that makes the iterator; steps that are laid behind others. -/
import Derived.Test.YtmmlfnblodfjbaaGreatDoorQMem
import Derived.Test.YtmmlfnblodfjbaaGreatDoorQTdPlain
import Derived.Test.YtmmlfnblodfjbaaGreatDoorQTeC
import Derived.Test.YtmmlfnblodfjbaaGreatDoorQTaA
import Derived.Laws.EntriesVeiled
import Derived.Shelf.Abstract
import Derived.Shelf.RegionOpen
import Derived.OwnWalkIn
namespace Go.Proofs.YtmmlfnblodfjbaaGreatDoor
open Go.RowKit Go.Deep
theorem ownI_of {w:World} {base g cap:Nat} {cur:Array Value} {ks:List Int} (h3:base≤g) (h4:w.heap[g]? = some (.cells cur 3 (0,0))) (h5:ks.length≤cap) (h6:cap≤maxLen) (h7:cur.size=cap) (h8:cur.toList.take ks.length=ks.map (Value.int .i64)):OwnI w base (.slice (some ⟨g,0,none⟩) ks.length cap) ks :=
 ⟨by simp,.inr ⟨g,cap,cur,rfl,h3,h4,h5,h6,by omega,by simpa using h8⟩⟩
end Go.Proofs.YtmmlfnblodfjbaaGreatDoor
namespace Go.Proofs.YtmmlfnblodfjbaaGreatDoor
open Go.RowKit Go.Shelf Go.Deep
def PRow (w:World) (P:Nat→Prop) (base:Nat) (v:Value) (ps:List (List Int × Int)):Prop :=
 ∃xs:List Value,w.ownsRow base 47 2 v ps.length xs∧(∀b,v.ownBlock=some b→P b) ∧
  ∀j,(hj:j<ps.length)→∃sv,xs[j*2]? = some sv∧xs[j*2+1]? = some (.int .i64 ps[j].2)∧NumP .i64 w (fun b=>P b∧v.ownBlock≠some b) sv ps[j].1
theorem PRow.nil (w:World) (P:Nat→Prop) (base:Nat):PRow w P base (.slice none 0 0) []:=⟨[],⟨rfl,.inl ⟨rfl,rfl⟩⟩,fun b hb=>(by cases hb),fun j hj=>(by simp at hj)⟩
theorem PRow.lt {w:World} {P:Nat→Prop} {base:Nat} {v:Value} {ps:List (List Int × Int)} (h:PRow w P base v ps):∀b,v.ownBlock=some b→base≤b∧b<w.heap.size:=by
 obtain ⟨xs,ho,-⟩:=h;exact World.ownsRow.lt ho
theorem row_on {w w':World} {base e size:Nat} {v:Value} {n:Nat} {xs:List Value} (h:w.ownsRow base e size v n xs) (hk:∀b,v.ownBlock=some b→w'.heap[b]? = w.heap[b]?):w'.ownsRow base e size v n xs:=by
 obtain ⟨h1,h2 | ⟨g,cap,cur,rfl,h3,h4,h5⟩⟩:=h
 ·exact ⟨h1,.inl h2⟩
 ·exact ⟨h1,.inr ⟨g,cap,cur,rfl,h3,(hk g rfl).trans h4,h5⟩⟩
theorem PRow.keep {w w':World} {P:Nat→Prop} {base:Nat} {v:Value} {ps:List (List Int × Int)} (h:PRow w P base v ps) (hk:∀b,P b→w'.heap[b]? = w.heap[b]?):PRow w' P base v ps:=by
 obtain ⟨xs,ho,hp,hx⟩:=h;refine ⟨xs,row_on ho (fun b hb=>hk b (hp b hb)),hp,fun j hj=> ?_⟩
 obtain ⟨sv,e0,e1,e2⟩:=hx j hj;exact ⟨sv,e0,e1,e2.keep (fun b hb=>hk b hb.1)⟩
theorem PRow.mono {w:World} {P Q:Nat→Prop} {base:Nat} {v:Value} {ps:List (List Int × Int)} (h:PRow w P base v ps) (hPQ:∀b,P b→Q b):PRow w Q base v ps:=by
 obtain ⟨xs,ho,hp,hx⟩:=h;refine ⟨xs,ho,fun b hb=>hPQ b (hp b hb),fun j hj=> ?_⟩
 obtain ⟨sv,e0,e1,e2⟩:=hx j hj;exact ⟨sv,e0,e1,e2.mono (fun b hb=>⟨hPQ b hb.1,hb.2⟩)⟩
def pathZero:Value:= .agg #[.slice none 0 0,.int .i64 0]
theorem Tryz.infoPath:(Tryz.prog.info? 47).map (fun i=>(i.zero,i.size,i.bytes))=some (some pathZero,2,32):=by kernel_rfl
theorem two_newP (w:World) (t:TypeId) (a0 a1:Value):∀j u,[a0,a1][j]? = some u→(w.alloc (.cells #[a0,a1] t)).cell? ((⟨w.heap.size,0,none⟩:Addr).add j)=some u:=by
 intro j u h;rw[Addr.add_lit];have hb:(w.alloc (.cells #[a0,a1] t)).heap[w.heap.size]? = some (.cells #[a0,a1] t):=by rw[blk_alloc_new]
 simp only[World.cell?,hb,Nat.zero_add]
 simpa using h
theorem append_path (w:World) (P G:Nat→Prop) (base ty:Nat) (v:Value) (ps:List (List Int × Int)) (x:List Int × Int) (A:Option Addr) (c:Nat) (h:PRow w P base v ps) (hx:NumP .i64 w G (.slice A x.1.length c) x.1) (hP:∀b,P b→b<w.heap.size) (hG:∀b,G b→b<w.heap.size∧¬P b) (hk:ps.length≤100000000) (hbase:base≤w.heap.size) :
  ∃v' w',(Builtin.append_ #[62,62] ty #[v,.slice (some ⟨w.heap.size,0,none⟩) 1 1]).run Tryz.prog (w.alloc (.cells #[.slice A x.1.length c,.int .i64 x.2] 47))= .ok v' w' ∧
   PRow w' (fun b=>P b∨G b∨(w.heap.size≤b∧b<w'.heap.size)) base v' (ps ++ [x])∧Mv (fun b=>v.ownBlock=some b) w w':=by
 obtain ⟨i0,hi,hz0,hz1,hz2⟩:=info_parts Tryz.infoPath;obtain ⟨xs,ho,hp,hxs⟩:=h;obtain ⟨v',w',hrun,ho',hg,_,hl⟩:=run_append_own_at (P:=Tryz.prog) (w:=w.alloc (.cells #[.slice A x.1.length c,.int .i64 x.2] 47)) base 62 ty 47 i0 _ 2 32 Tryz.underlying62 hi hz0 hz1 hz2 rfl (by decide) v ps.length xs (World.ownsRow.alloc ho _) ⟨w.heap.size,0,none⟩ 1 1 [.slice A x.1.length c,.int .i64 x.2] rfl (two_newP w _ _ _)
  (fun u hu=>by simp at hu;rcases hu with rfl | rfl <;> rfl) (by unfold maxLen;omega) (by omega) (by simp;omega)
 have hsz:w.heap.size+1≤w'.heap.size:=by have:=hg.size;rwa [World.size_alloc] at this
 have hmv:Mv (fun b=>v.ownBlock=some b) w w':=((((Mv.of_below ((Below.refl w.heap.size w).alloc (Nat.le_refl _) _)).mono (fun b hb (h:w.heap.size≤b)=>absurd hb (by omega)):Mv (fun _=>False) w _).mono (fun _ _ h=>h.elim)).trans (Mv.of_grown hg) (fun _ _ h=>h))
 have hxl:xs.length=ps.length*2:=ho.1;have hne:∀b,b<w.heap.size→v.ownBlock≠some b→v'.ownBlock≠some b:=fun b hb hv=>by
  rcases hl with e | e
  ·rw[e];exact hv
  ·rw[e];intro e2;cases e2
   simp at hb
   omega
 refine ⟨v',w',hrun,⟨_,by rw[List.length_append];exact ho',fun b hb=> ?_,fun j hj=> ?_⟩,hmv⟩
 ·rcases hl with e | e
  ·exact .inl (hp b (e ▸ hb))
  ·rw[e,World.size_alloc] at hb;cases hb
   exact .inr (.inr ⟨Nat.le_succ _,(World.ownsRow.lt ho' _ (by rw[e,World.size_alloc])).2⟩)
 rw[List.length_append] at hj;simp only[List.length_cons,List.length_nil] at hj
 by_cases e:j<ps.length
 ·obtain ⟨sv,e0,e1,e2⟩:=hxs j e;refine ⟨sv,by rw[List.getElem?_append_left (by omega)];exact e0,?_,?_⟩
  ·rw[List.getElem?_append_left (by omega),List.getElem_append_left e];exact e1
  ·rw[List.getElem_append_left e];refine (e2.keep (fun b hb=>hmv.same b (hP b hb.1) hb.2)).mono (fun b hb=>⟨.inl hb.1,hne b (hP b hb.1) hb.2⟩)
 ·obtain rfl:j=ps.length:=by omega
  refine ⟨.slice A x.1.length c,?_,?_,?_⟩
  ·rw[List.getElem?_append_right (by omega),hxl,Nat.sub_self];rfl
  ·rw[List.getElem?_append_right (by omega),hxl,show ps.length*2+1 - ps.length*2=1 by omega];simp
  ·rw[List.getElem_append_right (Nat.le_refl _)];simp only[Nat.sub_self,List.getElem_cons_zero];have hv:∀b,G b→v.ownBlock≠some b:=fun b hb e=>(hG b hb).2 (hp b e)
   exact (hx.keep (fun b hb=>hmv.same b (hG b hb).1 (hv b hb))).mono (fun b hb=>⟨.inr (.inl hb),hne b (hG b hb).1 (hv b hb)⟩)
theorem PRow.form {w:World} {P:Nat→Prop} {base:Nat} {v:Value} {ps:List (List Int × Int)} (h:PRow w P base v ps):∃A c,v= .slice A ps.length c:=by
 obtain ⟨xs,⟨-,⟨rfl,hn⟩ | ⟨g,cap,cur,rfl,-⟩⟩,-⟩:=h
 ·exact ⟨none,0,by rw[hn]⟩
 ·exact ⟨_,_,rfl⟩
end Go.Proofs.YtmmlfnblodfjbaaGreatDoor
