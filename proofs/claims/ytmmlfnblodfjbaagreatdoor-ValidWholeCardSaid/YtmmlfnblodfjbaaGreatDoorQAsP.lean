/- Layer 10, the document: plain facts on its Paths: Kid by Kid, up to so many. -/
import Derived.Test.YtmmlfnblodfjbaaGreatDoorQTdPlain
import Derived.Test.YtmmlfnblodfjbaaGreatDoorQTaA
import Derived.Test.YtmmlfnblodfjbaaGreatDoorQRdC
import Derived.Test.YtmmlfnblodfjbaaGreatDoorQBuD
import Derived.Test.YtmmlfnblodfjbaaGreatDoorQTpA
set_option maxRecDepth 100000
namespace Go.Proofs.YtmmlfnblodfjbaaGreatDoor
def headQ (n:Nat):List (List Int × Int):=([],-1) :: (List.range n).map (fun (i:Nat)=>(([]:List Int),(i:Int)))
theorem headQ_len (n:Nat):(headQ n).length=n+1:=by simp[headQ]
theorem headQ_take {n q:Nat} (h:q<n):(headQ n).take (1+q+1)=(headQ n).take (1+q) ++ [([],(q:Int))]:=by
 have e:(headQ n)[1+q]? = some ([],(q:Int)):=by
  unfold headQ;rw[show 1+q=q+1 by omega,List.getElem?_cons_succ,List.getElem?_map,List.getElem?_range h]
  rfl
 rw[List.take_add_one,e]
 rfl
theorem fullK_cat:(a b:List Tr)→(j:Nat)→fullK (a ++ b) j=fullK a j ++ fullK b (j+a.length)
 | [],b,j=>by simp[fullK]
 | t :: r,b,j=>by
  have h:=fullK_cat r b (j+1);rw[List.cons_append,fullK,h,fullK,List.append_assoc,List.length_cons,show j+1+r.length=j+(r.length+1) by omega]
def XP (n:Nat) (ks:List Tr) (q:Nat):List (List Int × Int):=headQ n ++ fullK (ks.take q) 0
theorem XP_zero (n:Nat) (ks:List Tr):XP n ks 0=headQ n:=by
 unfold XP;rw[List.take_zero,fullK,List.append_nil]
theorem XP_next {n:Nat} {ks:List Tr} {q:Nat} (h:q<ks.length):XP n ks (q+1)=XP n ks q ++ (fullP (ks[q]?.getD Tr.nil)).map (behindP q):=by
 unfold XP;rw[List.take_add_one,List.getElem?_eq_getElem h,Option.getD_some]
 show headQ n ++ fullK (ks.take q ++ [ks[q]]) 0=_
 rw[fullK_cat,fullK,fullK,List.append_nil,List.append_assoc,List.length_take,Nat.min_eq_left (by omega),Nat.zero_add]
theorem XP_all (k z:Int) (w b:List Int) (ks:List Tr):XP (w.length+b.length) ks ks.length=fullP (.mk k z w b ks):=by
 unfold XP fullP headQ;rw[List.take_length]
 rfl
theorem XP_split (k z:Int) (w b:List Int) (ks:List Tr) (q:Nat):fullP (.mk k z w b ks)=XP (w.length+b.length) ks q ++ fullK (ks.drop q) (0+(ks.take q).length):=by
 rw[←XP_all];unfold XP;rw[List.append_assoc,←fullK_cat,List.take_append_drop,List.take_length]
theorem XP_take_next {n:Nat} {ks:List Tr} {q M:Nat} (h:q<ks.length) (hM:M≤10000) (hl:((XP n ks q).take M).length<M) :
  (XP n ks (q+1)).take M=(XP n ks q).take M ++ (pathsT (ks[q]?.getD Tr.nil) ((M:Int) - ((XP n ks q).take M).length)).map (behindP q):=by
 have hlen:(XP n ks q).length<M:=by rw[List.length_take] at hl;omega
 have ht:(XP n ks q).take M=XP n ks q:=List.take_of_length_le (by omega);rw[XP_next h,ht,List.take_append,ht]
 congr 1
 unfold pathsT;rw[List.map_take]
 congr 1
 omega
theorem XP_full (k z:Int) (w b:List Int) (ks:List Tr) {q M:Nat} (hl:M≤((XP (w.length+b.length) ks q).take M).length):(XP (w.length+b.length) ks q).take M=(fullP (.mk k z w b ks)).take M:=by
 rw[XP_split k z w b ks q,List.take_append_of_le_length];rw[List.length_take] at hl
 omega
theorem XP_done (k z:Int) (w b:List Int) (ks:List Tr) {q M:Nat} (hq:q≤ks.length) (h:¬(q<ks.length∧((XP (w.length+b.length) ks q).take M).length<M)):(XP (w.length+b.length) ks q).take M=(fullP (.mk k z w b ks)).take M:=by
 by_cases e:q<ks.length
 ·exact XP_full k z w b ks (by omega)
 ·obtain rfl:q=ks.length:=by omega
  rw[XP_all]
theorem head_done {n q M:Nat} (hq:q≤n) (hM:1+q≤M) (h:¬(q<n∧1+q<M)):(headQ n).take (1+q)=(headQ n).take M:=by
 by_cases e:q<n
 ·obtain rfl:M=1+q:=by omega
  rfl
 ·rw[List.take_of_length_le (by rw[headQ_len];omega),List.take_of_length_le (by rw[headQ_len];omega)]
mutual
theorem fullP_lenH:(t:Tr)→∀p∈fullP t,p.1.length≤highT t
 | .mk k z w b ks=>by
  intro p hp;unfold fullP at hp;unfold highT
  rcases List.mem_cons.1 hp with rfl | hp
  ·simp
  ·rcases List.mem_append.1 hp with hp | hp
   ·obtain ⟨i,-,rfl⟩:=List.mem_map.1 hp
    simp
   ·exact fullK_lenH ks 0 p hp
theorem fullK_lenH:(l:List Tr)→(j:Nat)→∀p∈fullK l j,p.1.length≤highAll l
 | [],j=>by
  intro p hp;unfold fullK at hp;cases hp
 | t :: r,j=>by
  intro p hp;rw[fullK] at hp;unfold highAll
  rcases List.mem_append.1 hp with hp | hp
  ·obtain ⟨q,hq,rfl⟩:=List.mem_map.1 hp;have:=fullP_lenH t q hq;unfold behindP;simp only[List.length_cons]
   omega
  ·have:=fullK_lenH r (j+1) p hp
   omega
end
theorem pathsT_lenH {t:Tr} {most:Int}:∀p∈pathsT t most,p.1.length≤highT t:=fun p hp=>fullP_lenH t p (List.mem_of_mem_take hp)
theorem pathsT_most (t:Tr) (most:Int):(pathsT t most).length≤10000:=by
 unfold pathsT;rw[List.length_take]
 omega
end Go.Proofs.YtmmlfnblodfjbaaGreatDoor
namespace Go.Proofs.YtmmlfnblodfjbaaGreatDoor
open Go.RowKit Go.Deep
theorem PaBox.frozen {w:World} {g:Nat} {v:Value} {i:Int} (h:PaBox w g v i) (j:Nat):w.frozen? ⟨g,j,none⟩=false:=by
 unfold PaBox at h
 simp[World.frozen?,h]
theorem PaBox.kept {w w':World} {g:Nat} {v:Value} {i:Int} {row:Option Nat} (h:PaBox w g v i) (hg:w.grownBy w' row) (hne:row≠some g):PaBox w' g v i:=(hg.block g h.lt (fun e=>hne e.symm)).trans h
theorem PaBox.set2 {w:World} {g:Nat} {v:Value} {i:Int} (h:PaBox w g v i) (u:Value) (j:Int):PaBox ((w.setCell ⟨g,0,none⟩ u).setCell ⟨g,1,none⟩ (.int .i64 j)) g u j:=by
 have h1:=heap_setCell_same _ g 0 _ _ u h;have h2:=heap_setCell_same _ g 1 _ _ (.int .i64 j) h1;unfold PaBox;rw[h2]
 simp
theorem append_ints (w:World) (base B ty:Nat) (v:Value) (xs:List Int) (y:Value) (l:List Int) (hown:OwnI w base v xs) (hb:NumS .i64 w B y l) (hk:xs.length+l.length≤1000000000) (hbase:base≤w.heap.size) :
  ∃v' w',(Builtin.append_ #[45,45] ty #[v,y]).run Tryz.prog w= .ok v' w'∧OwnI w' base v' (xs ++ l)∧w.grownBy w' v.ownBlock:=by
 obtain ⟨i0,hi,hz0,hz1,hz2⟩:=info_parts Tryz.info3;have ht:=Tryz.underlying45;obtain ⟨A,c,rfl,h1,h2,hr⟩:=hb
 rcases A with _ | ad
 ·have h0:l.length=0:=by
   rcases Nat.eq_zero_or_pos l.length with h | h
   ·exact h
   ·obtain ⟨b,off,e,_⟩:=hr (by omega);cases e
  have hl:l=[]:=List.eq_nil_of_length_eq_zero h0;subst hl;refine ⟨v,w,?_,by rwa [List.append_nil],⟨rfl,rfl,rfl,Nat.le_refl _,fun _ _ _=>rfl⟩⟩
  rcases hown.2 with ⟨rfl,e⟩ | ⟨g,cap,cur,rfl,hbg,hg,hnc,hcm,hcs,htake⟩
  ·simp[Builtin.append_,run_underlying ht,sizeOf,typeInfo,hi,Builtin.lenOf,Builtin.firstCells]
  ·simp[Builtin.append_,run_underlying ht,sizeOf,typeInfo,hi,Builtin.lenOf,Builtin.firstCells,hnc,storeCells]
 ·obtain ⟨v',w',hrun,ho,hg,_⟩:=run_append_own (P:=Tryz.prog) w base 45 ty 3 i0 (.int .i64 0) 1 8 ht hi hz0 hz1 hz2 rfl (by decide) v xs.length (xs.map (Value.int .i64)) hown ad l.length c (l.map (Value.int .i64)) (by simp)
   (fun j u hu=>by
    rw[List.getElem?_map,Option.map_eq_some_iff] at hu;obtain ⟨x,hx,rfl⟩:=hu;have hj:j<l.length:=(List.getElem?_eq_some_iff.1 hx).1;obtain ⟨b,off,e,_,hc⟩:=hr (by omega)
    injection e with e
    subst e;have:=hc j hj;rw[hx,Option.getD_some] at this;rw[Addr.add_lit];exact this)
   (fun u hu=>by obtain ⟨x,_,rfl⟩:=List.mem_map.1 hu;rfl) (by unfold maxLen;omega) (by omega) hbase
  refine ⟨v',w',hrun,?_,hg⟩;unfold OwnI OwnN;rw[List.length_append,List.map_append];exact ho
set_option maxHeartbeats 1000000 in
theorem behind10_any (k i:Int) (A:Option Addr) (n c:Nat) (ps:List Int) (w:World) (hs:NumS .i64 w w.heap.size (.slice A n c) ps) (hn:n=ps.length) (hlen:n≤1000) :
  Calls Tryz.prog 45 #[.int .i64 k,.agg #[.slice A n c,.int .i64 i]] w fun e w'=>∃A' c',e= .returned (.agg #[.slice A' (n+1) c',.int .i64 i])∧NumP .i64 w' (fun b=>w.heap.size≤b∧b<w'.heap.size) (.slice A' (n+1) c') (k :: ps)∧Below w.heap.size w w':=by
 obtain ⟨W1,hW1⟩:∃W1,W1=(w.alloc (.cells #[.slice A n c,.int .i64 i] 47)).alloc (.cells #[.slice none 0 0,.int .i64 0] 47):=⟨_,rfl⟩;obtain ⟨hb1,hb2,hB1,hs1⟩:=two_new10 w _ _ _ _ W1 hW1;have HP1:Hid (PaBox W1 w.heap.size (.slice A n c) i):=LH hb1;obtain ⟨W2,hW2⟩:∃W2,W2=W1.alloc (.cells #[.int .i64 k] 3):=⟨_,rfl⟩;have hB2:Below W1.heap.size W1 W2:=by rw[hW2];exact (Below.refl _ _).alloc (Nat.le_refl _) _
 have hnew:W2.heap[W1.heap.size]? = some (.cells #[.int .i64 k] 3 (0,0)):=by rw[hW2];exact blk_alloc_new _ _
 have hs2:W2.heap.size=W1.heap.size+1:=by rw[hW2,World.size_alloc]
 have ho2:OwnI W2 W1.heap.size (.slice (some ⟨W1.heap.size,0,none⟩) 1 1) [k]:=ownI_of (Nat.le_refl _) hnew (Nat.le_refl _) (by unfold maxLen;omega) rfl rfl;have hB12:Below w.heap.size w W2:=hB1.trans (hB2.mono hB1.size);obtain ⟨v',w3,hrun,ho3,hg3⟩:=append_ints W2 W1.heap.size W2.heap.size 45 _ [k] (.slice A n c) ps ho2 (hs.on hB12) (by simp;omega) (by omega);obtain ⟨A',c',rfl⟩:∃A' c',v'= .slice A' (n+1) c':=by
  obtain ⟨A',c',e,_⟩:=OwnN.numS ho3;exact ⟨A',c',by rw[e,List.length_append,List.length_singleton,hn];congr 1;omega⟩
 have hz3:=hg3.size;have hP3:PaBox w3 (w.heap.size+1) (.slice none 0 0) 0:=(PaBox.on hb2 hB2 (by omega)).kept hg3 (fun e=>by have e2:W1.heap.size=w.heap.size+1:=Option.some.inj e;omega)
 have HEnd:Hid (PaBox ((w3.setCell ⟨w.heap.size+1,0,none⟩ (.slice A' (n+1) c')).setCell ⟨w.heap.size+1,1,none⟩ (.int .i64 i)) (w.heap.size+1) (.slice A' (n+1) c') i∧NumP .i64 ((w3.setCell ⟨w.heap.size+1,0,none⟩ (.slice A' (n+1) c')).setCell ⟨w.heap.size+1,1,none⟩ (.int .i64 i)) (fun b=>w.heap.size≤b∧b<((w3.setCell ⟨w.heap.size+1,0,none⟩ (.slice A' (n+1) c')).setCell ⟨w.heap.size+1,1,none⟩ (.int .i64 i)).heap.size) (.slice A' (n+1) c') (k :: ps)∧Below w.heap.size w ((w3.setCell ⟨w.heap.size+1,0,none⟩ (.slice A' (n+1) c')).setCell ⟨w.heap.size+1,1,none⟩ (.int .i64 i))):=LH (by
  have hlt:=World.ownsRow.lt ho3;have hB3:Below w.heap.size w w3:=hB12.grown hg3 hB12.size (fun b e=>by have e2:W1.heap.size=b:=Option.some.inj e;omega)
  refine ⟨hP3.set2 _ _,((OwnN.numP ho3).keep (fun b hb=> ?_)).mono (fun b hb=> ?_),(hB3.setCell (p:=⟨w.heap.size+1,0,none⟩) (Nat.le_succ _) _).setCell (p:=⟨w.heap.size+1,1,none⟩) (Nat.le_succ _) _⟩
  ·have:=(hlt b hb).1;have hne:b≠w.heap.size+1:=by omega
   rw[blk_setCell_other _ _ _ _ hne,blk_setCell_other _ _ _ _ hne]
  ·have:=hlt b hb
   simp
   omega)
 obtain ⟨y0,y1⟩:=hP3.cells;have f0:=hP3.frozen 0;have f1:=hP3.frozen 1;obtain ⟨p0,p1⟩:=(HP1.out.on hB2 HP1.out.lt).cells;have hq:=HP1.out.lt;obtain ⟨r0,r1⟩:=((HP1.out.on hB2 HP1.out.lt).kept hg3 (fun e=>by have e2:W1.heap.size=w.heap.size:=Option.some.inj e;omega)).cells
 have HRun:=LH hrun;rw[hW2] at HRun;clear hb1 hb2 hB1 hs1 hnew hs2 ho2 hB12 hrun ho3 hg3 hz3 hP3 hs hB2 hq hn;go_enter Tryz.func45,Tryz.ntmps45;go_upto_region 1 with fail
 rw[←hW1];clear hW1;go_upto_region 2 with fail
 rw[←hW2] at HRun ⊢;clear hW2
 go_wp2_with (at_builtin;refine Lib.wpList_append_run _ rfl _ _ _ _ rfl _ _ rfl rfl _ _ HRun.out ?_)
 clear y0 y1;obtain ⟨y0,y1⟩:=HEnd.out.1.cells;refine bodyPost_ret (v:= .agg #[.slice A' (n+1) c',.int .i64 i]) ?_ rfl ⟨_,_,rfl,HEnd.out.2⟩
 simp[results,Tryz.f45,go_sem,y0,y1]
def PthR (l:List (List Int × Int)) (w:World) (e:Ending) (w':World):Prop:=∃u,e= .returned u∧PRow w' (fun b=>w.heap.size≤b∧b<w'.heap.size) w.heap.size u l∧Below w.heap.size w w'
theorem PRow.base {w:World} {P:Nat→Prop} {base base':Nat} {v:Value} {ps:List (List Int × Int)} (h:PRow w P base v ps) (hb:base'≤base):PRow w P base' v ps:=by
 obtain ⟨xs,⟨hl,ho⟩,hp,hx⟩:=h;refine ⟨xs,⟨hl,?_⟩,hp,hx⟩
 rcases ho with ⟨rfl,h0⟩ | ⟨g,cap,cur,rfl,hg,hr⟩
 ·exact .inl ⟨rfl,h0⟩
 ·exact .inr ⟨g,cap,cur,rfl,Nat.le_trans hb hg,hr⟩
theorem PRow.one (W:World) (base:Nat) (hb:base≤W.heap.size):PRow (W.alloc (.cells #[.slice none 0 0,.int .i64 (-1)] 47)) (fun b=>base≤b∧b<(W.alloc (.cells #[.slice none 0 0,.int .i64 (-1)] 47)).heap.size) base (.slice (some ⟨W.heap.size,0,none⟩) 1 1) [([],-1)]:=by
 refine ⟨[.slice none 0 0,.int .i64 (-1)],⟨rfl,.inr ⟨W.heap.size,1,#[.slice none 0 0,.int .i64 (-1)],rfl,hb,blk_alloc_new _ _,Nat.le_refl _,by unfold maxLen;omega,rfl,rfl⟩⟩,fun b e=> ?_,fun j hj=> ?_⟩
 ·have e2:W.heap.size=b:=Option.some.inj e;rw[World.size_alloc]
  omega
 ·obtain rfl:j=0:=by simp at hj;omega
  exact ⟨_,rfl,rfl,NumP.nil _ _ _⟩
theorem PRow.read {w:World} {P:Nat→Prop} {base:Nat} {v:Value} {ps:List (List Int × Int)} (h:PRow w P base v ps) (hP:∀b,P b→b<w.heap.size) (j:Nat) (hj:j<ps.length):∃g c A' c',v= .slice (some ⟨g,0,none⟩) ps.length c∧w.cell? ⟨g,j*2,none⟩=some (.slice A' ps[j].1.length c')∧w.cell? ⟨g,j*2+1,none⟩=some (.int .i64 ps[j].2)∧NumS .i64 w w.heap.size (.slice A' ps[j].1.length c') ps[j].1:=by
 obtain ⟨xs,⟨hl,ho⟩,hp,hx⟩:=h
 rcases ho with ⟨rfl,h0⟩ | ⟨g,cap,cur,rfl,hg,hh,hc,hm,hs,ht⟩
 ·omega
 ·obtain ⟨sv,e0,e1,e2⟩:=hx j hj;obtain ⟨A',c',rfl⟩:=e2.form;have hcell:∀i u,xs[i]? = some u→w.cell? ⟨g,i,none⟩=some u:=fun i u hu=>by
   have hi:i<ps.length*2:=by rw[←hl];exact (List.getElem?_eq_some_iff.1 hu).1
   rw[←ht,List.getElem?_take_of_lt hi] at hu;unfold World.cell?;dsimp only;rw[hh];dsimp only;rw[←Array.getElem?_toList];exact hu
  exact ⟨g,cap,A',c',rfl,hcell _ _ e0,hcell _ _ e1,e2.numS (fun b hb=>hP b hb.1)⟩
theorem path_more (W:World) (base ty:Nat) (v:Value) (ps:List (List Int × Int)) (i:Int) (h:PRow W (fun b=>base≤b∧b<W.heap.size) base v ps) (hk:ps.length≤100000) (hbase:base≤W.heap.size) :
  ∃A c w',(Builtin.append_ #[62,62] ty #[v,.slice (some ⟨W.heap.size,0,none⟩) 1 1]).run Tryz.prog (W.alloc (.cells #[.slice none 0 0,.int .i64 i] 47))= .ok (.slice A (ps.length+1) c) w' ∧
   PRow w' (fun b=>base≤b∧b<w'.heap.size) base (.slice A (ps.length+1) c) (ps ++ [([],i)])∧Below base W w':=by
 obtain ⟨v',w',hrun,hr,hm⟩:=append_path W (fun b=>base≤b∧b<W.heap.size) (fun _=>False) base ty v ps ([],i) none 0 h (NumP.nil _ _ _) (fun b hb=>hb.2) (fun b hb=>hb.elim) (by omega) hbase
 obtain ⟨A,c,rfl⟩:=hr.form;rw[List.length_append,List.length_singleton] at hrun hr;have hs:=hm.size;exact ⟨A,c,w',hrun,hr.mono (fun b hb=>by
  rcases hb with h | h | h
  ·exact ⟨h.1,Nat.lt_of_lt_of_le h.2 hs⟩
  ·exact h.elim
  ·exact ⟨Nat.le_trans hbase h.1,h.2⟩),hm.below hbase (fun b hb=>(h.lt b hb).1)⟩
theorem path_behind (W V:World) (base lo hi ty:Nat) (v:Value) (ps:List (List Int × Int)) (x:List Int × Int) (A4:Option Addr) (c4:Nat) (h:PRow W (fun b=>(base≤b∧b<W.heap.size)∧¬(lo≤b∧b<hi)) base v ps) (hV:Below W.heap.size W V) (hx:NumP .i64 V (fun b=>W.heap.size≤b∧b<V.heap.size) (.slice A4 x.1.length c4) x.1) (hk:ps.length≤100000) (hbase:base≤W.heap.size) (hhi:hi≤W.heap.size) :
  ∃A c w',(Builtin.append_ #[62,62] ty #[v,.slice (some ⟨V.heap.size,0,none⟩) 1 1]).run Tryz.prog (V.alloc (.cells #[.slice A4 x.1.length c4,.int .i64 x.2] 47))= .ok (.slice A (ps.length+1) c) w' ∧
   PRow w' (fun b=>(base≤b∧b<w'.heap.size)∧¬(lo≤b∧b<hi)) base (.slice A (ps.length+1) c) (ps ++ [x])∧Below base W w'∧W.heap.size≤w'.heap.size∧∀b,lo≤b→b<hi→w'.heap[b]? = W.heap[b]? := by
 have hVs:=hV.size;obtain ⟨v',w',hrun,hr,hm⟩:=append_path V (fun b=>(base≤b∧b<W.heap.size)∧¬(lo≤b∧b<hi)) (fun b=>W.heap.size≤b∧b<V.heap.size) base ty v ps x A4 c4 (h.keep (fun b hb=>hV.block b hb.1.2)) hx (fun b hb=>Nat.lt_of_lt_of_le hb.1.2 hVs) (fun b hb=>⟨hb.2,fun hp=>by omega⟩) (by omega) (by omega)
 obtain ⟨A,c,rfl⟩:=hr.form;rw[List.length_append,List.length_singleton] at hrun hr;have hs:=hm.size;have hown:∀b,v.ownBlock=some b→(base≤b∧b<W.heap.size)∧¬(lo≤b∧b<hi):=by
  obtain ⟨xs,-,hp,-⟩:=h;exact hp
 refine ⟨A,c,w',hrun,hr.mono (fun b hb=> ?_),(hV.mono hbase).trans (hm.below (by omega) (fun b hb=>(h.lt b hb).1)),by omega,fun b h1 h2=> ?_⟩
 ·rcases hb with h | h | h <;> omega
 ·exact (hm.same b (by omega) (fun e=>(hown b e).2 ⟨h1,h2⟩)).trans (hV.block b (by omega))
set_option maxHeartbeats 4000000 in
theorem rpaths_step (k z:Int) (ws bs:List Int) (ks:List Tr) (hf:fine1 k z ws.length bs.length ks.length) (hh:highAll ks≤900)
  (ih:∀j,j<ks.length→∀v w most,TrV w w.heap.size (ks[j]?.getD Tr.nil) v→Calls Tryz.prog 26 #[v,.int .i64 most] w (PthR (pathsT (ks[j]?.getD Tr.nil) most) w))
  (v:Value) (w:World) (most:Int) (h:TrV w w.heap.size (.mk k z ws bs ks) v):Calls Tryz.prog 26 #[v,.int .i64 most] w (PthR (pathsT (.mk k z ws bs ks) most) w):=by
 obtain ⟨A1,c1,A2,c2,A3,c3,rfl,hg,-,-,hc3,hm3,hkid⟩:=h.parts;obtain ⟨nwb,hnwb⟩:∃n,n=ws.length+bs.length:=⟨_,rfl⟩;have hw1:IntKind.i64.wrap ((ws.length:Int)+bs.length)=(nwb:Int):=by
  rw[IntWalk.i64_in _ (by have h1:=hg.2.2.1;have h2:=hg.2.2.2.1;have h3:=hf;unfold fine1 at h3;omega)]
  omega
 have hnb:nwb≤9223372036854775807:=by have h1:=hg.2.2.1;have h2:=hg.2.2.2.1;have h3:=hf;unfold fine1 at h3;omega
 have HDone:=LH (fun q M (hq:q≤ks.length) hn=>XP_done k z ws bs ks (q:=q) (M:=M) hq hn)
 rw[←hnwb] at HDone;have HNext:=LH (fun q M (hq:q<ks.length) (hM:M≤10000) hl=>XP_take_next (n:=nwb) (ks:=ks) (q:=q) (M:=M) hq hM hl)
 have HSh:=LH (fun q (hq:q<ks.length) most=>fun p (hp:p∈pathsT (ks[q]?.getD Tr.nil) most)=>show p.1.length≤1000 by
  have h1:=pathsT_lenH p hp;have h2:=high_kid ks q hq
  omega)
 have HPo:Hid (pathsT (.mk k z ws bs ks) most=(fullP (.mk k z ws bs ks)).take (min most 10000).toNat):=LH rfl;generalize fullP (.mk k z ws bs ks)=F at *
 generalize pathsT (.mk k z ws bs ks) most=RR at *
 have HKid:=LH hkid;have HIh:=LH ih;obtain ⟨nk,hnk⟩:∃n,n=ks.length:=⟨_,rfl⟩;rw[←hnk] at HKid HIh HDone HNext HSh hc3 ⊢;generalize ws.length=nw at *
 generalize bs.length=nb at *
 have HNk:=LH (And.intro hc3 hm3);have HNb:=LH hnb;have HW1:=LH hw1;unfold cellsT;obtain ⟨W1,hW1⟩:∃W1,W1=w.alloc (.cells #[.int .i64 k,.int .i64 z,.slice A1 nw c1,.slice A2 nb c2,.slice A3 nk c3] 34):=⟨_,rfl⟩;have hB1:Below w.heap.size w W1:=by rw[hW1];exact (Below.refl _ _).alloc (Nat.le_refl _) _
 have HT1:Hid (TBox W1 w.heap.size k z (.slice A1 nw c1) (.slice A2 nb c2) (.slice A3 nk c3)):=LH (by rw[hW1];exact TBox.new _ _ _ _ _ _);have HB1:=LH hB1;clear h hkid ih hnk hg hc3 hm3 hB1 hf hh hnwb hw1 hnb;go_enter Tryz.func26,Tryz.ntmps26;go_upto_region 1 with fail
 rw[←hW1];clear hW1
 go_cut [1] (fun x wx=>x= .int .i64 (min most 10000)∧W1=wx)
 case first =>
  by_cases hm:most≤10000
  ·have HE:Hid (min most 10000=most):=LH (by omega)
   go_wp2_with fail
   go_meet;exact ⟨by rw[HE.out],rfl⟩
  ·have HE:Hid (min most 10000=10000):=LH (by omega)
   go_wp2_with fail
   go_meet;exact ⟨by rw[HE.out],rfl⟩
 case rest =>
  obtain ⟨rfl,rfl⟩:=hcut;have HMm:Hid (min most 10000≤10000):=LH (by omega);generalize min most 10000=mm at *
  by_cases hm1:mm<1
  ·have he:RR=[]:=by rw[HPo.out,show mm.toNat=0 by omega,List.take_zero]
   go_wp2_with fail
   go_ret;exact ⟨_,rfl,by rw[he];exact PRow.nil _ _ _,HB1.out⟩
  ·obtain ⟨M,rfl⟩:∃M:Nat,mm=M:=⟨mm.toNat,by omega⟩
   have hM1:1≤M:=by omega
   have hM2:M≤10000:=by have:=HMm.out;omega
   have HM:=LH (And.intro hM1 hM2);have HRR:Hid (RR=F.take M):=LH (by rw[HPo.out,Int.toNat_natCast]);have HP2:=LH (PRow.one W1 W1.heap.size (Nat.le_refl _));obtain ⟨W2,hW2⟩:∃W2,W2=W1.alloc (.cells #[.slice none 0 0,.int .i64 (-1)] 47):=⟨_,rfl⟩;have HB2:Hid (Below W1.heap.size W1 W2):=LH (by rw[hW2];exact (Below.refl _ _).alloc (Nat.le_refl _) _);rw[←hW2] at HP2;clear HPo HMm hM1;go_upto_region 5 with fail
   rw[←hW2];clear hW2
   go_wp2_with fail
   clear hm1 hM2
   go_loopw [5,6] (fun o i wr=>∃q:Nat,i= .int .i64 q∧q≤nwb∧1+q≤M∧PRow wr (fun b=>W1.heap.size≤b∧b<wr.heap.size) W1.heap.size o ((headQ nwb).take (1+q))∧Below W1.heap.size W1 wr) (fun _ i _=>nwb - (intOf i).toNat)
   case atStart=>exact ⟨0,rfl,by omega,HM.out.1,HP2.out,HB2.out⟩
   case round =>
    obtain ⟨q,rfl,hq,hqM,hr,hBr⟩:=hrel;generalize wr=wa at *
    have hl:((headQ nwb).take (1+q)).length=1+q:=by rw[List.length_take,headQ_len];omega
    obtain ⟨A,c,rfl⟩:=hr.form;obtain ⟨n1,hn1⟩:∃n,n=1+q:=⟨_,rfl⟩;rw[hl,←hn1] at hr ⊢;rw[←hn1] at hqM hl;have HR:=LH hr;have HBr:=LH hBr;have HN1:=LH (And.intro hn1 hl);have HQ:=LH (And.intro hq hqM);obtain ⟨C,hC⟩:∃C,C=decide (q<nwb∧n1<M):=⟨_,rfl⟩;have HC:=LH hC;have hw1:=HW1.out;obtain ⟨d0,d1,d2,d3,d4⟩:=(HT1.out.on hBr).cells;clear hr hBr hn1 hl hC hq hqM;go_upto_region 6 with fail
    go_cut [30] (fun x wx=>x= .bool C∧wa=wx)
    case first =>
     by_cases e1:q<nwb
     ·have i1:(q:Int)<(nwb:Int):=by omega
      by_cases e2:n1<M
      ·have i2:(n1:Int)<(M:Int):=by omega
       have hCt:C=true:=by rw[HC.out];exact decide_eq_true ⟨e1,e2⟩
       go_wp2_with fail
       go_meet;exact ⟨by rw[hCt],rfl⟩
      ·have i2:¬(n1:Int)<(M:Int):=by omega
       have hCt:C=false:=by rw[HC.out];exact decide_eq_false (fun e=>e2 e.2)
       go_wp2_with fail
       go_meet;exact ⟨by rw[hCt],rfl⟩
     ·have i1:¬(q:Int)<(nwb:Int):=by omega
      have hCt:C=false:=by rw[HC.out];exact decide_eq_false (fun e=>e1 e.1)
      go_wp2_with fail
      go_meet;exact ⟨by rw[hCt],rfl⟩
    case rest =>
     obtain ⟨rfl,rfl⟩:=hcut;clear d0 d1 d2 d3 d4 hw1
     by_cases hc:q<nwb∧n1<M
     ·obtain rfl:C=true:=by rw[HC.out];exact decide_eq_true hc
      obtain ⟨A',c',w',hrun,hr',hB'⟩:=path_more wa W1.heap.size 62 _ _ (q:Int) HR.out (by have h1:=HN1.out.2;have h2:=HQ.out.2;have h3:=HM.out.2;omega) HBr.out.size;rw[HN1.out.2] at hrun hr';have HRun:=LH hrun;have HR':Hid (PRow w' (fun b=>W1.heap.size≤b∧b<w'.heap.size) W1.heap.size (.slice A' (n1+1) c') ((headQ nwb).take (1+(q+1)))):=LH (by
       rw[show 1+(q+1)=1+q+1 by omega,headQ_take hc.1,←HN1.out.1]
       exact hr')
      have HB':=LH (HBr.out.trans hB');have HQ2:Hid (q+1≤nwb∧1+(q+1)≤M):=LH (by have:=HN1.out.1;omega);have hnb:=HNb.out;have hlt:=hc.1;clear hrun hr' hB' hc
      go_wp2_with (at_builtin;refine Lib.wpList_append_run _ rfl _ _ _ _ rfl _ _ rfl rfl _ _ HRun.out ?_)
      go_roundw
      case rel=>exact ⟨q+1,by go_num,HQ2.out.1,HQ2.out.2,HR'.out,HB'.out⟩
      case measure=>simp[intOf];omega
     ·obtain rfl:C=false:=by rw[HC.out];exact decide_eq_false hc
      have HR0:Hid (PRow wa (fun b=>W1.heap.size≤b∧b<wa.heap.size) W1.heap.size (.slice A n1 c) ((XP nwb ks 0).take M)):=LH (by
       rw[XP_zero,←head_done HQ.out.1 (by have:=HQ.out.2;have:=HN1.out.1;omega) (by rw[←HN1.out.1];exact hc),←HN1.out.1];exact HR.out)
      clear hc HR HC
      go_wp2_with fail
      go_loopw [5,7] (fun o i wr=>∃q:Nat,i= .int .i64 q∧q≤nk∧PRow wr (fun b=>W1.heap.size≤b∧b<wr.heap.size) W1.heap.size o ((XP nwb ks q).take M)∧Below W1.heap.size W1 wr) (fun _ i _=>nk - (intOf i).toNat)
      case atStart=>exact ⟨0,rfl,by omega,HR0.out,HBr.out⟩
      case round =>
       obtain ⟨q,rfl,hq,hr,hBr⟩:=hrel;generalize wr=wb at *
       obtain ⟨pre,hpre⟩:∃pre,pre=(XP nwb ks q).take M:=⟨_,rfl⟩;have HDn:=LH (HDone.out q M hq);have HNx:=LH (fun h=>HNext.out q M h HM.out.2)
       have hpl:pre.length≤M:=by rw[hpre,List.length_take];omega
       rw[←hpre] at hr HDn HNx;obtain ⟨A8,c8,rfl⟩:=hr.form;obtain ⟨np,hnp⟩:∃n,n=pre.length:=⟨_,rfl⟩;rw[←hnp] at hr hpl HDn HNx ⊢;have HR2:=LH hr;have HBr2:=LH hBr;have HNp:=LH (And.intro hnp (And.intro hpl hq));obtain ⟨C,hC⟩:∃C,C=decide (q<nk∧np<M):=⟨_,rfl⟩;have HC2:=LH hC;obtain ⟨d0,d1,d2,d3,d4⟩:=(HT1.out.on hBr).cells;clear hr hBr hpre hnp hpl hq hC;go_upto_region 10 with fail
       go_cut [48] (fun x wx=>x= .bool C∧wb=wx)
       case first =>
        by_cases e1:q<nk
        ·have i1:(q:Int)<(nk:Int):=by omega
         by_cases e2:np<M
         ·have i2:(np:Int)<(M:Int):=by omega
          have hCt:C=true:=by rw[HC2.out];exact decide_eq_true ⟨e1,e2⟩
          go_wp2_with fail
          go_meet;exact ⟨by rw[hCt],rfl⟩
         ·have i2:¬(np:Int)<(M:Int):=by omega
          have hCt:C=false:=by rw[HC2.out];exact decide_eq_false (fun e=>e2 e.2)
          go_wp2_with fail
          go_meet;exact ⟨by rw[hCt],rfl⟩
        ·have i1:¬(q:Int)<(nk:Int):=by omega
         have hCt:C=false:=by rw[HC2.out];exact decide_eq_false (fun e=>e1 e.1)
         go_wp2_with fail
         go_meet;exact ⟨by rw[hCt],rfl⟩
       case rest =>
        obtain ⟨rfl,rfl⟩:=hcut
        by_cases hc:q<nk∧np<M
        ·obtain rfl:C=true:=by rw[HC2.out];exact decide_eq_true hc
         have hkb:=HNk.out;have i1:(q:Int)<(nk:Int):=by omega
         obtain ⟨b,off,rfl,hb,hkj⟩:=HKid.out (by omega);obtain ⟨k',z',vw,vb,vk,e0,e1,e2,e3,e4,hTk⟩:=hkj q hc.1;obtain ⟨A4,n4,c4,A5,n5,c5,A6,n6,c6,rfl,rfl,rfl⟩:=hTk.three;have hBw:=HB1.out.trans (HBr2.out.mono HB1.out.size);have p0:=(hBw.cell (p:=⟨b,off+q*5,none⟩) hb).trans e0;have p1:=(hBw.cell (p:=⟨b,off+q*5+1,none⟩) hb).trans e1;have p2:=(hBw.cell (p:=⟨b,off+q*5+2,none⟩) hb).trans e2;have p3:=(hBw.cell (p:=⟨b,off+q*5+3,none⟩) hb).trans e3;have p4:=(hBw.cell (p:=⟨b,off+q*5+4,none⟩) hb).trans e4;have hcall:=HIh.out q hc.1 _ wb ((M:Int) - np) (hTk.on hBw);have HShq:=LH (HSh.out q hc.1 ((M:Int) - np));have hnext:=HNx.out hc.1 hc.2;obtain ⟨L,hL⟩:∃L,L=pathsT (ks[q]?.getD Tr.nil) ((M:Int) - np):=⟨_,rfl⟩;have hLm:L.length≤10000:=by rw[hL];exact pathsT_most _ _
         rw[←hL] at hcall HShq hnext;have HNext2:=LH hnext;unfold PthR at hcall;unfold cellsT at hcall;have HCall:=LH hcall;have w2:IntKind.i64.wrap ((M:Int) - np)=(M:Int) - np:=IntWalk.i64_in _ (by have:=HM.out;omega);have HLm:=LH hLm;clear e0 e1 e2 e3 e4 hkj hTk hcall hL hBw hnext hLm
         go_wp2_with fail
         refine HCall.out.mono ?_
         rintro e w3 ⟨lv,rfl,hl3,hB3⟩;obtain ⟨Al,cl,rfl⟩:=hl3.form;obtain ⟨n3,hn3⟩:∃n,n=L.length:=⟨_,rfl⟩;rw[←hn3] at hl3 ⊢;have HL3:=LH hl3;have HN3:=LH hn3;have hs3:=hB3.size;have HI0:Hid (PRow w3 (fun b=>(W1.heap.size≤b∧b<w3.heap.size)∧¬(wb.heap.size≤b∧b<w3.heap.size)) W1.heap.size (.slice A8 np c8) (pre ++ (L.take 0).map (behindP q))∧Below W1.heap.size W1 w3):=LH (by
          rw[List.take_zero,List.map_nil,List.append_nil];exact ⟨(HR2.out.keep (fun b hb=>hB3.block b hb.2)).mono (fun b hb=>by omega),HBr2.out.trans (hB3.mono HBr2.out.size)⟩)
         clear hl3 hn3 hB3 hs3 p0 p1 p2 p3 p4 d0 d1 d2 d3 d4 w2 i1
         go_wp2_with fail
         go_loopw [5,9] (fun o i wr=>∃j:Nat,i= .int .i64 j∧j≤n3∧PRow wr (fun b=>(W1.heap.size≤b∧b<wr.heap.size)∧¬(wb.heap.size≤b∧b<w3.heap.size)) W1.heap.size o (pre ++ (L.take j).map (behindP q))∧(∀b,wb.heap.size≤b→b<w3.heap.size→wr.heap[b]? = w3.heap[b]?)∧Below W1.heap.size W1 wr∧w3.heap.size≤wr.heap.size) (fun _ i _=>n3 - (intOf i).toNat)
         case atStart=>exact ⟨0,rfl,by omega,HI0.out.1,fun b _ _=>rfl,HI0.out.2,Nat.le_refl _⟩
         case round =>
          obtain ⟨j,rfl,hj,hr5,hsame,hB5,hsz⟩:=hrel;generalize wr=w5 at *
          obtain ⟨A9,c9,rfl⟩:=hr5.form;obtain ⟨n9,hn9⟩:∃n,n=(pre ++ (L.take j).map (behindP q)).length:=⟨_,rfl⟩;rw[←hn9] at hr5 ⊢;have hn9b:n9≤20000:=by
           have h1:=HNp.out;have h2:=HM.out;have h3:=HLm.out;rw[hn9,List.length_append,List.length_map,List.length_take]
           omega
          have HR5:=LH hr5;have HN9:=LH (And.intro hn9 hn9b);have HS5:=LH hsame;have HB5:=LH (And.intro hB5 hsz);have hlb:=HLm.out;rw[←HN3.out] at hlb;clear hr5 hn9 hn9b hsame hB5 hsz
          by_cases hlt3:j<n3
          ·have i3:(j:Int)<(n3:Int):=by omega
           have hjL:j<L.length:=by rw[←HN3.out];exact hlt3
           obtain ⟨g,cg,A10,c10,eg,p0,p1,hnum⟩:=(HL3.out.keep (fun b hb=>HS5.out b hb.1 hb.2)).read (fun b hb=>Nat.lt_of_lt_of_le hb.2 HB5.out.2) j hjL
           rw[←HN3.out] at eg
           injection eg with eg1 eg2 eg3
           subst eg1;have hx1:L[j].1.length≤1000:=HShq.out _ (List.getElem_mem hjL);have htk:(L.take (j+1)).map (behindP q)=(L.take j).map (behindP q) ++ [((q:Int) :: L[j].1,L[j].2)]:=by
            rw[List.take_add_one,List.getElem?_eq_getElem hjL,List.map_append]
            rfl
           have HTk:=LH htk;generalize L[j]=x at *
           obtain ⟨ps,ax⟩:=x;dsimp only at p0 p1 hnum hx1 HTk;have HBe:=LH (behind10_any (q:Int) ax A10 ps.length c10 ps w5 hnum rfl hx1);clear hnum htk hx1 eg2 eg3 hjL
           go_wp2_with fail
           refine HBe.out.mono ?_
           rintro e w6 ⟨A7,c7,rfl,hn6,hB6⟩;obtain ⟨A11,c11,w7,hrun,hr7,hB7,hs7,hsm7⟩:=path_behind w5 w6 W1.heap.size wb.heap.size w3.heap.size 62 _ _ ((q:Int) :: ps,ax) A7 c7 HR5.out hB6 hn6 (by have:=HN9.out;omega) HB5.out.1.size HB5.out.2;rw[←HN9.out.1] at hrun hr7;simp only[List.length_cons] at hrun;have HRun:=LH hrun;have HE:Hid (PRow w7 (fun b=>(W1.heap.size≤b∧b<w7.heap.size)∧¬(wb.heap.size≤b∧b<w3.heap.size)) W1.heap.size (.slice A11 (n9+1) c11) (pre ++ (L.take (j+1)).map (behindP q))∧(∀b,wb.heap.size≤b→b<w3.heap.size→w7.heap[b]? = w3.heap[b]?)∧Below W1.heap.size W1 w7∧w3.heap.size≤w7.heap.size):=LH (by
            rw[HTk.out,←List.append_assoc];exact ⟨hr7,fun b h1 h2=>(hsm7 b h1 h2).trans (HS5.out b h1 h2),HB5.out.1.trans hB7,Nat.le_trans HB5.out.2 hs7⟩)
           clear hrun hr7 hB7 hs7 hsm7 hn6 hB6 p0 p1
           go_wp2_with (at_builtin;refine Lib.wpList_append_run _ rfl _ _ _ _ rfl _ _ rfl rfl _ _ HRun.out ?_)
           go_roundw
           case rel=>exact ⟨j+1,by go_num,by omega,HE.out⟩
           case measure=>simp[intOf];omega
          ·obtain rfl:j=n3:=by omega
           have i3:¬(j:Int)<(j:Int):=by omega
           have HE:Hid (PRow w5 (fun b=>W1.heap.size≤b∧b<w5.heap.size) W1.heap.size (.slice A9 n9 c9) ((XP nwb ks (q+1)).take M)∧Below W1.heap.size W1 w5):=LH (by
            rw[HNext2.out];have:=HR5.out;rw[HN3.out,List.take_length] at this;exact ⟨this.mono (fun b hb=>hb.1),HB5.out.1⟩)
           go_wp2_with fail
           go_roundw
           case rel=>exact ⟨q+1,by go_num,by omega,HE.out.1,HE.out.2⟩
           case measure=>simp[intOf];omega
        ·obtain rfl:C=false:=by rw[HC2.out];exact decide_eq_false hc
         have HE:Hid (PRow wb (fun b=>w.heap.size≤b∧b<wb.heap.size) w.heap.size (.slice A8 np c8) RR∧Below w.heap.size w wb):=LH (by
          rw[HRR.out,←HDn.out hc];exact ⟨(HR2.out.base HB1.out.size).mono (fun b hb=>⟨Nat.le_trans HB1.out.size hb.1,hb.2⟩),HB1.out.trans (HBr2.out.mono HB1.out.size)⟩)
         clear hc
         go_wp2_with fail
         go_ret;exact ⟨_,rfl,HE.out⟩
theorem rpaths_all:(n:Nat)→(t:Tr)→highT t≤n→n≤900→FineT t→∀v w most,TrV w w.heap.size t v→Calls Tryz.prog 26 #[v,.int .i64 most] w (PthR (pathsT t most) w)
 | n,.mk k z ws bs ks,hh,hn,hf,v,w,most,h=>by
  unfold highT at hh;unfold FineT at hf;refine rpaths_step k z ws bs ks hf.1 (by omega) (fun j hj=> ?_) v w most h
  have hj2:=high_kid ks j hj
  match n,hh,hn with
  | 0,hh,_=>omega
  | n+1,hh,hn=>exact fun v w most h=>rpaths_all n _ (by omega) (by omega) (fineAll_at ks hf.2 j) v w most h
theorem rpaths10_any (t:Tr) (v:Value) (most:Int) (w:World) (h:TrV w w.heap.size t v) (hf:FineT t) (hh:highT t≤900):Calls Tryz.prog 26 #[v,.int .i64 most] w (PthR (pathsT t most) w) :=
 rpaths_all (highT t) t (Nat.le_refl _) hh hf v w most h
end Go.Proofs.YtmmlfnblodfjbaaGreatDoor
