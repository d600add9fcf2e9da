/- Plain facts for layer 10 (tree): arenas as trees, what paths lead to in trees, what they cost. No program is named here. -/
import Derived.Test.YtmmlfnblodfjbaaGreatDoorQRdPlain
import Derived.Test.YtmmlfnblodfjbaaGreatDoorQPlain
namespace Go.Proofs.YtmmlfnblodfjbaaGreatDoor
def nWords (o:Ob):Nat:=if o.kind=2∧o.size=5 then o.count.toNat else o.data.toNat
def nBytes (o:Ob):Nat:=if o.size=2 then o.count.toNat else 0
def nKids (o:Ob):Nat:=if o.kind=2∧o.size=6 then o.count.toNat else o.ptrs.toNat
def kidsA (o:Ob):Int:=if o.kind=1 then o.at_+o.data else o.at_
def wordsF (s:Sr) (o:Ob):List Int:=(List.range (nWords o)).map (fun (i:Nat)=>s.wd o.seg (o.at_+(i:Int)))
def bytesF (s:Sr) (o:Ob):List Int:=(List.range (nBytes o)).map (fun (i:Nat)=>s.wd o.seg (o.at_+((i / 8:Nat):Int)) / 2 ^ (8*(i % 8)) % 256)
structure Dn where
 err:Int
 paid:Int
 t:Tr
def decKids (f:Int→Int→Int→Dn):Nat→Int→Int→Int→Int × Int × List Tr
 | 0,_,_,paid=>(0,paid,[])
 | n+1,g,a,paid =>
  if (f g a paid).err≠0 then ((f g a paid).err,(f g a paid).paid,[])
  else ((decKids f n g (a+1) (f g a paid).paid).1,(decKids f n g (a+1) (f g a paid).paid).2.1,(f g a paid).t :: (decKids f n g (a+1) (f g a paid).paid).2.2)
def decN (s:Sr):Nat→Int→Int→Int→Dn
 | 0,g,a,paid =>
  if (followO s g a).2≠0 then ⟨(followO s g a).2,paid,Tr.nil⟩
  else if (followO s g a).1.kind≠0 then ⟨21,paid,Tr.nil⟩
  else if 8192<paid+(1+wordsO (followO s g a).1) then ⟨22,paid,Tr.nil⟩
  else ⟨0,paid+(1+wordsO (followO s g a).1),Tr.nil⟩
 | d+1,g,a,paid =>
  if (followO s g a).2≠0 then ⟨(followO s g a).2,paid,Tr.nil⟩
  else if 8192<paid+(1+wordsO (followO s g a).1) then ⟨22,paid,Tr.nil⟩
  else if (followO s g a).1.kind=0 then ⟨0,paid+(1+wordsO (followO s g a).1),Tr.nil⟩
  else if (decKids (decN s d) (nKids (followO s g a).1) (followO s g a).1.seg (kidsA (followO s g a).1) (paid+(1+wordsO (followO s g a).1))).1≠0 then ⟨(decKids (decN s d) (nKids (followO s g a).1) (followO s g a).1.seg (kidsA (followO s g a).1) (paid+(1+wordsO (followO s g a).1))).1,paid,Tr.nil⟩
  else ⟨0,(decKids (decN s d) (nKids (followO s g a).1) (followO s g a).1.seg (kidsA (followO s g a).1) (paid+(1+wordsO (followO s g a).1))).2.1,.mk (followO s g a).1.kind (followO s g a).1.size (wordsF s (followO s g a).1) (bytesF s (followO s g a).1) (decKids (decN s d) (nKids (followO s g a).1) (followO s g a).1.seg (kidsA (followO s g a).1) (paid+(1+wordsO (followO s g a).1))).2.2⟩
def decodeT (ls:List (List Int)):Tr × Int :=
 if fitsL (sizesL ls)=true then (if (decN (srA ls) 32 0 0 0).err≠0 then (Tr.nil,(decN (srA ls) 32 0 0 0).err) else ((decN (srA ls) 32 0 0 0).t,0)) else (Tr.nil,1)
theorem has_word {F:List (List Int)} {s i:Nat} {x:Int} (h:Has F s i x):(srA F).wd s i=x∧(srA F).we s i=0:=by
 obtain ⟨h1,h2⟩:=h.lt;obtain ⟨w1,w2⟩:=word9_at h1 h2;refine ⟨w1.trans ?_,w2⟩;unfold Has at h;rw[h]
 rfl
mutual
def ReadsT (F:List (List Int)):Tr→Nat→Nat→Prop
 | .mk k z w b ks,s,i=>(k=0∧followO (srA F) s i=(Ob.zero,0))∨(k≠0∧∃g p:Nat,followO (srA F) s i=(thingO (nearP (.mk k z w b ks) 0) g p,0)∧(∀j,j<(w ++ wordsB b).length→Has F g (p+j) ((w ++ wordsB b)[j]?.getD 0))∧ReadsAll F ks g (p+(w ++ wordsB b).length))
def ReadsAll (F:List (List Int)):List Tr→Nat→Nat→Prop
 | [],_,_=>True
 | t :: r,g,q=>ReadsT F t g q∧ReadsAll F r g (q+1)
end
mutual
def totalT:Tr→Nat
 | .mk k z w b ks=>1+needT (.mk k z w b ks)+totalAll9 ks
def totalAll9:List Tr→Nat
 | []=>0
 | t :: r=>totalT t+totalAll9 r
end
theorem one_parts {k z:Int} {w b:List Int} {ks:List Tr} {left:Nat} (h:deepB (.mk k z w b ks) left=true) (hk:k≠0) :
  (k=1∧z=0∧b=[]∧w.length≤100∧ks.length≤100)∨(k=2∧z=2∧w=[]∧ks=[]∧b.length≤4096)∨(k=2∧z=5∧b=[]∧ks=[]∧w.length≤4096)∨(k=2∧z=6∧b=[]∧w=[]∧ks.length≤4096):=by
 have hn:∀{α : Type} {l:List α},l.length=0→l=[]:=fun h=>List.eq_nil_of_length_eq_zero h
 unfold deepB at h;rw[if_neg hk] at h;simp only[Bool.and_eq_true] at h;have h1:=h.1;unfold oneB at h1
 split at h1
 ·rename_i e
  rcases of_decide_eq_true h1 with ⟨a,b',c,d⟩ | ⟨a,b',c,d⟩ | ⟨a,b',c,d⟩
  ·exact .inr (.inl ⟨e,a,hn b',hn c,d⟩)
  ·exact .inr (.inr (.inl ⟨e,a,hn b',hn c,d⟩))
  ·exact .inr (.inr (.inr ⟨e,a,hn b',hn c,d⟩))
 ·obtain ⟨a,b',c,d,e⟩:=of_decide_eq_true h1;exact .inl ⟨a,b',hn d,c,e⟩
theorem thing_counts {k z:Int} {w b:List Int} {ks:List Tr} {left:Nat} (h:deepB (.mk k z w b ks) left=true) (hk:k≠0) (g p:Nat) :
  (thingO (nearP (.mk k z w b ks) 0) g p).kind=k∧(thingO (nearP (.mk k z w b ks) 0) g p).size=z∧(thingO (nearP (.mk k z w b ks) 0) g p).seg=g∧(thingO (nearP (.mk k z w b ks) 0) g p).at_=p ∧
  nWords (thingO (nearP (.mk k z w b ks) 0) g p)=w.length∧nBytes (thingO (nearP (.mk k z w b ks) 0) g p)=b.length∧nKids (thingO (nearP (.mk k z w b ks) 0) g p)=ks.length∧wordsO (thingO (nearP (.mk k z w b ks) 0) g p)=needT (.mk k z w b ks)∧(ks≠[]→kidsA (thingO (nearP (.mk k z w b ks) 0) g p)=p+(w ++ wordsB b).length):=by
 have hwb:(wordsB ([]:List Int))=[]:=rfl
 rcases one_parts h hk with ⟨rfl,rfl,rfl,h4,h5⟩ | ⟨rfl,rfl,rfl,rfl,h4⟩ | ⟨rfl,rfl,rfl,rfl,h4⟩ | ⟨rfl,rfl,rfl,rfl,h4⟩
 ·simp[nearP,thingO,nWords,nBytes,nKids,kidsA,wordsO,wordN,ptrO,needT,Tr.kind,Tr.words,Tr.kids,hwb]
 ·simp[nearP,thingO,nWords,nBytes,nKids,wordsO,wordN,ptrO,needT,Tr.kind,Tr.words,Tr.kids,Tr.bytes,Tr.size]
 ·simp[nearP,thingO,nWords,nBytes,nKids,wordsO,wordN,ptrO,needT,Tr.kind,Tr.words,Tr.kids,Tr.bytes,Tr.size]
 ·simp[nearP,thingO,nWords,nBytes,nKids,kidsA,wordsO,wordN,ptrO,needT,Tr.kind,Tr.words,Tr.kids,Tr.bytes,Tr.size,hwb]
theorem map_range {l:List Int} {f:Nat→Int} {n:Nat} (hn:n=l.length) (h:∀j,j<l.length→f j=l[j]?.getD 0):(List.range n).map f=l:=by
 subst hn
 apply List.ext_getElem?
 intro j
 by_cases hj:j<l.length
 ·rw[List.getElem?_map,List.getElem?_range hj,List.getElem?_eq_getElem hj];have:=h j hj;rw[List.getElem?_eq_getElem hj] at this
  simpa using this
 ·rw[List.getElem?_map,List.getElem?_eq_none (by simpa using hj),List.getElem?_eq_none (by omega)]
  rfl
theorem words_back {F:List (List Int)} {k z:Int} {w b:List Int} {ks:List Tr} {left:Nat} (h:deepB (.mk k z w b ks) left=true) (hk:k≠0) (hb:∀x∈b,0≤x∧x≤255) {g p:Nat} (hc:∀j,j<(w ++ wordsB b).length→Has F g (p+j) ((w ++ wordsB b)[j]?.getD 0)) :
  wordsF (srA F) (thingO (nearP (.mk k z w b ks) 0) g p)=w∧bytesF (srA F) (thingO (nearP (.mk k z w b ks) 0) g p)=b:=by
 obtain ⟨c1,c2,c3,c4,c5,c6,-⟩:=thing_counts h hk g p;unfold wordsF bytesF;rw[c3,c4,c5,c6]
 constructor
 ·refine map_range rfl (fun j hj=> ?_)
  have hh:=hc j (by rw[List.length_append];omega);rw[List.getElem?_append_left hj] at hh;rw[show (p:Int)+(j:Int)=((p+j:Nat):Int) by omega]
  exact (has_word hh).1
 ·refine map_range rfl (fun j hj=> ?_)
  have hw:w=[]:=by
   rcases one_parts h hk with ⟨_,_,e,_⟩ | ⟨_,_,e,_⟩ | ⟨_,_,e,_⟩ | ⟨_,_,_,e,_⟩
   ·rw[e] at hj;simp at hj
   ·exact e
   ·rw[e] at hj;simp at hj
   ·exact e
  subst hw;have hl:(wordsB b).length=(b.length+7) / 8:=by simp[wordsB]
  have hh:=hc (j / 8) (by rw[List.nil_append,hl];omega);rw[List.nil_append] at hh;rw[show (p:Int)+((j / 8:Nat):Int)=((p+j / 8:Nat):Int) by omega,(has_word hh).1]
  exact wordsB_byte hb hj
mutual
def BytesT:Tr→Prop
 | .mk _ _ _ b ks=>(∀x∈b,0≤x∧x≤255)∧BytesAll ks
def BytesAll:List Tr→Prop
 | []=>True
 | t :: r=>BytesT t∧BytesAll r
end
mutual
theorem dec_reads {F:List (List Int)}:(t:Tr)→(left s i:Nat)→(paid:Int)→deepB t left=true→BytesT t→ReadsT F t s i→paid+totalT t≤8192→decN (srA F) left s i paid=⟨0,paid+totalT t,t⟩
 | .mk k z w b ks,left,s,i,paid,hd,hb,hr,hp=>by
  unfold BytesT at hb;obtain ⟨hb1,hb2⟩:=hb;unfold ReadsT at hr
  rcases hr with ⟨rfl,hf⟩ | ⟨hk,g,p,hf,hc,hks⟩
  ·have hnil:Tr.mk 0 z w b ks=Tr.nil:=by
    unfold deepB at hd;rw[if_pos rfl] at hd;obtain ⟨rfl,h0⟩:=of_decide_eq_true hd;have e1:w=[]:=List.eq_nil_of_length_eq_zero (by omega);have e2:b=[]:=List.eq_nil_of_length_eq_zero (by omega);have e3:ks=[]:=List.eq_nil_of_length_eq_zero (by omega);rw[e1,e2,e3]
    rfl
   rw[hnil] at hp ⊢;have ht:totalT Tr.nil=1:=rfl;rw[ht] at hp ⊢;have hw:wordsO Ob.zero=0:=rfl;cases left with
   | zero =>
    unfold decN;rw[hf,if_neg (by simp),if_neg (by simp[Ob.zero]),hw,if_neg (by omega)]
    rfl
   | succ d =>
    unfold decN;rw[hf,if_neg (by simp),hw,if_neg (by omega),if_pos (show (Ob.zero,(0:Int)).1.kind=0 from rfl)]
    rfl
  ·obtain ⟨c1,c2,c3,c4,c5,c6,c7,c8,c9⟩:=thing_counts hd hk g p;obtain ⟨w1,w2⟩:=words_back hd hk hb1 hc;obtain ⟨d,rfl⟩:∃d,left=d+1:=by
    unfold deepB at hd;rw[if_neg hk] at hd;simp only[Bool.and_eq_true,decide_eq_true_eq] at hd;exact ⟨left - 1,by omega⟩
   have hdk:deepAll ks d=true:=by
    unfold deepB at hd;rw[if_neg hk] at hd;simp only[Bool.and_eq_true] at hd;exact hd.2.2
   unfold totalT at hp ⊢;have hkids:decKids (decN (srA F) d) ks.length g (kidsA (thingO (nearP (.mk k z w b ks) 0) g p)) (paid+(1+(needT (.mk k z w b ks):Int)))=(0,paid+(1+(needT (.mk k z w b ks):Int))+totalAll9 ks,ks):=by
    by_cases hk0:ks=[]
    ·subst hk0;unfold decKids totalAll9
     simp
    ·rw[c9 hk0,show (p:Int)+((w ++ wordsB b).length:Int)=((p+(w ++ wordsB b).length:Nat):Int) by omega]
     exact dec_readsAll ks d g _ _ hdk hb2 hks (by omega)
   unfold decN;rw[hf,if_neg (by simp),c8,if_neg (by omega),c1,if_neg hk,c7,c3,hkids,if_neg (by simp),c2,w1,w2];dsimp only;rw[show paid+(1+(needT (.mk k z w b ks):Int))+(totalAll9 ks:Int)=paid+((1+needT (.mk k z w b ks)+totalAll9 ks:Nat):Int) by omega]
theorem dec_readsAll {F:List (List Int)}:(l:List Tr)→(d g q:Nat)→(paid:Int)→deepAll l d=true→BytesAll l→ReadsAll F l g q→paid+totalAll9 l≤8192→decKids (decN (srA F) d) l.length g q paid=(0,paid+totalAll9 l,l)
 | [],d,g,q,paid,_,_,_,_=>by
  unfold decKids totalAll9
  simp
 | t :: r,d,g,q,paid,hd,hb,hr,hp=>by
  unfold deepAll at hd;simp only[Bool.and_eq_true] at hd;unfold BytesAll at hb;unfold ReadsAll at hr;unfold totalAll9 at hp ⊢;have h1:=dec_reads t d g q paid hd.1 hb.1 hr.1 (by omega);have h2:=dec_readsAll r d g (q+1) (paid+totalT t) hd.2 hb.2 hr.2 (by omega);rw[List.length_cons,decKids,h1,if_neg (by simp)];rw[show ((q:Int)+1)=((q+1:Nat):Int) by omega,h2]
  simp
  omega
end
def In (a:List (List Int)) (s i:Nat):Prop:=∃x,Has a s i x
theorem Has.here {a:List (List Int)} {s i:Nat} {x:Int} (h:Has a s i x) (w:Int):Has (setA a s i w) s i w:=by
 obtain ⟨h1,h2⟩:=h.lt;unfold Has setA;rw[List.getElem?_set_self h1,Option.getD_some,List.getElem?_set_self h2]
theorem In.set {a:List (List Int)} {s' i':Nat} (h:In a s' i') (s i:Nat) (w:Int):In (setA a s i w) s' i':=by
 obtain ⟨x,h⟩:=h
 by_cases e:s'=s∧i'=i
 ·obtain ⟨rfl,rfl⟩:=e;exact ⟨_,h.here w⟩
 ·exact ⟨x,h.set e w⟩
theorem In.point {sz:Nat} {t:Tr} {a:List (List Int)} {s' i':Nat} (h:In a s' i') (s i:Nat):In (pointA sz t a s i) s' i':=by
 unfold pointA
 split
 ·exact h.set _ _ _
 ·obtain ⟨x,h⟩:=h;obtain ⟨y,h2⟩:=In.set ⟨x,h.grow sz (needT t+1)⟩ s i (farW ((growA sz (needT t+1) a).length - 1) (lastL (growA sz (needT t+1) a)));exact ⟨y,h2.app _⟩
theorem In.laid {sz:Nat} {t:Tr} {a:List (List Int)} {s' i':Nat} (h:In a s' i') (s i:Nat):In (laidA sz t a s i) s' i':=by
 obtain ⟨x,h2⟩:=h.point (sz:=sz) (t:=t) s i;exact ⟨x,h2.app _⟩
mutual
theorem lay_in {sz:Nat}:(t:Tr)→(left:Nat)→deepB t left=true→(st:St)→(s i s' i':Nat)→s<st.a.length→In st.a s' i'→In (lay sz t st s i).a s' i'
 | .mk k z w b ks,left,hd,st,s,i,s',i',hs,h=>by
  obtain ⟨a,f⟩:=st;cases f with
  | true=>rw[lay_full s i rfl];exact h
  | false =>
   by_cases hk:k=0
   ·unfold lay;rw[if_pos (.inl hk)];exact h
   ·obtain ⟨hk2,hc,hks⟩:=need_one hd hk
    by_cases hn:needT (.mk k z w b ks)=0
    ·rw[lay_noth s i hk rfl hn];exact h.set _ _ _
    ·rw[lay_step hk hn hc hs];have h0:0<(pointA sz (.mk k z w b ks) a s i).length:=Nat.lt_of_lt_of_le (by exact Nat.lt_of_le_of_lt (Nat.zero_le _) hs) pointA_len;have hln:0<(laidA sz (.mk k z w b ks) a s i).length:=by unfold laidA;rw[appA_len];exact h0
     exact layAll_in ks (left - 1) (deepAll_of hd hk) ⟨laidA sz (.mk k z w b ks) a s i,fullA sz (laidA sz (.mk k z w b ks) a s i)⟩ _ _ s' i' (show (laidA sz (.mk k z w b ks) a s i).length - 1<(laidA sz (.mk k z w b ks) a s i).length by omega) (h.laid s i)
theorem layAll_in {sz:Nat}:(l:List Tr)→(left:Nat)→deepAll l left=true→(st:St)→(s p s' i':Nat)→s<st.a.length→In st.a s' i'→In (layAll sz l st s p).a s' i'
 | [],_,_,st,s,p,s',i',_,h=>by unfold layAll;exact h
 | t :: r,left,hd,st,s,p,s',i',hs,h=>by
  unfold deepAll at hd;simp only[Bool.and_eq_true] at hd;unfold layAll;exact layAll_in r left hd.2 _ s (p+1) s' i' (Nat.lt_of_lt_of_le hs (lay_more t st s p hs)) (lay_in t left hd.1 st s p s' i' hs h)
end
theorem near_in {k z:Int} {w b:List Int} {ks:List Tr} {left:Nat} (h:deepB (.mk k z w b ks) left=true) (hk:k≠0) {off:Int} (ho: -536870912≤off∧off<536870912) (hz:needT (.mk k z w b ks)=0→k=1→off≠0):OkP (nearP (.mk k z w b ks) off)∧NearK (nearP (.mk k z w b ks) off)∧wordE (nearP (.mk k z w b ks) off)=0:=by
 rcases one_parts h hk with ⟨rfl,rfl,rfl,h4,h5⟩ | ⟨rfl,rfl,rfl,rfl,h4⟩ | ⟨rfl,rfl,rfl,rfl,h4⟩ | ⟨rfl,rfl,rfl,rfl,h4⟩
 ·have e:nearP (.mk 1 0 w [] ks) off=⟨1,off,w.length,ks.length,0,0,0,false⟩:=rfl;have hn:needT (.mk 1 0 w [] ks)=w.length+ks.length:=rfl;rw[hn] at hz;rw[e];refine ⟨.inr (.inl ⟨rfl,ho,by dsimp only;omega,by dsimp only;omega,rfl,rfl,rfl,rfl,?_⟩),.inl rfl,rfl⟩
  dsimp only;intro hh;exact hz (by omega) rfl hh.1
 ·have e:nearP (.mk 2 2 [] b []) off=⟨2,off,0,0,2,b.length,0,false⟩:=by simp[nearP,Tr.kind,Tr.words,Tr.kids,Tr.bytes,Tr.size]
  rw[e];exact ⟨.inr (.inr (.inl ⟨rfl,ho,rfl,rfl,by dsimp only;omega,by dsimp only;omega,rfl,rfl⟩)),.inr rfl,rfl⟩
 ·have e:nearP (.mk 2 5 w [] []) off=⟨2,off,0,0,5,w.length,0,false⟩:=by simp[nearP,Tr.kind,Tr.words,Tr.kids,Tr.bytes,Tr.size]
  rw[e];exact ⟨.inr (.inr (.inl ⟨rfl,ho,rfl,rfl,by dsimp only;omega,by dsimp only;omega,rfl,rfl⟩)),.inr rfl,rfl⟩
 ·have e:nearP (.mk 2 6 [] [] ks) off=⟨2,off,0,0,6,ks.length,0,false⟩:=by simp[nearP,Tr.kind,Tr.words,Tr.kids,Tr.bytes,Tr.size]
  rw[e];exact ⟨.inr (.inr (.inl ⟨rfl,ho,rfl,rfl,by dsimp only;omega,by dsimp only;omega,rfl,rfl⟩)),.inr rfl,rfl⟩
theorem near_off (t:Tr) (off:Int):(nearP t off).off=off:=by unfold nearP;split <;> rfl
theorem near_thing (t:Tr) (off g a:Int):thingO (nearP t off) g a=thingO (nearP t 0) g a:=by unfold nearP;split <;> rfl
theorem near_wordE (t:Tr) (off:Int) (g a:Int):wordE (ptrO (thingO (nearP t off) g a))=wordE (nearP t off):=by
 unfold nearP wordE ptrO thingO
 split <;> rfl
theorem thing_found {F:List (List Int)} {k z:Int} {w b:List Int} {ks:List Tr} {left:Nat} (h:deepB (.mk k z w b ks) left=true) (hk:k≠0) {s i g p:Nat} (ht:targetO (srA F) s i=(thingO (nearP (.mk k z w b ks) 0) g p,0)) (hg:g<F.length) (hl:p+needT (.mk k z w b ks)≤(F[g]?.getD []).length):followO (srA F) s i=(thingO (nearP (.mk k z w b ks) 0) g p,0):=by
 obtain ⟨c1,-,c3,c4,-,-,-,c8,-⟩:=thing_counts h hk g p;have he:=(near_in h hk (off:= -1) (by omega) (by omega)).2.2;unfold followO;rw[ht];refine check_yes (by rw[c1];exact hk) (by rw[←near_thing _ (-1),near_wordE];exact he) ?_
 rw[c3,c4,c8];exact within9_yes hg (Int.natCast_nonneg _) (Int.natCast_nonneg _) (by omega)
theorem found_near {F:List (List Int)} {k z:Int} {w b:List Int} {ks:List Tr} {left:Nat} (h:deepB (.mk k z w b ks) left=true) (hk:k≠0) {s i p:Nat} {off:Int} (ho:(i:Int)+(off+1)=p) (hp:p≤1000000) (hi:i≤1000000) (hz:needT (.mk k z w b ks)=0→k=1→off≠0) (hh:Has F s i (nearW (.mk k z w b ks) off)) (hl:p+needT (.mk k z w b ks)≤(F[s]?.getD []).length):followO (srA F) s i=(thingO (nearP (.mk k z w b ks) 0) s p,0):=by
 obtain ⟨n1,n2,-⟩:=near_in h hk (off:=off) (by omega) hz;obtain ⟨w1,w2⟩:=has_word hh;refine thing_found h hk ?_ hh.lt.1 hl;rw[target_near w2 w1 n1 n2];unfold nearO;rw[near_at (by rw[near_off];omega) (by rw[near_off];omega),near_off,ho,near_thing]
theorem found_far {F:List (List Int)} {k z:Int} {w b:List Int} {ks:List Tr} {left:Nat} (h:deepB (.mk k z w b ks) left=true) (hk:k≠0) {s i g q:Nat} (hg:g≤1000000) (hq:q≤1000000) (hz:needT (.mk k z w b ks)≠0) (hh:Has F s i (farW g q)) (hn:Has F g q (nearW (.mk k z w b ks) 0)) (hl:q+1+needT (.mk k z w b ks)≤(F[g]?.getD []).length):followO (srA F) s i=(thingO (nearP (.mk k z w b ks) 0) g ((q+1:Nat):Int),0):=by
 obtain ⟨n1,n2,-⟩:=near_in h hk (off:=0) (by omega) (fun e=>absurd e hz)
 obtain ⟨w1,w2⟩:=has_word hh;obtain ⟨v1,v2⟩:=has_word hn;have hf:OkP ⟨3,q,0,0,0,0,g,false⟩:= .inr (.inr (.inr ⟨rfl,by dsimp only;omega,rfl,rfl,rfl,rfl,by dsimp only;omega⟩))
 obtain ⟨e1,e2⟩:=ptS_enc w2 w1 hf;obtain ⟨f1,f2⟩:=ptS_enc v2 v1 n1;refine thing_found h hk ?_ hn.lt.1 hl;have hld:landedO (srA F) ⟨3,q,0,0,0,0,g,false⟩=(nearO (nearP (.mk k z w b ks) 0) g q,0):=by
  have e3:landedO (srA F) ⟨3,q,0,0,0,0,g,false⟩=landed1 (srA F) ⟨3,q,0,0,0,0,g,false⟩:=rfl;rw[e3];unfold landed1;dsimp only;rw[f2,f1,if_neg (by simp),if_neg (by unfold NearK at n2;omega)]
 unfold targetO;rw[e2,e1,if_neg (by simp),if_neg (by simp),if_pos rfl,hld];unfold nearO;rw[near_at (by rw[near_off];omega) (by rw[near_off];omega),near_off]
 congr 2
theorem has_app_new {a:List (List Int)} (h:0<a.length) {l:List Int} {j:Nat} (hj:j<l.length):Has (appA a l) ((appA a l).length - 1) (lastL a+j) (l[j]?.getD 0):=by
 unfold Has;rw[appA_len,appA_last h,List.getElem?_append_right (by unfold lastL;omega),show lastL a+j - (a[a.length - 1]?.getD []).length=j by unfold lastL;omega,List.getElem?_eq_getElem hj]
 rfl
theorem full_not {sz:Nat} {a:List (List Int)} (h:fullA sz a=false):lastL a≤sz∧a.length≤16:=by
 unfold fullA at h;rw[decide_eq_false_iff_not] at h
 omega
mutual
theorem lay_reads {F:List (List Int)} {sz:Nat} (hsz:sz≤4096):(t:Tr)→(left:Nat)→deepB t left=true→(a:List (List Int))→(s i:Nat)→s<a.length→i≤4096→Has a s i 0→(lay sz t ⟨a,false⟩ s i).full=false →
  (∀s' i' x,Has (lay sz t ⟨a,false⟩ s i).a s' i' x→(¬In a s' i'∨(s'=s∧i'=i))→Has F s' i' x)→ReadsT F t s i
 | .mk k z w b ks,left,hd,a,s,i,hs,hi,h0,hfl,hF=>by
  unfold ReadsT
  by_cases hk:k=0
  ·subst hk;refine .inl ⟨rfl,?_⟩;have hl:lay sz (.mk 0 z w b ks) ⟨a,false⟩ s i=⟨a,false⟩:=by unfold lay;rw[if_pos (.inl rfl)]
   rw[hl] at hF;obtain ⟨w1,w2⟩:=has_word (hF s i 0 h0 (.inr ⟨rfl,rfl⟩));have e:ptS (srA F) s i=Pt.zero:=by unfold ptS;rw[w1];rfl
   have f:ptE (srA F) s i=0:=by unfold ptE;rw[w1,w2];decide
   unfold followO targetO;rw[e,f]
   rfl
  ·refine .inr ⟨hk,?_⟩;obtain ⟨hk2,hc,hks⟩:=need_one hd hk
   by_cases hn:needT (.mk k z w b ks)=0
   ·rw[lay_noth s i hk rfl hn] at hF;have hks0:ks=[]:=List.eq_nil_of_length_eq_zero (by omega);have hc0:w ++ wordsB b=[]:=by
     have:(contentT (.mk k z w b ks)).length=0:=by omega
     unfold contentT at this;rw[List.length_append] at this;exact List.eq_nil_of_length_eq_zero (by simp only[Tr.words,Tr.bytes] at this;omega)
    have hh:=hF s i _ (h0.here _) (.inr ⟨rfl,rfl⟩);have hlt:=hh.lt.2;subst hks0;clear hF hfl
    rcases hk2 with rfl | rfl
    ·rw[if_pos rfl] at hh;exact ⟨s,i,found_near hd hk (off:= -1) (by omega) (by omega) (by omega) (fun _ _=>by decide) hh (by omega),fun j hj=>by rw[hc0] at hj;simp at hj,by unfold ReadsAll;trivial⟩
    ·rw[if_neg (by decide)] at hh;exact ⟨s,i+1,found_near hd hk (off:=0) (by omega) (by omega) (by omega) (fun _ e=>absurd e (by decide)) hh (by omega),fun j hj=>by rw[hc0] at hj;simp at hj,by unfold ReadsAll;trivial⟩
   ·have hstep:=lay_step (sz:=sz) (s:=s) (i:=i) (a:=a) hk hn hc hs;rw[hstep] at hF hfl;have hp0:0<(pointA sz (.mk k z w b ks) a s i).length:=Nat.lt_of_lt_of_le (by omega) pointA_len;have hlast:lastL (laidA sz (.mk k z w b ks) a s i)=lastL (pointA sz (.mk k z w b ks) a s i)+needT (.mk k z w b ks):=by
     unfold laidA;rw[appA_lastL hp0,hc]
    have hll:(laidA sz (.mk k z w b ks) a s i).length=(pointA sz (.mk k z w b ks) a s i).length:=by unfold laidA;rw[appA_len]
    have hf1:fullA sz (laidA sz (.mk k z w b ks) a s i)=false:=by
     cases e:fullA sz (laidA sz (.mk k z w b ks) a s i) with
     | false=>rfl
     | true =>
      rw[e,layAll_full ks _ _ rfl] at hfl;cases hfl
    obtain ⟨b1,b2⟩:=full_not hf1;rw[hf1] at hF hfl;have hsl:(laidA sz (.mk k z w b ks) a s i).length - 1<(laidA sz (.mk k z w b ks) a s i).length:=by omega
    -- what stands behind the thing's laying stands at the end,but at its Kids' words
    have hkeep:∀s' i' x,Has (laidA sz (.mk k z w b ks) a s i) s' i' x→(∀j,j<ks.length→¬(s'=(laidA sz (.mk k z w b ks) a s i).length - 1∧i'=lastL (laidA sz (.mk k z w b ks) a s i) - ks.length+j))→(¬In a s' i'∨(s'=s∧i'=i))→Has F s' i' x:=fun s' i' x h1 h2 h3 =>
     hF s' i' x (layAll_has ks (left - 1) (deepAll_of hd hk) ⟨laidA sz (.mk k z w b ks) a s i,false⟩ _ _ s' i' x hsl h1 h2) h3
    have hnew:∀i',lastL (pointA sz (.mk k z w b ks) a s i)≤i'→¬In a ((laidA sz (.mk k z w b ks) a s i).length - 1) i':=fun i' hi' ⟨x,hx⟩=>by
     have:=Has.ahead (sz:=sz) (t:= .mk k z w b ks) (s:=s) (i:=i) hx rfl
     omega
    have hcont:∀j,j<(contentT (.mk k z w b ks)).length→Has (laidA sz (.mk k z w b ks) a s i) ((laidA sz (.mk k z w b ks) a s i).length - 1) (lastL (pointA sz (.mk k z w b ks) a s i)+j) ((contentT (.mk k z w b ks))[j]?.getD 0):=fun j hj=>has_app_new hp0 hj
    have hcl:(contentT (.mk k z w b ks)).length=(w ++ wordsB b).length+ks.length:=by simp[contentT,Tr.words,Tr.bytes,Tr.kids,Nat.add_assoc]
    have hcg:∀j,j<(w ++ wordsB b).length→(contentT (.mk k z w b ks))[j]?.getD 0=(w ++ wordsB b)[j]?.getD 0:=fun j hj=>by
     have:contentT (.mk k z w b ks)=(w ++ wordsB b) ++ List.replicate ks.length 0:=rfl;rw[this,List.getElem?_append_left hj]
    -- its own words
    have hown:∀j,j<(w ++ wordsB b).length→Has F ((laidA sz (.mk k z w b ks) a s i).length - 1) (lastL (pointA sz (.mk k z w b ks) a s i)+j) ((w ++ wordsB b)[j]?.getD 0):=fun j hj=>by
     rw[←hcg j hj];exact hkeep _ _ _ (hcont j (by omega)) (fun j' hj' e=>by omega) (.inl (hnew _ (by omega)))
    -- as many words as it needs
    have hroom:lastL (pointA sz (.mk k z w b ks) a s i)+needT (.mk k z w b ks)≤(F[(laidA sz (.mk k z w b ks) a s i).length - 1]?.getD []).length:=by
     have hin:In (laidA sz (.mk k z w b ks) a s i) ((laidA sz (.mk k z w b ks) a s i).length - 1) (lastL (pointA sz (.mk k z w b ks) a s i)+(needT (.mk k z w b ks) - 1)):=⟨_,hcont _ (by omega)⟩;obtain ⟨x,hx⟩:=layAll_in ks (left - 1) (deepAll_of hd hk) ⟨laidA sz (.mk k z w b ks) a s i,false⟩ ((laidA sz (.mk k z w b ks) a s i).length - 1) (lastL (laidA sz (.mk k z w b ks) a s i) - ks.length) _ _ hsl hin;have:=(hF _ _ x hx (.inl (hnew _ (by omega)))).lt.2
     omega
    -- its pointer
    have hptr:followO (srA F) s i=(thingO (nearP (.mk k z w b ks) 0) ((laidA sz (.mk k z w b ks) a s i).length - 1:Nat) (lastL (pointA sz (.mk k z w b ks) a s i):Nat),0):=by
     have hslot:∀j,j<ks.length→¬(s=(laidA sz (.mk k z w b ks) a s i).length - 1∧i=lastL (laidA sz (.mk k z w b ks) a s i) - ks.length+j):=fun j hj e=>by
      have:=hnew i (by omega);rw[←e.1] at this;exact this ⟨0,h0⟩
     by_cases hC:s=a.length - 1∧lastL a+needT (.mk k z w b ks)≤sz
     ·have hpt:pointA sz (.mk k z w b ks) a s i=setA a s i (nearW (.mk k z w b ks) ((lastL a:Int) - (i+1))):=by unfold pointA;rw[if_pos hC]
      have hP:lastL (pointA sz (.mk k z w b ks) a s i)=lastL a:=by rw[hpt,setA_lastL]
      have hL:(laidA sz (.mk k z w b ks) a s i).length - 1=s:=by rw[hll,hpt,setA_len];exact hC.1.symm
      have hh:=hkeep s i (nearW (.mk k z w b ks) ((lastL a:Int) - (i+1))) (by unfold laidA;rw[hpt];exact (h0.here _).app _) hslot (.inr ⟨rfl,rfl⟩);rw[hL,hP] at hroom ⊢;exact found_near hd hk (by omega) (by omega) (by omega) (fun e=>absurd e hn) hh hroom
     ·obtain ⟨G,hG⟩:∃G,G=growA sz (needT (.mk k z w b ks)+1) a:=⟨_,rfl⟩;have hpt:pointA sz (.mk k z w b ks) a s i=appA (setA G s i (farW (G.length - 1) (lastL G))) [nearW (.mk k z w b ks) 0]:=by unfold pointA;rw[if_neg hC,←hG]
      have hg0:Has G s i 0:=by rw[hG];exact h0.grow _ _
      have hgl:=hg0.lt.1;have hP:lastL (pointA sz (.mk k z w b ks) a s i)=lastL G+1:=by rw[hpt,appA_lastL (by rw[setA_len];omega),setA_lastL];rfl
      have hL:(laidA sz (.mk k z w b ks) a s i).length - 1=G.length - 1:=by rw[hll,hpt,appA_len,setA_len]
      have hh:=hkeep s i (farW (G.length - 1) (lastL G)) (by unfold laidA;rw[hpt];exact ((hg0.here _).app _).app _) hslot (.inr ⟨rfl,rfl⟩);have hland:Has (laidA sz (.mk k z w b ks) a s i) (G.length - 1) (lastL G) (nearW (.mk k z w b ks) 0):=by
       have h1:=has_app_new (a:=setA G s i (farW (G.length - 1) (lastL G))) (by rw[setA_len];omega) (l:=[nearW (.mk k z w b ks) 0]) (j:=0) (by simp);rw[appA_len,setA_len,setA_lastL] at h1;unfold laidA;rw[hpt];exact h1.app _
      have hno:¬In a (G.length - 1) (lastL G):=fun ⟨x,hx⟩=>by
       have h1:=hx.grow sz (needT (.mk k z w b ks)+1);rw[←hG] at h1;have h2:=h1.lt.2;have h3:(G[G.length - 1]?.getD []).length=lastL G:=rfl
       omega
      have hn2:=hkeep (G.length - 1) (lastL G) _ hland (fun j hj e=>by omega) (.inl hno)
      rw[hL,hP] at hroom ⊢;exact found_far hd hk (by omega) (by omega) hn hh hn2 hroom
    refine ⟨(laidA sz (.mk k z w b ks) a s i).length - 1,lastL (pointA sz (.mk k z w b ks) a s i),hptr,hown,?_⟩;have hq:lastL (laidA sz (.mk k z w b ks) a s i) - ks.length=lastL (pointA sz (.mk k z w b ks) a s i)+(w ++ wordsB b).length:=by omega
    rw[←hq];refine layAll_reads hsz ks (left - 1) (deepAll_of hd hk) (laidA sz (.mk k z w b ks) a s i) _ _ hsl (by omega) (fun j hj=>kids_zero hs hj) hfl (fun s' i' x h1 h2=> ?_)
    refine hF s' i' x h1 ?_
    rcases h2 with h2 | ⟨j,hj,rfl,rfl⟩
    ·by_cases e:s'=s∧i'=i
     ·exact .inr e
     ·exact .inl (fun h3=>h2 (h3.laid s i))
    ·exact .inl (hnew _ (by omega))
theorem layAll_reads {F:List (List Int)} {sz:Nat} (hsz:sz≤4096):(l:List Tr)→(left:Nat)→deepAll l left=true→(a:List (List Int))→(s p:Nat)→s<a.length→p+l.length≤4097→(∀j,j<l.length→Has a s (p+j) 0)→(layAll sz l ⟨a,false⟩ s p).full=false →
  (∀s' i' x,Has (layAll sz l ⟨a,false⟩ s p).a s' i' x→(¬In a s' i'∨∃j,j<l.length∧s'=s∧i'=p+j)→Has F s' i' x)→ReadsAll F l s p
 | [],_,_,_,_,_,_,_,_,_,_=>by unfold ReadsAll;trivial
 | t :: r,left,hd,a,s,p,hs,hp,h0,hfl,hF=>by
  unfold ReadsAll;have hd':=hd;unfold deepAll at hd;simp only[Bool.and_eq_true] at hd;rw[List.length_cons] at hp h0;rw[List.length_cons] at hF;unfold layAll at hfl hF;have hs2:s<(lay sz t ⟨a,false⟩ s p).a.length:=Nat.lt_of_lt_of_le hs (lay_more t ⟨a,false⟩ s p hs);have hf2:(lay sz t ⟨a,false⟩ s p).full=false:=by
   cases e:(lay sz t ⟨a,false⟩ s p).full with
   | false=>rfl
   | true =>
    rw[layAll_full r s (p+1) e,e] at hfl;cases hfl
  have hz:∀j,j<r.length→Has (lay sz t ⟨a,false⟩ s p).a s (p+1+j) 0:=fun j hj=>by
   have:=h0 (j+1) (by omega);refine lay_has t left hd.1 ⟨a,false⟩ s p s (p+1+j) 0 hs ?_ (by omega);rw[show p+1+j=p+(j+1) by omega]
   exact this
  have h00:Has a s p 0:=by have:=h0 0 (by omega);simpa using this
  obtain ⟨a2,f2,e2⟩:∃a2 f2,lay sz t ⟨a,false⟩ s p=⟨a2,f2⟩:=⟨_,_,rfl⟩;have hin2:∀s' i',¬(s'=s∧i'=p)→In a s' i'→In a2 s' i':=by
   intro s' i' hne hx;obtain ⟨x,hx⟩:=hx;have h5:=lay_has (sz:=sz) t left hd.1 ⟨a,false⟩ s p s' i' x hs hx hne;rw[e2] at h5;exact ⟨x,h5⟩
  constructor
  ·refine lay_reads hsz t left hd.1 a s p hs (by omega) h00 hf2 (fun s' i' x h1 h2=> ?_)
   refine hF s' i' x (layAll_has r left hd.2 _ s (p+1) s' i' x hs2 h1 (fun j hj e=> ?_)) ?_
   ·rcases h2 with h2 | h2
    ·exact h2 ⟨0,by rw[e.1,e.2,show p+1+j=p+(j+1) by omega];exact h0 (j+1) (by omega)⟩
    ·omega
   ·rcases h2 with h2 | h2
    ·exact .inl h2
    ·exact .inr ⟨0,by omega,h2.1,by omega⟩
  ·rw[e2] at hf2 hfl hF hz hs2;dsimp only at hf2 hz hs2;subst hf2;refine layAll_reads hsz r left hd.2 a2 s (p+1) hs2 (by omega) hz hfl (fun s' i' x h1 h2=> ?_)
   refine hF s' i' x h1 ?_
   rcases h2 with h2 | ⟨j,hj,h3,h4⟩
   ·by_cases e:s'=s∧i'=p
    ·exact .inr ⟨0,by omega,e.1,by omega⟩
    ·exact .inl (fun h3=>h2 (hin2 s' i' e h3))
   ·exact .inr ⟨j+1,by omega,h3,by omega⟩
end
theorem sizes_lenS (a:List (List Int)):(sizesL a).sum=(lenS a:Int):=by
 unfold sizesL lenS
 induction a with
 | nil=>rfl
 | cons x r ih=>rw[List.map_cons,List.sum_cons,List.map_cons,List.sum_cons,ih];omega
theorem room_fits {sz:Nat} {a:List (List Int)} (h:RoomA sz a) (hp:Pos a):fitsL (sizesL a)=true:=by
 obtain ⟨-,h2,h3⟩:=h;have hl:=hp.len;have h1:((sizesL a)[0]?.getD 0)=((a[0]?.getD []).length:Int):=sizesL_get hl;unfold Pos at hp;unfold fitsL;refine decide_eq_true ⟨by rw[sizesL_length];omega,by rw[sizesL_length];omega,by rw[h1];omega,sizesL_pos a,by rw[sizes_lenS];omega⟩
theorem build_back {t:Tr} {z:Int} (he:(buildT t z).2=0) (hb:BytesT t) (hc:totalT t≤8192):decodeT (buildT t z).1=(t,0):=by
 unfold buildT at he ⊢
 by_cases h1:z<1∨4096<z∨rightT t=false
 ·rw[if_pos h1] at he;exact absurd he (by decide)
 rw[if_neg h1] at he ⊢
 by_cases h2:(lay z.toNat t ⟨[[0]],false⟩ 0 0).full=true
 ·rw[if_pos h2] at he;exact absurd he (by decide)
 rw[if_neg h2];have hd:deepB t 32=true:=by
  cases e:rightT t with
  | true=>exact e
  | false=>exact absurd (.inr (.inr e)) h1
 have hf:(lay z.toNat t ⟨[[0]],false⟩ 0 0).full=false:=by simpa using h2
 have hr:RoomA z.toNat [[0]]:=⟨fun n hn=>by simp at hn;omega,by simp,by simp[lenS]⟩
 have hfit:=room_fits (hr.lay (t:=t) (s:=0) (i:=0) (by simp) hf) (lay_pos t ⟨[[0]],false⟩ 0 0 (by simp) (by unfold Pos;simp));have hR:ReadsT (lay z.toNat t ⟨[[0]],false⟩ 0 0).a t 0 0:=lay_reads (F:=(lay z.toNat t ⟨[[0]],false⟩ 0 0).a) (by omega) t 32 hd [[0]] 0 0 (by simp) (by omega) rfl hf (fun s' i' x h _=>h)
 have hD:=dec_reads t 32 0 0 0 hd hb hR (by omega);unfold decodeT;rw[if_pos hfit];have hD':decN (srA (lay z.toNat t ⟨[[0]],false⟩ 0 0).a) 32 0 0 0=⟨0,0+totalT t,t⟩:=hD;rw[hD',if_neg (by simp)]
def Sma (x:Int):Prop:=wordN (decP x)≤300∨4097≤wordN (decP x)
def smaB (x:Int):Bool:=decide (wordN (decP x)≤300) || decide (4097≤wordN (decP x))
theorem smaB_is {x:Int} (h:smaB x=true):Sma x:=by
 unfold smaB at h;unfold Sma
 simpa using h
theorem sma_zero:Sma 0:=smaB_is (by decide)
theorem sma_enc {p:Pt} (h:wordN p≤300):Sma (encW p):=by
 unfold encW
 by_cases e:encB p=true
 ·rw[if_pos e];unfold Sma;rw[(encB_iff.1 e).2];exact .inl h
 ·rw[if_neg e];exact sma_zero
def AllW (a:List (List Int)):Prop:=∀l∈a,∀x∈l,Sma x
mutual
def SmT:Tr→Prop
 | .mk k z w b ks=>(∀x∈w,Sma x)∧(∀x∈wordsB b,Sma x)∧wordN (nearP (.mk k z w b ks) 0)≤300∧SmAll ks
def SmAll:List Tr→Prop
 | []=>True
 | t :: r=>SmT t∧SmAll r
end
theorem near_small {t:Tr} (h:wordN (nearP t 0)≤300) (off:Int):Sma (nearW t off):=by
 refine sma_enc ?_
 have:wordN (nearP t off)=wordN (nearP t 0):=by
  unfold nearP
  split <;> rfl
 rw[this];exact h
theorem far_small (s p:Nat):Sma (farW s p):=sma_enc (by
 show wordN ⟨3,_,0,0,0,0,_,false⟩≤300
 unfold wordN
 simp)
theorem AllW.at_ {a:List (List Int)} (h:AllW a) (s:Nat):∀x∈a[s]?.getD [],Sma x:=by
 intro x hx
 by_cases hs:s<a.length
 ·rw[List.getElem?_eq_getElem hs] at hx;exact h _ (List.getElem_mem hs) x hx
 ·rw[List.getElem?_eq_none (by omega)] at hx
  simp at hx
theorem AllW.put {a:List (List Int)} (h:AllW a) (s:Nat) {l:List Int} (hl:∀x∈l,Sma x):AllW (a.set s l):=by
 intro m hm
 rcases List.mem_or_eq_of_mem_set hm with e | e
 ·exact h m e
 ·rw[e];exact hl
theorem AllW.set {a:List (List Int)} (h:AllW a) (s i:Nat) {x:Int} (hx:Sma x):AllW (a.set s ((a[s]?.getD []).set i x)):=by
 refine h.put s fun y hy=> ?_
 rcases List.mem_or_eq_of_mem_set hy with e | e
 ·exact h.at_ s y e
 ·rw[e];exact hx
theorem AllW.more {a:List (List Int)} (h:AllW a) (g:Nat) {l:List Int} (hl:∀x∈l,Sma x):AllW (moreA a g l):=by
 have h2:AllW (if g=a.length then a ++ [[]] else a):=by
  split
  ·intro m hm
   rcases List.mem_append.1 hm with e | e
   ·exact h m e
   ·simp at e;rw[e];intro x hx;simp at hx
  ·exact h
 unfold moreA;refine h2.put g fun x hx=> ?_
 rcases List.mem_append.1 hx with e | e
 ·exact h2.at_ g x e
 ·exact hl x e
theorem content_small {k z:Int} {w b:List Int} {ks:List Tr} (hw:∀x∈w,Sma x) (hb:∀x∈wordsB b,Sma x):∀x∈contentT (.mk k z w b ks),Sma x:=by
 intro x hx;unfold contentT at hx
 rcases List.mem_append.1 hx with e | e
 ·rcases List.mem_append.1 e with e | e
  ·exact hw x e
  ·exact hb x e
 ·rw[(List.mem_replicate.1 e).2];exact sma_zero
theorem laySt_small {sz:Nat} {t:Tr} {st:St} {s i:Nat} (h:AllW st.a) (hn:wordN (nearP t 0)≤300) (hc:∀x∈contentT t,Sma x):AllW (laySt sz t st s i).1.a:=by
 have h1:∀x∈[nearW t 0],Sma x:=fun x hx=>by
  rw[List.mem_singleton.1 hx];exact near_small hn 0
 unfold laySt;dsimp only
 split
 ·exact (h.set s i (near_small hn _)).more _ hc
 ·exact ((h.set s i (far_small _ _)).more _ h1).more _ hc
mutual
theorem lay_small {sz:Nat}:(t:Tr)→(st:St)→(s i:Nat)→AllW st.a→SmT t→AllW (lay sz t st s i).a
 | .mk k z w b ks,st,s,i,h,ht=>by
  unfold SmT at ht;obtain ⟨h1,h2,h3,h4⟩:=ht;unfold lay
  split
  ·exact h
  ·split
   ·exact h.set s i (near_small h3 _)
   ·exact layAll_small ks _ _ _ (laySt_small h h3 (content_small h1 h2)) h4
theorem layAll_small {sz:Nat}:(l:List Tr)→(st:St)→(s p:Nat)→AllW st.a→SmAll l→AllW (layAll sz l st s p).a
 | [],st,s,p,h,_=>by unfold layAll;exact h
 | t :: r,st,s,p,h,hl=>by
  unfold SmAll at hl;unfold layAll;exact layAll_small r _ s (p+1) (lay_small t st s p h hl.1) hl.2
end
theorem build_small {t:Tr} (ht:SmT t) (z:Int):AllW (buildT t z).1:=by
 unfold buildT
 split
 ·intro l hl;simp at hl
 ·split
  ·intro l hl;simp at hl
  ·refine lay_small t ⟨[[0]],false⟩ 0 0 ?_ ht;intro l hl x hx
   simp at hl
   subst hl
   simp at hx
   rw[hx];exact sma_zero
theorem words_small:(List.range 256).all (fun k=>(k % 8 != 3 || (wordsC k).all smaB) && ((k % 8 == 3 || (wordsD k).all smaB) && (k % 8 != 1 && k % 8 != 2 || (wordsB (bytesC k)).all smaB)))=true:=by decide +kernel
theorem words_of {k:Nat} (hk:k<256):(k % 8=3→∀x∈wordsC k,Sma x)∧(k % 8≠3→∀x∈wordsD k,Sma x)∧(k % 8=1∨k % 8=2→∀x∈wordsB (bytesC k),Sma x):=by
 have h:=List.all_eq_true.1 words_small k (List.mem_range.2 hk);simp only[Bool.and_eq_true,Bool.or_eq_true,bne_iff_ne,beq_iff_eq,List.all_eq_true] at h;obtain ⟨h1,h2,h3⟩:=h;refine ⟨fun e x hx=> ?_,fun e x hx=> ?_,fun e x hx=> ?_⟩
 ·rcases h1 with h | h
  ·exact absurd e h
  ·exact smaB_is (h x hx)
 ·rcases h2 with h | h
  ·exact absurd h e
  ·exact smaB_is (h x hx)
 ·rcases h3 with h | h
  ·omega
  ·exact smaB_is (h x hx)
def InB (c:List Int):Prop:=∀x∈c,0≤x∧x≤255
def SmC (p:Tr × List Int):Prop:=SmT p.1∧InB p.2
theorem sm_nil:SmT Tr.nil:=by
 unfold Tr.nil SmT SmAll;refine ⟨fun x hx=>by simp at hx,fun x hx=> ?_,by decide,trivial⟩
 simp[wordsB] at hx
theorem kidsC_small {f:List Int→Tr × List Int} (hf:∀c,InB c→SmC (f c)):(n:Nat)→(c:List Int)→InB c→SmAll (kidsC f n c).1∧InB (kidsC f n c).2
 | 0,c,h=>by
  unfold kidsC SmAll;exact ⟨trivial,h⟩
 | n+1,c,h=>by
  obtain ⟨a1,a2⟩:=hf c h;obtain ⟨b1,b2⟩:=kidsC_small hf n (f c).2 a2;unfold kidsC SmAll;exact ⟨⟨a1,b1⟩,b2⟩
theorem treeC_small:(d:Nat)→(c:List Int)→InB c→SmC (treeC d c)
 | 0,c,h=>⟨sm_nil,h⟩
 | d+1,[],h=>⟨sm_nil,h⟩
 | d+1,k :: c,h=>by
  have hk:=h k (List.mem_cons_self ..);have hc:InB c:=fun x hx=>h x (List.mem_cons_of_mem _ hx)
  obtain ⟨e1,e2,e3⟩:=words_of (k:=k.toNat) (by omega);have lb:(bytesC k.toNat).length=3*(k.toNat / 8 % 5)+k.toNat % 2:=by simp[bytesC]
  have lw:(wordsC k.toNat).length=k.toNat / 8 % 5:=by simp[wordsC]
  have lx:(wordsD k.toNat).length=k.toNat / 64 % 4:=by simp[wordsD]
  obtain ⟨a1,a2⟩:=kidsC_small (treeC_small d) (k.toNat / 8 % 5) c hc;obtain ⟨-,-,-,a4⟩:=kidsC_fine (treeC_fine d) (k.toNat / 8 % 5) c;have hb0:∀x∈wordsB [],Sma x:=fun x hx=>by simp[wordsB] at hx
  rw[treeC_eq];unfold SmC;generalize kidsC (treeC d) (k.toNat / 8 % 5) c=q at *
  split
  ·exact ⟨sm_nil,hc⟩
  ·split
   ·refine ⟨?_,hc⟩;dsimp only;unfold SmT SmAll;refine ⟨fun x hx=>by simp at hx,e3 (by assumption),?_,trivial⟩
    unfold nearP wordN
    simp[Tr.kind,Tr.size,Tr.words,Tr.kids,Tr.bytes]
    omega
   ·split
    ·refine ⟨?_,hc⟩;dsimp only;unfold SmT SmAll;refine ⟨e1 (by assumption),hb0,?_,trivial⟩;unfold nearP wordN
     simp[Tr.kind,Tr.size,Tr.words,Tr.kids,Tr.bytes]
     omega
    ·split
     ·refine ⟨?_,a2⟩;dsimp only;unfold SmT;refine ⟨fun x hx=>by simp at hx,hb0,?_,a1⟩
      unfold nearP wordN
      simp[Tr.kind,Tr.size,Tr.words,Tr.kids,Tr.bytes]
      omega
     ·refine ⟨?_,a2⟩;dsimp only;unfold SmT;refine ⟨e2 (by assumption),hb0,?_,a1⟩;unfold nearP wordN
      simp[Tr.kind,Tr.words,Tr.kids]
      omega
def bentP (x y:Int) (n:Nat):Pt :=
 if x % 3=0 then ⟨1,y % 16 - 4,x % 4,x / 64,0,0,0,false⟩
 else if x % 3=1 then ⟨2,y % 16 - 4,0,0,if x % 4=0 then 2 else if x % 4=1 then 5 else if x % 4=2 then 6 else 3,x / 16,0,false⟩
 else ⟨3,y % 12,0,0,0,0,x / 3 % ((n:Int)+1),decide (x % 2=1)⟩
theorem bentP_small {x:Int} (h0:0≤x) (h1:x≤255) (y:Int) (n:Nat):wordN (bentP x y n)≤300:=by
 unfold bentP
 split
 ·unfold wordN;simp;omega
 ·split
  ·unfold wordN;simp only[reduceIte,show ¬((2:Int)=1) by decide]
   split <;> split <;> omega
  ·unfold wordN
   simp
   split <;> omega
theorem byte_at {d:List Int} (h:InB d) (i:Nat):0≤d[i]?.getD 0∧d[i]?.getD 0≤255:=by
 by_cases hi:i<d.length
 ·rw[List.getElem?_eq_getElem hi];exact h _ (List.getElem_mem hi)
 ·rw[List.getElem?_eq_none (by omega)]
  decide
theorem encW_in (p:Pt):0≤encW p∧encW p≤18446744073709551615:=by
 have:=rawW_bd p;unfold encW
 split <;> omega
def AllU10 (a:List (List Int)):Prop:=∀l∈a,∀x∈l,0≤x∧x≤18446744073709551615
end Go.Proofs.YtmmlfnblodfjbaaGreatDoor
