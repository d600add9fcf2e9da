/- Layer 8: the document's builder: words behind those of a segment. -/
import Derived.Test.YtmmlfnblodfjbaaGreatDoorQBuB
import Derived.Test.YtmmlfnblodfjbaaGreatDoorQAr
import Derived.Test.YtmmlfnblodfjbaaGreatDoorQCut
import Derived.Test.YtmmlfnblodfjbaaGreatDoorQWord
import Derived.Deep.RegionLaw
import Derived.WalkMore
import Derived.Test.YtmmlfnblodfjbaaGreatDoorQPlain
set_option maxRecDepth 100000
namespace Go.Proofs.YtmmlfnblodfjbaaGreatDoor
open Go.RowKit Go.Deep
theorem append_row1 (w:World) (base ty n:Nat) (v:Value) (vs:List Value) (hown:w.ownsRow base 31 1 v n vs) (hk:n≤1000000) (hbase:base≤w.heap.size) :
  ∃g c' w',(Builtin.append_ #[23,23] ty #[v,.slice (some ⟨w.heap.size,0,none⟩) 1 1]).run Tryz.prog (w.alloc (.cells #[.slice none 0 0] 31))= .ok (.slice (some ⟨g,0,none⟩) (n+1) c') w'∧w'.ownsRow base 31 1 (.slice (some ⟨g,0,none⟩) (n+1) c') (n+1) (vs ++ [.slice none 0 0])∧(w.alloc (.cells #[.slice none 0 0] 31)).grownBy w' v.ownBlock:=by
 obtain ⟨i0,hi,hz0,hz1,hz2⟩:=info_parts Tryz.info31;obtain ⟨v',w',hrun,ho,hg,_,hl⟩:=run_append_own_at (P:=Tryz.prog) (w:=w.alloc (.cells #[.slice none 0 0] 31)) base 23 ty 31 i0 _ 1 24 Tryz.underlying23 hi hz0 hz1 hz2 rfl (by decide) v n vs (World.ownsRow.alloc hown _) ⟨w.heap.size,0,none⟩ 1 1 [.slice none 0 0] rfl (cell_one_new _ _ _) (fun u hu=>by simp at hu;subst hu;rfl) (by unfold maxLen;omega) (by omega) (by simp;omega)
 obtain ⟨g',c3,rfl⟩:=ownsRow_succ ho;exact ⟨g',c3,w',hrun,ho,hg⟩
theorem lenS_sizes (a:List (List Int)):(sizesL a).sum=(lenS a:Int):=by
 unfold sizesL lenS
 induction a with
 | nil=>rfl
 | cons x r ih =>
  simp only[List.map_cons,List.sum_cons,ih]
  omega
theorem seg_leS (a:List (List Int)) (j:Nat):(a[j]?.getD []).length≤lenS a:=by
 unfold lenS
 induction a generalizing j with
 | nil=>simp
 | cons x r ih =>
  cases j with
  | zero=>simp
  | succ j =>
   have:=ih j;simp only[List.getElem?_cons_succ,List.map_cons,List.sum_cons]
   omega
theorem lenS_app {a:List (List Int)} {s:Nat} (h:s<a.length) (l:List Int):lenS (a.set s (a[s]?.getD [] ++ l))=lenS a+l.length:=by
 unfold lenS
 induction a generalizing s with
 | nil=>simp at h
 | cons x r ih =>
  cases s with
  | zero=>simp;omega
  | succ s =>
   have:=ih (s:=s) (by simpa using h);simp only[List.getElem?_cons_succ,List.set_cons_succ,List.map_cons,List.sum_cons] at this ⊢
   omega
def preA (a:List (List Int)) (seg:Nat):List (List Int):=if seg=a.length then a ++ [[]] else a
set_option maxHeartbeats 2000000 in
theorem rmore_any (n:Nat) (A:Option Addr) (c:Nat) (ls:List (List Int)) (sz:Nat) (f:Bool) (seg:Nat) (Al:Option Addr) (m cl:Nat) (l:List Int) (w:World) (P0:Nat→Prop) (hPw:∀b,P0 b→b<w.heap.size) (h:ArP w P0 (.slice A n c) ls) (hn:n=ls.length) (hp:0<n) (hs:seg≤n) (hl:NumS .u64 w w.heap.size (.slice Al m cl) l)
  (hk:n≤1000000) (hm:l.length≤1000000) (hlen:lenS ls≤1000000) :
  Calls Tryz.prog 55 #[.agg #[.slice A n c,.int .i64 sz,.bool f],.int .i64 seg,.slice Al m cl] w fun e w'=>∃A' n' c',e= .returned (.agg #[.slice A' n' c',.int .i64 sz,.bool (moreW sz ⟨ls,f⟩ seg l).full])∧ArP w' (fun b=>P0 b∨(w.heap.size≤b∧b<w'.heap.size)) (.slice A' n' c') (moreW sz ⟨ls,f⟩ seg l).a∧n'=(moreW sz ⟨ls,f⟩ seg l).a.length∧Below w.heap.size w w':=by
 obtain ⟨W1,hW1⟩:∃W1,W1=w.alloc (.cells #[.slice A n c,.int .i64 sz,.bool f] 77):=⟨_,rfl⟩;obtain ⟨W2,hW2⟩:∃W2,W2=W1.alloc (.cells #[.slice none 0 0,.int .i64 0,.bool false] 77):=⟨_,rfl⟩;have hz1:W1.heap.size=w.heap.size+1:=by rw[hW1];simp
 have hz2:W2.heap.size=w.heap.size+2:=by rw[hW2];simp;omega
 have hB12:Below W1.heap.size W1 W2:=by rw[hW2];exact (Below.refl _ _).alloc (Nat.le_refl _) _
 have hS2:SBox W2 w.heap.size (.slice A n c) sz f:=by rw[hW1] at hB12 hW2;exact (SBox.new w _ _ _).on hB12
 have hR2:SBox W2 (w.heap.size+1) (.slice none 0 0) 0 false:=by rw[hW2,←hz1];exact SBox.new W1 _ _ _
 have hB2:Below w.heap.size w W2:=by rw[hW2,hW1];exact ((Below.refl _ _).alloc (Nat.le_refl _) _).alloc (by simp) _
 obtain ⟨g3,c3,w3,us,hul,hrun3,ho3,hB3,hus⟩:=append_rows W2 P0 23 n A c ls (h.keep (fun b hb=>hB2.block b (hPw b hb))) hn (by omega) hk
 have hcz:n≤c3∧c3≤9223372036854775807:=by
  obtain ⟨_,⟨e,_⟩ | ⟨g',c',cur,e,_,_,q1,q2,_⟩⟩:=ho3
  ·cases e
  ·cases e
   exact ⟨q1,by unfold maxLen at q2;omega⟩
 have hg3:=World.ownsRow.lt ho3 g3 rfl
 -- what is there before the words are laid
 obtain ⟨P,hP⟩:∃P,P=preA ls seg:=⟨_,rfl⟩;obtain ⟨N,hN⟩:∃N,N=P.length:=⟨_,rfl⟩;have hmw:moreW sz ⟨ls,f⟩ seg l=⟨P.set seg (P[seg]?.getD [] ++ l),f || decide (sz<((P.set seg (P[seg]?.getD [] ++ l))[seg]?.getD []).length) || decide (16<(P.set seg (P[seg]?.getD [] ++ l)).length) || decide (4096<lenS (P.set seg (P[seg]?.getD [] ++ l)))⟩:=by
  rw[hP]
  rfl
 have hsP:seg<N:=by
  rw[hN,hP];unfold preA
  by_cases e:seg=ls.length
  ·rw[if_pos e];simp;omega
  ·rw[if_neg e];omega
 have hNn:N≤n+1:=by
  rw[hN,hP];unfold preA
  by_cases e:seg=ls.length
  ·rw[if_pos e];simp;omega
  ·rw[if_neg e];omega
 have hPl:lenS P=lenS ls:=by
  rw[hP];unfold preA
  by_cases e:seg=ls.length
  ·rw[if_pos e];simp[lenS]
  ·rw[if_neg e]
 have hPs:=seg_leS P seg;have hQS:=lenS_app (a:=P) (s:=seg) (by omega) l;obtain ⟨Q,hQ⟩:∃Q,Q=P.set seg (P[seg]?.getD [] ++ l):=⟨_,rfl⟩;have hQN:Q.length=N:=by rw[hQ,List.length_set,hN]
 have hQs:Q[seg]?.getD []=P[seg]?.getD [] ++ l:=by rw[hQ,getD_set (by omega),if_pos rfl]
 rw[←hQ] at hQS hmw;rw[hQs,hQN] at hmw;rw[hmw];dsimp only;obtain ⟨q,hq⟩:∃q,q=(P[seg]?.getD [] ++ l).length:=⟨_,rfl⟩;rw[←hq];obtain ⟨S,hS⟩:∃S,S=lenS Q:=⟨_,rfl⟩;rw[←hS];obtain ⟨F,hF⟩:∃F,F=(f || decide (sz<q) || decide (16<N) || decide (4096<S)):=⟨_,rfl⟩;rw[←hF];have hql:q≤2000000:=by rw[hq,List.length_append];omega
 have hSl:S≤2000000:=by omega
 have HQ:=LH hQ;have HQN:=LH hQN;have HQs:=LH hQs;have Hq:=LH hq;have HN:=LH hN;have HPs:=LH (show (P[seg]?.getD []).length≤1000000 by omega)
 have HS:=LH hS;have HF:=LH hF;have HO3:=LH ho3;have HB3:=LH hB3;have HB2:=LH hB2;have HL:=LH (fun X (hX:Below w.heap.size w X)=>hl.below hX (Nat.le_refl _))
 have HUl:=LH hul;have HUs:=LH hus;have HRun3:=LH hrun3;have HS2:=LH hS2;have HR2:=LH hR2;have Hg3:=LH hg3;have HP:=LH hP;have Hn:=LH hn;have Hm:=LH hm;have hz3:=hB3.size;obtain ⟨x0,x1,x2⟩:=hS2.cells;have hlm:l.length=m:=by
  obtain ⟨A9,c9,e9,_⟩:=hl;cases e9
  rfl
 have Hlm:=LH hlm;clear hQ hQN hQs hq hN hPs hS hF ho3 hB3 hB2 hl hul hus hrun3 hS2 hR2 hg3 hP hn hm hlm hmw hQS hPl hB12 h;go_enter Tryz.func55,Tryz.ntmps55;go_upto_region 2 with fail
 rw[←hW1,←hW2];clear hW1 hW2
 go_upto_if 16 with (at_builtin;refine Lib.wpList_append_run _ rfl _ _ _ _ rfl _ _ rfl rfl _ _ HRun3.out ?_)
 clear x0 x1 x2
 go_cut [7] (fun s7 wx=>∃g c' us',s7= .slice (some ⟨g,0,none⟩) N c'∧N≤c'∧c'≤9223372036854775807∧us'.length=N∧wx.ownsRow W2.heap.size 31 1 (.slice (some ⟨g,0,none⟩) N c') N us'∧Below W2.heap.size W2 wx∧∀j,j<N→NumT wx P0 (us'[j]?.getD undef) (P[j]?.getD []))
 case first =>
  by_cases e:seg=n
  ·subst e;have i1:((seg:Int) == (seg:Int))=true:=by simp
   obtain ⟨g4,c4,w4,hrun4,ho4,hg4⟩:=append_row1 w3 W2.heap.size 23 seg (.slice (some ⟨g3,0,none⟩) seg c3) us HO3.out hk hz3;have hPe:P=ls ++ [[]]:=by
    rw[HP.out];unfold preA;rw[if_pos Hn.out]
   have hNe:N=seg+1:=by rw[HN.out,hPe,List.length_append,←Hn.out];rfl
   subst hNe;have hcz4:seg+1≤c4∧c4≤9223372036854775807:=by
    obtain ⟨_,⟨e,_⟩ | ⟨g',c',cur,e,_,_,q1,q2,_⟩⟩:=ho4
    ·cases e
    ·cases e
     exact ⟨q1,by unfold maxLen at q2;omega⟩
   have hB4:Below W2.heap.size W2 w4:=(HB3.out.alloc hz3 _).grown hg4 (by simp;omega) (fun k e=>by
    obtain rfl:g3=k:=by simpa [Value.ownBlock] using e
    exact Hg3.out.1)
   have HFin:Hid (∃g c' us',Value.slice (some ⟨g4,0,none⟩) (seg+1) c4= .slice (some ⟨g,0,none⟩) (seg+1) c'∧seg+1≤c'∧c'≤9223372036854775807∧us'.length=seg+1∧w4.ownsRow W2.heap.size 31 1 (.slice (some ⟨g,0,none⟩) (seg+1) c') (seg+1) us'∧Below W2.heap.size W2 w4∧∀j,j<seg+1→NumT w4 P0 (us'[j]?.getD undef) (P[j]?.getD [])):=LH (by
    refine ⟨g4,c4,us ++ [.slice none 0 0],rfl,hcz4.1,hcz4.2,by rw[List.length_append,HUl.out];rfl,ho4,hB4,fun j hj=> ?_⟩
    rw[hPe]
    by_cases e:j<seg
    ·rw[List.getElem?_append_left (by rw[HUl.out];exact e),List.getElem?_append_left (by rw[←Hn.out];exact e)];exact (HUs.out j e).keep (fun b hb=>hB4.block b (by have:=hPw b hb;omega))
    ·obtain rfl:j=seg:=by omega
     rw[List.getElem?_append_right (by rw[HUl.out];exact Nat.le_refl _),List.getElem?_append_right (by rw[←Hn.out];exact Nat.le_refl _),HUl.out,←Hn.out,Nat.sub_self];exact NumT.nil _ _)
   have HRun4:=LH hrun4;clear hrun4 ho4 hg4 hB4 hPe hcz4
   go_wp2_with (at_builtin;refine Lib.wpList_append_run _ rfl _ _ _ _ rfl _ _ rfl rfl _ _ HRun4.out ?_)
   go_meet;exact HFin.out
  ·have i1:((seg:Int) == (n:Int))=false:=by rw[beq_eq_false_iff_ne];omega
   have hPe:P=ls:=by
    rw[HP.out];unfold preA;rw[if_neg (by rw[←Hn.out];exact e)]
   have hNe:N=n:=by rw[HN.out,hPe,←Hn.out]
   subst hNe;have HFin:Hid (∃g c' us',Value.slice (some ⟨g3,0,none⟩) N c3= .slice (some ⟨g,0,none⟩) N c'∧N≤c'∧c'≤9223372036854775807∧us'.length=N∧w3.ownsRow W2.heap.size 31 1 (.slice (some ⟨g,0,none⟩) N c') N us'∧Below W2.heap.size W2 w3∧∀j,j<N→NumT w3 P0 (us'[j]?.getD undef) (P[j]?.getD [])):=LH ⟨g3,c3,us,rfl,hcz.1,hcz.2,HUl.out,HO3.out,HB3.out,fun j hj=>by rw[hPe];exact (HUs.out j hj).keep (fun b hb=>HB3.out.block b (by have:=hPw b hb;omega))⟩
   clear hPe
   go_wp2_with fail
   go_meet;exact HFin.out
 case rest =>
  obtain ⟨g,c',us',rfl,hc1,hc2,hul,ho,hB,hus⟩:=hcut;generalize wc=w4 at *
  clear HO3 HUs HUl HRun3 Hg3 HB3 hz3 hcz;have hgb:=World.ownsRow.lt ho g rfl;have x0:=own_cell ho hsP;have hus4:=(hus seg hsP).numS hPw;obtain ⟨As,cs,hes,-⟩:=hus4;have hB24:=HB2.out.trans (hB.mono (by omega));obtain ⟨v5,w5,hrun5,ho5,hg5⟩:=append_words w4 w4.heap.size w.heap.size 31 (.slice none 0 0) [] (us'[seg]?.getD undef) (P[seg]?.getD []) (OwnU.nil _ _) ((hus seg hsP).numS hPw) (by have:=HPs.out;simp;omega) (Nat.le_refl _);rw[List.nil_append] at ho5;have hB45:Below w4.heap.size w4 w5:=(Below.refl _ _).grown hg5 (Nat.le_refl _) (fun k e=>by cases e)
  obtain ⟨v6,w6,hrun6,ho6,hg6⟩:=append_words w5 w4.heap.size w.heap.size 31 v5 (P[seg]?.getD []) (.slice Al m cl) l ho5 (HL.out _ (hB24.trans (hB45.mono (by have:=hB24.size;omega)))) (by have:=HPs.out;have:=Hm.out;omega) hB45.size;have hB46:Below w4.heap.size w4 w6:=hB45.grown hg6 hB45.size (fun k e=>(World.ownsRow.lt ho5 k e).1)
  have hs46:=hB46.size;have hs2:=hB24.size;obtain ⟨A6,c6,rfl⟩:∃A c,v6= .slice A q c:=by
   obtain ⟨A,c,e,_⟩:=OwnN.numS ho6;exact ⟨A,c,by rw[e,Hq.out]⟩
  have hq6:q≤c6∧c6≤9223372036854775807:=by
   obtain ⟨A9,c9,e9,q1,q2,_⟩:=OwnN.numS ho6;cases e9
   exact ⟨by rw[Hq.out];exact q1,q2⟩
  obtain ⟨A5,c5,rfl⟩:∃A c,v5= .slice A (P[seg]?.getD []).length c:=by
   obtain ⟨A,c,e,_⟩:=OwnN.numS ho5;exact ⟨A,c,e⟩
  obtain ⟨W7,hW7⟩:∃W7,W7=w6.setCell ⟨g,seg,none⟩ (.slice A6 q c6):=⟨_,rfl⟩;obtain ⟨W8,hW8⟩:∃W8,W8=W7.setCell ⟨w.heap.size,0,none⟩ (.slice (some ⟨g,0,none⟩) N c'):=⟨_,rfl⟩;obtain ⟨W9,hW9⟩:∃W9,W9=W8.setCell ⟨w.heap.size,2,none⟩ (.bool F):=⟨_,rfl⟩;obtain ⟨W10,hW10⟩:∃W10,W10=((W9.setCell ⟨w.heap.size+1,0,none⟩ (.slice (some ⟨g,0,none⟩) N c')).setCell ⟨w.heap.size+1,1,none⟩ (.int .i64 sz)).setCell ⟨w.heap.size+1,2,none⟩ (.bool F):=⟨_,rfl⟩;have hr6:=own_on ho hB46;have hr7:=own_setV (i:=seg) hr6 (.slice A6 q c6);rw[←hW7] at hr7;have hne6:∀k,(Value.slice A6 q c6).ownBlock=some k→k≠g∧w.heap.size+2≤k:=fun k e=>by have:=(World.ownsRow.lt ho6 k e).1;omega
  have ho7:OwnU W7 w4.heap.size (.slice A6 q c6) (P[seg]?.getD [] ++ l):=own_same ho6 (fun k e=>by rw[hW7];exact blk_setCell_other _ _ _ _ (hne6 k e).1)
  have hS7:SBox W7 w.heap.size (.slice A n c) sz f:=by
   rw[hW7];exact (HS2.out.on (hB.trans (hB46.mono (by omega)))).apart (by omega)
  have hR7:SBox W7 (w.heap.size+1) (.slice none 0 0) 0 false:=by
   rw[hW7];exact (HR2.out.on (hB.trans (hB46.mono (by omega)))).apart (by omega)
  have hS8:SBox W8 w.heap.size (.slice (some ⟨g,0,none⟩) N c') sz f:=by rw[hW8];exact hS7.set0 _
  have hR8:SBox W8 (w.heap.size+1) (.slice none 0 0) 0 false:=by rw[hW8];exact hR7.apart (by omega)
  have hS9:SBox W9 w.heap.size (.slice (some ⟨g,0,none⟩) N c') sz F:=by rw[hW9];exact hS8.set2 _
  have hR9:SBox W9 (w.heap.size+1) (.slice none 0 0) 0 false:=by rw[hW9];exact hR8.apart (by omega)
  have hR10:SBox W10 (w.heap.size+1) (.slice (some ⟨g,0,none⟩) N c') sz F:=by rw[hW10];exact hR9.set3 _ _ _
  have hB7:Below w.heap.size w W7:=by
   rw[hW7];exact (hB24.trans (hB46.mono (by omega))).setCell (p:=⟨g,seg,none⟩) (by show w.heap.size≤g;omega) _
  have hB8:Below w.heap.size w W8:=by rw[hW8];exact hB7.setCell (p:=⟨w.heap.size,0,none⟩) (Nat.le_refl _) _
  have hB10:Below w.heap.size w W10:=by
   rw[hW10,hW9];exact below_set3 (hB8.setCell (p:=⟨w.heap.size,2,none⟩) (Nat.le_refl _) _) (Nat.le_add_right _ _) _ _ _
  have hB710:Below w.heap.size w4 W10:=by
   rw[hW10,hW9,hW8,hW7];exact below_set3 ((((hB46.mono (by omega)).setCell (p:=⟨g,seg,none⟩) (by show w.heap.size≤g;omega) _).setCell (p:=⟨w.heap.size,0,none⟩) (Nat.le_refl _) _).setCell (p:=⟨w.heap.size,2,none⟩) (Nat.le_refl _) _) (Nat.le_add_right _ _) _ _ _
  have hB78:Below w.heap.size w4 W8:=by
   rw[hW8,hW7];exact ((hB46.mono (by omega)).setCell (p:=⟨g,seg,none⟩) (by show w.heap.size≤g;omega) _).setCell (p:=⟨w.heap.size,0,none⟩) (Nat.le_refl _) _
  have hk8:∀k,w.heap.size+2≤k→W8.heap[k]? = W7.heap[k]? := fun k hk=>by
   rw[hW8,blk_setCell_other _ _ _ _ (by show k≠w.heap.size;omega)]
  have hk10:∀k,w.heap.size+2≤k→W10.heap[k]? = W7.heap[k]? := fun k hk=>by
   rw[hW10,set3_other _ _ _ _ _ (by omega),hW9,blk_setCell_other _ _ _ _ (by show k≠w.heap.size;omega),hk8 k hk]
  have hfin:∀X,(∀k,w.heap.size+2≤k→X.heap[k]? = W7.heap[k]?)→Below w.heap.size w4 X→ArP X (fun b=>P0 b∨(w.heap.size≤b∧b<X.heap.size)) (.slice (some ⟨g,0,none⟩) N c') Q:=fun X hk hBX=>by
   have hXs:=hBX.size;refine ar_of (own_same hr7 (fun k e=>by
    obtain rfl:g=k:=by simpa [Value.ownBlock] using e
    exact hk _ (by omega))) HQN.out.symm (fun j hj=> ?_) (fun k e=>by
    obtain rfl:g=k:=by simpa [Value.ownBlock] using e
    exact .inr ⟨by omega,by omega⟩)
   rw[HQ.out,getD_set (by omega),getD_set (by rw[←HN.out];exact hsP)]
   by_cases e:seg=j
   ·rw[if_pos e,if_pos e];exact (own_numT (own_same (w':=X) ho7 (fun k e=>hk k (hne6 k e).2))).mono (fun k e=> .inr ⟨by have:=(hne6 k e).2;omega,(World.ownsRow.lt (own_same (w':=X) ho7 (fun k e=>hk k (hne6 k e).2)) k e).2⟩)
   ·rw[if_neg e,if_neg e];exact ((hus j hj).keep (fun b hb=>hBX.block b (hPw b hb))).mono (fun b hb=> .inl hb)
  have hWd:=rwords7_any _ Q _ W8 ((hfin W8 hk8 hB78).arV (B:=W8.heap.size) (fun b hb=>by rcases hb with hb | hb;exact Nat.lt_of_lt_of_le (hPw b hb) (by have:=hB8.size;omega);exact hb.2)) (by rw[lenS_sizes,←HS.out];omega)
  rw[lenS_sizes,←HS.out] at hWd;have HFin:=LH (And.intro (hfin W10 hk10 hB710) (And.intro HQN.out.symm hB10));have HWd:=LH hWd;have HRun5:=LH hrun5;have HRun6:=LH hrun6;have HR10:=LH hR10;have HS9:=LH hS9;have HR9:=LH hR9;have y0:=own_cell hr6 hsP;have k0:=own_frozen (i:=seg) hr6;have y1:=hS7.cells.1;have k1:=hS7.frozen 0;obtain ⟨d0,d1,d2⟩:=hS8.cells;have f2:=hS8.frozen 2;have f3:=hR9.frozen 0;generalize (P[seg]?.getD []).length=m5 at *
  generalize us'[seg]?.getD undef=u5 at *
  subst hes;have i2:(seg:Int)<(N:Int):=by omega
  clear hWd hfin hk10 hk8 hB78 hB710 hB10 hB8 hB7 hR10 hR9 hS9 hR8 hS8 hR7 hS7 ho7 hne6 hr7 hr6 hB46 hg6 ho6 hrun6 hB45 hg5 ho5 hrun5 hB24 hus ho hB HQ HS2 HR2 HB2 HL;go_upto_region 5 with fail
  go_upto_region 9 with (at_builtin;first | refine Lib.wpList_append_run _ rfl _ _ _ _ rfl _ _ rfl rfl _ _ HRun5.out ?_ | refine Lib.wpList_append_run _ rfl _ _ _ _ rfl _ _ rfl rfl _ _ HRun6.out ?_)
  rw[←hW7];clear hW7 x0 y0 k0;go_upto_region 10 with fail
  rw[←hW8];clear hW8 y1 k1;have hF:=HF.out;clear HF;cases f with
  | true =>
   obtain rfl:F=true:=by rw[hF];rfl
   clear hF;go_upto_region 11 with fail
   rw[←hW9];clear hW9 f2 f3 d0 d1 d2;obtain ⟨y0,y1,y2⟩:=HS9.out.cells;obtain ⟨z0,z1,z2⟩:=HR9.out.cells;have k0:=HR9.out.frozen 0;have k1:=HR9.out.frozen 1;have k2:=HR9.out.frozen 2
   go_wp2_with fail
   rw[←hW10];obtain ⟨e0,e1,e2⟩:=HR10.out.cells;refine bodyPost_ret (v:= .agg #[.slice (some ⟨g,0,none⟩) N c',.int .i64 sz,.bool true]) ?_ rfl ⟨_,_,_,rfl,HFin.out⟩
   simp[results,Tryz.f55,go_sem,e0,e1,e2]
  | false =>
   rw[Bool.false_or] at hF
   by_cases b1:sz<q
   ·have j1:(sz:Int)<(q:Int):=by omega
    have j2:decide ((sz:Int)<(q:Int))=true:=decide_eq_true j1;obtain rfl:F=true:=by rw[hF,decide_eq_true b1];rfl
    clear hF;go_upto_region 11 with fail
    rw[←hW9];clear hW9 f2 f3 d0 d1 d2;obtain ⟨y0,y1,y2⟩:=HS9.out.cells;obtain ⟨z0,z1,z2⟩:=HR9.out.cells;have k0:=HR9.out.frozen 0;have k1:=HR9.out.frozen 1;have k2:=HR9.out.frozen 2
    go_wp2_with fail
    rw[←hW10];obtain ⟨e0,e1,e2⟩:=HR10.out.cells;refine bodyPost_ret (v:= .agg #[.slice (some ⟨g,0,none⟩) N c',.int .i64 sz,.bool true]) ?_ rfl ⟨_,_,_,rfl,HFin.out⟩
    simp[results,Tryz.f55,go_sem,e0,e1,e2]
   ·have j1:¬(sz:Int)<(q:Int):=by omega
    have j2:decide ((sz:Int)<(q:Int))=false:=decide_eq_false j1;rw[decide_eq_false b1,Bool.false_or] at hF
    by_cases b2:16<N
    ·have j3:(16:Int)<(N:Int):=by omega
     have j4:decide ((16:Int)<(N:Int))=true:=decide_eq_true j3;obtain rfl:F=true:=by rw[hF,decide_eq_true b2];rfl
     clear hF;go_upto_region 11 with fail
     rw[←hW9];clear hW9 f2 f3 d0 d1 d2;obtain ⟨y0,y1,y2⟩:=HS9.out.cells;obtain ⟨z0,z1,z2⟩:=HR9.out.cells;have k0:=HR9.out.frozen 0;have k1:=HR9.out.frozen 1;have k2:=HR9.out.frozen 2
     go_wp2_with fail
     rw[←hW10];obtain ⟨e0,e1,e2⟩:=HR10.out.cells;refine bodyPost_ret (v:= .agg #[.slice (some ⟨g,0,none⟩) N c',.int .i64 sz,.bool true]) ?_ rfl ⟨_,_,_,rfl,HFin.out⟩
     simp[results,Tryz.f55,go_sem,e0,e1,e2]
    ·have j3:¬(16:Int)<(N:Int):=by omega
     have j4:decide ((16:Int)<(N:Int))=false:=decide_eq_false j3;rw[decide_eq_false b2,Bool.false_or] at hF
     by_cases b3:4096<S
     ·have j5:(4096:Int)<(S:Int):=by omega
      have j6:decide ((4096:Int)<(S:Int))=true:=decide_eq_true j5;obtain rfl:F=true:=by rw[hF,decide_eq_true b3]
      clear hF;go_upto_region 10 with fail
      go_wp2_with fail
      refine HWd.out.mono ?_
      rintro e w9 ⟨rfl,rfl⟩;go_upto_region 11 with fail
      rw[←hW9];clear hW9 f2 f3 d0 d1 d2;obtain ⟨y0,y1,y2⟩:=HS9.out.cells;obtain ⟨z0,z1,z2⟩:=HR9.out.cells;have k0:=HR9.out.frozen 0;have k1:=HR9.out.frozen 1;have k2:=HR9.out.frozen 2
      go_wp2_with fail
      rw[←hW10];obtain ⟨e0,e1,e2⟩:=HR10.out.cells;refine bodyPost_ret (v:= .agg #[.slice (some ⟨g,0,none⟩) N c',.int .i64 sz,.bool true]) ?_ rfl ⟨_,_,_,rfl,HFin.out⟩
      simp[results,Tryz.f55,go_sem,e0,e1,e2]
     ·have j5:¬(4096:Int)<(S:Int):=by omega
      have j6:decide ((4096:Int)<(S:Int))=false:=decide_eq_false j5;obtain rfl:F=false:=by rw[hF,decide_eq_false b3]
      clear hF;go_upto_region 10 with fail
      go_wp2_with fail
      refine HWd.out.mono ?_
      rintro e w9 ⟨rfl,rfl⟩;go_upto_region 11 with fail
      rw[←hW9];clear hW9 f2 f3 d0 d1 d2;obtain ⟨y0,y1,y2⟩:=HS9.out.cells;obtain ⟨z0,z1,z2⟩:=HR9.out.cells;have k0:=HR9.out.frozen 0;have k1:=HR9.out.frozen 1;have k2:=HR9.out.frozen 2
      go_wp2_with fail
      rw[←hW10];obtain ⟨e0,e1,e2⟩:=HR10.out.cells;refine bodyPost_ret (v:= .agg #[.slice (some ⟨g,0,none⟩) N c',.int .i64 sz,.bool false]) ?_ rfl ⟨_,_,_,rfl,HFin.out⟩
      simp[results,Tryz.f55,go_sem,e0,e1,e2]
theorem step_app {P:Program} {ops:Array Oper} {o:Oper} {a:Act} {w w':World} {K:Act→World→Prop} {Q:Exit→Act→World→Prop} {E:Prop} {s x:Operand} {t:TypeId} {v u v':Value}
  (hrun:(Builtin.append_ #[t,t] o.type #[v,u]).run P w= .ok v' w') (hg:o.guard=none) (hop:o.op=Op.call {callee:=Callee.builtin Builtin.append,args:=#[s,x],argTypes:=#[t,t]}) (hs:a.eval s=v) (hx:a.eval x=u) (hK:K (a.put o.dst v') w') :
  if Region.wanted o (yielded ops a.tmps)=true then Oper.wp P o a w K Q else E:=by
 have hw:Region.wanted o (yielded ops a.tmps)=true:=by simp[Region.wanted,hg]
 rw[if_pos hw];unfold Oper.wp
 simp[execOp,hop,resolve,invoke,builtin,hs,hx,hrun,Result.andThen]
 exact hK
theorem below_drew_in {a b:World} (h:Below a.drew.heap.size a.drew b):Below a.heap.size a b:=⟨h.os,h.tape,h.output,h.size,h.block⟩
def layW (w:World) (va:Value) (sz:Int) (f:Bool) (k z:Int) (vw vb vk:Value):World :=
 ((w.alloc (.cells #[va,.int .i64 sz,.bool f] 77)).alloc (.cells (cellsT k z vw vb vk) 34)).alloc (.cells #[.slice none 0 0,.int .i64 0,.bool false] 77)
theorem lay_boxes (w:World) (va:Value) (sz:Int) (f:Bool) (k z:Int) (vw vb vk:Value) :
  SBox (layW w va sz f k z vw vb vk) w.heap.size va sz f∧TBox (layW w va sz f k z vw vb vk) (w.heap.size+1) k z vw vb vk∧SBox (layW w va sz f k z vw vb vk) (w.heap.size+2) (.slice none 0 0) 0 false∧Below w.heap.size w (layW w va sz f k z vw vb vk)∧(layW w va sz f k z vw vb vk).heap.size=w.heap.size+3:=by
 unfold layW;obtain ⟨W1,hW1⟩:∃W1,W1=w.alloc (.cells #[va,.int .i64 sz,.bool f] 77):=⟨_,rfl⟩;have s1:SBox W1 w.heap.size va sz f:=by rw[hW1];exact SBox.new _ _ _ _
 have z1:W1.heap.size=w.heap.size+1:=by rw[hW1];simp
 have b1:Below w.heap.size w W1:=by rw[hW1];exact (Below.refl _ _).alloc (Nat.le_refl _) _
 rw[←hW1];obtain ⟨W2,hW2⟩:∃W2,W2=W1.alloc (.cells (cellsT k z vw vb vk) 34):=⟨_,rfl⟩;have b2:Below W1.heap.size W1 W2:=by rw[hW2];exact (Below.refl _ _).alloc (Nat.le_refl _) _
 have t2:TBox W2 (w.heap.size+1) k z vw vb vk:=by rw[hW2,←z1];exact TBox.new _ _ _ _ _ _
 have z2:W2.heap.size=w.heap.size+2:=by rw[hW2];simp;omega
 rw[←hW2];have b3:Below W2.heap.size W2 (W2.alloc (.cells #[.slice none 0 0,.int .i64 0,.bool false] 77)):=(Below.refl _ _).alloc (Nat.le_refl _) _;refine ⟨(s1.on b2).on b3,t2.on b3,?_,b1.trans ((b2.mono (by omega)).trans (b3.mono (by omega))),by simp;omega⟩
 rw[←z2];exact SBox.new _ _ _ _
theorem ArP.put {w:World} {P:Nat→Prop} {va:Value} {a:List (List Int)} (h:ArP w P va a) {g:Nat} (hg:∀b,P b→b≠g) (a0 a1 a2:Value):ArP (((w.setCell ⟨g,0,none⟩ a0).setCell ⟨g,1,none⟩ a1).setCell ⟨g,2,none⟩ a2) P va a:=h.keep (fun b hb=>set3_other w g _ _ _ (hg b hb))
theorem size_set3 (w:World) (g:Nat) (a0 a1 a2:Value):(((w.setCell ⟨g,0,none⟩ a0).setCell ⟨g,1,none⟩ a1).setCell ⟨g,2,none⟩ a2).heap.size=w.heap.size:=by rw[nblk_setCell,nblk_setCell,nblk_setCell]
def LayR (sz:Nat) (P:Nat→Prop) (w:World) (st:St):Ending→World→Prop:=fun e w' =>
 ∃A' n' c',e= .returned (.agg #[.slice A' n' c',.int .i64 sz,.bool st.full])∧ArP w' (fun b=>P b∨(w.heap.size≤b∧b<w'.heap.size)) (.slice A' n' c') st.a∧n'=st.a.length∧Below w.heap.size w w'
def RLayC (sz:Nat) (t:Tr):Prop :=
 ∀(left:Nat) (v:Value) (n:Nat) (A:Option Addr) (c:Nat) (a:List (List Int)) (f:Bool) (s i:Nat) (w:World) (P:Nat→Prop),(∀b,P b→b<w.heap.size)→deepB t left=true→TrV w w.heap.size t v→ArP w P (.slice A n c) a→n=a.length→0<n→(f=false→(∃x,Has a s i x)∧RoomA sz a) →
  Calls Tryz.prog 34 #[.agg #[.slice A n c,.int .i64 sz,.bool f],v,.int .i64 s,.int .i64 i] w (LayR sz P w (lay sz t ⟨a,f⟩ s i))
set_option maxHeartbeats 1000000 in
theorem rlay_none (sz:Nat) (k z:Int) (ws bs:List Int) (ks:List Tr) (v:Value) (n:Nat) (A:Option Addr) (c:Nat) (a:List (List Int)) (f:Bool) (s i:Nat) (w:World) (P:Nat→Prop) (hPw:∀b,P b→b<w.heap.size) (h0:k=0∨f=true) (hT:TrV w w.heap.size (.mk k z ws bs ks) v) (hA:ArP w P (.slice A n c) a) (hn:n=a.length) :
  Calls Tryz.prog 34 #[.agg #[.slice A n c,.int .i64 sz,.bool f],v,.int .i64 s,.int .i64 i] w (LayR sz P w (lay sz (.mk k z ws bs ks) ⟨a,f⟩ s i)):=by
 have hl:lay sz (.mk k z ws bs ks) ⟨a,f⟩ s i=⟨a,f⟩:=by
  unfold lay;rw[if_pos h0]
 rw[hl];clear hl;unfold LayR;dsimp only;obtain ⟨A1,c1,A2,c2,A3,c3,rfl,-⟩:=hT.parts;clear hT;generalize ws.length=nw at *
 generalize bs.length=nb at *
 generalize ks.length=nk at *
 obtain ⟨s3,t3,r3,b3,z3⟩:=lay_boxes w (.slice A n c) sz f k z (.slice A1 nw c1) (.slice A2 nb c2) (.slice A3 nk c3);obtain ⟨W3,hW3⟩:∃W3,W3=layW w (.slice A n c) sz f k z (.slice A1 nw c1) (.slice A2 nb c2) (.slice A3 nk c3):=⟨_,rfl⟩;rw[←hW3] at s3 t3 r3 b3 z3;obtain ⟨W4,hW4⟩:∃W4,W4=((W3.setCell ⟨w.heap.size+2,0,none⟩ (.slice A n c)).setCell ⟨w.heap.size+2,1,none⟩ (.int .i64 sz)).setCell ⟨w.heap.size+2,2,none⟩ (.bool f):=⟨_,rfl⟩;have r4:SBox W4 (w.heap.size+2) (.slice A n c) sz f:=by rw[hW4];exact r3.set3 _ _ _
 have b4:Below w.heap.size w W4:=by rw[hW4];exact below_set3 b3 (by omega) _ _ _
 have HR4:=LH r4;have hA4:ArP W4 (fun b=>P b∨(w.heap.size≤b∧b<W4.heap.size)) (.slice A n c) a:=(hA.keep (fun b hb=>b4.block b (hPw b hb))).mono (fun b hb=> .inl hb)
 have HFin:=LH (And.intro hA4 (And.intro hn b4));obtain ⟨x0,x1,x2⟩:=s3.cells;obtain ⟨d0,d1,d2,d3,d4⟩:=t3.cells;obtain ⟨y0,y1,y2⟩:=r3.cells;have f0:=r3.frozen 0;have f1:=r3.frozen 1;have f2:=r3.frozen 2;unfold layW cellsT at hW3;unfold cellsT;clear hA hA4 hn r4 b4 s3 t3 r3 b3 z3
 by_cases hk:k=0
 ·subst hk;clear h0;go_enter Tryz.func34,Tryz.ntmps34;go_upto_region 1 with fail
  rw[←hW3];clear hW3
  go_wp2_with fail
  rw[←hW4];obtain ⟨e0,e1,e2⟩:=HR4.out.cells;refine bodyPost_ret (v:= .agg #[.slice A n c,.int .i64 sz,.bool f]) ?_ rfl ⟨_,_,_,rfl,HFin.out⟩
  simp[results,Tryz.f34,go_sem,e0,e1,e2]
 ·obtain rfl:f=true:=h0.resolve_left hk;have hk0:(k == 0)=false:=beq_eq_false_iff_ne.2 hk;clear h0 hk;go_enter Tryz.func34,Tryz.ntmps34;go_upto_region 1 with fail
  rw[←hW3];clear hW3
  go_wp2_with fail
  rw[←hW4];obtain ⟨e0,e1,e2⟩:=HR4.out.cells;refine bodyPost_ret (v:= .agg #[.slice A n c,.int .i64 sz,.bool true]) ?_ rfl ⟨_,_,_,rfl,HFin.out⟩
  simp[results,Tryz.f34,go_sem,e0,e1,e2]
def LCells (w:World) (va:Value) (sz:Int) (f:Bool) (k z:Int) (vw vb vk:Value) (X:World):Prop :=
 X.cell? ⟨w.heap.size,0,none⟩=some va∧X.cell? ⟨w.heap.size,1,none⟩=some (.int .i64 sz)∧X.cell? ⟨w.heap.size,2,none⟩=some (.bool f)∧X.cell? ⟨w.heap.size+1,0,none⟩=some (.int .i64 k)∧X.cell? ⟨w.heap.size+1,1,none⟩=some (.int .i64 z)∧X.cell? ⟨w.heap.size+1,2,none⟩=some vw∧X.cell? ⟨w.heap.size+1,3,none⟩=some vb∧X.cell? ⟨w.heap.size+1,4,none⟩=some vk
theorem lcells {w X:World} {va:Value} {sz:Int} {f:Bool} {k z:Int} {vw vb vk:Value} (h:SBox X w.heap.size va sz f) (h':TBox X (w.heap.size+1) k z vw vb vk):LCells w va sz f k z vw vb vk X:=⟨h.cells.1,h.cells.2.1,h.cells.2.2,h'.cells⟩
set_option maxHeartbeats 1000000 in
theorem rlay_zero (sz:Nat) (k z:Int) (ws bs:List Int) (ks:List Tr) (left:Nat) (v:Value) (n:Nat) (A:Option Addr) (c:Nat) (a:List (List Int)) (s i:Nat) (w:World) (P:Nat→Prop) (hPw:∀b,P b→b<w.heap.size) (hk:k≠0) (hd:deepB (.mk k z ws bs ks) left=true) (hn0:needT (.mk k z ws bs ks)=0) (hT:TrV w w.heap.size (.mk k z ws bs ks) v) (hA:ArP w P (.slice A n c) a) (hn:n=a.length)
  (hH:∃x,Has a s i x) (hR:RoomA sz a) (hsz:sz≤4096) :
  Calls Tryz.prog 34 #[.agg #[.slice A n c,.int .i64 sz,.bool false],v,.int .i64 s,.int .i64 i] w (LayR sz P w (lay sz (.mk k z ws bs ks) ⟨a,false⟩ s i)):=by
 obtain ⟨hk2,-,-⟩:=need_one hd hk;obtain ⟨x,hx⟩:=hH;obtain ⟨hs,hi⟩:=hx.lt;obtain ⟨off,hoff⟩:∃off:Int,off=if k=1 then -1 else 0:=⟨_,rfl⟩
 have hl:lay sz (.mk k z ws bs ks) ⟨a,false⟩ s i=⟨setA a s i (nearW (.mk k z ws bs ks) off),false⟩:=by
  rw[lay_noth s i hk rfl hn0,←hoff]
  rfl
 rw[hl];clear hl;unfold LayR;dsimp only;have hal:n=(setA a s i (nearW (.mk k z ws bs ks) off)).length:=by rw[setA_len];exact hn
 have HNe:=LH (fun X (hX:Below w.heap.size w X)=>rnear_any k z ws bs ks v off X (hT.on hX))
 have HNd:=LH (fun X (hX:Below w.heap.size w X)=>rneed_any _ v X (hT.on hX))
 rw[hn0] at HNd;have HSet:=LH (fun X (hX:Below w.heap.size w X)=>rset_any n A c a sz false s i (nearW (.mk k z ws bs ks) off) X P (fun b hb=>Nat.lt_of_lt_of_le (hPw b hb) hX.size) (hA.keep (fun b hb=>hX.block b (hPw b hb))) hn (by omega) hi (by have:=hR.2.1;omega) (Nat.le_trans (hR.at_ s) (by omega)))
 obtain ⟨A1,c1,A2,c2,A3,c3,rfl,-⟩:=hT.parts;clear hT;generalize nearW (.mk k z ws bs ks) off=N at *
 generalize setA a s i N=a2 at *
 generalize ws.length=nw at *
 generalize bs.length=nb at *
 generalize ks.length=nk at *
 obtain ⟨s3,t3,r3,b3,z3⟩:=lay_boxes w (.slice A n c) sz false k z (.slice A1 nw c1) (.slice A2 nb c2) (.slice A3 nk c3);obtain ⟨W3,hW3⟩:∃W3,W3=layW w (.slice A n c) sz false k z (.slice A1 nw c1) (.slice A2 nb c2) (.slice A3 nk c3):=⟨_,rfl⟩;rw[←hW3] at s3 t3 r3 b3 z3;have HS3:=LH s3;have HT3:=LH t3;have HR3:=LH r3;have HB3:=LH b3;have HPw:=LH hPw;have hk0:(k == 0)=false:=beq_eq_false_iff_ne.2 hk;obtain ⟨x0,x1,x2⟩:=s3.cells;obtain ⟨d0,d1,d2,d3,d4⟩:=t3.cells;unfold layW cellsT at hW3;unfold cellsT at HNe HNd ⊢;have Hal:=LH hal;have Hoff:=LH hoff;clear hA hPw s3 t3 r3 b3 hx hR hn hn0 hd hs hi hal hoff;have hkk:k=1∨k=2:=hk2;clear hk2 hk;go_enter Tryz.func34,Tryz.ntmps34;go_upto_region 1 with fail
 rw[←hW3];clear hW3
 go_wp2_with fail
 refine (HNd.out _ HB3.out).mono ?_
 rintro e w4 ⟨rfl,hB4⟩;have hB4w:=HB3.out.trans (hB4.mono (by omega));have hz4:w.heap.size+3≤w4.heap.size:=by have:=hB4.size;omega
 have HCell:Hid (∀X,Below w4.drew.heap.size w4.drew X→LCells w (.slice A n c) sz false k z (.slice A1 nw c1) (.slice A2 nb c2) (.slice A3 nk c3) X):=LH (fun X hX=>lcells ((HS3.out.on hB4).on (below_drew_in hX)) ((HT3.out.on hB4).on (below_drew_in hX)))
 have HNr:=LH (HNe.out w4.drew hB4w.drew);have HSt:=LH (fun X (hX:Below w4.drew.heap.size w4.drew X)=>(HSet.out X (hB4w.trans ((below_drew_in hX).mono (by omega)))).mono (R':=fun e w'=>∃A' c',e= .returned (.agg #[.slice A' n c',.int .i64 sz,.bool false])∧w'.cell? ⟨w.heap.size+2,0,none⟩=some (.slice none 0 0)∧w'.cell? ⟨w.heap.size+2,1,none⟩=some (.int .i64 0)∧w'.cell? ⟨w.heap.size+2,2,none⟩=some (.bool false)∧w'.frozen? ⟨w.heap.size+2,0,none⟩=false∧w'.frozen? ⟨w.heap.size+2,1,none⟩=false∧w'.frozen? ⟨w.heap.size+2,2,none⟩=false ∧
  (SBox (((w'.setCell ⟨w.heap.size+2,0,none⟩ (.slice A' n c')).setCell ⟨w.heap.size+2,1,none⟩ (.int .i64 sz)).setCell ⟨w.heap.size+2,2,none⟩ (.bool false)) (w.heap.size+2) (.slice A' n c') sz false∧ArP (((w'.setCell ⟨w.heap.size+2,0,none⟩ (.slice A' n c')).setCell ⟨w.heap.size+2,1,none⟩ (.int .i64 sz)).setCell ⟨w.heap.size+2,2,none⟩ (.bool false)) (fun b=>P b∨(w.heap.size≤b∧b<(((w'.setCell ⟨w.heap.size+2,0,none⟩ (.slice A' n c')).setCell ⟨w.heap.size+2,1,none⟩ (.int .i64 sz)).setCell ⟨w.heap.size+2,2,none⟩ (.bool false)).heap.size)) (.slice A' n c') a2∧n=a2.length∧Below w.heap.size w (((w'.setCell ⟨w.heap.size+2,0,none⟩ (.slice A' n c')).setCell ⟨w.heap.size+2,1,none⟩ (.int .i64 sz)).setCell ⟨w.heap.size+2,2,none⟩ (.bool false)))) (by
   rintro e w' ⟨A',c',rfl,hAr,hBs⟩;have hXs:=(below_drew_in hX).size;have hr:=(HR3.out.on hB4).on ((below_drew_in hX).trans (hBs.mono hXs));have hbw:=(hB4w.trans ((below_drew_in hX).mono (by omega))).trans (hBs.mono (by omega));refine ⟨A',c',rfl,hr.cells.1,hr.cells.2.1,hr.cells.2.2,hr.frozen 0,hr.frozen 1,hr.frozen 2,hr.set3 _ _ _,?_,Hal.out,below_set3 hbw (by omega) _ _ _⟩;rw[size_set3];exact (hAr.put (fun b hb=>by rcases hb with hb | hb;have:=HPw.out b hb;omega;omega) _ _ _).mono (fun b hb=>by rcases hb with hb | hb;exact .inl hb;exact .inr ⟨by omega,hb.2⟩)))
 have hC4:=lcells (HS3.out.on hB4) (HT3.out.on hB4);unfold LCells at HCell hC4;obtain ⟨u0,u1,u2,u3,u4,u5,u6,u7⟩:=hC4;clear hB4 hB4w HNe HNd HSet x0 x1 x2 d0 d1 d2 d3 d4;have hDD:Below w4.drew.heap.size w4.drew w4.drew:=Below.refl _ _;obtain ⟨x0,x1,x2,d0,d1,d2,d3,d4⟩:=HCell.out _ hDD
 rcases hkk with rfl | rfl
 ·obtain rfl:off= -1:=by rw[Hoff.out];rfl
  go_wp2_with fail
  go_region_law (first | (go_simp;go_at_call 54;with_reducible refine HNr.out.mono ?_;rintro e w5 ⟨rfl,hB0⟩;have HC:=LH (HSt.out w5 hB0);obtain ⟨x0,x1,x2,d0,d1,d2,d3,d4⟩:=HCell.out w5 hB0) | (go_simp;go_at_call 53;with_reducible refine HC.out.mono ?_;rintro e w6 ⟨A',c',rfl,y0,y1,y2,f0,f1,f2,hfin⟩;have HFin:=LH hfin;clear hfin))
  all_goals go_wp2_with fail
  all_goals obtain ⟨e0,e1,e2⟩:=HFin.out.1.cells
  all_goals refine bodyPost_ret (v:= .agg #[.slice A' n c',.int .i64 sz,.bool false]) ?_ rfl ⟨_,_,_,rfl,HFin.out.2⟩
  all_goals simp[results,Tryz.f34,go_sem,e0,e1,e2]
 ·obtain rfl:off=0:=by rw[Hoff.out];rfl
  go_wp2_with fail
  go_region_law (first | (go_simp;go_at_call 54;with_reducible refine HNr.out.mono ?_;rintro e w5 ⟨rfl,hB0⟩;have HC:=LH (HSt.out w5 hB0);obtain ⟨x0,x1,x2,d0,d1,d2,d3,d4⟩:=HCell.out w5 hB0) | (go_simp;go_at_call 53;with_reducible refine HC.out.mono ?_;rintro e w6 ⟨A',c',rfl,y0,y1,y2,f0,f1,f2,hfin⟩;have HFin:=LH hfin;clear hfin))
  all_goals go_wp2_with fail
  all_goals obtain ⟨e0,e1,e2⟩:=HFin.out.1.cells
  all_goals refine bodyPost_ret (v:= .agg #[.slice A' n c',.int .i64 sz,.bool false]) ?_ rfl ⟨_,_,_,rfl,HFin.out.2⟩
  all_goals simp[results,Tryz.f34,go_sem,e0,e1,e2]
structure LSt (w:World) (P:Nat→Prop) (sz:Nat) (k z:Int) (vw vb vk:Value) (A:Option Addr) (n c:Nat) (st:St) (X:World):Prop where
 len:n=st.a.length
 box:SBox X w.heap.size (.slice A n c) sz st.full
 tree:TBox X (w.heap.size+1) k z vw vb vk
 res:SBox X (w.heap.size+2) (.slice none 0 0) 0 false
 ar:ArP X (fun b=>P b∨(w.heap.size+3≤b∧b<X.heap.size)) (.slice A n c) st.a
 below:Below w.heap.size w X
 size:w.heap.size+3≤X.heap.size
section
variable {w X:World} {P:Nat→Prop} {sz:Nat} {k z:Int} {vw vb vk:Value} {A:Option Addr} {n c:Nat} {st:St}
theorem LSt.hP (h:LSt w P sz k z vw vb vk A n c st X) (hPw:∀b,P b→b<w.heap.size):∀b,(P b∨(w.heap.size+3≤b∧b<X.heap.size))→b<X.heap.size:=fun b hb=>by
 rcases hb with hb | hb
 ·have:=hPw b hb;have:=h.size
  omega
 ·exact hb.2
theorem LSt.on (h:LSt w P sz k z vw vb vk A n c st X) (hPw:∀b,P b→b<w.heap.size) {Y:World} (hB:Below X.heap.size X Y):LSt w P sz k z vw vb vk A n c st Y :=
 ⟨h.len,h.box.on hB,h.tree.on hB,h.res.on hB,(h.ar.keep (fun b hb=>hB.block b (h.hP hPw b hb))).mono (fun b hb=>by
  have:=hB.size
  rcases hb with hb | hb
  ·exact .inl hb
  ·exact .inr ⟨hb.1,by omega⟩),h.below.trans (hB.mono (by have:=h.size;omega)),by have:=h.size;have:=hB.size;omega⟩
theorem LSt.lc (h:LSt w P sz k z vw vb vk A n c st X):LCells w (.slice A n c) sz st.full k z vw vb vk X:=lcells h.box h.tree
theorem LSt.put (h:LSt w P sz k z vw vb vk A n c st X) (hPw:∀b,P b→b<w.heap.size) {Y V:World} (hX:Below X.heap.size X Y) (hB:Below Y.heap.size Y V) {st':St} {A':Option Addr} {n' c':Nat} (hn:n'=st'.a.length)
  (hA:ArP V (fun b=>(P b∨(w.heap.size+3≤b∧b<X.heap.size))∨(Y.heap.size≤b∧b<V.heap.size)) (.slice A' n' c') st'.a) :
  LSt w P sz k z vw vb vk A' n' c' st' (((V.setCell ⟨w.heap.size,0,none⟩ (.slice A' n' c')).setCell ⟨w.heap.size,1,none⟩ (.int .i64 sz)).setCell ⟨w.heap.size,2,none⟩ (.bool st'.full)):=by
 have hXY:=hX.size;have hYV:=hB.size;have hz:=h.size;have hXV:Below X.heap.size X V:=hX.trans (hB.mono hXY);refine ⟨hn,(h.box.on hXV).set3 _ _ _,?_,?_,?_,below_set3 (h.below.trans (hXV.mono (by omega))) (Nat.le_refl _) _ _ _,by rw[size_set3];omega⟩
 ·exact (set3_other V w.heap.size _ _ _ (by omega)).trans (h.tree.on hXV)
 ·exact (set3_other V w.heap.size _ _ _ (by omega)).trans (h.res.on hXV)
 ·rw[size_set3];refine (hA.put (fun b hb=> ?_) _ _ _).mono (fun b hb=> ?_)
  ·rcases hb with (hb | hb) | hb
   ·have:=hPw b hb;omega
   ·omega
   ·omega
  ·rcases hb with (hb | hb) | hb
   ·exact .inl hb
   ·exact .inr ⟨hb.1,by omega⟩
   ·exact .inr ⟨by omega,hb.2⟩
def LPut (w:World) (P:Nat→Prop) (sz:Nat) (k z:Int) (vw vb vk:Value) (A:Option Addr) (n c:Nat) (st:St) (A':Option Addr) (n' c':Nat) (st':St) (V:World):Prop :=
 V.cell? ⟨w.heap.size,0,none⟩=some (.slice A n c)∧V.cell? ⟨w.heap.size,1,none⟩=some (.int .i64 sz)∧V.cell? ⟨w.heap.size,2,none⟩=some (.bool st.full)∧V.frozen? ⟨w.heap.size,0,none⟩=false∧V.frozen? ⟨w.heap.size,1,none⟩=false∧V.frozen? ⟨w.heap.size,2,none⟩=false ∧
  LSt w P sz k z vw vb vk A' n' c' st' (((V.setCell ⟨w.heap.size,0,none⟩ (.slice A' n' c')).setCell ⟨w.heap.size,1,none⟩ (.int .i64 sz)).setCell ⟨w.heap.size,2,none⟩ (.bool st'.full))
theorem LSt.lput (h:LSt w P sz k z vw vb vk A n c st X) (hPw:∀b,P b→b<w.heap.size) {Y V:World} (hX:Below X.heap.size X Y) (hB:Below Y.heap.size Y V) {st':St} {A':Option Addr} {n' c':Nat} (hn:n'=st'.a.length)
  (hA:ArP V (fun b=>(P b∨(w.heap.size+3≤b∧b<X.heap.size))∨(Y.heap.size≤b∧b<V.heap.size)) (.slice A' n' c') st'.a):LPut w P sz k z vw vb vk A n c st A' n' c' st' V:=by
 have hb:=(h.on hPw (hX.trans (hB.mono hX.size))).box;exact ⟨hb.cells.1,hb.cells.2.1,hb.cells.2.2,hb.frozen 0,hb.frozen 1,hb.frozen 2,h.put hPw hX hB hn hA⟩
theorem LSt.setC {a:List (List Int)} (h:LSt w P sz k z vw vb vk A n c ⟨a,false⟩ X) (hPw:∀b,P b→b<w.heap.size) {Y:World} (hX:Below X.heap.size X Y) (s i:Nat) (x:Int) (hs:s<n) (hi:i<(a[s]?.getD []).length) (hk:n≤1000000) (hl:(a[s]?.getD []).length≤1000000) :
  Calls Tryz.prog 53 #[.agg #[.slice A n c,.int .i64 sz,.bool false],.int .i64 s,.int .i64 i,.int .u64 x] Y fun e V=>∃A' c',e= .returned (.agg #[.slice A' n c',.int .i64 sz,.bool false])∧LPut w P sz k z vw vb vk A n c ⟨a,false⟩ A' n c' ⟨setA a s i x,false⟩ V∧Below Y.heap.size Y V ∧
   ArP V (fun b=>(P b∨(w.heap.size+3≤b∧b<X.heap.size))∨(X.heap.size≤b∧b<V.heap.size)) (.slice A' n c') (setA a s i x):=by
 refine (rset_any n A c a sz false s i x Y (fun b=>P b∨(w.heap.size+3≤b∧b<X.heap.size)) (fun b hb=>Nat.lt_of_lt_of_le (h.hP hPw b hb) hX.size) (h.ar.keep (fun b hb=>hX.block b (h.hP hPw b hb))) h.len hs hi hk hl).mono ?_
 rintro e V ⟨A',c',rfl,hA,hB⟩;have hXY:=hX.size;exact ⟨A',c',rfl,h.lput hPw hX hB (by rw[show (⟨setA a s i x,false⟩:St).a=setA a s i x from rfl,setA_len];exact h.len) hA,hB,hA.mono (fun b hb=>by
  rcases hb with hb | hb
  ·exact .inl hb
  ·exact .inr ⟨by omega,hb.2⟩)⟩
theorem LSt.moreC (h:LSt w P sz k z vw vb vk A n c st X) (hPw:∀b,P b→b<w.heap.size) {Y:World} (hX:Below X.heap.size X Y) {A1:Option Addr} {n1 c1:Nat} {a:List (List Int)} {f:Bool} (hn:n1=a.length) (hA:ArP Y (fun b=>(P b∨(w.heap.size+3≤b∧b<X.heap.size))∨(X.heap.size≤b∧b<Y.heap.size)) (.slice A1 n1 c1) a) (hp:0<n1)
  (seg:Nat) (hs:seg≤n1) (Al:Option Addr) (m cl:Nat) (l:List Int) (hl:NumS .u64 Y Y.heap.size (.slice Al m cl) l) (hk:n1≤1000000) (hm:l.length≤1000000) (hlen:lenS a≤1000000) :
  Calls Tryz.prog 55 #[.agg #[.slice A1 n1 c1,.int .i64 sz,.bool f],.int .i64 seg,.slice Al m cl] Y fun e V=>∃A' n' c',e= .returned (.agg #[.slice A' n' c',.int .i64 sz,.bool (moreW sz ⟨a,f⟩ seg l).full])∧LPut w P sz k z vw vb vk A n c st A' n' c' (moreW sz ⟨a,f⟩ seg l) V:=by
 have hXY:=hX.size;refine (rmore_any n1 A1 c1 a sz f seg Al m cl l Y (fun b=>(P b∨(w.heap.size+3≤b∧b<X.heap.size))∨(X.heap.size≤b∧b<Y.heap.size)) (fun b hb=>by
  rcases hb with hb | hb
  ·exact Nat.lt_of_lt_of_le (h.hP hPw b hb) hXY
  ·exact hb.2) hA hn hp hs hl hk hm hlen).mono ?_
 rintro e V ⟨A',n',c',rfl,hA',hn',hB⟩;have hYV:=hB.size;exact ⟨A',n',c',rfl,h.lput hPw (Below.refl _ _) (hX.trans (hB.mono hXY)) hn' (hA'.mono (fun b hb=>by
  rcases hb with (hb | hb) | hb
  ·exact .inl hb
  ·exact .inr ⟨hb.1,by omega⟩
  ·exact .inr ⟨by omega,hb.2⟩))⟩
theorem LSt.layC (h:LSt w P sz k z vw vb vk A n c st X) (hPw:∀b,P b→b<w.heap.size) {Y:World} (hX:Below X.heap.size X Y) {t:Tr} (ih:RLayC sz t) (left:Nat) (v:Value) (s i:Nat) (hd:deepB t left=true) (hT:TrV Y Y.heap.size t v) (hp:0<n) (hf:st.full=false→(∃x,Has st.a s i x)∧RoomA sz st.a) :
  Calls Tryz.prog 34 #[.agg #[.slice A n c,.int .i64 sz,.bool st.full],v,.int .i64 s,.int .i64 i] Y fun e V=>∃A' n' c',e= .returned (.agg #[.slice A' n' c',.int .i64 sz,.bool (lay sz t st s i).full])∧LPut w P sz k z vw vb vk A n c st A' n' c' (lay sz t st s i) V:=by
 obtain ⟨a,f⟩:=st;refine (ih left v n A c a f s i Y (fun b=>P b∨(w.heap.size+3≤b∧b<X.heap.size)) (fun b hb=>Nat.lt_of_lt_of_le (h.hP hPw b hb) hX.size) hd hT (h.ar.keep (fun b hb=>hX.block b (h.hP hPw b hb))) h.len hp hf).mono ?_
 rintro e V ⟨A',n',c',rfl,hA',hn',hB⟩;exact ⟨A',n',c',rfl,h.lput hPw hX hB hn' hA'⟩
end
theorem one_in8 (q:IntKind) (t:Nat) (w:World) (x:Int):NumS q (w.alloc (.cells #[.int q x] t)) (w.alloc (.cells #[.int q x] t)).heap.size (.slice (some ⟨w.heap.size,0,none⟩) 1 1) [x]:=by
 refine ⟨_,1,rfl,by simp,by omega,fun _=>⟨w.heap.size,0,rfl,by simp,fun j hj=> ?_⟩⟩
 obtain rfl:j=0:=by simp at hj;omega
 have:=cell_one_new w (.int q x) t 0 (.int q x) rfl
 rwa [Addr.add_lit] at this
def ptSt (sz:Nat) (t:Tr) (st:St) (s i:Nat):St × Nat × Nat :=
 if s=st.a.length - 1∧(st.a[st.a.length - 1]?.getD []).length+needT t≤sz then (setW st s i (nearW t (((st.a[st.a.length - 1]?.getD []).length:Int) - i - 1)),st.a.length - 1,(st.a[st.a.length - 1]?.getD []).length)
 else if s=st.a.length - 1∨sz<(st.a[st.a.length - 1]?.getD []).length+needT t+1 then (moreW sz (setW st s i (farW (st.a.length - 1+1) 0)) (st.a.length - 1+1) [nearW t 0],st.a.length - 1+1,0+1)
 else (moreW sz (setW st s i (farW (st.a.length - 1) (st.a[st.a.length - 1]?.getD []).length)) (st.a.length - 1) [nearW t 0],st.a.length - 1,(st.a[st.a.length - 1]?.getD []).length+1)
theorem laySt_pt (sz:Nat) (t:Tr) (st:St) (s i:Nat):laySt sz t st s i=(moreW sz (ptSt sz t st s i).1 (ptSt sz t st s i).2.1 (contentT t),(ptSt sz t st s i).2.1,(ptSt sz t st s i).2.2):=by
 unfold laySt ptSt;dsimp only
 by_cases h1:s=st.a.length - 1∧(st.a[st.a.length - 1]?.getD []).length+needT t≤sz
 ·rw[if_pos h1,if_pos h1]
 ·rw[if_neg h1,if_neg h1]
  by_cases h2:s=st.a.length - 1∨sz<(st.a[st.a.length - 1]?.getD []).length+needT t+1
  ·simp only[if_pos h2]
  ·simp only[if_neg h2]
theorem need_small {k z:Int} {ws bs:List Int} {ks:List Tr} {left:Nat} (hd:deepB (.mk k z ws bs ks) left=true) (hk:k≠0):needT (.mk k z ws bs ks)≤4096:=by
 unfold deepB at hd;rw[if_neg hk] at hd;simp only[Bool.and_eq_true] at hd;have h:=hd.1;unfold oneB at h
 by_cases h2:k=2
 ·subst h2;rw[if_pos rfl] at h;have h:=of_decide_eq_true h;rw[need2]
  omega
 ·rw[if_neg h2] at h;have h:=of_decide_eq_true h;obtain ⟨rfl,h3⟩:=h;rw[need1]
  omega
theorem ptSt_bd {sz:Nat} {t:Tr} {a:List (List Int)} {s i:Nat} (hR:RoomA sz a) (hs:s<a.length) :
  0<(ptSt sz t ⟨a,false⟩ s i).1.a.length∧(ptSt sz t ⟨a,false⟩ s i).1.a.length≤17∧(ptSt sz t ⟨a,false⟩ s i).2.1<(ptSt sz t ⟨a,false⟩ s i).1.a.length∧lenS (ptSt sz t ⟨a,false⟩ s i).1.a≤4097∧(ptSt sz t ⟨a,false⟩ s i).2.2≤4097:=by
 have h1:=hR.2.1;have h2:=hR.2.2;have h3:=seg_leS a (a.length - 1);have hsl:(setA a s i 0).length=a.length:=setA_len _ _ _ _;have e1:∀x,(setW ⟨a,false⟩ s i x).a=setA a s i x:=fun _=>rfl
 have e2:∀x seg y,(moreW sz (setW ⟨a,false⟩ s i x) seg [y]).a=(preA (setA a s i x) seg).set seg ((preA (setA a s i x) seg)[seg]?.getD [] ++ [y]):=fun _ _ _=>rfl
 have e3:∀x,lenS (setA a s i x)=lenS a:=fun x=>setA_lenS _ _ _ _
 unfold ptSt;dsimp only
 split
 ·dsimp only;rw[e1,setA_len,e3]
  omega
 ·split
  ·dsimp only;have hp:∀x,preA (setA a s i x) (a.length - 1+1)=setA a s i x ++ [[]]:=fun x=>by
    unfold preA;rw[if_pos (by rw[setA_len];omega)]
   rw[e2,List.length_set,lenS_app (by rw[hp,List.length_append,setA_len];simp;omega),hp,List.length_append,setA_len];have:∀x,lenS (setA a s i x ++ [[]])=lenS a:=fun x=>by rw[←e3 x];simp[lenS]
   rw[this]
   simp
   omega
  ·dsimp only;have hp:∀x,preA (setA a s i x) (a.length - 1)=setA a s i x:=fun x=>by
    unfold preA;rw[if_neg (by rw[setA_len];omega)]
   rw[e2,List.length_set,lenS_app (by rw[hp,setA_len];omega),hp,setA_len,e3]
   simp
   omega
end Go.Proofs.YtmmlfnblodfjbaaGreatDoor
