/- Layer 8, the landed package: point: the pointer of what is laid next. -/
import Derived.Test.YtmmlfnblodfjbaaGreatDoorQBuNumB
import Derived.Test.YtmmlfnblodfjbaaGreatDoorQBuD
import Derived.Deep.DeepCutAuto
set_option maxRecDepth 100000
namespace Go.Proofs.YtmmlfnblodfjbaaGreatDoor
open Go.RowKit Go.Deep
theorem keep_of_below {base:Nat} {lp:Option Nat} {W X:World} (h:Below W.heap.size W X) (hb:base≤W.heap.size):KeepR base lp W X:=(KeepR.refl base lp W).new hb h
theorem need_bd {t:Tr} {v:Value} {W:World} {base:Nat} (hT:TrV W base t v):needT t≤3000000:=by
 obtain ⟨k,z,ws,bs,ks⟩:=t;obtain ⟨A1,c1,A2,c2,A3,c3,e,hg,-⟩:=hT.parts;obtain ⟨-,-,g3,g4,g5,-⟩:=hg
 by_cases k1:k=1
 ·subst k1;rw[need1]
  omega
 ·by_cases k2:k=2
  ·subst k2;rw[need2]
   omega
  ·have hn:needT (.mk k z ws bs ks)=0:=by
    unfold needT;exact (if_neg k1).trans (if_neg k2)
   omega
theorem append_uL (w:World) (base ty:Nat) (v:Value) (xs:List Int) (x:Int) (hown:OwnU w base v xs) (hk:xs.length≤1000000000000) (hbase:base≤w.heap.size) :
  ∃v' w',(Builtin.append_ #[31,31] ty #[v,.slice (some ⟨w.heap.size,0,none⟩) 1 1]).run Tryz.prog (w.alloc (.cells #[.int .u64 x] 44))= .ok v' w'∧OwnU w' base v' (xs ++ [x])∧w.grownBy w' v.ownBlock∧(v'.ownBlock=v.ownBlock∨∀b,v'.ownBlock=some b→w.heap.size≤b):=by
 obtain ⟨i0,hi,hz0,hz1,hz2⟩:=info_parts Tryz.info44;obtain ⟨v',w',hrun,ho,hg,_,hl⟩:=run_append_own_at (P:=Tryz.prog) (w:=w.alloc (.cells #[.int .u64 x] 44)) base 31 ty 44 i0 _ 1 8 Tryz.underlying31 hi hz0 hz1 hz2 rfl (by decide) v xs.length (xs.map (Value.int .u64)) (World.ownsRow.alloc hown _) ⟨w.heap.size,0,none⟩ 1 1 [.int .u64 x] rfl (cell_one_new _ _ _) (fun u hu=>by simp at hu;subst hu;rfl) (by unfold maxLen;omega) (by omega) (by simp;omega)
 refine ⟨v',w',hrun,?_,grown_trans (World.grownBy_alloc w _ _) hg,hl.imp id (fun e b e2=> ?_)⟩
 ·unfold OwnU OwnN;rw[List.length_append,List.map_append];exact ho
 ·rw[e] at e2;cases e2
  simp
theorem TBox.other8 {X:World} {B:Nat} {k z:Int} {vw vb vk:Value} (h:TBox X B k z vw vb vk) {g i:Nat} {v:Value} (hne:B≠g):TBox (X.setCell ⟨g,i,none⟩ v) B k z vw vb vk:=(blk_setCell_other _ _ _ _ hne).trans h
set_option maxHeartbeats 4000000 in
theorem bpoint_any (t:Tr) (v:Value) {W:World} {base bb:Nat} {sz:Nat} {a:List (List Int)} {g c:Nat} {us:List Value} (h:BuS W base bb sz a g c us)
  (hL:∀X,Below base W X→Laid X) (hT:TrV W base t v) (hk:t.kind=0∨t.kind=1∨t.kind=2) {s i:Nat} (hs:s<a.length) (hi:i<(a[s]?.getD []).length) (hm:a.length≤16) (hl:∀j:Nat,(a[j]?.getD []).length≤4096) :
  Calls Tryz.prog 89 #[.pointer (some ⟨bb,0,none⟩),v,.int .i64 s,.int .i64 i] W fun e w'=>(∃x,e= .returned x)∧∃g' c' us',BuS w' base bb sz (pointA sz t a s i) g' c' us'∧KeepR base (some bb) W w':=by
 have hbW:base≤W.heap.size:=by have:=h.hbb;have:=h.lt;omega
 have hlast:lastL a≤4096:=hl _;have hnb:needT t≤3000000:=need_bd hT;have hTo:∀X,Below base W X→TrV X X.heap.size t v:=fun X hB=>TrV.more (by have:=hB.size;omega) t v (TrV.below hB (Nat.le_refl _) t v hT)
 have HS:=LH (fun X (hB:Below W.heap.size W X)=>h.on hB)
 have HN:=LH (fun X (hB:Below W.heap.size W X)=>need_any t v X (hTo X (hB.mono hbW)))
 have HNe:=LH (fun off X (hB:Below base W X)=>near_any t v off X (hL X hB) (hTo X hB) hk)
 have HLa:=LH (fun X (hB:Below W.heap.size W X)=>blast_any (h.on hB) (by omega) (by omega))
 have HH:=LH (fun k (hk:k≤10000000) X (hB:Below W.heap.size W X)=>bhas_any (h.on hB) (by omega) (by omega) (by omega) k hk)
 have HLd:=LH hL;obtain ⟨k,z,ws,bs,ks⟩:=t;obtain ⟨A1,c1,A2,c2,A3,c3,rfl,-⟩:=hT.parts;generalize ws.length=nw at *
 generalize bs.length=nb at *
 generalize ks.length=nk at *
 generalize (Tr.mk k z ws bs ks)=t at *
 have hb0:∀cs,Below W.heap.size W (W.alloc (.cells cs 34)):=fun _=>(Below.refl _ _).alloc (Nat.le_refl _) _
 have HB0:=LH (hb0 (cellsT k z (.slice A1 nw c1) (.slice A2 nb c2) (.slice A3 nk c3)));have HTB:=LH (TBox.new W k z (.slice A1 nw c1) (.slice A2 nb c2) (.slice A3 nk c3));clear hb0 hTo hL hT hk;obtain ⟨W1,hW1⟩:∃W1,W1=W.alloc (.cells (cellsT k z (.slice A1 nw c1) (.slice A2 nb c2) (.slice A3 nk c3)) 34):=⟨_,rfl⟩;rw[←hW1] at HB0 HTB;unfold cellsT at HN HNe hW1 ⊢;obtain ⟨m,hmm⟩:∃m:Nat,m=a.length - 1:=⟨_,rfl⟩;have HM:=LH hmm;rw[←hmm] at HLa;have hs':s≤16:=by omega
 have hi':i≤4096:=by have:=hl s;omega
 have hm':m≤16:=by omega
 have HA:=LH (show s<a.length∧i<(a[s]?.getD []).length∧a.length≤16∧lastL a≤4096 from ⟨hs,hi,hm,hlast⟩)
 clear hs hi hm hl hlast h hmm;go_enter Tryz.func89,Tryz.ntmps89;go_upto_region 1 with fail
 rw[←hW1];clear hW1
 go_cut [18] (fun s18 wx=>s18= .bool (decide (s=m∧lastL a+needT t≤sz))∧Below W1.heap.size W1 wx)
 case first =>
  obtain ⟨d0,d1,d2,d3,d4⟩:=HTB.out.cells
  go_wp2_with fail
  refine (HLa.out _ HB0.out).mono ?_
  rintro e w2 ⟨rfl,rfl⟩
  by_cases hsm:s=m
  ·subst hsm;have q0:((s:Int) == (s:Int))=true:=by simp
   go_wp2_with fail
   refine (HN.out _ HB0.out).mono ?_
   rintro e w3 ⟨rfl,hB3⟩;have HB3:=LH hB3;clear hB3
   go_wp2_with fail
   refine (HH.out _ (by omega) _ (bseq8 HB0.out HB3.out)).mono ?_
   rintro e w4 ⟨rfl,hB4⟩;have HB4:=LH (bseq8 HB3.out hB4);clear hB4
   go_wp2_with fail
   go_meet;exact ⟨by simp,HB4.out⟩
  ·have q0:((s:Int) == (m:Int))=false:=by rw[beq_eq_false_iff_ne];omega
   go_wp2_with fail
   go_meet;exact ⟨by simp[hsm],Below.refl _ _⟩
 case rest =>
  obtain ⟨rfl,hBc⟩:=hcut;have HBc:=LH hBc;have HBw:=LH (bseq8 HB0.out hBc);clear hBc;obtain ⟨gs,q,hu,hgs⟩:∃gs q,us[s]?.getD undef= .slice (some ⟨gs,0,none⟩) (a[s]?.getD []).length q∧gs<W.heap.size:=by
   obtain ⟨gs,q,e,_,e2⟩:=((HS.out W (Below.refl _ _)).segs s HA.out.1).out (by have:=HA.out.2.1;omega);exact ⟨gs,q,e,e2⟩
  have HU:=LH hu
  by_cases hc:s=m∧lastL a+needT t≤sz
  ·have HP:Hid (pointA sz t a s i=setA a s i (nearW t ((lastL a:Int) - (i+1)))):=LH (by unfold pointA;rw[if_pos (by rw[←HM.out];exact hc)]);have hLs:(a[s]?.getD []).length=lastL a:=by rw[hc.1,HM.out];rfl
   rw[hLs] at hu HU;have HK:Hid (∀X,Below wc.heap.size wc X→(X.cell? ⟨bb,0,none⟩=some (.slice (some ⟨g,0,none⟩) us.length c)∧X.cell? ⟨g,s,none⟩=some (.slice (some ⟨gs,0,none⟩) (lastL a) q)∧X.cell? ⟨W.heap.size,0,none⟩=some (.int .i64 k)∧X.cell? ⟨W.heap.size,1,none⟩=some (.int .i64 z)∧X.cell? ⟨W.heap.size,2,none⟩=some (.slice A1 nw c1)∧X.cell? ⟨W.heap.size,3,none⟩=some (.slice A2 nb c2)∧X.cell? ⟨W.heap.size,4,none⟩=some (.slice A3 nk c3))):=LH (fun X hX=>by
    have h1:=HS.out X (bseq8 HBw.out hX);exact ⟨h1.cells.1,by rw[h1.at_ HA.out.1,HU.out],(HTB.out.on (bseq8 HBc.out hX)).cells⟩)
   have HK2:Hid (∀X x,Below wc.heap.size wc X→((X.setCell ⟨gs,i,none⟩ (.int .u64 x)).cell? ⟨bb,0,none⟩=some (.slice (some ⟨g,0,none⟩) us.length c)∧(X.setCell ⟨gs,i,none⟩ (.int .u64 x)).cell? ⟨g,s,none⟩=some (.slice (some ⟨gs,0,none⟩) (lastL a) q)∧(X.setCell ⟨gs,i,none⟩ (.int .u64 x)).cell? ⟨W.heap.size,0,none⟩=some (.int .i64 k)∧(X.setCell ⟨gs,i,none⟩ (.int .u64 x)).cell? ⟨W.heap.size,1,none⟩=some (.int .i64 z)∧(X.setCell ⟨gs,i,none⟩ (.int .u64 x)).cell? ⟨W.heap.size,2,none⟩=some (.slice A1 nw c1)∧(X.setCell ⟨gs,i,none⟩ (.int .u64 x)).cell? ⟨W.heap.size,3,none⟩=some (.slice A2 nb c2)∧(X.setCell ⟨gs,i,none⟩ (.int .u64 x)).cell? ⟨W.heap.size,4,none⟩=some (.slice A3 nk c3))):=LH (fun X x hX=>by
    have h1:=(HS.out X (bseq8 HBw.out hX)).put (i:=i) HA.out.1 (by rw[HU.out,hLs]) x;exact ⟨h1.cells.1,by rw[h1.at_ (by rw[setA_len];exact HA.out.1),HU.out],((HTB.out.on (bseq8 HBc.out hX)).other8 (Nat.ne_of_gt hgs)).cells⟩)
   have HSt:Hid (∀X,Below wc.heap.size wc X→(∃y,X.cell? ⟨gs,i,none⟩=some y)∧X.frozen? ⟨gs,i,none⟩=false):=LH (fun X hX=>by
    have h1:=(HS.out X (bseq8 HBw.out hX)).segs s HA.out.1;rw[HU.out] at h1;unfold OwnU OwnN at h1;rw[hLs] at h1;exact ⟨⟨_,own_cell h1 (by rw[←hLs];exact HA.out.2.1)⟩,own_frozen h1⟩)
   have HFin:Hid (∀X,Below wc.heap.size wc X→∃g' c' us',BuS (X.setCell ⟨gs,i,none⟩ (.int .u64 (nearW t ((lastL a:Int) - (i+1))))) base bb sz (pointA sz t a s i) g' c' us'∧KeepR base (some bb) W (X.setCell ⟨gs,i,none⟩ (.int .u64 (nearW t ((lastL a:Int) - (i+1)))))):=LH (fun X hX=>by
    have h1:=HS.out X (bseq8 HBw.out hX);rw[HP.out];exact ⟨g,c,us,h1.put HA.out.1 (by rw[HU.out,hLs]) _,(keep_of_below (bseq8 HBw.out hX) hbW).trans (h1.put_keep HA.out.1 (by rw[HU.out,hLs]) _)⟩)
   rw[decide_eq_true hc];have hLb:lastL a≤4096:=HA.out.2.2.2;have hsn:(s:Int)<(us.length:Int):=by have:=(HS.out W (Below.refl _ _)).len;have:=HA.out.1;omega
   have hcap:=(HS.out W (Below.refl _ _)).cap;have hin:(i:Int)<(lastL a:Int):=by have:=HA.out.2.1;omega
   clear hc;have hT0:Below wc.heap.size wc wc.drew:=(Below.refl _ _).drew;have hW0b:=(bseq8 HBw.out hT0).mono hbW;clear hu hLs HP;generalize nearW t=nearF at *
   generalize lastL a=L at *
   generalize us.length=n at *
   have hw1:IntKind.i64.wrap ((i:Int)+1)=i+1:=IntWalk.i64_in _ (by omega);have hw2:IntKind.i64.wrap ((L:Int) - (i+1))=L - (i+1):=IntWalk.i64_in _ (by omega);have hK0:=HK.out _ hT0
   go_wp2_with fail
   go_region_held3 (fun w'=>w'.cell? ⟨bb,0,none⟩=some (.slice (some ⟨g,0,none⟩) n c)∧w'.cell? ⟨g,s,none⟩=some (.slice (some ⟨gs,0,none⟩) L q)∧w'.cell? ⟨W.heap.size,0,none⟩=some (.int .i64 k)∧w'.cell? ⟨W.heap.size,1,none⟩=some (.int .i64 z)∧w'.cell? ⟨W.heap.size,2,none⟩=some (.slice A1 nw c1)∧w'.cell? ⟨W.heap.size,3,none⟩=some (.slice A2 nb c2)∧w'.cell? ⟨W.heap.size,4,none⟩=some (.slice A3 nk c3)) (first | exact HK.out _ hT0 | exact HK.out _ hT5 | exact HK2.out _ _ hT5) (first
    | (go_at_call 122;with_reducible refine (HNe.out _ _ hW0b).mono ?_;rintro e w5 ⟨rfl,hB5⟩;have hT5:=bseq8 hT0 hB5;obtain ⟨⟨y5,hy5⟩,hf5⟩:=HSt.out _ hT5))
   all_goals go_wp2_with fail
   all_goals refine bodyPost_ret (results_none rfl _ _ _) rfl ?_
   all_goals exact ⟨⟨_,rfl⟩,HFin.out _ hT5⟩
  ·rw[decide_eq_false hc];have HP:Hid (pointA sz t a s i=appA (setA (growA sz (needT t+1) a) s i (farW ((growA sz (needT t+1) a).length - 1) (lastL (growA sz (needT t+1) a)))) [nearW t 0]):=LH (by unfold pointA;rw[if_neg (by rw[←HM.out];exact hc)]);clear hc hu;obtain ⟨N,hN⟩:∃N,N=needT t:=⟨_,rfl⟩;rw[←hN] at HN hnb HP;have HHN:=LH (HH.out (N+1) (by omega));have eN:((N+1:Nat):Int)=(N:Int)+1:=by omega
   rw[eN] at HHN;clear eN;clear hN;obtain ⟨d0,d1,d2,d3,d4⟩:=(HTB.out.on HBc.out).cells
   go_wp2_with fail
   refine (HN.out _ HBw.out).mono ?_
   rintro e w3 ⟨rfl,hB3⟩;have HB3:=LH (bseq8 HBw.out hB3);have HC3:=LH (bseq8 HBc.out hB3);clear hB3 d0 d1 d2 d3 d4
   go_wp2_with fail
   refine (HHN.out _ HB3.out).mono ?_
   rintro e w4 ⟨rfl,hB4⟩;have HB4:=LH (bseq8 HB3.out hB4);have HC4:=LH (bseq8 HC3.out hB4);clear hB4;obtain ⟨R,hR⟩:∃R,R=decide (lastL a+(N+1)≤sz):=⟨_,rfl⟩;rw[←hR];have HR:=LH hR;clear hR
   go_upto_if 46 with fail
   go_cut [] (fun wx=>(∃g1 c1 us1,BuS wx base bb sz (growA sz (N+1) a) g1 c1 us1)∧KeepR base (some bb) W wx∧TBox wx W.heap.size k z (.slice A1 nw c1) (.slice A2 nb c2) (.slice A3 nk c3))
   case first =>
    by_cases hg:lastL a+(N+1)≤sz
    ·have HG:Hid (growA sz (N+1) a=a):=LH (by unfold growA;rw[if_pos hg]);obtain rfl:R=true:=by rw[HR.out,decide_eq_true hg]
     clear hg HR
     go_wp2_with fail
     go_meet;exact ⟨⟨g,c,us,by rw[HG.out];exact HS.out _ HB4.out⟩,keep_of_below HB4.out hbW,HTB.out.on HC4.out⟩
    ·have HG:Hid (growA sz (N+1) a=a ++ [[]]):=LH (by unfold growA;rw[if_neg hg]);obtain rfl:R=false:=by rw[HR.out,decide_eq_false hg]
     clear hg HR;obtain ⟨g2,c2',W5,hrun,hS5,hK5,e5,f5⟩:=(HS.out _ HB4.out).more 23 (by have:=HA.out.2.2.1;omega);have HRun:=LH hrun;have HS5:=LH hS5;have HK5:=LH hK5;have HT5:Hid (TBox (W5.setCell ⟨bb,0,none⟩ (.slice (some ⟨g2,0,none⟩) (us.length+1) c2')) W.heap.size k z (.slice A1 nw c1) (.slice A2 nb c2) (.slice A3 nk c3)):=LH (hK5.same _ _ (by have:=(HS.out W (Below.refl _ _)).lt;simp;omega) (HTB.out.on HC4.out) rfl);have d0:=(HS.out _ HB4.out).cells.1;clear hrun hS5 hK5;generalize us.length=n at *
     go_wp2_with (at_builtin;refine Lib.wpList_append_run _ rfl _ _ _ _ rfl _ _ rfl rfl _ _ HRun.out ?_)
     go_meet;exact ⟨⟨g2,c2',_,by rw[HG.out];exact HS5.out⟩,(keep_of_below HB4.out hbW).trans HK5.out,HT5.out⟩
   case rest =>
    obtain ⟨⟨g1,q1,us1,hS1⟩,hK1,hT1⟩:=hcut;have HA1:Hid (s<(growA sz (N+1) a).length∧i<((growA sz (N+1) a)[s]?.getD []).length∧(growA sz (N+1) a).length≤17∧lastL (growA sz (N+1) a)≤4096):=LH (by
     have h:=HA.out;unfold growA
     split
     ·exact ⟨h.1,h.2.1,by omega,h.2.2.2⟩
     ·rw[List.getElem?_append_left h.1,List.length_append,lastL_new];exact ⟨by omega,h.2.1,by simp;omega,by omega⟩)
    generalize growA sz (N+1) a=a1 at *
    clear HB4 HC4 HB3 HC3 HBw HBc HR HH HLa HHN HN HM hgs;have HK1:=LH hK1;have HT1:=LH hT1;have HS1:=LH (fun X (hB:Below wc.heap.size wc X)=>hS1.on hB)
    have hbc:base≤wc.heap.size:=by have:=hK1.below.size;omega
    have HLa:=LH (blast_any hS1 (by have:=HA1.out.1;omega) (by have:=HA1.out.2.2.1;omega));obtain ⟨m1,hm1⟩:∃m1:Nat,m1=a1.length - 1:=⟨_,rfl⟩;have HM1:=LH hm1;rw[←hm1] at HLa HP;have hm2:m1≤17:=by have:=HA1.out.2.2.1;omega
    clear hm1 hK1 hT1;obtain ⟨gs1,q2,hu1,hgs1⟩:∃gs q,us1[s]?.getD undef= .slice (some ⟨gs,0,none⟩) (a1[s]?.getD []).length q∧gs<wc.heap.size:=by
     obtain ⟨gs,q,e,_,e2⟩:=(hS1.segs s HA1.out.1).out (by have:=HA1.out.2.1;omega);exact ⟨gs,q,e,e2⟩
    have HU1:=LH hu1;obtain ⟨A9,q9,hu9⟩:∃A q,us1[m1]?.getD undef= .slice A (lastL a1) q:=by
     obtain ⟨A,q,e⟩:=hS1.seg (j:=m1) (by have:=HM1.out;have:=HA1.out.1;omega);exact ⟨A,q,by rw[e,HM1.out];rfl⟩
    have HU9:=LH hu9;have hin1:(i:Int)<((a1[s]?.getD []).length:Int):=by have:=HA1.out.2.1;omega
    have hsn1:(s:Int)<(us1.length:Int):=by have:=hS1.len;have:=HA1.out.1;omega
    have hmn1:(m1:Int)<(us1.length:Int):=by have:=hS1.len;have:=HA1.out.1;have:=HM1.out;omega
    have hcap1:=hS1.cap;have hL1b:lastL a1≤4096:=HA1.out.2.2.2;have HMa:Hid (m1<a1.length):=LH (by have:=HM1.out;have:=HA1.out.1;omega);clear hu1 hu9;obtain ⟨F,hF⟩:∃F,F=farW m1 (lastL a1):=⟨_,rfl⟩;rw[←hF] at HP;have HF:=LH hF;have hFw:∀X,Below base W X→Calls Tryz.prog 124 #[.int .i64 m1,.int .i64 (lastL a1)] X fun e w'=>e= .returned (.int .u64 F)∧Below X.heap.size X w':=fun X hX=>by
     rw[HF.out];exact far_any m1 (lastL a1) X (HLd.out X hX)
    have HFw:=LH hFw;clear hFw hF;have HKW:Hid (∀X,Below wc.heap.size wc X→Below base W X):=LH (fun X hX=>HK1.out.below.trans (hX.mono hbc))
    go_wp2_with fail
    refine HLa.out.mono ?_
    rintro e w3 ⟨rfl,rfl⟩;go_upto_region 6 with fail
    go_cut [] (fun wx=>BuS wx base bb sz (setA a1 s i F) g1 q1 us1∧KeepR base (some bb) wc wx∧TBox wx W.heap.size k z (.slice A1 nw c1) (.slice A2 nb c2) (.slice A3 nk c3))
    case first =>
     have HKp:Hid (∀X,Below wc.heap.size wc X→(X.cell? ⟨bb,0,none⟩=some (.slice (some ⟨g1,0,none⟩) us1.length q1)∧X.cell? ⟨g1,s,none⟩=some (.slice (some ⟨gs1,0,none⟩) (a1[s]?.getD []).length q2)∧X.cell? ⟨g1,m1,none⟩=some (.slice A9 (lastL a1) q9))):=LH (fun X hX=>by
      have h1:=HS1.out X hX;exact ⟨h1.cells.1,by rw[h1.at_ HA1.out.1,HU1.out],by rw[h1.at_ HMa.out,HU9.out]⟩)
     have HK2:Hid (∀X x,Below wc.heap.size wc X→((X.setCell ⟨gs1,i,none⟩ (.int .u64 x)).cell? ⟨bb,0,none⟩=some (.slice (some ⟨g1,0,none⟩) us1.length q1)∧(X.setCell ⟨gs1,i,none⟩ (.int .u64 x)).cell? ⟨g1,s,none⟩=some (.slice (some ⟨gs1,0,none⟩) (a1[s]?.getD []).length q2)∧(X.setCell ⟨gs1,i,none⟩ (.int .u64 x)).cell? ⟨g1,m1,none⟩=some (.slice A9 (lastL a1) q9))):=LH (fun X x hX=>by
      have h1:=(HS1.out X hX).put (i:=i) HA1.out.1 HU1.out x;exact ⟨h1.cells.1,by rw[h1.at_ (by rw[setA_len];exact HA1.out.1),HU1.out],by rw[h1.at_ (by rw[setA_len];exact HMa.out),HU9.out]⟩)
     have HSt:Hid (∀X,Below wc.heap.size wc X→(∃y,X.cell? ⟨gs1,i,none⟩=some y)∧X.frozen? ⟨gs1,i,none⟩=false):=LH (fun X hX=>by
      have h1:=(HS1.out X hX).segs s HA1.out.1;rw[HU1.out] at h1;unfold OwnU OwnN at h1;exact ⟨⟨_,own_cell h1 HA1.out.2.1⟩,own_frozen h1⟩)
     have HFin:Hid (∀X,Below wc.heap.size wc X→BuS (X.setCell ⟨gs1,i,none⟩ (.int .u64 F)) base bb sz (setA a1 s i F) g1 q1 us1∧KeepR base (some bb) wc (X.setCell ⟨gs1,i,none⟩ (.int .u64 F))∧TBox (X.setCell ⟨gs1,i,none⟩ (.int .u64 F)) W.heap.size k z (.slice A1 nw c1) (.slice A2 nb c2) (.slice A3 nk c3)):=LH (fun X hX=>by
      have h1:=HS1.out X hX;have h2:=h1.put_keep (i:=i) HA1.out.1 HU1.out (.int .u64 F);exact ⟨h1.put HA1.out.1 HU1.out F,(keep_of_below hX hbc).trans h2,h2.same _ _ (by have:=(HS.out W (Below.refl _ _)).lt;simp;omega) (HT1.out.on hX) rfl⟩)
     have hT0:Below wc.heap.size wc wc.drew:=(Below.refl _ _).drew;have hW0:=HKW.out _ hT0;have hK0:=HKp.out _ hT0;generalize (a1[s]?.getD []).length=Ls at *
     generalize lastL a1=L1 at *
     generalize us1.length=n1 at *
     go_region_held3 (fun w'=>w'.cell? ⟨bb,0,none⟩=some (.slice (some ⟨g1,0,none⟩) n1 q1)∧w'.cell? ⟨g1,s,none⟩=some (.slice (some ⟨gs1,0,none⟩) Ls q2)∧w'.cell? ⟨g1,m1,none⟩=some (.slice A9 L1 q9)) (first | exact HKp.out _ hT0 | exact HKp.out _ hT5 | exact HK2.out _ _ hT5) (first
      | (go_at_call 124;with_reducible refine (HFw.out _ hW0).mono ?_;rintro e w5 ⟨rfl,hB5⟩;have hT5:=bseq8 hT0 hB5;obtain ⟨⟨y5,hy5⟩,hf5⟩:=HSt.out _ hT5))
     all_goals go_wp2_with fail
     all_goals go_meet
     all_goals exact HFin.out _ hT5
    case rest =>
     obtain ⟨hS6,hK6,hT6⟩:=hcut;have hz6:=hK6.below.size;have HKb:Hid (∀X,Below wc.heap.size wc X→Below base W X):=LH (fun X hX=>HK1.out.below.trans (hK6.below.trans (hX.mono (by omega))))
     have hm6:m1<(setA a1 s i F).length:=by rw[setA_len];exact HMa.out
     have hl6:((setA a1 s i F)[m1]?.getD []).length=lastL a1:=by rw[setA_at,HM1.out];rfl
     have HA6:Hid ((setA a1 s i F).set m1 ((setA a1 s i F)[m1]?.getD [] ++ [nearW t 0])=pointA sz t a s i):=LH (by
      rw[HP.out,appA,setA_len,←HM1.out])
     have HApp:Hid (∀X,Below wc.heap.size wc X→∃g' c' w',(Builtin.append_ #[31,31] 31 #[.slice A9 (lastL a1) q9,.slice (some ⟨X.heap.size,0,none⟩) 1 1]).run Tryz.prog (X.alloc (.cells #[.int .u64 (nearW t 0)] 44))= .ok (.slice (some ⟨g',0,none⟩) (lastL a1+1) c') w'∧w'.cell? ⟨g1,m1,none⟩=some (.slice A9 (lastL a1) q9)∧w'.frozen? ⟨g1,m1,none⟩=false∧w'.cell? ⟨bb,0,none⟩=some (.slice (some ⟨g1,0,none⟩) us1.length q1) ∧
       ∃us',BuS (w'.setCell ⟨g1,m1,none⟩ (.slice (some ⟨g',0,none⟩) (lastL a1+1) c')) base bb sz (pointA sz t a s i) g1 q1 us'∧KeepR base (some bb) W (w'.setCell ⟨g1,m1,none⟩ (.slice (some ⟨g',0,none⟩) (lastL a1+1) c'))):=LH (fun X hX=>by
      have h1:=hS6.on hX;have ho:=h1.segs m1 hm6;obtain ⟨v',w',hrun,ho',hg',hn'⟩:=append_uL X base 31 _ _ (nearW t 0) ho (by rw[hl6];have:=HA1.out.2.2.2;omega) (by have:=hX.size;omega);obtain ⟨g',c',rfl,-⟩:=ho'.out (by simp);have hl7:((setA a1 s i F)[m1]?.getD [] ++ [nearW t 0]).length=lastL a1+1:=by rw[List.length_append,hl6];rfl
      obtain ⟨b1,b2,b3,b4,b5⟩:=h1.swap hm6 hg' ho' hn';rw[hl7] at hrun b1 b2;rw[HU9.out] at hrun b3;rw[HA6.out] at b1;exact ⟨g',c',w',hrun,b3,b4,b5,_,b1,(HK1.out.trans (hK6.trans (keep_of_below hX (by omega)))).trans b2⟩)
     have HCe:Hid (∀X,Below wc.heap.size wc X→X.cell? ⟨bb,0,none⟩=some (.slice (some ⟨g1,0,none⟩) us1.length q1)∧X.cell? ⟨g1,m1,none⟩=some (.slice A9 (lastL a1) q9)):=LH (fun X hX=>⟨(hS6.on hX).cells.1,by rw[(hS6.on hX).at_ hm6,HU9.out]⟩)
     obtain ⟨d0,d1,d2,d3,d4⟩:=hT6.cells;have hT0:Below wc.heap.size wc wc.drew:=(Below.refl _ _).drew;have hN0:=HKb.out _ hT0;obtain ⟨k0,k1⟩:=HCe.out _ (Below.refl _ _);have HNz:=LH (HNe.out 0);clear HNe hS6 hK6 hT6 hl6 hm6 HS1 HK1 HT1 HFw HLa hS1 HKW HU9 HA6 HP HF;generalize nearW t 0=x at *
     generalize lastL a1=L1 at *
     generalize us1.length=n1 at *
     go_wp2_with fail
     go_region_law (first | (refine step_app HRun.out rfl rfl rfl rfl ?_) | (go_simp;go_at_call 122;with_reducible refine (HNz.out _ hN0).mono ?_;rintro e w2 ⟨rfl,hB0⟩;have hB2:=below_drew_in hB0;obtain ⟨g',c',w',hrun,y1,y2,y3,hfin⟩:=HApp.out w2 hB2;have HRun:=LH hrun;have HFin:=LH hfin;obtain ⟨y4,y5⟩:=HCe.out w2 hB2;obtain ⟨y6,y7⟩:=HCe.out (w2.alloc (.cells #[.int .u64 x] 44)) (hB2.alloc hB2.size _);clear hrun hfin))
     all_goals obtain ⟨us',f1,f2⟩:=HFin.out
     all_goals go_end0
     all_goals exact ⟨⟨_,rfl⟩,g1,q1,us',f1,f2⟩
end Go.Proofs.YtmmlfnblodfjbaaGreatDoor
