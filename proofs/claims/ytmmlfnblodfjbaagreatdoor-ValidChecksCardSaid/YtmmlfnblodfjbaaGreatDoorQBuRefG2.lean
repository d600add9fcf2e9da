/- Layer 8: the document's builder: lay: what needs words (far, out of the last segment into a new one). -/
import Derived.Test.YtmmlfnblodfjbaaGreatDoorQBuD
import Derived.StillTailTactics
set_option maxRecDepth 100000
namespace Go.Proofs.YtmmlfnblodfjbaaGreatDoor
open Go.RowKit Go.Deep
set_option maxHeartbeats 4000000 in
theorem rlay_some2 (sz:Nat) (k z:Int) (ws bs:List Int) (ks:List Tr) (left:Nat) (v:Value) (n:Nat) (A:Option Addr) (c:Nat) (a:List (List Int)) (s i:Nat) (w:World) (P:Nat→Prop) (hPw:∀b,P b→b<w.heap.size) (hk:k≠0) (hd:deepB (.mk k z ws bs ks) left=true) (hn0:needT (.mk k z ws bs ks)≠0) (hT:TrV w w.heap.size (.mk k z ws bs ks) v) (hA:ArP w P (.slice A n c) a) (hn:n=a.length)
  (hH:∃x,Has a s i x) (hR:RoomA sz a) (hsz:sz≤4096) (ih:∀j,j<ks.length→RLayC sz (ks[j]?.getD Tr.nil)) (hcase:s=a.length - 1∧¬(a[a.length - 1]?.getD []).length+needT (.mk k z ws bs ks)≤sz) :
  Calls Tryz.prog 34 #[.agg #[.slice A n c,.int .i64 sz,.bool false],v,.int .i64 s,.int .i64 i] w (LayR sz P w (lay sz (.mk k z ws bs ks) ⟨a,false⟩ s i)):=by
 obtain ⟨hk2,hcn,hks⟩:=need_one hd hk;have hda:=deepAll_of hd hk;have hnb:=need_small hd hk;obtain ⟨x,hx⟩:=hH;obtain ⟨hs,hi⟩:=hx.lt;obtain ⟨b1,b2,b3,b4,b5⟩:=ptSt_bd (t:= .mk k z ws bs ks) (i:=i) hR hs
 -- the plain facts,hidden
 obtain ⟨T,hTd⟩:∃T:Tr,T= .mk k z ws bs ks:=⟨_,rfl⟩;have hlay:lay sz (.mk k z ws bs ks) ⟨a,false⟩ s i=layAll sz ks (moreW sz (ptSt sz T ⟨a,false⟩ s i).1 (ptSt sz T ⟨a,false⟩ s i).2.1 (contentT T)) (ptSt sz T ⟨a,false⟩ s i).2.1 ((ptSt sz T ⟨a,false⟩ s i).2.2+needT T - ks.length):=by
  rw[lay_some s i hk rfl hn0,←hTd,laySt_pt]
 have hgo:=laySt_go (sz:=sz) (t:=T) (s:=s) (i:=i) (a:=a) (by omega) hs;rw[laySt_pt] at hgo;obtain ⟨B,hB⟩:∃B,B=laidA sz T a s i:=⟨_,rfl⟩;have hg1:moreW sz (ptSt sz T ⟨a,false⟩ s i).1 (ptSt sz T ⟨a,false⟩ s i).2.1 (contentT T)=⟨B,fullA sz B⟩:=by rw[hB];exact congrArg Prod.fst hgo
 have hg2:(ptSt sz T ⟨a,false⟩ s i).2.1=B.length - 1:=by rw[hB];exact congrArg (fun q=>q.2.1) hgo
 have hg3:(ptSt sz T ⟨a,false⟩ s i).2.2=lastL (pointA sz T a s i):=congrArg (fun q=>q.2.2) hgo
 have hB0:0<(pointA sz T a s i).length:=Nat.lt_of_lt_of_le (by omega) pointA_len;have hBl:0<B.length:=by rw[hB];unfold laidA;rw[appA_len];exact hB0
 have hbase:(ptSt sz T ⟨a,false⟩ s i).2.2+needT T - ks.length=lastL B - ks.length:=by
  rw[hg3,hB];unfold laidA;rw[appA_lastL hB0,hTd,hcn]
 have HZero:Hid (∀j,j<ks.length→Has B (B.length - 1) (lastL B - ks.length+j) 0):=LH (fun j hj=>by rw[hB,hTd];exact kids_zero hs hj)
 have HRm:Hid (fullA sz B=false→RoomA sz B):=LH (fun hf=>by rw[hB,hTd] at *;exact RoomA.laid hR (by omega) hs hf)
 rw[hlay];obtain ⟨SG,hSG⟩:∃SG,SG=(ptSt sz T ⟨a,false⟩ s i).2.1:=⟨_,rfl⟩;obtain ⟨PP,hPP⟩:∃PP,PP=(ptSt sz T ⟨a,false⟩ s i).2.2:=⟨_,rfl⟩;obtain ⟨n1,hn1⟩:∃n1,n1=needT T:=⟨_,rfl⟩;obtain ⟨nk,hnk⟩:∃nk,nk=ks.length:=⟨_,rfl⟩;obtain ⟨base,hbs⟩:∃base,base=PP+n1 - nk:=⟨_,rfl⟩;rw[←hTd] at b1 b2 b3 b4 b5 hcn hn0 hT hnb hcase;rw[←hSG] at hg1 hg2 b3 ⊢;rw[←hPP] at hbase b5 ⊢;rw[←hn1] at hbase hcn hn0 hnb hcase ⊢;rw[←hnk] at hbase HZero ⊢;rw[←hbs] at hbase ⊢;have hnk1:nk≤n1:=by rw[hnk,hn1,hTd];exact hks
 have hbI:∀q:Nat,((base+q:Nat):Int)=(PP:Int)+n1 - nk+q:=fun q=>by omega
 -- the rounds:what holds of each kid's place
 have HKid:Hid (∀q,q<nk→(layAll sz (ks.take q) ⟨B,fullA sz B⟩ SG base).full=false→(∃x,Has (layAll sz (ks.take q) ⟨B,fullA sz B⟩ SG base).a SG (base+q) x)∧RoomA sz (layAll sz (ks.take q) ⟨B,fullA sz B⟩ SG base).a):=LH (fun q hq hf=>by
  have hfB:fullA sz B=false:=by
   cases hfb:fullA sz B with
   | false=>rfl
   | true =>
    rw[hfb] at hf;rw[layAll_full (sz:=sz) (ks.take q) SG base rfl] at hf;cases hf
  rw[hfB] at hf ⊢;refine ⟨⟨0,?_⟩,RoomA.all (HRm.out hfB) hBl hf⟩;have hz:=HZero.out q hq;rw[hg2,hbase];refine layAll_has (ks.take q) (left - 1) (deepAll_take ks q hda) ⟨B,false⟩ (B.length - 1) (lastL B - nk) (B.length - 1) (lastL B - nk+q) 0 (by show B.length - 1<B.length;omega) hz (fun j hj e=> ?_)
  rw[List.length_take] at hj
  omega)
 have HLen:Hid (∀q,0<(layAll sz (ks.take q) ⟨B,fullA sz B⟩ SG base).a.length):=LH (fun q=>Nat.lt_of_lt_of_le hBl (layAll_more (ks.take q) ⟨B,fullA sz B⟩ SG base (by show SG<B.length;omega)))
 have HDk:=LH (fun q (hq:q<nk)=>deepAll_get ks q (by omega) hda)
 rw[hg1];have Hg1:=LH hg1;have HIH:Hid (∀j,j<nk→RLayC sz (ks[j]?.getD Tr.nil)):=LH (fun j hj=>ih j (by omega))
 have HTx:=LH (fun X (hX:Below w.heap.size w X)=>(hT.on hX:TrV X X.heap.size T v))
 have HPt:Hid (T= .mk k z ws bs ks):=LH hTd;have HNe:=LH (fun off X (hX:Below w.heap.size w X)=>rnear_any k z ws bs ks v off X (by rw[←hTd];exact hT.on hX))
 rw[←hTd] at HNe;have HNd:=LH (fun X (hX:Below w.heap.size w X)=>rneed_any T v X (hT.on hX))
 rw[←hn1] at HNd;have HCt:=LH (fun X (hX:Below w.heap.size w X)=>rcontent_any k z ws bs ks v X (by rw[←hTd];exact hT.on hX))
 rw[←hTd] at HCt;have HCn:=LH hcn;have HSG:=LH hSG;have HPP:=LH hPP;have Hb1:=LH b1;have Hb2:=LH b2;have Hb3:=LH b3;have Hb4:=LH b4;have HbI:=LH hbI;have Hnk:=LH hnk;have HR:=LH hR;have hpt:ptSt sz T ⟨a,false⟩ s i=if s=a.length - 1∧(a[a.length - 1]?.getD []).length+n1≤sz then (setW ⟨a,false⟩ s i (nearW T (((a[a.length - 1]?.getD []).length:Int) - i - 1)),a.length - 1,(a[a.length - 1]?.getD []).length)
   else if s=a.length - 1∨sz<(a[a.length - 1]?.getD []).length+n1+1 then (moreW sz (setW ⟨a,false⟩ s i (farW (a.length - 1+1) 0)) (a.length - 1+1) [nearW T 0],a.length - 1+1,0+1)
   else (moreW sz (setW ⟨a,false⟩ s i (farW (a.length - 1) (a[a.length - 1]?.getD []).length)) (a.length - 1) [nearW T 0],a.length - 1,(a[a.length - 1]?.getD []).length+1):=by
  rw[hn1]
  rfl
 obtain ⟨M,hM⟩:∃M,M=a.length - 1:=⟨_,rfl⟩;obtain ⟨L,hL⟩:∃L,L=(a[a.length - 1]?.getD []).length:=⟨_,rfl⟩;rw[←hL,←hM] at hpt hcase;have Hpt:=LH hpt;have hLs:L≤4096:=by rw[hL];exact Nat.le_trans (hR.at_ _) hsz
 have hMn:n=M+1:=by omega
 have hn16:n≤16:=by rw[hn];exact hR.2.1
 have hi4:i<4096:=Nat.lt_of_lt_of_le hi (Nat.le_trans (hR.at_ s) hsz);have Hn:=LH hn;have Hi:=LH hi;have hLrow:L=(a[M]?.getD []).length:=by rw[hL,hM]
 have hn1p:n1≠0:=hn0;have hn1b:n1≤4096:=hnb;obtain ⟨A1,c1,A2,c2,A3,c3,rfl,hgd,-,-,hk3,hk4,hkid⟩:=(show TrV w w.heap.size (.mk k z ws bs ks) v by rw[←hTd];exact hT).parts
 obtain ⟨-,-,-,-,hg5,-⟩:=hgd;rw[←hnk] at hk3 hkid hg5 HNe HNd HCt HTx ⊢;generalize ws.length=nw at *
 generalize bs.length=nb at *
 have HKc:=LH hkid;obtain ⟨s3,t3,r3,b3',z3⟩:=lay_boxes w (.slice A n c) sz false k z (.slice A1 nw c1) (.slice A2 nb c2) (.slice A3 nk c3);obtain ⟨W3,hW3⟩:∃W3,W3=layW w (.slice A n c) sz false k z (.slice A1 nw c1) (.slice A2 nb c2) (.slice A3 nk c3):=⟨_,rfl⟩;rw[←hW3] at s3 t3 r3 b3' z3;have hS3:LSt w P sz k z (.slice A1 nw c1) (.slice A2 nb c2) (.slice A3 nk c3) A n c ⟨a,false⟩ W3:=⟨hn,s3,t3,r3,(hA.keep (fun b hb=>b3'.block b (hPw b hb))).mono (fun b hb=> .inl hb),b3',by omega⟩
 have HS3:=LH hS3;have HPw:=LH hPw;have hk0:(k == 0)=false:=beq_eq_false_iff_ne.2 hk;have hN0:((n1:Int) == 0)=false:=by rw[beq_eq_false_iff_ne];omega
 obtain ⟨x0,x1,x2⟩:=s3.cells;obtain ⟨d0,d1,d2,d3,d4⟩:=t3.cells;have HB3:=LH b3';unfold layW cellsT at hW3;unfold cellsT at HNe HNd HCt ⊢;unfold LayR;have hwM:IntKind.i64.wrap ((n:Int) - 1)=(M:Int):=by rw[IntWalk.i64_in _ (by omega)];omega
 have hMn1:M<n:=by omega
 have hMn2:n≤M+1:=by omega
 clear hMn;clear hA hPw s3 t3 r3 b3' hx hR hn hd hi hT hkid hda hgo hB hg1 hg2 hg3 hB0 hBl hbase hlay hSG hPP hn1 hnk hbs hTd ih hcn hnb hn0 b1 b2 b3 b4 hbI hpt hS3 hks hM hL;have hkk:k=1∨k=2:=hk2;clear hk2 hk;go_enter Tryz.func34,Tryz.ntmps34;go_upto_region 1 with fail
 rw[←hW3];clear hW3
 go_wp2_with fail
 refine (HNd.out _ HB3.out).mono ?_
 rintro e w4 ⟨rfl,hB4⟩;have hS4:=HS3.out.on HPw.out hB4;have HS4:=LH hS4;clear x0 x1 x2 d0 d1 d2 d3 d4 HS3 HB3 hB4 HNd;obtain ⟨u0,u1,u2,u3,u4,u5,u6,u7⟩:=hS4.lc;obtain ⟨A',c',e,hc,hm,hr⟩:=hS4.ar;rw[←Hn.out] at e hc hr;cases e
 obtain ⟨b,off,rfl,hb,hr⟩:=hr (by omega);obtain ⟨srow,p0,hrow⟩:=hr M (by omega);obtain ⟨⟨As,cs,rfl,-⟩,-⟩:=hrow;rw[←hLrow] at p0;have HLrow:=LH hLrow;have hcap:n≤c∧c≤9223372036854775807:=⟨hc,hm⟩;clear hr hS4 hb hc hm hLrow;have Hs:=LH (show s<n by have:=Hn.out;omega)
 have HCell:Hid (∀X,Below w4.drew.heap.size w4.drew X→LCells w (.slice (some ⟨b,off,none⟩) n c) sz false k z (.slice A1 nw c1) (.slice A2 nb c2) (.slice A3 nk c3) X):=LH (fun X hX=>(HS4.out.on HPw.out (below_drew_in hX)).lc)
 unfold LCells at HCell;have hDD:Below w4.drew.heap.size w4.drew w4.drew:=Below.refl _ _;obtain ⟨hsM,hfit⟩:=hcase;have hnear:¬(s=M∧L+n1≤sz):=fun e=>hfit e.2
 have hpe:ptSt sz T ⟨a,false⟩ s i=(moreW sz (setW ⟨a,false⟩ s i (farW (M+1) 0)) (M+1) [nearW T 0],M+1,0+1):=by rw[Hpt.out,if_neg hnear,if_pos (.inl hsM)]
 have j1:((s:Int) == (M:Int))=true:=by rw[hsM];simp
 have j2:¬(L:Int)+n1≤(sz:Int):=by omega
 have j3:decide ((L:Int)+n1≤(sz:Int))=false:=decide_eq_false j2;have HsM:=LH hsM;clear hsM hnear hfit;have HPe:=LH hpe;have hSGe:SG=(M+1):=by rw[HSG.out,hpe]
 have hPPe:PP=0+1:=by rw[HPP.out,hpe]
 have HSGz:Hid ((SG:Int)=((M:Int)+1)):=LH (by omega);have HPPz:Hid ((PP:Int)=1):=LH (by omega);obtain ⟨T1,hT1⟩:∃T1,T1=(ptSt sz T ⟨a,false⟩ s i).1:=⟨_,rfl⟩;have HT1:=LH hT1;have hT1e:T1=moreW sz (setW ⟨a,false⟩ s i (farW (M+1) 0)) (M+1) [nearW T 0]:=by rw[hT1,hpe]
 have hFr:=fun X (hX:Below w4.drew.heap.size w4.drew X)=>rfar_any (M+1) 0 X
 have hNe0:=fun X (hX:Below w4.drew.heap.size w4.drew X)=>HNe.out 0 X (HS4.out.below.drew.trans (hX.mono (by have:=HS4.out.size;show w.heap.size≤w4.heap.size;omega)))
 have hSt:∀X,Below w4.drew.heap.size w4.drew X→Calls Tryz.prog 53 #[.agg #[.slice (some ⟨b,off,none⟩) n c,.int .i64 sz,.bool false],.int .i64 s,.int .i64 i,.int .u64 (farW (M+1) 0)] X fun e V=>∃A' c',e= .returned (.agg #[.slice A' n c',.int .i64 sz,.bool false])∧Below X.heap.size X V∧∀Y,Below V.heap.size V Y→∀Al cl,NumS .u64 Y Y.heap.size (.slice Al 1 cl) [nearW T 0]→Calls Tryz.prog 55 #[.agg #[.slice A' n c',.int .i64 sz,.bool false],.int .i64 ((M:Int)+1),.slice Al 1 cl] Y fun e V=>∃A' n' c',e= .returned (.agg #[.slice A' n' c',.int .i64 sz,.bool T1.full])∧LPut w P sz k z (.slice A1 nw c1) (.slice A2 nb c2) (.slice A3 nk c3) (some ⟨b,off,none⟩) n c ⟨a,false⟩ A' n' c' T1 V:=fun X hX =>
  (HS4.out.setC HPw.out (below_drew_in hX) s i (farW (M+1) 0) Hs.out Hi.out (by omega) (Nat.le_trans (HR.out.at_ s) (by omega))).mono (by
   rintro e V ⟨A',c',rfl,-,hB0,hAr⟩;refine ⟨A',c',rfl,hB0,fun Y hY Al cl hl=> ?_⟩
   have hXs:=(below_drew_in hX).size;have hVs:=hB0.size;have hYs:=hY.size;have hh:=HS4.out.moreC HPw.out ((below_drew_in hX).trans ((hB0.mono hXs).trans (hY.mono (by omega)))) (f:=false) (by rw[setA_len];exact Hn.out) ((hAr.keep (fun b hb=>hY.block b (by
    rcases hb with hb | hb
    ·exact Nat.lt_of_lt_of_le (HS4.out.hP HPw.out b hb) (by omega)
    ·exact hb.2))).mono (fun b hb=>by
    rcases hb with hb | hb
    ·exact .inl hb
    ·exact .inr ⟨hb.1,by omega⟩)) (by omega) (M+1) (by omega) Al 1 cl [nearW T 0] hl (by omega) (by simp) (by rw[setA_lenS];have:=HR.out.2.2;omega)
   have hmw:moreW sz ⟨setA a s i (farW (M+1) 0),false⟩ (M+1) [nearW T 0]=T1:=by rw[hT1e];rfl
   rw[hmw] at hh;rw[show (((M+1):Nat):Int)=((M:Int)+1) by omega] at hh
   exact hh)
 obtain ⟨N0,hN0'⟩:∃N0,N0=nearW T 0:=⟨_,rfl⟩;obtain ⟨N2,hN2⟩:∃N2,N2=farW (M+1) 0:=⟨_,rfl⟩;rw[←hN0'] at hNe0 hSt;rw[←hN2] at hFr hSt;rw[show (((M+1):Nat):Int)=((M:Int)+1) by omega,show ((0:Nat):Int)=0 by omega] at hFr
 unfold LPut at hSt;have HFr:=LH hFr;have HNe0:=LH hNe0;have HSt:=LH hSt;clear hpe hFr hNe0 hSt hN0' hN2 hT1 hT1e hSGe hPPe;go_upto_region 17 with fail
 go_cut [] (fun wx=>∃A' n' c',LSt w P sz k z (.slice A1 nw c1) (.slice A2 nb c2) (.slice A3 nk c3) A' n' c' T1 wx)
 case first =>
  clear u0 u1 u2 u3 u4 u5 u6 u7 p0;obtain ⟨x0,x1,x2,d0,d1,d2,d3,d4⟩:=HCell.out _ hDD;have hD:=hDD;have hZ:=hDD
  go_region_law (first | (go_simp;go_at_call 54;with_reducible refine (HNe0.out _ hD).mono ?_;rintro e w5 ⟨rfl,hB0⟩;have hD:=bseq8 hD hB0;have hZ:=bseq8 hZ hB0;have hZa:=hZ.alloc hZ.size (.cells #[.int .u64 N0] 44);have hDa:=hD.alloc hD.size (.cells #[.int .u64 N0] 44);obtain ⟨x0,x1,x2,d0,d1,d2,d3,d4⟩:=HCell.out _ hD;obtain ⟨xa0,xa1,xa2,da0,da1,da2,da3,da4⟩:=HCell.out _ hDa) | (go_simp;go_at_call 56;with_reducible refine (HFr.out _ hD).mono ?_;rintro e w5 ⟨rfl,hB0⟩;have hD:=bseq8 hD hB0;have hZ:=bseq8 hZ hB0;have hZa:=hZ.alloc hZ.size (.cells #[.int .u64 N0] 44);(try have hNs:=NumS.on hNs hB0);have hDa:=hD.alloc hD.size (.cells #[.int .u64 N0] 44);obtain ⟨x0,x1,x2,d0,d1,d2,d3,d4⟩:=HCell.out _ hD;obtain ⟨xa0,xa1,xa2,da0,da1,da2,da3,da4⟩:=HCell.out _ hDa) | (go_simp;go_at_call 56;with_reducible refine (HFr.out _ hDa).mono ?_;rintro e w5 ⟨rfl,hB0⟩;have hD:=bseq8 hDa hB0;have hZ:=bseq8 hZa hB0;have hZa:=hZ.alloc hZ.size (.cells #[.int .u64 N0] 44);have hNs:=NumS.on (one_in8 .u64 44 _ N0) hB0;have hDa:=hD.alloc hD.size (.cells #[.int .u64 N0] 44);obtain ⟨x0,x1,x2,d0,d1,d2,d3,d4⟩:=HCell.out _ hD;obtain ⟨xa0,xa1,xa2,da0,da1,da2,da3,da4⟩:=HCell.out _ hDa) | (go_simp;go_at_call 53;with_reducible refine (HSt.out _ hD).mono ?_;rintro e w5 ⟨A',c',rfl,hB0,hMo⟩;have hD:=bseq8 hD hB0;have hZ:=Below.refl w5.heap.size w5;have hZa:=hZ.alloc hZ.size (.cells #[.int .u64 N0] 44);(try have hNs:=NumS.on hNs hB0);have hDa:=hD.alloc hD.size (.cells #[.int .u64 N0] 44);obtain ⟨x0,x1,x2,d0,d1,d2,d3,d4⟩:=HCell.out _ hD;obtain ⟨xa0,xa1,xa2,da0,da1,da2,da3,da4⟩:=HCell.out _ hDa) | (go_simp;go_at_call 53;with_reducible refine (HSt.out _ hDa).mono ?_;rintro e w5 ⟨A',c',rfl,hB0,hMo⟩;have hD:=bseq8 hDa hB0;have hZ:=Below.refl w5.heap.size w5;have hZa:=hZ.alloc hZ.size (.cells #[.int .u64 N0] 44);have hNs:=NumS.on (one_in8 .u64 44 _ N0) hB0;have hDa:=hD.alloc hD.size (.cells #[.int .u64 N0] 44);obtain ⟨x0,x1,x2,d0,d1,d2,d3,d4⟩:=HCell.out _ hD;obtain ⟨xa0,xa1,xa2,da0,da1,da2,da3,da4⟩:=HCell.out _ hDa) | (go_simp;go_at_call 55;with_reducible refine (hMo _ hZa _ _ (one_in8 _ _ _ N0)).mono ?_;rintro e w7 ⟨A2',n2',c2',rfl,y0,y1,y2,f0,f1,f2,hfin⟩;have HFin:=LH hfin;clear hfin) | (go_simp;go_at_call 55;with_reducible refine (hMo _ hZ _ _ hNs).mono ?_;rintro e w7 ⟨A2',n2',c2',rfl,y0,y1,y2,f0,f1,f2,hfin⟩;have HFin:=LH hfin;clear hfin))
  all_goals go_wp2_with fail
  all_goals go_meet
  all_goals exact ⟨_,_,_,HFin.out⟩
 case rest =>
  clear u0 u1 u2 u3 u4 u5 u6 u7 p0;obtain ⟨A5,n5,c5,hS5⟩:=hcut;generalize wc=w5 at *
  have HS5:=LH hS5;have hl5:=hS5.len;have hn5:0<n5∧n5≤17∧SG<n5:=by have:=HT1.out;have h1:=Hb1.out;have h2:=Hb2.out;have h3:=Hb3.out;rw[←this] at h1 h2 h3;omega
  have Hl5:=LH (show lenS T1.a≤4097 by rw[HT1.out];exact Hb4.out)
  obtain ⟨F5,hF5⟩:∃F5,F5=T1.full:=⟨_,rfl⟩;have HCell5:Hid (∀X,Below w5.drew.heap.size w5.drew X→LCells w (.slice A5 n5 c5) sz F5 k z (.slice A1 nw c1) (.slice A2 nb c2) (.slice A3 nk c3) X):=LH (fun X hX=>by rw[hF5];exact (HS5.out.on HPw.out (below_drew_in hX)).lc)
  have HCt5:=LH (HCt.out w5.drew hS5.below.drew);have HMo5:Hid (∀Y,Below w5.drew.heap.size w5.drew Y→∀Al m cl,NumS .u64 Y Y.heap.size (.slice Al m cl) (contentT T)→Calls Tryz.prog 55 #[.agg #[.slice A5 n5 c5,.int .i64 sz,.bool F5],.int .i64 ((M:Int)+1),.slice Al m cl] Y fun e V=>∃A' n' c',e= .returned (.agg #[.slice A' n' c',.int .i64 sz,.bool (fullA sz B)])∧LPut w P sz k z (.slice A1 nw c1) (.slice A2 nb c2) (.slice A3 nk c3) A5 n5 c5 T1 A' n' c' ⟨B,fullA sz B⟩ V):=LH (fun Y hY Al m cl hl=>by
   have hY':=below_drew_in hY;have hh:=HS5.out.moreC HPw.out hY' (f:=F5) HS5.out.len ((HS5.out.ar.keep (fun b hb=>hY'.block b (HS5.out.hP HPw.out b hb))).mono (fun b hb=> .inl hb)) hn5.1 SG (by omega) Al m cl (contentT T) hl (by omega) (by rw[HCn.out];omega) (by have:=Hl5.out;omega)
   have hmw:moreW sz ⟨T1.a,F5⟩ SG (contentT T)=⟨B,fullA sz B⟩:=by rw[hF5,←Hg1.out,←HT1.out]
   rw[hmw,HSGz.out] at hh;exact hh)
  unfold LPut at HMo5;unfold LCells at HCell5;have HF5:=LH hF5;have hDD5:Below w5.drew.heap.size w5.drew w5.drew:=Below.refl _ _;clear hS5 hl5 hF5;obtain ⟨FB,hFB⟩:∃FB,FB=fullA sz B:=⟨_,rfl⟩;have HFB:=LH hFB;rw[←hFB] at HMo5 HLen HKid;clear hFB;go_upto_region 19 with fail
  go_cut [] (fun wx=>∃A' n' c',LSt w P sz k z (.slice A1 nw c1) (.slice A2 nb c2) (.slice A3 nk c3) A' n' c' ⟨B,FB⟩ wx)
  case first =>
   obtain ⟨x0,x1,x2,d0,d1,d2,d3,d4⟩:=HCell5.out _ hDD5
   go_region_law (first | (go_simp;go_at_call 57;with_reducible refine HCt5.out.mono ?_;rintro e w6 ⟨Ac,nc,cc,rfl,hNs,hB0⟩;have HMc:=LH (HMo5.out w6 hB0 _ _ _ hNs);obtain ⟨x0,x1,x2,d0,d1,d2,d3,d4⟩:=HCell5.out w6 hB0;clear hNs) | (go_simp;go_at_call 55;with_reducible refine HMc.out.mono ?_;rintro e w7 ⟨A',n',c',rfl,y0,y1,y2,f0,f1,f2,hfin⟩;have HFin:=LH hfin;clear hfin))
   all_goals go_wp2_with fail
   all_goals go_meet
   all_goals exact ⟨_,_,_,HFin.out⟩
  case rest =>
   obtain ⟨A6,n6,c6,hS6⟩:=hcut;generalize wc=w6 at *
   have HS6:=LH hS6;clear hS6
   go_wp2_with fail
   go_loopw [14] (fun i wr=>∃q:Nat,q≤nk∧i= .int .i64 q∧∃A' n' c',LSt w P sz k z (.slice A1 nw c1) (.slice A2 nb c2) (.slice A3 nk c3) A' n' c' (layAll sz (ks.take q) ⟨B,FB⟩ SG base) wr) (fun i _=>nk - (intOf i).toNat)
   case atStart=>exact ⟨0,by omega,rfl,_,_,_,by simpa [layAll] using HS6.out⟩
   case round =>
    obtain ⟨q,hq,rfl,A7,n7,c7,hS7⟩:=hrel;generalize wr=w7 at *
    have HS7:=LH hS7;obtain ⟨x0,x1,x2,d0,d1,d2,d3,d4⟩:=hS7.lc
    by_cases hlt:q<nk
    ·have i1:(q:Int)<(nk:Int):=by omega
     obtain ⟨b3,off3,ea,hb3,hcell⟩:=HKc.out (by omega);subst ea;obtain ⟨kk,kz,kw,kb,kc,e0,e1,e2,e3,e4,hkt⟩:=hcell q hlt;have hB7:=hS7.below;have g0:=(hB7.cell (p:=⟨b3,off3+q*5,none⟩) hb3).trans e0;have g1:=(hB7.cell (p:=⟨b3,off3+q*5+1,none⟩) hb3).trans e1;have g2:=(hB7.cell (p:=⟨b3,off3+q*5+2,none⟩) hb3).trans e2;have g3:=(hB7.cell (p:=⟨b3,off3+q*5+3,none⟩) hb3).trans e3;have g4:=(hB7.cell (p:=⟨b3,off3+q*5+4,none⟩) hb3).trans e4;have hp7:0<n7:=by rw[hS7.len];exact HLen.out q
     have hDr:Below w7.heap.size w7 w7.drew:=(Below.refl _ _).drew;have hLay:=hS7.layC HPw.out hDr (HIH.out q hlt) (left - 1) (.agg (cellsT kk kz kw kb kc)) SG (base+q) (HDk.out q hlt) (hkt.on hB7.drew) hp7 (HKid.out q hlt);rw[HSGz.out,HbI.out q,HPPz.out] at hLay;obtain ⟨F7,hF7⟩:∃F7,F7=(layAll sz (ks.take q) ⟨B,FB⟩ SG base).full:=⟨_,rfl⟩;rw[←hF7] at hLay x2;unfold LPut at hLay;unfold cellsT at hLay;have HLay:=LH hLay;have HF7:=LH hF7;have q1:IntKind.i64.wrap (1+(n1:Int))=1+n1:=IntWalk.i64_in _ (by have:=HPPz.out;omega);have q2:IntKind.i64.wrap (1+(n1:Int) - nk)=1+n1 - nk:=IntWalk.i64_in _ (by have:=HPPz.out;omega);have q3:IntKind.i64.wrap (1+(n1:Int) - nk+q)=1+n1 - nk+q:=IntWalk.i64_in _ (by have:=HPPz.out;omega);clear e0 e1 e2 e3 e4 hkt hcell hB7 hS7 hLay hF7 hDr hb3
     go_wp2_with fail
     go_still_tail 16,(by kernel_rfl)
     change wpList _ _ _ _ _ w7.drew
     go_wp2_with fail
     refine HLay.out.mono ?_
     rintro e w8 ⟨A',n',c',rfl,y0,y1,y2,f0,f1,f2,hfin⟩;have HFin:=LH hfin;clear hfin
     go_wp2_with fail
     go_roundw
     case rel=>exact ⟨q+1,by omega,by go_num,A',n',c',by rw[layAll_next (by rw[←Hnk.out];exact hlt)];exact HFin.out⟩
     case measure=>simp[intOf];omega
    ·obtain rfl:q=nk:=by omega
     have i1:¬(q:Int)<(q:Int):=by omega
     have hal:ks.take q=ks:=List.take_of_length_le (by rw[←Hnk.out];exact Nat.le_refl _);rw[hal,HFB.out] at hS7;obtain ⟨stE,hstE⟩:∃stE,stE=layAll sz ks ⟨B,fullA sz B⟩ SG base:=⟨_,rfl⟩;rw[←hstE] at hS7;have HstE:=LH hstE;obtain ⟨F9,hF9⟩:∃F9,F9=stE.full:=⟨_,rfl⟩;obtain ⟨W9,hW9⟩:∃W9,W9=((w7.setCell ⟨w.heap.size+1+1,0,none⟩ (.slice A7 n7 c7)).setCell ⟨w.heap.size+1+1,1,none⟩ (.int .i64 sz)).setCell ⟨w.heap.size+1+1,2,none⟩ (.bool F9):=⟨_,rfl⟩;have hres:SBox w7 (w.heap.size+1+1) (.slice none 0 0) 0 false:=hS7.res;have r9:SBox W9 (w.heap.size+1+1) (.slice A7 n7 c7) sz F9:=by rw[hW9];exact hres.set3 _ _ _
     have b9:Below w.heap.size w W9:=by rw[hW9];exact below_set3 hS7.below (by omega) _ _ _
     have hs7:=hS7.size;have a9:ArP W9 (fun b=>P b∨(w.heap.size≤b∧b<W9.heap.size)) (.slice A7 n7 c7) stE.a:=by
      rw[hW9,size_set3];refine (hS7.ar.put (fun b hb=> ?_) _ _ _).mono (fun b hb=> ?_)
      ·rcases hb with hb | hb
       ·have:=HPw.out b hb;omega
       ·omega
      ·rcases hb with hb | hb
       ·exact .inl hb
       ·exact .inr ⟨by omega,hb.2⟩
     have HR9:=LH r9;have HFin:=LH (And.intro a9 (And.intro hS7.len b9));clear x0 x1 x2;obtain ⟨y0,y1,y2⟩:=hres.cells;have f0:=hres.frozen 0;have f1:=hres.frozen 1;have f2:=hres.frozen 2;obtain ⟨x0,x1,x2⟩:=hS7.box.cells;rw[←hF9] at x2;have HF9:=LH hF9;clear hS7 HS7 r9 b9 a9 hal hres hstE hF9 hs7
     go_wp2_with fail
     rw[←hW9];obtain ⟨e0,e1,e2⟩:=HR9.out.cells;refine bodyPost_ret (v:= .agg #[.slice A7 n7 c7,.int .i64 sz,.bool F9]) ?_ rfl ⟨_,_,_,by rw[HF9.out,HstE.out],by rw[←HstE.out];exact HFin.out⟩
     simp[results,Tryz.f34,go_sem,e0,e1,e2]
end Go.Proofs.YtmmlfnblodfjbaaGreatDoor
