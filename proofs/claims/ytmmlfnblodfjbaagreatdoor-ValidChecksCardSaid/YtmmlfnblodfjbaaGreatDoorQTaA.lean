/- Plain facts for layer 10 (tree): trees each of whose things has what its kind has; how high trees are. No program is named here. -/
import Derived.Test.YtmmlfnblodfjbaaGreatDoorQTdPlain
import Derived.Test.YtmmlfnblodfjbaaGreatDoorQMem
import Derived.Test.YtmmlfnblodfjbaaGreatDoorQTeA
import Derived.Test.YtmmlfnblodfjbaaGreatDoorQBuA
import Derived.Test.YtmmlfnblodfjbaaGreatDoorQWord
import Derived.Test.YtmmlfnblodfjbaaGreatDoorQPlain
import Derived.BigQuiet
import Derived.StillTailTactics
set_option maxRecDepth 100000
namespace Go.Proofs.YtmmlfnblodfjbaaGreatDoor
end Go.Proofs.YtmmlfnblodfjbaaGreatDoor
namespace Go.Proofs.YtmmlfnblodfjbaaGreatDoor
open Go.RowKit Go.Deep
theorem two_new10 (w:World) (c1 c2:Array Value) (t1 t2:TypeId):∀W,W=(w.alloc (.cells c1 t1)).alloc (.cells c2 t2) →
  W.heap[w.heap.size]? = some (.cells c1 t1 (0,0))∧W.heap[w.heap.size+1]? = some (.cells c2 t2 (0,0))∧Below w.heap.size w W∧W.heap.size=w.heap.size+2:=by
 rintro W rfl;refine ⟨?_,?_,((Below.refl _ _).alloc (Nat.le_refl _) _).alloc (by simp) _,by simp⟩
 ·rw[blk_alloc_lt _ _ _ (by simp),blk_alloc_new]
 ·have:=blk_alloc_new (w.alloc (.cells c1 t1)) (.cells c2 t2)
  rwa [World.size_alloc] at this
theorem sameAll10_at:(a b:List Tr)→(sameAll a b=true↔a.length=b.length∧∀j,j<a.length→sameT (a[j]?.getD Tr.nil) (b[j]?.getD Tr.nil)=true)
 | [],[]=>by simp[sameAll]
 | [],u :: q=>by simp[sameAll]
 | t :: r,[]=>by simp[sameAll]
 | t :: r,u :: q=>by
  unfold sameAll;rw[Bool.and_eq_true,sameAll10_at r q]
  constructor
  ·rintro ⟨h1,h2,h3⟩;refine ⟨by simp[h2],fun j hj=> ?_⟩
   cases j with
   | zero=>exact h1
   | succ j =>
    rw[List.getElem?_cons_succ,List.getElem?_cons_succ];exact h3 j (by simpa using hj)
  ·rintro ⟨h1,h2⟩;refine ⟨h2 0 (by simp),by simpa using h1,fun j hj=> ?_⟩
   have:=h2 (j+1) (by simpa using hj);rw[List.getElem?_cons_succ,List.getElem?_cons_succ] at this;exact this
theorem sameAll10_no {a b:List Tr} {j:Nat} (hj:j<a.length) (h:sameT (a[j]?.getD Tr.nil) (b[j]?.getD Tr.nil)=false):sameAll a b=false:=by
 rw[←Bool.not_eq_true,sameAll10_at];rintro ⟨_,h2⟩;rw[h2 j hj] at h;cases h
def KidsX (w:World) (B:Nat) (A:Option Addr) (n c:Nat) (ks:List Tr):Prop :=
 n=ks.length∧n≤c∧c≤9223372036854775807∧(0<n→∃b off,A=some ⟨b,off,none⟩∧b<B∧∀j,j<n→∃k z vw vb vk,w.cell? ⟨b,off+j*5,none⟩=some (.int .i64 k)∧w.cell? ⟨b,off+j*5+1,none⟩=some (.int .i64 z)∧w.cell? ⟨b,off+j*5+2,none⟩=some vw∧w.cell? ⟨b,off+j*5+3,none⟩=some vb∧w.cell? ⟨b,off+j*5+4,none⟩=some vk∧TrV w B (ks[j]?.getD Tr.nil) (.agg (cellsT k z vw vb vk)))
theorem KidsX.later {w W:World} {A:Option Addr} {n c:Nat} {ks:List Tr} (h:KidsX w w.heap.size A n c ks) (hB:Below w.heap.size w W) {j:Nat} (hj:j<n) :
  ∃b off k z A4 n4 c4 A5 n5 c5 A6 n6 c6,A=some ⟨b,off,none⟩∧W.cell? ⟨b,off+j*5,none⟩=some (.int .i64 k)∧W.cell? ⟨b,off+j*5+1,none⟩=some (.int .i64 z)∧W.cell? ⟨b,off+j*5+2,none⟩=some (.slice A4 n4 c4)∧W.cell? ⟨b,off+j*5+3,none⟩=some (.slice A5 n5 c5)∧W.cell? ⟨b,off+j*5+4,none⟩=some (.slice A6 n6 c6)∧TrV W W.heap.size (ks[j]?.getD Tr.nil) (.agg (cellsT k z (.slice A4 n4 c4) (.slice A5 n5 c5) (.slice A6 n6 c6)))∧b<W.heap.size:=by
 obtain ⟨b,off,rfl,hbB,hkid⟩:=h.2.2.2 (by omega);obtain ⟨kk,kz,kw,kb,kv,e0,e1,e2,e3,e4,hT⟩:=hkid j hj;obtain ⟨A4,n4,c4,A5,n5,c5,A6,n6,c6,rfl,rfl,rfl⟩:=hT.three;have hc:=fun i=>hB.cell (p:=⟨b,i,none⟩) (by show b<w.heap.size;exact hbB)
 exact ⟨b,off,kk,kz,A4,n4,c4,A5,n5,c5,A6,n6,c6,rfl,(hc _).trans e0,(hc _).trans e1,(hc _).trans e2,(hc _).trans e3,(hc _).trans e4,hT.on hB,by have:=hB.size;omega⟩
theorem sameT_yes {k z k' z':Int} {ws bs ws' bs':List Int} {ks us:List Tr}:sameT (.mk k z ws bs ks) (.mk k' z' ws' bs' us)=true↔k=k'∧z=z'∧ws=ws'∧bs=bs'∧sameAll ks us=true:=by
 unfold sameT
 simp[and_assoc]
 try (intros;constructor <;> intro h <;> simp_all)
theorem NumS.cellsX {w:World} {B n:Nat} {A:Option Addr} {c:Nat} {l:List Int} (h:NumS .u64 w B (.slice A n c) l) (hn:n=l.length) {j:Nat} (hj:j<n):∃b off,A=some ⟨b,off,none⟩∧n≤c∧c≤9223372036854775807∧w.cell? ⟨b,off+j,none⟩=some (.int .u64 (l[j]?.getD 0))∧b<B:=by
 obtain ⟨A',c',e,hc,hm,hr⟩:=h
 injection e with e1 e2 e3
 subst e1 e3;obtain ⟨b,off,ea,hb,hcell⟩:=hr (by omega);exact ⟨b,off,ea,by omega,by omega,hcell j (by omega),hb⟩
theorem eq_of_at {a b:List Int} (hl:a.length=b.length) (h:∀j,j<a.length→a[j]?.getD 0=b[j]?.getD 0):a=b:=by
 refine List.ext_getElem hl (fun j h1 h2=> ?_)
 have:=h j h1;rw[List.getElem?_eq_getElem h1,List.getElem?_eq_getElem h2] at this;exact this
def SameX (t:Tr):Prop :=
 ∀(u:Tr) (v x:Value) (w:World),TrV w w.heap.size t v→TrV w w.heap.size u x →
  Calls Tryz.prog 50 #[v,x] w fun e w'=>e= .returned (.bool (sameT t u))∧Below w.heap.size w w'
set_option maxHeartbeats 4000000 in
theorem rsame_step (k z:Int) (ws bs:List Int) (ks:List Tr) (ih:∀j,j<ks.length→SameX (ks[j]?.getD Tr.nil)):SameX (.mk k z ws bs ks):=by
 intro u v x w hT hU;obtain ⟨k',z',ws',bs',us⟩:=u;have HYes:=LH (@sameT_yes k z k' z' ws bs ws' bs' ks us);obtain ⟨S,hS⟩:∃S,S=sameT (.mk k z ws bs ks) (.mk k' z' ws' bs' us):=⟨_,rfl⟩;rw[←hS] at HYes ⊢;clear hS;obtain ⟨A1,c1,A2,c2,A3,c3,rfl,hg,hw1,hb1,hk1,hk2,hkid⟩:=hT.parts;obtain ⟨A4,c4,A5,c5,A6,c6,rfl,hg',hw2,hb2,hk3,hk4,hkid'⟩:=hU.parts;have HKA:Hid (KidsX w w.heap.size A3 ks.length c3 ks):=LH ⟨rfl,hk1,hk2,hkid⟩;have HKB:Hid (KidsX w w.heap.size A6 us.length c6 us):=LH ⟨rfl,hk3,hk4,hkid'⟩;obtain ⟨W2,hW2⟩:∃W2,W2=(w.alloc (.cells (cellsT k z (.slice A1 ws.length c1) (.slice A2 bs.length c2) (.slice A3 ks.length c3)) 34)).alloc (.cells (cellsT k' z' (.slice A4 ws'.length c4) (.slice A5 bs'.length c5) (.slice A6 us.length c6)) 34):=⟨_,rfl⟩;obtain ⟨hT1,hT2,hB2,hs2⟩:=two_new10 w _ _ _ _ W2 hW2;have HT1:Hid (TBox W2 w.heap.size k z (.slice A1 ws.length c1) (.slice A2 bs.length c2) (.slice A3 ks.length c3)):=LH hT1;have HT2:Hid (TBox W2 (w.heap.size+1) k' z' (.slice A4 ws'.length c4) (.slice A5 bs'.length c5) (.slice A6 us.length c6)):=LH hT2;have HB2:=LH hB2;have HW1:=LH hw1;have HW2:=LH hw2;have HIh:=LH ih;have hcv1:=bytes_conv (w:=W2) (hb1.on hB2);have hcv2:=bytes_conv (w:=W2) (hb2.on hB2);obtain ⟨q,hq⟩:∃q,q=decide (bs=bs'):=⟨_,rfl⟩;have hse:=str_eq (q:=q) hg.2.2.2.2.2.2 hg'.2.2.2.2.2.2 (by rw[hq];exact decide_eq_true_iff);have HQ:Hid (q=true↔bs=bs'):=LH (by rw[hq];exact decide_eq_true_iff);have HN:Hid (ws.length≤1000000∧ks.length≤1000000):=LH ⟨hg.2.2.1,hg.2.2.2.2.1⟩;generalize strOfNums bs=s1 at *
 generalize strOfNums bs'=s2 at *
 have hsn:(s1.toList != s2.toList)= !q:=by rw[←hse];rfl
 obtain ⟨n1,e1⟩:∃n,n=ws.length:=⟨_,rfl⟩;obtain ⟨n2,e2⟩:∃n,n=bs.length:=⟨_,rfl⟩;obtain ⟨n3,e3⟩:∃n,n=ks.length:=⟨_,rfl⟩;obtain ⟨n4,e4⟩:∃n,n=ws'.length:=⟨_,rfl⟩;obtain ⟨n5,e5⟩:∃n,n=bs'.length:=⟨_,rfl⟩;obtain ⟨n6,e6⟩:∃n,n=us.length:=⟨_,rfl⟩;rw[←e1] at HW1 HT1 HN hW2;rw[←e2] at HT1 hW2 hcv1;rw[←e3] at HT1 HKA HN hW2;rw[←e4] at HT2 HW2 hW2;rw[←e5] at HT2 hW2 hcv2;rw[←e6] at HT2 HKB hW2;rw[←e1,←e2,←e3,←e4,←e5,←e6];have HLn:=LH (And.intro e1 (And.intro e3 (And.intro e4 e6)));clear hT hU hg hg' hw1 hw2 hb1 hb2 hk1 hk2 hk3 hk4 hkid hkid' hB2 hT1 hT2 hs2 ih hq e1 e2 e3 e4 e5 e6;unfold cellsT at hW2 ⊢;obtain ⟨d0,d1,d2,d3,d4⟩:=HT1.out.cells;obtain ⟨e0,e1,e2,e3,e4⟩:=HT2.out.cells
 by_cases hk:k=k'
 ·subst hk
  by_cases hz:z=z'
  ·subst hz;have f1:(k != k)=false:=by simp
   have f2:(z != z)=false:=by simp
   cases q with
   | false =>
    have HF:Hid (S=false):=LH (by rw[←Bool.not_eq_true,HYes.out];rintro ⟨_,_,_,h,_⟩;exact absurd (HQ.out.2 h) (by simp));go_enter Tryz.func50,Tryz.ntmps50;go_upto_region 1 with fail
    rw[←hW2];clear hW2
    go_wp2_with fail
    go_ret;exact ⟨by rw[HF.out];rfl,HB2.out⟩
   | true =>
    by_cases hn1:n1=n4
    ·by_cases hn3:n3=n6
     ·subst hn1 hn3;have f3:((n3:Int) != (n3:Int))=false:=by simp
      have f4:((n1:Int) != (n1:Int))=false:=by simp
      have HB:=LH (HQ.out.1 rfl);go_enter Tryz.func50,Tryz.ntmps50;go_upto_region 1 with fail
      rw[←hW2];clear hW2
      go_wp2_with fail
      clear d0 d1 d2 d3 d4 e0 e1 e2 e3 e4 hcv1 hcv2 hse hsn f1 f2 f3 f4
      go_loopw [5] (fun i wr=>∃t:Nat,t≤n1∧i= .int .i64 t∧(∀j,j<t→ws[j]?.getD 0=ws'[j]?.getD 0)∧Below W2.heap.size W2 wr) (fun i _=>n1 - (intOf i).toNat)
      case atStart=>exact ⟨0,by omega,rfl,fun i hi=>by omega,Below.refl _ _⟩
      case round =>
       obtain ⟨t,ht,rfl,hall,hB⟩:=hrel;have HA:=LH hall;have HBr:=LH hB;clear hall hB;generalize wr=w1 at *
       obtain ⟨d0,d1,d2,d3,d4⟩:=(HT1.out.on HBr.out).cells;obtain ⟨e0,e1,e2,e3,e4⟩:=(HT2.out.on HBr.out).cells
       by_cases hlt:t<n1
       ·have hlt2:(t:Int)<(n1:Int):=by omega
        obtain ⟨b,off,rfl,hc1,hm1,x1,hbl⟩:=HW1.out.cellsX HLn.out.1 hlt;obtain ⟨b',off',rfl,hc4,hm4,x4,hbl'⟩:=HW2.out.cellsX HLn.out.2.2.1 hlt;have hlw:=HB2.out.size;have y1:=(HBr.out.cell (p:=⟨b,off+t,none⟩) (by show b<W2.heap.size;omega)).trans ((HB2.out.cell (p:=⟨b,off+t,none⟩) (by show b<w.heap.size;omega)).trans x1)
        have y4:=(HBr.out.cell (p:=⟨b',off'+t,none⟩) (by show b'<W2.heap.size;omega)).trans ((HB2.out.cell (p:=⟨b',off'+t,none⟩) (by show b'<w.heap.size;omega)).trans x4)
        have HNt:=LH HN.out.1;clear x1 x4 hbl hbl' hlw;obtain ⟨g1,hg1⟩:∃g,g=ws[t]?.getD 0:=⟨_,rfl⟩;obtain ⟨g2,hg2⟩:∃g,g=ws'[t]?.getD 0:=⟨_,rfl⟩;rw[←hg1] at y1;rw[←hg2] at y4;have HG:=LH (And.intro hg1 hg2);clear hg1 hg2
        by_cases hgg:g1=g2
        ·subst hgg;have f1:(g1 != g1)=false:=by simp
         have HA2:Hid (∀j,j<t+1→ws[j]?.getD 0=ws'[j]?.getD 0):=LH (fun j hj=>by
          by_cases e:j=t
          ·subst e;rw[←HG.out.1,←HG.out.2]
          ·exact HA.out j (by omega))
         go_upto_region 6 with fail
         go_quiet (fail)
         have HB5:=LH (below_drewN HBr.out nq);generalize w1.drewN nq=w5 at *
         go_wp2_with fail
         go_roundw
         case rel=>exact ⟨t+1,by omega,by have:=HNt.out;go_num,HA2.out,HB5.out⟩
         case measure=>simp[intOf];omega
        ·have f1:(g1 != g2)=true:=by rw[bne_iff_ne];exact hgg
         have HF:Hid (S=false):=LH (by rw[←Bool.not_eq_true,HYes.out];rintro ⟨_,_,h,_⟩;exact hgg (by rw[HG.out.1,HG.out.2,h]));clear hgg;go_upto_region 6 with fail
         go_quiet (fail)
         have HB5:=LH (below_drewN HBr.out nq);generalize w1.drewN nq=w5 at *
         go_wp2_with fail
         go_ret;exact ⟨by rw[HF.out];rfl,bseq8 HB2.out HB5.out⟩
       ·obtain rfl:t=n1:=by omega
        have HWs:Hid (ws=ws'):=LH (eq_of_at (by rw[←HLn.out.1,HLn.out.2.2.1]) (fun j hj=>HA.out j (by rw[HLn.out.1];exact hj)))
        go_wp2_with fail
        clear d0 d1 d2 d3 d4 e0 e1 e2 e3 e4
        go_loopw [6] (fun i wr=>∃q:Nat,q≤n3∧i= .int .i64 q∧(∀j,j<q→sameT (ks[j]?.getD Tr.nil) (us[j]?.getD Tr.nil)=true)∧Below W2.heap.size W2 wr) (fun i _=>n3 - (intOf i).toNat)
        case atStart=>exact ⟨0,by omega,rfl,fun i hi=>by omega,HBr.out⟩
        case round =>
         obtain ⟨q,hq,rfl,hall,hB⟩:=hrel;have HA:=LH hall;have HBq:=LH hB;clear hall hB;generalize wr=w5 at *
         obtain ⟨d0,d1,d2,d3,d4⟩:=(HT1.out.on HBq.out).cells;obtain ⟨e0,e1,e2,e3,e4⟩:=(HT2.out.on HBq.out).cells
         by_cases hlt:q<n3
         ·have hlt2:(q:Int)<(n3:Int):=by omega
          obtain ⟨b,off,kk,kz,A7,n7,c7,A8,n8,c8,A9,n9,c9,rfl,x0,x1,x2,x3,x4,hT,hbl⟩:=HKA.out.later (bseq8 HB2.out HBq.out) hlt;obtain ⟨b',off',kk',kz',A7',n7',c7',A8',n8',c8',A9',n9',c9',rfl,y0,y1,y2,y3,y4,hU,hbl'⟩:=HKB.out.later (bseq8 HB2.out HBq.out) hlt;have HNt:=LH HN.out.2;have HCall:=LH (HIh.out q (by rw[←HLn.out.2.1];exact hlt) (us[q]?.getD Tr.nil) _ _ w5.drew (hT.on ((Below.refl _ _).drew)) (hU.on ((Below.refl _ _).drew)));have HC3:Hid (n3≤c3∧c3≤9223372036854775807∧n3≤c6∧c6≤9223372036854775807):=LH ⟨HKA.out.2.1,HKA.out.2.2.1,HKB.out.2.1,HKB.out.2.2.1⟩;obtain ⟨r1,r2,r3,r4⟩:=HC3.out;unfold cellsT at HCall;clear hT hU hbl hbl';go_upto_region 11 with fail
          go_still_tail 10,(by kernel_rfl)
          change wpList _ _ _ _ _ w5.drew
          go_wp2_with fail
          refine HCall.out.mono ?_
          rintro e w6 ⟨rfl,hB6⟩;have HB6:=LH (bseq8 (a:=W2) HBq.out.drew hB6);clear hB6;cases hs:sameT (ks[q]?.getD Tr.nil) (us[q]?.getD Tr.nil) with
          | true =>
           have HL2:Hid (∀i,i<q+1→sameT (ks[i]?.getD Tr.nil) (us[i]?.getD Tr.nil)=true):=LH (fun i hi=>by
            by_cases e:i=q
            ·subst e;exact hs
            ·exact HA.out i (by omega))
           go_wp2_with fail
           go_roundw
           case rel=>exact ⟨q+1,by omega,by have:=HNt.out;go_num,HL2.out,HB6.out⟩
           case measure=>simp[intOf];omega
          | false =>
           have HF:Hid (S=false):=LH (by rw[←Bool.not_eq_true,HYes.out];rintro ⟨_,_,_,_,h⟩;rw[sameAll10_no (by rw[←HLn.out.2.1];exact hlt) hs] at h;cases h)
           go_wp2_with fail
           go_ret;exact ⟨by rw[HF.out];rfl,bseq8 HB2.out HB6.out⟩
         ·obtain rfl:q=n3:=by omega
          have HF:Hid (S=true):=LH (HYes.out.2 ⟨trivial,trivial,HWs.out,HB.out,(sameAll10_at _ _).2 ⟨by rw[←HLn.out.2.1,HLn.out.2.2.2],fun j hj=>HA.out j (by rw[HLn.out.2.1];exact hj)⟩⟩)
          go_wp2_with fail
          go_ret;exact ⟨by rw[HF.out];rfl,bseq8 HB2.out HBq.out⟩
     ·have HF:Hid (S=false):=LH (by rw[←Bool.not_eq_true,HYes.out];rintro ⟨_,_,_,_,h⟩;exact hn3 (by rw[HLn.out.2.1,HLn.out.2.2.2,((sameAll10_at _ _).1 h).1]));have f3:((n3:Int) != (n6:Int))=true:=by rw[bne_iff_ne];omega
      subst hn1;have f4:((n1:Int) != (n1:Int))=false:=by simp
      go_enter Tryz.func50,Tryz.ntmps50;go_upto_region 1 with fail
      rw[←hW2];clear hW2
      go_wp2_with fail
      go_ret;exact ⟨by rw[HF.out];rfl,HB2.out⟩
    ·have HF:Hid (S=false):=LH (by rw[←Bool.not_eq_true,HYes.out];rintro ⟨_,_,h,_⟩;exact hn1 (by rw[HLn.out.1,HLn.out.2.2.1,h]));have f3:((n1:Int) != (n4:Int))=true:=by rw[bne_iff_ne];omega
     go_enter Tryz.func50,Tryz.ntmps50;go_upto_region 1 with fail
     rw[←hW2];clear hW2
     go_wp2_with fail
     go_ret;exact ⟨by rw[HF.out];rfl,HB2.out⟩
  ·have HF:Hid (S=false):=LH (by rw[←Bool.not_eq_true,HYes.out];rintro ⟨_,h,_⟩;exact hz h);have f1:(k != k)=false:=by simp
   have f2:(z != z')=true:=by simpa using hz
   go_enter Tryz.func50,Tryz.ntmps50;go_upto_region 1 with fail
   rw[←hW2];clear hW2
   go_wp2_with fail
   go_ret;exact ⟨by rw[HF.out];rfl,HB2.out⟩
 ·have HF:Hid (S=false):=LH (by rw[←Bool.not_eq_true,HYes.out];rintro ⟨h,_⟩;exact hk h);have f1:(k != k')=true:=by simpa using hk
  go_enter Tryz.func50,Tryz.ntmps50;go_upto_region 1 with fail
  rw[←hW2];clear hW2
  go_wp2_with fail
  go_ret;exact ⟨by rw[HF.out];rfl,HB2.out⟩
theorem rsame_size:(n:Nat)→(t:Tr)→SizeOf.sizeOf t≤n→SameX t
 | 0,.mk k z ws bs ks,hn=>by simp at hn
 | n+1,.mk k z ws bs ks,hn=>rsame_step k z ws bs ks (fun j hj=>rsame_size n _ (deep_kids hn hj))
theorem rsame8_any (t u:Tr) (v x:Value) (w:World) (hT:TrV w w.heap.size t v) (hU:TrV w w.heap.size u x) :
  Calls Tryz.prog 50 #[v,x] w fun e w'=>e= .returned (.bool (sameT t u))∧Below w.heap.size w w':=rsame_size _ t (Nat.le_refl _) u v x w hT hU
end Go.Proofs.YtmmlfnblodfjbaaGreatDoor
