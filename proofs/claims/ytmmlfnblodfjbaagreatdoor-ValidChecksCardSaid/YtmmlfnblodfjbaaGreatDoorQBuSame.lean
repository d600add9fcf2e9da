/- Layer 8, the landed package: Same (field by field, Kid by Kid). -/
import Derived.Test.YtmmlfnblodfjbaaGreatDoorQBuA
import Derived.Test.YtmmlfnblodfjbaaGreatDoorQCut
import Derived.Test.YtmmlfnblodfjbaaGreatDoorQWord
import Derived.Test.YtmmlfnblodfjbaaGreatDoorQPlain
set_option maxRecDepth 100000
namespace Go.Proofs.YtmmlfnblodfjbaaGreatDoor
open Go.RowKit Go.Deep
theorem bytesEq_any (v u:Value) (a b:List Int) (w:World) (h:Bytes w w.heap.size v a) (h':Bytes w w.heap.size u b) (ha:AllB a) (hb:AllB b) :
  Calls Tryz.prog 95 #[v,u] w fun e w'=>e= .returned (.bool (decide (a=b)))∧Below w.heap.size w w':=by
 have c1:=bytes_conv h;have c2:=bytes_conv h';obtain ⟨q,hq⟩:∃q,q=decide (a=b):=⟨_,rfl⟩;have c3:=str_eq (q:=q) ha hb (by rw[hq];exact decide_eq_true_iff);rw[←hq];obtain ⟨A1,n1,rfl⟩:=h.form rfl;obtain ⟨A2,n2,rfl⟩:=h'.form rfl;generalize strOfNums a=s1 at *
 generalize strOfNums b=s2 at *
 generalize a.length=l1 at *
 generalize b.length=l2 at *
 clear h h' hq;go_enter Tryz.func95,Tryz.ntmps95
 go_wp2_with fail
 go_ret;exact ⟨by simp,Below.refl _ _⟩
theorem sameAll_at:(a b:List Tr)→(sameAll a b=true↔a.length=b.length∧∀j,j<a.length→sameT (a[j]?.getD Tr.nil) (b[j]?.getD Tr.nil)=true)
 | [],[]=>by simp[sameAll]
 | [],u :: q=>by simp[sameAll]
 | t :: r,[]=>by simp[sameAll]
 | t :: r,u :: q=>by
  unfold sameAll;rw[Bool.and_eq_true,sameAll_at r q]
  constructor
  ·rintro ⟨h1,h2,h3⟩;refine ⟨by simp[h2],fun j hj=> ?_⟩
   cases j with
   | zero=>exact h1
   | succ j =>
    rw[List.getElem?_cons_succ,List.getElem?_cons_succ];exact h3 j (by simpa using hj)
  ·rintro ⟨h1,h2⟩;refine ⟨h2 0 (by simp),by simpa using h1,fun j hj=> ?_⟩
   have:=h2 (j+1) (by simpa using hj);rw[List.getElem?_cons_succ,List.getElem?_cons_succ] at this;exact this
theorem sameAll_no {a b:List Tr} {j:Nat} (hj:j<a.length) (h:sameT (a[j]?.getD Tr.nil) (b[j]?.getD Tr.nil)=false):sameAll a b=false:=by
 rw[←Bool.not_eq_true,sameAll_at];rintro ⟨_,h2⟩;rw[h2 j hj] at h;cases h
def SameC (t:Tr):Prop :=
 ∀(u:Tr) (v x:Value) (left:Nat) (l:Int) (w:World),deepB t left=true→(left:Int)+1≤l→l≤131072→TrV w w.heap.size t v→TrV w w.heap.size u x →
  Calls Tryz.prog 61 #[.int .i64 l,v,x] w fun e w'=>e= .returned (.bool (sameT t u))∧Below w.heap.size w w'
def KidsV (w:World) (B:Nat) (A:Option Addr) (n c:Nat) (ks:List Tr):Prop :=
 n=ks.length∧n≤c∧c≤9223372036854775807∧(0<n→∃b off,A=some ⟨b,off,none⟩∧b<B∧∀j,j<n→∃k z vw vb vk,w.cell? ⟨b,off+j*5,none⟩=some (.int .i64 k)∧w.cell? ⟨b,off+j*5+1,none⟩=some (.int .i64 z)∧w.cell? ⟨b,off+j*5+2,none⟩=some vw∧w.cell? ⟨b,off+j*5+3,none⟩=some vb∧w.cell? ⟨b,off+j*5+4,none⟩=some vk∧TrV w B (ks[j]?.getD Tr.nil) (.agg (cellsT k z vw vb vk)))
theorem KidsV.later {w W:World} {A:Option Addr} {n c:Nat} {ks:List Tr} (h:KidsV w w.heap.size A n c ks) (hB:Below w.heap.size w W) {j:Nat} (hj:j<n) :
  ∃b off k z A4 n4 c4 A5 n5 c5 A6 n6 c6,A=some ⟨b,off,none⟩∧W.cell? ⟨b,off+j*5,none⟩=some (.int .i64 k)∧W.cell? ⟨b,off+j*5+1,none⟩=some (.int .i64 z)∧W.cell? ⟨b,off+j*5+2,none⟩=some (.slice A4 n4 c4)∧W.cell? ⟨b,off+j*5+3,none⟩=some (.slice A5 n5 c5)∧W.cell? ⟨b,off+j*5+4,none⟩=some (.slice A6 n6 c6)∧TrV W W.heap.size (ks[j]?.getD Tr.nil) (.agg (cellsT k z (.slice A4 n4 c4) (.slice A5 n5 c5) (.slice A6 n6 c6)))∧b<W.heap.size:=by
 obtain ⟨b,off,rfl,hbB,hkid⟩:=h.2.2.2 (by omega);obtain ⟨kk,kz,kw,kb,kv,e0,e1,e2,e3,e4,hT⟩:=hkid j hj;obtain ⟨A4,n4,c4,A5,n5,c5,A6,n6,c6,rfl,rfl,rfl⟩:=hT.three;have hc:=fun i=>hB.cell (p:=⟨b,i,none⟩) (by show b<w.heap.size;exact hbB)
 exact ⟨b,off,kk,kz,A4,n4,c4,A5,n5,c5,A6,n6,c6,rfl,(hc _).trans e0,(hc _).trans e1,(hc _).trans e2,(hc _).trans e3,(hc _).trans e4,hT.on hB,by have:=hB.size;omega⟩
theorem KidsV.on {w W:World} {A:Option Addr} {n c:Nat} {ks:List Tr} (h:KidsV w w.heap.size A n c ks) (hB:Below w.heap.size w W):KidsV W W.heap.size A n c ks:=by
 refine ⟨h.1,h.2.1,h.2.2.1,fun hp=> ?_⟩
 obtain ⟨b,off,e,hb,hk⟩:=h.2.2.2 hp;refine ⟨b,off,e,by have:=hB.size;omega,fun j hj=> ?_⟩
 obtain ⟨k,z,vw,vb,vk,e0,e1,e2,e3,e4,hT⟩:=hk j hj;have hc:=fun i=>hB.cell (p:=⟨b,i,none⟩) (by show b<w.heap.size;exact hb)
 exact ⟨k,z,vw,vb,vk,(hc _).trans e0,(hc _).trans e1,(hc _).trans e2,(hc _).trans e3,(hc _).trans e4,hT.on hB⟩
set_option maxHeartbeats 1000000 in
theorem eqf8_any (ks us:List Tr) (ih:∀j,j<ks.length→SameC (ks[j]?.getD Tr.nil)) (left:Nat) (hd:deepAll ks left=true) (l:Int) (hl:0<ks.length→(left:Int)+1≤l) (hl2:l≤131072) (A A':Option Addr) (n n' c c':Nat) (w:World) (h:KidsV w w.heap.size A n c ks) (h':KidsV w w.heap.size A' n' c' us) :
  Calls Tryz.prog 96 #[.slice A n c,.slice A' n' c',.func (.func 61) #[.int .i64 l] #[]] w fun e w'=>e= .returned (.bool (sameAll ks us))∧Below w.heap.size w w':=by
 have HI:=LH ih;have HD:=LH hd;have HK:=LH h;have HU:=LH h';have hc:=h.2.1;have hm:=h.2.2.1;have hc':=h'.2.1;have hm':=h'.2.2.1;have HN:=LH h.1;have HN':=LH h'.1;clear ih hd h h'
 by_cases hne:n=n'
 ·subst hne;have d0:((n:Int) != (n:Int))=false:=by simp
  go_enter Tryz.func96,Tryz.ntmps96
  go_wp2_with fail
  go_loopw [17] (fun i wr=>∃t:Nat,t≤n∧i= .int .i64 t∧(∀i,i<t→sameT (ks[i]?.getD Tr.nil) (us[i]?.getD Tr.nil)=true)∧Below w.heap.size w wr) (fun i _=>n - (intOf i).toNat)
  case atStart=>exact ⟨0,by omega,rfl,fun i hi=>by omega,Below.refl _ _⟩
  case round =>
   obtain ⟨t,ht,rfl,hall,hB⟩:=hrel;have HL:=LH hall;have HB:=LH hB;clear hall hB;generalize wr=w1 at *
   by_cases hlt:t<n
   ·obtain ⟨b,off,k,z,A4,n4,c4,A5,n5,c5,A6,n6,c6,rfl,x0,x1,x2,x3,x4,hT,hb1⟩:=HK.out.later HB.out hlt;obtain ⟨b',off',k',z',A4',n4',c4',A5',n5',c5',A6',n6',c6',rfl,y0,y1,y2,y3,y4,hU,hb2⟩:=HU.out.later HB.out hlt;have hB1:Below w1.heap.size w1 (w1.alloc (.cells (cellsT k z (.slice A4 n4 c4) (.slice A5 n5 c5) (.slice A6 n6 c6)) 34)):=(Below.refl _ _).alloc (Nat.le_refl _) _;have hy:=fun i=>hB1.cell (p:=⟨b',i,none⟩) hb2
    have y0:=(hy _).trans y0;have y1:=(hy _).trans y1;have y2:=(hy _).trans y2;have y3:=(hy _).trans y3;have y4:=(hy _).trans y4;have HCall:=LH (fun X (hX:Below w1.heap.size w1 X)=>HI.out t (by rw[←HN.out];exact hlt) (us[t]?.getD Tr.nil) _ _ left l X (deepAll_get ks t (by rw[←HN.out];exact hlt) HD.out) (hl (by rw[←HN.out];omega)) hl2 (hT.on hX) (hU.on hX))
    unfold cellsT at HCall y0 y1 y2 y3 y4;have i1:(t:Int)<(n:Int):=by omega
    clear hT hU hy hB1
    go_wp2_with fail
    generalize hW:(w1.alloc _).alloc _=W2;have hB2:Below w1.heap.size w1 W2:=by rw[←hW];exact ((Below.refl _ _).alloc (Nat.le_refl _) _).alloc (by simp) _
    clear hW;refine (HCall.out _ hB2).mono ?_
    rintro e w4 ⟨rfl,hB4⟩;have HB4:=LH (bseq8 HB.out (bseq8 hB2 hB4));clear hB2 hB4;cases hs:sameT (ks[t]?.getD Tr.nil) (us[t]?.getD Tr.nil) with
    | true =>
     have HL2:Hid (∀i,i<t+1→sameT (ks[i]?.getD Tr.nil) (us[i]?.getD Tr.nil)=true):=LH (fun i hi=>by
      by_cases e:i=t
      ·subst e;exact hs
      ·exact HL.out i (by omega))
     go_wp2_with fail
     go_round
     case rel=>exact ⟨t+1,by omega,by go_num,HL2.out,HB4.out⟩
     case measure=>simp[intOf];omega
    | false =>
     have HF:Hid (false=sameAll ks us):=LH (sameAll_no (by rw[←HN.out];exact hlt) hs).symm
     go_wp2_with fail
     go_ret;exact ⟨by rw[←HF.out];rfl,HB4.out⟩
   ·obtain rfl:t=n:=by omega
    have HF:Hid (true=sameAll ks us):=LH (by
     symm
     rw[sameAll_at];exact ⟨by rw[←HN.out,←HN'.out],fun j hj=>HL.out j (by rw[HN.out];exact hj)⟩)
    go_wp2_with fail
    go_ret;exact ⟨by rw[←HF.out];rfl,HB.out⟩
 ·have d0:((n:Int) != (n':Int))=true:=by rw[bne_iff_ne];omega
  have HF:Hid (false=sameAll ks us):=LH (by
   symm
   rw[←Bool.not_eq_true,sameAll_at];rintro ⟨h1,_⟩;exact hne (by rw[HN.out,HN'.out,h1]))
  go_enter Tryz.func96,Tryz.ntmps96
  go_wp2_with fail
  go_ret;exact ⟨by rw[←HF.out];rfl,Below.refl _ _⟩
theorem sameT_eq (k z k' z':Int) (ws bs ws' bs':List Int) (ks us:List Tr):sameT (.mk k z ws bs ks) (.mk k' z' ws' bs' us)=(decide (k=k') && (decide (z=z') && (sameU ws ws' && (decide (bs=bs') && sameAll ks us)))):=by
 unfold sameT sameU;rw[Bool.eq_iff_iff]
 simp[and_assoc]
 intro _ _;exact ⟨fun h=>⟨h.2.1,h.1,h.2.2⟩,fun h=>⟨h.2.1,h.1,h.2.2⟩⟩
set_option maxHeartbeats 1000000 in
theorem same_step (k z:Int) (ws bs:List Int) (ks:List Tr) (ih:∀j,j<ks.length→SameC (ks[j]?.getD Tr.nil)):SameC (.mk k z ws bs ks):=by
 intro u v x left l w hd hl hl2 hT hU;obtain ⟨k',z',ws',bs',us⟩:=u;have hkd:deepAll ks (left - 1)=true∧(0<ks.length→1≤left):=by
  by_cases hk:k=0
  ·subst hk;have:=deep_null hd;subst this;exact ⟨by simp[deepAll],fun h=>by simp at h⟩
  ·refine ⟨deepAll_of hd hk,fun _=> ?_⟩
   unfold deepB at hd;rw[if_neg hk] at hd;simp only[Bool.and_eq_true,decide_eq_true_eq] at hd
   omega
 rw[sameT_eq];obtain ⟨A1,c1,A2,c2,A3,c3,rfl,hg,hw1,hb1,hk1,hk2,hkid⟩:=hT.parts;obtain ⟨A4,c4,A5,c5,A6,c6,rfl,hg',hw2,hb2,hk3,hk4,hkid'⟩:=hU.parts;have HKA:Hid (KidsV w w.heap.size A3 ks.length c3 ks):=LH ⟨rfl,hk1,hk2,hkid⟩;have HKB:Hid (KidsV w w.heap.size A6 us.length c6 us):=LH ⟨rfl,hk3,hk4,hkid'⟩;obtain ⟨W2,hW2⟩:∃W2,W2=(w.alloc (.cells (cellsT k z (.slice A1 ws.length c1) (.slice A2 bs.length c2) (.slice A3 ks.length c3)) 34)).alloc (.cells (cellsT k' z' (.slice A4 ws'.length c4) (.slice A5 bs'.length c5) (.slice A6 us.length c6)) 34):=⟨_,rfl⟩;have hB2:Below w.heap.size w W2:=by rw[hW2];exact ((Below.refl _ _).alloc (Nat.le_refl _) _).alloc (by simp) _
 have hT1:TBox W2 w.heap.size k z (.slice A1 ws.length c1) (.slice A2 bs.length c2) (.slice A3 ks.length c3):=by
  rw[hW2];exact (TBox.new _ _ _ _ _ _).on ((Below.refl _ _).alloc (Nat.le_refl _) _)
 have hT2:TBox W2 (w.heap.size+1) k' z' (.slice A4 ws'.length c4) (.slice A5 bs'.length c5) (.slice A6 us.length c6):=by
  rw[hW2];have:=TBox.new (w.alloc (.cells (cellsT k z (.slice A1 ws.length c1) (.slice A2 bs.length c2) (.slice A3 ks.length c3)) 34)) k' z' (.slice A4 ws'.length c4) (.slice A5 bs'.length c5) (.slice A6 us.length c6)
  rwa [World.size_alloc] at this
 have HT1:=LH hT1;have HT2:=LH hT2;have HB2:=LH hB2;have HEq:=LH (fun X (hX:Below w.heap.size w X)=>aequal_any _ _ ws ws' _ _ X (hw1.below hX (Nat.le_refl _)) (hw2.below hX (Nat.le_refl _)))
 have HBy:=LH (fun X (hX:Below w.heap.size w X)=>bytesEq_any _ _ bs bs' X (hb1.on hX) (hb2.on hX) hg.2.2.2.2.2.2 hg'.2.2.2.2.2.2)
 have HKi:=LH (fun X (hX:Below w.heap.size w X)=>eqf8_any ks us ih (left - 1) hkd.1 (l - 1) (fun h=>by have:=hkd.2 h;omega) (by omega) A3 A6 ks.length us.length c3 c6 X (HKA.out.on hX) (HKB.out.on hX))
 have hl1:(0:Int)<l:=by omega
 have hwl:IntKind.i64.wrap (l - 1)=l - 1:=IntWalk.i64_in _ (by omega);generalize ws.length=n1 at *
 generalize bs.length=n2 at *
 generalize ks.length=n3 at *
 generalize ws'.length=n4 at *
 generalize bs'.length=n5 at *
 generalize us.length=n6 at *
 clear hT hU hd hg hg' hw1 hw2 hb1 hb2 hk1 hk2 hk3 hk4 hkid hkid' hkd hB2 hT1 hT2 HKA HKB ih hl hl2;unfold cellsT at hW2 ⊢;obtain ⟨d0,d1,d2,d3,d4⟩:=HT1.out.cells;obtain ⟨e0,e1,e2,e3,e4⟩:=HT2.out.cells
 by_cases hk:k=k'
 ·by_cases hz:z=z'
  ·generalize sameAll ks us=qk at *
   generalize decide (bs=bs')=qb at *
   subst hk hz;have f1:(k == k)=true:=by simp
   have f2:(z == z)=true:=by simp
   cases hq:sameU ws ws' with
   | false =>
    rw[hq] at HEq;have hv:(decide (k=k) && (decide (z=z) && (false && (qb && qk))))=false:=by simp
    rw[hv];clear hv hq;go_enter Tryz.func61,Tryz.ntmps61;go_upto_region 1 with fail
    rw[←hW2];clear hW2
    go_wp2_with fail
    refine (HEq.out _ HB2.out).mono ?_
    rintro e w3 ⟨rfl,hB3⟩;have HB3:=LH (bseq8 HB2.out hB3);clear hB3
    go_wp2_with fail
    go_ret;exact ⟨rfl,HB3.out⟩
   | true =>
    rw[hq] at HEq;cases qb with
    | false =>
     have hv:(decide (k=k) && (decide (z=z) && (true && (false && qk))))=false:=by simp
     rw[hv];clear hv hq;go_enter Tryz.func61,Tryz.ntmps61;go_upto_region 1 with fail
     rw[←hW2];clear hW2
     go_wp2_with fail
     refine (HEq.out _ HB2.out).mono ?_
     rintro e w3 ⟨rfl,hB3⟩;have HB3:=LH (bseq8 HB2.out hB3);have hT3:=(HT1.out.on hB3).cells;have hU3:=(HT2.out.on hB3).cells;clear hB3 d0 d1 d2 d3 d4 e0 e1 e2 e3 e4;obtain ⟨d0,d1,d2,d3,d4⟩:=hT3;obtain ⟨e0,e1,e2,e3,e4⟩:=hU3
     go_wp2_with fail
     refine (HBy.out _ HB3.out).mono ?_
     rintro e w4 ⟨rfl,hB4⟩;have HB4:=LH (bseq8 HB3.out hB4);clear hB4
     go_wp2_with fail
     go_ret;exact ⟨rfl,HB4.out⟩
    | true =>
     have hv:(decide (k=k) && (decide (z=z) && (true && (true && qk))))=qk:=by simp
     rw[hv];clear hv hq;go_enter Tryz.func61,Tryz.ntmps61;go_upto_region 1 with fail
     rw[←hW2];clear hW2
     go_wp2_with fail
     refine (HEq.out _ HB2.out).mono ?_
     rintro e w3 ⟨rfl,hB3⟩;have HB3:=LH (bseq8 HB2.out hB3);have hT3:=(HT1.out.on hB3);have hU3:=(HT2.out.on hB3);clear hB3 d0 d1 d2 d3 d4 e0 e1 e2 e3 e4;have HT3:=LH hT3;have HU3:=LH hU3;obtain ⟨d0,d1,d2,d3,d4⟩:=hT3.cells;obtain ⟨e0,e1,e2,e3,e4⟩:=hU3.cells;clear hT3 hU3
     go_wp2_with fail
     refine (HBy.out _ HB3.out).mono ?_
     rintro e w4 ⟨rfl,hB4⟩;have HB4:=LH (bseq8 HB3.out hB4);have hT4:=(HT3.out.on hB4).cells;have hU4:=(HU3.out.on hB4).cells;clear hB4 d0 d1 d2 d3 d4 e0 e1 e2 e3 e4;obtain ⟨d0,d1,d2,d3,d4⟩:=hT4;obtain ⟨e0,e1,e2,e3,e4⟩:=hU4
     go_wp2_with fail
     refine (HKi.out _ HB4.out).mono ?_
     rintro e w5 ⟨rfl,hB5⟩;have HB5:=LH (bseq8 HB4.out hB5);clear hB5
     go_wp2_with fail
     go_ret;exact ⟨by simp,HB5.out⟩
  ·have hv:(decide (k=k') && (decide (z=z') && (sameU ws ws' && (decide (bs=bs') && sameAll ks us))))=false:=by simp[hz]
   rw[hv];have f1:(k == k')=true:=by simp[hk]
   have f2:(z == z')=false:=by simp[hz]
   clear hv hk hz;go_enter Tryz.func61,Tryz.ntmps61;go_upto_region 1 with fail
   rw[←hW2];clear hW2
   go_wp2_with fail
   go_ret;exact ⟨by simp,HB2.out⟩
 ·have hv:(decide (k=k') && (decide (z=z') && (sameU ws ws' && (decide (bs=bs') && sameAll ks us))))=false:=by simp[hk]
  rw[hv];have f1:(k == k')=false:=by simp[hk]
  clear hv hk;go_enter Tryz.func61,Tryz.ntmps61;go_upto_region 1 with fail
  rw[←hW2];clear hW2
  go_wp2_with fail
  go_ret;exact ⟨by simp,HB2.out⟩
theorem sameTr_any:(n:Nat)→(t:Tr)→SizeOf.sizeOf t≤n→SameC t
 | 0,.mk k z ws bs ks,hn=>by simp at hn
 | n+1,.mk k z ws bs ks,hn=>same_step k z ws bs ks (fun j hj=>sameTr_any n _ (deep_kids hn hj))
theorem same8_any (t u:Tr) (v x:Value) (left:Nat) (w:World) (hd:deepB t left=true) (hl:left≤131071) (hT:TrV w w.heap.size t v) (hU:TrV w w.heap.size u x) :
  Calls Tryz.prog 37 #[v,x] w fun e w'=>e= .returned (.bool (sameT t u))∧Below w.heap.size w w':=by
 have hC:=fun X (hX:Below w.heap.size w X)=>sameTr_any _ t (Nat.le_refl _) u v x left 131072 X hd (by omega) (by omega) (hT.on hX) (hU.on hX)
 obtain ⟨k,z,ws,bs,ks⟩:=t;obtain ⟨k',z',ws',bs',us⟩:=u;obtain ⟨A1,c1,A2,c2,A3,c3,rfl,-⟩:=hT.parts;obtain ⟨A4,c4,A5,c5,A6,c6,rfl,-⟩:=hU.parts;generalize sameT (.mk k z ws bs ks) (.mk k' z' ws' bs' us)=q at *
 generalize ws.length=n1 at *
 generalize bs.length=n2 at *
 generalize ks.length=n3 at *
 generalize ws'.length=n4 at *
 generalize bs'.length=n5 at *
 generalize us.length=n6 at *
 have HC:=LH hC;clear hC hT hU hd;unfold cellsT at HC ⊢;go_enter Tryz.func37,Tryz.ntmps37
 go_wp2_with fail
 generalize hW:(w.alloc _).alloc _=W2;have hB2:Below w.heap.size w W2:=by rw[←hW];exact ((Below.refl _ _).alloc (Nat.le_refl _) _).alloc (by simp) _
 clear hW;refine (HC.out _ hB2).mono ?_
 rintro e w3 ⟨rfl,hB3⟩;have HB3:=LH (bseq8 hB2 hB3);clear hB2 hB3
 go_wp2_with fail
 go_ret;exact ⟨rfl,HB3.out⟩
end Go.Proofs.YtmmlfnblodfjbaaGreatDoor
