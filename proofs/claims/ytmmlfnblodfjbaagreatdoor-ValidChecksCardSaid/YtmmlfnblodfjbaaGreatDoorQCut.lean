/- Layer 7: the document's Cut. -/
import Derived.Test.YtmmlfnblodfjbaaGreatDoorQAr
import Derived.Test.YtmmlfnblodfjbaaGreatDoorQWord
set_option maxRecDepth 100000
namespace Go.Proofs.YtmmlfnblodfjbaaGreatDoor
open Go.RowKit Go.Deep
def Sm (ls:List (List Int)):Prop:=ls.length≤1000000000∧(sizesL ls).sum≤1000000000∧AllU ls
def RowV (w:World) (g t:Nat) (xs:List Value):Prop:=w.heap[g]? = some (.cells xs.toArray t (0,0))
theorem RowV.cell {w:World} {g t:Nat} {xs:List Value} (h:RowV w g t xs) {j:Nat} (hj:j<xs.length):w.cell? ⟨g,j,none⟩=some (xs[j]?.getD undef):=by
 unfold RowV at h
 simp[World.cell?,h,hj]
theorem RowV.frozen {w:World} {g t:Nat} {xs:List Value} (h:RowV w g t xs) (j:Nat):w.frozen? ⟨g,j,none⟩=false:=by
 unfold RowV at h
 simp[World.frozen?,h]
theorem RowV.set {w:World} {g t:Nat} {xs:List Value} (h:RowV w g t xs) (i:Nat) (v:Value):RowV (w.setCell ⟨g,i,none⟩ v) g t (xs.set i v):=by
 unfold RowV at h ⊢
 simp[World.setCell,Array.getElem?_modify,h]
theorem RowV.made (w:World) (t:Nat) (z:Value) (n:Nat):RowV (w.alloc (.cells (madeCells #[z] n) t)) w.heap.size t (List.replicate n z):=by
 unfold RowV;rw[blk_alloc_new]
 congr 2
 apply Array.ext'
 rw[toList_madeCells_one]
theorem RowV.owns {w:World} {g t base n:Nat} {xs:List Value} (h:RowV w g t xs) (hb:base≤g) (hn:xs.length=n) (hm:n≤maxLen):w.ownsRow base t 1 (.slice (some ⟨g,0,none⟩) n n) n xs :=
 ⟨by rw[hn,Nat.mul_one],.inr ⟨g,n,xs.toArray,rfl,hb,h,Nat.le_refl _,hm,by simp[hn],by subst hn;simp⟩⟩
set_option maxHeartbeats 1000000 in
theorem asum_any (v:Value) (l:List Int) (B:Nat) (w:World) (h:NumS .i64 w B v l) (hp:∀t,-1000000000000≤(l.take t).sum∧(l.take t).sum≤1000000000000) :
  Calls Tryz.prog 199 #[v] w fun e w'=>e= .returned (.int .i64 l.sum)∧w=w':=by
 obtain ⟨A,c,rfl,hc,hm,hr⟩:=h;obtain ⟨len,hn⟩:∃n,n=l.length:=⟨_,rfl⟩;rw[←hn] at hc ⊢;have H:=LH hr;have HN:=LH hn;have HP:=LH hp;clear hr hp hn;go_enter Tryz.func199,Tryz.ntmps199
 go_wp2_with fail
 go_loopw [3,8] (fun s i wr=>∃t:Nat,t≤len∧i= .int .i64 t∧s= .int .i64 (l.take t).sum∧w=wr) (fun _ i _=>len - (intOf i).toNat)
 case atStart=>exact ⟨0,by omega,rfl,by simp,rfl⟩
 case round =>
  obtain ⟨t,ht,rfl,rfl,rfl⟩:=hrel;have f1:=HP.out t;obtain ⟨S,hS⟩:∃S,(l.take t).sum=S:=⟨_,rfl⟩;rw[hS] at f1 ⊢;have HS:=LH hS;clear hS
  by_cases hlt:t<len
  ·obtain ⟨b,off,rfl,_,hcell⟩:=H.out (by rw[←HN.out];omega);have p1:=hcell t (by rw[←HN.out];omega);have HE:Hid ((l.take (t+1)).sum=S+l[t]?.getD 0):=LH (by rw[sum_take_succ (by rw[←HN.out];omega),HS.out]);have f2:=HP.out (t+1);rw[HE.out] at f2;obtain ⟨y,hy⟩:∃y,l[t]?.getD 0=y:=⟨_,rfl⟩;rw[hy] at p1 HE f2;clear hcell hy;have i1:(t:Int)<(len:Int):=by omega
   go_wp2_with fail
   go_roundw
   case rel=>exact ⟨t+1,by omega,by go_num,by rw[HE.out],trivial⟩
   case measure=>simp[intOf];omega
  ·obtain rfl:t=len:=by omega
   have HE:Hid (S=l.sum):=LH (by rw[←HS.out,HN.out,List.take_length])
   go_wp2_with fail
   go_ret;exact ⟨by rw[←HE.out];rfl,rfl⟩
def has7 (n i:Int):Bool:=decide (0≤i∧i<n)
set_option maxHeartbeats 400000 in
theorem ahas_any (n i:Int) (w:World) :
  Calls Tryz.prog 149 #[.int .i64 n,.int .i64 i] w fun e w'=>e= .returned (.bool (has7 n i))∧w=w':=by
 by_cases h1:0≤i
 ·have d1:decide (0≤i)=true:=decide_eq_true h1
  by_cases h2:i<n
  ·have d2:decide (i<n)=true:=decide_eq_true h2;have HE:Hid (has7 n i=true):=LH (decide_eq_true ⟨h1,h2⟩);rw[HE.out];clear HE;go_enter Tryz.func149,Tryz.ntmps149
   go_wp2_with fail
   go_ret;exact ⟨rfl,rfl⟩
  ·have d2:decide (i<n)=false:=decide_eq_false h2;have HE:Hid (has7 n i=false):=LH (decide_eq_false (fun e=>h2 e.2))
   rw[HE.out];clear HE;go_enter Tryz.func149,Tryz.ntmps149
   go_wp2_with fail
   go_ret;exact ⟨rfl,rfl⟩
 ·have d1:decide (0≤i)=false:=decide_eq_false h1;have HE:Hid (has7 n i=false):=LH (decide_eq_false (fun e=>h1 e.1))
  rw[HE.out];clear HE;go_enter Tryz.func149,Tryz.ntmps149
  go_wp2_with fail
  go_ret;exact ⟨rfl,rfl⟩
def sizesTo (ls:List (List Int)) (t:Nat):List Value:=((sizesL ls).take t).map (Value.int .i64) ++ List.replicate (ls.length - t) (.int .i64 0)
theorem sizesTo_length {ls:List (List Int)} {t:Nat} (h:t≤ls.length):(sizesTo ls t).length=ls.length:=by
 unfold sizesTo;rw[List.length_append,List.length_map,List.length_take,List.length_replicate,sizesL_length]
 omega
theorem sizesTo_succ {ls:List (List Int)} {t:Nat} (h:t<ls.length):(sizesTo ls t).set t (.int .i64 ((ls[t]?.getD []).length:Int))=sizesTo ls (t+1):=by
 have e:(((sizesL ls).take t).map (Value.int .i64)).length=t:=by rw[List.length_map,List.length_take,sizesL_length];omega
 unfold sizesTo;rw[List.set_append,if_neg (by omega),e,Nat.sub_self,sizesL_take h,List.map_append,List.append_assoc];obtain ⟨k,hk⟩:∃k,ls.length - t=k+1:=⟨ls.length - t - 1,by omega⟩
 rw[hk,show ls.length - (t+1)=k by omega,List.replicate_succ,List.set_cons_zero]
 rfl
theorem sizesTo_end {ls:List (List Int)} {t:Nat} (h:t=ls.length):sizesTo ls t=(sizesL ls).map (Value.int .i64):=by
 subst h;unfold sizesTo;rw[Nat.sub_self,List.replicate_zero,List.append_nil,←sizesL_length,List.take_length]
set_option maxHeartbeats 1000000 in
theorem asizes_anyL (v:Value) (ls:List (List Int)) (w:World) (h:ArV w w.heap.size v ls) (hs:ls.length≤1000000000) :
  Calls Tryz.prog 63 #[v] w fun e w'=>∃u,e= .returned u∧OwnI w' w.heap.size u (sizesL ls)∧Below w.heap.size w w':=by
 have HV:=LH h;have hlen:=hs;obtain ⟨A,c,rfl,hc,hm,hr⟩:=h;obtain ⟨len,hn⟩:∃n,n=ls.length:=⟨_,rfl⟩;rw[←hn] at hc hlen ⊢;have HN:=LH hn;rw[←hn] at HV;have hmk:=run_make_row' (P:=Tryz.prog) 45 3 (.int .i64 0) 8 Tryz.underlying45 Tryz.info3 rfl .i64 .i64 len (by omega) (by omega);have HR0:Hid (RowV (w.alloc (.cells (madeCells #[Value.int .i64 0] len) 3)) w.heap.size 3 (sizesTo ls 0)):=LH (by
  unfold sizesTo;rw[←hn];exact RowV.made w _ _ _)
 clear hr hn hs;go_enter Tryz.func63,Tryz.ntmps63
 go_wp2_with fail
 go_loopw [11] (fun i wr=>∃t:Nat,t≤len∧i= .int .i64 t∧RowV wr w.heap.size 3 (sizesTo ls t)∧Below w.heap.size w wr) (fun i _=>len - (intOf i).toNat)
 case atStart=>exact ⟨0,by omega,rfl,HR0.out,(Below.refl _ _).alloc (Nat.le_refl _) _⟩
 case round =>
  obtain ⟨t,ht,rfl,ho,hB⟩:=hrel;have HO:=LH ho;have HB:=LH hB
  by_cases hlt:t<len
  ·obtain ⟨b,off,A1,c1,rfl,p1,k1,-⟩:=below_cells HV.out HB.out rfl (j:=t) (by rw[←HN.out];exact hlt);have q1:=ho.cell (j:=t) (by rw[sizesTo_length (by rw[←HN.out];omega),←HN.out];exact hlt);have q2:=ho.frozen t;obtain ⟨z,hz⟩:∃z,(sizesTo ls t)[t]?.getD undef=z:=⟨_,rfl⟩;rw[hz] at q1;have HS:Hid ((sizesTo ls t).set t (.int .i64 ((ls[t]?.getD []).length:Int))=sizesTo ls (t+1)):=LH (sizesTo_succ (by rw[←HN.out];exact hlt));obtain ⟨m,hm1⟩:∃m,(ls[t]?.getD []).length=m:=⟨_,rfl⟩;rw[hm1] at p1 k1 HS;have i1:(t:Int)<(len:Int):=by omega
   clear ho hB hz hm1
   go_wp2_with fail
   go_roundw
   case rel=>exact ⟨t+1,by omega,by go_num,by rw[←HS.out];exact HO.out.set t _,HB.out.setCell (p:=⟨w.heap.size,t,none⟩) (Nat.le_refl _) _⟩
   case measure=>simp[intOf];omega
  ·obtain rfl:t=len:=by omega
   have HE:Hid (OwnI wr w.heap.size (.slice (some ⟨w.heap.size,0,none⟩) t t) (sizesL ls)):=LH (by
    have:=HO.out;rw[sizesTo_end HN.out] at this;unfold OwnI OwnN;rw[sizesL_length,←HN.out];exact this.owns (Nat.le_refl _) (by rw[List.length_map,sizesL_length];exact HN.out.symm) (by unfold maxLen;omega))
   clear ho hB
   go_wp2_with fail
   go_ret;exact ⟨_,rfl,HE.out,HB.out⟩
set_option maxHeartbeats 1000000 in
theorem afits_any (v:Value) (l:List Int) (B:Nat) (w:World) (h:NumS .i64 w B v l) (hl:All64 l) :
  Calls Tryz.prog 62 #[v] w fun e w'=>e= .returned (.bool (fitsL l))∧w=w':=by
 obtain ⟨A,c,rfl,hc,hm,hr⟩:=h;obtain ⟨len,hn⟩:∃n,n=l.length:=⟨_,rfl⟩;rw[←hn] at hc ⊢;have H:=LH hr;have HN:=LH hn;have HL:=LH hl;clear hr hl
 by_cases h0:len<1
 ·have HF:Hid (fitsL l=false):=LH (decide_eq_false (fun ⟨a,_⟩=>by omega))
  rw[HF.out];have d0:decide ((len:Int)<1)=true:=decide_eq_true (by omega);clear hn;go_enter Tryz.func62,Tryz.ntmps62
  go_wp2_with fail
  go_ret;exact ⟨rfl,rfl⟩
 have d0:decide ((len:Int)<1)=false:=decide_eq_false (by omega)
 by_cases h1:16<len
 ·have HF:Hid (fitsL l=false):=LH (decide_eq_false (fun ⟨_,a,_⟩=>by omega))
  rw[HF.out];have d1:decide (16<(len:Int))=true:=decide_eq_true (by omega);clear hn;go_enter Tryz.func62,Tryz.ntmps62
  go_wp2_with fail
  go_ret;exact ⟨rfl,rfl⟩
 have d1:decide (16<(len:Int))=false:=decide_eq_false (by omega);obtain ⟨b,off,rfl,_,hcell⟩:=H.out (by omega);have HC:=LH hcell;have c0:=hcell 0 (by omega);obtain ⟨x,hx⟩:∃x,l[0]?.getD 0=x:=⟨_,rfl⟩;rw[hx,Nat.add_zero] at c0;have HX:=LH hx;have i0:(0:Int)<(len:Int):=by omega
 clear hcell hx
 by_cases h2:x<1
 ·have HF:Hid (fitsL l=false):=LH (decide_eq_false (fun ⟨_,_,a,_⟩=>by rw[HX.out] at a;omega))
  rw[HF.out];have d2:decide (x<1)=true:=decide_eq_true h2;clear hn;go_enter Tryz.func62,Tryz.ntmps62
  go_wp2_with fail
  go_ret;exact ⟨rfl,rfl⟩
 have d2:decide (x<1)=false:=decide_eq_false h2;have h2':1≤x:=by omega
 clear hn;go_enter Tryz.func62,Tryz.ntmps62
 go_wp2_with fail
 go_loopw [3,4,23] (fun s o i wr=>∃t:Nat,t≤len∧i= .int .i64 t∧s= .int .i64 (l.take t).sum∧(∃q,o= .bool q)∧FitTo l t∧w=wr) (fun _ _ i _=>len - (intOf i).toNat)
 case atStart=>exact ⟨0,by omega,rfl,by simp,⟨_,rfl⟩,FitTo.zero l,rfl⟩
 case round =>
  obtain ⟨t,ht,rfl,rfl,⟨q,rfl⟩,hft,rfl⟩:=hrel;have HFt:=LH hft;have g1:=hft.2.1;have g2:=hft.2.2;obtain ⟨S,hS⟩:∃S,(l.take t).sum=S:=⟨_,rfl⟩;rw[hS] at g1 g2 ⊢;have HS:=LH hS;clear hS hft
  by_cases hlt:t<len
  ·have p1:=HC.out t (by rw[←HN.out];exact hlt);have y1:=HL.out.at_ t;obtain ⟨y,hy⟩:∃y,l[t]?.getD 0=y:=⟨_,rfl⟩;rw[hy] at p1 y1;have HY:=LH hy;have HYB:=LH y1;clear hy y1;have i1:(t:Int)<(len:Int):=by omega
   go_wp2_with fail
   refine (add_any S y 4096 _ (by omega) (by omega) HYB.out.1 HYB.out.2 (by omega) (by omega)).mono ?_
   rintro e w' ⟨rfl,rfl⟩
   by_cases hok:0≤S∧0≤y∧S+y≤4096
   ·have HA:Hid (addV S y 4096=S+y∧addB S y 4096=true):=LH ⟨addV_of hok,addB_of hok⟩;rw[HA.out.1,HA.out.2];have HF2:Hid (FitTo l (t+1)):=LH (HFt.out.next (by rw[←HN.out];exact hlt) (by rw[HY.out];exact hok.2.1) (by rw[HY.out,HS.out];omega));have HE:Hid ((l.take (t+1)).sum=S+y):=LH (by rw[sum_take_succ (by rw[←HN.out];omega),HS.out,HY.out]);clear hok HA
    go_wp2_with fail
    go_roundw
    case rel=>exact ⟨t+1,by omega,by go_num,by rw[HE.out],⟨_,rfl⟩,HF2.out,trivial⟩
    case measure=>simp[intOf];omega
   ·have HA:Hid (addV S y 4096=0∧addB S y 4096=false):=LH ⟨addV_not hok,addB_not hok⟩;rw[HA.out.1,HA.out.2];have HF:Hid (fitsL l=false):=LH (fits_not (t:=t) (by rw[←HN.out];exact hlt) (by rw[HY.out,HS.out];omega));clear hok HA
    go_wp2_with fail
    go_ret;exact ⟨by rw[HF.out];rfl,rfl⟩
  ·obtain rfl:t=len:=by omega
   have HF:Hid (fitsL l=true):=LH (fits_yes (by rw[←HN.out];exact HFt.out) (by rw[←HN.out];omega) (by rw[←HN.out];omega) (by rw[HX.out];exact h2'))
   go_wp2_with fail
   go_ret;exact ⟨by rw[HF.out];rfl,rfl⟩
theorem aright_anyL (v:Value) (ls:List (List Int)) (w:World) (h:ArV w w.heap.size v ls) (hs:ls.length≤1000000000) :
  Calls Tryz.prog 38 #[v] w fun e w'=>e= .returned (.bool (fitsL (sizesL ls)))∧Below w.heap.size w w':=by
 have HS:=LH (asizes_anyL v ls w h hs);have HA:=LH (sizes_all64 h);clear h hs;go_enter Tryz.func38,Tryz.ntmps38
 go_wp2_with fail
 refine HS.out.mono ?_
 rintro e w1 ⟨u,rfl,ho,hB⟩;have HO:=LH (OwnN.numS ho);clear ho
 go_wp2_with fail
 refine (afits_any u (sizesL ls) _ w1 HO.out HA.out).mono ?_
 rintro e w' ⟨rfl,rfl⟩
 go_wp2_with fail
 go_ret;exact ⟨rfl,hB⟩
set_option maxHeartbeats 1000000 in
theorem awithin_any (v:Value) (l:List Int) (g a n:Int) (B:Nat) (w:World) (h:NumS .i64 w B v l) (hl:All64 l) (a1:In64 a) (n1:In64 n) :
  Calls Tryz.prog 130 #[v,.int .i64 g,.int .i64 a,.int .i64 n] w fun e w'=>e= .returned (.bool (withinB l g a n))∧w=w':=by
 obtain ⟨A,c,rfl,hc,hm,hr⟩:=h;obtain ⟨len,hn⟩:∃n,n=l.length:=⟨_,rfl⟩;rw[←hn];have H:=LH hr;have HN:=LH hn;have HL:=LH hl;have HA1:=LH a1;have HN1:=LH n1;clear hr hl hc hm hn a1 n1
 by_cases hh:0≤g∧g<(len:Int)
 ·obtain ⟨j,rfl⟩:=Int.eq_ofNat_of_zero_le hh.1;have HH:Hid (has7 len j=true):=LH (decide_eq_true hh);have hj:j<len:=by omega
  obtain ⟨b,off,rfl,_,hcell⟩:=H.out (by rw[←HN.out];omega);have c0:=hcell j (by rw[←HN.out];exact hj);have y1:=HL.out.at_ j;obtain ⟨x,hx⟩:∃x,l[j]?.getD 0=x:=⟨_,rfl⟩;rw[hx] at c0 y1;have HX:=LH hx;have HY1:=LH y1;have i1:(j:Int)<(len:Int):=by omega
  have HW:Hid (addB a n x=withinB l j a n):=LH (by
   have h1:=HN.out;unfold withinB addB;rw[show ((j:Int)).toNat=j by simp,HX.out,←HN.out]
   by_cases hA:0≤a∧0≤n∧a+n≤x
   ·rw[decide_eq_true hA,decide_eq_true ⟨by omega,by omega,by omega,by omega,by omega,by omega⟩]
   ·rw[decide_eq_false hA,decide_eq_false (fun e=>hA ⟨e.2.2.1,e.2.2.2.1,by omega⟩)])
  clear hcell hx y1 hh;go_enter Tryz.func130,Tryz.ntmps130
  go_wp2_with fail
  refine (ahas_any _ _ _).mono ?_
  rintro e w' ⟨rfl,rfl⟩;rw[HH.out]
  go_wp2_with fail
  refine (add_any a n x _ HA1.out.1 HA1.out.2 HN1.out.1 HN1.out.2 HY1.out.1 HY1.out.2).mono ?_
  rintro e w' ⟨rfl,rfl⟩;rw[HW.out]
  go_wp2_with fail
  go_ret;exact ⟨rfl,rfl⟩
 ·have HH:Hid (has7 len g=false):=LH (decide_eq_false hh);have HF:Hid (withinB l g a n=false):=LH (decide_eq_false (fun e=>hh ⟨e.1,by have:=e.2.1;have:=HN.out;omega⟩))
  rw[HF.out];clear HF hh;go_enter Tryz.func130,Tryz.ntmps130
  go_wp2_with fail
  refine (ahas_any _ _ _).mono ?_
  rintro e w' ⟨rfl,rfl⟩;rw[HH.out]
  go_wp2_with fail
  go_ret;exact ⟨rfl,rfl⟩
theorem NumS.front {q:IntKind} {w:World} {B len c j:Nat} {A:Option Addr} {l:List Int} (h:NumS q w B (.slice A len c) l) (hlen:l.length=len) (hj:j≤len):NumS q w B (.slice A j c) (l.take j):=by
 obtain ⟨A',c',e,hc,hm,hr⟩:=h;rw[hlen] at e hc;cases e
 have hl:(l.take j).length=j:=by rw[List.length_take];omega
 refine ⟨_,_,by rw[hl],by omega,hm,fun hp=> ?_⟩
 obtain ⟨b,off,ea,hlt,hcell⟩:=hr (by omega);refine ⟨b,off,ea,hlt,fun i hi=> ?_⟩
 rw[hl] at hi;rw[List.getElem?_take_of_lt hi];exact hcell i (by omega)
set_option maxHeartbeats 1000000 in
theorem aplace_any (v:Value) (l:List Int) (g a:Int) (B:Nat) (w:World) (h:NumS .i64 w B v l) (hl:All64 l) (a1:In64 a) :
  Calls Tryz.prog 198 #[v,.int .i64 g,.int .i64 a] w fun e w'=>e= .returned (.int .i64 (placeI l g a))∧w=w':=by
 have HFi:=LH (afits_any v l B w h hl);have HWi:=LH (awithin_any v l g a 1 B w h hl a1 ⟨by decide,by decide⟩)
 have HV:=LH h;obtain ⟨A,c,rfl,hc,hm,-⟩:=h;obtain ⟨len,hn⟩:∃n,n=l.length:=⟨_,rfl⟩;rw[←hn] at HFi HWi HV hc ⊢;have HN:=LH hn;clear hl a1 hn;cases hf:fitsL l with
 | false =>
  have HP:Hid (placeI l g a= -1):=LH (by unfold placeI;rw[if_neg (fun e=>by rw[hf] at e;cases e.1)])
  rw[hf] at HFi;rw[HP.out];clear hf HP;go_enter Tryz.func198,Tryz.ntmps198
  go_wp2_with fail
  refine HFi.out.mono ?_
  rintro e w' ⟨rfl,rfl⟩
  go_wp2_with fail
  go_ret;exact ⟨rfl,rfl⟩
 | true =>
  rw[hf] at HFi;cases hw:withinB l g a 1 with
  | false =>
   have HP:Hid (placeI l g a= -1):=LH (by unfold placeI;rw[if_neg (fun e=>by rw[hw] at e;cases e.2)])
   rw[hw] at HWi;rw[HP.out];clear hf hw HP;go_enter Tryz.func198,Tryz.ntmps198
   go_wp2_with fail
   refine HFi.out.mono ?_
   rintro e w' ⟨rfl,rfl⟩
   go_wp2_with fail
   refine HWi.out.mono ?_
   rintro e w' ⟨rfl,rfl⟩
   go_wp2_with fail
   go_ret;exact ⟨rfl,rfl⟩
  | true =>
   rw[hw] at HWi;obtain ⟨w1,w2,w3,w4,w5,w6⟩:0≤g∧g<l.length∧0≤a∧(0:Int)≤1∧a≤l[g.toNat]?.getD 0∧1≤l[g.toNat]?.getD 0 - a:=of_decide_eq_true hw;obtain ⟨j,rfl⟩:=Int.eq_ofNat_of_zero_le w1;rw[show ((j:Int)).toNat=j by simp] at w5 w6
   have HP:Hid (placeI l j a=(l.take j).sum+a):=LH (by unfold placeI;rw[if_pos ⟨hf,hw⟩,show ((j:Int)).toNat=j by simp];omega)
   have HFt:Hid (∀t,-1000000000000≤((l.take j).take t).sum∧((l.take j).take t).sum≤1000000000000):=LH (fun t=>by
    rw[List.take_take];have:=fits_take hf (min t j)
    omega)
   have f0:=fits_take hf j;have hj:j<len:=by rw[HN.out];omega
   have a1:a≤4096:=by
    have:=(fits_take hf (j+1)).2;rw[sum_take_succ (by omega)] at this
    omega
   have HS:=LH (asum_any (.slice A j c) (l.take j) B w (HV.out.front HN.out.symm (by omega)) HFt.out);obtain ⟨S,hS⟩:∃S,(l.take j).sum=S:=⟨_,rfl⟩;rw[hS] at f0 HS HP;have hw8:IntKind.i64.wrap (S+a)=S+a:=IntWalk.i64_in _ (by omega);have i1:(j:Int)≤(len:Int):=by omega
   have i2:(j:Int)≤(c:Int):=by omega
   clear hf hw w4 w5 w6 w1 w2 hS;rw[HP.out];go_enter Tryz.func198,Tryz.ntmps198
   go_wp2_with fail
   refine HFi.out.mono ?_
   rintro e w' ⟨rfl,rfl⟩
   go_wp2_with fail
   refine HWi.out.mono ?_
   rintro e w' ⟨rfl,rfl⟩
   go_wp2_with fail
   refine HS.out.mono ?_
   rintro e w' ⟨rfl,rfl⟩
   go_wp2_with fail
   go_ret;exact ⟨rfl,rfl⟩
set_option maxHeartbeats 1000000 in
theorem aword_any (v:Value) (ls:List (List Int)) (g a:Int) (w:World) (h:ArV w w.heap.size v ls) :
  Calls Tryz.prog 202 #[v,.int .i64 g,.int .i64 a] w fun e w'=>e= .returned (.tuple #[.int .u64 (wordA ls g a),.int .u16 (wordE7 ls g a)])∧Below w.heap.size w w':=by
 have HV:=LH h;obtain ⟨A,c,rfl,hc,hm,-⟩:=h;obtain ⟨len,hn⟩:∃n,n=ls.length:=⟨_,rfl⟩;rw[←hn] at hc HV ⊢;have HN:=LH hn;clear hn
 by_cases hg:0≤g∧g<(len:Int)
 ·obtain ⟨j,rfl⟩:=Int.eq_ofNat_of_zero_le hg.1;have HG:Hid (has7 len j=true):=LH (decide_eq_true hg);have hj:j<ls.length:=by rw[←HN.out];omega
  obtain ⟨b,off,A1,c1,rfl,p1,k1,hr1⟩:=below_cells HV.out (Below.refl _ _) rfl (j:=j) hj;have hsz:=sizesL_get hj;obtain ⟨m,hm1⟩:∃m,(ls[j]?.getD []).length=m:=⟨_,rfl⟩;rw[hm1] at p1 hr1 k1 hsz;have i1:(j:Int)<(len:Int):=by omega
  have hw:withinB (sizesL ls) j a 1=has7 m a:=by
   have h1:=HN.out;unfold withinB has7;rw[show ((j:Int)).toNat=j by simp,hsz,sizesL_length,←h1]
   by_cases hA:0≤a∧a<(m:Int)
   ·rw[decide_eq_true hA,decide_eq_true ⟨by omega,by omega,by omega,by omega,by omega,by omega⟩]
   ·rw[decide_eq_false hA,decide_eq_false (fun e=>hA ⟨e.2.2.1,by omega⟩)]
  by_cases ha:0≤a∧a<(m:Int)
  ·obtain ⟨i,rfl⟩:=Int.eq_ofNat_of_zero_le ha.1;have HA:Hid (has7 m i=true):=LH (decide_eq_true ha);obtain ⟨g1,o1,rfl,x1⟩:=hr1 i (by omega);obtain ⟨x,hx⟩:∃x,(ls[j]?.getD [])[i]?.getD 0=x:=⟨_,rfl⟩;rw[hx] at x1;have HE:Hid (wordA ls j i=x∧wordE7 ls j i=0):=LH (by
    unfold wordA wordE7;rw[hw,HA.out,if_pos rfl,if_pos rfl,show ((j:Int)).toNat=j by simp,show ((i:Int)).toNat=i by simp]
    exact ⟨hx,rfl⟩)
   have i2:(i:Int)<(m:Int):=by omega
   rw[HE.out.1,HE.out.2];clear hr1 hx HE hw hsz hm1 hg ha hj;go_enter Tryz.func202,Tryz.ntmps202
   go_wp2_with fail
   refine (ahas_any _ _ _).mono ?_
   rintro e w' ⟨rfl,rfl⟩;rw[HG.out]
   go_wp2_with fail
   refine (ahas_any _ _ _).mono ?_
   rintro e w' ⟨rfl,rfl⟩;rw[HA.out]
   go_wp2_with fail
   go_ret2;exact ⟨rfl,Below.refl _ _⟩
  ·have HA:Hid (has7 m a=false):=LH (decide_eq_false ha);have HE:Hid (wordA ls j a=0∧wordE7 ls j a=20):=LH (by
    unfold wordA wordE7;rw[hw,HA.out];exact ⟨rfl,rfl⟩)
   rw[HE.out.1,HE.out.2];clear hr1 HE hw hsz hm1 hg ha hj;go_enter Tryz.func202,Tryz.ntmps202
   go_wp2_with fail
   refine (ahas_any _ _ _).mono ?_
   rintro e w' ⟨rfl,rfl⟩;rw[HG.out]
   go_wp2_with fail
   refine (ahas_any _ _ _).mono ?_
   rintro e w' ⟨rfl,rfl⟩;rw[HA.out]
   go_wp2_with fail
   go_ret2;exact ⟨rfl,Below.refl _ _⟩
 ·have HG:Hid (has7 len g=false):=LH (decide_eq_false hg);have HE:Hid (wordA ls g a=0∧wordE7 ls g a=20):=LH (by
   have:withinB (sizesL ls) g a 1=false:=decide_eq_false (fun e=>hg ⟨e.1,by have:=e.2.1;rw[sizesL_length,←HN.out] at this;exact this⟩)
   unfold wordA wordE7;rw[this];exact ⟨rfl,rfl⟩)
  rw[HE.out.1,HE.out.2];clear HE hg;go_enter Tryz.func202,Tryz.ntmps202
  go_wp2_with fail
  refine (ahas_any _ _ _).mono ?_
  rintro e w' ⟨rfl,rfl⟩;rw[HG.out]
  go_wp2_with fail
  go_ret2;exact ⟨rfl,Below.refl _ _⟩
def sameU (a b:List Int):Bool:=decide (a=b)
theorem sameU_no {a b:List Int} {t:Nat} (h:a[t]?.getD 0≠b[t]?.getD 0):sameU a b=false:=decide_eq_false (fun e=>h (by rw[e]))
set_option maxHeartbeats 1000000 in
theorem aequal_any (v u:Value) (a b:List Int) (B B':Nat) (w:World) (h:NumS .u64 w B v a) (h':NumS .u64 w B' u b) :
  Calls Tryz.prog 94 #[v,u] w fun e w'=>e= .returned (.bool (sameU a b))∧Below w.heap.size w w':=by
 obtain ⟨A,c,rfl,hc,hm,hr⟩:=h;obtain ⟨A',c',rfl,hc',hm',hr'⟩:=h';obtain ⟨len,hn⟩:∃n,n=a.length:=⟨_,rfl⟩;obtain ⟨len',hn'⟩:∃n,n=b.length:=⟨_,rfl⟩;have HN:=LH hn;have HN':=LH hn';have HR:=LH hr;have HR':=LH hr';rw[←hn] at hc ⊢;rw[←hn'] at hc' ⊢
 by_cases hne:len=len'
 ·subst hne;have d0:((len:Int) != (len:Int))=false:=by simp
  clear hn hn' hr hr';go_enter Tryz.func94,Tryz.ntmps94
  go_wp2_with fail
  go_loopw [13] (fun i wr=>∃t:Nat,t≤len∧i= .int .i64 t∧(∀i,i<t→a[i]?.getD 0=b[i]?.getD 0)∧∃n,wr=w.drewN n) (fun i _=>len - (intOf i).toNat)
  case atStart=>exact ⟨0,by omega,rfl,fun i hi=>by omega,0,rfl⟩
  case round =>
   obtain ⟨t,ht,rfl,hall,n,rfl⟩:=hrel;have HL:=LH hall;clear hall
   by_cases hlt:t<len
   ·obtain ⟨b1,o1,rfl,_,x1⟩:=HR.out (by rw[←HN.out];omega);obtain ⟨b2,o2,rfl,_,x2⟩:=HR'.out (by rw[←HN'.out];omega);have x1:=x1 t (by rw[←HN.out];exact hlt);have x2:=x2 t (by rw[←HN'.out];exact hlt);obtain ⟨x,hx⟩:∃x,a[t]?.getD 0=x:=⟨_,rfl⟩;obtain ⟨y,hy⟩:∃y,b[t]?.getD 0=y:=⟨_,rfl⟩;rw[hx] at x1;rw[hy] at x2;have HX:=LH hx;have HY:=LH hy;have i1:(t:Int)<(len:Int):=by omega
    clear hx hy
    by_cases hxy:x=y
    ·have d2:(x != y)=false:=by simp[hxy]
     have HL2:Hid (∀i,i<t+1→a[i]?.getD 0=b[i]?.getD 0):=LH (fun i hi=>by
      by_cases e:i=t
      ·subst e;rw[HX.out,HY.out];exact hxy
      ·exact HL.out i (by omega))
     clear hxy
     go_wp2_with fail
     go_quiet (fail)
     go_wp2_with fail
     go_roundw
     case rel=>exact ⟨t+1,by omega,by go_num,HL2.out,_,by first | rfl | exact World.drewN_drewN _ _ _⟩
     case measure=>simp[intOf];omega
    ·have d2:(x != y)=true:=by simpa using hxy
     have HF:Hid (false=sameU a b):=LH (sameU_no (t:=t) (fun e=>hxy (by rw[←HX.out,←HY.out,e]))).symm
     clear hxy
     go_wp2_with fail
     go_quiet (fail)
     go_wp2_with fail
     go_ret;exact ⟨by rw[←HF.out];rfl,⟨rfl,rfl,rfl,Nat.le_refl _,fun _ _=>rfl⟩⟩
   ·obtain rfl:t=len:=by omega
    have HF:Hid (true=sameU a b):=LH (decide_eq_true (row_ext (by rw[←HN.out,←HN'.out]) (fun i h1=>HL.out i (by rw[HN.out];exact h1)))).symm
    go_wp2_with fail
    go_ret;exact ⟨by rw[←HF.out];rfl,⟨rfl,rfl,rfl,Nat.le_refl _,fun _ _=>rfl⟩⟩
 ·have d0:((len:Int) != (len':Int))=true:=by rw[bne_iff_ne];omega
  have HF:Hid (false=sameU a b):=LH (decide_eq_false (fun e=>hne (by rw[HN.out,HN'.out,e]))).symm
  clear hn hn' hr hr';go_enter Tryz.func94,Tryz.ntmps94
  go_wp2_with fail
  go_ret;exact ⟨by rw[←HF.out];rfl,Below.refl _ _⟩
end Go.Proofs.YtmmlfnblodfjbaaGreatDoor
