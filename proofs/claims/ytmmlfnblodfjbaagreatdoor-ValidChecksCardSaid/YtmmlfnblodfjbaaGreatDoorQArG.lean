/- Layer 7: the law's arenas out of choices. -/
import Derived.Test.YtmmlfnblodfjbaaGreatDoorQCut
import Derived.Deep.CutBlock
import Derived.Deep.DeepCutAuto
set_option maxRecDepth 100000
namespace Go.Proofs.YtmmlfnblodfjbaaGreatDoor
open Go.RowKit Go.Deep
def szC (c:List Int) (i:Nat):Nat:=(if i<c.length then ((c[i]?.getD 0) % 12).toNat else 1)+(if i=0 then 1 else 0)
def startC (c:List Int):Nat→Nat
 | 0=>0
 | i+1=>startC c i+szC c i
def wvC (c:List Int) (k:Nat):Int:=if 0<c.length then (c[k % c.length]?.getD 0)*4311810305+k else k
def segTo (c:List Int) (i j:Nat):List Int:=(List.range j).map (fun j=>wvC c (startC c i+j))
def segC (c:List Int) (i:Nat):List Int:=segTo c i (szC c i)
def arTo (c:List Int) (t:Nat):List (List Int):=(List.range t).map (segC c)
def arL (c:List Int) (n:Nat):List (List Int):=arTo c (1+n % 5)
theorem szC_bd (c:List Int) (i:Nat):szC c i≤13:=by
 unfold szC
 split <;> split <;> omega
theorem startC_bd (c:List Int) (i:Nat):startC c i≤13*i:=by
 induction i with
 | zero=>exact Nat.le_refl _
 | succ i ih =>
  have:=szC_bd c i;unfold startC
  omega
theorem segTo_succ (c:List Int) (i j:Nat):segTo c i (j+1)=segTo c i j ++ [wvC c (startC c i+j)]:=by simp[segTo,List.range_succ]
theorem segTo_length (c:List Int) (i j:Nat):(segTo c i j).length=j:=by simp[segTo]
theorem arTo_succ (c:List Int) (t:Nat):arTo c (t+1)=arTo c t ++ [segC c t]:=by simp[arTo,List.range_succ]
theorem arTo_length (c:List Int) (t:Nat):(arTo c t).length=t:=by simp[arTo]
theorem wvC_bd {c:List Int} (hc:AllB c) (k:Nat):0≤wvC c k∧wvC c k≤1099511627775+k:=by
 unfold wvC;have:=hc.at_ (k % c.length)
 split <;> omega
theorem arTo_sum (c:List Int) (t:Nat):(sizesL (arTo c t)).sum=startC c t:=by
 induction t with
 | zero=>rfl
 | succ t ih =>
  rw[arTo_succ];unfold sizesL at *
  rw[List.map_append,List.sum_append,ih];have:(segC c t).length=szC c t:=segTo_length _ _ _
  simp[this,startC]
theorem arL_sm {c:List Int} (hc:AllB c) (n:Nat):Sm (arL c n):=by
 have h5:1+n % 5≤5:=by omega
 refine ⟨by unfold arL;rw[arTo_length];omega,by unfold arL;rw[arTo_sum];have:=startC_bd c (1+n % 5);omega,fun s hs x hx=> ?_⟩
 obtain ⟨i,hi,rfl⟩:=List.mem_map.1 hs;obtain ⟨j,hj,rfl⟩:=List.mem_map.1 hx;have h1:=wvC_bd hc (startC c i+j);have h2:=startC_bd c i;have h3:=szC_bd c i;have h4:=List.mem_range.1 hi;have h6:=List.mem_range.1 hj
 omega
set_option maxHeartbeats 4000000 in
theorem gen_any (v:Value) (c:List Int) (n:Nat) (w:World) (h:Bytes w w.heap.size v c) (hc:AllB c) (hn:n<256) :
  Calls Tryz.prog 13 #[v,.int .u8 n] w fun e w'=>∃u,e= .returned u∧OwnA w' w.heap.size u (arL c n)∧Below w.heap.size w w':=by
 have HV:=LH h;have HC:=LH hc;obtain ⟨A,cap,rfl,hcap,hm,hr⟩:=h;obtain ⟨len,hlen⟩:∃m,m=c.length:=⟨_,rfl⟩;have HL:=LH hlen;rw[←hlen] at HV hcap ⊢;obtain ⟨T,hT⟩:∃T,T=1+n % 5:=⟨_,rfl⟩;have HT:Hid (arL c n=arTo c T):=LH (by rw[hT];rfl);have hT5:T≤5:=by omega
 have hTn:(1:Int)+(n:Int) % 5=(T:Int):=by omega
 have HTn:=LH hTn;clear hr hc hlen hT hTn;go_enter Tryz.func13,Tryz.ntmps13
 go_wp2_with fail
 go_loopw [5,6,7] (fun o k i wr=>∃t:Nat,t≤T∧i= .int .i64 t∧k= .int .i64 (startC c t)∧OwnA wr w.heap.size o (arTo c t)∧Below w.heap.size w wr) (fun _ _ i _=>T - (intOf i).toNat)
 case atStart=>exact ⟨0,by omega,rfl,rfl,OwnA.nil _ _,Below.refl _ _⟩
 case round =>
  obtain ⟨t,ht,rfl,rfl,ho,hB⟩:=hrel;generalize wr=w1 at *
  have HO:=LH ho;have HB:=LH hB;clear ho hB;have hsb:=startC_bd c t
  by_cases hlt:t<T
  ·have HQT:=LH hlt;have d0:decide ((t:Int)<1+(n:Int) % 5)=true:=decide_eq_true (by have:=HTn.out;omega);have hz13:=szC_bd c t;obtain ⟨S0,hS0⟩:∃S,(if t<c.length then ((c[t]?.getD 0) % 12).toNat else 1)=S:=⟨_,rfl⟩
   obtain ⟨Z,hZ⟩:∃Z,szC c t=Z:=⟨_,rfl⟩;have hZS:Z=S0+(if t=0 then 1 else 0):=by rw[←hZ,←hS0];rfl
   have HZS:=LH hZS;have HZ:=LH hZ;have HS0:=LH hS0;rw[hZ] at hz13;have hs13:S0≤13:=by omega
   obtain ⟨P,hP⟩:∃P,startC c t=P:=⟨_,rfl⟩;have HP:=LH hP;rw[hP] at hsb ⊢;clear hZ hP hZS hS0
   go_upto_if 23 with fail
   go_cut [9] (fun s9 wx=>s9= .int .i64 S0∧w1=wx)
   case first =>
    by_cases hlen:t<len
    ·obtain ⟨A3,c3,e3,_,_,hr3⟩:=HV.out.on HB.out;obtain ⟨b3,off3,ea3,_,hcell⟩:=hr3 (by rw[←HL.out];omega);rw[←HL.out] at e3;cases e3
     subst ea3;have p1:=hcell t (by rw[←HL.out];exact hlen);have hx:=HC.out.at_ t;obtain ⟨x,hxe⟩:∃x,c[t]?.getD 0=x:=⟨_,rfl⟩;rw[hxe] at p1 hx;have HX:Hid (S0=(x % 12).toNat):=LH (by rw[←HS0.out,if_pos (by rw[←HL.out];exact hlen),hxe]);have i1:decide ((t:Int)<(len:Int))=true:=decide_eq_true (by omega);have i2:(t:Int)<(len:Int):=by omega
     clear hr3 hcell hxe
     go_wp2_with fail
     go_meet;exact ⟨congrArg (Value.int .i64) (by rw[HX.out];omega),rfl⟩
    ·have i1:decide ((t:Int)<(len:Int))=false:=decide_eq_false (by omega);have HX:Hid (S0=1):=LH (by rw[←HS0.out,if_neg (by rw[←HL.out];exact hlen)])
     go_wp2_with fail
     go_meet;exact ⟨congrArg (Value.int .i64) (by rw[HX.out];rfl),rfl⟩
   case rest =>
    obtain ⟨rfl,rfl⟩:=hcut
    go_upto_if 31 with fail
    go_cut [9] (fun s9 wx=>s9= .int .i64 Z∧w1=wx)
    case first =>
     by_cases h0:t=0
     ·have d1:((t:Int) == 0)=true:=by rw[beq_iff_eq];omega
      go_wp2_with fail
      go_meet;exact ⟨congrArg (Value.int .i64) (by rw[HZS.out,if_pos h0];rfl),rfl⟩
     ·have d1:((t:Int) == 0)=false:=by rw[beq_eq_false_iff_ne];omega
      go_wp2_with fail
      go_meet;exact ⟨congrArg (Value.int .i64) (by rw[HZS.out,if_neg h0];rfl),rfl⟩
    case rest =>
     obtain ⟨rfl,rfl⟩:=hcut;clear HZS HS0 hs13
     go_wp2_with fail
     go_loopw [6,8,10] (fun k s j wx=>∃i:Nat,i≤Z∧j= .int .i64 i∧k= .int .i64 ((P+i:Nat):Int)∧OwnU wx w1.heap.size s (segTo c t i)∧Below w1.heap.size w1 wx) (fun _ _ j _=>Z - (intOf j).toNat)
     case atStart=>exact ⟨0,by omega,rfl,rfl,OwnU.nil _ _,Below.refl _ _⟩
     case round =>
      obtain ⟨i,hi,rfl,rfl,hs,hBx⟩:=hrel;generalize wr=w2 at *
      have HSg:=LH hs;have HBx:=LH hBx;clear hs hBx
      by_cases hli:i<Z
      ·have j1:decide ((i:Int)<(Z:Int))=true:=decide_eq_true (by omega);obtain ⟨K,hK⟩:∃K,P+i=K:=⟨_,rfl⟩;rw[hK];have hK13:K≤78:=by rw[←hK];omega
       have HK:=LH hK;have HI:=LH hli;clear hK hli;obtain ⟨X,hX⟩:∃X,wvC c K=X:=⟨_,rfl⟩;have HX:=LH hX;have hXb:=wvC_bd HC.out K;rw[hX] at hXb;clear hX
       go_upto_if 43 with fail
       go_cut [11] (fun s11 wx=>s11= .int .u64 X∧w2=wx)
       case first =>
        by_cases hlen:0<len
        ·obtain ⟨A3,c3,e3,_,_,hr3⟩:=HV.out.on (bseq HB.out HBx.out);obtain ⟨b3,off3,ea3,_,hcell⟩:=hr3 (by rw[←HL.out];omega);rw[←HL.out] at e3;cases e3
         subst ea3;have hq:K % len<len:=Nat.mod_lt _ hlen;obtain ⟨q,hqe⟩:∃q,K % len=q:=⟨_,rfl⟩;rw[hqe] at hq;have p1:=hcell q (by rw[←HL.out];exact hq);have hx:=HC.out.at_ q;obtain ⟨x,hxe⟩:∃x,c[q]?.getD 0=x:=⟨_,rfl⟩;rw[hxe] at p1 hx;have HXX:Hid (X=x*4311810305+K):=LH (by rw[←HX.out];unfold wvC;rw[if_pos (by rw[←HL.out];exact hlen),←HL.out,hqe,hxe]);have m1:((K:Int)).tmod (len:Int)=(q:Int):=by rw[←hqe];exact Int.ofNat_tmod K len
         have m2:((K:Int)) % (len:Int)=(q:Int):=by rw[←hqe];exact (Int.natCast_emod K len).symm
         have l0:(len:Int)≠0:=by omega
         have i1:decide ((0:Int)<(len:Int))=true:=decide_eq_true (by omega);have i2:(q:Int)<(len:Int):=by omega
         have HM1:=LH m1;have HM2:=LH m2;clear hr3 hcell hxe hqe
         go_wp2_with fail
         go_meet;exact ⟨congrArg (Value.int .u64) (by rw[HXX.out]),rfl⟩
        ·have i1:decide ((0:Int)<(len:Int))=false:=decide_eq_false (by omega);have HXX:Hid (X=K):=LH (by rw[←HX.out];unfold wvC;rw[if_neg (by rw[←HL.out];exact hlen)])
         go_wp2_with fail
         go_meet;exact ⟨congrArg (Value.int .u64) (by rw[HXX.out]),rfl⟩
       case rest =>
        obtain ⟨rfl,rfl⟩:=hcut;obtain ⟨v',w',hrun,ho',hg'⟩:=append_u w2 w1.heap.size 31 u8 (segTo c t i) X HSg.out (by rw[segTo_length];omega) HBx.out.size;have HRun:=LH hrun;have HR:Hid (OwnU w' w1.heap.size v' (segTo c t (i+1))∧Below w1.heap.size w1 w'):=LH ⟨by rw[segTo_succ,HP.out,HK.out,HX.out];exact ho',(HBx.out.alloc HBx.out.size _).grown hg' (by have:=HBx.out.size;simp;omega) (fun k e=>(World.ownsRow.lt HSg.out k e).1)⟩
        clear hrun ho' hg'
        go_wp2_with (at_builtin;refine Lib.wpList_append_run _ rfl _ _ _ _ rfl _ _ rfl rfl _ _ HRun.out ?_)
        go_roundw
        case rel=>exact ⟨i+1,by have:=HI.out;omega,by go_num,by have:=HK.out;go_num,HR.out.1,HR.out.2⟩
        case measure=>have:=HI.out;simp[intOf];omega
      ·obtain rfl:i=Z:=by omega
       have j1:decide ((i:Int)<(i:Int))=false:=decide_eq_false (by omega);have hO1:=HO.out.on HBx.out;have hB1:=bseq HB.out HBx.out;obtain ⟨v',w',hrun,ho',hg'⟩:=append_seg w2 w.heap.size 23 u5 u8 (arTo c t) (segTo c t i) hO1 (HSg.out.base HB.out.size) (by rw[arTo_length];omega) hB1.size;have HRun:=LH hrun;have HR:Hid (OwnA w' w.heap.size v' (arTo c (t+1))∧Below w.heap.size w w'):=LH ⟨by rw[arTo_succ];unfold segC;rw[HZ.out];exact ho',(hB1.alloc hB1.size _).grown hg' (by have:=hB1.size;simp;omega) (fun k e=>by
        obtain ⟨vs,_,h2,_⟩:=hO1;exact (World.ownsRow.lt h2 k e).1)⟩
       have HST:Hid (startC c (t+1)=P+i):=LH (by rw[←HZ.out,←HP.out];rfl);obtain ⟨A9,c9,h9⟩:∃A c,u8= .slice A i c:=by
        obtain ⟨A,c',e,_⟩:=OwnN.numS HSg.out;rw[segTo_length] at e;exact ⟨A,c',e⟩
       subst h9;clear hrun ho' hg' hO1
       go_wp2_with (at_builtin;refine Lib.wpList_append_run _ rfl _ _ _ _ rfl _ _ rfl rfl _ _ HRun.out ?_)
       go_roundw
       case rel=>exact ⟨t+1,by have:=HQT.out;omega,by go_num,by rw[HST.out];simp,HR.out.1,HR.out.2⟩
       case measure=>have:=HQT.out;simp[intOf];omega
  ·obtain rfl:t=T:=by omega
   have d0:decide ((t:Int)<1+(n:Int) % 5)=false:=decide_eq_false (by have:=HTn.out;omega);rw[←HT.out] at HO
   go_wp2_with fail
   go_ret;exact ⟨_,rfl,HO.out,HB.out⟩
end Go.Proofs.YtmmlfnblodfjbaaGreatDoor
