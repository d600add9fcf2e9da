/- Layer 8: the document's own functions (deep, Right). -/
import Derived.Test.YtmmlfnblodfjbaaGreatDoorQMem
import Derived.Deep.DeepCutAuto
import Derived.Deep.CutBlock
import Derived.Test.YtmmlfnblodfjbaaGreatDoorQPtr
set_option maxRecDepth 100000
namespace Go.Proofs.YtmmlfnblodfjbaaGreatDoor
open Go.RowKit Go.Deep
def ok1 (k z:Int) (w b n:Nat):Bool:=decide (k=1∧z=0∧w≤100∧b=0∧n≤100)
theorem oneB_1 {k z:Int} {w b n:Nat} (h:k≠2):oneB k z w b n=ok1 k z w b n:=by
 unfold oneB;rw[if_neg h]
 rfl
theorem deepAll_at:(l:List Tr)→(d:Nat)→(deepAll l d=true↔∀j,j<l.length→deepB (l[j]?.getD Tr.nil) d=true)
 | [],d=>by
  unfold deepAll
  simp
 | t :: r,d=>by
  unfold deepAll;rw[Bool.and_eq_true,deepAll_at r d];refine ⟨fun h j hj=> ?_,fun h=>⟨h 0 (by simp),fun j hj=>h (j+1) (by simpa using hj)⟩⟩
  cases j with
  | zero=>exact h.1
  | succ j=>exact h.2 j (by simpa using hj)
def DeepK (ks:List Tr):Prop :=
 ∀(j:Nat) (v:Value) (left:Nat) (w:World),j<ks.length→TrV w w.heap.size (ks[j]?.getD Tr.nil) v→left≤1000000 →
  Calls Tryz.prog 51 #[v,.int .i64 left] w fun e w'=>e= .returned (.bool (deepB (ks[j]?.getD Tr.nil) left))∧Below w.heap.size w w'
set_option maxHeartbeats 8000000 in
theorem rdeep_step (k z:Int) (ws bs:List Int) (ks:List Tr) (v:Value) (left:Nat) (w:World) (h:TrV w w.heap.size (.mk k z ws bs ks) v) (hl:left≤1000000) (hk:k≠0) (ih:DeepK ks) :
  Calls Tryz.prog 51 #[v,.int .i64 left] w fun e w'=>e= .returned (.bool (deepB (.mk k z ws bs ks) left))∧Below w.heap.size w w':=by
 obtain ⟨A1,c1,A2,c2,A3,c3,rfl,hg,hv⟩:=h.parts;obtain ⟨g1,g2,g3,g4,g5,-⟩:=hg;have HV:=LH hv;have HD:Hid (deepB (.mk k z ws bs ks) left=(oneB k z ws.length bs.length ks.length && (decide (left≠0) && deepAll ks (left - 1)))):=LH (by unfold deepB;rw[if_neg hk]);clear h hv;generalize deepB (.mk k z ws bs ks) left=D at *
 obtain ⟨nw,hnw⟩:∃n,n=ws.length:=⟨_,rfl⟩;obtain ⟨nb,hnb⟩:∃n,n=bs.length:=⟨_,rfl⟩;obtain ⟨nk,hnk⟩:∃n,n=ks.length:=⟨_,rfl⟩;rw[←hnw] at HV HD g3 ⊢;rw[←hnb] at HV HD g4 ⊢;rw[←hnk] at HV HD g5 ⊢;have HK:=LH hnk;clear hnw hnb hnk;unfold cellsT;go_enter Tryz.func51,Tryz.ntmps51;go_upto_region 6 with fail
 obtain ⟨xw,hxw⟩:∃x:Int,x=nw:=⟨_,rfl⟩;obtain ⟨xb,hxb⟩:∃x:Int,x=nb:=⟨_,rfl⟩;obtain ⟨xn,hxn⟩:∃x:Int,x=nk:=⟨_,rfl⟩;rw[←hxw,←hxb,←hxn];have HX:=LH hxw;have HY:=LH hxb;have HZ:=LH hxn;clear hxw hxb hxn;generalize hW:w.alloc _=W
 go_cut [8] (fun s8 wx=>s8= .bool (ok1 k z nw nb nk)∧W=wx)
 case first =>
  subst hW
  by_cases k1:k=1
  all_goals first | subst k1 | skip
  all_goals by_cases z0:z=0
  all_goals first | subst z0 | skip
  all_goals by_cases b0:xb=0
  all_goals first | subst b0 | skip
  all_goals go_wp2_with fail
  all_goals
   go_meet;refine ⟨congrArg Value.bool ?_,rfl⟩;have hx:=HX.out;have hy:=HY.out;have hz:=HZ.out;rw[ok1,Bool.eq_iff_iff];simp only[decide_eq_true_eq]
   first | omega | (simp;omega)
 case rest =>
 obtain ⟨rfl,rfl⟩:=hcut;subst hW
 go_upto_if 61 with fail
 generalize hW:w.alloc _=W
 go_cut [8] (fun s8 wx=>s8= .bool (oneB k z nw nb nk)∧W=wx)
 case first =>
  by_cases k2:k=2
  ·subst k2;subst hW
   rcases (show z=2∨z=5∨z=6∨(z≠2∧z≠5∧z≠6) by omega) with rfl | rfl | rfl | ⟨z2,z5,z6⟩
   ·by_cases w0:xw=0
    all_goals first | subst w0 | skip
    all_goals by_cases n0:xn=0
    all_goals first | subst n0 | skip
    all_goals go_wp2_with fail
    all_goals go_meet
    all_goals
     refine ⟨congrArg Value.bool ?_,rfl⟩;have hx:=HX.out;have hy:=HY.out;have hz:=HZ.out;rw[oneB,if_pos rfl,Bool.eq_iff_iff];simp only[decide_eq_true_eq]
     first | omega | (simp;omega)
   ·by_cases b0:xb=0
    all_goals first | subst b0 | skip
    all_goals by_cases n0:xn=0
    all_goals first | subst n0 | skip
    all_goals go_wp2_with fail
    all_goals go_meet
    all_goals
     refine ⟨congrArg Value.bool ?_,rfl⟩;have hx:=HX.out;have hy:=HY.out;have hz:=HZ.out;rw[oneB,if_pos rfl,Bool.eq_iff_iff];simp only[decide_eq_true_eq]
     first | omega | (simp;omega)
   ·by_cases b0:xb=0
    all_goals first | subst b0 | skip
    all_goals by_cases w0:xw=0
    all_goals first | subst w0 | skip
    all_goals go_wp2_with fail
    all_goals go_meet
    all_goals
     refine ⟨congrArg Value.bool ?_,rfl⟩;have hx:=HX.out;have hy:=HY.out;have hz:=HZ.out;rw[oneB,if_pos rfl,Bool.eq_iff_iff];simp only[decide_eq_true_eq]
     first | omega | (simp;omega)
   ·go_wp2_with fail
    all_goals go_meet
    all_goals
     refine ⟨congrArg Value.bool ?_,rfl⟩;have hx:=HX.out;have hy:=HY.out;have hz:=HZ.out;rw[oneB,if_pos rfl,Bool.eq_iff_iff];simp only[decide_eq_true_eq]
     first | omega | (simp;omega)
  ·subst hW
   go_wp2_with fail
   go_meet;exact ⟨congrArg Value.bool (oneB_1 k2).symm,rfl⟩
 case rest =>
 obtain ⟨rfl,rfl⟩:=hcut;generalize oneB k z nw nb nk=O at *
 subst hW;cases O with
 | false =>
  obtain rfl:D=false:=by rw[HD.out,Bool.false_and]
  go_wp2_with fail
  go_ret;exact ⟨rfl,(Below.refl _ _).alloc (Nat.le_refl _) _⟩
 | true =>
  by_cases l0:left=0
  ·subst l0;obtain rfl:D=false:=by rw[HD.out,Bool.true_and];rfl
   go_wp2_with fail
   go_ret;exact ⟨rfl,(Below.refl _ _).alloc (Nat.le_refl _) _⟩
  ·have hd:D=deepAll ks (left - 1):=by rw[HD.out,Bool.true_and,decide_eq_true l0,Bool.true_and]
   clear HD;have HD:=LH hd;clear hd;have z0:(left:Int)≠0:=by omega
   have HI:=LH ih;clear ih;obtain ⟨l1,rfl⟩:∃n,left=n+1:=⟨left - 1,by omega⟩
   rw[Nat.add_sub_cancel] at HD;have hz:=HZ.out;subst hz;have hbx:=TBox.new w k z (.slice A1 nw c1) (.slice A2 nb c2) (.slice A3 nk c3);unfold cellsT at hbx;have hB0:Below w.heap.size w (w.alloc (.cells #[.int .i64 k,.int .i64 z,.slice A1 nw c1,.slice A2 nb c2,.slice A3 nk c3] 34)):=(Below.refl _ _).alloc (Nat.le_refl _) _;have HBX:=LH hbx;have HB0:=LH hB0;clear hbx hB0
   go_wp2_with fail
   generalize w.alloc (.cells #[.int .i64 k,.int .i64 z,.slice A1 nw c1,.slice A2 nb c2,.slice A3 nk c3] 34)=W at *
   go_loopw [9] (fun i wr=>∃t:Nat,t≤nk∧i= .int .i64 t∧Below W.heap.size W wr∧∀j,j<t→deepB (ks[j]?.getD Tr.nil) l1=true) (fun i _=>nk - (intOf i).toNat)
   case atStart=>exact ⟨0,by omega,rfl,Below.refl _ _,fun j hj=>by omega⟩
   case round =>
    obtain ⟨t,ht,rfl,hB,hall⟩:=hrel;have HA:=LH hall;have c4:=(HBX.out.on hB).cells.2.2.2.2;have HBr:=LH hB;clear hall hB
    by_cases hlt:t<nk
    ·obtain ⟨-,-,h3,h4,hk5⟩:=HV.out;obtain ⟨b,off,rfl,hbB,hkid⟩:=hk5 (by omega);obtain ⟨kk,kz,kw,kb,kv,d0,d1,d2,d3,d4,hT⟩:=hkid t hlt;have hBw:Below w.heap.size w wr:=bseq8 HB0.out HBr.out;have hc:=fun i=>hBw.cell (p:=⟨b,i,none⟩) (by show b<w.heap.size;exact hbB)
     have e0:=(hc _).trans d0;have e1:=(hc _).trans d1;have e2:=(hc _).trans d2;have e3:=(hc _).trans d3;have e4:=(hc _).trans d4;have HT:=LH (hT.on hBw);clear hkid hk5 d0 d1 d2 d3 d4 hT hc
     go_wp2_with fail
     refine (HI.out t _ l1 wr (by rw[←HK.out];exact hlt) HT.out (by omega)).mono ?_
     rintro e w2 ⟨rfl,hB2⟩;have HB2:=LH (bseq8 HBr.out hB2);clear hB2;cases hd:deepB (ks[t]?.getD Tr.nil) l1 with
     | true =>
      go_wp2_with fail
      go_round
      case rel =>
       refine ⟨t+1,by omega,by go_num,HB2.out,fun j hj=> ?_⟩
       by_cases hj2:j<t
       ·exact HA.out j hj2
       ·obtain rfl:j=t:=by omega
        exact hd
      case measure=>simp[intOf];omega
     | false =>
      have hD:D=false:=by
       rw[HD.out,←Bool.not_eq_true,deepAll_at];intro hall;rw[hall t (by rw[←HK.out];exact hlt)] at hd;cases hd
      clear HD;subst hD
      go_wp2_with fail
      go_ret;exact ⟨rfl,bseq8 HB0.out HB2.out⟩
    ·obtain rfl:t=nk:=by omega
     have hD:D=true:=by
      rw[HD.out,deepAll_at];intro j hj;exact HA.out j (by rw[HK.out];exact hj)
     clear HD;subst hD
     go_wp2_with fail
     go_ret;exact ⟨rfl,bseq8 HB0.out HBr.out⟩
theorem deep_kids {ks:List Tr} {n:Nat} {k z:Int} {ws bs:List Int} {j:Nat} (hn:SizeOf.sizeOf (Tr.mk k z ws bs ks)≤n+1) (hj:j<ks.length):SizeOf.sizeOf (ks[j]?.getD Tr.nil)≤n:=by
 rw[List.getElem?_eq_getElem hj,Option.getD_some];have h1:=List.sizeOf_lt_of_mem (List.getElem_mem hj);have h2:SizeOf.sizeOf (Tr.mk k z ws bs ks)=1+SizeOf.sizeOf k+SizeOf.sizeOf z+SizeOf.sizeOf ws+SizeOf.sizeOf bs+SizeOf.sizeOf ks:=by simp
 omega
set_option maxHeartbeats 1000000 in
theorem rdeep_0 (z:Int) (ws bs:List Int) (ks:List Tr) (v:Value) (left:Nat) (w:World) (h:TrV w w.heap.size (.mk 0 z ws bs ks) v) :
  Calls Tryz.prog 51 #[v,.int .i64 left] w fun e w'=>e= .returned (.bool (deepB (.mk 0 z ws bs ks) left))∧Below w.heap.size w w':=by
 obtain ⟨A1,c1,A2,c2,A3,c3,rfl,hg,hv⟩:=h.parts;obtain ⟨g1,g2,g3,g4,g5,-⟩:=hg;have HD:Hid (deepB (.mk 0 z ws bs ks) left=decide (z=0∧ws.length+bs.length+ks.length=0)):=LH (by unfold deepB;rw[if_pos rfl]);clear h hv;generalize deepB (.mk 0 z ws bs ks) left=D at *
 generalize ws.length=nw at *
 generalize bs.length=nb at *
 generalize ks.length=nk at *
 unfold cellsT
 by_cases hz:z=0
 ·subst hz;have hD:D=((nw:Int)+nb+nk == 0):=by
   rw[HD.out,Bool.eq_iff_iff,decide_eq_true_eq,beq_iff_eq]
   omega
  clear HD;subst hD;go_enter Tryz.func51,Tryz.ntmps51
  go_wp2_with fail
  go_ret;exact ⟨rfl,(Below.refl _ _).alloc (Nat.le_refl _) _⟩
 ·obtain rfl:D=false:=by
   rw[HD.out];exact decide_eq_false (fun e=>hz e.1)
  go_enter Tryz.func51,Tryz.ntmps51
  go_wp2_with fail
  go_ret;exact ⟨rfl,(Below.refl _ _).alloc (Nat.le_refl _) _⟩
theorem rdeep_any:(n:Nat)→(t:Tr)→SizeOf.sizeOf t≤n→(v:Value)→(left:Nat)→(w:World)→TrV w w.heap.size t v→left≤1000000 →
  Calls Tryz.prog 51 #[v,.int .i64 left] w fun e w'=>e= .returned (.bool (deepB t left))∧Below w.heap.size w w'
 | 0,.mk k z ws bs ks,hn,_,_,_,_,_=>by simp at hn
 | n+1,.mk k z ws bs ks,hn,v,left,w,h,hl=>by
  by_cases hk:k=0
  ·subst hk;exact rdeep_0 z ws bs ks v left w h
  ·exact rdeep_step k z ws bs ks v left w h hl hk (fun j v' l' w' hj hv' hl'=>rdeep_any n _ (deep_kids hn hj) v' l' w' hv' hl')
theorem rright8_any (t:Tr) (v:Value) (w:World) (h:TrV w w.heap.size t v) :
  Calls Tryz.prog 33 #[v] w fun e w'=>e= .returned (.bool (rightT t))∧Below w.heap.size w w':=by
 have hb:∀c:Array Value,Below w.heap.size w (w.alloc (.cells c 34)):=fun c=>(Below.refl _ _).alloc (Nat.le_refl _) _
 have h0:=fun c=>rdeep_any _ t (Nat.le_refl _) v 32 (w.alloc (.cells c 34)) (h.on (hb c)) (by omega)
 have HE:Hid (rightT t=deepB t 32):=LH rfl;rw[HE.out];clear HE;obtain ⟨k,z,ws,bs,ks⟩:=t;obtain ⟨A1,c1,A2,c2,A3,c3,rfl,-⟩:=h.parts;generalize deepB (.mk k z ws bs ks) 32=D at *
 generalize ws.length=nw at *
 generalize bs.length=nb at *
 generalize ks.length=nk at *
 unfold cellsT at h0 ⊢;have HT:=LH h0;have HB:=LH hb;clear h h0 hb;go_enter Tryz.func33,Tryz.ntmps33
 go_wp2_with fail
 refine (HT.out _).mono ?_
 rintro e w2 ⟨rfl,hB⟩;have HB2:=LH (bseq8 (HB.out _) hB);clear hB
 go_wp2_with fail
 go_ret;exact ⟨rfl,HB2.out⟩
theorem q_ceil (n d:Int) (w:World) (k:Nat):Calls Tryz.prog 121 #[.int .i64 n,.int .i64 d] (w.drewN k) fun e w'=>e= .returned (.int .i64 (ceilV n d))∧∃m,w'=w.drewN m :=
 Calls.quiet_of_same ((ceil_any n d _).mono fun _ _ ⟨h1,h2⟩=>⟨h1,h2.symm⟩)
theorem ceil8 (b:Nat) (h:b≤1000000):ceilV b 8=((b+7) / 8:Nat):=by
 unfold ceilV;rw[if_pos (by omega)]
 split <;> omega
theorem ret_i64 {a b:Int} (h:a=b):Ending.returned (.int .i64 a)= .returned (.int .i64 b):=by rw[h]
set_option maxHeartbeats 1000000 in
theorem need_any (t:Tr) (v:Value) (w:World) (h:TrV w w.heap.size t v) :
  Calls Tryz.prog 87 #[v] w fun e w'=>e= .returned (.int .i64 (needT t))∧Below w.heap.size w w':=by
 obtain ⟨k,z,ws,bs,ks⟩:=t;obtain ⟨A1,c1,A2,c2,A3,c3,rfl,hg,-⟩:=h.parts;obtain ⟨g1,g2,g3,g4,g5,-⟩:=hg;clear h
 by_cases k1:k=1
 ·subst k1;rw[need1];generalize ws.length=nw at *
  generalize ks.length=nk at *
  unfold cellsT;go_enter Tryz.func87,Tryz.ntmps87
  go_wp2_with fail
  go_ret;exact ⟨by simp,(Below.refl _ _).alloc (Nat.le_refl _) _⟩
 ·by_cases k2:k=2
  ·subst k2;rw[need2];generalize ws.length=nw at *
   generalize ks.length=nk at *
   generalize bs.length=nb at *
   have HQ:=LH (fun w m=>q_ceil nb 8 w m)
   rw[ceil8 nb g4] at HQ;obtain ⟨q,hq⟩:∃q,q=(nb+7) / 8:=⟨_,rfl⟩;rw[←hq] at HQ ⊢;have hq2:q≤1000000:=by omega
   have hw1:IntKind.i64.wrap ((nw:Int)+nk)=nw+nk:=IntWalk.i64_in _ (by omega);have hw2:IntKind.i64.wrap ((nw:Int)+nk+q)=nw+nk+q:=IntWalk.i64_in _ (by omega);clear hq;unfold cellsT;go_enter Tryz.func87,Tryz.ntmps87
   go_wp2_with fail
   go_quiet ((go_at_call 121;exact HQ.out _ _))
   go_wp2_with fail
   go_ret;exact ⟨ret_i64 (by omega),below_drewN ((Below.refl _ _).alloc (Nat.le_refl _) _) _⟩
  ·have hn:needT (.mk k z ws bs ks)=0:=by
    unfold needT;exact (if_neg k1).trans (if_neg k2)
   rw[hn];unfold cellsT;go_enter Tryz.func87,Tryz.ntmps87
   go_wp2_with fail
   go_ret;exact ⟨by simp,(Below.refl _ _).alloc (Nat.le_refl _) _⟩
def countT (t:Tr):Nat:=t.words.length+t.kids.length+t.bytes.length
theorem bcount_any (t:Tr) (v:Value) (w:World) (h:TrV w w.heap.size t v) :
  Calls Tryz.prog 139 #[v] w fun e w'=>e= .returned (.int .i64 (countT t:Nat))∧Below w.heap.size w w':=by
 obtain ⟨k,z,ws,bs,ks⟩:=t;obtain ⟨A1,c1,A2,c2,A3,c3,rfl,hg,-⟩:=h.parts;obtain ⟨g1,g2,g3,g4,g5,-⟩:=hg;clear h;unfold countT Tr.words Tr.kids Tr.bytes;dsimp only;generalize ws.length=nw at *
 generalize ks.length=nk at *
 generalize bs.length=nb at *
 unfold cellsT;go_enter Tryz.func139,Tryz.ntmps139
 go_wp2_with fail
 go_ret;exact ⟨ret_i64 (by omega),(Below.refl _ _).alloc (Nat.le_refl _) _⟩
def ownN (z:Int) (w b n:Nat):Nat:=if z=2 then b else if z=5 then w else if z=6 then n else 0
def isSize (z:Int):Bool:=decide (z=2∨z=5∨z=6)
set_option maxHeartbeats 400000 in
theorem bofsize_any (k z:Int) (ws bs:List Int) (ks:List Tr) (v:Value) (w:World) (h:TrV w w.heap.size (.mk k z ws bs ks) v) :
  Calls Tryz.prog 140 #[v] w fun e w'=>e= .returned (.tuple #[.int .i64 (ownN z ws.length bs.length ks.length:Nat),.bool (isSize z)])∧Below w.heap.size w w':=by
 obtain ⟨A1,c1,A2,c2,A3,c3,rfl,hg,-⟩:=h.parts;obtain ⟨g1,g2,g3,g4,g5,-⟩:=hg;clear h;generalize ws.length=nw at *
 generalize ks.length=nk at *
 generalize bs.length=nb at *
 unfold cellsT
 rcases (show z=2∨z=5∨z=6∨(z≠2∧z≠5∧z≠6) by omega) with rfl | rfl | rfl | ⟨z2,z5,z6⟩
 ·go_enter Tryz.func140,Tryz.ntmps140
  go_wp2_with fail
  go_ret2;exact ⟨by simp[ownN,isSize],(Below.refl _ _).alloc (Nat.le_refl _) _⟩
 ·go_enter Tryz.func140,Tryz.ntmps140
  go_wp2_with fail
  go_ret2;exact ⟨by simp[ownN,isSize],(Below.refl _ _).alloc (Nat.le_refl _) _⟩
 ·go_enter Tryz.func140,Tryz.ntmps140
  go_wp2_with fail
  go_ret2;exact ⟨by simp[ownN,isSize],(Below.refl _ _).alloc (Nat.le_refl _) _⟩
 ·go_enter Tryz.func140,Tryz.ntmps140
  go_wp2_with fail
  go_ret2;exact ⟨by simp[ownN,isSize,z2,z5,z6],(Below.refl _ _).alloc (Nat.le_refl _) _⟩
def fitB (k z:Int) (w b n:Nat):Bool:=if k=0 then decide (z=0∧w+b+n=0) else oneB k z w b n
set_option maxHeartbeats 2000000 in
theorem bfits_any (k z:Int) (ws bs:List Int) (ks:List Tr) (v:Value) (w:World) (h:TrV w w.heap.size (.mk k z ws bs ks) v) :
  Calls Tryz.prog 120 #[v] w fun e w'=>e= .returned (.bool (fitB k z ws.length bs.length ks.length))∧Below w.heap.size w w':=by
 have hb:∀c:Array Value,Below w.heap.size w (w.alloc (.cells c 34)):=fun c=>(Below.refl _ _).alloc (Nat.le_refl _) _
 have hct:=fun W (hB:Below w.heap.size w W)=>bcount_any (.mk k z ws bs ks) v W (h.on hB)
 have hof:=fun W (hB:Below w.heap.size w W)=>bofsize_any k z ws bs ks v W (h.on hB)
 obtain ⟨A1,c1,A2,c2,A3,c3,rfl,hg,-⟩:=h.parts;obtain ⟨g1,g2,g3,g4,g5,-⟩:=hg;clear h;unfold countT Tr.words Tr.kids Tr.bytes at hct;dsimp only at hct;obtain ⟨nw,hnw⟩:∃n,n=ws.length:=⟨_,rfl⟩;obtain ⟨nb,hnb⟩:∃n,n=bs.length:=⟨_,rfl⟩;obtain ⟨nk,hnk⟩:∃n,n=ks.length:=⟨_,rfl⟩;rw[←hnw] at hct hof g3 ⊢;rw[←hnb] at hct hof g4 ⊢;rw[←hnk] at hct hof g5 ⊢;clear hnw hnb hnk;have HC:=LH hct;have HO:=LH hof;have HB:=LH hb;obtain ⟨R,hR⟩:∃R,R=fitB k z nw nb nk:=⟨_,rfl⟩;rw[←hR];have HR:=LH hR;clear hct hof hb hR;unfold cellsT at HC HO ⊢;have hbx:=TBox.new w k z (.slice A1 nw c1) (.slice A2 nb c2) (.slice A3 nk c3);unfold cellsT at hbx;have HBX:=LH hbx;clear hbx
 by_cases k0:k=0
 ·subst k0
  by_cases z0:z=0
  ·subst z0;obtain ⟨s,hs⟩:∃s:Nat,s=nw+nk+nb:=⟨_,rfl⟩;rw[←hs] at HC;have hr:R=decide ((s:Int)=0):=by rw[HR.out,fitB,if_pos rfl,Bool.eq_iff_iff];simp;omega
   clear HR;go_enter Tryz.func120,Tryz.ntmps120
   go_wp2_with fail
   refine (HC.out _ (HB.out _)).mono ?_
   rintro e w2 ⟨rfl,hB2⟩;have HB2:=LH (bseq8 (HB.out _) hB2);clear hB2 hs
   go_wp2_with fail
   go_ret;exact ⟨by rw[hr];by_cases e:s=0 <;> simp[e],HB2.out⟩
  ·obtain rfl:R=false:=by rw[HR.out,fitB,if_pos rfl];exact decide_eq_false (fun e=>z0 e.1)
   go_enter Tryz.func120,Tryz.ntmps120
   go_wp2_with fail
   go_ret;exact ⟨rfl,HB.out _⟩
 ·by_cases k1:k=1
  ·subst k1;have hr:R=decide (z=0∧nw≤100∧nb=0∧nk≤100):=by rw[HR.out,fitB,if_neg (by decide),oneB,if_neg (by decide)];simp
   clear HR
   by_cases z0:z=0
   ·subst z0
    by_cases b0:nb=0
    ·subst b0
     by_cases w1:nw≤100
     ·have i1:(nw:Int)≤100:=by omega
      by_cases n1:nk≤100
      ·have i2:(nk:Int)≤100:=by omega
       have hx:R=true:=by rw[hr];exact decide_eq_true ⟨rfl,w1,rfl,n1⟩
       clear hr;subst hx;go_enter Tryz.func120,Tryz.ntmps120
       go_wp2_with fail
       go_ret;exact ⟨rfl,HB.out _⟩
      ·have i2:¬(nk:Int)≤100:=by omega
       have hx:R=false:=by rw[hr];exact decide_eq_false (fun e=>n1 e.2.2.2)
       clear hr;subst hx;go_enter Tryz.func120,Tryz.ntmps120
       go_wp2_with fail
       go_ret;exact ⟨rfl,HB.out _⟩
     ·have i1:¬(nw:Int)≤100:=by omega
      have hx:R=false:=by rw[hr];exact decide_eq_false (fun e=>w1 e.2.1)
      clear hr;subst hx;go_enter Tryz.func120,Tryz.ntmps120
      go_wp2_with fail
      go_ret;exact ⟨rfl,HB.out _⟩
    ·have i0:(nb:Int)≠0:=by omega
     have hx:R=false:=by rw[hr];exact decide_eq_false (fun e=>b0 e.2.2.1)
     clear hr;subst hx;go_enter Tryz.func120,Tryz.ntmps120
     go_wp2_with fail
     go_ret;exact ⟨rfl,HB.out _⟩
   ·have hx:R=false:=by rw[hr];exact decide_eq_false (fun e=>z0 e.1)
    clear hr;subst hx;go_enter Tryz.func120,Tryz.ntmps120
    go_wp2_with fail
    go_ret;exact ⟨rfl,HB.out _⟩
  ·by_cases k2:k=2
   ·subst k2;cases hz:isSize z with
    | false =>
     rw[hz] at HO;obtain rfl:R=false:=by
      have h0:=of_decide_eq_false hz;rw[HR.out,fitB,if_neg (by decide),oneB,if_pos rfl];exact decide_eq_false (fun e=>by omega)
     generalize ownN z nw nb nk=o at *
     clear hz;go_enter Tryz.func120,Tryz.ntmps120
     go_wp2_with fail
     refine (HO.out _ (HB.out _)).mono ?_
     rintro e w2 ⟨rfl,hB2⟩;have HB2:=LH (bseq8 (HB.out _) hB2);clear hB2
     go_wp2_with fail
     go_ret;exact ⟨rfl,HB2.out⟩
    | true =>
     rw[hz] at HO;obtain ⟨o,ho⟩:∃o,o=ownN z nw nb nk:=⟨_,rfl⟩;rw[←ho] at HO;obtain ⟨s,hs⟩:∃s:Nat,s=nw+nk+nb:=⟨_,rfl⟩;rw[←hs] at HC;have hr:R=decide (o=s∧o≤4096):=by
      have h0:=of_decide_eq_true hz;rw[HR.out,fitB,if_neg (by decide),oneB,if_pos rfl,Bool.eq_iff_iff,decide_eq_true_eq,decide_eq_true_eq,ho,hs];unfold ownN
      rcases h0 with rfl | rfl | rfl
      ·rw[if_pos rfl];omega
      ·rw[if_neg (by decide),if_pos rfl];omega
      ·rw[if_neg (by decide),if_neg (by decide),if_pos rfl];omega
     clear hz HR ho hs
     by_cases hos:o=s
     ·subst hos
      by_cases ho4:o≤4096
      ·have i2:(o:Int)≤4096:=by omega
       have hx:R=true:=by rw[hr];exact decide_eq_true ⟨rfl,ho4⟩
       clear hr;subst hx;go_enter Tryz.func120,Tryz.ntmps120
       go_wp2_with fail
       refine (HO.out _ (HB.out _)).mono ?_
       rintro e w2 ⟨rfl,hB2⟩;have HB2:=LH (bseq8 (HB.out _) hB2);obtain ⟨d0,d1,d2,d3,d4⟩:=(HBX.out.on hB2).cells;clear hB2
       go_wp2_with fail
       refine (HC.out _ HB2.out).mono ?_
       rintro e w3 ⟨rfl,hB3⟩;have HB3:=LH (bseq8 HB2.out hB3);clear hB3
       go_wp2_with fail
       go_ret;exact ⟨rfl,HB3.out⟩
      ·have i2:¬(o:Int)≤4096:=by omega
       have hx:R=false:=by rw[hr];exact decide_eq_false (fun e=>ho4 e.2)
       clear hr;subst hx;go_enter Tryz.func120,Tryz.ntmps120
       go_wp2_with fail
       refine (HO.out _ (HB.out _)).mono ?_
       rintro e w2 ⟨rfl,hB2⟩;have HB2:=LH (bseq8 (HB.out _) hB2);obtain ⟨d0,d1,d2,d3,d4⟩:=(HBX.out.on hB2).cells;clear hB2
       go_wp2_with fail
       refine (HC.out _ HB2.out).mono ?_
       rintro e w3 ⟨rfl,hB3⟩;have HB3:=LH (bseq8 HB2.out hB3);clear hB3
       go_wp2_with fail
       go_ret;exact ⟨by simp;omega,HB3.out⟩
     ·have i1:(o:Int)≠s:=by omega
      have hx:R=false:=by rw[hr];exact decide_eq_false (fun e=>hos e.1)
      clear hr;subst hx;go_enter Tryz.func120,Tryz.ntmps120
      go_wp2_with fail
      refine (HO.out _ (HB.out _)).mono ?_
      rintro e w2 ⟨rfl,hB2⟩;have HB2:=LH (bseq8 (HB.out _) hB2);obtain ⟨d0,d1,d2,d3,d4⟩:=(HBX.out.on hB2).cells;clear hB2
      go_wp2_with fail
      refine (HC.out _ HB2.out).mono ?_
      rintro e w3 ⟨rfl,hB3⟩;have HB3:=LH (bseq8 HB2.out hB3);clear hB3
      go_wp2_with fail
      go_ret;exact ⟨rfl,HB3.out⟩
   ·obtain rfl:R=false:=by
     rw[HR.out,fitB,if_neg k0,oneB,if_neg k2];exact decide_eq_false (fun e=>k1 e.1)
    go_enter Tryz.func120,Tryz.ntmps120
    go_wp2_with fail
    go_ret;exact ⟨rfl,HB.out _⟩
theorem TrV.three {w:World} {B:Nat} {t:Tr} {k z:Int} {vw vb vk:Value} (h:TrV w B t (.agg (cellsT k z vw vb vk))) :
  ∃A1 n1 c1 A2 n2 c2 A3 n3 c3,vw= .slice A1 n1 c1∧vb= .slice A2 n2 c2∧vk= .slice A3 n3 c3:=by
 obtain ⟨k',z',ws,bs,ks⟩:=t;obtain ⟨A1,c1,A2,c2,A3,c3,e,-⟩:=h.parts;unfold cellsT at e;simp only[Value.agg.injEq,Array.mk.injEq,List.cons.injEq,and_true] at e;exact ⟨_,_,_,_,_,_,_,_,_,e.2.2.1,e.2.2.2.1,e.2.2.2.2⟩
def RightK (ks:List Tr):Prop :=
 ∀(j:Nat) (v:Value) (left:Nat) (w:World),j<ks.length→TrV w w.heap.size (ks[j]?.getD Tr.nil) v→left≤1000000 →
  Calls Tryz.prog 86 #[.int .i64 left,v] w fun e w'=>e= .returned (.bool (deepB (ks[j]?.getD Tr.nil) left))∧Below w.heap.size w w'
theorem deepB_fit (k z:Int) (ws bs:List Int) (ks:List Tr) (left:Nat) :
  deepB (.mk k z ws bs ks) left=(decide (k=0∨left≠0) && (fitB k z ws.length bs.length ks.length && deepAll ks (if k=0 then left else left - 1))):=by
 unfold deepB fitB
 by_cases hk:k=0
 ·rw[if_pos hk,if_pos hk,if_pos hk,show decide (k=0∨left≠0)=true from decide_eq_true (Or.inl hk),Bool.true_and]
  by_cases h:z=0∧ws.length+bs.length+ks.length=0
  ·obtain rfl:ks=[]:=List.eq_nil_of_length_eq_zero (by omega);unfold deepAll;rw[Bool.and_true]
  ·rw[decide_eq_false h,Bool.false_and]
 ·rw[if_neg hk,if_neg hk,if_neg hk]
  by_cases hl:left=0
  ·simp[hl,hk]
  ·simp[hl]
set_option maxHeartbeats 4000000 in
theorem right_step (k z:Int) (ws bs:List Int) (ks:List Tr) (v:Value) (left:Nat) (w:World) (h:TrV w w.heap.size (.mk k z ws bs ks) v) (hl:left≤1000000) (ih:RightK ks) :
  Calls Tryz.prog 86 #[.int .i64 left,v] w fun e w'=>e= .returned (.bool (deepB (.mk k z ws bs ks) left))∧Below w.heap.size w w':=by
 have hft:=fun W (hB:Below w.heap.size w W)=>bfits_any k z ws bs ks v W (h.on hB)
 obtain ⟨A1,c1,A2,c2,A3,c3,rfl,hg,hv⟩:=h.parts;obtain ⟨g1,g2,g3,g4,g5,-⟩:=hg;have HV:=LH hv;have HD:=LH (deepB_fit k z ws bs ks left);clear h hv;generalize deepB (.mk k z ws bs ks) left=D at *
 obtain ⟨nw,hnw⟩:∃n,n=ws.length:=⟨_,rfl⟩;obtain ⟨nb,hnb⟩:∃n,n=bs.length:=⟨_,rfl⟩;obtain ⟨nk,hnk⟩:∃n,n=ks.length:=⟨_,rfl⟩;rw[←hnw] at HV HD hft g3 ⊢;rw[←hnb] at HV HD hft g4 ⊢;rw[←hnk] at HV HD hft g5 ⊢;have HK:=LH hnk;clear hnw hnb hnk;have HF:=LH hft;have HI:=LH ih;clear hft ih;generalize fitB k z nw nb nk=f at *
 have hbx:=TBox.new w k z (.slice A1 nw c1) (.slice A2 nb c2) (.slice A3 nk c3);have hB0:Below w.heap.size w (w.alloc (.cells (cellsT k z (.slice A1 nw c1) (.slice A2 nb c2) (.slice A3 nk c3)) 34)):=(Below.refl _ _).alloc (Nat.le_refl _) _;have HBX:=LH hbx;have HB0:=LH hB0;clear hbx hB0;unfold cellsT at HF HBX HB0 ⊢;have key:(D=false∧k≠0∧left=0)∨∃L:Nat,((k=0∧L=left)∨(k≠0∧left=L+1))∧D=(f && deepAll ks L):=by
  have hd:=HD.out
  by_cases hk:k=0
  ·exact .inr ⟨left,.inl ⟨hk,rfl⟩,by rw[hd,if_pos hk,decide_eq_true (Or.inl hk:k=0∨left≠0),Bool.true_and]⟩
  ·by_cases h0:left=0
   ·exact .inl ⟨by rw[hd,decide_eq_false (fun e=>e.elim hk (fun e=>e h0):¬(k=0∨left≠0)),Bool.false_and],hk,h0⟩
   ·exact .inr ⟨left - 1,.inr ⟨hk,by omega⟩,by rw[hd,if_neg hk,decide_eq_true (Or.inr h0:k=0∨left≠0),Bool.true_and]⟩
 clear HD
 rcases key with ⟨rfl,hk,rfl⟩ | ⟨L,(⟨rfl,rfl⟩ | ⟨hk,rfl⟩),hd⟩
 ·go_enter Tryz.func86,Tryz.ntmps86
  go_wp2_with fail
  go_ret;exact ⟨rfl,HB0.out⟩
 all_goals
  have HD:=LH hd;clear hd;go_enter Tryz.func86,Tryz.ntmps86
  go_wp2_with fail
  refine (HF.out _ HB0.out).mono ?_
  rintro e w2 ⟨rfl,hB2⟩;have HB2:=LH (bseq8 HB0.out hB2);have HBY:=LH (HBX.out.on hB2);clear hB2;cases f with
  | false =>
   have hx:D=false:=HD.out;clear HD;subst hx
   go_wp2_with fail
   go_ret;exact ⟨rfl,HB2.out⟩
  | true =>
   have hx:=HD.out;rw[Bool.true_and] at hx;clear HD;have HD:=LH hx;clear hx;obtain ⟨d0,d1,d2,d3,d4⟩:=HBY.out.cells
   go_wp2_with fail
   clear d0 d1 d2 d3 d4
   go_loopw [22] (fun i wr=>∃t:Nat,t≤nk∧i= .int .i64 t∧Below w.heap.size w wr∧∀j,j<t→deepB (ks[j]?.getD Tr.nil) L=true) (fun i _=>nk - (intOf i).toNat)
   case atStart=>exact ⟨0,by omega,rfl,HB2.out,fun j hj=>by omega⟩
   case round =>
    obtain ⟨t,ht,rfl,hB,hall⟩:=hrel;have HA:=LH hall;have HBr:=LH hB;clear hall hB
    by_cases hlt:t<nk
    ·obtain ⟨-,-,h3,h4,hk5⟩:=HV.out;obtain ⟨b,off,rfl,hbB,hkid⟩:=hk5 (by omega);obtain ⟨kk,kz,kw,kb,kv,e0,e1,e2,e3,e4,hT⟩:=hkid t hlt;obtain ⟨A4,n4,c4',A5,n5,c5',A6,n6,c6',rfl,rfl,rfl⟩:=hT.three;have hc:=fun i=>HBr.out.cell (p:=⟨b,i,none⟩) (by show b<w.heap.size;exact hbB)
     have c0:=(hc _).trans e0;have c1:=(hc _).trans e1;have c2:=(hc _).trans e2;have c3:=(hc _).trans e3;have c4:=(hc _).trans e4;have HT:=LH (hT.on HBr.out);clear hkid hk5 e0 e1 e2 e3 e4 hT hc
     go_wp2_with fail
     generalize hW:wr.alloc _=W3;have hB3:Below wr.heap.size wr W3:=by rw[←hW];exact (Below.refl _ _).alloc (Nat.le_refl _) _
     clear hW;refine (HI.out t _ L W3 (by rw[←HK.out];exact hlt) (HT.out.on hB3) (by omega)).mono ?_
     rintro e w4 ⟨rfl,hB4⟩;have HB4:=LH (bseq8 (bseq8 HBr.out hB3) hB4);clear hB3 hB4;cases hd:deepB (ks[t]?.getD Tr.nil) L with
     | true =>
      go_wp2_with fail
      go_round
      case rel =>
       refine ⟨t+1,by omega,by go_num,HB4.out,fun j hj=> ?_⟩
       by_cases hj2:j<t
       ·exact HA.out j hj2
       ·obtain rfl:j=t:=by omega
        exact hd
      case measure=>simp[intOf];omega
     | false =>
      have hx:D=false:=by
       rw[HD.out,←Bool.not_eq_true,deepAll_at];intro hall;rw[hall t (by rw[←HK.out];exact hlt)] at hd;cases hd
      clear HD;subst hx
      go_wp2_with fail
      go_ret;exact ⟨rfl,HB4.out⟩
    ·obtain rfl:t=nk:=by omega
     have hx:D=true:=by
      rw[HD.out,deepAll_at];intro j hj;exact HA.out j (by rw[HK.out];exact hj)
     clear HD;subst hx
     go_wp2_with fail
     go_ret;exact ⟨rfl,HBr.out⟩
theorem right_any:(n:Nat)→(t:Tr)→SizeOf.sizeOf t≤n→(v:Value)→(left:Nat)→(w:World)→TrV w w.heap.size t v→left≤1000000 →
  Calls Tryz.prog 86 #[.int .i64 left,v] w fun e w'=>e= .returned (.bool (deepB t left))∧Below w.heap.size w w'
 | 0,.mk k z ws bs ks,hn,_,_,_,_,_=>by simp at hn
 | n+1,.mk k z ws bs ks,hn,v,left,w,h,hl =>
  right_step k z ws bs ks v left w h hl (fun j v' l' w' hj hv' hl'=>right_any n _ (deep_kids hn hj) v' l' w' hv' hl')
theorem right8_any (t:Tr) (v:Value) (w:World) (h:TrV w w.heap.size t v) :
  Calls Tryz.prog 59 #[v] w fun e w'=>e= .returned (.bool (rightT t))∧Below w.heap.size w w':=by
 have hb:∀c:Array Value,Below w.heap.size w (w.alloc (.cells c 34)):=fun c=>(Below.refl _ _).alloc (Nat.le_refl _) _
 have h0:=fun c=>right_any _ t (Nat.le_refl _) v 32 (w.alloc (.cells c 34)) (h.on (hb c)) (by omega)
 have HE:Hid (rightT t=deepB t 32):=LH rfl;rw[HE.out];clear HE;obtain ⟨k,z,ws,bs,ks⟩:=t;obtain ⟨A1,c1,A2,c2,A3,c3,rfl,-⟩:=h.parts;generalize deepB (.mk k z ws bs ks) 32=D at *
 generalize ws.length=nw at *
 generalize bs.length=nb at *
 generalize ks.length=nk at *
 unfold cellsT at h0 ⊢;have HT:=LH h0;have HB:=LH hb;clear h h0 hb;go_enter Tryz.func59,Tryz.ntmps59
 go_wp2_with fail
 refine (HT.out _).mono ?_
 rintro e w2 ⟨rfl,hB⟩;have HB2:=LH (bseq8 (HB.out _) hB);clear hB
 go_wp2_with fail
 go_ret;exact ⟨rfl,HB2.out⟩
theorem encoded_any (p:Pt) (w:World) (L:Laid w) :
  Calls Tryz.prog 141 #[.agg (cellsP p)] w fun e w'=>e= .returned (.int .u64 (encW p))∧Below w.heap.size w w':=by
 have hb:Below w.heap.size w (w.alloc (.cells (cellsP p) 70)):=(Below.refl _ _).alloc (Nat.le_refl _) _;have HE:=LH (enc_any p _ (L.on hb));have HB:=LH hb;clear hb;generalize encW p=x at *
 generalize encE p=y at *
 unfold cellsP at *
 go_enter Tryz.func141,Tryz.ntmps141
 go_wp2_with fail
 refine HE.out.mono ?_
 rintro e w2 ⟨rfl,hB⟩;have HB2:=LH (bseq8 HB.out hB);clear hB
 go_wp2_with fail
 go_ret;exact ⟨rfl,HB2.out⟩
theorem far_any (s a:Nat) (w:World) (L:Laid w) :
  Calls Tryz.prog 124 #[.int .i64 s,.int .i64 a] w fun e w'=>e= .returned (.int .u64 (farW s a))∧Below w.heap.size w w':=by
 have HE:=LH (encoded_any ⟨3,a,0,0,0,0,s,false⟩ w L);have HF:Hid (encW ⟨3,a,0,0,0,0,s,false⟩=farW s a):=LH rfl;rw[HF.out] at HE;clear HF;generalize farW s a=x at *
 unfold cellsP at HE;go_enter Tryz.func124,Tryz.ntmps124
 go_wp2_with fail
 refine HE.out.mono ?_
 rintro e w2 ⟨rfl,hB⟩;have HB2:=LH hB;clear hB
 go_wp2_with fail
 go_ret;exact ⟨rfl,HB2.out⟩
theorem near_no (t:Tr) (off:Int) (h1:t.kind≠1) (h2:t.kind≠2) (h3:t.kind≠3):nearW t off=0:=by
 unfold nearW nearP encW;rw[if_neg h2]
 split
 ·unfold rawW;rw[if_neg h1,if_neg h2,if_neg h3]
 ·rfl
set_option maxHeartbeats 1000000 in
theorem near_any (t:Tr) (v:Value) (off:Int) (w:World) (L:Laid w) (h:TrV w w.heap.size t v) (hk:t.kind=0∨t.kind=1∨t.kind=2) :
  Calls Tryz.prog 122 #[v,.int .i64 off] w fun e w'=>e= .returned (.int .u64 (nearW t off))∧Below w.heap.size w w':=by
 have hb:∀c:Array Value,Below w.heap.size w (w.alloc (.cells c 34)):=fun c=>(Below.refl _ _).alloc (Nat.le_refl _) _
 have hct:=fun W (hB:Below w.heap.size w W)=>bcount_any t v W (h.on hB)
 have hen:=fun p W (hB:Below w.heap.size w W)=>encoded_any p W (L.on hB)
 obtain ⟨k,z,ws,bs,ks⟩:=t;obtain ⟨A1,c1,A2,c2,A3,c3,rfl,hg,-⟩:=h.parts;obtain ⟨g1,g2,g3,g4,g5,-⟩:=hg;clear h L;have HB:=LH hb
 rcases hk with rfl | rfl | rfl
 ·have HN:Hid (nearW (.mk 0 z ws bs ks) off=0):=LH (near_no _ _ (by show (0:Int)≠1;decide) (by show (0:Int)≠2;decide) (by show (0:Int)≠3;decide))
  rw[HN.out];generalize ws.length=nw at *
  generalize ks.length=nk at *
  generalize bs.length=nb at *
  clear hct hen hb;unfold cellsT;go_enter Tryz.func122,Tryz.ntmps122
  go_wp2_with fail
  go_ret;exact ⟨rfl,HB.out _⟩
 ·have HE:=LH (hen ⟨1,off,ws.length,ks.length,0,0,0,false⟩);have HN:Hid (encW ⟨1,off,ws.length,ks.length,0,0,0,false⟩=nearW (.mk 1 z ws bs ks) off):=LH rfl;rw[HN.out] at HE;clear HN hct hen hb;generalize nearW (.mk 1 z ws bs ks) off=x at *
  generalize ws.length=nw at *
  generalize ks.length=nk at *
  generalize bs.length=nb at *
  unfold cellsP at HE;unfold cellsT;go_enter Tryz.func122,Tryz.ntmps122
  go_wp2_with fail
  refine (HE.out _ (HB.out _)).mono ?_
  rintro e w2 ⟨rfl,hB⟩;have HB2:=LH (bseq8 (HB.out _) hB);clear hB
  go_wp2_with fail
  go_ret;exact ⟨rfl,HB2.out⟩
 ·have HE:=LH (hen ⟨2,off,0,0,z,(countT (.mk 2 z ws bs ks):Nat),0,false⟩);have HN:Hid (encW ⟨2,off,0,0,z,(countT (.mk 2 z ws bs ks):Nat),0,false⟩=nearW (.mk 2 z ws bs ks) off):=LH (by
   unfold nearW nearP countT;rw[if_pos (by rfl)]
   simp[Tr.size])
  rw[HN.out] at HE;have HC:=LH hct;clear HN hct hen hb;generalize nearW (.mk 2 z ws bs ks) off=x at *
  generalize countT (.mk 2 z ws bs ks)=c at *
  generalize ws.length=nw at *
  generalize ks.length=nk at *
  generalize bs.length=nb at *
  have hbx:=TBox.new w 2 z (.slice A1 nw c1) (.slice A2 nb c2) (.slice A3 nk c3);unfold cellsT at hbx;have HBX:Hid (TBox (w.alloc (.cells #[.int .i64 2,.int .i64 z,.slice A1 nw c1,.slice A2 nb c2,.slice A3 nk c3] 34)).drew w.heap.size 2 z (.slice A1 nw c1) (.slice A2 nb c2) (.slice A3 nk c3)):=LH hbx;have hT0:Below w.heap.size w (w.alloc (.cells #[.int .i64 2,.int .i64 z,.slice A1 nw c1,.slice A2 nb c2,.slice A3 nk c3] 34)).drew:=(HB.out _).drew;clear hbx;unfold cellsP at HE;unfold cellsT at HC ⊢;go_enter Tryz.func122,Tryz.ntmps122
  go_wp2_with fail
  generalize w.alloc (.cells #[.int .i64 2,.int .i64 z,.slice A1 nw c1,.slice A2 nb c2,.slice A3 nk c3] 34)=W at *
  go_region_held3 (fun w'=>w'.cell? ⟨w.heap.size,0,none⟩=some (.int .i64 2)∧w'.cell? ⟨w.heap.size,1,none⟩=some (.int .i64 z)∧w'.cell? ⟨w.heap.size,2,none⟩=some (.slice A1 nw c1)∧w'.cell? ⟨w.heap.size,3,none⟩=some (.slice A2 nb c2)∧w'.cell? ⟨w.heap.size,4,none⟩=some (.slice A3 nk c3)) (first | exact HBX.out.cells | exact (HBX.out.on hB2).cells | exact ((HBX.out.on hB2).on hB3).cells) (first
   | (go_at_call 139;with_reducible refine (HC.out _ hT0).mono ?_;rintro e w2 ⟨rfl,hB2⟩;have hC2:=bseq8 hT0 hB2)
   | (go_at_call 141;with_reducible refine (HE.out _ hC2).mono ?_;rintro e w3 ⟨rfl,hB3⟩;have hC3:=bseq8 hC2 hB3))
  all_goals go_wp2_with fail
  all_goals go_ret
  all_goals exact ⟨rfl,hC3⟩
set_option maxHeartbeats 1000000 in
theorem empty_any (t:Tr) (v:Value) (w:World) (L:Laid w) (h:TrV w w.heap.size t v) (hk:t.kind=0∨t.kind=1∨t.kind=2) :
  Calls Tryz.prog 88 #[v] w fun e w'=>e= .returned (.int .u64 (nearW t (if t.kind=1 then -1 else 0)))∧Below w.heap.size w w':=by
 have hb:∀c:Array Value,Below w.heap.size w (w.alloc (.cells c 34)):=fun c=>(Below.refl _ _).alloc (Nat.le_refl _) _
 have hne:=fun off W (hB:Below w.heap.size w W)=>near_any t v off W (L.on hB) (h.on hB) hk
 obtain ⟨k,z,ws,bs,ks⟩:=t;obtain ⟨A1,c1,A2,c2,A3,c3,rfl,-⟩:=h.parts;clear h L;have HB:=LH hb;have HK:Hid (k=0∨k=1∨k=2):=LH hk;clear hb hk;unfold Tr.kind;dsimp only
 by_cases k1:k=1
 ·subst k1;rw[if_pos rfl];have HE:=LH (hne (-1));clear hne;generalize nearW (.mk 1 z ws bs ks) (-1)=x at *
  generalize ws.length=nw at *
  generalize ks.length=nk at *
  generalize bs.length=nb at *
  unfold cellsT at HE ⊢;go_enter Tryz.func88,Tryz.ntmps88
  go_wp2_with fail
  refine (HE.out _ (HB.out _)).mono ?_
  rintro e w2 ⟨rfl,hB⟩;have HB2:=LH (bseq8 (HB.out _) hB);clear hB
  go_wp2_with fail
  go_ret;exact ⟨rfl,HB2.out⟩
 ·rw[if_neg k1];have HE:=LH (hne 0);clear hne;generalize nearW (.mk k z ws bs ks) 0=x at *
  generalize ws.length=nw at *
  generalize ks.length=nk at *
  generalize bs.length=nb at *
  unfold cellsT at HE ⊢;go_enter Tryz.func88,Tryz.ntmps88
  go_wp2_with fail
  refine (HE.out _ (HB.out _)).mono ?_
  rintro e w2 ⟨rfl,hB⟩;have HB2:=LH (bseq8 (HB.out _) hB);clear hB
  go_wp2_with fail
  go_ret;exact ⟨rfl,HB2.out⟩
end Go.Proofs.YtmmlfnblodfjbaaGreatDoor
