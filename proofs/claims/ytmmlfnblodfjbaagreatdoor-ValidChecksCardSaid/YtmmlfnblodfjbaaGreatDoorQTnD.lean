/- Layer 10, the document: node, however deep; Decode. -/
import Derived.Test.YtmmlfnblodfjbaaGreatDoorQTnOk
import Derived.BigRegion
import Derived.Test.YtmmlfnblodfjbaaGreatDoorQTeC
import Derived.Test.YtmmlfnblodfjbaaGreatDoorQCut
set_option maxRecDepth 100000
namespace Go.Proofs.YtmmlfnblodfjbaaGreatDoor
open Go.RowKit Go.Deep
theorem NodeR.err {v:Value} {dn dn':Dn} {w w':World} {e:Ending} (h:NodeR v dn w e w') (he:dn.err=dn'.err) (hn:dn'.err≠0):NodeR v dn' w e w':=by
 obtain ⟨p,E,k,z,A1,n1,c1,A2,n2,c2,A3,n3,c3,h1,h2,h3,-⟩:=h;exact ⟨p,E,k,z,A1,n1,c1,A2,n2,c2,A3,n3,c3,h1,h2,h3.trans he,fun hx=>absurd hx hn⟩
theorem node_any (v:Value) (ls:List (List Int)) (w0:World) (h:ArV w0 w0.heap.size v ls) (hs:ls.length≤1000000000) (hu:AllU ls) (h64:All64 (sizesL ls)) (hf:fitsL (sizesL ls)=true) :
  (d:Nat)→d≤32→∀X,Below w0.heap.size w0 X→∀g a q,(-1099511627776≤a∧a≤1099511627776)→(0≤q∧q≤8192) →
   Calls Tryz.prog 44 #[.agg #[v,.bool false,.slice none 0 0,.int .i64 q,.int .i64 0],.int .i64 g,.int .i64 a,.int .i64 (32 - (d:Int))] X (NodeR v (decN (srA ls) d g a q) X):=by
 intro d;have hg:=srA_good hs hu h64;have hW:∀g a,0≤wordsO (followO (srA ls) g a).1:=fun g a=>(wordN_bd (follow_good hg g a).okq).1
 induction d with
 | zero =>
  intro _ X hX g a q ha hq
  by_cases he:(thingE (followO (srA ls) g a) (32 - ((0:Nat):Int)) (8192 - q)).2=0
  ·obtain ⟨h1,h2,h3,h4⟩:=dec10_ok he;have hk:(followO (srA ls) g a).1.kind=0:=by
    by_cases hk:(followO (srA ls) g a).1.kind=0
    ·exact hk
    ·have:=h4 hk
     omega
   have hz:=good_zero (follow_good hg g a) hk;have hb:=node_ok v ls g a (32 - ((0:Nat):Int)) q X (h.on hX) hs hu h64 hf ha hq (by omega) he (decN (srA ls) 0) (fun g a p hp _ he=>dec10_paid 0 g a p he hp hW) (fun hk2=>absurd hk hk2)
   refine hb.mono (fun e w' hr=> ?_)
   have e1:decN (srA ls) 0 g a q=okDn (srA ls) (decN (srA ls) 0) (followO (srA ls) g a).1 (q+(1+wordsO (followO (srA ls) g a).1)):=by
    have hnk:nKids (followO (srA ls) g a).1=0:=by rw[hz];rfl
    rw[dec10_leaf he (follow_good hg g a) hnk];unfold okDn;rw[hnk]
    rfl
   rw[e1];exact hr
  ·rw[dec10_err he];exact node_err v ls g a _ q X (h.on hX) hs hu h64 ha hq he _ _
 | succ d ih =>
  intro hd X hX g a q ha hq
  by_cases he:(thingE (followO (srA ls) g a) (32 - ((d+1:Nat):Int)) (8192 - q)).2=0
  ·have hb:=node_ok v ls g a (32 - ((d+1:Nat):Int)) q X (h.on hX) hs hu h64 hf ha hq (by omega) he (decN (srA ls) d) (fun g a p hp _ he=>dec10_paid d g a p he hp hW) (fun _ Y hY g a p ha hp=>by
    have:=ih (by omega) Y (hX.trans (hY.mono hX.size)) g a p ha hp;rw[show (32 - ((d+1:Nat):Int)+1)=32 - (d:Int) by omega]
    exact this)
   refine hb.mono (fun e w' hr=> ?_)
   by_cases hnk:nKids (followO (srA ls) g a).1=0
   ·have e1:decN (srA ls) (d+1) g a q=okDn (srA ls) (decN (srA ls) d) (followO (srA ls) g a).1 (q+(1+wordsO (followO (srA ls) g a).1)):=by
     rw[dec10_leaf he (follow_good hg g a) hnk];unfold okDn;rw[hnk]
     rfl
    rw[e1];exact hr
   ·have hk:(followO (srA ls) g a).1.kind≠0:=fun hk=>hnk (by rw[good_zero (follow_good hg g a) hk];rfl)
    rw[dec10_some he hk]
    by_cases hx:(decKids (decN (srA ls) d) (nKids (followO (srA ls) g a).1) (followO (srA ls) g a).1.seg (kidsA (followO (srA ls) g a).1) (q+(1+wordsO (followO (srA ls) g a).1))).1≠0
    ·rw[if_pos hx];exact hr.err rfl hx
    ·rw[if_neg hx];have hx':=Decidable.of_not_not hx;unfold okDn at hr;rw[hx'] at hr;exact hr
  ·rw[dec10_err he];exact node_err v ls g a _ q X (h.on hX) hs hu h64 ha hq he _ _
def TrED (t:Tr × Int) (w:World) (e:Ending) (w':World):Prop :=
 ∃k z A1 n1 c1 A2 n2 c2 A3 n3 c3,e= .returned (.tuple #[.agg (cellsT k z (.slice A1 n1 c1) (.slice A2 n2 c2) (.slice A3 n3 c3)),.int .i64 t.2])∧TrP w' (fun x=>w.heap.size≤x∧x<w'.heap.size) t.1 (.agg (cellsT k z (.slice A1 n1 c1) (.slice A2 n2 c2) (.slice A3 n3 c3)))∧Below w.heap.size w w'
set_option maxHeartbeats 2000000 in
theorem rdecode_any (v:Value) (ls:List (List Int)) (w:World) (h:ArV w w.heap.size v ls) (hl:ls.length≤1000000000000) (hu:AllU ls) :
  Calls Tryz.prog 25 #[v] w (TrED (decodeT ls) w):=by
 have HR:=LH (fun X (hX:Below w.heap.size w X)=>rright7_any v ls X (h.on hX) hl)
 have HNd:=LH (fun (hf:fitsL (sizesL ls)=true)=>node_any v ls w h (by
  have h1:=(of_decide_eq_true hf).2.1;rw[sizesL_length] at h1
  omega) hu (sizes_all64 h) hf 32 (Nat.le_refl _))
 have HL:Hid (decodeT ls=if fitsL (sizesL ls)=true then (if (decN (srA ls) 32 0 0 0).err≠0 then (Tr.nil,(decN (srA ls) 32 0 0 0).err) else ((decN (srA ls) 32 0 0 0).t,0)) else (Tr.nil,1)):=LH rfl
 obtain ⟨Z,hZ⟩:∃Z,Z=decodeT ls:=⟨_,rfl⟩;rw[←hZ] at HL ⊢;have HNn:=LH (fun hf X hX=>HNd.out hf X hX 0 0 0 ⟨by decide,by decide⟩ ⟨by decide,by decide⟩)
 rw[show (32 - ((32:Nat):Int))=0 by decide] at HNn
 clear HNd;generalize fitsL (sizesL ls)=F at *
 generalize decN (srA ls) 32 0 0 0=dn at *
 have hb1:=TBox.new w 0 0 (.slice none 0 0) (.slice none 0 0) (.slice none 0 0);have hB1:Below w.heap.size w (w.alloc (.cells (cellsT 0 0 (.slice none 0 0) (.slice none 0 0) (.slice none 0 0)) 34)):=(Below.refl _ _).alloc (Nat.le_refl _) _;obtain ⟨A,q,rfl⟩:=h.form rfl;obtain ⟨W1,hW1⟩:∃W1,W1=w.alloc (.cells (cellsT 0 0 (.slice none 0 0) (.slice none 0 0) (.slice none 0 0)) 34):=⟨_,rfl⟩;rw[←hW1] at hb1 hB1;have HN1:=LH hb1;have HB1:=LH hB1;have HRc:=LH (HR.out W1 HB1.out);unfold cellsT at hW1;clear hZ hb1 hB1 h hl hu HR;generalize ls.length=m at *
 cases F with
 | false =>
  obtain rfl:Z=(Tr.nil,1):=HL.out.trans (if_neg (by decide));go_enter Tryz.func25,Tryz.ntmps25;go_upto_region 1 with fail
  rw[←hW1];clear hW1
  go_wp2_with fail
  refine HRc.out.mono ?_
  rintro e w2 ⟨rfl,hB2⟩;have HN2:=LH (HN1.out.on hB2);have HB2:=LH (HB1.out.trans (hB2.mono HB1.out.size));clear hB2;obtain ⟨x0,x1,x2,x3,x4⟩:=HN2.out.cells;obtain ⟨f0,f1,f2,f3,f4⟩:=HN2.out.frozenD;have HX:=LH (HN2.out.putT 0 0 (.slice none 0 0) (.slice none 0 0) (.slice none 0 0));have HBX:=LH (below_putT (r:=w.heap.size) HB2.out (Nat.le_refl _) 0 0 (.slice none 0 0) (.slice none 0 0) (.slice none 0 0))
  go_wp2_with fail
  unfold putT at HX HBX;clear x0 x1 x2 x3 x4;obtain ⟨x0,x1,x2,x3,x4⟩:=HX.out.cells;refine bodyPost_ret (v:= .tuple #[.agg (cellsT 0 0 (.slice none 0 0) (.slice none 0 0) (.slice none 0 0)),.int .i64 1]) ?_ rfl ⟨0,0,none,0,0,none,0,0,none,0,0,rfl,trP_nil _ _,HBX.out⟩
  simp[results,Tryz.f25,go_sem,cellsT,x0,x1,x2,x3,x4]
 | true =>
  have HL2:=LH (HL.out.trans (if_pos rfl));go_enter Tryz.func25,Tryz.ntmps25;go_upto_region 1 with fail
  rw[←hW1];clear hW1
  go_wp2_with fail
  refine HRc.out.mono ?_
  rintro e w2 ⟨rfl,hB2⟩;have HN2:=LH (HN1.out.on hB2);have HB2:=LH (HB1.out.trans (hB2.mono HB1.out.size));clear hB2;have HC:=LH (HNn.out (by trivial) w2 HB2.out);clear HNn
  go_wp2_with fail
  refine HC.out.mono ?_
  intro e w3 hR;obtain ⟨p8,E8,k8,z8,B1,m1,q1,B2,m2,q4,B3,m3,q5,he8,hB3,hE3,hT3⟩:=hR;subst he8;obtain ⟨w4,hw4⟩:∃w4,w4=(w3.alloc (.cells #[.slice A m q,.bool false,.slice none 0 0,.int .i64 p8,.int .i64 E8] 98)).alloc (.cells #[.int .i64 k8,.int .i64 z8,.slice B1 m1 q1,.slice B2 m2 q4,.slice B3 m3 q5] 34):=⟨_,rfl⟩;have hB4:Below w3.heap.size w3 w4:=by rw[hw4];exact ((Below.refl _ _).alloc (Nat.le_refl _) _).alloc (by simp) _
  have hn4:NBox w4 w3.heap.size (.slice A m q) p8 E8:=by rw[hw4];exact (NBox.new w3 (.slice A m q) p8 E8).on ((Below.refl _ _).alloc (Nat.le_refl _) _)
  have ht4:TBox w4 (w3.heap.size+1) k8 z8 (.slice B1 m1 q1) (.slice B2 m2 q4) (.slice B3 m3 q5):=by
   rw[hw4,show w3.heap.size+1=(w3.alloc (.cells #[.slice A m q,.bool false,.slice none 0 0,.int .i64 p8,.int .i64 E8] 98)).heap.size by rw[World.size_alloc]]
   exact TBox.new _ _ _ _ _ _
  have HN4:=LH ((HN2.out.on hB3).on hB4);have HB4:=LH (HB2.out.trans ((bseqS hB3 hB4).mono HB2.out.size));have hlt:w.heap.size<w3.heap.size:=(HN2.out.on hB3).lt;have hz2:=HN2.out.lt;have HTr:Hid (dn.err=0→TrP w4 (fun x=>w.heap.size<x∧x<w4.heap.size) dn.t (.agg (cellsT k8 z8 (.slice B1 m1 q1) (.slice B2 m2 q4) (.slice B3 m3 q5)))):=LH (fun hx=>TrP.mono (fun b hb=>⟨Nat.lt_of_lt_of_le hz2 hb.1,Nat.lt_of_lt_of_le hb.2 hB4.size⟩) _ _ (TrP.keep (fun b hb=>hB4.block b hb.2) _ _ (hT3 hx).2))
  have HE3:=LH hE3;have HNe:=LH (hn4.block (putT_other w4 w.heap.size 0 0 (.slice none 0 0) (.slice none 0 0) (.slice none 0 0) (by omega)));obtain ⟨d0,d1,d2,d3,d4⟩:=hn4.cells;obtain ⟨y0,y1,y2,y3,y4⟩:=ht4.cells;clear hB3 hT3 hE3 hB4 hn4 ht4 hlt hz2;unfold cellsT;go_upto_region 4 with fail
  rw[←hw4];clear hw4;obtain ⟨x0,x1,x2,x3,x4⟩:=HN4.out.cells;obtain ⟨f0,f1,f2,f3,f4⟩:=HN4.out.frozenD
  by_cases hE:E8=0
  ·subst hE;obtain rfl:Z=(dn.t,0):=HL2.out.trans (if_neg (by rw[←HE3.out];simp));have HX:=LH (HN4.out.putT k8 z8 (.slice B1 m1 q1) (.slice B2 m2 q4) (.slice B3 m3 q5));have HBX:=LH (below_putT (r:=w.heap.size) HB4.out (Nat.le_refl _) k8 z8 (.slice B1 m1 q1) (.slice B2 m2 q4) (.slice B3 m3 q5));have HTX:Hid (TrP (putT w4 w.heap.size k8 z8 (.slice B1 m1 q1) (.slice B2 m2 q4) (.slice B3 m3 q5)) (fun x=>w.heap.size≤x∧x<(putT w4 w.heap.size k8 z8 (.slice B1 m1 q1) (.slice B2 m2 q4) (.slice B3 m3 q5)).heap.size) dn.t (.agg (cellsT k8 z8 (.slice B1 m1 q1) (.slice B2 m2 q4) (.slice B3 m3 q5)))):=LH (by
    rw[putT_size];exact TrP.mono (fun b hb=>⟨Nat.le_of_lt hb.1,hb.2⟩) _ _ (TrP.keep (fun b hb=>putT_other _ _ _ _ _ _ _ (by omega)) _ _ (HTr.out HE3.out.symm)))
   go_wp2_with fail
   unfold putT at HX HBX HTX;clear x0 x1 x2 x3 x4;obtain ⟨x0,x1,x2,x3,x4⟩:=HX.out.cells;refine bodyPost_ret (v:= .tuple #[.agg (cellsT k8 z8 (.slice B1 m1 q1) (.slice B2 m2 q4) (.slice B3 m3 q5)),.int .i64 0]) ?_ rfl ⟨_,_,_,_,_,_,_,_,_,_,_,rfl,HTX.out,HBX.out⟩
   simp[results,Tryz.f25,go_sem,cellsT,x0,x1,x2,x3,x4]
  ·have hE1:(E8 != 0)=true:=by simp[hE]
   obtain rfl:Z=(Tr.nil,E8):=by
    have:=HL2.out.trans (if_pos (by rw[←HE3.out];exact hE));rw[←HE3.out] at this;exact this
   have HX:=LH (HN4.out.putT 0 0 (.slice none 0 0) (.slice none 0 0) (.slice none 0 0));have HBX:=LH (below_putT (r:=w.heap.size) HB4.out (Nat.le_refl _) 0 0 (.slice none 0 0) (.slice none 0 0) (.slice none 0 0));unfold putT at HX HBX HNe;have hz:=HNe.out.cells;obtain ⟨z0,z1,z2,z3,z4⟩:=hz;go_upto_region 5 with fail
   go_region
   all_goals go_wp2_with fail
   all_goals
    clear x0 x1 x2 x3 x4;obtain ⟨x0,x1,x2,x3,x4⟩:=HX.out.cells;refine bodyPost_ret (v:= .tuple #[.agg (cellsT 0 0 (.slice none 0 0) (.slice none 0 0) (.slice none 0 0)),.int .i64 E8]) ?_ rfl ⟨0,0,none,0,0,none,0,0,none,0,0,rfl,trP_nil _ _,by first | exact HBX.out | exact HBX.out.drew⟩
    simp[results,Tryz.f25,go_sem,cellsT,x0,x1,x2,x3,x4]
theorem append_intB (w:World) (base ty:Nat) (v:Value) (xs:List Int) (x:Int) (hown:OwnI w base v xs) (hk:xs.length≤10000000000000) (hbase:base≤w.heap.size) :
  ∃v' w',(Builtin.append_ #[45,45] ty #[v,.slice (some ⟨w.heap.size,0,none⟩) 1 1]).run Tryz.prog (w.alloc (.cells #[.int .i64 x] 3))= .ok v' w'∧OwnI w' base v' (xs ++ [x])∧(w.alloc (.cells #[.int .i64 x] 3)).grownBy w' v.ownBlock:=by
 obtain ⟨i0,hi,hz0,hz1,hz2⟩:=info_parts Tryz.info3;obtain ⟨v',w',hrun,ho,hg,_,hl⟩:=run_append_own_at (P:=Tryz.prog) (w:=w.alloc (.cells #[.int .i64 x] 3)) base 45 ty 3 i0 _ 1 8 Tryz.underlying45 hi hz0 hz1 hz2 rfl (by decide) v xs.length (xs.map (Value.int .i64)) (World.ownsRow.alloc hown _) ⟨w.heap.size,0,none⟩ 1 1 [.int .i64 x] rfl (cell_one_new _ _ _) (fun u hu=>by simp at hu;subst hu;rfl) (by unfold maxLen;omega) (by omega) (by simp;omega)
 refine ⟨v',w',hrun,?_,hg⟩;unfold OwnI OwnN;rw[List.length_append,List.map_append];exact ho
set_option maxHeartbeats 1000000 in
theorem rsizes_anyB (v:Value) (ls:List (List Int)) (w:World) (h:ArV w w.heap.size v ls) (hlen:ls.length≤10000000000000) :
  Calls Tryz.prog 75 #[v] w fun e w'=>∃u,e= .returned u∧OwnI w' w.heap.size u (sizesL ls)∧Below w.heap.size w w':=by
 have HV:=LH h;obtain ⟨A,c,rfl,hc,hm,hr⟩:=h;obtain ⟨len,hn⟩:∃n,n=ls.length:=⟨_,rfl⟩;rw[←hn] at hc hlen ⊢;have HN:=LH hn;rw[←hn] at HV;clear hr hn;go_enter Tryz.func75,Tryz.ntmps75
 go_wp2_with fail
 go_loopw [3,4] (fun o i wr=>∃t:Nat,t≤len∧i= .int .i64 t∧OwnI wr w.heap.size o ((sizesL ls).take t)∧Below w.heap.size w wr) (fun _ i _=>len - (intOf i).toNat)
 case atStart=>exact ⟨0,by omega,rfl,OwnI.nil _ _,Below.refl _ _⟩
 case round =>
  obtain ⟨t,ht,rfl,ho,hB⟩:=hrel;have HO:=LH ho;have HB:=LH hB;clear ho hB
  by_cases hlt:t<len
  ·obtain ⟨A',c',e',_,_,hr⟩:=HV.out.on HB.out;obtain ⟨b,off,ea,_,hcell⟩:=hr (by rw[←HN.out];omega);cases e'
   subst ea;obtain ⟨s,p1,hs1⟩:=hcell t (by rw[←HN.out];exact hlt);obtain ⟨m,hm1⟩:∃m,(ls[t]?.getD []).length=m:=⟨_,rfl⟩;obtain ⟨A1,c1,rfl⟩:=hs1.form hm1;have HE:Hid ((sizesL ls).take (t+1)=(sizesL ls).take t ++ [(m:Int)]):=LH (by rw[sizesL_take (by rw[←HN.out];exact hlt),hm1]);obtain ⟨v',w',hrun,ho',hg'⟩:=append_intB wr w.heap.size 45 u3 ((sizesL ls).take t) m HO.out (by rw[List.length_take];omega) HB.out.size;have HRun:=LH hrun;have HR:Hid (OwnI w' w.heap.size v' ((sizesL ls).take (t+1))∧Below w.heap.size w w'):=LH ⟨by rw[HE.out];exact ho',app_belowI HO.out rfl HB.out hg'⟩;clear hcell hs1 hm1 hrun ho' hg' hr
   go_wp2_with (at_builtin;refine Lib.wpList_append_run _ rfl _ _ _ _ rfl _ _ rfl rfl _ _ HRun.out ?_)
   go_roundw
   case rel=>exact ⟨t+1,by omega,by go_num,HR.out.1,HR.out.2⟩
   case measure=>simp[intOf];omega
  ·obtain rfl:t=len:=by omega
   have HE:Hid ((sizesL ls).take t=sizesL ls):=LH (by rw[HN.out,←sizesL_length,List.take_length]);rw[HE.out] at HO
   go_wp2_with fail
   go_ret;exact ⟨_,rfl,HO.out,HB.out⟩
theorem rright7_anyB (v:Value) (ls:List (List Int)) (w:World) (h:ArV w w.heap.size v ls) (hlen:ls.length≤10000000000000) :
  Calls Tryz.prog 42 #[v] w fun e w'=>e= .returned (.bool (fitsL (sizesL ls)))∧Below w.heap.size w w':=by
 have HS:=LH (rsizes_anyB v ls w h hlen);have HA:=LH (sizes_all64 h);clear h hlen;go_enter Tryz.func42,Tryz.ntmps42
 go_wp2_with fail
 refine HS.out.mono ?_
 rintro e w1 ⟨u,rfl,ho,hB⟩;have HO:=LH (OwnN.numS ho);clear ho
 go_wp2_with fail
 refine (rfits_any u (sizesL ls) _ w1 HO.out HA.out).mono ?_
 rintro e w' ⟨rfl,rfl⟩
 go_wp2_with fail
 go_ret;exact ⟨rfl,hB⟩
set_option maxHeartbeats 1000000 in
theorem asizes_anyB (v:Value) (ls:List (List Int)) (w:World) (h:ArV w w.heap.size v ls) (hs:ls.length≤10000000000000) :
  Calls Tryz.prog 63 #[v] w fun e w'=>∃u,e= .returned u∧OwnI w' w.heap.size u (sizesL ls)∧Below w.heap.size w w':=by
 have HV:=LH h;have hlen:=hs;obtain ⟨A,c,rfl,hc,hm,hr⟩:=h;obtain ⟨len,hn⟩:∃n,n=ls.length:=⟨_,rfl⟩;rw[←hn] at hc hlen ⊢;have HN:=LH hn;rw[←hn] at HV;have hmk:=run_make_row' (P:=Tryz.prog) 45 3 (.int .i64 0) 8 Tryz.underlying45 Tryz.info3 rfl .i64 .i64 len (by omega) (by omega);have HR0:Hid (RowV (w.alloc (.cells (madeCells #[Value.int .i64 0] len) 3)) w.heap.size 3 (sizesTo ls 0)):=LH (by
  unfold sizesTo;rw[←hn];exact RowV.made w _ _ _)
 clear hr hn hs;go_enter Tryz.func63,Tryz.ntmps63
 go_wp2_with fail
 go_loopw [11] (fun i wr=>∃t:Nat,t≤len∧i= .int .i64 t∧RowV wr w.heap.size 3 (sizesTo ls t)∧Below w.heap.size w wr) (fun i _=>len - (intOf i).toNat)
 case atStart=>exact ⟨0,by omega,rfl,HR0.out,(Below.refl _ _).alloc (Nat.le_refl _) _⟩
 case round =>
  obtain ⟨t,ht,rfl,ho,hB⟩:=hrel;have HO:=LH ho;have HB:=LH hB
  by_cases hlt:t<len
  ·obtain ⟨b,off,A1,c1,rfl,p1,k1,-⟩:=below_cells HV.out HB.out rfl (j:=t) (by rw[←HN.out];exact hlt);have q1:=ho.cell (j:=t) (by rw[sizesTo_length (by rw[←HN.out];omega),←HN.out];exact hlt);have q2:=ho.frozen t;obtain ⟨z,hz⟩:∃z,(sizesTo ls t)[t]?.getD undef=z:=⟨_,rfl⟩;rw[hz] at q1;have HS:Hid ((sizesTo ls t).set t (.int .i64 ((ls[t]?.getD []).length:Int))=sizesTo ls (t+1)):=LH (sizesTo_succ (by rw[←HN.out];exact hlt));obtain ⟨m,hm1⟩:∃m,(ls[t]?.getD []).length=m:=⟨_,rfl⟩;rw[hm1] at p1 k1 HS;have i1:(t:Int)<(len:Int):=by omega
   clear ho hB hz hm1
   go_wp2_with fail
   go_roundw
   case rel=>exact ⟨t+1,by omega,by go_num,by rw[←HS.out];exact HO.out.set t _,HB.out.setCell (p:=⟨w.heap.size,t,none⟩) (Nat.le_refl _) _⟩
   case measure=>simp[intOf];omega
  ·obtain rfl:t=len:=by omega
   have HE:Hid (OwnI wr w.heap.size (.slice (some ⟨w.heap.size,0,none⟩) t t) (sizesL ls)):=LH (by
    have:=HO.out;rw[sizesTo_end HN.out] at this;unfold OwnI OwnN;rw[sizesL_length,←HN.out];exact this.owns (Nat.le_refl _) (by rw[List.length_map,sizesL_length];exact HN.out.symm) (by unfold maxLen;omega))
   clear ho hB
   go_wp2_with fail
   go_ret;exact ⟨_,rfl,HE.out,HB.out⟩
theorem aright_anyB (v:Value) (ls:List (List Int)) (w:World) (h:ArV w w.heap.size v ls) (hs:ls.length≤10000000000000) :
  Calls Tryz.prog 38 #[v] w fun e w'=>e= .returned (.bool (fitsL (sizesL ls)))∧Below w.heap.size w w':=by
 have HS:=LH (asizes_anyB v ls w h hs);have HA:=LH (sizes_all64 h);clear h hs;go_enter Tryz.func38,Tryz.ntmps38
 go_wp2_with fail
 refine HS.out.mono ?_
 rintro e w1 ⟨u,rfl,ho,hB⟩;have HO:=LH (OwnN.numS ho);clear ho
 go_wp2_with fail
 refine (afits_any u (sizesL ls) _ w1 HO.out HA.out).mono ?_
 rintro e w' ⟨rfl,rfl⟩
 go_wp2_with fail
 go_ret;exact ⟨rfl,hB⟩
set_option maxHeartbeats 2000000 in
theorem decode_big (v:Value) (ls:List (List Int)) (w:World) (_L:Laid w) (h:ArV w w.heap.size v ls) (hl:ls.length≤10000000000000) (hb:¬ls.length≤1000000000) :
  Calls Tryz.prog 58 #[v] w (TrER (decodeT ls) w):=by
 have HR:=LH (fun X (hX:Below w.heap.size w X)=>aright_anyB v ls X (h.on hX) hl)
 have HL:Hid (decodeT ls=if fitsL (sizesL ls)=true then (if (decN (srA ls) 32 0 0 0).err≠0 then (Tr.nil,(decN (srA ls) 32 0 0 0).err) else ((decN (srA ls) 32 0 0 0).t,0)) else (Tr.nil,1)):=LH rfl
 obtain ⟨Z,hZ⟩:∃Z,Z=decodeT ls:=⟨_,rfl⟩;rw[←hZ] at HL ⊢;have hF:fitsL (sizesL ls)=false:=by
  cases h2:fitsL (sizesL ls) with
  | false=>rfl
  | true =>
   have h1:=(of_decide_eq_true h2).2.1;rw[sizesL_length] at h1
   omega
 rw[hF] at HL HR;generalize decN (srA ls) 32 0 0 0=dn at *
 have hb1:=TBox.new w 0 0 (.slice none 0 0) (.slice none 0 0) (.slice none 0 0);have hB1:Below w.heap.size w (w.alloc (.cells (cellsT 0 0 (.slice none 0 0) (.slice none 0 0) (.slice none 0 0)) 34)):=(Below.refl _ _).alloc (Nat.le_refl _) _;obtain ⟨A,q,rfl⟩:=h.form rfl;obtain ⟨W1,hW1⟩:∃W1,W1=w.alloc (.cells (cellsT 0 0 (.slice none 0 0) (.slice none 0 0) (.slice none 0 0)) 34):=⟨_,rfl⟩;rw[←hW1] at hb1 hB1;have HN1:=LH hb1;have HB1:=LH hB1;have HRc:=LH (HR.out W1 HB1.out);unfold cellsT at hW1;clear hZ hb1 hB1 h _L hl hb hF HR;generalize ls.length=m at *
 obtain rfl:Z=(Tr.nil,1):=HL.out.trans (if_neg (by decide));go_enter Tryz.func58,Tryz.ntmps58;go_upto_region 1 with fail
 rw[←hW1];clear hW1
 go_wp2_with fail
 refine HRc.out.mono ?_
 rintro e w2 ⟨rfl,hB2⟩;have HN2:=LH (HN1.out.on hB2);have HB2:=LH (HB1.out.trans (hB2.mono HB1.out.size));clear hB2;obtain ⟨x0,x1,x2,x3,x4⟩:=HN2.out.cells;obtain ⟨f0,f1,f2,f3,f4⟩:=HN2.out.frozens;have HX:=LH (HN2.out.put 0 0 (.slice none 0 0) (.slice none 0 0) (.slice none 0 0));have HBX:=LH (below_put5 (g:=w.heap.size) HB2.out (Nat.le_refl _) 0 0 0 (.slice none 0 0) (.slice none 0 0) (.slice none 0 0))
 go_wp2_with fail
 unfold put5 at HX HBX;simp only[Nat.zero_add] at HX HBX;clear x0 x1 x2 x3 x4;obtain ⟨x0,x1,x2,x3,x4⟩:=HX.out.cells;refine bodyPost_ret (v:= .tuple #[.agg (cellsT 0 0 (.slice none 0 0) (.slice none 0 0) (.slice none 0 0)),.int .u16 1]) ?_ rfl (by unfold TrER;exact ⟨_,rfl,trP_nil _ _,HBX.out⟩)
 simp[results,Tryz.f58,go_sem,cellsT,x0,x1,x2,x3,x4]
set_option maxHeartbeats 2000000 in
theorem rdecode_big (v:Value) (ls:List (List Int)) (w:World) (h:ArV w w.heap.size v ls) (hl:ls.length≤10000000000000) (hb:¬ls.length≤1000000000) :
  Calls Tryz.prog 25 #[v] w (TrED (decodeT ls) w):=by
 have HR:=LH (fun X (hX:Below w.heap.size w X)=>rright7_anyB v ls X (h.on hX) hl)
 have HL:Hid (decodeT ls=if fitsL (sizesL ls)=true then (if (decN (srA ls) 32 0 0 0).err≠0 then (Tr.nil,(decN (srA ls) 32 0 0 0).err) else ((decN (srA ls) 32 0 0 0).t,0)) else (Tr.nil,1)):=LH rfl
 obtain ⟨Z,hZ⟩:∃Z,Z=decodeT ls:=⟨_,rfl⟩;rw[←hZ] at HL ⊢;have hF:fitsL (sizesL ls)=false:=by
  cases h2:fitsL (sizesL ls) with
  | false=>rfl
  | true =>
   have h1:=(of_decide_eq_true h2).2.1;rw[sizesL_length] at h1
   omega
 rw[hF] at HL HR;generalize decN (srA ls) 32 0 0 0=dn at *
 have hb1:=TBox.new w 0 0 (.slice none 0 0) (.slice none 0 0) (.slice none 0 0);have hB1:Below w.heap.size w (w.alloc (.cells (cellsT 0 0 (.slice none 0 0) (.slice none 0 0) (.slice none 0 0)) 34)):=(Below.refl _ _).alloc (Nat.le_refl _) _;obtain ⟨A,q,rfl⟩:=h.form rfl;obtain ⟨W1,hW1⟩:∃W1,W1=w.alloc (.cells (cellsT 0 0 (.slice none 0 0) (.slice none 0 0) (.slice none 0 0)) 34):=⟨_,rfl⟩;rw[←hW1] at hb1 hB1;have HN1:=LH hb1;have HB1:=LH hB1;have HRc:=LH (HR.out W1 HB1.out);unfold cellsT at hW1;clear hZ hb1 hB1 h hl hb hF HR;generalize ls.length=m at *
 obtain rfl:Z=(Tr.nil,1):=HL.out.trans (if_neg (by decide));go_enter Tryz.func25,Tryz.ntmps25;go_upto_region 1 with fail
 rw[←hW1];clear hW1
 go_wp2_with fail
 refine HRc.out.mono ?_
 rintro e w2 ⟨rfl,hB2⟩;have HN2:=LH (HN1.out.on hB2);have HB2:=LH (HB1.out.trans (hB2.mono HB1.out.size));clear hB2;obtain ⟨x0,x1,x2,x3,x4⟩:=HN2.out.cells;obtain ⟨f0,f1,f2,f3,f4⟩:=HN2.out.frozenD;have HX:=LH (HN2.out.putT 0 0 (.slice none 0 0) (.slice none 0 0) (.slice none 0 0));have HBX:=LH (below_putT (r:=w.heap.size) HB2.out (Nat.le_refl _) 0 0 (.slice none 0 0) (.slice none 0 0) (.slice none 0 0))
 go_wp2_with fail
 unfold putT at HX HBX;clear x0 x1 x2 x3 x4;obtain ⟨x0,x1,x2,x3,x4⟩:=HX.out.cells;refine bodyPost_ret (v:= .tuple #[.agg (cellsT 0 0 (.slice none 0 0) (.slice none 0 0) (.slice none 0 0)),.int .i64 1]) ?_ rfl ⟨0,0,none,0,0,none,0,0,none,0,0,rfl,trP_nil _ _,HBX.out⟩
 simp[results,Tryz.f25,go_sem,cellsT,x0,x1,x2,x3,x4]
theorem decode_anyB (v:Value) (ls:List (List Int)) (w:World) (L:Laid w) (h:ArV w w.heap.size v ls) (hl:ls.length≤10000000000000) (hu:AllU ls) :
  Calls Tryz.prog 58 #[v] w (TrER (decodeT ls) w):=by
 by_cases hb:ls.length≤1000000000
 ·exact decode_any v ls w L h hb hu
 ·exact decode_big v ls w L h hl hb
theorem rdecode_anyB (v:Value) (ls:List (List Int)) (w:World) (h:ArV w w.heap.size v ls) (hl:ls.length≤10000000000000) (hu:AllU ls) :
  Calls Tryz.prog 25 #[v] w (TrED (decodeT ls) w):=by
 by_cases hb:ls.length≤1000000000
 ·exact rdecode_any v ls w h (by omega) hu
 ·exact rdecode_big v ls w h hl hb
def SmE (x:Int):Prop:=0≤x∧x≤65535
theorem sm0:SmE 0:=⟨by decide,by decide⟩
theorem sm1:SmE 1:=⟨by decide,by decide⟩
theorem sm20:SmE 20:=⟨by decide,by decide⟩
theorem sm21:SmE 21:=⟨by decide,by decide⟩
theorem sm22:SmE 22:=⟨by decide,by decide⟩
theorem sm23:SmE 23:=⟨by decide,by decide⟩
theorem decE_sm (n:Int):SmE (decE n):=by unfold decE SmE;split <;> omega
theorem ptE_sm {s:Sr} (hs:s.Good) (g a:Int):SmE (ptE s g a):=by
 unfold ptE
 split
 ·exact hs.we g a
 ·exact decE_sm _
theorem ptE2_sm {s:Sr} (hs:s.Good) (g a:Int):SmE (ptE2 s g a):=by
 unfold ptE2
 split
 ·exact hs.we g a
 ·split
  ·exact hs.we g (a+1)
  ·split
   ·exact decE_sm _
   ·exact decE_sm _
theorem target_sm {s:Sr} (hs:s.Good) (g a:Int):SmE (targetO s g a).2:=by
 unfold targetO
 split
 ·exact ptE_sm hs g a
 ·split
  ·first | exact sm0 | exact sm1 | exact sm20 | exact sm21 | exact sm22 | exact sm23
  ·split
   ·unfold landedO
    split
    ·unfold landed2
     split
     ·exact ptE2_sm hs _ _
     ·split
      ·first | exact sm0 | exact sm1 | exact sm20 | exact sm21 | exact sm22 | exact sm23
      ·split
       ·first | exact sm0 | exact sm1 | exact sm20 | exact sm21 | exact sm22 | exact sm23
       ·first | exact sm0 | exact sm1 | exact sm20 | exact sm21 | exact sm22 | exact sm23
    ·unfold landed1
     split
     ·exact ptE_sm hs _ _
     ·split
      ·first | exact sm0 | exact sm1 | exact sm20 | exact sm21 | exact sm22 | exact sm23
      ·first | exact sm0 | exact sm1 | exact sm20 | exact sm21 | exact sm22 | exact sm23
   ·first | exact sm0 | exact sm1 | exact sm20 | exact sm21 | exact sm22 | exact sm23
theorem follow_sm {s:Sr} (hs:s.Good) (g a:Int):SmE (followO s g a).2:=by
 unfold followO checkO
 split
 ·exact target_sm hs g a
 ·split
  ·rcases wordE_two (ptrO (targetO s g a).1) with e | e <;> rw[e] <;> first | exact sm0 | exact sm1 | exact sm20 | exact sm21 | exact sm22 | exact sm23
  ·split
   ·first | exact sm0 | exact sm1 | exact sm20 | exact sm21 | exact sm22 | exact sm23
   ·first | exact sm0 | exact sm1 | exact sm20 | exact sm21 | exact sm22 | exact sm23
theorem decN_sm {s:Sr} (hs:s.Good):(d:Nat)→(g a p:Int)→SmE (decN s d g a p).err
 | 0,g,a,p=>by
  unfold decN
  split
  ·exact follow_sm hs g a
  ·split
   ·first | exact sm0 | exact sm1 | exact sm20 | exact sm21 | exact sm22 | exact sm23
   ·split <;> first | exact sm0 | exact sm1 | exact sm20 | exact sm21 | exact sm22 | exact sm23
 | d+1,g,a,p=>by
  have hk:∀(n:Nat) (g a p:Int),SmE (decKids (decN s d) n g a p).1:=by
   intro n
   induction n with
   | zero=>intro g a p;first | exact sm0 | exact sm1 | exact sm20 | exact sm21 | exact sm22 | exact sm23
   | succ n ih =>
    intro g a p;unfold decKids
    split
    ·exact decN_sm hs d g a p
    ·exact ih _ _ _
  unfold decN
  split
  ·exact follow_sm hs g a
  ·split
   ·first | exact sm0 | exact sm1 | exact sm20 | exact sm21 | exact sm22 | exact sm23
   ·split
    ·first | exact sm0 | exact sm1 | exact sm20 | exact sm21 | exact sm22 | exact sm23
    ·split
     ·exact hk _ _ _ _
     ·first | exact sm0 | exact sm1 | exact sm20 | exact sm21 | exact sm22 | exact sm23
theorem decode_sm {ls:List (List Int)} (hu:AllU ls) (h64:All64 (sizesL ls)):SmE (decodeT ls).2:=by
 unfold decodeT
 by_cases hf:fitsL (sizesL ls)=true
 ·rw[if_pos hf];have hs:ls.length≤1000000000:=by
   have h1:=(of_decide_eq_true hf).2.1;rw[sizesL_length] at h1
   omega
  split
  ·exact decN_sm (srA_good hs hu h64) 32 0 0 0
  ·first | exact sm0 | exact sm1 | exact sm20 | exact sm21 | exact sm22 | exact sm23
 ·rw[if_neg hf]
  first | exact sm0 | exact sm1 | exact sm20 | exact sm21 | exact sm22 | exact sm23
end Go.Proofs.YtmmlfnblodfjbaaGreatDoor
