/- Layer 11: the law ValidWhole, given what the four calls pay. -/
import Derived.Test.YtmmlfnblodfjbaaGreatDoorQVaK
import Derived.Test.YtmmlfnblodfjbaaGreatDoorQTbBent
import Derived.Test.YtmmlfnblodfjbaaGreatDoorQTnD
import Derived.Test.YtmmlfnblodfjbaaGreatDoorQAsP
import Derived.Test.YtmmlfnblodfjbaaGreatDoorQAsA
import Derived.Test.YtmmlfnblodfjbaaGreatDoorQRsC
import Derived.Test.YtmmlfnblodfjbaaGreatDoorQTdPlain
set_option maxRecDepth 100000
namespace Go.Proofs.YtmmlfnblodfjbaaGreatDoor
open Go.RowKit Go.Deep
theorem whole_told {ls:List (List Int)} (hg:(srA ls).Good) (hc:checkT ls=0) (most:Int):∀p∈pathsT (decodeT ls).1 most,
  ofV ls p.1 p.2 8192=askT (decodeT ls).1 p.1 p.2∧(askT (decodeT ls).1 p.1 p.2).2=0∧(touchV ls p.1 p.2).2=0∧All64 p.1∧In64 p.2:=by
 intro p hp;obtain ⟨h1,h2⟩:=check_zero hc;have hm:p∈fullP (decodeT ls).1:=by
  unfold pathsT at hp;exact List.mem_of_mem_take hp
 obtain ⟨a1,a2,a3⟩:=whole_path hg h1 h2 hm;obtain ⟨b1,b2,b3⟩:=fullP_in _ 32 h2 p hm;exact ⟨a1,a2,a3,fun k hk=>⟨by have:=b1 k hk;omega,by have:=b1 k hk;omega⟩,⟨by omega,by omega⟩⟩
theorem paths_pos (t:Tr) {most:Int} (h:1≤most):0<(pathsT t most).length:=by
 obtain ⟨k,z,w,b,ks⟩:=t;unfold pathsT fullP;rw[List.length_take,List.length_cons]
 omega
theorem wrapsW {i n a:Nat} (hi:i≤255) (ha:a=i % n):wrap64 (i:Int)=i∧(i:Int) % (n:Int)=(a:Int)∧(i:Int).tmod (n:Int)=(a:Int)∧IntKind.i64.wrap (i:Int)=i∧IntKind.i64.wrap ((i:Int).tmod (n:Int))=(a:Int):=by
 subst ha;have ea:(i:Int).tmod (n:Int)=((i % n:Nat):Int):=by rw[Int.tmod_eq_emod_of_nonneg (by omega)];simp
 have la:i % n≤i:=Nat.mod_le _ _;exact ⟨by unfold wrap64;omega,by simp,ea,IntWalk.i64_in _ (by omega),by rw[ea,IntWalk.i64_in _ (by omega)]⟩
set_option maxHeartbeats 4000000 in
theorem whole11_walk (H:ValidOK) (c d:List Int) (vc vd:Value) (k i:Nat) (w:World) (hc:Bytes w w.heap.size vc c) (hcb:AllB c) (hd:Bytes w w.heap.size vd d) (hdb:AllB d) (hk:k≤255) (hi:i≤255) (L:Laid w) :
  Calls Tryz.prog 6 #[vc,vd,.int .u8 k,.int .u8 i] w fun e w'=>e= .returned (.bool true)∧Below w.heap.size w w':=by
 have HK:=LH (fun X (hX:Below w.heap.size w X)=>known11_any H X (L.on hX))
 have HBe:=LH (bent_any c d vc vd k w hc hd hcb hdb hk);have HL:=LH L;have HH:=LH H;have HI:=LH hi;obtain ⟨Ac,cc,rfl⟩:=hc.form rfl;obtain ⟨Ad,cd,rfl⟩:=hd.form rfl;obtain ⟨lc,hlc⟩:∃lc,lc=c.length:=⟨_,rfl⟩;rw[←hlc] at HBe ⊢;generalize d.length=ld at *
 clear hc hcb hd hdb hk hi L H hlc;go_enter Tryz.func6,Tryz.ntmps6
 by_cases hl:(lc:Int)>200
 ·go_wp2_with fail
  refine (HK.out w (Below.refl _ _)).mono ?_
  rintro e w2 ⟨rfl,hB2⟩;have HB2:=LH hB2;clear hB2
  go_wp2_with fail
  go_ret;exact ⟨rfl,HB2.out⟩
 ·go_wp2_with fail
  refine HBe.out.mono ?_
  intro e1 w1 hR;obtain ⟨v1,ls,he1,ha1,hu1,-,hl1,hn1,hB1⟩:=hR;subst he1;obtain ⟨Aa,ca,rfl⟩:=ha1.form rfl;have hg:=srA_good (by omega) hu1 (sizes_all64 ha1);have HA1:=LH ha1;have HB1:=LH hB1;have HCk:=LH (HH.out.check _ ls w1 (HL.out.on hB1) ha1 (by omega) hu1);have HDe:=LH (fun X (hX:Below w1.heap.size w1 X)=>rdecode_any _ ls X (ha1.on hX) (by omega) hu1)
  have HTo:=LH (fun hz=>whole_told hg hz 300)
  have HFn:=LH (decode_fine hg);have HOf:=LH (fun X (hX:Below w1.heap.size w1 X) sv ks i (hs:NumS .i64 X X.heap.size sv ks) h64 (hi:In64 i)=>rof_any _ ls sv ks i 8192 X (ha1.on hX) (by omega) hu1 hs h64 hi ⟨by decide,by decide⟩)
  have HTc:=LH (fun X (hX:Below w1.heap.size w1 X) sv ks i (hs:NumS .i64 X X.heap.size sv ks) h64 (hi:In64 i)=>HH.out.touched _ sv ls ks i X (HL.out.on (bseqS hB1 hX)) (ha1.on hX) (by omega) hu1 hs h64 hi)
  generalize ls.length=na at *
  clear ha1 hu1 hl1 hn1 hB1 hg
  go_wp2_with fail
  refine HCk.out.mono ?_
  rintro e w2 ⟨rfl,hB2⟩;have HC2:=LH hB2;have HB2:=LH (bseqS HB1.out hB2);clear hB2 HCk
  by_cases hz:checkT ls=0
  ·rw[hz];have HT2:=LH (HTo.out hz);have HD0:=LH (check_zero hz).1;have HD2:=LH (HDe.out w2 HC2.out);obtain ⟨t,ht⟩:∃t,t=(decodeT ls).1:=⟨_,rfl⟩;have hdt:decodeT ls=(t,0):=Prod.ext ht.symm HD0.out;rw[hdt] at HD2;rw[←ht] at HT2 HFn;clear hz HTo HDe HD0 ht hdt
   go_wp2_with fail
   refine HD2.out.mono ?_
   unfold TrED;rintro e w3 ⟨k2,z2,A1,n1,c1,A2,n2,c2,A3,n3,c3,rfl,hP3,hB3⟩;unfold cellsT;dsimp only;obtain ⟨w4,hw4⟩:∃w4,w4=w3.alloc (.cells #[.int .i64 k2,.int .i64 z2,.slice A1 n1 c1,.slice A2 n2 c2,.slice A3 n3 c3] 34):=⟨_,rfl⟩;have hB4:Below w3.heap.size w3 w4:=by rw[hw4];exact (Below.refl _ _).alloc (Nat.le_refl _) _
   have HT4:Hid (TBox w4 w3.heap.size k2 z2 (.slice A1 n1 c1) (.slice A2 n2 c2) (.slice A3 n3 c3)):=LH (by rw[hw4];exact TBox.new _ _ _ _ _ _);have HC4:=LH (bseqS HC2.out (bseqS hB3 hB4));have HB4:=LH (bseqS HB1.out HC4.out);have HV4:=LH ((TrP.trV (fun b hb=>hb.2) _ _ hP3).on hB4)
   have hPt:=rpaths10_any t _ 300 w4 HV4.out HFn.out.1 (by have:=HFn.out.2;omega);have hAs:=fun X (hX:Below w4.heap.size w4 X) sv ks i (hs:NumS .i64 X X.heap.size sv ks) h64 (hi:In64 i)=>rask10_any t _ X sv ks i (HV4.out.on hX) HFn.out.1 hs h64 hi
   have hpos:=paths_pos t (most:=300) (by decide);have hmx:=pathsT_most t 300;generalize pathsT t 300=l at *
   unfold PthR cellsT at hPt;unfold cellsT at hAs;have HPt:=LH hPt;have HAs:=LH hAs;obtain ⟨n,hn⟩:∃n,n=l.length:=⟨_,rfl⟩;obtain ⟨a,ha⟩:∃a,a=i % n:=⟨_,rfl⟩;have HWr:=LH (wrapsW HI.out ha);have HAl:Hid (a<l.length∧0<n∧n≤10000):=LH ⟨by rw[ha,hn];exact Nat.mod_lt _ hpos,by omega,by omega⟩
   have HN:=LH hn;clear hP3 hB3 hB4 hPt hAs hpos hmx hn ha;go_upto_region 7 with fail
   rw[←hw4];clear hw4;obtain ⟨d0,d1,d2,d3,d4⟩:=HT4.out.cells
   go_wp2_with fail
   refine HPt.out.mono ?_
   rintro e w5 ⟨u,rfl,hr5,hB5⟩;obtain ⟨g,cg,A5,c5,rfl,p0,p1,hnp⟩:=hr5.read (fun b hb=>hb.2) a HAl.out.1
   have HC5:=LH (bseqS HC4.out hB5);have HD5:=LH hB5;obtain ⟨q1,q2,q3,q4,q5⟩:=HT2.out _ (List.getElem_mem HAl.out.1);generalize l[a]'HAl.out.1=x at *
   obtain ⟨ps,pa⟩:=x;dsimp only at p0 p1 hnp q1 q2 q3 q4 q5;rw[←HN.out];obtain ⟨w6,hw6⟩:∃w6,w6=w5.alloc (.cells #[.slice A5 ps.length c5,.int .i64 pa] 47):=⟨_,rfl⟩;have hB6:Below w5.heap.size w5 w6:=by rw[hw6];exact (Below.refl _ _).alloc (Nat.le_refl _) _
   have HX6:Hid (PaBox w6 w5.heap.size (.slice A5 ps.length c5) pa):=LH (by rw[hw6];unfold PaBox;exact blk_alloc_new _ _);have HNp:=LH (hnp.on hB6);have HC6:=LH (bseqS HC5.out hB6);have HD6:=LH (bseqS HD5.out hB6);have hOf:=HOf.out w6 HC6.out _ ps pa HNp.out q4 q5;have hAs:=fun X (hX:Below w6.heap.size w6 X)=>HAs.out X (bseqS HD6.out hX) _ ps pa (HNp.out.on hX) q4 q5
   have hTc:=fun X (hX:Below w6.heap.size w6 X)=>HTc.out X (bseqS HC6.out hX) _ ps pa (HNp.out.on hX) q4 q5
   rw[q1] at hOf;rw[q3] at hTc;generalize askT t ps pa=V at *
   obtain ⟨⟨va,vb,vc,vd,ve⟩,er⟩:=V;dsimp only at q2;subst q2;unfold VaJ cellsV at hOf;unfold VaI cellsV at hAs;dsimp only at hOf hAs;have HO6:=LH hOf;have HA6:=LH hAs;have HT6:=LH hTc;obtain ⟨wr1,wr2,wr3,wr4,wr5⟩:=HWr.out;have hn0:¬(n:Int)=0:=by have:=HAl.out;omega
   have hn1:((n:Int) == 0)=false:=by have:=HAl.out;simp;omega
   have ha1:(a:Int)<(n:Int):=by have:=HAl.out;rw[←HN.out] at this;omega
   clear hr5 hnp hB5 hB6 hOf hAs hTc q1 q3 q4 q5 d0 d1 d2 d3 d4 HOf HAs HTc HPt;go_upto_region 9 with fail
   rw[←hw6];clear hw6 p0 p1 wr1 wr2 wr3 wr4 wr5 hn0 hn1 ha1;obtain ⟨x0,x1⟩:=HX6.out.cells
   go_wp2_with fail
   refine HO6.out.mono ?_
   intro e w7 hR;obtain ⟨he,hB7⟩:=hR;subst he;obtain ⟨w8,hw8⟩:∃w8,w8=w7.alloc (.cells #[.int .i64 va,.int .i64 vb,.int .i64 vc,.int .i64 vd,.int .u64 ve] 54):=⟨_,rfl⟩;have hB8:Below w7.heap.size w7 w8:=by rw[hw8];exact (Below.refl _ _).alloc (Nat.le_refl _) _
   have HV8:Hid (VBox w8 w7.heap.size ⟨va,vb,vc,vd,ve⟩):=LH (by rw[hw8];exact VBox.new w7 ⟨va,vb,vc,vd,ve⟩);have HC8:=LH (bseqS hB7 hB8);clear hB7 hB8 x0 x1;obtain ⟨d0,d1,d2,d3,d4⟩:=(HT4.out.on (bseqS HD6.out HC8.out)).cells;obtain ⟨x0,x1⟩:=(HX6.out.on HC8.out HX6.out.lt).cells;go_upto_region 10 with fail
   rw[←hw8];clear hw8
   go_wp2_with fail
   with_reducible refine (HA6.out w8 HC8.out).mono ?_
   intro e w9 hR;obtain ⟨he,hB9⟩:=hR;subst he;obtain ⟨wA,hwA⟩:∃wA,wA=w9.alloc (.cells #[.int .i64 va,.int .i64 vb,.int .i64 vc,.int .i64 vd,.int .u64 ve] 54):=⟨_,rfl⟩;have hBA:Below w9.heap.size w9 wA:=by rw[hwA];exact (Below.refl _ _).alloc (Nat.le_refl _) _
   have HVA:Hid (VBox wA w9.heap.size ⟨va,vb,vc,vd,ve⟩):=LH (by rw[hwA];exact VBox.new w9 ⟨va,vb,vc,vd,ve⟩);have HCA:=LH (bseqS HC8.out (bseqS hB9 hBA));have HV8A:=LH (HV8.out.on (bseqS hB9 hBA));clear hB9 hBA d0 d1 d2 d3 d4 x0 x1;obtain ⟨x0,x1⟩:=(HX6.out.on HCA.out HX6.out.lt).cells;go_upto_region 11 with fail
   rw[←hwA];clear hwA
   go_wp2_with fail
   refine (HT6.out wA HCA.out).mono ?_
   rintro e wB ⟨u,rfl,hsp,hBB⟩;obtain ⟨As,cs,rfl⟩:=hsp.form rfl;generalize (touchV ls ps pa).1.length=ns at *
   have HBB:=LH (bseqS HB1.out (bseqS HC6.out (bseqS HCA.out hBB)));have HVa:=LH (HV8A.out.on hBB);have HVb:=LH (HVA.out.on hBB);generalize w7.heap.size=ga at *
   generalize w9.heap.size=gb at *
   clear hsp hBB x0 x1
   go_wp2_with fail
   refine (HK.out wB HBB.out).mono ?_
   rintro e wC ⟨rfl,hBC⟩;obtain ⟨y0,y1,y2,y3,y4⟩:=(HVa.out.on hBC).cells;obtain ⟨u0,u1,u2,u3,u4⟩:=(HVb.out.on hBC).cells;dsimp only at y0 y1 y2 y3 y4 u0 u1 u2 u3 u4;have HBC:=LH (bseqS HBB.out hBC);have hqv:eqV ⟨va,vb,vc,vd,ve⟩ ⟨va,vb,vc,vd,ve⟩=true:=by unfold eqV;simp
   have hqe:∀X,(binOp .eql 54 (.agg #[.int .i64 va,.int .i64 vb,.int .i64 vc,.int .i64 vd,.int .u64 ve]) (.agg #[.int .i64 va,.int .i64 vb,.int .i64 vc,.int .i64 vd,.int .u64 ve])).run Tryz.prog X= .ok (.bool true) X:=fun X=>by
    have:=run_eql_V X ⟨va,vb,vc,vd,ve⟩ ⟨va,vb,vc,vd,ve⟩;rw[hqv] at this;exact this
   have hgd:=fun w op x y xs ys=>run_eqGuard_agg (P:=Tryz.prog) w op 54 x y xs ys (by kernel_rfl)
   clear hBC hqv
   go_wp2_with fail
   go_ret;exact ⟨by simp,HBC.out⟩
  ·have hz1:(checkT ls != 0)=true:=by simp[hz]
   go_wp2_with fail
   refine (HK.out w2 HB2.out).mono ?_
   rintro e w3 ⟨rfl,hB3⟩;have HB3:=LH (bseqS HB2.out hB3);clear hB3
   go_wp2_with fail
   go_ret;exact ⟨rfl,HB3.out⟩
end Go.Proofs.YtmmlfnblodfjbaaGreatDoor
