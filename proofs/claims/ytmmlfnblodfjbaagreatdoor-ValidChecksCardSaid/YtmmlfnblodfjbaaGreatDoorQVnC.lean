/- Layer 11: target, over a source that notes what is read. -/
import Derived.Test.YtmmlfnblodfjbaaGreatDoorQVnB
import Derived.Test.YtmmlfnblodfjbaaGreatDoorQRdA
import Derived.Test.YtmmlfnblodfjbaaGreatDoorQVaP
import Derived.Deep.RegionHeld3
import Derived.Test.YtmmlfnblodfjbaaGreatDoorQRdC
set_option maxRecDepth 100000
namespace Go.Proofs.YtmmlfnblodfjbaaGreatDoor
open Go.RowKit Go.Deep
theorem farR_len (f:Pt):(farR f).length≤2:=by
 unfold farR
 repeat' split
 all_goals simp
theorem followR_len (s:Sr) (g a:Int):(followR s g a).length≤3:=by
 have:=farR_len (ptS s g a);unfold followR;rw[List.length_cons]
 omega
theorem goR_lenN (s:Sr):(ks:List Int)→(o:Ob)→(goR s ks o).length≤3*ks.length
 | [],_=>by simp[goR]
 | k :: r,o=>by
  have h1:=goR_lenN s r (nextO s o k).1;have h2:(stepR s o k).length≤3:=by
   unfold stepR
   split
   ·simp
   ·exact followR_len _ _ _
  rw[goR,List.length_append,List.length_cons]
  omega
theorem landed_anyN {n0:Bs} {K:List (Int × Int)→World→Prop} {s:Value} {sr:Sr} (H:SrcN n0 K s sr) (l:List (Int × Int)) (hlb:l.length+2≤1000000) (f:Pt) (w:World) (hK:K l w) (hf:OkP f) (hk:f.kind=3) :
  Calls Tryz.prog 145 #[s,.agg (cellsP f)] w (ObN n0 K l (farR f) (landedO sr f) w):=by
 by_cases hd:f.dbl=true
 ·have:=landed_2N H l hlb f w hK hf hk hd;unfold landedO farR
  rwa [if_pos hd,if_pos hk,if_pos hd]
 ·have:=landed_1N H l hlb f w hK hf hk (by simpa using hd);unfold landedO farR
  rwa [if_neg hd,if_pos hk,if_neg hd]
set_option maxHeartbeats 2000000 in
theorem target_anyN {n0:Bs} {K:List (Int × Int)→World→Prop} {s:Value} {sr:Sr} (H:SrcN n0 K s sr) (l:List (Int × Int)) (hlb:l.length+3≤1000000) (g a:Int) (w:World) (hK:K l w) (hg:In64 g) (ha:In64 a) :
  Calls Tryz.prog 127 #[s,.int .i64 g,.int .i64 a] w (ObN n0 K l (followR sr g a) (targetO sr g a) w):=by
 obtain ⟨t,v,rfl⟩:=H.form;have HH:=LH H;have HK:=LH hK;have HP:=LH (fun X (hX:K l X)=>pointers_1N H l (by omega) g a X hX hg ha)
 have HOk:=LH (ptS_ok H.good g a);have HN:=LH (fun X=>near9_any (ptS sr g a) g a X (okp_off (ptS_ok H.good g a)) ha)
 have HLd:=LH (fun l (hl:l.length+2≤1000000) X (hX:K l X) (hk:(ptS sr g a).kind=3)=>landed_anyN H l hl (ptS sr g a) X hX (ptS_ok H.good g a) hk)
 have HL:Hid (targetO sr g a=if ptE sr g a≠0 then (Ob.zero,ptE sr g a) else if (ptS sr g a).kind=0 then (Ob.zero,0) else if (ptS sr g a).kind=3 then landedO sr (ptS sr g a) else (nearO (ptS sr g a) g a,0)):=LH rfl
 have hd:=(okq_bd (.inl (ptS_ok H.good g a))).2.2.2.2;obtain ⟨Z,hZ⟩:∃Z,Z=targetO sr g a:=⟨_,rfl⟩;rw[←hZ] at HL ⊢;have HR:Hid (followR sr g a=(g,a) :: farR (ptS sr g a)):=LH rfl;rw[HR.out];have HO0:=LH (OBox.new w Ob.zero);have HB0:Hid (J n0 K l w (w.alloc (.cells (cellsO Ob.zero) 129))):=LH ((HH.out.at_ HK.out).alloc _);obtain ⟨W1,hW1⟩:∃W1,W1=w.alloc (.cells (cellsO Ob.zero) 129):=⟨_,rfl⟩;rw[←hW1] at HO0 HB0;unfold cellsO Ob.zero at hW1;dsimp only at hW1;generalize ptE sr g a=E at *
 generalize ptS sr g a=q at *
 generalize landedO sr q=T at *
 have HFr:Hid (q.kind≠3→farR q=[]):=LH (fun h=>by unfold farR;rw[if_neg h])
 generalize farR q=R at *
 generalize nearO q g a=O at *
 obtain ⟨q0,q1,q2,q3,q4,q5,q6,q7⟩:=q;dsimp only at hd;clear hZ hg ha hK H;have HLB:=LH hlb;clear hlb;go_enter Tryz.func127,Tryz.ntmps127;go_upto_region 1 with fail
 rw[←hW1];clear hW1
 go_wp2_with fail
 refine (HP.out W1 (HB0.out.kk)).mono ?_
 rintro e w2 ⟨u,l2,rfl,hq,hJ2⟩;have HO2:=LH (HO0.out.onJ hJ2);have HB2:=LH (HB0.out.step hJ2);clear hJ2
 by_cases hE:E=0
 ·subst hE;obtain ⟨⟨bq,rfl,hpq⟩,hl2⟩:=hq rfl;have HL2:=LH hl2;clear hl2;have HQ3:=LH hpq;clear hpq hq;obtain ⟨y0,y1,y2,y3,y4,y5,y6,y7⟩:=HQ3.out.cells;dsimp only at y0 y1 y2 y3 y4 y5 y6 y7;have hB3:Below w2.heap.size w2 (w2.alloc (.cells (cellsP ⟨q0,q1,q2,q3,q4,q5,q6,q7⟩) 70)):=(Below.refl _ _).alloc (Nat.le_refl _) _;have HO3:=LH (HO2.out.on hB3);have HP3:=LH (PBox.new w2 ⟨q0,q1,q2,q3,q4,q5,q6,q7⟩);have HB3:=LH (HB2.out.pure hB3);obtain ⟨W3,hW3⟩:∃W3,W3=w2.alloc (.cells (cellsP ⟨q0,q1,q2,q3,q4,q5,q6,q7⟩) 70):=⟨_,rfl⟩;rw[←hW3] at HO3 HP3 HB3;unfold cellsP at hW3;dsimp only at hW3;clear hB3;go_upto_region 5 with fail
  rw[←hW3];clear hW3 y0 y1 y2 y3 y4 y5 y6 y7;obtain ⟨y0,y1,y2,y3,y4,y5,y6,y7⟩:=HP3.out.cells;obtain ⟨x0,x1,x2,x3,x4,x5,x6⟩:=HO3.out.cells;obtain ⟨f0,f1,f2,f3,f4,f5,f6⟩:=HO3.out.frozens;unfold Ob.zero at x0 x1 x2 x3 x4 x5 x6;dsimp only at x0 x1 x2 x3 x4 x5 x6 y0 y1 y2 y3 y4 y5 y6 y7
  by_cases h0:q0=0
  ·subst h0;obtain rfl:Z=(Ob.zero,0):=HL.out.trans (by rw[if_neg (by simp),if_pos rfl]);have HX:=LH (HO3.out.set7 0 0 0 0 0 0 0);have HBX:=LH (jset7 (g:=w.heap.size) HB3.out (by omega) HO3.out (.int .i64 0) (.int .i64 0) (.int .i64 0) (.int .i64 0) (.int .i64 0) (.int .i64 0) (.int .i64 0))
   go_wp2_with fail
   clear x0 x1 x2 x3 x4 x5 x6;obtain ⟨x0,x1,x2,x3,x4,x5,x6⟩:=HX.out.cells;dsimp only at x0 x1 x2 x3 x4 x5 x6;refine bodyPost_ret (v:= .tuple #[.agg (cellsO Ob.zero),.int .u16 0]) ?_ rfl ⟨_,rfl,fun _=>by rw[HL2.out,HFr.out (by decide)],HBX.out⟩
   simp[results,Tryz.f127,go_sem,cellsO,Ob.zero,x0,x1,x2,x3,x4,x5,x6]
  ·by_cases h3:q0=3
   ·subst h3;obtain rfl:Z=T:=HL.out.trans (by rw[if_neg (by simp),if_neg (by decide),if_pos rfl]);obtain ⟨O',D⟩:=Z;obtain ⟨o1,o2,o3,o4,o5,o6,o7⟩:=O';have HL3:=HLd.out _ (by rw[HL2.out,List.length_append,List.length_singleton];have:=HLB.out;omega) _ HB3.out.kk rfl;unfold cellsP at HL3;dsimp only at HL3
    go_wp2_with fail
    refine HL3.mono ?_
    rintro e w5 ⟨l5,rfl,hl5,hJ5⟩;unfold cellsO;dsimp only;have HO5:=LH (HO3.out.onJ hJ5);have HB5:=LH (HB3.out.step hJ5);have HL5:=LH hl5;clear hl5 hJ5 x0 x1 x2 x3 x4 x5 x6 y0 y1 y2 y3 y4 y5 y6 y7 f0 f1 f2 f3 f4 f5 f6;obtain ⟨y0,y1,y2,y3,y4,y5,y6⟩:=HO5.out.cells;obtain ⟨f0,f1,f2,f3,f4,f5,f6⟩:=HO5.out.frozens;unfold Ob.zero at y0 y1 y2 y3 y4 y5 y6;dsimp only at y0 y1 y2 y3 y4 y5 y6;have HX:=LH (HO5.out.set7 o1 o2 o3 o4 o5 o6 o7);have HBX:=LH (jset7 (g:=w.heap.size) HB5.out (by omega) HO5.out (.int .i64 o1) (.int .i64 o2) (.int .i64 o3) (.int .i64 o4) (.int .i64 o5) (.int .i64 o6) (.int .i64 o7))
    go_wp2_with fail
    clear y0 y1 y2 y3 y4 y5 y6;obtain ⟨y0,y1,y2,y3,y4,y5,y6⟩:=HX.out.cells;dsimp only at y0 y1 y2 y3 y4 y5 y6;refine bodyPost_ret (v:= .tuple #[.agg (cellsO ⟨o1,o2,o3,o4,o5,o6,o7⟩),.int .u16 D]) ?_ rfl ⟨_,rfl,fun h=>by rw[HL5.out h,HL2.out,List.append_assoc];rfl,HBX.out⟩
    simp[results,Tryz.f127,go_sem,cellsO,y0,y1,y2,y3,y4,y5,y6]
   ·obtain rfl:Z=(O,0):=HL.out.trans (by rw[if_neg (by simp),if_neg h0,if_neg h3]);obtain ⟨o1,o2,o3,o4,o5,o6,o7⟩:=O;have HN3:=LH (HN.out W3);unfold cellsP cellsO at HN3;dsimp only at HN3;have hk:q0=1∨q0=2:=by omega
    clear hd h0 h3
    rcases hk with rfl | rfl
    all_goals
     go_wp2_with fail
     refine HN3.out.mono ?_
     rintro e w5 ⟨rfl,hB5⟩;have HO5:=LH (HO3.out.on hB5);have HB5:=LH (HB3.out.pure hB5);clear hB5 x0 x1 x2 x3 x4 x5 x6 y0 y1 y2 y3 y4 y5 y6 y7 f0 f1 f2 f3 f4 f5 f6;obtain ⟨y0,y1,y2,y3,y4,y5,y6⟩:=HO5.out.cells;obtain ⟨f0,f1,f2,f3,f4,f5,f6⟩:=HO5.out.frozens;unfold Ob.zero at y0 y1 y2 y3 y4 y5 y6;dsimp only at y0 y1 y2 y3 y4 y5 y6;have HX:=LH (HO5.out.set7 o1 o2 o3 o4 o5 o6 o7);have HBX:=LH (jset7 (g:=w.heap.size) HB5.out (by omega) HO5.out (.int .i64 o1) (.int .i64 o2) (.int .i64 o3) (.int .i64 o4) (.int .i64 o5) (.int .i64 o6) (.int .i64 o7))
     go_wp2_with fail
     clear y0 y1 y2 y3 y4 y5 y6;obtain ⟨y0,y1,y2,y3,y4,y5,y6⟩:=HX.out.cells;dsimp only at y0 y1 y2 y3 y4 y5 y6;refine bodyPost_ret (v:= .tuple #[.agg (cellsO ⟨o1,o2,o3,o4,o5,o6,o7⟩),.int .u16 0]) ?_ rfl ⟨_,rfl,fun _=>by rw[HL2.out,HFr.out (by decide)],HBX.out⟩
     simp[results,Tryz.f127,go_sem,cellsO,y0,y1,y2,y3,y4,y5,y6]
 ·have hE1:(E != 0)=true:=by simp[hE]
  obtain rfl:Z=(Ob.zero,E):=HL.out.trans (if_pos hE);obtain ⟨x0,x1,x2,x3,x4,x5,x6⟩:=HO2.out.cells;obtain ⟨f0,f1,f2,f3,f4,f5,f6⟩:=HO2.out.frozens;unfold Ob.zero at x0 x1 x2 x3 x4 x5 x6;dsimp only at x0 x1 x2 x3 x4 x5 x6;have HX:=LH (HO2.out.set7 0 0 0 0 0 0 0);have HBX:=LH (jset7 (g:=w.heap.size) HB2.out (by omega) HO2.out (.int .i64 0) (.int .i64 0) (.int .i64 0) (.int .i64 0) (.int .i64 0) (.int .i64 0) (.int .i64 0))
  go_wp2_with fail
  clear x0 x1 x2 x3 x4 x5 x6;obtain ⟨x0,x1,x2,x3,x4,x5,x6⟩:=HX.out.cells;dsimp only at x0 x1 x2 x3 x4 x5 x6;refine bodyPost_ret (v:= .tuple #[.agg (cellsO Ob.zero),.int .u16 E]) ?_ rfl ⟨_,rfl,fun h=>absurd h hE,HBX.out⟩
  simp[results,Tryz.f127,go_sem,cellsO,Ob.zero,x0,x1,x2,x3,x4,x5,x6]
set_option maxHeartbeats 8000000 in
theorem follow_anyN {n0:Bs} {K:List (Int × Int)→World→Prop} {s:Value} {sr:Sr} (H:SrcN n0 K s sr) (l:List (Int × Int)) (hlb:l.length+3≤1000000) (g a:Int) (w:World) (hK:K l w) (hg:In64 g) (ha:In64 a) :
  Calls Tryz.prog 99 #[s,.int .i64 g,.int .i64 a] w (ObN n0 K l (followR sr g a) (followO sr g a) w):=by
 have hin:=target_in H.good g a hg;have hq:=sr_in H.good g a;obtain ⟨t,v,rfl⟩:=H.form;have HH:=LH H;have HK:=LH hK;have HT:=LH (fun X (hX:K l X)=>target_anyN H l hlb g a X hX hg ha)
 have HS:=LH (fun l X (hX:K l X)=>H.sizes l X hX)
 have HGd:=LH H.good;have HL:Hid (followO sr g a=checkO sr (targetO sr g a)):=LH rfl;rw[HL.out];generalize followR sr g a=R at *
 have HO0:=LH (OBox.new w Ob.zero);have HB0:Hid (J n0 K l w (w.alloc (.cells (cellsO Ob.zero) 129))):=LH ((HH.out.at_ HK.out).alloc _);obtain ⟨W1,hW1⟩:∃W1,W1=w.alloc (.cells (cellsO Ob.zero) 129):=⟨_,rfl⟩;rw[←hW1] at HO0 HB0;unfold cellsO Ob.zero at hW1;dsimp only at hW1;generalize targetO sr g a=T at *
 obtain ⟨O,D⟩:=T;dsimp only at hin hq;have HC:Hid (checkO sr (O,D)=if D≠0∨O.kind=0 then (Ob.zero,D) else if wordE (ptrO O)≠0 then (Ob.zero,wordE (ptrO O)) else if withinB sr.sz O.seg O.at_ (wordsO O)=true then (O,0) else (Ob.zero,20)):=LH rfl
 obtain ⟨Z,hZ⟩:∃Z,Z=checkO sr (O,D):=⟨_,rfl⟩;rw[←hZ] at HC ⊢;have HPt:=LH (fun X=>ptrto_any O X)
 have HPw:=LH (fun X (h:OkQ (ptrO O))=>pwords_q (ptrO O) X h)
 have HBd:=LH (fun h:OkQ (ptrO O)=>wordN_bd h)
 have hWo:wordsO O=wordN (ptrO O):=rfl;rw[hWo] at HC;generalize ptrO O=P at *
 generalize wordE P=G at *
 generalize wordN P=N at *
 obtain ⟨o1,o2,o3,o4,o5,o6,o7⟩:=O;obtain ⟨O',hO'⟩:∃O':Ob,O'=⟨o1,o2,o3,o4,o5,o6,o7⟩:=⟨_,rfl⟩;rw[←hO'] at HC;have HO':=LH hO';dsimp only at hin hq;have HCk:Hid (O'.kind=o1∧O'.seg=o2∧O'.at_=o3):=LH (by rw[hO'];exact ⟨rfl,rfl,rfl⟩);rw[HCk.out.1,HCk.out.2.1,HCk.out.2.2] at HC;clear hlb hZ HL hg ha hK H hWo HCk hO';have HIn:=LH hin;clear hin;go_enter Tryz.func99,Tryz.ntmps99;go_upto_region 1 with fail
 rw[←hW1];clear hW1
 go_wp2_with fail
 refine (HT.out W1 (HB0.out.kk)).mono ?_
 rintro e w2 ⟨l2,rfl,hl2,hJ2⟩;have HL2:=LH hl2;dsimp only at HL2;unfold cellsO;dsimp only;have hB3:Below w2.heap.size w2 (w2.alloc (.cells (cellsO ⟨o1,o2,o3,o4,o5,o6,o7⟩) 129)):=(Below.refl _ _).alloc (Nat.le_refl _) _;have HO3:=LH ((HO0.out.onJ hJ2).on hB3);have HP3:=LH (OBox.new w2 ⟨o1,o2,o3,o4,o5,o6,o7⟩);have HB3:=LH ((HB0.out.step hJ2).pure hB3);obtain ⟨W3,hW3⟩:∃W3,W3=w2.alloc (.cells (cellsO ⟨o1,o2,o3,o4,o5,o6,o7⟩) 129):=⟨_,rfl⟩;rw[←hW3] at HO3 HP3 HB3;unfold cellsO at hW3;dsimp only at hW3;clear hB3 hJ2 hl2;go_upto_region 4 with fail
 rw[←hW3];clear hW3;obtain ⟨y0,y1,y2,y3,y4,y5,y6⟩:=HP3.out.cells;dsimp only at y0 y1 y2 y3 y4 y5 y6
 by_cases hD:D=0
 ·subst hD;have HL3:=LH (HL2.out rfl);clear HL2
  by_cases h0:o1=0
  ·subst h0;obtain rfl:Z=(Ob.zero,0):=HC.out.trans (if_pos (.inr rfl));obtain ⟨x0,x1,x2,x3,x4,x5,x6⟩:=HO3.out.cells;obtain ⟨f0,f1,f2,f3,f4,f5,f6⟩:=HO3.out.frozens;unfold Ob.zero at x0 x1 x2 x3 x4 x5 x6;dsimp only at x0 x1 x2 x3 x4 x5 x6;have HX:=LH (HO3.out.set7 0 0 0 0 0 0 0);have HBX:=LH (jset7 (g:=w.heap.size) HB3.out (by omega) HO3.out (.int .i64 0) (.int .i64 0) (.int .i64 0) (.int .i64 0) (.int .i64 0) (.int .i64 0) (.int .i64 0))
   go_wp2_with fail
   clear x0 x1 x2 x3 x4 x5 x6;obtain ⟨x0,x1,x2,x3,x4,x5,x6⟩:=HX.out.cells;dsimp only at x0 x1 x2 x3 x4 x5 x6;refine bodyPost_ret (v:= .tuple #[.agg (cellsO Ob.zero),.int .u16 0]) ?_ rfl ⟨_,rfl,fun _=>HL3.out,HBX.out⟩
   simp[results,Tryz.f99,go_sem,cellsO,Ob.zero,x0,x1,x2,x3,x4,x5,x6]
  ·have h01:(o1 == 0)=false:=by simp[h0]
   have hQ:=hq h0 rfl;have HPw3:=LH (fun X=>HPw.out X hQ)
   have hbd:=HBd.out hQ;have HC2:Hid (Z=if G≠0 then (Ob.zero,G) else if withinB sr.sz o2 o3 N=true then (O',0) else (Ob.zero,20)):=LH (HC.out.trans (if_neg (by simp[h0])))
   have HPt3:=LH (HPt.out W3);unfold cellsO at HPt3;dsimp only at HPt3;clear hq HC HPw HBd
   go_wp2_with fail
   refine HPt3.out.mono ?_
   rintro e w4 ⟨rfl,hB4⟩;have HO4:=LH (HO3.out.on hB4);have HP4:=LH (HP3.out.on hB4);have HB4:=LH (HB3.out.pure hB4);clear hB4
   go_wp2_with fail
   refine (HPw3.out w4).mono ?_
   rintro e w5 ⟨rfl,hB5⟩;have HO5:=LH (HO4.out.on hB5);have HP5:=LH (HP4.out.on hB5);have HB5:=LH (HB4.out.pure hB5);clear hB5 y0 y1 y2 y3 y4 y5 y6
   by_cases hG:G=0
   ·subst hG;have HC3:Hid (Z=if withinB sr.sz o2 o3 N=true then (O',0) else (Ob.zero,20)):=LH (HC2.out.trans (if_neg (by simp)))
    obtain ⟨y0,y1,y2,y3,y4,y5,y6⟩:=HP5.out.cells;dsimp only at y0 y1 y2 y3 y4 y5 y6;have HWn:=LH (fun u X (h:NumS .i64 X X.heap.size u sr.sz)=>awithin_any u sr.sz o2 o3 N X.heap.size X h HGd.out.sz HIn.out.2 ⟨by omega,by omega⟩)
    generalize withinB sr.sz o2 o3 N=B at *
    go_upto_region 9 with fail
    have hT0:Below w5.heap.size w5 w5.drew:=(Below.refl _ _).drew;have HCel:Hid (∀X,Below w5.heap.size w5 X→X.cell? ⟨w2.heap.size,1,none⟩=some (.int .i64 o2)∧X.cell? ⟨w2.heap.size,2,none⟩=some (.int .i64 o3)):=LH (fun X hX=>⟨(HP5.out.on hX).cells.2.1,(HP5.out.on hX).cells.2.2.1⟩)
    have HS5:=LH (fun X (hX:Below w5.heap.size w5 X)=>HS.out _ X (HB5.out.pure hX).kk)
    obtain ⟨C,hC⟩:∃C,C= !B:=⟨_,rfl⟩
    go_cut [48] (fun x wx=>x= .bool C∧Below w5.heap.size w5 wx)
    case first =>
     go_region_held3 (fun w'=>w'.cell? ⟨w2.heap.size,1,none⟩=some (.int .i64 o2)∧w'.cell? ⟨w2.heap.size,2,none⟩=some (.int .i64 o3)) (first | exact HCel.out _ hT2 | exact HCel.out _ hT0) (first
      | (go_at_call 131;with_reducible refine (HS5.out _ hT0).mono ?_;rintro e w6 ⟨u,rfl,hN6,hB6⟩;have hT2:=bseq' hT0 hB6)
      | (go_at_call 130;with_reducible refine (HWn.out _ _ hN6).mono ?_;rintro e w7 ⟨rfl,rfl⟩))
     all_goals go_wp2_with fail
     all_goals go_meet
     all_goals exact ⟨congrArg Value.bool hC.symm,hT2⟩
    case rest =>
     obtain ⟨rfl,hB6⟩:=hcut;have HO6:=LH (HO5.out.on hB6);have HP6:=LH (HP5.out.on hB6);have HB6:=LH (HB5.out.pure hB6);clear hB6 hT0 y0 y1 y2 y3 y4 y5 y6;cases C with
     | false =>
      obtain rfl:B=true:=by simpa using hC
      clear hC;obtain rfl:Z=(O',0):=HC3.out.trans (if_pos rfl);obtain rfl:=HO'.out;obtain ⟨y0,y1,y2,y3,y4,y5,y6⟩:=HP6.out.cells;dsimp only at y0 y1 y2 y3 y4 y5 y6;obtain ⟨x0,x1,x2,x3,x4,x5,x6⟩:=HO6.out.cells;obtain ⟨f0,f1,f2,f3,f4,f5,f6⟩:=HO6.out.frozens;unfold Ob.zero at x0 x1 x2 x3 x4 x5 x6;dsimp only at x0 x1 x2 x3 x4 x5 x6;have HX:=LH (HO6.out.set7 o1 o2 o3 o4 o5 o6 o7);have HBX:=LH (jset7 (g:=w.heap.size) HB6.out (by omega) HO6.out (.int .i64 o1) (.int .i64 o2) (.int .i64 o3) (.int .i64 o4) (.int .i64 o5) (.int .i64 o6) (.int .i64 o7))
      go_wp2_with fail
      clear x0 x1 x2 x3 x4 x5 x6;obtain ⟨x0,x1,x2,x3,x4,x5,x6⟩:=HX.out.cells;dsimp only at x0 x1 x2 x3 x4 x5 x6;refine bodyPost_ret (v:= .tuple #[.agg (cellsO ⟨o1,o2,o3,o4,o5,o6,o7⟩),.int .u16 0]) ?_ rfl ⟨_,rfl,fun _=>HL3.out,HBX.out⟩
      simp[results,Tryz.f99,go_sem,cellsO,x0,x1,x2,x3,x4,x5,x6]
     | true =>
      obtain rfl:B=false:=by simpa using hC
      clear hC;obtain rfl:Z=(Ob.zero,20):=HC3.out.trans (if_neg (by simp));obtain ⟨x0,x1,x2,x3,x4,x5,x6⟩:=HO6.out.cells;obtain ⟨f0,f1,f2,f3,f4,f5,f6⟩:=HO6.out.frozens;unfold Ob.zero at x0 x1 x2 x3 x4 x5 x6;dsimp only at x0 x1 x2 x3 x4 x5 x6;have HX:=LH (HO6.out.set7 0 0 0 0 0 0 0);have HBX:=LH (jset7 (g:=w.heap.size) HB6.out (by omega) HO6.out (.int .i64 0) (.int .i64 0) (.int .i64 0) (.int .i64 0) (.int .i64 0) (.int .i64 0) (.int .i64 0))
      go_wp2_with fail
      clear x0 x1 x2 x3 x4 x5 x6;obtain ⟨x0,x1,x2,x3,x4,x5,x6⟩:=HX.out.cells;dsimp only at x0 x1 x2 x3 x4 x5 x6;refine bodyPost_ret (v:= .tuple #[.agg (cellsO Ob.zero),.int .u16 20]) ?_ rfl ⟨_,rfl,fun h=>absurd h (by decide),HBX.out⟩
      simp[results,Tryz.f99,go_sem,cellsO,Ob.zero,x0,x1,x2,x3,x4,x5,x6]
   ·have hG1:(G != 0)=true:=by simp[hG]
    obtain rfl:Z=(Ob.zero,G):=HC2.out.trans (if_pos hG);obtain ⟨x0,x1,x2,x3,x4,x5,x6⟩:=HO5.out.cells;obtain ⟨f0,f1,f2,f3,f4,f5,f6⟩:=HO5.out.frozens;unfold Ob.zero at x0 x1 x2 x3 x4 x5 x6;dsimp only at x0 x1 x2 x3 x4 x5 x6;have HX:=LH (HO5.out.set7 0 0 0 0 0 0 0);have HBX:=LH (jset7 (g:=w.heap.size) HB5.out (by omega) HO5.out (.int .i64 0) (.int .i64 0) (.int .i64 0) (.int .i64 0) (.int .i64 0) (.int .i64 0) (.int .i64 0))
    go_wp2_with fail
    clear x0 x1 x2 x3 x4 x5 x6;obtain ⟨x0,x1,x2,x3,x4,x5,x6⟩:=HX.out.cells;dsimp only at x0 x1 x2 x3 x4 x5 x6;refine bodyPost_ret (v:= .tuple #[.agg (cellsO Ob.zero),.int .u16 G]) ?_ rfl ⟨_,rfl,fun h=>absurd h hG,HBX.out⟩
    simp[results,Tryz.f99,go_sem,cellsO,Ob.zero,x0,x1,x2,x3,x4,x5,x6]
 ·have hD1:(D != 0)=true:=by simp[hD]
  obtain rfl:Z=(Ob.zero,D):=HC.out.trans (if_pos (.inl hD));obtain ⟨x0,x1,x2,x3,x4,x5,x6⟩:=HO3.out.cells;obtain ⟨f0,f1,f2,f3,f4,f5,f6⟩:=HO3.out.frozens;unfold Ob.zero at x0 x1 x2 x3 x4 x5 x6;dsimp only at x0 x1 x2 x3 x4 x5 x6;have HX:=LH (HO3.out.set7 0 0 0 0 0 0 0);have HBX:=LH (jset7 (g:=w.heap.size) HB3.out (by omega) HO3.out (.int .i64 0) (.int .i64 0) (.int .i64 0) (.int .i64 0) (.int .i64 0) (.int .i64 0) (.int .i64 0))
  go_wp2_with fail
  clear x0 x1 x2 x3 x4 x5 x6;obtain ⟨x0,x1,x2,x3,x4,x5,x6⟩:=HX.out.cells;dsimp only at x0 x1 x2 x3 x4 x5 x6;refine bodyPost_ret (v:= .tuple #[.agg (cellsO Ob.zero),.int .u16 D]) ?_ rfl ⟨_,rfl,fun h=>absurd h hD,HBX.out⟩
  simp[results,Tryz.f99,go_sem,cellsO,Ob.zero,x0,x1,x2,x3,x4,x5,x6]
def NoB (w0:World):Bs:=⟨w0.heap.size,fun _=>False,id,id,id,id,id,id,id⟩
def PuK (w0:World) (_:List (Int × Int)) (W:World):Prop:=Below w0.heap.size w0 W
theorem pureN {K:World→Prop} {s:Value} {sr:Sr} (H:SrcOK K s sr) (w0:World) (hK:K w0):SrcN (NoB w0) (PuK w0) s sr where
 good:=H.good
 on:=fun h hS=>Below.sil (n0:=NoB w0) h (Nat.le_refl _) hS
 le:=fun h=>h.size
 laid:=fun h=>H.laid (H.on hK h)
 form:=H.form
 word:=fun l g a w _ hW hg ha=>(H.word g a w (H.on hK hW) hg ha).mono (fun e w' hh=>by
  obtain ⟨he,hB⟩:=hh;exact ⟨l ++ [(g,a)],he,fun _=>rfl,⟨⟨hB.os,hB.tape,hB.output,hB.size,fun i o _ ho _=>(hB.block i (lt_of_blk ho)).trans ho⟩,fun X hS=>Below.sil (n0:=NoB w0) (hW.trans (hB.mono hW.size)) (Nat.le_refl _) hS,hW.size⟩⟩)
 sizes:=fun l w hW=>H.sizes w (H.on hK hW)
theorem follow_anyP {K:World→Prop} {s:Value} {sr:Sr} (H:SrcOK K s sr) (g a:Int) (w:World) (hK:K w) (hg:In64 g) (ha:In64 a) :
  Calls Tryz.prog 99 #[s,.int .i64 g,.int .i64 a] w (ObR (followO sr g a) w) :=
 (follow_anyN (pureN H w hK) [] (by simp) g a w (Below.refl _ _) hg ha).mono (fun e w' hh=>by
  obtain ⟨l',he,_,hJ⟩:=hh;exact ⟨he,hJ.kk⟩)
set_option maxHeartbeats 4000000 in
theorem next_anyN {n0:Bs} {K:List (Int × Int)→World→Prop} {s:Value} {sr:Sr} (H:SrcN n0 K s sr) (l:List (Int × Int)) (hlb:l.length+3≤1000000) (o:Ob) (k:Int) (w:World) (hK:K l w) (ho:GoodO sr.sz o) (hk:0≤k∧k≤9223372036854775807) :
  Calls Tryz.prog 100 #[s,.agg (cellsO o),.int .i64 k] w (ObN n0 K l (stepR sr o k) (nextO sr o k) w):=by
 have hbd:=ho.bd H.good;have hq:=okq_bd ho.okq;have hwd:wordsO o=wordN (ptrO o):=rfl;have hgk:o.kind=0∨o.kind=1∨o.kind=2:=by rcases ho with rfl | ⟨h,-⟩;exact .inl rfl;omega
 obtain ⟨t,v,rfl⟩:=H.form;obtain ⟨hb1,hb2,hB0⟩:=two_objs w o Ob.zero;have HK1:=LH ((H.at_ hK).pure hB0).kk;have HJ0:=LH ((H.at_ hK).pure hB0);have HF:=LH (fun g a X (hX:K l X) (ha:In64 a)=>fun (hg:In64 g)=>follow_anyN H l hlb g a X hX hg ha)
 obtain ⟨o1,o2,o3,o4,o5,o6,o7⟩:=o;have HL:Hid (nextO sr ⟨o1,o2,o3,o4,o5,o6,o7⟩ k=if o1=0∨(o1=1∧o5≤k) then (Ob.zero,0) else if o1=1 then followO sr o2 (o3+o4+k) else if o6≠6 then (Ob.zero,23) else if o7≤k then (Ob.zero,20) else followO sr o2 (o3+k)):=LH rfl
 have HR:Hid (stepR sr ⟨o1,o2,o3,o4,o5,o6,o7⟩ k=if o1=0∨(o1=1∧o5≤k) then [] else followR sr o2 (o3+(if o1=1 then o4 else 0)+k)):=LH rfl
 obtain ⟨R,hR⟩:∃R,R=stepR sr ⟨o1,o2,o3,o4,o5,o6,o7⟩ k:=⟨_,rfl⟩;rw[←hR] at HR ⊢;clear hR;obtain ⟨Z,hZ⟩:∃Z,Z=nextO sr ⟨o1,o2,o3,o4,o5,o6,o7⟩ k:=⟨_,rfl⟩;rw[←hZ] at HL ⊢;unfold ptrO wordN at hwd;unfold ptrO at hq;dsimp only at hbd hq hwd hgk hb1 hb2;rw[hwd] at hbd;obtain ⟨q1,q2,q3,q4,-⟩:=hq;obtain ⟨hg,ha0,ha1⟩:=hbd;have HG:=LH hg;obtain ⟨W1,hW1⟩:∃W1,W1=(w.alloc (.cells (cellsO ⟨o1,o2,o3,o4,o5,o6,o7⟩) 129)).alloc (.cells (cellsO Ob.zero) 129):=⟨_,rfl⟩;rw[←hW1] at hb1 hb2 hB0 HK1 HJ0;have HP1:=LH hb1;have HO1:=LH hb2;have HB1:=HJ0;obtain ⟨y0,y1,y2,y3,y4,y5,y6⟩:=hb1.cells;dsimp only at y0 y1 y2 y3 y4 y5 y6;unfold cellsO Ob.zero at hW1;dsimp only at hW1;unfold cellsO;dsimp only;clear hlb hZ hb1 hb2 hB0 hK H ho hwd hg
 by_cases h0:o1=0
 ·subst h0;obtain rfl:R=[]:=HR.out.trans (if_pos (.inl rfl));clear HR;obtain rfl:Z=(Ob.zero,0):=HL.out.trans (if_pos (.inl rfl));clear ha1 q1 q2 q3 q4 HL;go_enter Tryz.func100,Tryz.ntmps100;go_upto_region 1 with fail
  rw[←hW1];clear hW1;obtain ⟨x0,x1,x2,x3,x4,x5,x6⟩:=HO1.out.cells;obtain ⟨f0,f1,f2,f3,f4,f5,f6⟩:=HO1.out.frozens;unfold Ob.zero at x0 x1 x2 x3 x4 x5 x6;dsimp only at x0 x1 x2 x3 x4 x5 x6;have HX:=LH (HO1.out.set7 0 0 0 0 0 0 0);have HBX:=LH (jset7 (g:=w.heap.size+1) HB1.out (by omega) HO1.out (.int .i64 0) (.int .i64 0) (.int .i64 0) (.int .i64 0) (.int .i64 0) (.int .i64 0) (.int .i64 0))
  go_wp2_with fail
  clear x0 x1 x2 x3 x4 x5 x6;obtain ⟨x0,x1,x2,x3,x4,x5,x6⟩:=HX.out.cells;dsimp only at x0 x1 x2 x3 x4 x5 x6;refine bodyPost_ret (v:= .tuple #[.agg (cellsO Ob.zero),.int .u16 0]) ?_ rfl ⟨_,rfl,fun _=>(List.append_nil l).symm,HBX.out⟩
  simp[results,Tryz.f100,go_sem,cellsO,Ob.zero,x0,x1,x2,x3,x4,x5,x6]
 by_cases h1:o1=1
 ·subst h1;rw[if_pos rfl] at ha1
  by_cases hp:o5≤k
  ·obtain rfl:R=[]:=HR.out.trans (if_pos (.inr ⟨rfl,hp⟩));clear HR;obtain rfl:Z=(Ob.zero,0):=HL.out.trans (if_pos (.inr ⟨rfl,hp⟩));clear ha1 q1 q2 q3 q4 HL;go_enter Tryz.func100,Tryz.ntmps100;go_upto_region 1 with fail
   rw[←hW1];clear hW1;obtain ⟨x0,x1,x2,x3,x4,x5,x6⟩:=HO1.out.cells;obtain ⟨f0,f1,f2,f3,f4,f5,f6⟩:=HO1.out.frozens;unfold Ob.zero at x0 x1 x2 x3 x4 x5 x6;dsimp only at x0 x1 x2 x3 x4 x5 x6;have HX:=LH (HO1.out.set7 0 0 0 0 0 0 0);have HBX:=LH (jset7 (g:=w.heap.size+1) HB1.out (by omega) HO1.out (.int .i64 0) (.int .i64 0) (.int .i64 0) (.int .i64 0) (.int .i64 0) (.int .i64 0) (.int .i64 0))
   go_wp2_with fail
   clear x0 x1 x2 x3 x4 x5 x6;obtain ⟨x0,x1,x2,x3,x4,x5,x6⟩:=HX.out.cells;dsimp only at x0 x1 x2 x3 x4 x5 x6;refine bodyPost_ret (v:= .tuple #[.agg (cellsO Ob.zero),.int .u16 0]) ?_ rfl ⟨_,rfl,fun _=>(List.append_nil l).symm,HBX.out⟩
   simp[results,Tryz.f100,go_sem,cellsO,Ob.zero,x0,x1,x2,x3,x4,x5,x6]
  ·have HZ:Hid (Z=followO sr o2 (o3+o4+k)):=LH (HL.out.trans (by rw[if_neg (by omega),if_pos rfl]));have hw1:IntKind.i64.wrap (o3+o4)=o3+o4:=IntWalk.i64_in _ (by omega);have hw2:IntKind.i64.wrap (o3+o4+k)=o3+o4+k:=IntWalk.i64_in _ (by omega);have HF4:=HF.out o2 (o3+o4+k) W1 HK1.out ⟨by omega,by omega⟩ HG.out
   rw[←HZ.out] at HF4;obtain rfl:R=followR sr o2 (o3+o4+k):=HR.out.trans (by rw[if_neg (by omega),if_pos rfl]);clear HR;generalize followR sr o2 (o3+o4+k)=R at *
   obtain ⟨O',D⟩:=Z;obtain ⟨u1,u2,u3,u4,u5,u6,u7⟩:=O';clear HL HZ q1 q2 q3 q4 ha1;go_enter Tryz.func100,Tryz.ntmps100;go_upto_region 1 with fail
   rw[←hW1];clear hW1
   go_wp2_with fail
   refine HF4.mono ?_
   rintro e w2 ⟨l2,rfl,hl2,hJ2⟩;unfold cellsO;dsimp only;have HO2:=LH (HO1.out.onJ hJ2);have HB2:=LH (HB1.out.step hJ2);have HL2:=LH hl2;clear hl2 hJ2 y0 y1 y2 y3 y4 y5 y6;obtain ⟨x0,x1,x2,x3,x4,x5,x6⟩:=HO2.out.cells;obtain ⟨f0,f1,f2,f3,f4,f5,f6⟩:=HO2.out.frozens;unfold Ob.zero at x0 x1 x2 x3 x4 x5 x6;dsimp only at x0 x1 x2 x3 x4 x5 x6;have HX:=LH (HO2.out.set7 u1 u2 u3 u4 u5 u6 u7);have HBX:=LH (jset7 (g:=w.heap.size+1) HB2.out (by omega) HO2.out (.int .i64 u1) (.int .i64 u2) (.int .i64 u3) (.int .i64 u4) (.int .i64 u5) (.int .i64 u6) (.int .i64 u7))
   go_wp2_with fail
   clear x0 x1 x2 x3 x4 x5 x6;obtain ⟨x0,x1,x2,x3,x4,x5,x6⟩:=HX.out.cells;dsimp only at x0 x1 x2 x3 x4 x5 x6;refine bodyPost_ret (v:= .tuple #[.agg (cellsO ⟨u1,u2,u3,u4,u5,u6,u7⟩),.int .u16 D]) ?_ rfl ⟨_,rfl,HL2.out,HBX.out⟩
   simp[results,Tryz.f100,go_sem,cellsO,x0,x1,x2,x3,x4,x5,x6]
 ·have h2:o1=2:=by omega
  subst h2;rw[if_neg (by decide),if_pos rfl] at ha1
  by_cases h6:o6=6
  ·subst h6;rw[if_neg (by decide),if_pos (.inr rfl)] at ha1
   by_cases hp:o7≤k
   ·clear HR;obtain rfl:Z=(Ob.zero,20):=HL.out.trans (by rw[if_neg (by omega),if_neg (by decide),if_neg (by simp),if_pos hp]);clear ha1 q1 q2 q3 q4 HL;go_enter Tryz.func100,Tryz.ntmps100;go_upto_region 1 with fail
    rw[←hW1];clear hW1;obtain ⟨x0,x1,x2,x3,x4,x5,x6⟩:=HO1.out.cells;obtain ⟨f0,f1,f2,f3,f4,f5,f6⟩:=HO1.out.frozens;unfold Ob.zero at x0 x1 x2 x3 x4 x5 x6;dsimp only at x0 x1 x2 x3 x4 x5 x6;have HX:=LH (HO1.out.set7 0 0 0 0 0 0 0);have HBX:=LH (jset7 (g:=w.heap.size+1) HB1.out (by omega) HO1.out (.int .i64 0) (.int .i64 0) (.int .i64 0) (.int .i64 0) (.int .i64 0) (.int .i64 0) (.int .i64 0))
    go_wp2_with fail
    clear x0 x1 x2 x3 x4 x5 x6;obtain ⟨x0,x1,x2,x3,x4,x5,x6⟩:=HX.out.cells;dsimp only at x0 x1 x2 x3 x4 x5 x6;refine bodyPost_ret (v:= .tuple #[.agg (cellsO Ob.zero),.int .u16 20]) ?_ rfl ⟨_,rfl,fun h=>absurd h (by decide),HBX.out⟩
    simp[results,Tryz.f100,go_sem,cellsO,Ob.zero,x0,x1,x2,x3,x4,x5,x6]
   ·have HZ:Hid (Z=followO sr o2 (o3+k)):=LH (HL.out.trans (by rw[if_neg (by omega),if_neg (by decide),if_neg (by simp),if_neg hp]));have hw1:IntKind.i64.wrap (o3+k)=o3+k:=IntWalk.i64_in _ (by omega);have HF4:=HF.out o2 (o3+k) W1 HK1.out ⟨by omega,by omega⟩ HG.out
    rw[←HZ.out] at HF4;obtain rfl:R=followR sr o2 (o3+k):=HR.out.trans (by rw[if_neg (by omega),if_neg (by decide),Int.add_zero]);clear HR;generalize followR sr o2 (o3+k)=R at *
    obtain ⟨O',D⟩:=Z;obtain ⟨u1,u2,u3,u4,u5,u6,u7⟩:=O';clear HL HZ q1 q2 q3 q4 ha1;go_enter Tryz.func100,Tryz.ntmps100;go_upto_region 1 with fail
    rw[←hW1];clear hW1
    go_wp2_with fail
    refine HF4.mono ?_
    rintro e w2 ⟨l2,rfl,hl2,hJ2⟩;unfold cellsO;dsimp only;have HO2:=LH (HO1.out.onJ hJ2);have HB2:=LH (HB1.out.step hJ2);have HL2:=LH hl2;clear hl2 hJ2 y0 y1 y2 y3 y4 y5 y6;obtain ⟨x0,x1,x2,x3,x4,x5,x6⟩:=HO2.out.cells;obtain ⟨f0,f1,f2,f3,f4,f5,f6⟩:=HO2.out.frozens;unfold Ob.zero at x0 x1 x2 x3 x4 x5 x6;dsimp only at x0 x1 x2 x3 x4 x5 x6;have HX:=LH (HO2.out.set7 u1 u2 u3 u4 u5 u6 u7);have HBX:=LH (jset7 (g:=w.heap.size+1) HB2.out (by omega) HO2.out (.int .i64 u1) (.int .i64 u2) (.int .i64 u3) (.int .i64 u4) (.int .i64 u5) (.int .i64 u6) (.int .i64 u7))
    go_wp2_with fail
    clear x0 x1 x2 x3 x4 x5 x6;obtain ⟨x0,x1,x2,x3,x4,x5,x6⟩:=HX.out.cells;dsimp only at x0 x1 x2 x3 x4 x5 x6;refine bodyPost_ret (v:= .tuple #[.agg (cellsO ⟨u1,u2,u3,u4,u5,u6,u7⟩),.int .u16 D]) ?_ rfl ⟨_,rfl,HL2.out,HBX.out⟩
    simp[results,Tryz.f100,go_sem,cellsO,x0,x1,x2,x3,x4,x5,x6]
  ·have h61:(o6 != 6)=true:=by simp[h6]
   clear HR;obtain rfl:Z=(Ob.zero,23):=HL.out.trans (by rw[if_neg (by omega),if_neg (by decide),if_pos h6]);clear ha1 q1 q2 q3 q4 HL;go_enter Tryz.func100,Tryz.ntmps100;go_upto_region 1 with fail
   rw[←hW1];clear hW1;obtain ⟨x0,x1,x2,x3,x4,x5,x6⟩:=HO1.out.cells;obtain ⟨f0,f1,f2,f3,f4,f5,f6⟩:=HO1.out.frozens;unfold Ob.zero at x0 x1 x2 x3 x4 x5 x6;dsimp only at x0 x1 x2 x3 x4 x5 x6;have HX:=LH (HO1.out.set7 0 0 0 0 0 0 0);have HBX:=LH (jset7 (g:=w.heap.size+1) HB1.out (by omega) HO1.out (.int .i64 0) (.int .i64 0) (.int .i64 0) (.int .i64 0) (.int .i64 0) (.int .i64 0) (.int .i64 0))
   go_wp2_with fail
   clear x0 x1 x2 x3 x4 x5 x6;obtain ⟨x0,x1,x2,x3,x4,x5,x6⟩:=HX.out.cells;dsimp only at x0 x1 x2 x3 x4 x5 x6;refine bodyPost_ret (v:= .tuple #[.agg (cellsO Ob.zero),.int .u16 23]) ?_ rfl ⟨_,rfl,fun h=>absurd h (by decide),HBX.out⟩
   simp[results,Tryz.f100,go_sem,cellsO,Ob.zero,x0,x1,x2,x3,x4,x5,x6]
def NumN (n0:Bs) (K:List (Int × Int)→World→Prop) (l R:List (Int × Int)) (t:Int × Int) (w:World) (e:Ending) (w':World):Prop :=
 ∃l',e= .returned (.tuple #[.int .u64 t.1,.int .u16 t.2])∧(t.2=0→l'=l ++ R)∧J n0 K l' w w'
set_option maxHeartbeats 4000000 in
theorem number_anyN {n0:Bs} {K:List (Int × Int)→World→Prop} {s:Value} {sr:Sr} (H:SrcN n0 K s sr) (l:List (Int × Int)) (hlb:l.length+1≤1000000) (o:Ob) (i:Int) (w:World) (hK:K l w) (ho:GoodO sr.sz o) (hk:0≤i∧i≤9223372036854775807) :
  Calls Tryz.prog 71 #[s,.agg (cellsO o),.int .i64 i] w (NumN n0 K l (endR o i) (numW sr o i) w):=by
 have hbd:=ho.bd H.good;have hq:=okq_bd ho.okq;have hwd:wordsO o=wordN (ptrO o):=rfl;have hgk:o.kind=0∨o.kind=1∨o.kind=2∧(o.size=2∨o.size=5∨o.size=6):=by
  rcases ho with rfl | ⟨h | h,-,h2,-⟩
  ·exact .inl rfl
  ·exact .inr (.inl h)
  ·refine .inr (.inr ⟨h,?_⟩);unfold ptrO wordE at h2;dsimp only at h2;rw[h,if_neg (by decide),if_neg (by decide),if_pos rfl] at h2
   by_cases hx:o.size=2∨o.size=5∨o.size=6
   ·exact hx
   ·rw[if_neg hx] at h2;exact absurd h2 (by decide)
 obtain ⟨t,v,rfl⟩:=H.form;have hB0:Below w.heap.size w (w.alloc (.cells (cellsO o) 129)):=(Below.refl _ _).alloc (Nat.le_refl _) _;have hb1:=OBox.new w o;have HK1:=LH ((H.at_ hK).pure hB0).kk;have HJ0:=LH ((H.at_ hK).pure hB0);have HF:=LH (fun g a X (hX:K l X) (ha:In64 a)=>fun (hg:In64 g)=>H.word l g a X (by omega) hX hg ha)
 have HWb:=LH (fun g a=>(H.good.wd g a))
 obtain ⟨o1,o2,o3,o4,o5,o6,o7⟩:=o;have HL:Hid (numW sr ⟨o1,o2,o3,o4,o5,o6,o7⟩ i=if o1=0∨(o1=1∧o4≤i) then (0,0) else if o1=1 then (sr.wd o2 (o3+i),sr.we o2 (o3+i)) else if o6=6 then (0,23) else if o7≤i then (0,20) else if o6=5 then (sr.wd o2 (o3+i),sr.we o2 (o3+i)) else (sr.wd o2 (o3+i / 8) / 2 ^ (8*(i % 8).toNat) % 256,sr.we o2 (o3+i / 8))):=LH rfl
 have HR:Hid (endR ⟨o1,o2,o3,o4,o5,o6,o7⟩ i=if i<0∨o1=0∨(o1=1∧o4≤i) then [] else [(o2,o3+(if o1=2∧o6=2 then i / 8 else i))]):=LH rfl
 obtain ⟨R,hR⟩:∃R,R=endR ⟨o1,o2,o3,o4,o5,o6,o7⟩ i:=⟨_,rfl⟩;rw[←hR] at HR ⊢;clear hR;obtain ⟨Z,hZ⟩:∃Z,Z=numW sr ⟨o1,o2,o3,o4,o5,o6,o7⟩ i:=⟨_,rfl⟩;rw[←hZ] at HL ⊢;unfold ptrO wordN at hwd;unfold ptrO at hq;dsimp only at hbd hq hwd hgk hb1;rw[hwd] at hbd;obtain ⟨q1,q2,q3,q4,-⟩:=hq;obtain ⟨hg,ha0,ha1⟩:=hbd;have HG:=LH hg;obtain ⟨W1,hW1⟩:∃W1,W1=w.alloc (.cells (cellsO ⟨o1,o2,o3,o4,o5,o6,o7⟩) 129):=⟨_,rfl⟩;rw[←hW1] at hb1 hB0 HK1 HJ0;have HB1:=HJ0;obtain ⟨y0,y1,y2,y3,y4,y5,y6⟩:=hb1.cells;dsimp only at y0 y1 y2 y3 y4 y5 y6;unfold cellsO at hW1;dsimp only at hW1;unfold cellsO;dsimp only;clear hlb hZ hb1 hB0 hK H ho hwd hg
 by_cases h0:o1=0
 ·subst h0;obtain rfl:R=[]:=HR.out.trans (if_pos (.inr (.inl rfl)));clear HR;obtain rfl:Z=(0,0):=HL.out.trans (if_pos (.inl rfl));clear ha1 q1 q2 q3 q4 HL;go_enter Tryz.func71,Tryz.ntmps71;go_upto_region 1 with fail
  rw[←hW1];clear hW1
  go_wp2_with fail
  go_ret2;exact ⟨_,rfl,fun _=>(List.append_nil l).symm,HB1.out⟩
 by_cases h1:o1=1
 ·subst h1;rw[if_pos rfl] at ha1
  by_cases hp:o4≤i
  ·obtain rfl:R=[]:=HR.out.trans (if_pos (.inr (.inr ⟨rfl,hp⟩)));clear HR;obtain rfl:Z=(0,0):=HL.out.trans (if_pos (.inr ⟨rfl,hp⟩));clear ha1 q1 q2 q3 q4 HL;go_enter Tryz.func71,Tryz.ntmps71;go_upto_region 1 with fail
   rw[←hW1];clear hW1
   go_wp2_with fail
   go_ret2;exact ⟨_,rfl,fun _=>(List.append_nil l).symm,HB1.out⟩
  ·obtain rfl:R=[(o2,o3+i)]:=HR.out.trans (by rw[if_neg (by omega),if_neg (by omega)]);clear HR;obtain rfl:Z=(sr.wd o2 (o3+i),sr.we o2 (o3+i)):=HL.out.trans (by rw[if_neg (by omega),if_pos rfl]);have hw1:IntKind.i64.wrap (o3+i)=o3+i:=IntWalk.i64_in _ (by omega);have HF4:=HF.out o2 (o3+i) W1 HK1.out ⟨by omega,by omega⟩ HG.out
   generalize sr.wd o2 (o3+i)=X at *
   generalize sr.we o2 (o3+i)=E at *
   clear HL q1 q2 q3 q4 ha1;go_enter Tryz.func71,Tryz.ntmps71;go_upto_region 1 with fail
   rw[←hW1];clear hW1
   go_wp2_with fail
   refine HF4.mono ?_
   rintro e w2 ⟨l2,rfl,hl2,hJ2⟩;have HB2:=LH (HB1.out.step hJ2);have HL2:=LH hl2;clear hl2 hJ2
   go_wp2_with fail
   go_ret2;exact ⟨_,rfl,HL2.out,HB2.out⟩
 ·have h2:o1=2∧(o6=2∨o6=5∨o6=6):=by omega
  obtain ⟨rfl,h6⟩:=h2;rw[if_neg (by decide),if_pos rfl] at ha1
  by_cases h66:o6=6
  ·subst h66;clear HR;obtain rfl:Z=(0,23):=HL.out.trans (by rw[if_neg (by omega),if_neg (by decide),if_pos rfl]);clear ha1 q1 q2 q3 q4 HL h6;go_enter Tryz.func71,Tryz.ntmps71;go_upto_region 1 with fail
   rw[←hW1];clear hW1
   go_wp2_with fail
   go_ret2;exact ⟨_,rfl,fun h=>absurd h (by decide),HB1.out⟩
  ·have h61:(o6 == 6)=false:=by simp[h66]
   by_cases hp:o7≤i
   ·clear HR;obtain rfl:Z=(0,20):=HL.out.trans (by rw[if_neg (by omega),if_neg (by decide),if_neg h66,if_pos hp]);clear ha1 q1 q2 q3 q4 HL h6;go_enter Tryz.func71,Tryz.ntmps71;go_upto_region 1 with fail
    rw[←hW1];clear hW1
    go_wp2_with fail
    go_ret2;exact ⟨_,rfl,fun h=>absurd h (by decide),HB1.out⟩
   ·by_cases h5:o6=5
    ·subst h5;rw[if_neg (by decide),if_pos (.inl rfl)] at ha1;obtain rfl:R=[(o2,o3+i)]:=HR.out.trans (by rw[if_neg (by omega),if_neg (by omega)]);clear HR;obtain rfl:Z=(sr.wd o2 (o3+i),sr.we o2 (o3+i)):=HL.out.trans (by rw[if_neg (by omega),if_neg (by decide),if_neg h66,if_neg hp,if_pos rfl]);have hw1:IntKind.i64.wrap (o3+i)=o3+i:=IntWalk.i64_in _ (by omega);have HF4:=HF.out o2 (o3+i) W1 HK1.out ⟨by omega,by omega⟩ HG.out
     generalize sr.wd o2 (o3+i)=X at *
     generalize sr.we o2 (o3+i)=E at *
     clear HL q1 q2 q3 q4 ha1 h6;go_enter Tryz.func71,Tryz.ntmps71;go_upto_region 1 with fail
     rw[←hW1];clear hW1
     go_wp2_with fail
     refine HF4.mono ?_
     rintro e w2 ⟨l2,rfl,hl2,hJ2⟩;have HB2:=LH (HB1.out.step hJ2);have HL2:=LH hl2;clear hl2 hJ2
     go_wp2_with fail
     go_ret2;exact ⟨_,rfl,HL2.out,HB2.out⟩
    ·obtain rfl:o6=2:=by omega
     rw[if_pos rfl] at ha1;obtain rfl:R=[(o2,o3+i / 8)]:=HR.out.trans (by rw[if_neg (by omega),if_pos (by omega)]);clear HR;obtain rfl:Z=(sr.wd o2 (o3+i / 8) / 2 ^ (8*(i % 8).toNat) % 256,sr.we o2 (o3+i / 8)):=HL.out.trans (by rw[if_neg (by omega),if_neg (by decide),if_neg h66,if_neg hp,if_neg h5]);have hw1:IntKind.i64.wrap (o3+i / 8)=o3+i / 8:=IntWalk.i64_in _ (by omega);have hw2:IntKind.i64.wrap (i.tdiv 8)=i / 8:=IntWalk.i64_quo _ _ (by omega);have hw3:IntKind.i64.wrap (i.tmod 8)=i % 8:=by rw[IntWalk.rem_in _ _ (by omega)];exact IntWalk.i64_in _ (by omega)
     have HF4:=HF.out o2 (o3+i / 8) W1 HK1.out ⟨by omega,by omega⟩ HG.out
     have HX:=LH (HWb.out o2 (o3+i / 8));generalize sr.wd o2 (o3+i / 8)=X at *
     generalize sr.we o2 (o3+i / 8)=E at *
     clear HL q1 q2 q3 q4 ha1 h6;go_enter Tryz.func71,Tryz.ntmps71;go_upto_region 1 with fail
     rw[←hW1];clear hW1
     go_wp2_with fail
     refine HF4.mono ?_
     rintro e w2 ⟨l2,rfl,hl2,hJ2⟩;have HB2:=LH (HB1.out.step hJ2);have HL2:=LH hl2;clear hl2 hJ2
     go_wp2_with fail
     have he:(i % 8*8).toNat=8*(i % 8).toNat:=by omega
     have hbt:bits BinOp.and IntKind.u64 (X / 2 ^ (i % 8*8).toNat) 255=X / 2 ^ (8*(i % 8).toNat) % 256:=by
      rw[he];obtain ⟨x0,x1⟩:=HX.out;have hp2:(0:Int)<2 ^ (8*(i % 8).toNat):=Int.pow_pos (by decide);have hle:=Int.ediv_le_self (2 ^ (8*(i % 8).toNat)) x0;exact and_lowC _ 255 256 (Int.ediv_nonneg x0 (Int.le_of_lt hp2)) (by omega) ⟨8,by decide,by decide,by decide⟩
     rw[hbt];go_ret2;exact ⟨_,rfl,HL2.out,HB2.out⟩
end Go.Proofs.YtmmlfnblodfjbaaGreatDoor
