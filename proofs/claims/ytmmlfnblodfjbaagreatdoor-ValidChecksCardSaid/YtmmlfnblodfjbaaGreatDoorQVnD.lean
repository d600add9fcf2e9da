/- Layer 11: goal, over a source that notes what is read. -/
import Derived.Test.YtmmlfnblodfjbaaGreatDoorQVnC
import Derived.Test.YtmmlfnblodfjbaaGreatDoorQRdC
import Derived.StillTailTactics
import Derived.WalkMore
set_option maxRecDepth 100000
namespace Go.Proofs.YtmmlfnblodfjbaaGreatDoor
open Go.RowKit Go.Deep
set_option maxHeartbeats 4000000 in
theorem goal_anyN {n0:Bs} {K:List (Int × Int)→World→Prop} {s:Value} {sr:Sr} (H:SrcN n0 K s sr) (l:List (Int × Int)) (w0 w:World) (pb:Nat) (c:Int) (sv:Value) (ks:List Int) (hlb:l.length+(3*ks.length+6)≤1000000) (hJ:J n0 K l w0 w) (hpb:w0.heap.size≤pb) (hp:Bx w pb 127 (.int .i64 c)) (hc:In64 c) (hs:NumS .i64 w0 n0.n sv ks) (hk:∀k∈ks,0≤k∧k≤9223372036854775807) :
  Calls Tryz.prog 68 #[s,sv,.func (.func 69) #[.pointer (some ⟨pb,0,none⟩)] #[]] w (ObN n0 K l (followR sr 0 0 ++ goR sr ks (followO sr 0 0).1) (goalO sr ks c (followO sr 0 0)) w0):=by
 have HF:=LH (fun X (hX:K l X)=>follow_anyN H l (by omega) 0 0 X hX ⟨by decide,by decide⟩ ⟨by decide,by decide⟩)
 have HGf:=LH (follow_good H.good 0 0);have HGn:=LH (fun o k=>next_good H.good o k)
 have HN:=LH (fun l (hl:l.length+3≤1000000) o k X (hX:K l X) (ho:GoodO sr.sz o) (hk:0≤k∧k≤9223372036854775807)=>next_anyN H l hl o k X hX ho hk)
 have HPay:=LH (fun (o:Ob) (c:Int) (X:World) (ho:OkQ (ptrO o)) (hp:Bx X pb 127 (.int .i64 c)) (hc:In64 c)=>pay_any o pb c X ho hp hc)
 obtain ⟨t,v,rfl⟩:=H.form;obtain ⟨S,hS⟩:∃S,S=followO sr 0 0:=⟨_,rfl⟩;rw[←hS] at HF HGf ⊢;obtain ⟨T,hT⟩:∃T,T=goalO sr ks c S:=⟨_,rfl⟩;rw[←hT];have HRl:Hid ((l ++ (followR sr 0 0 ++ goR sr ks S.1)).length+3≤1000000):=LH (by have h1:=followR_len sr 0 0;have h2:=goR_lenN sr ks S.1;rw[List.length_append,List.length_append];omega);obtain ⟨RT,hRT⟩:∃RT,RT=l ++ (followR sr 0 0 ++ goR sr ks S.1):=⟨_,rfl⟩;have HRT:=LH hRT;rw[←hRT] at HRl;have hpost:∀e w',ObN n0 K RT [] T w0 e w'→ObN n0 K l (followR sr 0 0 ++ goR sr ks S.1) T w0 e w':=by
  rintro e w' ⟨l',h1,h2,h3⟩;exact ⟨l',h1,fun h=>by rw[←hRT,h2 h,List.append_nil],h3⟩
 refine Calls.mono ?_ hpost;clear hpost hRT hlb;generalize followR sr 0 0=F0 at *
 have HS:=LH hs;obtain ⟨A0,c0,hsv,-⟩:=hs;have HT:=LH hT;have HKs:=LH hk;have HC:=LH hc;have HPb:=LH (And.intro hpb hp.lt);have hB1:Below w.heap.size w (w.alloc (.cells (cellsO Ob.zero) 129)):=(Below.refl _ _).alloc (Nat.le_refl _) _;have HO1:=LH (OBox.new w Ob.zero);have HP1:=LH (hp.on hB1);have HB1:=LH (hJ.pure hB1);have HSz:=LH hJ.size;obtain ⟨W1,hW1⟩:∃W1,W1=w.alloc (.cells (cellsO Ob.zero) 129):=⟨_,rfl⟩;rw[←hW1] at HO1 HP1 HB1;unfold cellsO Ob.zero at hW1;dsimp only at hW1;subst hsv;clear hJ hpb hp hc hk hS hT hB1 H;go_enter Tryz.func68,Tryz.ntmps68;go_upto_region 1 with fail
 rw[←hW1];clear hW1
 go_step3
 go_wp2_with fail
 refine (HF.out W1 HB1.out.kk).mono ?_
 obtain ⟨⟨s1,s2,s3,s4,s5,s6,s7⟩,D⟩:=S;rintro e w2 ⟨l2,rfl,hl2,hJ2⟩;have HI2:Hid (D=0→RT=l2 ++ goR sr ks ⟨s1,s2,s3,s4,s5,s6,s7⟩):=LH (fun h=>by rw[HRT.out,hl2 h,List.append_assoc])
 clear hl2 HRT;unfold cellsO;dsimp only;have HO2:=LH (HO1.out.onJ hJ2);have HP2:=LH (HP1.out.onJ hJ2 n0.purse);have HB2:=LH (HB1.out.step hJ2);have hB3:Below w2.heap.size w2 (w2.alloc (.cells (cellsO ⟨s1,s2,s3,s4,s5,s6,s7⟩) 129)):=(Below.refl _ _).alloc (Nat.le_refl _) _;have HO3:=LH (HO2.out.on hB3);have HP3:=LH (HP2.out.on hB3);have HB3:=LH (HB2.out.pure hB3);have HQ3:=LH (OBox.new w2 ⟨s1,s2,s3,s4,s5,s6,s7⟩);obtain ⟨W3,hW3⟩:∃W3,W3=w2.alloc (.cells (cellsO ⟨s1,s2,s3,s4,s5,s6,s7⟩) 129):=⟨_,rfl⟩;rw[←hW3] at HO3 HP3 HB3 HQ3;unfold cellsO at hW3;dsimp only at hW3;have HNe:Hid (w.heap.size≠w2.heap.size∧pb≠w2.heap.size∧w0.heap.size≤w2.heap.size):=LH ⟨by have:=HO2.out.lt;omega,by have:=HP2.out.lt;omega,HB2.out.size⟩
 clear hB3 hJ2
 go_wp2_with fail
 rw[←hW3];clear hW3
 go_step3
 go_wp2_with fail
 obtain ⟨bo,hbo⟩:∃bo,bo=w2.heap.size:=⟨_,rfl⟩;rw[←hbo] at HNe HQ3 ⊢;clear hbo
 go_loopw [1,9] (fun x y wr=>∃(r:List Int) (c':Int) (o:Ob) (e:Int) (l2:List (Int × Int)),NumS .i64 w0 n0.n x r∧y= .int .u16 e∧OBox wr bo o∧OBox wr w.heap.size Ob.zero∧Bx wr pb 127 (.int .i64 c')∧In64 c'∧T=goalO sr r c' (o,e)∧GoodO sr.sz o∧(∀k∈r,0≤k∧k≤9223372036854775807)∧(e=0→RT=l2 ++ goR sr r o)∧J n0 K l2 w0 wr) (fun x _ _=>lenS9 x)
 case atStart=>exact ⟨ks,c,_,D,_,HS.out,rfl,HQ3.out,HO3.out,HP3.out,HC.out,HT.out,HGf.out,HKs.out,HI2.out,HB3.out⟩
 case round =>
  obtain ⟨r,c',o,e,l4,hs,rfl,hQ,hO,hP,hc,hT,hG,hr,hI,hB⟩:=hrel;have HI4:=LH hI;clear hI HI2;generalize wr=w4 at *
  have HQ4:=LH hQ;have HO4:=LH hO;have HP4:=LH hP;have HB4:=LH hB;have HT4:=LH hT;have HG4:=LH hG;have HC4:=LH hc;have HR4:=LH hr;have HS4:=LH hs;clear hQ hO hP hB hT hG hc hr HQ3 HO3 HP3 HB3 HC HT HGf HKs HS
  by_cases he:e=0
  ·subst he;have HI5:=LH (HI4.out rfl);clear HI4;obtain ⟨y0,y1,y2,y3,y4,y5,y6⟩:=HQ4.out.cells;obtain ⟨o1,o2,o3,o4,o5,o6,o7⟩:=o;dsimp only at y0 y1 y2 y3 y4 y5 y6;have HPay4:=LH (HPay.out _ c' w4 HG4.out.okq HP4.out HC4.out);have hwd:=wordN_bd HG4.out.okq;have HWd:Hid (0≤wordsO ⟨o1,o2,o3,o4,o5,o6,o7⟩∧wordsO ⟨o1,o2,o3,o4,o5,o6,o7⟩≤536870911):=LH hwd;unfold cellsO at HPay4;dsimp only at HPay4;clear hwd;cases r with
   | nil =>
    obtain ⟨A,q,rfl⟩:=hs.form rfl
    go_wp2_with fail
    refine HPay4.out.mono ?_
    rintro e w5 ⟨w6,hB6,⟨hle,rfl,rfl⟩ | ⟨hlt,rfl,rfl⟩⟩
    ·have HQ6:=LH ((HQ4.out.on hB6).other HNe.out.2.1.symm 0 (.int .i64 (c' - (1+wordsO ⟨o1,o2,o3,o4,o5,o6,o7⟩))));have HO6:=LH ((HO4.out.on hB6).other (show w.heap.size≠pb by have:=HPb.out;omega) 0 (.int .i64 (c' - (1+wordsO ⟨o1,o2,o3,o4,o5,o6,o7⟩))))
     have HB6:=LH ((HB4.out.pure hB6).setCell HPb.out.1 (HP4.out.on hB6).ty n0.purse 0 (.int .i64 (c' - (1+wordsO ⟨o1,o2,o3,o4,o5,o6,o7⟩))));obtain rfl:=HT4.out.trans (goalO_end sr c' _ (by omega));clear y0 y1 y2 y3 y4 y5 y6 hB6 HT4;generalize w6.setCell _ _=W7 at *
     obtain ⟨y0,y1,y2,y3,y4,y5,y6⟩:=HQ6.out.cells;dsimp only at y0 y1 y2 y3 y4 y5 y6;obtain ⟨x0,x1,x2,x3,x4,x5,x6⟩:=HO6.out.cells;obtain ⟨f0,f1,f2,f3,f4,f5,f6⟩:=HO6.out.frozens;unfold Ob.zero at x0 x1 x2 x3 x4 x5 x6;dsimp only at x0 x1 x2 x3 x4 x5 x6;have HX:=LH (HO6.out.set7 o1 o2 o3 o4 o5 o6 o7);have HBX:=LH (jset7 (g:=w.heap.size) HB6.out HSz.out HO6.out (.int .i64 o1) (.int .i64 o2) (.int .i64 o3) (.int .i64 o4) (.int .i64 o5) (.int .i64 o6) (.int .i64 o7))
     go_wp2_with fail
     rw[Exit.noGoto_ret];clear x0 x1 x2 x3 x4 x5 x6;obtain ⟨x0,x1,x2,x3,x4,x5,x6⟩:=HX.out.cells;dsimp only at x0 x1 x2 x3 x4 x5 x6;refine bodyPost_ret (v:= .tuple #[.agg (cellsO ⟨o1,o2,o3,o4,o5,o6,o7⟩),.int .u16 0]) ?_ rfl ⟨_,rfl,fun _=>by rw[HI5.out,goR,List.append_nil,List.append_nil],HBX.out⟩
     simp[results,Tryz.f68,go_sem,cellsO,x0,x1,x2,x3,x4,x5,x6]
    ·have HO6:=LH (HO4.out.on hB6);have HB6:=LH (HB4.out.pure hB6);obtain rfl:=HT4.out.trans (goalO_cost sr [] c' _ hlt);clear y0 y1 y2 y3 y4 y5 y6 hB6 HT4;obtain ⟨x0,x1,x2,x3,x4,x5,x6⟩:=HO6.out.cells;obtain ⟨f0,f1,f2,f3,f4,f5,f6⟩:=HO6.out.frozens;unfold Ob.zero at x0 x1 x2 x3 x4 x5 x6;dsimp only at x0 x1 x2 x3 x4 x5 x6;have HX:=LH (HO6.out.set7 0 0 0 0 0 0 0);have HBX:=LH (jset7 (g:=w.heap.size) HB6.out HSz.out HO6.out (.int .i64 0) (.int .i64 0) (.int .i64 0) (.int .i64 0) (.int .i64 0) (.int .i64 0) (.int .i64 0))
     go_wp2_with fail
     rw[Exit.noGoto_ret];clear x0 x1 x2 x3 x4 x5 x6;obtain ⟨x0,x1,x2,x3,x4,x5,x6⟩:=HX.out.cells;dsimp only at x0 x1 x2 x3 x4 x5 x6;refine bodyPost_ret (v:= .tuple #[.agg (cellsO Ob.zero),.int .u16 22]) ?_ rfl ⟨_,rfl,fun h=>absurd h (by decide),HBX.out⟩
     simp[results,Tryz.f68,go_sem,cellsO,Ob.zero,x0,x1,x2,x3,x4,x5,x6]
   | cons k r =>
    obtain ⟨b,off,q,rfl,hq1,hq2,hbl,hcell,hrest⟩:=hs.rest;have HCell:=LH hcell;have HRest:=LH hrest;have HBl:=LH hbl;have hk0:=HR4.out k List.mem_cons_self;have HK0:=LH hk0;have hrl:((r.length:Int)+1)>0:=by omega
    clear hcell hrest hbl hs hk0
    go_wp2_with fail
    refine HPay4.out.mono ?_
    rintro e w5 ⟨w6,hB6,⟨hle,rfl,rfl⟩ | ⟨hlt,rfl,rfl⟩⟩
    ·have HQ6:=LH ((HQ4.out.on hB6).other HNe.out.2.1.symm 0 (.int .i64 (c' - (1+wordsO ⟨o1,o2,o3,o4,o5,o6,o7⟩))));have HO6:=LH ((HO4.out.on hB6).other (show w.heap.size≠pb by have:=HPb.out;omega) 0 (.int .i64 (c' - (1+wordsO ⟨o1,o2,o3,o4,o5,o6,o7⟩))))
     have HP6:=LH ((HP4.out.on hB6).set (.int .i64 (c' - (1+wordsO ⟨o1,o2,o3,o4,o5,o6,o7⟩))));have HB6:=LH ((HB4.out.pure hB6).setCell HPb.out.1 (HP4.out.on hB6).ty n0.purse 0 (.int .i64 (c' - (1+wordsO ⟨o1,o2,o3,o4,o5,o6,o7⟩))));have HT6:=LH (HT4.out.trans (goalO_next sr k r c' _ (by omega)));have HC6:Hid (In64 (c' - (1+wordsO ⟨o1,o2,o3,o4,o5,o6,o7⟩))):=LH (by have h1:=HC4.out;have h2:=HWd.out;unfold In64 at h1 ⊢;omega);clear y0 y1 y2 y3 y4 y5 y6 hB6 HT4 HPay4;generalize w6.setCell _ _=W7 at *
     generalize c' - (1+wordsO ⟨o1,o2,o3,o4,o5,o6,o7⟩)=c2 at *
     have hcl:W7.cell? ⟨b,off,none⟩=some (.int .i64 k):=HB6.out.cell (p:=⟨b,off,none⟩) HBl.out HCell.out;obtain ⟨y0,y1,y2,y3,y4,y5,y6⟩:=HQ6.out.cells;dsimp only at y0 y1 y2 y3 y4 y5 y6;have HN7:=LH (HN.out _ (by have h1:=congrArg List.length HI5.out;rw[List.length_append] at h1;have h2:=HRl.out;omega) ⟨o1,o2,o3,o4,o5,o6,o7⟩ k W7.drew HB6.out.drew.kk HG4.out HK0.out);have HGx:=LH (HGn.out ⟨o1,o2,o3,o4,o5,o6,o7⟩ k);have HI7:=LH (HI5.out.trans (by rw[goR]):RT=l4 ++ (stepR sr ⟨o1,o2,o3,o4,o5,o6,o7⟩ k ++ goR sr r (nextO sr ⟨o1,o2,o3,o4,o5,o6,o7⟩ k).1));generalize stepR sr ⟨o1,o2,o3,o4,o5,o6,o7⟩ k=R7 at *
     generalize nextO sr ⟨o1,o2,o3,o4,o5,o6,o7⟩ k=X at *
     obtain ⟨⟨u1,u2,u3,u4,u5,u6,u7⟩,E⟩:=X;unfold cellsO at HN7;dsimp only at HN7;have HQ7:Hid (∀l' Y,J n0 K l' W7.drew Y→OBox Y bo ⟨o1,o2,o3,o4,o5,o6,o7⟩):=LH (fun l' Y hY=>OBox.onJ (w:=W7.drew) HQ6.out hY)
     clear HQ4 HO4 HP4 HB4 HPay HN;unfold ObN at HN7;dsimp only at HN7;go_upto_region 7 with fail
     go_cut [9] (fun y wx=>y= .int .u16 E∧∃l8 Y,(E=0→l8=l4 ++ R7)∧J n0 K l8 W7.drew Y∧wx=(((((((Y.setCell ⟨bo,0,none⟩ (.int .i64 u1)).setCell ⟨bo,1,none⟩ (.int .i64 u2)).setCell ⟨bo,2,none⟩ (.int .i64 u3)).setCell ⟨bo,3,none⟩ (.int .i64 u4)).setCell ⟨bo,4,none⟩ (.int .i64 u5)).setCell ⟨bo,5,none⟩ (.int .i64 u6)).setCell ⟨bo,6,none⟩ (.int .i64 u7)))
     case first =>
      go_region_law (first | (go_simp;go_at_call 100;refine HN7.out.mono ?_;intro e w8 hR;obtain ⟨l8,hR1,hl8,hJ8⟩:=hR;subst hR1;have HL8:=LH hl8;clear hl8;have hq8:=HQ7.out l8 w8 hJ8;obtain ⟨x0,x1,x2,x3,x4,x5,x6⟩:=hq8.cells;obtain ⟨f0,f1,f2,f3,f4,f5,f6⟩:=hq8.frozens;dsimp only at x0 x1 x2 x3 x4 x5 x6;unfold cellsO;dsimp only))
      all_goals go_wp2_with fail
      all_goals go_meet
      all_goals exact ⟨rfl,_,_,HL8.out,hJ8,rfl⟩
     case rest =>
      obtain ⟨rfl,l8,Y,hl8,hY,hwc⟩:=hcut;have HI9:Hid (E=0→RT=l8 ++ goR sr r ⟨u1,u2,u3,u4,u5,u6,u7⟩):=LH (fun h=>by rw[hl8 h,HI7.out,List.append_assoc])
      clear hl8;have hO9:=OBox.onJ (w:=W7.drew) HO6.out hY;have hP9:=Bx.onJ (w:=W7.drew) HP6.out hY n0.purse;have hne1:w.heap.size≠bo:=HNe.out.1;have hne2:pb≠bo:=HNe.out.2.1;have HQ9:=LH ((HQ7.out _ _ hY).set7 u1 u2 u3 u4 u5 u6 u7);have HO9:=LH (((((((hO9.other hne1 0 (.int .i64 u1)).other hne1 1 (.int .i64 u2)).other hne1 2 (.int .i64 u3)).other hne1 3 (.int .i64 u4)).other hne1 4 (.int .i64 u5)).other hne1 5 (.int .i64 u6)).other hne1 6 (.int .i64 u7));have HP9:=LH (((((((hP9.other hne2 0 (.int .i64 u1)).other hne2 1 (.int .i64 u2)).other hne2 2 (.int .i64 u3)).other hne2 3 (.int .i64 u4)).other hne2 4 (.int .i64 u5)).other hne2 5 (.int .i64 u6)).other hne2 6 (.int .i64 u7));have HB9:=LH (jset7 (g:=bo) (HB6.out.drew.step hY) HNe.out.2.2 (HQ7.out _ _ hY) (.int .i64 u1) (.int .i64 u2) (.int .i64 u3) (.int .i64 u4) (.int .i64 u5) (.int .i64 u6) (.int .i64 u7));rw[←hwc] at HQ9 HO9 HP9 HB9;clear hO9 hP9 hne1 hne2 hY hwc y0 y1 y2 y3 y4 y5 y6 hcl HQ7 HN7 HO6 HP6 HQ6
      go_wp2_with fail
      go_roundw
      case rel=>exact ⟨r,c2,_,E,_,HRest.out,rfl,HQ9.out,HO9.out,HP9.out,HC6.out,HT6.out,HGx.out,fun k' hk'=>HR4.out k' (List.mem_cons_of_mem _ hk'),HI9.out,HB9.out⟩
      case measure=>simp[lenS9]
    ·have HO6:=LH (HO4.out.on hB6);have HB6:=LH (HB4.out.pure hB6);obtain rfl:=HT4.out.trans (goalO_cost sr (k :: r) c' _ hlt);clear y0 y1 y2 y3 y4 y5 y6 hB6 HT4;obtain ⟨x0,x1,x2,x3,x4,x5,x6⟩:=HO6.out.cells;obtain ⟨f0,f1,f2,f3,f4,f5,f6⟩:=HO6.out.frozens;unfold Ob.zero at x0 x1 x2 x3 x4 x5 x6;dsimp only at x0 x1 x2 x3 x4 x5 x6;have HX:=LH (HO6.out.set7 0 0 0 0 0 0 0);have HBX:=LH (jset7 (g:=w.heap.size) HB6.out HSz.out HO6.out (.int .i64 0) (.int .i64 0) (.int .i64 0) (.int .i64 0) (.int .i64 0) (.int .i64 0) (.int .i64 0))
     go_wp2_with fail
     rw[Exit.noGoto_ret];clear x0 x1 x2 x3 x4 x5 x6;obtain ⟨x0,x1,x2,x3,x4,x5,x6⟩:=HX.out.cells;dsimp only at x0 x1 x2 x3 x4 x5 x6;refine bodyPost_ret (v:= .tuple #[.agg (cellsO Ob.zero),.int .u16 22]) ?_ rfl ⟨_,rfl,fun h=>absurd h (by decide),HBX.out⟩
     simp[results,Tryz.f68,go_sem,cellsO,Ob.zero,x0,x1,x2,x3,x4,x5,x6]
  ·have he1:(e != 0)=true:=by simp[he]
   obtain rfl:=HT4.out.trans (goalO_err sr r c' o e he);obtain ⟨A,q,rfl⟩:=hs.form rfl;obtain ⟨x0,x1,x2,x3,x4,x5,x6⟩:=HO4.out.cells;obtain ⟨f0,f1,f2,f3,f4,f5,f6⟩:=HO4.out.frozens;unfold Ob.zero at x0 x1 x2 x3 x4 x5 x6;dsimp only at x0 x1 x2 x3 x4 x5 x6;have HX:=LH (HO4.out.set7 0 0 0 0 0 0 0);have HBX:=LH (jset7 (g:=w.heap.size) HB4.out HSz.out HO4.out (.int .i64 0) (.int .i64 0) (.int .i64 0) (.int .i64 0) (.int .i64 0) (.int .i64 0) (.int .i64 0))
   go_wp2_with fail
   rw[Exit.noGoto_ret];clear x0 x1 x2 x3 x4 x5 x6;obtain ⟨x0,x1,x2,x3,x4,x5,x6⟩:=HX.out.cells;dsimp only at x0 x1 x2 x3 x4 x5 x6;refine bodyPost_ret (v:= .tuple #[.agg (cellsO Ob.zero),.int .u16 e]) ?_ rfl ⟨_,rfl,fun h=>absurd h he,HBX.out⟩
   simp[results,Tryz.f68,go_sem,cellsO,Ob.zero,x0,x1,x2,x3,x4,x5,x6]
def VaN (n0:Bs) (K:List (Int × Int)→World→Prop) (l R:List (Int × Int)) (t:Va × Int) (w:World) (e:Ending) (w':World):Prop :=
 ∃l',e= .returned (.tuple #[.agg (cellsV t.1),.int .u16 t.2])∧(t.2=0→l'=l ++ R)∧J n0 K l' w w'
theorem PaBox.onJ {n0:Bs} {K:List (Int × Int)→World→Prop} {l:List (Int × Int)} {w w':World} {b:Nat} {v:Value} {i:Int} (h:PaBox w b v i) (hJ:J n0 K l w w'):PaBox w' b v i:=hJ.block h n0.path
theorem NumS.onJ {n0:Bs} {K:List (Int × Int)→World→Prop} {l:List (Int × Int)} {w w':World} {v:Value} {ks:List Int} (h:NumS .i64 w n0.n v ks) (hJ:J n0 K l w w'):NumS .i64 w' n0.n v ks:=by
 obtain ⟨A,c,e,hc,hm,hr⟩:=h;refine ⟨A,c,e,hc,hm,fun hl=> ?_⟩
 obtain ⟨b,off,ea,hlt,hcell⟩:=hr hl;exact ⟨b,off,ea,hlt,fun j hj=>hJ.cell (p:=⟨b,off+j,none⟩) hlt (hcell j hj)⟩
set_option maxHeartbeats 4000000 in
theorem walk_anyN {n0:Bs} {K:List (Int × Int)→World→Prop} {s:Value} {sr:Sr} (H:SrcN n0 K s sr) (l:List (Int × Int)) (hlb:l.length+200≤1000000) (w:World) (sv:Value) (ks:List Int) (i c:Int) (hK:K l w) (hs:NumS .i64 w n0.n sv ks) (h64:All64 ks) (hi:In64 i) (hc:In64 c) :
  Calls Tryz.prog 40 #[s,.agg #[sv,.int .i64 i],.int .i64 c] w (VaN n0 K l (walkR sr ks i) (walkV sr ks i c) w):=by
 obtain ⟨hb1,hb2,hB0⟩:=new_walk w sv i;have HS:=LH (fun X (hX:J n0 K l w X)=>hs.onJ hX)
 have HC:=LH (fun X (hX:J n0 K l w X)=>contains_any sv ks _ X (hs.onJ hX))
 have HGo:=LH (fun (hb:l.length+(3*ks.length+6)≤1000000) w0 w pb (hJ:J n0 K l w0 w) (hpb:w0.heap.size≤pb) (hp:Bx w pb 127 (.int .i64 c)) (hs:NumS .i64 w0 n0.n sv ks) (hk:∀k∈ks,0≤k∧k≤9223372036854775807)=>goal_anyN H l w0 w pb c sv ks hb hJ hpb hp hc hs hk)
 have HNum:=LH (fun (l:List (Int × Int)) (hl:l.length+1≤1000000) (o:Ob) (X:World) (hX:K l X) (ho:GoodO sr.sz o) (hk:0≤i∧i≤9223372036854775807)=>number_anyN H l hl o i X hX ho hk)
 have HGg:Hid (∀(r:List Int) (c':Int) (t:Ob × Int),GoodO sr.sz t.1→GoodO sr.sz (goalO sr r c' t).1):=LH (fun r=>by
  induction r with
  | nil=>intro c' t ht;unfold goalO;(repeat' split);all_goals first | exact .inl rfl | exact ht
  | cons k r ih=>intro c' t ht;rw[goalO];(repeat' split);all_goals first | exact .inl rfl | exact ih _ _ (next_good H.good _ _))
 have HFg:=LH (follow_good H.good 0 0);have HL:Hid (walkV sr ks i c=if negs ks=true then (Va.zero,1) else if 32<ks.length then (Va.zero,3) else if (goalO sr ks c (followO sr 0 0)).2≠0 then (Va.zero,(goalO sr ks c (followO sr 0 0)).2) else endV sr (goalO sr ks c (followO sr 0 0)).1 i):=LH rfl
 obtain ⟨Z,hZ⟩:∃Z,Z=walkV sr ks i c:=⟨_,rfl⟩;rw[←hZ] at HL ⊢;have HGx:=LH (HGg.out ks c _ HFg.out);obtain ⟨T,hT⟩:∃T,T=goalO sr ks c (followO sr 0 0):=⟨_,rfl⟩;rw[←hT] at HL HGo HGx;have HTg:Hid (T.2=0→T.1=goO sr ks (followO sr 0 0).1):=LH (fun h=>by rw[hT] at h ⊢;exact (goal_goO ks c _ _ h).1)
 have HRW:Hid (walkR sr ks i=(followR sr 0 0 ++ goR sr ks (followO sr 0 0).1) ++ endR (goO sr ks (followO sr 0 0).1) i):=LH (by unfold walkR;rw[List.append_assoc]);have HRl:Hid ((followR sr 0 0 ++ goR sr ks (followO sr 0 0).1).length≤3*ks.length+3):=LH (by have h1:=followR_len sr 0 0;have h2:=goR_lenN sr ks (followO sr 0 0).1;rw[List.length_append];omega);have HLB:=LH hlb;clear hlb;generalize walkR sr ks i=RW at *
 generalize followR sr 0 0 ++ goR sr ks (followO sr 0 0).1=RG at *
 generalize goO sr ks (followO sr 0 0).1=OG at *
 obtain ⟨t,v,rfl⟩:=H.form;obtain ⟨A,q,rfl⟩:=hs.form rfl;obtain ⟨W1,hW1⟩:∃W1,W1=(w.alloc (.cells #[.slice A ks.length q,.int .i64 i] 47)).alloc (.cells (cellsV Va.zero) 54):=⟨_,rfl⟩;rw[←hW1] at hb1 hb2 hB0;have HP1:=LH hb1;have HV1:=LH hb2;have HB1:=LH ((H.at_ hK).pure hB0);have HLt:Hid (w.heap.size+1<W1.heap.size):=LH hb2.lt;unfold cellsV Va.zero at hW1;dsimp only at hW1;have HPos:Hid (negs ks=false→∀k∈ks,0≤k∧k≤9223372036854775807):=LH (fun h k hk=>by
  unfold negs at h;rw[List.any_eq_false] at h;have h1:=h k hk;have h2:=h64 k hk;unfold In64 at h2
  simp at h1
  omega)
 obtain ⟨c1,c2⟩:=hb1.cells;generalize negs ks=N at *
 clear hZ hT hb1 hb2 hB0 hs hK h64 H HGg HFg;cases N with
 | true =>
  obtain rfl:Z=(Va.zero,1):=HL.out.trans (if_pos rfl);go_enter Tryz.func40,Tryz.ntmps40;go_upto_region 1 with fail
  rw[←hW1];clear hW1
  go_wp2_with fail
  refine (HC.out W1 HB1.out).mono ?_
  rintro e w' ⟨rfl,rfl⟩;obtain ⟨x0,x1,x2,x3,x4⟩:=HV1.out.cells;obtain ⟨f0,f1,f2,f3,f4⟩:=HV1.out.frozens;unfold Va.zero at x0 x1 x2 x3 x4;dsimp only at x0 x1 x2 x3 x4;have HX:=LH (HV1.out.set5 0 0 0 0 0);have HBX:=LH (jset5 (g:=w.heap.size+1) HB1.out (by omega) HV1.out (.int .i64 0) (.int .i64 0) (.int .i64 0) (.int .i64 0) (.int .u64 0))
  go_wp2_with fail
  clear x0 x1 x2 x3 x4;obtain ⟨x0,x1,x2,x3,x4⟩:=HX.out.cells;dsimp only at x0 x1 x2 x3 x4;refine bodyPost_ret (v:= .tuple #[.agg (cellsV ⟨0,0,0,0,0⟩),.int .u16 1]) ?_ rfl ⟨_,rfl,fun h=>absurd h (by decide),HBX.out⟩
  simp[results,Tryz.f40,go_sem,cellsV,x0,x1,x2,x3,x4]
 | false =>
  have HL1:=LH (HL.out.trans (if_neg (by decide)))
  by_cases hl:32<ks.length
  ·obtain rfl:Z=(Va.zero,3):=HL1.out.trans (if_pos hl);have hl1:(ks.length:Int)>32:=by omega
   go_enter Tryz.func40,Tryz.ntmps40;go_upto_region 1 with fail
   rw[←hW1];clear hW1
   go_wp2_with fail
   refine (HC.out W1 HB1.out).mono ?_
   rintro e w' ⟨rfl,rfl⟩;obtain ⟨x0,x1,x2,x3,x4⟩:=HV1.out.cells;obtain ⟨f0,f1,f2,f3,f4⟩:=HV1.out.frozens;unfold Va.zero at x0 x1 x2 x3 x4;dsimp only at x0 x1 x2 x3 x4;have HX:=LH (HV1.out.set5 0 0 0 0 0);have HBX:=LH (jset5 (g:=w.heap.size+1) HB1.out (by omega) HV1.out (.int .i64 0) (.int .i64 0) (.int .i64 0) (.int .i64 0) (.int .u64 0))
   go_wp2_with fail
   clear x0 x1 x2 x3 x4;obtain ⟨x0,x1,x2,x3,x4⟩:=HX.out.cells;dsimp only at x0 x1 x2 x3 x4;refine bodyPost_ret (v:= .tuple #[.agg (cellsV ⟨0,0,0,0,0⟩),.int .u16 3]) ?_ rfl ⟨_,rfl,fun h=>absurd h (by decide),HBX.out⟩
   simp[results,Tryz.f40,go_sem,cellsV,x0,x1,x2,x3,x4]
  ·have hl1:¬(ks.length:Int)>32:=by omega
   have HL2:=LH (HL1.out.trans (if_neg hl));have HPos1:=LH (HPos.out rfl);have H32:Hid (ks.length≤32):=LH (by omega);have HGo1:=LH (HGo.out (by have h1:=HLB.out;have h2:=H32.out;omega));clear hl HL HL1 HPos;go_enter Tryz.func40,Tryz.ntmps40;go_upto_region 1 with fail
   rw[←hW1];clear hW1
   go_wp2_with fail
   refine (HC.out W1 HB1.out).mono ?_
   rintro e w' ⟨rfl,rfl⟩;have hB2:Below W1.heap.size W1 (W1.alloc (.cells #[.int .i64 c] 127)):=(Below.refl _ _).alloc (Nat.le_refl _) _;have h2:Bx (W1.alloc (.cells #[.int .i64 c] 127)) W1.heap.size 127 (.int .i64 c):=by unfold Bx;rw[blk_alloc_new]
   have HG2:=LH (HGo1.out W1 _ W1.heap.size (HB1.out.here.pure hB2) (Nat.le_refl _) h2 (HS.out W1 HB1.out) HPos1.out);have HP2:=LH (HP1.out.on hB2 HP1.out.lt);obtain ⟨W2,hW2⟩:∃W2,W2=W1.alloc (.cells #[.int .i64 c] 127):=⟨_,rfl⟩;rw[←hW2] at HG2 HP2;clear hB2 h2 HGo HC HPos1;go_upto_region 6 with fail
   rw[←hW2];clear hW2 c1 c2;obtain ⟨c1,c2⟩:=HP2.out.cells;have hmf:∀(fn:Fn) (first cap:Array Value) (w:World),(Instr.makeFunc fn first cap).run Tryz.prog w= .ok (.func fn first cap) w:=fun _ _ _ _=>rfl
   go_wp2_with fail
   refine HG2.out.mono ?_
   obtain ⟨⟨o1,o2,o3,o4,o5,o6,o7⟩,D⟩:=T;rintro e w3 ⟨l3,rfl,hl3,hJ3⟩;have HLg:=LH hl3;clear hl3;dsimp only at HLg HTg;unfold cellsO;dsimp only;have HP3:=LH (HP1.out.onJ hJ3);have HV3:=LH (HV1.out.onJ hJ3);have HB3:=LH (HB1.out.step hJ3);have hB4:Below w3.heap.size w3 (w3.alloc (.cells (cellsO ⟨o1,o2,o3,o4,o5,o6,o7⟩) 129)):=(Below.refl _ _).alloc (Nat.le_refl _) _;have HP4:=LH (HP3.out.on hB4 HP3.out.lt);have HV4:=LH (HV3.out.on hB4);have HB4:=LH (HB3.out.pure hB4);have HO4:=LH (OBox.new w3 ⟨o1,o2,o3,o4,o5,o6,o7⟩);obtain ⟨W4,hW4⟩:∃W4,W4=w3.alloc (.cells (cellsO ⟨o1,o2,o3,o4,o5,o6,o7⟩) 129):=⟨_,rfl⟩;rw[←hW4] at HP4 HV4 HB4 HO4;unfold cellsO at hW4;dsimp only at hW4;clear hJ3 hB4 c1 c2 hmf;go_upto_region 7 with fail
   rw[←hW4];clear hW4;obtain ⟨c1,c2⟩:=HP4.out.cells
   by_cases hD:D=0
   ·subst hD;have HLx:=LH (HLg.out rfl);have HOx:=LH (HTg.out rfl);clear HLg HTg;have HL3:=LH (HL2.out.trans (if_neg (by simp)));dsimp only at HL3 HGx;clear HL2
    by_cases hi0:i<0
    ·obtain rfl:Z=(shapeV ⟨o1,o2,o3,o4,o5,o6,o7⟩,0):=HL3.out.trans (by unfold endV;rw[if_pos hi0]);have HSh:=LH (shape_any ⟨o1,o2,o3,o4,o5,o6,o7⟩ W4);generalize shapeV ⟨o1,o2,o3,o4,o5,o6,o7⟩=V at *
     obtain ⟨v1,v2,v3,v4,v5⟩:=V;unfold cellsO cellsV at HSh;dsimp only at HSh;obtain ⟨y0,y1,y2,y3,y4,y5,y6⟩:=HO4.out.cells;dsimp only at y0 y1 y2 y3 y4 y5 y6
     go_wp2_with fail
     refine HSh.out.mono ?_
     rintro e w5 ⟨rfl,hB5⟩;have HV5:=LH (HV4.out.on hB5);have HB5:=LH (HB4.out.pure hB5);clear hB5 y0 y1 y2 y3 y4 y5 y6 c1 c2;obtain ⟨x0,x1,x2,x3,x4⟩:=HV5.out.cells;obtain ⟨f0,f1,f2,f3,f4⟩:=HV5.out.frozens;unfold Va.zero at x0 x1 x2 x3 x4;dsimp only at x0 x1 x2 x3 x4;have HX:=LH (HV5.out.set5 v1 v2 v3 v4 v5);have HBX:=LH (jset5 (g:=w.heap.size+1) HB5.out (by omega) HV5.out (.int .i64 v1) (.int .i64 v2) (.int .i64 v3) (.int .i64 v4) (.int .u64 v5))
     go_wp2_with fail
     clear x0 x1 x2 x3 x4;obtain ⟨x0,x1,x2,x3,x4⟩:=HX.out.cells;dsimp only at x0 x1 x2 x3 x4;refine bodyPost_ret (v:= .tuple #[.agg (cellsV ⟨v1,v2,v3,v4,v5⟩),.int .u16 0]) ?_ rfl ⟨_,rfl,fun _=>by rw[HLx.out,HRW.out];unfold endR;rw[if_pos (.inl hi0),List.append_nil],HBX.out⟩
     simp[results,Tryz.f40,go_sem,cellsV,x0,x1,x2,x3,x4]
    ·have hi1:0≤i∧i≤9223372036854775807:=by unfold In64 at hi;omega
     have HL4:Hid (Z=if (numW sr ⟨o1,o2,o3,o4,o5,o6,o7⟩ i).2≠0 then (Va.zero,(numW sr ⟨o1,o2,o3,o4,o5,o6,o7⟩ i).2) else (⟨o1,0,0,0,(numW sr ⟨o1,o2,o3,o4,o5,o6,o7⟩ i).1⟩,0)):=LH (HL3.out.trans (by unfold endV;rw[if_neg hi0]))
     have HN4:=LH (HNum.out l3 (by have h1:=HLB.out;have h2:=HRl.out;have h3:=H32.out;rw[HLx.out,List.length_append];omega) ⟨o1,o2,o3,o4,o5,o6,o7⟩ W4 HB4.out.kk HGx.out hi1);generalize numW sr ⟨o1,o2,o3,o4,o5,o6,o7⟩ i=X at *
     obtain ⟨X,E⟩:=X;unfold cellsO at HN4;dsimp only at HN4 HL4;obtain ⟨y0,y1,y2,y3,y4,y5,y6⟩:=HO4.out.cells;dsimp only at y0 y1 y2 y3 y4 y5 y6
     go_wp2_with fail
     refine HN4.out.mono ?_
     rintro e w5 ⟨l5,rfl,hl5,hJ5⟩;have HL5:=LH hl5;clear hl5;dsimp only at HL5;have HV5:=LH (HV4.out.onJ hJ5);have HO5:=LH (HO4.out.onJ hJ5);have HB5:=LH (HB4.out.step hJ5);clear hJ5 y0 y1 y2 y3 y4 y5 y6 c1 c2
     by_cases hE:E=0
     ·subst hE;have HLz:=LH (HL5.out rfl);clear HL5;obtain rfl:Z=(⟨o1,0,0,0,X⟩,0):=HL4.out.trans (if_neg (by simp));obtain ⟨y0,y1,y2,y3,y4,y5,y6⟩:=HO5.out.cells;dsimp only at y0 y1 y2 y3 y4 y5 y6;obtain ⟨x0,x1,x2,x3,x4⟩:=HV5.out.cells;obtain ⟨f0,f1,f2,f3,f4⟩:=HV5.out.frozens;unfold Va.zero at x0 x1 x2 x3 x4;dsimp only at x0 x1 x2 x3 x4;have HX:=LH (HV5.out.set5 o1 0 0 0 X);have HBX:=LH (jset5 (g:=w.heap.size+1) HB5.out (by omega) HV5.out (.int .i64 o1) (.int .i64 0) (.int .i64 0) (.int .i64 0) (.int .u64 X))
      go_wp2_with fail
      clear x0 x1 x2 x3 x4;obtain ⟨x0,x1,x2,x3,x4⟩:=HX.out.cells;dsimp only at x0 x1 x2 x3 x4;refine bodyPost_ret (v:= .tuple #[.agg (cellsV ⟨o1,0,0,0,X⟩),.int .u16 0]) ?_ rfl ⟨_,rfl,fun _=>by rw[HLz.out,HLx.out,HOx.out,HRW.out,List.append_assoc],HBX.out⟩
      simp[results,Tryz.f40,go_sem,cellsV,x0,x1,x2,x3,x4]
     ·have hE1:(E != 0)=true:=by simp[hE]
      obtain rfl:Z=(Va.zero,E):=HL4.out.trans (if_pos hE);obtain ⟨x0,x1,x2,x3,x4⟩:=HV5.out.cells;obtain ⟨f0,f1,f2,f3,f4⟩:=HV5.out.frozens;unfold Va.zero at x0 x1 x2 x3 x4;dsimp only at x0 x1 x2 x3 x4;have HX:=LH (HV5.out.set5 0 0 0 0 0);have HBX:=LH (jset5 (g:=w.heap.size+1) HB5.out (by omega) HV5.out (.int .i64 0) (.int .i64 0) (.int .i64 0) (.int .i64 0) (.int .u64 0))
      go_wp2_with fail
      clear x0 x1 x2 x3 x4;obtain ⟨x0,x1,x2,x3,x4⟩:=HX.out.cells;dsimp only at x0 x1 x2 x3 x4;refine bodyPost_ret (v:= .tuple #[.agg (cellsV ⟨0,0,0,0,0⟩),.int .u16 E]) ?_ rfl ⟨_,rfl,fun h=>absurd h hE,HBX.out⟩
      simp[results,Tryz.f40,go_sem,cellsV,x0,x1,x2,x3,x4]
   ·have hD1:(D != 0)=true:=by simp[hD]
    obtain rfl:Z=(Va.zero,D):=HL2.out.trans (if_pos hD);obtain ⟨x0,x1,x2,x3,x4⟩:=HV4.out.cells;obtain ⟨f0,f1,f2,f3,f4⟩:=HV4.out.frozens;unfold Va.zero at x0 x1 x2 x3 x4;dsimp only at x0 x1 x2 x3 x4;have HX:=LH (HV4.out.set5 0 0 0 0 0);have HBX:=LH (jset5 (g:=w.heap.size+1) HB4.out (by omega) HV4.out (.int .i64 0) (.int .i64 0) (.int .i64 0) (.int .i64 0) (.int .u64 0))
    go_wp2_with fail
    clear x0 x1 x2 x3 x4;obtain ⟨x0,x1,x2,x3,x4⟩:=HX.out.cells;dsimp only at x0 x1 x2 x3 x4;refine bodyPost_ret (v:= .tuple #[.agg (cellsV ⟨0,0,0,0,0⟩),.int .u16 D]) ?_ rfl ⟨_,rfl,fun h=>absurd h hD,HBX.out⟩
    simp[results,Tryz.f40,go_sem,cellsV,x0,x1,x2,x3,x4]
end Go.Proofs.YtmmlfnblodfjbaaGreatDoor
