/- Layer 11: landed, by one word, over a source that notes what is read. -/
import Derived.Test.YtmmlfnblodfjbaaGreatDoorQVnA
import Derived.Test.YtmmlfnblodfjbaaGreatDoorQRdA
set_option maxRecDepth 100000
namespace Go.Proofs.YtmmlfnblodfjbaaGreatDoor
open Go.RowKit Go.Deep
set_option maxHeartbeats 2000000 in
theorem landed_1N {n0:Bs} {K:List (Int × Int)→World→Prop} {s:Value} {sr:Sr} (H:SrcN n0 K s sr) (l:List (Int × Int)) (hlb:l.length+2≤1000000) (f:Pt) (w:World) (hK:K l w) (hf:OkP f) (hk:f.kind=3) (hd:f.dbl=false) :
  Calls Tryz.prog 145 #[s,.agg (cellsP f)] w (ObN n0 K l [(f.seg,f.off)] (landed1 sr f) w):=by
 obtain ⟨t,v,rfl⟩:=H.form;have HH:=LH H;have HK:=LH hK;obtain ⟨k,o,d,r,z,c,g,b⟩:=f;dsimp only at hk hd;subst hk hd;have hin:(0≤o∧o<536870912)∧d=0∧r=0∧z=0∧c=0∧(0≤g∧g<4294967296):=by
  rcases hf with e | ⟨e,_⟩ | ⟨e,_⟩ | ⟨_,h⟩
  ·cases e
  ·exact absurd e (by simp)
  ·exact absurd e (by simp)
  ·exact h
 obtain ⟨ho,rfl,rfl,rfl,rfl,hg⟩:=hin;have hW:=fun X=>pwords_any ⟨3,o,0,0,0,0,g,false⟩ X hf
 rw[show wordN ⟨3,o,0,0,0,0,g,false⟩=1 from rfl,show wordE ⟨3,o,0,0,0,0,g,false⟩=0 from rfl] at hW
 have HW:=LH hW;have HP:=LH (fun X (hX:K l X)=>pointers_1N H l hlb g o X hX ⟨by omega,by omega⟩ ⟨by omega,by omega⟩)
 have HN:=LH (fun p (hp:OkP p) X=>near9_any p g o X (by
  rcases hp with e | ⟨_,h,_⟩ | ⟨_,h,_⟩ | ⟨_,h,_⟩
  ·rw[e];decide
  ·exact h
  ·exact h
  ·omega) ⟨by omega,by omega⟩)
 have HOk:=LH (ptS_ok H.good g o);have HL:Hid (landed1 sr ⟨3,o,0,0,0,0,g,false⟩=if ptE sr g o≠0 then (Ob.zero,ptE sr g o) else if (ptS sr g o).kind≠1∧(ptS sr g o).kind≠2 then (Ob.zero,23) else (nearO (ptS sr g o) g o,0)):=LH rfl
 obtain ⟨Z,hZ⟩:∃Z,Z=landed1 sr ⟨3,o,0,0,0,0,g,false⟩:=⟨_,rfl⟩;rw[←hZ] at HL ⊢;obtain ⟨hb1,hb2,hB0⟩:=two_boxes9 w ⟨3,o,0,0,0,0,g,false⟩ Ob.zero;obtain ⟨W1,hW1⟩:∃W1,W1=(w.alloc (.cells (cellsP ⟨3,o,0,0,0,0,g,false⟩) 70)).alloc (.cells (cellsO Ob.zero) 129):=⟨_,rfl⟩;rw[←hW1] at hb1 hb2 hB0;have HF0:=LH hb1;have HO0:=LH hb2;have HB0:=LH ((HH.out.at_ HK.out).pure hB0);obtain ⟨z0,z1,z2,z3,z4,z5,z6,z7⟩:=hb1.cells;dsimp only at z0 z1 z2 z3 z4 z5 z6 z7;unfold cellsP cellsO Ob.zero at hW1;dsimp only at hW1;unfold cellsP at HW ⊢;dsimp only at HW ⊢;generalize ptE sr g o=E at *
 generalize ptS sr g o=q at *
 obtain ⟨q0,q1,q2,q3,q4,q5,q6,q7⟩:=q;clear hZ hf ho hg hW hb1 hb2 hB0 hK H hlb;go_enter Tryz.func145,Tryz.ntmps145;go_upto_region 1 with fail
 rw[←hW1];clear hW1
 go_wp2_with fail
 refine (HW.out _).mono ?_
 rintro e w2 ⟨rfl,hB2⟩;have HF2:=LH (HF0.out.on hB2);have HO2:=LH (HO0.out.on hB2);have HB2:=LH (HB0.out.pure hB2);clear hB2 z0 z1 z2 z3 z4 z5 z6 z7;obtain ⟨z0,z1,z2,z3,z4,z5,z6,z7⟩:=HF2.out.cells;dsimp only at z0 z1 z2 z3 z4 z5 z6 z7
 go_wp2_with fail
 refine (HP.out w2 (HB2.out.kk)).mono ?_
 rintro e w3 ⟨u,l3,rfl,hq,hJ3⟩;have HF3:=LH (HF2.out.onJ hJ3);have HO3:=LH (HO2.out.onJ hJ3);have HB3:=LH (HB2.out.step hJ3);clear hJ3 z0 z1 z2 z3 z4 z5 z6 z7
 by_cases hE:E=0
 ·subst hE;obtain ⟨⟨bq,rfl,hpq⟩,hl3⟩:=hq rfl;have HL3:=LH hl3;clear hl3;have HQ3:=LH hpq;clear hpq hq;obtain ⟨y0,y1,y2,y3,y4,y5,y6,y7⟩:=HQ3.out.cells;dsimp only at y0 y1 y2 y3 y4 y5 y6 y7;have HA1:=fun o=>(HQ3.out.on ((Below.refl w3.heap.size w3).alloc (Nat.le_refl _) o)).cells
  have HA2:=fun o o'=>(HQ3.out.on (((Below.refl w3.heap.size w3).alloc (Nat.le_refl _) o).alloc (by simp) o')).cells
  have x0:=fun o=>(HA1 o).1
  have x1:=fun o=>(HA1 o).2.1
  have x2:=fun o=>(HA1 o).2.2.1
  have x3:=fun o=>(HA1 o).2.2.2.1
  have x4:=fun o=>(HA1 o).2.2.2.2.1
  have x5:=fun o=>(HA1 o).2.2.2.2.2.1
  have x6:=fun o=>(HA1 o).2.2.2.2.2.2.1
  have x7:=fun o=>(HA1 o).2.2.2.2.2.2.2
  have v0:=fun o o'=>(HA2 o o').1
  have v1:=fun o o'=>(HA2 o o').2.1
  have v2:=fun o o'=>(HA2 o o').2.2.1
  have v3:=fun o o'=>(HA2 o o').2.2.2.1
  have v4:=fun o o'=>(HA2 o o').2.2.2.2.1
  have v5:=fun o o'=>(HA2 o o').2.2.2.2.2.1
  have v6:=fun o o'=>(HA2 o o').2.2.2.2.2.2.1
  have v7:=fun o o'=>(HA2 o o').2.2.2.2.2.2.2
  dsimp only at x0 x1 x2 x3 x4 x5 x6 x7 v0 v1 v2 v3 v4 v5 v6 v7;clear HA1 HA2;go_upto_region 5 with fail
  go_cut [10,11] (fun x y wx=>∃b1 b2,x= .pointer (some ⟨b1,0,none⟩)∧y= .pointer (some ⟨b2,0,none⟩)∧PBox wx b1 ⟨q0,q1,q2,q3,q4,q5,q6,q7⟩∧PBox wx b2 ⟨q0,q1,q2,q3,q4,q5,q6,q7⟩∧Below w3.heap.size w3 wx)
  case first =>
   go_region
   all_goals (go_wp2_with fail;go_meet;obtain ⟨e1,e2,e3⟩:=two_new w3 (cellsP ⟨q0,q1,q2,q3,q4,q5,q6,q7⟩) (cellsP ⟨q0,q1,q2,q3,q4,q5,q6,q7⟩) 70 70;first | exact ⟨_,_,rfl,rfl,e1,e2,e3⟩ | exact ⟨_,_,rfl,rfl,e2,e1,e3⟩)
  case rest =>
   obtain ⟨b1,b2,rfl,rfl,hp1,hp2,hB4⟩:=hcut;clear x0 x1 x2 x3 x4 x5 x6 x7 v0 v1 v2 v3 v4 v5 v6 v7 y0 y1 y2 y3 y4 y5 y6 y7;have HF4:=LH (HF3.out.on hB4);have HO4:=LH (HO3.out.on hB4);have HP4:=LH hp2;have HB4:=LH (HB3.out.pure hB4);clear hB4 hp1 hp2;obtain ⟨z0,z1,z2,z3,z4,z5,z6,z7⟩:=HF4.out.cells;obtain ⟨y0,y1,y2,y3,y4,y5,y6,y7⟩:=HP4.out.cells;dsimp only at z0 z1 z2 z3 z4 z5 z6 z7 y0 y1 y2 y3 y4 y5 y6 y7
   by_cases hk:q0=1∨q0=2
   ·obtain rfl:Z=(nearO ⟨q0,q1,q2,q3,q4,q5,q6,q7⟩ g o,0):=HL.out.trans (by rw[if_neg (by simp),if_neg (by omega)]);have HN4:=LH (HN.out _ HOk.out wc);generalize nearO ⟨q0,q1,q2,q3,q4,q5,q6,q7⟩ g o=O at *
    obtain ⟨o1,o2,o3,o4,o5,o6,o7⟩:=O;unfold cellsP cellsO at HN4;dsimp only at HN4
    rcases hk with rfl | rfl
    all_goals
     go_wp2_with fail
     refine HN4.out.mono ?_
     rintro e w5 ⟨rfl,hB5⟩;have HO5:=LH (HO4.out.on hB5);have HB5:=LH (HB4.out.pure hB5);clear hB5 z0 z1 z2 z3 z4 z5 z6 z7 y0 y1 y2 y3 y4 y5 y6 y7;obtain ⟨y0,y1,y2,y3,y4,y5,y6⟩:=HO5.out.cells;obtain ⟨f0,f1,f2,f3,f4,f5,f6⟩:=HO5.out.frozens;unfold Ob.zero at y0 y1 y2 y3 y4 y5 y6;dsimp only at y0 y1 y2 y3 y4 y5 y6;have HX:=LH (HO5.out.set7 o1 o2 o3 o4 o5 o6 o7);have HBX:=LH (jset7 (g:=w.heap.size+1) HB5.out (by omega) HO5.out (.int .i64 o1) (.int .i64 o2) (.int .i64 o3) (.int .i64 o4) (.int .i64 o5) (.int .i64 o6) (.int .i64 o7))
     go_wp2_with fail
     clear y0 y1 y2 y3 y4 y5 y6;obtain ⟨y0,y1,y2,y3,y4,y5,y6⟩:=HX.out.cells;dsimp only at y0 y1 y2 y3 y4 y5 y6;refine bodyPost_ret (v:= .tuple #[.agg (cellsO ⟨o1,o2,o3,o4,o5,o6,o7⟩),.int .u16 0]) ?_ rfl ⟨_,rfl,fun _=>HL3.out,HBX.out⟩
     simp[results,Tryz.f145,go_sem,cellsO,y0,y1,y2,y3,y4,y5,y6]
   ·have hk1:(q0 != 1)=true:=by simp;omega
    have hk2:(q0 != 2)=true:=by simp;omega
    obtain rfl:Z=(Ob.zero,23):=HL.out.trans (by rw[if_neg (by simp),if_pos (by omega)]);obtain ⟨x0,x1,x2,x3,x4,x5,x6⟩:=HO4.out.cells;obtain ⟨f0,f1,f2,f3,f4,f5,f6⟩:=HO4.out.frozens;unfold Ob.zero at x0 x1 x2 x3 x4 x5 x6;dsimp only at x0 x1 x2 x3 x4 x5 x6;have HX:=LH (HO4.out.set7 0 0 0 0 0 0 0);have HBX:=LH (jset7 (g:=w.heap.size+1) HB4.out (by omega) HO4.out (.int .i64 0) (.int .i64 0) (.int .i64 0) (.int .i64 0) (.int .i64 0) (.int .i64 0) (.int .i64 0))
    go_wp2_with fail
    clear x0 x1 x2 x3 x4 x5 x6;obtain ⟨x0,x1,x2,x3,x4,x5,x6⟩:=HX.out.cells;dsimp only at x0 x1 x2 x3 x4 x5 x6;refine bodyPost_ret (v:= .tuple #[.agg (cellsO Ob.zero),.int .u16 23]) ?_ rfl ⟨_,rfl,fun h=>absurd h (by decide),HBX.out⟩
    simp[results,Tryz.f145,go_sem,cellsO,Ob.zero,x0,x1,x2,x3,x4,x5,x6]
 ·have hE1:(E != 0)=true:=by simp[hE]
  obtain rfl:Z=(Ob.zero,E):=HL.out.trans (if_pos hE);obtain ⟨x0,x1,x2,x3,x4,x5,x6⟩:=HO3.out.cells;obtain ⟨f0,f1,f2,f3,f4,f5,f6⟩:=HO3.out.frozens;unfold Ob.zero at x0 x1 x2 x3 x4 x5 x6;dsimp only at x0 x1 x2 x3 x4 x5 x6;have HX:=LH (HO3.out.set7 0 0 0 0 0 0 0);have HBX:=LH (jset7 (g:=w.heap.size+1) HB3.out (by omega) HO3.out (.int .i64 0) (.int .i64 0) (.int .i64 0) (.int .i64 0) (.int .i64 0) (.int .i64 0) (.int .i64 0))
  go_wp2_with fail
  clear x0 x1 x2 x3 x4 x5 x6;obtain ⟨x0,x1,x2,x3,x4,x5,x6⟩:=HX.out.cells;dsimp only at x0 x1 x2 x3 x4 x5 x6;refine bodyPost_ret (v:= .tuple #[.agg (cellsO Ob.zero),.int .u16 E]) ?_ rfl ⟨_,rfl,fun h=>absurd h hE,HBX.out⟩
  simp[results,Tryz.f145,go_sem,cellsO,Ob.zero,x0,x1,x2,x3,x4,x5,x6]
set_option maxHeartbeats 2000000 in
theorem landed_2N {n0:Bs} {K:List (Int × Int)→World→Prop} {s:Value} {sr:Sr} (H:SrcN n0 K s sr) (l:List (Int × Int)) (hlb:l.length+2≤1000000) (f:Pt) (w:World) (hK:K l w) (hf:OkP f) (hk:f.kind=3) (hd:f.dbl=true) :
  Calls Tryz.prog 145 #[s,.agg (cellsP f)] w (ObN n0 K l [(f.seg,f.off),(f.seg,f.off+1)] (landed2 sr f) w):=by
 obtain ⟨t,v,rfl⟩:=H.form;have HH:=LH H;have HK:=LH hK;obtain ⟨k,o,d,r,z,c,g,b⟩:=f;dsimp only at hk hd;subst hk hd;have hin:(0≤o∧o<536870912)∧d=0∧r=0∧z=0∧c=0∧(0≤g∧g<4294967296):=by
  rcases hf with e | ⟨e,_⟩ | ⟨e,_⟩ | ⟨_,h⟩
  ·cases e
  ·exact absurd e (by simp)
  ·exact absurd e (by simp)
  ·exact h
 obtain ⟨ho,rfl,rfl,rfl,rfl,hg⟩:=hin;have hW:=fun X=>pwords_any ⟨3,o,0,0,0,0,g,true⟩ X hf
 rw[show wordN ⟨3,o,0,0,0,0,g,true⟩=2 from rfl,show wordE ⟨3,o,0,0,0,0,g,true⟩=0 from rfl] at hW
 have HW:=LH hW;have HP:=LH (fun X (hX:K l X)=>pointers_2N H l hlb g o X hX ⟨by omega,by omega⟩ ⟨by omega,by omega⟩)
 have HN:=LH (fun p x y X=>thing_any p x y X)
 have HL:Hid (landed2 sr ⟨3,o,0,0,0,0,g,true⟩=if ptE2 sr g o≠0 then (Ob.zero,ptE2 sr g o) else if (ptS sr g (o+1)).kind≠1∧(ptS sr g (o+1)).kind≠2 then (Ob.zero,23) else if (ptS sr g o).kind≠3∨(ptS sr g o).dbl=true∨(ptS sr g (o+1)).off≠0 then (Ob.zero,23) else (thingO (ptS sr g (o+1)) (ptS sr g o).seg (ptS sr g o).off,0)):=LH rfl
 obtain ⟨Z,hZ⟩:∃Z,Z=landed2 sr ⟨3,o,0,0,0,0,g,true⟩:=⟨_,rfl⟩;rw[←hZ] at HL ⊢;obtain ⟨hb1,hb2,hB0⟩:=two_boxes9 w ⟨3,o,0,0,0,0,g,true⟩ Ob.zero;obtain ⟨W1,hW1⟩:∃W1,W1=(w.alloc (.cells (cellsP ⟨3,o,0,0,0,0,g,true⟩) 70)).alloc (.cells (cellsO Ob.zero) 129):=⟨_,rfl⟩;rw[←hW1] at hb1 hb2 hB0;have HF0:=LH hb1;have HO0:=LH hb2;have HB0:=LH ((HH.out.at_ HK.out).pure hB0);obtain ⟨z0,z1,z2,z3,z4,z5,z6,z7⟩:=hb1.cells;dsimp only at z0 z1 z2 z3 z4 z5 z6 z7;unfold cellsP cellsO Ob.zero at hW1;dsimp only at hW1;unfold cellsP at HW ⊢;dsimp only at HW ⊢;generalize ptE2 sr g o=E at *
 generalize ptS sr g o=q at *
 obtain ⟨q0,q1,q2,q3,q4,q5,q6,q7⟩:=q;generalize ptS sr g (o+1)=r at *
 obtain ⟨r0,r1,r2,r3,r4,r5,r6,r7⟩:=r;clear hZ hf ho hg hW hb1 hb2 hB0 hK H hlb;go_enter Tryz.func145,Tryz.ntmps145;go_upto_region 1 with fail
 rw[←hW1];clear hW1
 go_wp2_with fail
 refine (HW.out _).mono ?_
 rintro e w2 ⟨rfl,hB2⟩;have HF2:=LH (HF0.out.on hB2);have HO2:=LH (HO0.out.on hB2);have HB2:=LH (HB0.out.pure hB2);clear hB2 z0 z1 z2 z3 z4 z5 z6 z7;obtain ⟨z0,z1,z2,z3,z4,z5,z6,z7⟩:=HF2.out.cells;dsimp only at z0 z1 z2 z3 z4 z5 z6 z7
 go_wp2_with fail
 refine (HP.out w2 (HB2.out.kk)).mono ?_
 rintro e w3 ⟨u,l3,rfl,hq,hJ3⟩;have HF3:=LH (HF2.out.onJ hJ3);have HO3:=LH (HO2.out.onJ hJ3);have HB3:=LH (HB2.out.step hJ3);clear hJ3 z0 z1 z2 z3 z4 z5 z6 z7
 by_cases hE:E=0
 ·subst hE;obtain ⟨⟨bq,rfl,hpq⟩,hl3⟩:=hq rfl;have HL3:=LH hl3;clear hl3;have HQ3:=LH hpq;clear hpq hq;obtain ⟨y0,y1,y2,y3,y4,y5,y6,y7⟩:=HQ3.out.cells1;obtain ⟨n0,n1,n2,n3,n4,n5,n6,n7⟩:=HQ3.out.cells2;dsimp only at y0 y1 y2 y3 y4 y5 y6 y7 n0 n1 n2 n3 n4 n5 n6 n7;have HA1:=fun o=>(HQ3.out.on ((Below.refl w3.heap.size w3).alloc (Nat.le_refl _) o)).cells1
  have x0:=fun o=>(HA1 o).1
  have x1:=fun o=>(HA1 o).2.1
  have x2:=fun o=>(HA1 o).2.2.1
  have x3:=fun o=>(HA1 o).2.2.2.1
  have x4:=fun o=>(HA1 o).2.2.2.2.1
  have x5:=fun o=>(HA1 o).2.2.2.2.2.1
  have x6:=fun o=>(HA1 o).2.2.2.2.2.2.1
  have x7:=fun o=>(HA1 o).2.2.2.2.2.2.2
  clear HA1;have HA1:=fun o=>(HQ3.out.on ((Below.refl w3.heap.size w3).alloc (Nat.le_refl _) o)).cells2
  have m0:=fun o=>(HA1 o).1
  have m1:=fun o=>(HA1 o).2.1
  have m2:=fun o=>(HA1 o).2.2.1
  have m3:=fun o=>(HA1 o).2.2.2.1
  have m4:=fun o=>(HA1 o).2.2.2.2.1
  have m5:=fun o=>(HA1 o).2.2.2.2.2.1
  have m6:=fun o=>(HA1 o).2.2.2.2.2.2.1
  have m7:=fun o=>(HA1 o).2.2.2.2.2.2.2
  clear HA1;have HA2:=fun o o'=>(HQ3.out.on (((Below.refl w3.heap.size w3).alloc (Nat.le_refl _) o).alloc (by simp) o')).cells1
  have v0:=fun o o'=>(HA2 o o').1
  have v1:=fun o o'=>(HA2 o o').2.1
  have v2:=fun o o'=>(HA2 o o').2.2.1
  have v3:=fun o o'=>(HA2 o o').2.2.2.1
  have v4:=fun o o'=>(HA2 o o').2.2.2.2.1
  have v5:=fun o o'=>(HA2 o o').2.2.2.2.2.1
  have v6:=fun o o'=>(HA2 o o').2.2.2.2.2.2.1
  have v7:=fun o o'=>(HA2 o o').2.2.2.2.2.2.2
  clear HA2;have HA2:=fun o o'=>(HQ3.out.on (((Below.refl w3.heap.size w3).alloc (Nat.le_refl _) o).alloc (by simp) o')).cells2
  have k0:=fun o o'=>(HA2 o o').1
  have k1:=fun o o'=>(HA2 o o').2.1
  have k2:=fun o o'=>(HA2 o o').2.2.1
  have k3:=fun o o'=>(HA2 o o').2.2.2.1
  have k4:=fun o o'=>(HA2 o o').2.2.2.2.1
  have k5:=fun o o'=>(HA2 o o').2.2.2.2.2.1
  have k6:=fun o o'=>(HA2 o o').2.2.2.2.2.2.1
  have k7:=fun o o'=>(HA2 o o').2.2.2.2.2.2.2
  clear HA2;dsimp only at x0 x1 x2 x3 x4 x5 x6 x7 m0 m1 m2 m3 m4 m5 m6 m7 v0 v1 v2 v3 v4 v5 v6 v7 k0 k1 k2 k3 k4 k5 k6 k7;go_upto_region 5 with fail
  go_cut [10,11] (fun x y wx=>∃b1 b2,x= .pointer (some ⟨b1,0,none⟩)∧y= .pointer (some ⟨b2,0,none⟩)∧PBox wx b1 ⟨q0,q1,q2,q3,q4,q5,q6,q7⟩∧PBox wx b2 ⟨r0,r1,r2,r3,r4,r5,r6,r7⟩∧Below w3.heap.size w3 wx)
  case first =>
   go_region
   all_goals (go_wp2_with fail;go_meet;first | (obtain ⟨e1,e2,e3⟩:=two_new w3 (cellsP ⟨q0,q1,q2,q3,q4,q5,q6,q7⟩) (cellsP ⟨r0,r1,r2,r3,r4,r5,r6,r7⟩) 70 70;exact ⟨_,_,rfl,rfl,e1,e2,e3⟩) | (obtain ⟨e1,e2,e3⟩:=two_new w3 (cellsP ⟨r0,r1,r2,r3,r4,r5,r6,r7⟩) (cellsP ⟨q0,q1,q2,q3,q4,q5,q6,q7⟩) 70 70;exact ⟨_,_,rfl,rfl,e2,e1,e3⟩))
  case rest =>
   obtain ⟨b1,b2,rfl,rfl,hp1,hp2,hB4⟩:=hcut;clear x0 x1 x2 x3 x4 x5 x6 x7 m0 m1 m2 m3 m4 m5 m6 m7 v0 v1 v2 v3 v4 v5 v6 v7 k0 k1 k2 k3 k4 k5 k6 k7 y0 y1 y2 y3 y4 y5 y6 y7 n0 n1 n2 n3 n4 n5 n6 n7;have HF4:=LH (HF3.out.on hB4);have HO4:=LH (HO3.out.on hB4);have HP4:=LH hp2;have HQ4:=LH hp1;have HB4:=LH (HB3.out.pure hB4);clear hB4 hp1 hp2;obtain ⟨z0,z1,z2,z3,z4,z5,z6,z7⟩:=HF4.out.cells;obtain ⟨y0,y1,y2,y3,y4,y5,y6,y7⟩:=HP4.out.cells;obtain ⟨n0,n1,n2,n3,n4,n5,n6,n7⟩:=HQ4.out.cells;dsimp only at z0 z1 z2 z3 z4 z5 z6 z7 y0 y1 y2 y3 y4 y5 y6 y7 n0 n1 n2 n3 n4 n5 n6 n7
   by_cases hk:r0=1∨r0=2
   ·have HZ:Hid (Z=if q0≠3∨q7=true∨r1≠0 then (Ob.zero,23) else (thingO ⟨r0,r1,r2,r3,r4,r5,r6,r7⟩ q6 q1,0)):=LH (HL.out.trans (by rw[if_neg (by simp),if_neg (by omega)]))
    have bad:(q0≠3∨q7=true∨r1≠0)→Z=(Ob.zero,23):=fun h=>HZ.out.trans (if_pos h)
    have good:¬(q0≠3∨q7=true∨r1≠0)→Z=(thingO ⟨r0,r1,r2,r3,r4,r5,r6,r7⟩ q6 q1,0):=fun h=>HZ.out.trans (if_neg h)
    have HN4:=LH (HN.out ⟨r0,r1,r2,r3,r4,r5,r6,r7⟩ q6 q1 wc);clear HZ HL
    by_cases hq:q0=3
    ·subst hq;cases q7 with
     | true =>
      obtain rfl:=bad (.inr (.inl rfl));clear bad good
      rcases hk with rfl | rfl
      all_goals
       obtain ⟨x0,x1,x2,x3,x4,x5,x6⟩:=HO4.out.cells;obtain ⟨f0,f1,f2,f3,f4,f5,f6⟩:=HO4.out.frozens;unfold Ob.zero at x0 x1 x2 x3 x4 x5 x6;dsimp only at x0 x1 x2 x3 x4 x5 x6;have HX:=LH (HO4.out.set7 0 0 0 0 0 0 0);have HBX:=LH (jset7 (g:=w.heap.size+1) HB4.out (by omega) HO4.out (.int .i64 0) (.int .i64 0) (.int .i64 0) (.int .i64 0) (.int .i64 0) (.int .i64 0) (.int .i64 0))
       go_wp2_with fail
       clear x0 x1 x2 x3 x4 x5 x6;obtain ⟨x0,x1,x2,x3,x4,x5,x6⟩:=HX.out.cells;dsimp only at x0 x1 x2 x3 x4 x5 x6;refine bodyPost_ret (v:= .tuple #[.agg (cellsO Ob.zero),.int .u16 23]) ?_ rfl ⟨_,rfl,fun h=>absurd h (by decide),HBX.out⟩
       simp[results,Tryz.f145,go_sem,cellsO,Ob.zero,x0,x1,x2,x3,x4,x5,x6]
     | false =>
      by_cases hr:r1=0
      ·subst hr;obtain rfl:=good (by simp);generalize thingO ⟨r0,0,r2,r3,r4,r5,r6,r7⟩ q6 q1=O at *
       obtain ⟨o1,o2,o3,o4,o5,o6,o7⟩:=O;unfold cellsP cellsO at HN4;dsimp only at HN4;clear bad good
       rcases hk with rfl | rfl
       all_goals
        go_wp2_with fail
        refine HN4.out.mono ?_
        rintro e w5 ⟨rfl,hB5⟩;have HO5:=LH (HO4.out.on hB5);have HB5:=LH (HB4.out.pure hB5);clear hB5 z0 z1 z2 z3 z4 z5 z6 z7 y0 y1 y2 y3 y4 y5 y6 y7;obtain ⟨y0,y1,y2,y3,y4,y5,y6⟩:=HO5.out.cells;obtain ⟨f0,f1,f2,f3,f4,f5,f6⟩:=HO5.out.frozens;unfold Ob.zero at y0 y1 y2 y3 y4 y5 y6;dsimp only at y0 y1 y2 y3 y4 y5 y6;have HX:=LH (HO5.out.set7 o1 o2 o3 o4 o5 o6 o7);have HBX:=LH (jset7 (g:=w.heap.size+1) HB5.out (by omega) HO5.out (.int .i64 o1) (.int .i64 o2) (.int .i64 o3) (.int .i64 o4) (.int .i64 o5) (.int .i64 o6) (.int .i64 o7))
        go_wp2_with fail
        clear y0 y1 y2 y3 y4 y5 y6;obtain ⟨y0,y1,y2,y3,y4,y5,y6⟩:=HX.out.cells;dsimp only at y0 y1 y2 y3 y4 y5 y6;refine bodyPost_ret (v:= .tuple #[.agg (cellsO ⟨o1,o2,o3,o4,o5,o6,o7⟩),.int .u16 0]) ?_ rfl ⟨_,rfl,fun _=>HL3.out,HBX.out⟩
        simp[results,Tryz.f145,go_sem,cellsO,y0,y1,y2,y3,y4,y5,y6]
      ·have hr1:(r1 != 0)=true:=by simp[hr]
       obtain rfl:=bad (.inr (.inr hr));clear bad good
       rcases hk with rfl | rfl
       all_goals
        obtain ⟨x0,x1,x2,x3,x4,x5,x6⟩:=HO4.out.cells;obtain ⟨f0,f1,f2,f3,f4,f5,f6⟩:=HO4.out.frozens;unfold Ob.zero at x0 x1 x2 x3 x4 x5 x6;dsimp only at x0 x1 x2 x3 x4 x5 x6;have HX:=LH (HO4.out.set7 0 0 0 0 0 0 0);have HBX:=LH (jset7 (g:=w.heap.size+1) HB4.out (by omega) HO4.out (.int .i64 0) (.int .i64 0) (.int .i64 0) (.int .i64 0) (.int .i64 0) (.int .i64 0) (.int .i64 0))
        go_wp2_with fail
        clear x0 x1 x2 x3 x4 x5 x6;obtain ⟨x0,x1,x2,x3,x4,x5,x6⟩:=HX.out.cells;dsimp only at x0 x1 x2 x3 x4 x5 x6;refine bodyPost_ret (v:= .tuple #[.agg (cellsO Ob.zero),.int .u16 23]) ?_ rfl ⟨_,rfl,fun h=>absurd h (by decide),HBX.out⟩
        simp[results,Tryz.f145,go_sem,cellsO,Ob.zero,x0,x1,x2,x3,x4,x5,x6]
    ·have hq1:(q0 != 3)=true:=by simp[hq]
     obtain rfl:=bad (.inl hq);clear bad good
     rcases hk with rfl | rfl
     all_goals
      obtain ⟨x0,x1,x2,x3,x4,x5,x6⟩:=HO4.out.cells;obtain ⟨f0,f1,f2,f3,f4,f5,f6⟩:=HO4.out.frozens;unfold Ob.zero at x0 x1 x2 x3 x4 x5 x6;dsimp only at x0 x1 x2 x3 x4 x5 x6;have HX:=LH (HO4.out.set7 0 0 0 0 0 0 0);have HBX:=LH (jset7 (g:=w.heap.size+1) HB4.out (by omega) HO4.out (.int .i64 0) (.int .i64 0) (.int .i64 0) (.int .i64 0) (.int .i64 0) (.int .i64 0) (.int .i64 0))
      go_wp2_with fail
      clear x0 x1 x2 x3 x4 x5 x6;obtain ⟨x0,x1,x2,x3,x4,x5,x6⟩:=HX.out.cells;dsimp only at x0 x1 x2 x3 x4 x5 x6;refine bodyPost_ret (v:= .tuple #[.agg (cellsO Ob.zero),.int .u16 23]) ?_ rfl ⟨_,rfl,fun h=>absurd h (by decide),HBX.out⟩
      simp[results,Tryz.f145,go_sem,cellsO,Ob.zero,x0,x1,x2,x3,x4,x5,x6]
   ·have hk1:(r0 != 1)=true:=by simp;omega
    have hk2:(r0 != 2)=true:=by simp;omega
    obtain rfl:Z=(Ob.zero,23):=HL.out.trans (by rw[if_neg (by simp),if_pos (by omega)]);obtain ⟨x0,x1,x2,x3,x4,x5,x6⟩:=HO4.out.cells;obtain ⟨f0,f1,f2,f3,f4,f5,f6⟩:=HO4.out.frozens;unfold Ob.zero at x0 x1 x2 x3 x4 x5 x6;dsimp only at x0 x1 x2 x3 x4 x5 x6;have HX:=LH (HO4.out.set7 0 0 0 0 0 0 0);have HBX:=LH (jset7 (g:=w.heap.size+1) HB4.out (by omega) HO4.out (.int .i64 0) (.int .i64 0) (.int .i64 0) (.int .i64 0) (.int .i64 0) (.int .i64 0) (.int .i64 0))
    go_wp2_with fail
    clear x0 x1 x2 x3 x4 x5 x6;obtain ⟨x0,x1,x2,x3,x4,x5,x6⟩:=HX.out.cells;dsimp only at x0 x1 x2 x3 x4 x5 x6;refine bodyPost_ret (v:= .tuple #[.agg (cellsO Ob.zero),.int .u16 23]) ?_ rfl ⟨_,rfl,fun h=>absurd h (by decide),HBX.out⟩
    simp[results,Tryz.f145,go_sem,cellsO,Ob.zero,x0,x1,x2,x3,x4,x5,x6]
 ·have hE1:(E != 0)=true:=by simp[hE]
  obtain rfl:Z=(Ob.zero,E):=HL.out.trans (if_pos hE);obtain ⟨x0,x1,x2,x3,x4,x5,x6⟩:=HO3.out.cells;obtain ⟨f0,f1,f2,f3,f4,f5,f6⟩:=HO3.out.frozens;unfold Ob.zero at x0 x1 x2 x3 x4 x5 x6;dsimp only at x0 x1 x2 x3 x4 x5 x6;have HX:=LH (HO3.out.set7 0 0 0 0 0 0 0);have HBX:=LH (jset7 (g:=w.heap.size+1) HB3.out (by omega) HO3.out (.int .i64 0) (.int .i64 0) (.int .i64 0) (.int .i64 0) (.int .i64 0) (.int .i64 0) (.int .i64 0))
  go_wp2_with fail
  clear x0 x1 x2 x3 x4 x5 x6;obtain ⟨x0,x1,x2,x3,x4,x5,x6⟩:=HX.out.cells;dsimp only at x0 x1 x2 x3 x4 x5 x6;refine bodyPost_ret (v:= .tuple #[.agg (cellsO Ob.zero),.int .u16 E]) ?_ rfl ⟨_,rfl,fun h=>absurd h hE,HBX.out⟩
  simp[results,Tryz.f145,go_sem,cellsO,Ob.zero,x0,x1,x2,x3,x4,x5,x6]
end Go.Proofs.YtmmlfnblodfjbaaGreatDoor
