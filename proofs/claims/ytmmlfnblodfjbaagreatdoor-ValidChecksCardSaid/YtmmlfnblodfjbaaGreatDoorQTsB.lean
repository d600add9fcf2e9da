/- Layer 9, the document: Follow: where the word points to something near. -/
import Derived.Test.YtmmlfnblodfjbaaGreatDoorQRsA
import Derived.Deep.RegionHeldLaw
import Derived.Deep.DeepCutAuto
set_option maxRecDepth 100000
namespace Go.Proofs.YtmmlfnblodfjbaaGreatDoor
open Go.RowKit Go.Deep
set_option maxHeartbeats 4000000 in
theorem rsfollow_near (v:Value) (ls:List (List Int)) (g a:Int) (w:World) (h:ArV w w.heap.size v ls) (hlen:ls.length≤1000000000000) (hu:AllU ls) (hE:ptE (srA ls) g a=0) (hk:(ptZ ls g a).kind=1∨(ptZ ls g a).kind=2)
  (hoff: -1073741824≤(ptZ ls g a).off∧(ptZ ls g a).off≤1073741824) (ha: -1099511627776≤a∧a≤1099511627776) (hq:OkQ (ptrO (thingO (ptZ ls g a) g (a+1+(ptZ ls g a).off)))) :
  Calls Tryz.prog 76 #[srcV v,.int .i64 g,.int .i64 a] w (ObI (checkO (srA ls) (thingO (ptZ ls g a) g (a+1+(ptZ ls g a).off),0)) w):=by
 have HP:=LH (fun X (hX:Below w.heap.size w X)=>rsptr_any v ls g a X (h.on hX) hlen hu)
 rw[hE] at HP;have HN:=LH (fun X=>rsnear_any (ptZ ls g a) X)
 rw[show decide ((ptZ ls g a).kind=1∨(ptZ ls g a).kind=2)=true from decide_eq_true hk] at HN
 have HJ:=LH (fun X=>rsobj_any (ptZ ls g a) g (a+1+(ptZ ls g a).off) X)
 have HBo:=LH (fun X (hX:Below w.heap.size w X)=>rsbounds_any v ls (thingO (ptZ ls g a) g (a+1+(ptZ ls g a).off)) X (h.on hX) hlen hq (by show (ptZ ls g a).kind≠0;omega))
 have hk0:((ptZ ls g a).kind == 0)=false:=by simp;omega
 obtain ⟨A,qc,rfl⟩:=h.form rfl;obtain ⟨W1,hW1⟩:∃W1,W1=(w.alloc (.cells #[.slice A ls.length qc,.bool false,.slice none 0 0] 96)).alloc (.cells (cellsO Ob.zero) 129):=⟨_,rfl⟩;obtain ⟨b1,b2,hB1⟩:=boxesFo w _ W1 hW1;have HO1:=LH b2;have HS1:=LH b1;have HB1:=LH hB1;obtain ⟨s0,s1⟩:=b1.cells;have s2:=b1.cell2;generalize checkO (srA ls) (thingO (ptZ ls g a) g (a+1+(ptZ ls g a).off),0)=R at *
 generalize hO:thingO (ptZ ls g a) g (a+1+(ptZ ls g a).off)=O at *
 generalize ptZ ls g a=p at *
 generalize srA ls=sr at *
 obtain ⟨k,o,d,r,z,c,sg,db⟩:=p;dsimp only at hk hk0 hoff;have hw1:IntKind.i64.wrap (a+1)=a+1:=IntWalk.i64_in _ (by omega);have hw2:IntKind.i64.wrap (a+1+o)=a+1+o:=IntWalk.i64_in _ (by omega);have HWr:=LH (And.intro hw1 hw2);unfold srcV cellsP at HP;unfold srcV at HBo;unfold cellsP at HN HJ;dsimp only at HP HN HJ;unfold srcV;unfold cellsO Ob.zero at hW1;dsimp only at hW1;obtain ⟨⟨r1,r2,r3,r4,r5,r6,r7⟩,F⟩:=R;obtain ⟨t1,t2,t3,t4,t5,t6,t7⟩:=O;unfold cellsO at HJ HBo;dsimp only at HJ HBo;generalize ls.length=n at *
 clear h hlen hu b1 b2 hB1 hE hq hO hk hoff ha hw1 hw2;go_enter Tryz.func76,Tryz.ntmps76;go_upto_region 1 with fail
 rw[←hW1];clear hW1
 go_wp2_with fail
 refine (HP.out _ HB1.out).mono ?_
 rintro e w2 ⟨rfl,hB2⟩;obtain ⟨w3,hw3⟩:∃w3,w3=w2.alloc (.cells #[.int .i64 k,.int .i64 o,.int .i64 d,.int .i64 r,.int .i64 z,.int .i64 c,.int .i64 sg,.bool db] 70):=⟨_,rfl⟩;have hB3:Below w2.heap.size w2 w3:=by rw[hw3];exact (Below.refl _ _).alloc (Nat.le_refl _) _
 have HQ3:Hid (PZBox w3 w2.heap.size ⟨k,o,d,r,z,c,sg,db⟩):=LH (by rw[hw3];exact PZBox.new w2 ⟨k,o,d,r,z,c,sg,db⟩);have HO3:=LH (HO1.out.on (bseqS hB2 hB3));have HS3:=LH (HS1.out.on (bseqS hB2 hB3));have HB3:=LH (HB1.out.trans ((bseqS hB2 hB3).mono HB1.out.size));clear hB2 hB3 s0 s1 s2;go_upto_region 2 with fail
 rw[←hw3];clear hw3;obtain ⟨z0,z1,z2,z3,z4,z5,z6,z7⟩:=HQ3.out.cells;dsimp only at z0 z1 z2 z3 z4 z5 z6 z7
 go_wp2_with fail
 refine (HN.out _).mono ?_
 rintro e w4 ⟨rfl,hB4⟩;have HB4:=LH (bseqS HB3.out hB4);have HO4:=LH (HO3.out.on hB4);have HCs:Hid (∀X,Below w4.heap.size w4 X→(X.cell? ⟨w.heap.size,0,none⟩=some (.slice A n qc)∧X.cell? ⟨w.heap.size,1,none⟩=some (.bool false)∧X.cell? ⟨w.heap.size,2,none⟩=some (.slice none 0 0))∧(X.cell? ⟨w2.heap.size,0,none⟩=some (.int .i64 k)∧X.cell? ⟨w2.heap.size,1,none⟩=some (.int .i64 o)∧X.cell? ⟨w2.heap.size,2,none⟩=some (.int .i64 d)∧X.cell? ⟨w2.heap.size,3,none⟩=some (.int .i64 r)∧X.cell? ⟨w2.heap.size,4,none⟩=some (.int .i64 z)∧X.cell? ⟨w2.heap.size,5,none⟩=some (.int .i64 c)∧X.cell? ⟨w2.heap.size,6,none⟩=some (.int .i64 sg)∧X.cell? ⟨w2.heap.size,7,none⟩=some (.bool db))):=LH (fun X hX=>by
  have hs:=(HS3.out.on (bseqS hB4 hX));have hz:=((HQ3.out.on hB4).on hX).cells;dsimp only at hz;exact ⟨⟨hs.cells.1,hs.cells.2,hs.cell2⟩,hz⟩)
 clear hB4 z0 z1 z2 z3 z4 z5 z6 z7;obtain ⟨⟨s0,s1,s2⟩,z0,z1,z2,z3,z4,z5,z6,z7⟩:=HCs.out w4 (Below.refl _ _);go_upto_region 5 with fail
 have HD0:Hid (Below w4.heap.size w4 w4.drew):=LH (Below.refl _ _).drew;have HD1:Hid (Below w4.heap.size w4 (w4.alloc (.cells #[.int .i64 0,.int .i64 0,.int .i64 0,.int .i64 0,.int .i64 0,.int .i64 0,.int .i64 0] 129)).drew):=LH ((Below.refl _ _).alloc (Nat.le_refl _) _).drew;have HUz:Hid (OBox (w4.alloc (.cells #[.int .i64 0,.int .i64 0,.int .i64 0,.int .i64 0,.int .i64 0,.int .i64 0,.int .i64 0] 129)).drew w4.heap.size Ob.zero):=LH (OBox.new w4 Ob.zero);have HUw:Hid (∀X Y:World,Below (X.alloc (.cells #[.int .i64 0,.int .i64 0,.int .i64 0,.int .i64 0,.int .i64 0,.int .i64 0,.int .i64 0] 129)).heap.size (X.alloc (.cells #[.int .i64 0,.int .i64 0,.int .i64 0,.int .i64 0,.int .i64 0,.int .i64 0,.int .i64 0] 129)) Y→OBox Y X.heap.size Ob.zero):=LH (fun X Y hX=>(OBox.new X Ob.zero).on hX)
 have HNw:Hid (∀X:World,OBox (X.alloc (.cells #[.int .i64 r1,.int .i64 r2,.int .i64 r3,.int .i64 r4,.int .i64 r5,.int .i64 r6,.int .i64 r7] 129)) X.heap.size ⟨r1,r2,r3,r4,r5,r6,r7⟩):=LH (fun X=>OBox.new X ⟨r1,r2,r3,r4,r5,r6,r7⟩)
 have HC0:=LH (HCs.out _ HD0.out);have HC1:=LH (HCs.out _ HD1.out);obtain ⟨wr1,wr2⟩:=HWr.out
 go_cut [10,11] (fun s10 s11 wx=>∃b,s10= .pointer (some ⟨b,0,none⟩)∧s11= .int .i64 F∧OBox wx b ⟨r1,r2,r3,r4,r5,r6,r7⟩∧Below w4.heap.size w4 wx)
 case first =>
  go_region_held_law (fun X=>(X.cell? ⟨w.heap.size,0,none⟩=some (.slice A n qc)∧X.cell? ⟨w.heap.size,1,none⟩=some (.bool false)∧X.cell? ⟨w.heap.size,2,none⟩=some (.slice none 0 0))∧(X.cell? ⟨w2.heap.size,0,none⟩=some (.int .i64 k)∧X.cell? ⟨w2.heap.size,1,none⟩=some (.int .i64 o)∧X.cell? ⟨w2.heap.size,2,none⟩=some (.int .i64 d)∧X.cell? ⟨w2.heap.size,3,none⟩=some (.int .i64 r)∧X.cell? ⟨w2.heap.size,4,none⟩=some (.int .i64 z)∧X.cell? ⟨w2.heap.size,5,none⟩=some (.int .i64 c)∧X.cell? ⟨w2.heap.size,6,none⟩=some (.int .i64 sg)∧X.cell? ⟨w2.heap.size,7,none⟩=some (.bool db)))
   (with_reducible first | exact HC0.out | exact HC1.out | exact HSt.out | exact HCs.out _ HT6.out | exact HCs.out _ (HT6a.out _) | exact HCs.out _ HT5.out | exact HCs.out _ (HT5a.out _)) (first
   | (go_at_call 112;with_reducible refine (HJ.out _).mono ?_;intro e w5 hR;obtain ⟨he5,hB5⟩:=hR;subst he5;have HT5:Hid (Below w4.heap.size w4 w5):=LH (bseqS HD1.out hB5);have HU5:Hid (OBox w5 w4.heap.size Ob.zero):=LH (HUz.out.on hB5);have HT5a:Hid (∀o,Below w4.heap.size w4 (w5.alloc o)):=LH (fun o=>HT5.out.alloc HT5.out.size o))
   | (go_at_call 112;with_reducible refine (HJ.out _).mono ?_;intro e w5 hR;obtain ⟨he5,hB5⟩:=hR;subst he5;have HT5:Hid (Below w4.heap.size w4 w5):=LH (bseqS HD0.out hB5);have HT5a:Hid (∀o,Below w4.heap.size w4 (w5.alloc o)):=LH (fun o=>HT5.out.alloc HT5.out.size o))
   | (go_at_call 111;with_reducible refine (HBo.out _ (bseqS HB4.out HT5.out)).mono ?_;intro e w6 hR;unfold ObI at hR;obtain ⟨he6,hB6⟩:=hR;subst he6;unfold cellsO;dsimp only;have HT6:Hid (Below w4.heap.size w4 w6):=LH (bseqS HT5.out hB6);have HT6a:Hid (∀o,Below w4.heap.size w4 (w6.alloc o)):=LH (fun o=>HT6.out.alloc HT6.out.size o);have HU6:Hid (OBox w6 w4.heap.size Ob.zero):=LH (HU5.out.on hB6);obtain ⟨x0,x1,x2,x3,x4,x5,x6⟩:=HU6.out.cells;obtain ⟨y0,y1,y2,y3,y4,y5,y6⟩:=HU6.out.frozens;unfold Ob.zero at x0 x1 x2 x3 x4 x5 x6;dsimp only at x0 x1 x2 x3 x4 x5 x6;have HSt:=LH (HCs.out _ (below_set7 HT6.out (g:=w4.heap.size) (Nat.le_refl _) (.int .i64 r1) (.int .i64 r2) (.int .i64 r3) (.int .i64 r4) (.int .i64 r5) (.int .i64 r6) (.int .i64 r7))))
   | (go_at_call 111;with_reducible refine (HBo.out _ (bseqS HB4.out HT5.out)).mono ?_;intro e w6 hR;unfold ObI at hR;obtain ⟨he6,hB6⟩:=hR;subst he6;unfold cellsO;dsimp only;have HT6:Hid (Below w4.heap.size w4 w6):=LH (bseqS HT5.out hB6);have HT6a:Hid (∀o,Below w4.heap.size w4 (w6.alloc o)):=LH (fun o=>HT6.out.alloc HT6.out.size o))
   | (go_at_call 111;with_reducible refine (HBo.out _ (bseqS HB4.out (HT5a.out (.cells #[.int .i64 0,.int .i64 0,.int .i64 0,.int .i64 0,.int .i64 0,.int .i64 0,.int .i64 0] 129)))).mono ?_;intro e w6 hR;unfold ObI at hR;obtain ⟨he6,hB6⟩:=hR;subst he6;unfold cellsO;dsimp only;have HT6:Hid (Below w4.heap.size w4 w6):=LH (bseqS (HT5a.out (.cells #[.int .i64 0,.int .i64 0,.int .i64 0,.int .i64 0,.int .i64 0,.int .i64 0,.int .i64 0] 129)) hB6);have HT6a:Hid (∀o,Below w4.heap.size w4 (w6.alloc o)):=LH (fun o=>HT6.out.alloc HT6.out.size o);have HU6:Hid (OBox w6 w5.heap.size Ob.zero):=LH (HUw.out _ _ hB6);obtain ⟨x0,x1,x2,x3,x4,x5,x6⟩:=HU6.out.cells;obtain ⟨y0,y1,y2,y3,y4,y5,y6⟩:=HU6.out.frozens;unfold Ob.zero at x0 x1 x2 x3 x4 x5 x6;dsimp only at x0 x1 x2 x3 x4 x5 x6;have HSt:=LH (HCs.out _ (below_set7 HT6.out (g:=w5.heap.size) HT5.out.size (.int .i64 r1) (.int .i64 r2) (.int .i64 r3) (.int .i64 r4) (.int .i64 r5) (.int .i64 r6) (.int .i64 r7)))))
  all_goals clear HCs HC0 HC1 HUw HUz HJ HBo HP HN
  all_goals rename_i hHe
  all_goals clear hHe
  all_goals go_step
  all_goals go_step
  all_goals go_meet
  all_goals first
   | with_reducible exact ⟨_,rfl,rfl,HNw.out _,HT6a.out _⟩
   | with_reducible exact ⟨_,rfl,rfl,HU6.out.set7 r1 r2 r3 r4 r5 r6 r7,below_set7 HT6.out (Nat.le_refl _) _ _ _ _ _ _ _⟩
   | with_reducible exact ⟨_,rfl,rfl,HU6.out.set7 r1 r2 r3 r4 r5 r6 r7,below_set7 HT6.out HT5.out.size _ _ _ _ _ _ _⟩
 case rest =>
  obtain ⟨b,rfl,rfl,hb7,hB7⟩:=hcut;have HU7:=LH hb7;have HO7:=LH (HO4.out.on hB7);have HB7:=LH (bseqS HB4.out hB7);clear hb7 hB7 s0 s1 s2 z0 z1 z2 z3 z4 z5 z6 z7 HCs HC0 HC1 HUw HUz HJ HBo HP HN;obtain ⟨u0,u1,u2,u3,u4,u5,u6⟩:=HU7.out.cells;dsimp only at u0 u1 u2 u3 u4 u5 u6;obtain ⟨x0,x1,x2,x3,x4,x5,x6⟩:=HO7.out.cells;obtain ⟨y0,y1,y2,y3,y4,y5,y6⟩:=HO7.out.frozens;have HX:=LH (HO7.out.set7 r1 r2 r3 r4 r5 r6 r7);have HBX:=LH (below_set7 HB7.out (g:=w.heap.size+1) (Nat.le_succ _) (.int .i64 r1) (.int .i64 r2) (.int .i64 r3) (.int .i64 r4) (.int .i64 r5) (.int .i64 r6) (.int .i64 r7))
  go_wp2_with fail
  clear x0 x1 x2 x3 x4 x5 x6;obtain ⟨x0,x1,x2,x3,x4,x5,x6⟩:=HX.out.cells;dsimp only at x0 x1 x2 x3 x4 x5 x6;refine bodyPost_ret (v:= .tuple #[.agg (cellsO ⟨r1,r2,r3,r4,r5,r6,r7⟩),.int .i64 F]) ?_ rfl ⟨rfl,HBX.out⟩
  simp[results,Tryz.f76,go_sem,cellsO,x0,x1,x2,x3,x4,x5,x6]
def farD (ls:List (List Int)) (p:Pt):Ob × Int :=
 if ptE (srA ls) p.seg p.off≠0 then (Ob.zero,ptE (srA ls) p.seg p.off)
 else if (ptZ ls p.seg p.off).kind≠1∧(ptZ ls p.seg p.off).kind≠2 then (Ob.zero,23)
 else checkO (srA ls) (thingO (ptZ ls p.seg p.off) p.seg (p.off+1+(ptZ ls p.seg p.off).off),0)
set_option maxHeartbeats 4000000 in
theorem rsfollow_far (v:Value) (ls:List (List Int)) (g a:Int) (w:World) (h:ArV w w.heap.size v ls) (hlen:ls.length≤1000000000000) (hu:AllU ls) (hE:ptE (srA ls) g a=0) (hk:(ptZ ls g a).kind=3) (hd:(ptZ ls g a).dbl=false)
  (hoff: -1073741824≤(ptZ ls g a).off∧(ptZ ls g a).off≤1073741824)
  (hoff2: -1073741824≤(ptZ ls (ptZ ls g a).seg (ptZ ls g a).off).off∧(ptZ ls (ptZ ls g a).seg (ptZ ls g a).off).off≤1073741824)
  (hq:(ptZ ls (ptZ ls g a).seg (ptZ ls g a).off).kind=1∨(ptZ ls (ptZ ls g a).seg (ptZ ls g a).off).kind=2→OkQ (ptrO (thingO (ptZ ls (ptZ ls g a).seg (ptZ ls g a).off) (ptZ ls g a).seg ((ptZ ls g a).off+1+(ptZ ls (ptZ ls g a).seg (ptZ ls g a).off).off)))) :
  Calls Tryz.prog 76 #[srcV v,.int .i64 g,.int .i64 a] w (ObI (farD ls (ptZ ls g a)) w):=by
 have HP:=LH (fun X (hX:Below w.heap.size w X)=>rsptr_any v ls g a X (h.on hX) hlen hu)
 rw[hE] at HP;have HN:=LH (fun X=>rsnear_any (ptZ ls g a) X)
 rw[show decide ((ptZ ls g a).kind=1∨(ptZ ls g a).kind=2)=false by rw[hk];decide] at HN
 have HF:Hid (∀Z,farD ls (ptZ ls g a)=Z→Z=if ptE (srA ls) (ptZ ls g a).seg (ptZ ls g a).off≠0 then (Ob.zero,ptE (srA ls) (ptZ ls g a).seg (ptZ ls g a).off)
   else if (ptZ ls (ptZ ls g a).seg (ptZ ls g a).off).kind≠1∧(ptZ ls (ptZ ls g a).seg (ptZ ls g a).off).kind≠2 then (Ob.zero,23)
   else checkO (srA ls) (thingO (ptZ ls (ptZ ls g a).seg (ptZ ls g a).off) (ptZ ls g a).seg ((ptZ ls g a).off+1+(ptZ ls (ptZ ls g a).seg (ptZ ls g a).off).off),0)):=LH (fun Z hZ=>hZ.symm)
 generalize hpf:ptZ ls g a=f at *
 clear hpf;have HP2:=LH (fun X (hX:Below w.heap.size w X)=>rsptr_any v ls f.seg f.off X (h.on hX) hlen hu)
 have HBo:=LH (fun (o:Ob) X (hX:Below w.heap.size w X) (hq:OkQ (ptrO o)) (hk:o.kind≠0)=>rsbounds_any v ls o X (h.on hX) hlen hq hk)
 have HNq:=LH (fun X=>rsnear_any (ptZ ls f.seg f.off) X)
 have HJ:=LH (fun X=>rsobj_any (ptZ ls f.seg f.off) f.seg (f.off+1+(ptZ ls f.seg f.off).off) X)
 generalize ptE (srA ls) f.seg f.off=E2 at *
 generalize ptZ ls f.seg f.off=q at *
 have HQ:Hid (q.kind=1∨q.kind=2→OkQ (ptrO (thingO q f.seg (f.off+1+q.off)))):=LH hq;obtain ⟨Z,hZ⟩:∃Z,farD ls f=Z:=⟨_,rfl⟩;have HZ:=LH (HF.out Z hZ);rw[hZ];clear HF hZ hq;generalize srA ls=sr at *
 obtain ⟨A,qc,rfl⟩:=h.form rfl;obtain ⟨W1,hW1⟩:∃W1,W1=(w.alloc (.cells #[.slice A ls.length qc,.bool false,.slice none 0 0] 96)).alloc (.cells (cellsO Ob.zero) 129):=⟨_,rfl⟩;obtain ⟨b1,b2,hB1⟩:=boxesFo w _ W1 hW1;have HO1:=LH b2;have HS1:=LH b1;have HB1:=LH hB1;obtain ⟨s0,s1⟩:=b1.cells;have s2:=b1.cell2;obtain ⟨k,o,d,r,z,c,sg,db⟩:=f;obtain ⟨qk,qo,qd,qr,qz,qc',qsg,qdb⟩:=q;dsimp only at hk hd hoff hoff2;subst hk hd;unfold srcV cellsP at HP HP2;unfold cellsP at HN HNq HJ;unfold srcV at HBo;dsimp only at HP HP2 HN HNq HJ HQ HZ;unfold srcV;unfold cellsO Ob.zero at hW1;dsimp only at hW1;have hw1:IntKind.i64.wrap (o+1)=o+1:=IntWalk.i64_in _ (by omega);have hw2:IntKind.i64.wrap (o+1+qo)=o+1+qo:=IntWalk.i64_in _ (by omega);have HWr:=LH (And.intro hw1 hw2);generalize ls.length=n at *
 clear h hlen hu b1 b2 hB1 hE hoff hoff2 hw1 hw2;go_enter Tryz.func76,Tryz.ntmps76;go_upto_region 1 with fail
 rw[←hW1];clear hW1
 go_wp2_with fail
 refine (HP.out _ HB1.out).mono ?_
 rintro e w2 ⟨rfl,hB2⟩;obtain ⟨w3,hw3⟩:∃w3,w3=w2.alloc (.cells #[.int .i64 3,.int .i64 o,.int .i64 d,.int .i64 r,.int .i64 z,.int .i64 c,.int .i64 sg,.bool false] 70):=⟨_,rfl⟩;have hB3:Below w2.heap.size w2 w3:=by rw[hw3];exact (Below.refl _ _).alloc (Nat.le_refl _) _
 have HQ3:Hid (PZBox w3 w2.heap.size ⟨3,o,d,r,z,c,sg,false⟩):=LH (by rw[hw3];exact PZBox.new w2 ⟨3,o,d,r,z,c,sg,false⟩);have HO3:=LH (HO1.out.on (bseqS hB2 hB3));have HS3:=LH (HS1.out.on (bseqS hB2 hB3));have HB3:=LH (HB1.out.trans ((bseqS hB2 hB3).mono HB1.out.size));clear hB2 hB3 s0 s1 s2;go_upto_region 2 with fail
 rw[←hw3];clear hw3;obtain ⟨z0,z1,z2,z3,z4,z5,z6,z7⟩:=HQ3.out.cells;dsimp only at z0 z1 z2 z3 z4 z5 z6 z7
 go_wp2_with fail
 refine (HN.out _).mono ?_
 rintro e w4 ⟨rfl,hB4⟩;have HB4:=LH (bseqS HB3.out hB4);have HO4:=LH (HO3.out.on hB4);have HS4:=LH (HS3.out.on hB4);have HQ4:=LH (HQ3.out.on hB4);clear hB4 z0 z1 z2 z3 z4 z5 z6 z7;obtain ⟨z0,z1,z2,z3,z4,z5,z6,z7⟩:=HQ4.out.cells;dsimp only at z0 z1 z2 z3 z4 z5 z6 z7;obtain ⟨s0,s1⟩:=HS4.out.cells;have s2:=HS4.out.cell2
 go_wp2_with fail
 refine (HP2.out _ HB4.out).mono ?_
 rintro e w5 ⟨rfl,hB5⟩;obtain ⟨w6,hw6⟩:∃w6,w6=w5.alloc (.cells #[.int .i64 qk,.int .i64 qo,.int .i64 qd,.int .i64 qr,.int .i64 qz,.int .i64 qc',.int .i64 qsg,.bool qdb] 70):=⟨_,rfl⟩;have hB6:Below w5.heap.size w5 w6:=by rw[hw6];exact (Below.refl _ _).alloc (Nat.le_refl _) _
 have HR6:Hid (PZBox w6 w5.heap.size ⟨qk,qo,qd,qr,qz,qc',qsg,qdb⟩):=LH (by rw[hw6];exact PZBox.new w5 ⟨qk,qo,qd,qr,qz,qc',qsg,qdb⟩);have HO6:=LH (HO4.out.on (bseqS hB5 hB6));have HS6:=LH (HS4.out.on (bseqS hB5 hB6));have HQ6:=LH (HQ4.out.on (bseqS hB5 hB6));have HB6:=LH (HB4.out.trans ((bseqS hB5 hB6).mono HB4.out.size));clear hB5 hB6 s0 s1 s2 z0 z1 z2 z3 z4 z5 z6 z7;go_upto_region 14 with fail
 rw[←hw6];clear hw6
 by_cases hE:E2=0
 ·subst hE;have HZ2:=LH (HZ.out.trans (if_neg (by decide)));clear HZ;obtain ⟨y0,y1,y2,y3,y4,y5,y6,y7⟩:=HR6.out.cells;dsimp only at y0 y1 y2 y3 y4 y5 y6 y7
  go_wp2_with fail
  refine (HNq.out _).mono ?_
  rintro e w7 ⟨rfl,hB7⟩;have HB7:=LH (bseqS HB6.out hB7);have HO7:=LH (HO6.out.on hB7);have HS7:=LH (HS6.out.on hB7);have HQ7:=LH (HQ6.out.on hB7);have HR7:=LH (HR6.out.on hB7);clear hB7 y0 y1 y2 y3 y4 y5 y6 y7
  by_cases hn:qk=1∨qk=2
  ·have hdn:decide (qk=1∨qk=2)=true:=decide_eq_true hn;have HZ3:=LH (HZ2.out.trans (if_neg (by omega)));have HBq:=HBo.out _ w7 HB7.out (HQ.out hn) (by show qk≠0;omega)
   have HBp:=fun X (hX:Below w.heap.size w X)=>HBo.out _ X hX (HQ.out hn) (by show qk≠0;omega)
   rw[←HZ3.out] at HBp;clear HBq HZ2 HZ3 HBo;generalize thingO ⟨qk,qo,qd,qr,qz,qc',qsg,qdb⟩ sg (o+1+qo)=O at *
   obtain ⟨⟨r1,r2,r3,r4,r5,r6,r7⟩,F⟩:=Z;obtain ⟨t1,t2,t3,t4,t5,t6,t7⟩:=O;unfold cellsO at HJ HBp;dsimp only at HJ HBp;have HBo:=LH HBp;clear HBp hn HP HP2 HN HNq HQ;have HCs:Hid (∀X,Below w7.heap.size w7 X→(X.cell? ⟨w.heap.size,0,none⟩=some (.slice A n qc)∧X.cell? ⟨w.heap.size,1,none⟩=some (.bool false)∧X.cell? ⟨w.heap.size,2,none⟩=some (.slice none 0 0))∧(X.cell? ⟨w2.heap.size,1,none⟩=some (.int .i64 o)∧X.cell? ⟨w2.heap.size,6,none⟩=some (.int .i64 sg))∧(X.cell? ⟨w5.heap.size,0,none⟩=some (.int .i64 qk)∧X.cell? ⟨w5.heap.size,1,none⟩=some (.int .i64 qo)∧X.cell? ⟨w5.heap.size,2,none⟩=some (.int .i64 qd)∧X.cell? ⟨w5.heap.size,3,none⟩=some (.int .i64 qr)∧X.cell? ⟨w5.heap.size,4,none⟩=some (.int .i64 qz)∧X.cell? ⟨w5.heap.size,5,none⟩=some (.int .i64 qc')∧X.cell? ⟨w5.heap.size,6,none⟩=some (.int .i64 qsg)∧X.cell? ⟨w5.heap.size,7,none⟩=some (.bool qdb))):=LH (fun X hX=>by
    have hs:=HS7.out.on hX;have hz:=(HQ7.out.on hX).cells;have hy:=(HR7.out.on hX).cells;dsimp only at hz hy;exact ⟨⟨hs.cells.1,hs.cells.2,hs.cell2⟩,⟨hz.2.1,hz.2.2.2.2.2.2.1⟩,hy⟩)
   obtain ⟨⟨s0,s1,s2⟩,⟨z1,z6⟩,y0,y1,y2,y3,y4,y5,y6,y7⟩:=HCs.out w7 (Below.refl _ _);go_upto_region 18 with fail
   have HD0:Hid (Below w7.heap.size w7 w7.drew):=LH (Below.refl _ _).drew;have HD1:Hid (Below w7.heap.size w7 (w7.alloc (.cells #[.int .i64 0,.int .i64 0,.int .i64 0,.int .i64 0,.int .i64 0,.int .i64 0,.int .i64 0] 129)).drew):=LH ((Below.refl _ _).alloc (Nat.le_refl _) _).drew;have HUz:Hid (OBox (w7.alloc (.cells #[.int .i64 0,.int .i64 0,.int .i64 0,.int .i64 0,.int .i64 0,.int .i64 0,.int .i64 0] 129)).drew w7.heap.size Ob.zero):=LH (OBox.new w7 Ob.zero);have HUw:Hid (∀X Y:World,Below (X.alloc (.cells #[.int .i64 0,.int .i64 0,.int .i64 0,.int .i64 0,.int .i64 0,.int .i64 0,.int .i64 0] 129)).heap.size (X.alloc (.cells #[.int .i64 0,.int .i64 0,.int .i64 0,.int .i64 0,.int .i64 0,.int .i64 0,.int .i64 0] 129)) Y→OBox Y X.heap.size Ob.zero):=LH (fun X Y hX=>(OBox.new X Ob.zero).on hX)
   have HNw:Hid (∀X:World,OBox (X.alloc (.cells #[.int .i64 r1,.int .i64 r2,.int .i64 r3,.int .i64 r4,.int .i64 r5,.int .i64 r6,.int .i64 r7] 129)) X.heap.size ⟨r1,r2,r3,r4,r5,r6,r7⟩):=LH (fun X=>OBox.new X ⟨r1,r2,r3,r4,r5,r6,r7⟩)
   have HC0:=LH (HCs.out _ HD0.out);have HC1:=LH (HCs.out _ HD1.out);obtain ⟨wr1,wr2⟩:=HWr.out
   go_cut [18,19] (fun s10 s11 wx=>∃b,s10= .pointer (some ⟨b,0,none⟩)∧s11= .int .i64 F∧OBox wx b ⟨r1,r2,r3,r4,r5,r6,r7⟩∧Below w7.heap.size w7 wx)
   case first =>
    go_region_held_law (fun X=>(X.cell? ⟨w.heap.size,0,none⟩=some (.slice A n qc)∧X.cell? ⟨w.heap.size,1,none⟩=some (.bool false)∧X.cell? ⟨w.heap.size,2,none⟩=some (.slice none 0 0))∧(X.cell? ⟨w2.heap.size,1,none⟩=some (.int .i64 o)∧X.cell? ⟨w2.heap.size,6,none⟩=some (.int .i64 sg))∧(X.cell? ⟨w5.heap.size,0,none⟩=some (.int .i64 qk)∧X.cell? ⟨w5.heap.size,1,none⟩=some (.int .i64 qo)∧X.cell? ⟨w5.heap.size,2,none⟩=some (.int .i64 qd)∧X.cell? ⟨w5.heap.size,3,none⟩=some (.int .i64 qr)∧X.cell? ⟨w5.heap.size,4,none⟩=some (.int .i64 qz)∧X.cell? ⟨w5.heap.size,5,none⟩=some (.int .i64 qc')∧X.cell? ⟨w5.heap.size,6,none⟩=some (.int .i64 qsg)∧X.cell? ⟨w5.heap.size,7,none⟩=some (.bool qdb)))
     (with_reducible first | exact HC0.out | exact HC1.out | exact HSt.out | exact HCs.out _ HT6.out | exact HCs.out _ (HT6a.out _) | exact HCs.out _ HT5.out | exact HCs.out _ (HT5a.out _)) (first
     | (go_at_call 112;with_reducible refine (HJ.out _).mono ?_;intro e w8 hR;obtain ⟨he8,hB8⟩:=hR;subst he8;have HT5:Hid (Below w7.heap.size w7 w8):=LH (bseqS HD1.out hB8);have HU5:Hid (OBox w8 w7.heap.size Ob.zero):=LH (HUz.out.on hB8);have HT5a:Hid (∀o,Below w7.heap.size w7 (w8.alloc o)):=LH (fun o=>HT5.out.alloc HT5.out.size o))
     | (go_at_call 112;with_reducible refine (HJ.out _).mono ?_;intro e w8 hR;obtain ⟨he8,hB8⟩:=hR;subst he8;have HT5:Hid (Below w7.heap.size w7 w8):=LH (bseqS HD0.out hB8);have HT5a:Hid (∀o,Below w7.heap.size w7 (w8.alloc o)):=LH (fun o=>HT5.out.alloc HT5.out.size o))
     | (go_at_call 111;with_reducible refine (HBo.out _ (bseqS HB7.out HT5.out)).mono ?_;intro e w9 hR;unfold ObI at hR;obtain ⟨he9,hB9⟩:=hR;subst he9;unfold cellsO;dsimp only;have HT6:Hid (Below w7.heap.size w7 w9):=LH (bseqS HT5.out hB9);have HT6a:Hid (∀o,Below w7.heap.size w7 (w9.alloc o)):=LH (fun o=>HT6.out.alloc HT6.out.size o);have HU6:Hid (OBox w9 w7.heap.size Ob.zero):=LH (HU5.out.on hB9);obtain ⟨x0,x1,x2,x3,x4,x5,x6⟩:=HU6.out.cells;obtain ⟨f0,f1,f2,f3,f4,f5,f6⟩:=HU6.out.frozens;unfold Ob.zero at x0 x1 x2 x3 x4 x5 x6;dsimp only at x0 x1 x2 x3 x4 x5 x6;have HSt:=LH (HCs.out _ (below_set7 HT6.out (g:=w7.heap.size) (Nat.le_refl _) (.int .i64 r1) (.int .i64 r2) (.int .i64 r3) (.int .i64 r4) (.int .i64 r5) (.int .i64 r6) (.int .i64 r7))))
     | (go_at_call 111;with_reducible refine (HBo.out _ (bseqS HB7.out HT5.out)).mono ?_;intro e w9 hR;unfold ObI at hR;obtain ⟨he9,hB9⟩:=hR;subst he9;unfold cellsO;dsimp only;have HT6:Hid (Below w7.heap.size w7 w9):=LH (bseqS HT5.out hB9);have HT6a:Hid (∀o,Below w7.heap.size w7 (w9.alloc o)):=LH (fun o=>HT6.out.alloc HT6.out.size o))
     | (go_at_call 111;with_reducible refine (HBo.out _ (bseqS HB7.out (HT5a.out (.cells #[.int .i64 0,.int .i64 0,.int .i64 0,.int .i64 0,.int .i64 0,.int .i64 0,.int .i64 0] 129)))).mono ?_;intro e w9 hR;unfold ObI at hR;obtain ⟨he9,hB9⟩:=hR;subst he9;unfold cellsO;dsimp only;have HT6:Hid (Below w7.heap.size w7 w9):=LH (bseqS (HT5a.out (.cells #[.int .i64 0,.int .i64 0,.int .i64 0,.int .i64 0,.int .i64 0,.int .i64 0,.int .i64 0] 129)) hB9);have HT6a:Hid (∀o,Below w7.heap.size w7 (w9.alloc o)):=LH (fun o=>HT6.out.alloc HT6.out.size o);have HU6:Hid (OBox w9 w8.heap.size Ob.zero):=LH (HUw.out _ _ hB9);obtain ⟨x0,x1,x2,x3,x4,x5,x6⟩:=HU6.out.cells;obtain ⟨f0,f1,f2,f3,f4,f5,f6⟩:=HU6.out.frozens;unfold Ob.zero at x0 x1 x2 x3 x4 x5 x6;dsimp only at x0 x1 x2 x3 x4 x5 x6;have HSt:=LH (HCs.out _ (below_set7 HT6.out (g:=w8.heap.size) HT5.out.size (.int .i64 r1) (.int .i64 r2) (.int .i64 r3) (.int .i64 r4) (.int .i64 r5) (.int .i64 r6) (.int .i64 r7)))))
    all_goals clear HCs HC0 HC1 HUw HUz HJ HBo
    all_goals rename_i hHe
    all_goals clear hHe
    all_goals go_step
    all_goals go_step
    all_goals go_meet
    all_goals first
     | with_reducible exact ⟨_,rfl,rfl,HNw.out _,HT6a.out _⟩
     | with_reducible exact ⟨_,rfl,rfl,HU6.out.set7 r1 r2 r3 r4 r5 r6 r7,below_set7 HT6.out (Nat.le_refl _) _ _ _ _ _ _ _⟩
     | with_reducible exact ⟨_,rfl,rfl,HU6.out.set7 r1 r2 r3 r4 r5 r6 r7,below_set7 HT6.out HT5.out.size _ _ _ _ _ _ _⟩
   case rest =>
    obtain ⟨b,rfl,rfl,hb8,hB8⟩:=hcut;have HU8:=LH hb8;have HO8:=LH (HO7.out.on hB8);have HB8:=LH (bseqS HB7.out hB8);clear hb8 hB8 s0 s1 s2 z1 z6 y0 y1 y2 y3 y4 y5 y6 y7 HCs HC0 HC1 HUw HUz HJ HBo;obtain ⟨u0,u1,u2,u3,u4,u5,u6⟩:=HU8.out.cells;dsimp only at u0 u1 u2 u3 u4 u5 u6;obtain ⟨x0,x1,x2,x3,x4,x5,x6⟩:=HO8.out.cells;obtain ⟨y0,y1,y2,y3,y4,y5,y6⟩:=HO8.out.frozens;have HX:=LH (HO8.out.set7 r1 r2 r3 r4 r5 r6 r7);have HBX:=LH (below_set7 HB8.out (g:=w.heap.size+1) (Nat.le_succ _) (.int .i64 r1) (.int .i64 r2) (.int .i64 r3) (.int .i64 r4) (.int .i64 r5) (.int .i64 r6) (.int .i64 r7))
    go_wp2_with fail
    clear x0 x1 x2 x3 x4 x5 x6;obtain ⟨x0,x1,x2,x3,x4,x5,x6⟩:=HX.out.cells;dsimp only at x0 x1 x2 x3 x4 x5 x6;refine bodyPost_ret (v:= .tuple #[.agg (cellsO ⟨r1,r2,r3,r4,r5,r6,r7⟩),.int .i64 F]) ?_ rfl ⟨rfl,HBX.out⟩
    simp[results,Tryz.f76,go_sem,cellsO,x0,x1,x2,x3,x4,x5,x6]
  ·have hdn:decide (qk=1∨qk=2)=false:=decide_eq_false hn;obtain rfl:Z=(Ob.zero,23):=HZ2.out.trans (if_pos (by omega));clear HZ2 hn;obtain ⟨x0,x1,x2,x3,x4,x5,x6⟩:=HO7.out.cells;obtain ⟨y0,y1,y2,y3,y4,y5,y6⟩:=HO7.out.frozens;have HX:=LH (HO7.out.set7 0 0 0 0 0 0 0);have HBX:=LH (below_set7 HB7.out (g:=w.heap.size+1) (Nat.le_succ _) (.int .i64 0) (.int .i64 0) (.int .i64 0) (.int .i64 0) (.int .i64 0) (.int .i64 0) (.int .i64 0))
   go_wp2_with fail
   clear x0 x1 x2 x3 x4 x5 x6;obtain ⟨x0,x1,x2,x3,x4,x5,x6⟩:=HX.out.cells;dsimp only at x0 x1 x2 x3 x4 x5 x6;refine bodyPost_ret (v:= .tuple #[.agg (cellsO Ob.zero),.int .i64 23]) ?_ rfl ⟨rfl,HBX.out⟩
   simp[results,Tryz.f76,go_sem,cellsO,Ob.zero,x0,x1,x2,x3,x4,x5,x6]
 ·have hE1:(E2 != 0)=true:=by simp[hE]
  obtain rfl:Z=(Ob.zero,E2):=HZ.out.trans (if_pos hE);obtain ⟨x0,x1,x2,x3,x4,x5,x6⟩:=HO6.out.cells;obtain ⟨y0,y1,y2,y3,y4,y5,y6⟩:=HO6.out.frozens;have HX:=LH (HO6.out.set7 0 0 0 0 0 0 0);have HBX:=LH (below_set7 HB6.out (g:=w.heap.size+1) (Nat.le_succ _) (.int .i64 0) (.int .i64 0) (.int .i64 0) (.int .i64 0) (.int .i64 0) (.int .i64 0) (.int .i64 0))
  go_wp2_with fail
  clear x0 x1 x2 x3 x4 x5 x6;obtain ⟨x0,x1,x2,x3,x4,x5,x6⟩:=HX.out.cells;dsimp only at x0 x1 x2 x3 x4 x5 x6;refine bodyPost_ret (v:= .tuple #[.agg (cellsO Ob.zero),.int .i64 E2]) ?_ rfl ⟨rfl,HBX.out⟩
  simp[results,Tryz.f76,go_sem,cellsO,Ob.zero,x0,x1,x2,x3,x4,x5,x6]
theorem srA_good {ls:List (List Int)} (hs:ls.length≤1000000000) (hu:AllU ls) (h64:All64 (sizesL ls)):(srA ls).Good :=
 ⟨fun g a=>wordA_in hu g a,fun g a=>by show 0≤wordE7 ls g a∧wordE7 ls g a≤65535;unfold wordE7;split <;> omega,h64,by show (sizesL ls).length≤_;rw[sizesL_length];exact hs⟩
theorem ptz_ok {ls:List (List Int)} (hg:(srA ls).Good) (g a:Int):OkP (ptZ ls g a):=by
 unfold ptZ
 split
 ·exact .inl rfl
 ·exact ptS_ok hg g a
theorem okp_offD {p:Pt} (h:OkP p): -1073741824≤p.off∧p.off≤1073741824:=by
 rcases h with rfl | ⟨_,h,_⟩ | ⟨_,h,_⟩ | ⟨_,h,_⟩
 ·decide
 ·omega
 ·omega
 ·omega
theorem ptz_same {ls:List (List Int)} {g a:Int} (h:ptE (srA ls) g a=0):ptZ ls g a=ptS (srA ls) g a:=by
 unfold ptZ;rw[if_neg];intro e;unfold ptE at h;rw[if_pos (show (srA ls).we g a≠0 from e)] at h
 exact e h
theorem nearA_eq {p:Pt} {a:Int} (ha: -1099511627776≤a∧a≤1099511627776) (hp: -1073741824≤p.off∧p.off≤1073741824):nearA p a=a+1+p.off:=by
 unfold nearA;rw[if_pos (by omega)]
 omega
theorem landed2_kind {s:Sr} (hs:s.Good) (f:Pt) (h:(landed2 s f).2=0):OkQ (ptrO (landed2 s f).1)∧(landed2 s f).1.kind≠0:=by
 have hp:=ptS_ok hs;unfold landed2 at h ⊢
 by_cases e5:ptE2 s f.seg f.off≠0
 ·rw[if_pos e5] at h;exact absurd h e5
 rw[if_neg e5] at h ⊢
 by_cases e6:(ptS s f.seg (f.off+1)).kind≠1∧(ptS s f.seg (f.off+1)).kind≠2
 ·rw[if_pos e6] at h;exact absurd h (by decide)
 rw[if_neg e6] at h ⊢
 by_cases e7:(ptS s f.seg f.off).kind≠3∨(ptS s f.seg f.off).dbl=true∨(ptS s f.seg (f.off+1)).off≠0
 ·rw[if_pos e7] at h;exact absurd h (by decide)
 rw[if_neg e7];exact ⟨okq_dec (hp _ _) (by unfold NearK;omega) _ _,by show (ptS s f.seg (f.off+1)).kind≠0;omega⟩
theorem rsfollow_any (v:Value) (ls:List (List Int)) (g a:Int) (w:World) (h:ArV w w.heap.size v ls) (hs:ls.length≤1000000000) (hu:AllU ls) (h64:All64 (sizesL ls)) (ha: -1099511627776≤a∧a≤1099511627776) :
  Calls Tryz.prog 76 #[srcV v,.int .i64 g,.int .i64 a] w (ObI (followO (srA ls) g a) w):=by
 have hg:=srA_good hs hu h64;have hl:ls.length≤1000000000000:=by omega
 have hok:=ptz_ok hg;have hkinds:=fun x y=>(okq_bd (.inl (hok x y))).2.2.2.2
 by_cases hE:ptE (srA ls) g a=0
 ·have hz:=ptz_same hE
  by_cases hk0:(ptZ ls g a).kind=0
  ·rw[follow_nil hE (by rw[←hz];exact hk0)];have:=rsfollow_none v ls g a w h hl hu (.inr hk0);rw[hE] at this;exact this
  ·by_cases hk3:(ptZ ls g a).kind=3
   ·have ht:targetO (srA ls) g a=landedO (srA ls) (ptZ ls g a):=by
     unfold targetO;rw[if_neg (by omega),←hz,if_neg hk0,if_pos hk3]
    unfold followO;rw[ht];unfold landedO;cases hd:(ptZ ls g a).dbl with
    | true =>
     rw[if_pos rfl];exact rsfollow_double v ls g a w h hl hu hE (hok g a) hk3 hd (fun e=>landed2_kind hg _ e)
    | false =>
     rw[if_neg (by decide)];have hb:=rsfollow_far v ls g a w h hl hu hE hk3 hd (okp_offD (hok g a)) (okp_offD (hok _ _)) (fun hn=>okq_dec (hok _ _) hn _ _)
     have he:checkO (srA ls) (landed1 (srA ls) (ptZ ls g a))=farD ls (ptZ ls g a):=by
      unfold landed1 farD
      by_cases e1:ptE (srA ls) (ptZ ls g a).seg (ptZ ls g a).off≠0
      ·rw[if_pos e1,if_pos e1];unfold checkO;rw[if_pos (.inl e1)]
      ·rw[if_neg e1,if_neg e1,←ptz_same (Decidable.of_not_not e1)]
       by_cases e2:(ptZ ls (ptZ ls g a).seg (ptZ ls g a).off).kind≠1∧(ptZ ls (ptZ ls g a).seg (ptZ ls g a).off).kind≠2
       ·rw[if_pos e2,if_pos e2]
        rfl
       ·rw[if_neg e2,if_neg e2];unfold nearO;rw[nearA_eq (by have:=okp_offD (hok g a);omega) (okp_offD (hok _ _))]
     rw[he];exact hb
   ·have hn:(ptZ ls g a).kind=1∨(ptZ ls g a).kind=2:=by have:=hkinds g a;omega
    have ht:targetO (srA ls) g a=(thingO (ptZ ls g a) g (a+1+(ptZ ls g a).off),0):=by
     unfold targetO;rw[if_neg (by omega),←hz,if_neg hk0,if_neg hk3];unfold nearO;rw[nearA_eq ha (okp_offD (hok g a))]
    unfold followO;rw[ht];exact rsfollow_near v ls g a w h hl hu hE hn (okp_offD (hok g a)) ha (okq_dec (hok g a) hn _ _)
 ·rw[follow_err hE];exact rsfollow_none v ls g a w h hl hu (.inl hE)
end Go.Proofs.YtmmlfnblodfjbaaGreatDoor
