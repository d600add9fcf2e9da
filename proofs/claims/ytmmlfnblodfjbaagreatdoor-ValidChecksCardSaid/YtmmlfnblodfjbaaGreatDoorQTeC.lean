/- Layer 10, the landed package: thing: what a word leads to, how deep it may lie, what it costs. -/
import Derived.Test.YtmmlfnblodfjbaaGreatDoorQVnC
import Derived.Test.YtmmlfnblodfjbaaGreatDoorQTeB
import Derived.Test.YtmmlfnblodfjbaaGreatDoorQRdA
import Derived.Test.YtmmlfnblodfjbaaGreatDoorQMem
import Derived.Deep.DeepCutAuto
import Derived.Deep.CutBlock
import Derived.Test.YtmmlfnblodfjbaaGreatDoorQTeA
import Derived.Test.YtmmlfnblodfjbaaGreatDoorQRdC
set_option maxRecDepth 100000
namespace Go.Proofs.YtmmlfnblodfjbaaGreatDoor
open Go.RowKit Go.Deep
theorem Mv.set {X:Nat→Prop} {A B:World} (h:Mv X A B) (g:Nat) (hg:g<A.heap.size→X g) (i:Nat) (v:Value):Mv X A (B.setCell ⟨g,i,none⟩ v) :=
 h.trans (Mv.of_grown (grown_set B g i v)) (fun b hb e=>by cases e;exact hg hb)
theorem Mv.set7 {X:Nat→Prop} {A B:World} (h:Mv X A B) (g:Nat) (hg:g<A.heap.size→X g) (a0 a1 a2 a3 a4 a5 a6:Value) :
  Mv X A (((((((B.setCell ⟨g,0,none⟩ a0).setCell ⟨g,1,none⟩ a1).setCell ⟨g,2,none⟩ a2).setCell ⟨g,3,none⟩ a3).setCell ⟨g,4,none⟩ a4).setCell ⟨g,5,none⟩ a5).setCell ⟨g,6,none⟩ a6) :=
 ((((((h.set g hg 0 a0).set g hg 1 a1).set g hg 2 a2).set g hg 3 a3).set g hg 4 a4).set g hg 5 a5).set g hg 6 a6
theorem DBox.set7 {w:World} {db b:Nat} {c:Int} (h:DBox w db b c) {g:Nat} (hg:g≠db) (a0 a1 a2 a3 a4 a5 a6:Value) :
  DBox (((((((w.setCell ⟨g,0,none⟩ a0).setCell ⟨g,1,none⟩ a1).setCell ⟨g,2,none⟩ a2).setCell ⟨g,3,none⟩ a3).setCell ⟨g,4,none⟩ a4).setCell ⟨g,5,none⟩ a5).setCell ⟨g,6,none⟩ a6) db b c:=by
 have hg':=fun e:db=g=>hg e.symm
 refine h.of_block ?_
 rw[blk_setCell_other _ _ _ _ hg',blk_setCell_other _ _ _ _ hg',blk_setCell_other _ _ _ _ hg',blk_setCell_other _ _ _ _ hg',blk_setCell_other _ _ _ _ hg',blk_setCell_other _ _ _ _ hg',blk_setCell_other _ _ _ _ hg']
def thingE (F:Ob × Int) (around c:Int):Ob × Int :=
 if F.2≠0 then (Ob.zero,F.2) else if F.1.kind≠0∧32≤around then (Ob.zero,21) else if c<1+wordsO F.1 then (Ob.zero,22) else (F.1,0)
def PaidR (db b:Nat) (c n E:Int) (w:World):Prop:=∃c',DBox w db b c'∧(E=0→c'=c - n)
def ThingR (F:Ob × Int) (around c:Int) (db b:Nat) (w:World) (e:Ending) (w':World):Prop :=
 e= .returned (.tuple #[.agg (cellsO (thingE F around c).1),.int .u16 (thingE F around c).2])∧Mv (fun x=>x=db) w w'∧PaidR db b c (1+wordsO F.1) (thingE F around c).2 w'
set_option maxHeartbeats 4000000 in
theorem thing10_any (db b:Nat) (v:Value) (ls:List (List Int)) (g a around c:Int) (w:World) (hK:WhK b v ls w) (hd:DBox w db b c) (hs:ls.length≤1000000000) (hu:AllU ls) (h64:All64 (sizesL ls)) (hg:In64 g) (ha:In64 a) (hc: -1000000≤c∧c≤1000000) :
  Calls Tryz.prog 118 #[.pointer (some ⟨db,0,none⟩),.int .i64 g,.int .i64 a,.int .i64 around] w (ThingR (followO (srA ls) g a) around c db b w):=by
 have HF:=LH (fun X (hX:Below w.heap.size w X)=>follow_anyP (whole_ok b v ls hs hu h64) g a X ((whole_ok b v ls hs hu h64).on hK hX) hg ha)
 have HGd:=LH (follow_good (whole_ok b v ls hs hu h64).good g a);have HD:=LH (fun X (hX:Below w.heap.size w X)=>hd.on hX)
 have HLt:=LH hd.lt;obtain ⟨F,hF⟩:∃F,F=followO (srA ls) g a:=⟨_,rfl⟩;rw[←hF] at HF HGd ⊢;have HC:=LH hc;have HO0:=LH (OBox.new w Ob.zero);have hB0:Below w.heap.size w (w.alloc (.cells (cellsO Ob.zero) 129)):=(Below.refl _ _).alloc (Nat.le_refl _) _;obtain ⟨W1,hW1⟩:∃W1,W1=w.alloc (.cells (cellsO Ob.zero) 129):=⟨_,rfl⟩;rw[←hW1] at HO0 hB0;have HB0:=LH hB0;unfold cellsO Ob.zero at hW1;dsimp only at hW1;clear hK hd hs hu h64 hg ha hc hB0 hF;obtain ⟨⟨o1,o2,o3,o4,o5,o6,o7⟩,E⟩:=F;have HT:Hid (∀x,thingE (⟨o1,o2,o3,o4,o5,o6,o7⟩,E) around c=x→x=if E≠0 then (Ob.zero,E) else if o1≠0∧32≤around then (Ob.zero,21) else if c<1+wordsO ⟨o1,o2,o3,o4,o5,o6,o7⟩ then (Ob.zero,22) else (⟨o1,o2,o3,o4,o5,o6,o7⟩,0)):=LH (fun x h=>h.symm)
 unfold ThingR;obtain ⟨Z,hZ⟩:∃Z,thingE (⟨o1,o2,o3,o4,o5,o6,o7⟩,E) around c=Z:=⟨_,rfl⟩;have HZ:=LH (HT.out Z hZ);rw[hZ];clear hZ HT;go_enter Tryz.func118,Tryz.ntmps118;go_upto_region 1 with fail
 rw[←hW1];clear hW1;have hF1:=HF.out W1 HB0.out;obtain ⟨d0,d1⟩:=(HD.out W1 HB0.out).cells
 go_wp2_with fail
 refine hF1.mono ?_
 rintro e w2 ⟨rfl,hB2⟩;unfold cellsO;dsimp only;have hBa:Below w2.heap.size w2 (w2.alloc (.cells (cellsO ⟨o1,o2,o3,o4,o5,o6,o7⟩) 129)):=(Below.refl _ _).alloc (Nat.le_refl _) _;have HO3:=LH ((HO0.out.on hB2).on hBa);have HP3:=LH (OBox.new w2 ⟨o1,o2,o3,o4,o5,o6,o7⟩);have HB3:=LH (HB0.out.trans ((bseq8 hB2 hBa).mono HB0.out.size));have HNe:Hid (w.heap.size<w2.heap.size):=LH (HO0.out.on hB2).lt;obtain ⟨W3,hW3⟩:∃W3,W3=w2.alloc (.cells (cellsO ⟨o1,o2,o3,o4,o5,o6,o7⟩) 129):=⟨_,rfl⟩;rw[←hW3] at HO3 HP3 HB3;unfold cellsO at hW3;dsimp only at hW3;obtain ⟨p,hp⟩:∃p,p=w2.heap.size:=⟨_,rfl⟩;rw[←hp] at HP3 HNe;clear hB2 hBa hF1 d0 d1;go_upto_region 2 with fail
 rw[←hW3,←hp];clear hW3 hp
 by_cases hE:E=0
 ·subst hE;have hz2:=HZ.out.trans (if_neg (by simp));have HZ2:=LH hz2;clear hz2 HZ;obtain ⟨y0,y1,y2,y3,y4,y5,y6⟩:=HP3.out.cells;dsimp only at y0 y1 y2 y3 y4 y5 y6;obtain ⟨n,hn⟩:∃n,n=wordsO ⟨o1,o2,o3,o4,o5,o6,o7⟩:=⟨_,rfl⟩;have hbn:=wordN_bd HGd.out.okq;have hw9:=fun X=>words9_any ⟨o1,o2,o3,o4,o5,o6,o7⟩ X HGd.out.okq
  rw[←hn] at HZ2 hw9;rw[show wordN (ptrO ⟨o1,o2,o3,o4,o5,o6,o7⟩)=n from hn.symm] at hbn
  unfold cellsO at hw9;dsimp only at hw9;have HW9:=LH hw9;have HN:=LH hn;clear hw9 hn
  by_cases hdp:o1≠0∧32≤around
  ·obtain rfl:Z=(Ob.zero,21):=HZ2.out.trans (if_pos hdp);obtain ⟨k0,k1⟩:=hdp;have k2:(o1 != 0)=true:=by simp[k0]
   have k3:around≥32:=k1;obtain ⟨x0,x1,x2,x3,x4,x5,x6⟩:=HO3.out.cells;obtain ⟨f0,f1,f2,f3,f4,f5,f6⟩:=HO3.out.frozens;unfold Ob.zero at x0 x1 x2 x3 x4 x5 x6;dsimp only at x0 x1 x2 x3 x4 x5 x6;have HX:=LH (HO3.out.set7 0 0 0 0 0 0 0);have HBX:=LH (below_set7 (g:=w.heap.size) HB3.out (Nat.le_refl _) (.int .i64 0) (.int .i64 0) (.int .i64 0) (.int .i64 0) (.int .i64 0) (.int .i64 0) (.int .i64 0))
   go_wp2_with fail
   clear x0 x1 x2 x3 x4 x5 x6;obtain ⟨x0,x1,x2,x3,x4,x5,x6⟩:=HX.out.cells;dsimp only at x0 x1 x2 x3 x4 x5 x6;refine bodyPost_ret (v:= .tuple #[.agg (cellsO Ob.zero),.int .u16 21]) ?_ rfl ⟨rfl,(Mv.of_below HBX.out).mono (fun _ hb h=>by omega),⟨c,HD.out _ HBX.out,fun h=>absurd h (by decide)⟩⟩
   simp[results,Tryz.f118,go_sem,cellsO,Ob.zero,x0,x1,x2,x3,x4,x5,x6]
  ·have HZ3:=LH (HZ2.out.trans (if_neg hdp));clear HZ2;obtain ⟨C,hC⟩:∃C:Bool,C=false:=⟨false,rfl⟩;have hlt:=HLt.out;have hcc:=HC.out;have hw1:IntKind.i64.wrap (1+n)=1+n:=IntWalk.i64_in _ (by omega);have hw2:IntKind.i64.wrap (c - (1+n))=c - (1+n):=IntWalk.i64_in _ (by omega);clear hlt hcc;go_upto_region 4 with fail
   go_cut [32] (fun x wx=>x= .bool false∧wx=W3)
   case first =>
    by_cases k0:o1=0
    ·subst k0;clear hdp
     go_wp2_with fail
     go_meet;exact ⟨rfl,rfl⟩
    ·have k2:(o1 != 0)=true:=by simp[k0]
     have k3:¬around≥32:=fun h=>hdp ⟨k0,h⟩
     clear hdp
     go_wp2_with fail
     go_meet
     first | exact ⟨rfl,rfl⟩ | exact ⟨by simp;omega,rfl⟩
   case rest =>
    obtain ⟨rfl,rfl⟩:=hcut;have HCel:Hid (∀X,Below wc.heap.size wc X→(X.cell? ⟨db,1,none⟩=some (.int .i64 c)∧X.frozen? ⟨db,1,none⟩=false)∧X.cell? ⟨p,0,none⟩=some (.int .i64 o1)∧X.cell? ⟨p,1,none⟩=some (.int .i64 o2)∧X.cell? ⟨p,2,none⟩=some (.int .i64 o3)∧X.cell? ⟨p,3,none⟩=some (.int .i64 o4)∧X.cell? ⟨p,4,none⟩=some (.int .i64 o5)∧X.cell? ⟨p,5,none⟩=some (.int .i64 o6)∧X.cell? ⟨p,6,none⟩=some (.int .i64 o7)):=LH (fun X hX=>⟨⟨(HD.out X (HB3.out.trans (hX.mono HB3.out.size))).cells.2,(HD.out X (HB3.out.trans (hX.mono HB3.out.size))).frozen 1⟩,(HP3.out.on hX).cells⟩)
    have HAft:Hid (∀X,Below wc.heap.size wc X→DBox (X.setCell ⟨db,1,none⟩ (.int .i64 (c - (1+n)))) db b (c - (1+n))∧OBox (X.setCell ⟨db,1,none⟩ (.int .i64 (c - (1+n)))) p ⟨o1,o2,o3,o4,o5,o6,o7⟩∧OBox (X.setCell ⟨db,1,none⟩ (.int .i64 (c - (1+n)))) w.heap.size Ob.zero∧Mv (fun x=>x=db) w (X.setCell ⟨db,1,none⟩ (.int .i64 (c - (1+n))))):=LH (fun X hX=>by
     have hB:=HB3.out.trans (hX.mono HB3.out.size);have hl:=HLt.out;have hp:=HNe.out;refine ⟨(HD.out X hB).pay _,(blk_setCell_other _ _ _ _ (by show p≠db;omega)).trans (HP3.out.on hX),(blk_setCell_other _ _ _ _ (by show w.heap.size≠db;omega)).trans (HO3.out.on hX),?_⟩
     exact ((Mv.of_below hB).mono (fun b hb h=>absurd hb (by omega))).trans (Mv.of_grown (grown_set X db 1 _)) (fun b _ h=>(Option.some.inj h).symm))
    go_upto_region 6 with fail
    have hD0:Below wc.heap.size wc wc.drew:=(Below.refl _ _).drew;clear y0 y1 y2 y3 y4 y5 y6;obtain ⟨⟨d1,e1⟩,y0,y1,y2,y3,y4,y5,y6⟩:=HCel.out _ hD0
    go_cut [] (fun wx=>DBox wx db b (c - (1+n))∧OBox wx p ⟨o1,o2,o3,o4,o5,o6,o7⟩∧OBox wx w.heap.size Ob.zero∧Mv (fun x=>x=db) w wx)
    case first =>
     go_region_law (first
      | (go_simp;go_at_call 101;with_reducible refine (HW9.out _).mono ?_;rintro e w6 ⟨rfl,hB6⟩;have hD6:=bseq8 hD0 hB6;clear d1 e1 y0 y1 y2 y3 y4 y5 y6;obtain ⟨⟨d1,e1⟩,y0,y1,y2,y3,y4,y5,y6⟩:=HCel.out _ hD6))
     all_goals go_wp2_with fail
     all_goals go_meet
     all_goals exact HAft.out _ hD6
    case rest =>
     obtain ⟨hd5,hp5,ho5,hm5⟩:=hcut;have HD5:=LH hd5;have HP5:=LH hp5;have HO5:=LH ho5;have HM5:=LH hm5;have HLw:Hid (w.heap.size≠db):=LH (Nat.ne_of_gt HLt.out);obtain ⟨d0,d1⟩:=hd5.cells;clear hd5 hp5 ho5 hm5 hD0 e1 y0 y1 y2 y3 y4 y5 y6 HCel HAft
     rename_i wa wz
     by_cases hpay:c<1+n
     ·have k5:c - (1+n)<0:=by omega
      obtain rfl:Z=(Ob.zero,22):=HZ3.out.trans (if_pos hpay);obtain ⟨x0,x1,x2,x3,x4,x5,x6⟩:=HO5.out.cells;obtain ⟨f0,f1,f2,f3,f4,f5,f6⟩:=HO5.out.frozens;unfold Ob.zero at x0 x1 x2 x3 x4 x5 x6;dsimp only at x0 x1 x2 x3 x4 x5 x6;have HX:=LH (HO5.out.set7 0 0 0 0 0 0 0);have HMX:=LH (HM5.out.set7 w.heap.size (fun h=>absurd h (Nat.lt_irrefl _)) (.int .i64 0) (.int .i64 0) (.int .i64 0) (.int .i64 0) (.int .i64 0) (.int .i64 0) (.int .i64 0))
      have HDX:=LH (HD5.out.set7 HLw.out (.int .i64 0) (.int .i64 0) (.int .i64 0) (.int .i64 0) (.int .i64 0) (.int .i64 0) (.int .i64 0))
      go_wp2_with fail
      clear x0 x1 x2 x3 x4 x5 x6;obtain ⟨x0,x1,x2,x3,x4,x5,x6⟩:=HX.out.cells;dsimp only at x0 x1 x2 x3 x4 x5 x6;refine bodyPost_ret (v:= .tuple #[.agg (cellsO Ob.zero),.int .u16 22]) ?_ rfl ⟨rfl,HMX.out,⟨_,HDX.out,fun h=>absurd h (by decide)⟩⟩
      simp[results,Tryz.f118,go_sem,cellsO,Ob.zero,x0,x1,x2,x3,x4,x5,x6]
     ·have k5:¬c - (1+n)<0:=by omega
      obtain rfl:Z=(⟨o1,o2,o3,o4,o5,o6,o7⟩,0):=HZ3.out.trans (if_neg hpay);obtain ⟨x0,x1,x2,x3,x4,x5,x6⟩:=HO5.out.cells;obtain ⟨f0,f1,f2,f3,f4,f5,f6⟩:=HO5.out.frozens;unfold Ob.zero at x0 x1 x2 x3 x4 x5 x6;dsimp only at x0 x1 x2 x3 x4 x5 x6;have HX:=LH (HO5.out.set7 o1 o2 o3 o4 o5 o6 o7);have HMX:=LH (HM5.out.set7 w.heap.size (fun h=>absurd h (Nat.lt_irrefl _)) (.int .i64 o1) (.int .i64 o2) (.int .i64 o3) (.int .i64 o4) (.int .i64 o5) (.int .i64 o6) (.int .i64 o7))
      have HDX:=LH (HD5.out.set7 HLw.out (.int .i64 o1) (.int .i64 o2) (.int .i64 o3) (.int .i64 o4) (.int .i64 o5) (.int .i64 o6) (.int .i64 o7));obtain ⟨y0,y1,y2,y3,y4,y5,y6⟩:=HP5.out.cells;dsimp only at y0 y1 y2 y3 y4 y5 y6
      go_wp2_with fail
      clear x0 x1 x2 x3 x4 x5 x6;obtain ⟨x0,x1,x2,x3,x4,x5,x6⟩:=HX.out.cells;dsimp only at x0 x1 x2 x3 x4 x5 x6;refine bodyPost_ret (v:= .tuple #[.agg (cellsO ⟨o1,o2,o3,o4,o5,o6,o7⟩),.int .u16 0]) ?_ rfl ⟨rfl,HMX.out,⟨_,HDX.out,fun _=>by rw[HN.out]⟩⟩
      simp[results,Tryz.f118,go_sem,cellsO,x0,x1,x2,x3,x4,x5,x6]
 ·have hE1:(E != 0)=true:=by simp[hE]
  obtain rfl:Z=(Ob.zero,E):=HZ.out.trans (if_pos hE);obtain ⟨x0,x1,x2,x3,x4,x5,x6⟩:=HO3.out.cells;obtain ⟨f0,f1,f2,f3,f4,f5,f6⟩:=HO3.out.frozens;unfold Ob.zero at x0 x1 x2 x3 x4 x5 x6;dsimp only at x0 x1 x2 x3 x4 x5 x6;have HX:=LH (HO3.out.set7 0 0 0 0 0 0 0);have HBX:=LH (below_set7 (g:=w.heap.size) HB3.out (Nat.le_refl _) (.int .i64 0) (.int .i64 0) (.int .i64 0) (.int .i64 0) (.int .i64 0) (.int .i64 0) (.int .i64 0))
  go_wp2_with fail
  clear x0 x1 x2 x3 x4 x5 x6;obtain ⟨x0,x1,x2,x3,x4,x5,x6⟩:=HX.out.cells;dsimp only at x0 x1 x2 x3 x4 x5 x6;refine bodyPost_ret (v:= .tuple #[.agg (cellsO Ob.zero),.int .u16 E]) ?_ rfl ⟨rfl,(Mv.of_below HBX.out).mono (fun _ hb h=>by omega),⟨c,HD.out _ HBX.out,fun h=>absurd h hE⟩⟩
  simp[results,Tryz.f118,go_sem,cellsO,Ob.zero,x0,x1,x2,x3,x4,x5,x6]
theorem dec10_err {s:Sr} {d:Nat} {g a paid:Int} (h:(thingE (followO s g a) (32 - (d:Int)) (8192 - paid)).2≠0):decN s d g a paid=⟨(thingE (followO s g a) (32 - (d:Int)) (8192 - paid)).2,paid,Tr.nil⟩:=by
 unfold thingE at h ⊢
 by_cases h1:(followO s g a).2≠0
 ·rw[if_pos h1];cases d <;> (unfold decN;rw[if_pos h1])
 ·rw[if_neg h1] at h ⊢;cases d with
  | zero =>
   unfold decN;rw[if_neg h1]
   by_cases h2:(followO s g a).1.kind≠0
   ·rw[if_pos h2,if_pos ⟨h2,by omega⟩]
   ·have h2':¬((followO s g a).1.kind≠0∧32≤32 - ((0:Nat):Int)):=fun e=>h2 e.1
    rw[if_neg h2'] at h ⊢;rw[if_neg h2]
    by_cases h3:8192 - paid<1+wordsO (followO s g a).1
    ·rw[if_pos h3,if_pos (by omega)]
    ·rw[if_neg h3] at h;exact absurd rfl h
  | succ d =>
   have h2':¬((followO s g a).1.kind≠0∧32≤32 - ((d+1:Nat):Int)):=fun e=>by have:=e.2;omega
   rw[if_neg h2'] at h ⊢;rw[decN,if_neg h1]
   by_cases h3:8192 - paid<1+wordsO (followO s g a).1
   ·rw[if_pos h3,if_pos (by omega)]
   ·rw[if_neg h3] at h;exact absurd rfl h
theorem dec10_ok {s:Sr} {d:Nat} {g a paid:Int} (h:(thingE (followO s g a) (32 - (d:Int)) (8192 - paid)).2=0):(followO s g a).2=0∧(thingE (followO s g a) (32 - (d:Int)) (8192 - paid)).1=(followO s g a).1∧paid+(1+wordsO (followO s g a).1)≤8192∧((followO s g a).1.kind≠0→1≤d):=by
 unfold thingE at h ⊢
 by_cases h1:(followO s g a).2≠0
 ·rw[if_pos h1] at h;exact absurd h h1
 ·rw[if_neg h1] at h ⊢
  by_cases h2:(followO s g a).1.kind≠0∧32≤32 - (d:Int)
  ·rw[if_pos h2] at h;exact absurd h (by decide)
  ·rw[if_neg h2] at h ⊢
   by_cases h3:8192 - paid<1+wordsO (followO s g a).1
   ·rw[if_pos h3] at h;exact absurd h (by decide)
   ·rw[if_neg h3];exact ⟨Decidable.of_not_not h1,rfl,by omega,fun hk=>by
     by_cases hd:1≤d
     ·exact hd
     ·exact absurd ⟨hk,by omega⟩ h2⟩
theorem dec10_null {s:Sr} {d:Nat} {g a paid:Int} (h:(thingE (followO s g a) (32 - (d:Int)) (8192 - paid)).2=0) (hk:(followO s g a).1.kind=0):decN s d g a paid=⟨0,paid+(1+wordsO (followO s g a).1),Tr.nil⟩:=by
 obtain ⟨h1,-,h3,-⟩:=dec10_ok h;cases d with
 | zero =>
  unfold decN;rw[if_neg (by omega),if_neg (by omega),if_neg (by omega)]
 | succ d =>
  unfold decN;rw[if_neg (by omega),if_neg (by omega),if_pos hk]
theorem dec10_some {s:Sr} {d:Nat} {g a paid:Int} (h:(thingE (followO s g a) (32 - ((d+1:Nat):Int)) (8192 - paid)).2=0) (hk:(followO s g a).1.kind≠0) :
  decN s (d+1) g a paid=if (decKids (decN s d) (nKids (followO s g a).1) (followO s g a).1.seg (kidsA (followO s g a).1) (paid+(1+wordsO (followO s g a).1))).1≠0 then ⟨(decKids (decN s d) (nKids (followO s g a).1) (followO s g a).1.seg (kidsA (followO s g a).1) (paid+(1+wordsO (followO s g a).1))).1,paid,Tr.nil⟩
   else ⟨0,(decKids (decN s d) (nKids (followO s g a).1) (followO s g a).1.seg (kidsA (followO s g a).1) (paid+(1+wordsO (followO s g a).1))).2.1,.mk (followO s g a).1.kind (followO s g a).1.size (wordsF s (followO s g a).1) (bytesF s (followO s g a).1) (decKids (decN s d) (nKids (followO s g a).1) (followO s g a).1.seg (kidsA (followO s g a).1) (paid+(1+wordsO (followO s g a).1))).2.2⟩:=by
 obtain ⟨h1,-,h3,-⟩:=dec10_ok h;rw[decN,if_neg (by omega),if_neg (by omega),if_neg hk]
theorem dec10_paid {s:Sr}:(d:Nat)→(g a paid:Int)→(decN s d g a paid).err=0→0≤paid→(∀g a,0≤wordsO (followO s g a).1)→paid≤(decN s d g a paid).paid∧(decN s d g a paid).paid≤8192
 | d,g,a,paid,h,hp,hw=>by
  by_cases he:(thingE (followO s g a) (32 - (d:Int)) (8192 - paid)).2=0
  ·obtain ⟨h1,h2,h3,h4⟩:=dec10_ok he;have h5:=hw g a
   by_cases hk:(followO s g a).1.kind=0
   ·rw[dec10_null he hk];exact ⟨by show paid≤paid+_;omega,by show paid+_≤8192;omega⟩
   ·obtain ⟨d',rfl⟩:∃d',d=d'+1:=⟨d - 1,by have:=h4 hk;omega⟩
    rw[dec10_some he hk] at h ⊢;have hkids:∀(n:Nat) (g a p:Int),0≤p→p≤8192→(decKids (decN s d') n g a p).1=0→p≤(decKids (decN s d') n g a p).2.1∧(decKids (decN s d') n g a p).2.1≤8192:=by
     intro n
     induction n with
     | zero=>intro g a p _ h8 _;exact ⟨Int.le_refl _,h8⟩
     | succ n ih =>
      intro g a p h0 h8 hh;rw[decKids] at hh ⊢
      by_cases hx:(decN s d' g a p).err≠0
      ·rw[if_pos hx] at hh;exact absurd hh hx
      ·rw[if_neg hx] at hh ⊢;obtain ⟨i1,i2⟩:=dec10_paid d' g a p (Decidable.of_not_not hx) h0 hw;obtain ⟨i3,i4⟩:=ih g (a+1) (decN s d' g a p).paid (by omega) i2 hh;exact ⟨Int.le_trans i1 i3,i4⟩
    by_cases hx:(decKids (decN s d') (nKids (followO s g a).1) (followO s g a).1.seg (kidsA (followO s g a).1) (paid+(1+wordsO (followO s g a).1))).1≠0
    ·rw[if_pos hx] at h;exact absurd h hx
    ·rw[if_neg hx];obtain ⟨i1,i2⟩:=hkids _ _ _ _ (by omega) h3 (Decidable.of_not_not hx);exact ⟨Int.le_trans (by omega:paid≤paid+(1+wordsO (followO s g a).1)) i1,i2⟩
  ·rw[dec10_err he] at h;exact absurd h he
def Left (f:Int→Int→Int→Dn) (n:Nat) (g a p0:Int) (k:Nat) (pk:Int) (lk:List Tr):Prop :=
 lk.length=k∧decKids f n g a p0=((decKids f (n - k) g (a+(k:Int)) pk).1,(decKids f (n - k) g (a+(k:Int)) pk).2.1,lk ++ (decKids f (n - k) g (a+(k:Int)) pk).2.2)
theorem Left.first (f:Int→Int→Int→Dn) (n:Nat) (g a p0:Int):Left f n g a p0 0 p0 []:=⟨rfl,by simp⟩
theorem Left.err {f:Int→Int→Int→Dn} {n:Nat} {g a p0:Int} {k:Nat} {pk:Int} {lk:List Tr} (h:Left f n g a p0 k pk lk) (hk:k<n) (he:(f g (a+(k:Int)) pk).err≠0):(decKids f n g a p0).1=(f g (a+(k:Int)) pk).err:=by
 obtain ⟨-,h⟩:=h;obtain ⟨m,hm⟩:∃m,n - k=m+1:=⟨n - k - 1,by omega⟩
 rw[h,hm,decKids,if_pos he]
theorem Left.next {f:Int→Int→Int→Dn} {n:Nat} {g a p0:Int} {k:Nat} {pk:Int} {lk:List Tr} (h:Left f n g a p0 k pk lk) (hk:k<n) (he:(f g (a+(k:Int)) pk).err=0):Left f n g a p0 (k+1) (f g (a+(k:Int)) pk).paid (lk ++ [(f g (a+(k:Int)) pk).t]):=by
 obtain ⟨h0,h⟩:=h;obtain ⟨m,hm⟩:∃m,n - k=m+1:=⟨n - k - 1,by omega⟩
 refine ⟨by simp[h0],?_⟩;rw[h,hm,decKids,if_neg (by rw[he];simp),show n - (k+1)=m by omega,show a+(k:Int)+1=a+((k+1:Nat):Int) by omega]
 simp
theorem Left.last {f:Int→Int→Int→Dn} {n:Nat} {g a p0:Int} {pk:Int} {lk:List Tr} (h:Left f n g a p0 n pk lk):decKids f n g a p0=(0,pk,lk):=by
 obtain ⟨-,h⟩:=h;rw[h,Nat.sub_self]
 simp[decKids]
theorem good_zero {sz:List Int} {o:Ob} (h:GoodO sz o) (hk:o.kind=0):o=Ob.zero:=by
 rcases h with h | ⟨h,-⟩
 ·exact h
 ·omega
theorem dec10_leaf {s:Sr} {d:Nat} {g a paid:Int} (h:(thingE (followO s g a) (32 - (d:Int)) (8192 - paid)).2=0) (hg:GoodO s.sz (followO s g a).1) (hn:nKids (followO s g a).1=0) :
  decN s d g a paid=⟨0,paid+(1+wordsO (followO s g a).1),.mk (followO s g a).1.kind (followO s g a).1.size (wordsF s (followO s g a).1) (bytesF s (followO s g a).1) []⟩:=by
 by_cases hk:(followO s g a).1.kind=0
 ·rw[dec10_null h hk,good_zero hg hk]
  rfl
 ·obtain ⟨-,-,-,h4⟩:=dec10_ok h;obtain ⟨d',rfl⟩:∃d',d=d'+1:=⟨d - 1,by have:=h4 hk;omega⟩
  rw[dec10_some h hk,hn]
  rfl
theorem good_node {ls:List (List Int)} {o:Ob} (hu:AllU ls) (hg:GoodO (sizesL ls) o) (hf:fitsL (sizesL ls)=true) {n:Nat} (hn:n≤nKids o):Good1 o.kind o.size (wordsF (srA ls) o) (bytesF (srA ls) o) n:=by
 have hb:=okq_bd hg.okq;obtain ⟨b1,b2,b3,b4,b5⟩:=hb;dsimp only [ptrO] at b1 b2 b3 b4 b5;have hlw:(wordsF (srA ls) o).length=nWords o:=by simp[wordsF]
 have hlb:(bytesF (srA ls) o).length=nBytes o:=by simp[bytesF]
 have hc:nWords o≤65535∧nBytes o≤65535∧nKids o≤65535:=by
  rcases hg with rfl | ⟨hk,hq,he,hw⟩
  ·exact ⟨by decide,by decide,by decide⟩
  ·obtain ⟨w1,w2,w3,w4,w5⟩:=within_at hw;have hsz:=fits_size hf o.seg.toNat;unfold nWords nBytes nKids;unfold wordsO wordN ptrO at w5;dsimp only at w5
   rcases hk with hk | hk
   ·rw[if_pos hk] at w5;have hz:o.size=0:=by
     rcases hq with (h0 | ⟨-,-,-,-,h5,h6,-⟩ | ⟨h1,-⟩ | ⟨h1,-⟩) | h0
     ·exact absurd ((congrArg Pt.kind h0).symm.trans hk) (by decide)
     ·exact h5
     ·exact absurd (h1.symm.trans hk) (by decide)
     ·exact absurd (h1.symm.trans hk) (by decide)
     ·exact congrArg Pt.size h0
    rw[if_neg (by omega),if_neg (by omega),if_neg (by omega)]
    omega
   ·rw[if_neg (by omega),if_pos hk] at w5;unfold wordE ptrO at he;dsimp only at he;rw[if_neg (by omega),if_neg (by omega),if_pos hk] at he
    by_cases z2:o.size=2
    ·rw[if_pos z2] at w5;rw[if_neg (by omega),if_pos z2,if_neg (by omega)]
     omega
    ·rw[if_neg z2] at w5;rw[if_neg z2]
     by_cases z5:o.size=5∨o.size=6
     ·rw[if_pos z5] at w5;refine ⟨?_,by omega,?_⟩
      ·split <;> omega
      ·split <;> omega
     ·exact absurd he (by rw[if_neg (by omega)];decide)
 refine ⟨⟨by omega,by omega⟩,⟨by omega,by omega⟩,by rw[hlw];omega,by rw[hlb];omega,by omega,?_,?_⟩
 ·intro x hx;unfold wordsF at hx;obtain ⟨i,-,rfl⟩:=List.mem_map.1 hx;exact wordA_bd hu _ _
 ·intro x hx;unfold bytesF at hx;obtain ⟨i,-,rfl⟩:=List.mem_map.1 hx;have:=Int.emod_nonneg ((srA ls).wd o.seg (o.at_+((i / 8:Nat):Int)) / 2 ^ (8*(i % 8))) (by decide:(256:Int)≠0);have:=Int.emod_lt_of_pos ((srA ls).wd o.seg (o.at_+((i / 8:Nat):Int)) / 2 ^ (8*(i % 8))) (by decide:(0:Int)<256)
  omega
def TreeR (dn:Dn) (db b:Nat) (w:World) (e:Ending) (w':World):Prop :=
 ∃k z A1 n1 c1 A2 n2 c2 A3 n3 c3,e= .returned (.tuple #[.agg (cellsT k z (.slice A1 n1 c1) (.slice A2 n2 c2) (.slice A3 n3 c3)),.int .u16 dn.err])∧Mv (fun x=>x=db) w w'∧(∃c',DBox w' db b c'∧(dn.err=0→c'=8192 - dn.paid)) ∧
  (dn.err=0→TrP w' (fun x=>w.heap.size≤x∧x<w'.heap.size) dn.t (.agg (cellsT k z (.slice A1 n1 c1) (.slice A2 n2 c2) (.slice A3 n3 c3))))∧(dn.err≠0→TrP w' (fun _=>False) Tr.nil (.agg (cellsT k z (.slice A1 n1 c1) (.slice A2 n2 c2) (.slice A3 n3 c3))))
def TreeK (db b:Nat) (ls:List (List Int)) (w0:World) (d:Nat):Prop :=
 ∀(g a paid:Int) (w:World),Below w0.heap.size w0 w→DBox w db b (8192 - paid)→In64 g→In64 a→0≤paid→paid≤8192 →
  Calls Tryz.prog 85 #[.pointer (some ⟨db,0,none⟩),.int .i64 g,.int .i64 a,.int .i64 (32 - (d:Int))] w (TreeR (decN (srA ls) d g a paid) db b w)
theorem Mv.alloc {X:Nat→Prop} {A B:World} (h:Mv X A B) (o:Obj):Mv X A (B.alloc o) :=
 h.trans ((Mv.of_below ((Below.refl B.heap.size B).alloc (Nat.le_refl _) o)).mono (fun b hb (hx:B.heap.size≤b)=>absurd hb (by omega)):Mv (fun _=>False) B _) (fun _ _ hx=>hx.elim)
theorem Mv.on {X:Nat→Prop} {A B C:World} (h:Mv X A B) (hB:Below B.heap.size B C):Mv X A C :=
 h.trans ((Mv.of_below hB).mono (fun b hb (hx:B.heap.size≤b)=>absurd hb (by omega)):Mv (fun _=>False) B _) (fun _ _ hx=>hx.elim)
theorem Mv.put5 {X:Nat→Prop} {A B:World} (h:Mv X A B) (g:Nat) (hg:g<A.heap.size→X g) (o:Nat) (k z:Int) (a b c:Value):Mv X A (put5 B g o k z a b c) :=
 ((((h.set g hg o _).set g hg (o+1) _).set g hg (o+2) _).set g hg (o+3) _).set g hg (o+4) _
theorem Mv.keep {X:Nat→Prop} {A B:World} (h:Mv X A B) {b:Nat} (hb:b<A.heap.size) (hx:¬X b):B.heap[b]? = A.heap[b]? := h.same b hb hx
structure KidI (s:Sr) (d':Nat) (o:Ob) (db b w3 pt po gk n:Nat) (vw vb:Value) (p0:Int) (w:World) (k:Nat) (pk:Int) (lk:List Tr) (W:World):Prop where
 le:k≤n
 left:Left (decN s d') n o.seg (kidsA o) p0 k pk lk
 paid:p0≤pk∧pk≤8192
 row:NRow W w3 gk (lk ++ List.replicate (n - k) Tr.nil)
 node:TBox W pt o.kind o.size vw vb (.slice (some ⟨gk,0,none⟩) n n)
 box:OBox W po o
 res:TBox W w.heap.size 0 0 (.slice none 0 0) (.slice none 0 0) (.slice none 0 0)
 dec:DBox W db b (8192 - pk)
 mv:Mv (fun x=>x=db) w W
 words:NumP .u64 W (fun x=>w3≤x∧x<pt∧x≠gk) vw (wordsF s o)
 bytes:NumP .u8 W (fun x=>w3≤x∧x<pt∧x≠gk) vb (bytesF s o)
def AfterK (dk:Dn) (db b gk k:Nat) (W:World) (er:Value) (wx:World):Prop :=
 ∃w8 k' z' A1 n1 c1 A2 n2 c2 A3 n3 c3,er= .int .u16 dk.err∧wx=put5 w8 gk (k*5) k' z' (.slice A1 n1 c1) (.slice A2 n2 c2) (.slice A3 n3 c3)∧Mv (fun x=>x=db) W w8∧(∃c',DBox w8 db b c'∧(dk.err=0→c'=8192 - dk.paid)) ∧
  (dk.err=0→TrP w8 (fun x=>W.heap.size≤x∧x<w8.heap.size) dk.t (.agg (cellsT k' z' (.slice A1 n1 c1) (.slice A2 n2 c2) (.slice A3 n3 c3))))
theorem KidI.next {s:Sr} {d':Nat} {o:Ob} {db b w3 pt po gk n:Nat} {vw vb:Value} {p0:Int} {w:World} {k:Nat} {pk:Int} {lk:List Tr} {W wx:World} {er:Value} (h:KidI s d' o db b w3 pt po gk n vw vb p0 w k pk lk W) (hk:k<n) (hp:0≤p0) (hw:∀g a,0≤wordsO (followO s g a).1)
  (he:(decN s d' o.seg (kidsA o+(k:Int)) pk).err=0) (ha:AfterK (decN s d' o.seg (kidsA o+(k:Int)) pk) db b gk k W er wx) (hdb:db<w.heap.size) (hw3:w.heap.size<w3) (hgk:w3≤gk) (hgp:gk<pt) (hpo:w.heap.size<po∧po<w3) :
  er= .int .u16 0∧KidI s d' o db b w3 pt po gk n vw vb p0 w (k+1) (decN s d' o.seg (kidsA o+(k:Int)) pk).paid (lk ++ [(decN s d' o.seg (kidsA o+(k:Int)) pk).t]) wx:=by
 obtain ⟨w8,k',z',A1,n1,c1,A2,n2,c2,A3,n3,c3,e1,rfl,hm,⟨c',hd8,hc'⟩,ht⟩:=ha;have hc':=hc' he;have ht:=ht he;have hlen:=h.left.1;obtain ⟨q1,q2⟩:=dec10_paid d' o.seg (kidsA o+(k:Int)) pk he (by have:=h.paid;omega) hw;have hne:∀x,x≠db→x<W.heap.size→w8.heap[x]? = W.heap[x]? := fun x hx hl=>hm.same x hl hx
 have hn1:=h.node.lt;have hn2:=h.box.lt;have hn3:=h.res.lt;have hn4:=h.row.lt;have hother:=fun x (hx:x≠gk)=>put5_other w8 gk (k*5) k' z' (.slice A1 n1 c1) (.slice A2 n2 c2) (.slice A3 n3 c3) x hx
 refine ⟨by rw[e1,he],?_⟩;have hrow:NRow w8 w3 gk (lk ++ List.replicate (n - k) Tr.nil):=h.row.keep hm.size (fun x hx hl=>hne x (by omega) hl)
 have hset:=hrow.set (j:=k) (by rw[List.length_append,List.length_replicate,hlen];omega) (TrP.mono (fun x hx=>⟨by omega,hx.2,by omega⟩) _ _ ht)
 rw[List.set_append_right _ _ (by omega),hlen,Nat.sub_self] at hset;obtain ⟨m,hm1⟩:∃m,n - k=m+1:=⟨n - k - 1,by omega⟩
 rw[hm1,List.replicate_succ,List.set_cons_zero] at hset;refine ⟨by omega,h.left.next hk he,⟨by have:=h.paid;omega,q2⟩,?_,?_,?_,?_,?_,?_,?_,?_⟩
 ·rw[show n - (k+1)=m by omega,List.append_assoc]
  exact hset
 ·exact (h.node.of_block (hne _ (by omega) hn1)).of_block (hother _ (by omega))
 ·exact (hother _ (by omega)).trans ((hne _ (by omega) hn2).trans h.box)
 ·exact (h.res.of_block (hne _ (by omega) hn3)).of_block (hother _ (by omega))
 ·rw[←hc'];exact hd8.of_block (hother _ (by omega))
 ·exact (h.mv.trans hm (fun _ _ e=>e)).put5 gk (fun hlt=>absurd hlt (by omega)) _ _ _ _ _ _
 ·exact (h.words.keep (fun x hx=>hne x (by omega) (by omega))).keep (fun x hx=>hother x hx.2.2)
 ·exact (h.bytes.keep (fun x hx=>hne x (by omega) (by omega))).keep (fun x hx=>hother x hx.2.2)
theorem AfterK.keeps {dk:Dn} {db b gk k:Nat} {W wx:World} {er:Value} (h:AfterK dk db b gk k W er wx) {r:Nat} (hr:TBox W r 0 0 (.slice none 0 0) (.slice none 0 0) (.slice none 0 0)) (h1:r≠db) (h2:r≠gk) {w:World} (hm:Mv (fun x=>x=db) w W) (h3:w.heap.size≤gk) (h4:db≠gk) :
  er= .int .u16 dk.err∧TBox wx r 0 0 (.slice none 0 0) (.slice none 0 0) (.slice none 0 0)∧Mv (fun x=>x=db) w wx∧∃c',DBox wx db b c':=by
 obtain ⟨w8,k',z',A1,n1,c1,A2,n2,c2,A3,n3,c3,e1,rfl,hm8,⟨c',hd8,-⟩,-⟩:=h;refine ⟨e1,(hr.of_block (hm8.same r hr.lt h1)).of_block (put5_other _ _ _ _ _ _ _ _ _ h2),(hm.trans hm8 (fun _ _ e=>e)).put5 gk (fun hlt=>absurd hlt (by omega)) _ _ _ _ _ _,c',hd8.of_block (put5_other _ _ _ _ _ _ _ _ _ h4)⟩
set_option maxHeartbeats 4000000 in
theorem tree_step (db b:Nat) (v:Value) (ls:List (List Int)) (w0:World) (hK:WhK b v ls w0) (hdb:w0.heap.size≤db) (hs:ls.length≤1000000000) (hu:AllU ls) (h64:All64 (sizesL ls)) (hf:fitsL (sizesL ls)=true) (d:Nat) (hd32:d≤32) (ih:∀d',d=d'+1→TreeK db b ls w0 d'):TreeK db b ls w0 d:=by
 intro g a paid w hB hD hg ha h0 h8;have HKx:=LH (fun X (hX:Below w0.heap.size w0 X)=>(whole_ok b v ls hs hu h64).on hK hX)
 have HTh:=LH (fun X (hX:WhK b v ls X) (hd:DBox X db b (8192 - paid))=>thing10_any db b v ls g a (32 - (d:Int)) (8192 - paid) X hX hd hs hu h64 hg ha (by omega))
 have HGd:=LH (follow_good (whole_ok b v ls hs hu h64).good g a);have HOwn:=LH (fun o c X (hX:WhK b v ls X) (hd:DBox X db b c) (hg:GoodO (sizesL ls) o)=>own_any db b v ls o c X hd hX.box hX.ar hg hf)
 have HW0:Hid (∀g a,0≤wordsO (followO (srA ls) g a).1):=LH (fun g a=>(wordN_bd (follow_good (whole_ok b v ls hs hu h64).good g a).okq).1)
 have HIh:=LH ih;have HU:=LH hu;have HLs:=LH hs;have HFt:=LH hf;have HLt:=LH hD.lt;have HB:=LH hB;have HDb:=LH hdb;have H08:=LH (And.intro h0 h8);obtain ⟨F,hF⟩:∃F,F=followO (srA ls) g a:=⟨_,rfl⟩;have HF:=LH hF;rw[←hF] at HTh HGd
 -- the node that is handed back
 have hb1:=TBox.new w 0 0 (.slice none 0 0) (.slice none 0 0) (.slice none 0 0);have hB1:Below w.heap.size w (w.alloc (.cells (cellsT 0 0 (.slice none 0 0) (.slice none 0 0) (.slice none 0 0)) 34)):=(Below.refl _ _).alloc (Nat.le_refl _) _;obtain ⟨W1,hW1⟩:∃W1,W1=w.alloc (.cells (cellsT 0 0 (.slice none 0 0) (.slice none 0 0) (.slice none 0 0)) 34):=⟨_,rfl⟩;rw[←hW1] at hb1 hB1;have HN1:=LH hb1;have HB1:=LH hB1;have HTh1:=LH (HTh.out W1 (HKx.out W1 (hB.trans (hB1.mono hB.size))) (hD.on hB1));obtain ⟨dn,hdn⟩:∃dn,dn=decN (srA ls) d g a paid:=⟨_,rfl⟩;have HDn:=LH hdn;rw[←hdn];unfold cellsT at hW1;obtain ⟨ar,har⟩:∃ar,ar=32 - (d:Int):=⟨_,rfl⟩;have HAr:=LH har;rw[←har] at HTh1 ⊢;clear hF hb1 hB1 hdn hB hD hg ha h0 h8 hK hs hu h64 ih hdb har HTh;obtain ⟨X,hX⟩:∃X,X=thingE F ar (8192 - paid):=⟨_,rfl⟩;have HX:=LH hX;unfold ThingR at HTh1;rw[←hX] at HTh1;clear hX;obtain ⟨⟨o1,o2,o3,o4,o5,o6,o7⟩,E⟩:=X;unfold cellsO at HTh1;dsimp only at HTh1;go_enter Tryz.func85,Tryz.ntmps85;go_upto_region 1 with fail
 rw[←hW1];clear hW1
 go_wp2_with fail
 refine HTh1.out.mono ?_
 rintro e w2 ⟨rfl,hm2,hp2⟩;have HM2:=LH hm2;have HP2:=LH hp2;have HO3:=LH (OBox.new w2 ⟨o1,o2,o3,o4,o5,o6,o7⟩);have hBa:Below w2.heap.size w2 (w2.alloc (.cells (cellsO ⟨o1,o2,o3,o4,o5,o6,o7⟩) 129)):=(Below.refl _ _).alloc (Nat.le_refl _) _;have HBa:=LH hBa;have HN3:Hid (TBox (w2.alloc (.cells (cellsO ⟨o1,o2,o3,o4,o5,o6,o7⟩) 129)) w.heap.size 0 0 (.slice none 0 0) (.slice none 0 0) (.slice none 0 0)):=LH ((HN1.out.of_block (hm2.keep HN1.out.lt (Nat.ne_of_gt HLt.out))).on hBa);have HM3:Hid (Mv (fun x=>x=db) w (w2.alloc (.cells (cellsO ⟨o1,o2,o3,o4,o5,o6,o7⟩) 129))):=LH ((((Mv.of_below HB1.out).mono (fun _ hb h=>by omega):Mv (fun x=>x=db) w W1).trans hm2 (fun _ _ h=>h)).alloc _)
 obtain ⟨po,hpo⟩:∃po,po=w2.heap.size:=⟨_,rfl⟩;have HPo:Hid (w.heap.size<po):=LH (by rw[hpo];exact Nat.lt_of_lt_of_le HN1.out.lt hm2.size);rw[←hpo] at HO3;obtain ⟨W3,hW3⟩:∃W3,W3=w2.alloc (.cells (cellsO ⟨o1,o2,o3,o4,o5,o6,o7⟩) 129):=⟨_,rfl⟩;rw[←hW3] at HO3 HN3 HM3 HBa;unfold cellsO at hW3;dsimp only at hW3;clear hm2 hp2 hBa HTh1;go_upto_region 2 with fail
 rw[←hW3,←hpo];clear hW3 hpo
 by_cases hE:E=0
 ·subst hE;obtain ⟨c',hp2,hc'⟩:=HP2.out;have hc':=hc' rfl;have hX0:(thingE (followO (srA ls) g a) (32 - (d:Int)) (8192 - paid)).2=0:=by rw[←HF.out,←HAr.out,←HX.out]
  have hOF:(⟨o1,o2,o3,o4,o5,o6,o7⟩:Ob)=F.1:=by
   have h1:=(dec10_ok hX0).2.1;rw[←HF.out,←HAr.out,←HX.out] at h1;exact h1
  have HX0:=LH hX0;have HOF:=LH hOF;have HP08:Hid (paid+(1+wordsO F.1)≤8192∧(F.1.kind≠0→1≤d)):=LH (by
   obtain ⟨-,-,h3,h4⟩:=dec10_ok hX0;rw[←HF.out] at h3 h4;exact ⟨h3,h4⟩)
  have HGo:Hid (GoodO (sizesL ls) ⟨o1,o2,o3,o4,o5,o6,o7⟩):=LH (by rw[hOF];exact HGd.out);have HKm:Hid (∀Y,Mv (fun x=>x=db) w Y→WhK b v ls Y∧Below w0.heap.size w0 Y):=LH (fun Y hY=>by
   have h2:Below w0.heap.size w0 Y:=HB.out.trans (hY.below HB.out.size (fun x hx=>by have:=HDb.out;omega))
   exact ⟨HKx.out Y h2,h2⟩)
  have HD3:Hid (DBox W3 db b c'):=LH (hp2.on HBa.out);have HC':Hid (c'=8192 - (paid+(1+wordsO F.1))):=LH (by omega);have HOw:=LH (HOwn.out ⟨o1,o2,o3,o4,o5,o6,o7⟩ c' W3 (HKm.out W3 HM3.out).1 HD3.out HGo.out);have HG1:=LH (fun n hn=>good_node (n:=n) HU.out HGo.out HFt.out hn)
  obtain ⟨p0,hp0⟩:∃p0,p0=paid+(1+wordsO F.1):=⟨_,rfl⟩;rw[←hp0] at HC' HP08;have HP0:=LH hp0;clear hp2 hc' hX0 hOF hp0 HOwn HP2;obtain ⟨y0,y1,y2,y3,y4,y5,y6⟩:=HO3.out.cells;dsimp only at y0 y1 y2 y3 y4 y5 y6;unfold cellsO at HOw;dsimp only at HOw
  go_wp2_with fail
  refine HOw.out.mono ?_
  rintro e w4 ⟨vw,vb,vk,rfl,hnw,hnb,hkr,hB4⟩;obtain ⟨A1,c1,rfl⟩:=hnw.form;obtain ⟨A2,c2,rfl⟩:=hnb.form;obtain ⟨nw,hnw'⟩:∃n,n=(wordsF (srA ls) ⟨o1,o2,o3,o4,o5,o6,o7⟩).length:=⟨_,rfl⟩;obtain ⟨nb,hnb'⟩:∃n,n=(bytesF (srA ls) ⟨o1,o2,o3,o4,o5,o6,o7⟩).length:=⟨_,rfl⟩;rw[←hnw'] at hnw;rw[←hnb'] at hnb;rw[←hnw',←hnb'];have HNl:=LH (And.intro hnw' hnb');clear hnw' hnb';unfold cellsT;dsimp only
  rcases hkr with ⟨hk0,rfl⟩ | ⟨gk,rfl,hkr⟩
  ·-- there are no Kids
   have hB5:Below w4.heap.size w4 (w4.alloc (.cells (cellsT o1 o6 (.slice A1 nw c1) (.slice A2 nb c2) (.slice none 0 0)) 34)):=(Below.refl _ _).alloc (Nat.le_refl _) _;have HT5:=LH (TBox.new w4 o1 o6 (.slice A1 nw c1) (.slice A2 nb c2) (.slice none 0 0));have HN5:=LH ((HN3.out.on hB4).on hB5);have HM5:=LH ((HM3.out.on hB4).on hB5);have HD5:=LH ((HD3.out.on hB4).on hB5);have HNW:=LH ((hnw.mono (fun x hx=>And.intro hx.1 hx.2.1)).keep (fun x hx=>hB5.block x hx.2))
   have HNB:=LH ((hnb.mono (fun x hx=>And.intro hx.1 hx.2.1)).keep (fun x hx=>hB5.block x hx.2))
   have HSz:Hid (w.heap.size<W3.heap.size∧w4.heap.size≤(w4.alloc (.cells (cellsT o1 o6 (.slice A1 nw c1) (.slice A2 nb c2) (.slice none 0 0)) 34)).heap.size):=LH ⟨HN3.out.lt,hB5.size⟩;obtain ⟨W5,hW5⟩:∃W5,W5=w4.alloc (.cells (cellsT o1 o6 (.slice A1 nw c1) (.slice A2 nb c2) (.slice none 0 0)) 34):=⟨_,rfl⟩;obtain ⟨pt,hpt⟩:∃pt,pt=w4.heap.size:=⟨_,rfl⟩;rw[←hW5] at HT5 HN5 HM5 HD5 HNW HNB HSz;rw[←hpt] at HT5;unfold cellsT at hW5;have HK0:=LH hk0;clear hnw hnb hk0 y0 y1 y2 y3 y4 y5 y6 hB4 hB5;go_upto_region 5 with fail
   rw[←hW5,←hpt];clear hW5 hpt;obtain ⟨z0,z1,z2,z3,z4⟩:=HT5.out.cells
   go_wp2_with fail
   refine wp_loop_rounds 1 ?_
   rw[rounds_succ];obtain ⟨x0,x1,x2,x3,x4⟩:=HN5.out.cells;obtain ⟨f0,f1,f2,f3,f4⟩:=HN5.out.frozens;have HXX:=LH (HN5.out.put o1 o6 (.slice A1 nw c1) (.slice A2 nb c2) (.slice none 0 0));have HMX:=LH (HM5.out.put5 w.heap.size (fun h=>absurd h (Nat.lt_irrefl _)) 0 o1 o6 (.slice A1 nw c1) (.slice A2 nb c2) (.slice none 0 0))
   have hn0:nKids F.1=0:=by
    have h:=HK0.out;rw[HOF.out] at h;have:=congrArg List.length h
    simpa using this
   have hdn:dn=⟨0,p0,.mk o1 o6 (wordsF (srA ls) ⟨o1,o2,o3,o4,o5,o6,o7⟩) (bytesF (srA ls) ⟨o1,o2,o3,o4,o5,o6,o7⟩) []⟩:=by
    rw[HDn.out,dec10_leaf HX0.out (by rw[←HF.out];exact HGd.out) (by rw[←HF.out];exact hn0),←HF.out,←HP0.out,←HOF.out]
   have HDX:Hid (∃c',DBox (put5 W5 w.heap.size 0 o1 o6 (.slice A1 nw c1) (.slice A2 nb c2) (.slice none 0 0)) db b c'∧(dn.err=0→c'=8192 - dn.paid)):=LH ⟨c',HD5.out.of_block (put5_other _ _ _ _ _ _ _ _ _ (Nat.ne_of_lt HLt.out)),fun _=>by rw[hdn];exact HC'.out⟩
   have HTr:Hid (TrP (put5 W5 w.heap.size 0 o1 o6 (.slice A1 nw c1) (.slice A2 nb c2) (.slice none 0 0)) (fun x=>w.heap.size≤x∧x<(put5 W5 w.heap.size 0 o1 o6 (.slice A1 nw c1) (.slice A2 nb c2) (.slice none 0 0)).heap.size) dn.t (.agg (cellsT o1 o6 (.slice A1 nw c1) (.slice A2 nb c2) (.slice none 0 0)))):=LH (by
    rw[hdn,put5_size];have hlt:=HSz.out;unfold TrP;refine ⟨_,_,none,0,rfl,HG1.out 0 (Nat.zero_le _),(HNW.out.keep (fun x hx=>put5_other _ _ _ _ _ _ _ _ x (by omega))).mono (fun x hx=>⟨by omega,by omega⟩),(HNB.out.keep (fun x hx=>put5_other _ _ _ _ _ _ _ _ x (by omega))).mono (fun x hx=>⟨by omega,by omega⟩),Nat.le_refl _,by simp,fun h=>absurd h (by simp)⟩)
   have HEr:Hid (dn.err=0):=LH (by rw[hdn]);clear hdn hn0;unfold TreeR
   go_wp2_with fail
   unfold put5 at HXX HMX HDX HTr;simp only[Nat.zero_add] at HXX HMX HDX HTr;clear x0 x1 x2 x3 x4;obtain ⟨x0,x1,x2,x3,x4⟩:=HXX.out.cells;refine bodyPost_ret (v:= .tuple #[.agg (cellsT o1 o6 (.slice A1 nw c1) (.slice A2 nb c2) (.slice none 0 0)),.int .u16 0]) ?_ rfl ⟨o1,o6,A1,nw,c1,A2,nb,c2,none,0,0,by rw[HEr.out],HMX.out,HDX.out,fun _=>HTr.out,fun h=>absurd HEr.out h⟩
   simp[results,Tryz.f85,go_sem,cellsT,x0,x1,x2,x3,x4]
  ·-- a row of Kids
   rw[List.length_replicate];obtain ⟨n,hn⟩:∃n,n=nKids ⟨o1,o2,o3,o4,o5,o6,o7⟩:=⟨_,rfl⟩;rw[←hn] at hkr ⊢;have hnl:(List.replicate (nKids ⟨o1,o2,o3,o4,o5,o6,o7⟩) Tr.nil).length=n:=by rw[List.length_replicate,hn]
   rw[hnl] at hnw hnb;have hB5:Below w4.heap.size w4 (w4.alloc (.cells (cellsT o1 o6 (.slice A1 nw c1) (.slice A2 nb c2) (.slice (some ⟨gk,0,none⟩) n n)) 34)):=(Below.refl _ _).alloc (Nat.le_refl _) _;have HT5:=LH (TBox.new w4 o1 o6 (.slice A1 nw c1) (.slice A2 nb c2) (.slice (some ⟨gk,0,none⟩) n n));have HN5:=LH ((HN3.out.on hB4).on hB5);have HO5:=LH ((HO3.out.on hB4).on hB5);have HM5:=LH ((HM3.out.on hB4).on hB5);have HD5:=LH ((HD3.out.on hB4).on hB5);have hP:∀x,(W3.heap.size≤x∧x<w4.heap.size∧(Value.slice (some ⟨gk,0,none⟩) n n).ownBlock≠some x)→(W3.heap.size≤x∧x<w4.heap.size∧x≠gk):=fun x hx=>⟨hx.1,hx.2.1,fun e=>hx.2.2 (by rw[e];rfl)⟩
   have HNW:=LH ((hnw.mono hP).keep (fun x hx=>hB5.block x hx.2.1))
   have HNB:=LH ((hnb.mono hP).keep (fun x hx=>hB5.block x hx.2.1))
   have HRw:=LH (hkr.keep hB5.size (fun x _ hx=>hB5.block x hx))
   have HGk:Hid (W3.heap.size≤gk∧gk<w4.heap.size):=LH ⟨hkr.1,hkr.lt⟩;have HSz:Hid (w.heap.size<W3.heap.size∧po<W3.heap.size∧n≤1000000):=LH ⟨HN3.out.lt,HO3.out.lt,by have:=hkr.2.1;simpa using this⟩
   obtain ⟨W5,hW5⟩:∃W5,W5=w4.alloc (.cells (cellsT o1 o6 (.slice A1 nw c1) (.slice A2 nb c2) (.slice (some ⟨gk,0,none⟩) n n)) 34):=⟨_,rfl⟩;obtain ⟨pt,hpt⟩:∃pt,pt=w4.heap.size:=⟨_,rfl⟩;rw[←hW5] at HT5 HN5 HO5 HM5 HD5 HNW HNB HRw;rw[←hpt] at HT5 HGk HNW HNB;obtain ⟨w3,hw3⟩:∃w3,w3=W3.heap.size:=⟨_,rfl⟩;rw[←hw3] at HGk HNW HNB HRw HSz;unfold cellsT at hW5;have HNn:=LH hn;have HPt:Hid (pt<W5.heap.size):=LH HT5.out.lt;have HFirst:Hid (KidI (srA ls) (d - 1) ⟨o1,o2,o3,o4,o5,o6,o7⟩ db b w3 pt po gk n (.slice A1 nw c1) (.slice A2 nb c2) p0 w 0 p0 [] W5):=LH ⟨Nat.zero_le _,Left.first _ _ _ _ _,⟨Int.le_refl _,HP08.out.1⟩,by simpa using HRw.out,HT5.out,HO5.out,HN5.out,by rw[←HC'.out];exact HD5.out,HM5.out,HNW.out,HNB.out⟩
   clear hnw hnb y0 y1 y2 y3 y4 y5 y6 hB4 hB5 hkr hnl hn hP hw3;go_upto_region 5 with fail
   rw[←hW5,←hpt];clear hW5 hpt;obtain ⟨z0,z1,z2,z3,z4⟩:=HT5.out.cells
   go_wp2_with fail
   clear z0 z1 z2 z3 z4
   go_loopw [11,13,32] (fun er _ i wr=>∃(k:Nat) (pk:Int) (lk:List Tr),er= .int .u16 0∧i= .int .i64 k∧KidI (srA ls) (d - 1) ⟨o1,o2,o3,o4,o5,o6,o7⟩ db b w3 pt po gk n (.slice A1 nw c1) (.slice A2 nb c2) p0 w k pk lk wr) (fun _ _ i _=>n - (intOf i).toNat)
   case atStart=>exact ⟨0,p0,[],rfl,rfl,HFirst.out⟩
   case round =>
    obtain ⟨k,pk,lk,rfl,rfl,hI⟩:=hrel;have HI:=LH hI;have hkn:=hI.le;clear hI
    by_cases hlt:k<n
    ·have i1:(k:Int)<(n:Int):=by omega
     have hkind:o1≠0:=fun e=>by
      have h:=good_zero HGo.out e;have h2:=HNn.out;rw[h] at h2;have h3:n=0:=h2
      omega
     have hd1:1≤d:=HP08.out.2 (by rw[←HOF.out];exact hkind);have HKa:Hid (kidsA ⟨o1,o2,o3,o4,o5,o6,o7⟩=o3+o4∧(0≤o3∧o3≤4096)∧(0≤o4∧o4≤65535)∧In64 o2):=LH (by
      rcases HGo.out with h | ⟨hk,hq,he,hw⟩
      ·exact absurd (congrArg Ob.kind h) hkind
      ·obtain ⟨w1,w2,w3,w4,w5⟩:=within_at hw;have hsz:=fits_size HFt.out (Ob.seg ⟨o1,o2,o3,o4,o5,o6,o7⟩).toNat;obtain ⟨b1,b2,b3,b4,-⟩:=okq_bd hq;dsimp only [ptrO] at b1 b2 b3 b4 w1 w2 w3 w5 hk hsz;have hls:=HLs.out;rw[sizesL_length] at w2;refine ⟨?_,⟨w3,by omega⟩,b1,⟨by omega,by omega⟩⟩
       unfold kidsA;dsimp only
       rcases hk with rfl | rfl
       ·rw[if_pos rfl]
       ·rw[if_neg (by decide)];have h4:o4=0:=by
         rcases hq with (h0 | ⟨h1,-⟩ | ⟨-,-,h3,h4,-⟩ | ⟨h1,-⟩) | h0
         ·exact absurd (congrArg Pt.kind h0) (by show ¬(2:Int)=0;decide)
         ·exact absurd h1 (by show ¬(2:Int)=1;decide)
         ·exact h3
         ·exact absurd h1 (by show ¬(2:Int)=3;decide)
         ·exact absurd (congrArg Pt.kind h0) (by show ¬(2:Int)=1;decide)
        omega)
     have hka:=HKa.out;have hn6:=HSz.out.2.2;have hw1:IntKind.i64.wrap (o3+o4)=o3+o4:=IntWalk.i64_in _ (by omega);have hw2:IntKind.i64.wrap (o3+o4+(k:Int))=o3+o4+(k:Int):=IntWalk.i64_in _ (by omega);have hw3:IntKind.i64.wrap (ar+1)=ar+1:=IntWalk.i64_in _ (by have:=HAr.out;omega);have HCall:Hid (Calls Tryz.prog 85 #[.pointer (some ⟨db,0,none⟩),.int .i64 o2,.int .i64 (o3+o4+(k:Int)),.int .i64 (ar+1)] wr.drew (TreeR (decN (srA ls) (d - 1) o2 (o3+o4+(k:Int)) pk) db b wr.drew)):=LH (by
      have h:=HIh.out (d - 1) (by omega) o2 (o3+o4+(k:Int)) pk wr.drew ((HKm.out wr HI.out.mv).2.drew) HI.out.dec hka.2.2.2 ⟨by omega,by omega⟩ (by have h1:=HI.out.paid;have h2:=H08.out;have h3:=HW0.out g a;rw[←HF.out] at h3;have h4:=HP0.out;omega) HI.out.paid.2
      rw[show (32:Int) - ((d - 1:Nat):Int)=ar+1 by have:=HAr.out;omega] at h
      exact h)
     obtain ⟨dk,hdk⟩:∃dk,dk=decN (srA ls) (d - 1) o2 (o3+o4+(k:Int)) pk:=⟨_,rfl⟩;rw[←hdk] at HCall;have HDk:Hid (dk=decN (srA ls) (d - 1) o2 (kidsA ⟨o1,o2,o3,o4,o5,o6,o7⟩+(k:Int)) pk):=LH (by rw[hka.1];exact hdk);unfold TreeR at HCall;have HCel:Hid (∀Y,Mv (fun x=>x=db) wr Y→Y.cell? ⟨pt,4,none⟩=some (.slice (some ⟨gk,0,none⟩) n n)∧Y.cell? ⟨po,1,none⟩=some (.int .i64 o2)∧Y.cell? ⟨po,2,none⟩=some (.int .i64 o3)∧Y.cell? ⟨po,3,none⟩=some (.int .i64 o4)):=LH (fun Y hY=>by
      have h1:=HPo.out;have h2:=HGk.out;have h3:=HSz.out;have h4:=HLt.out;have a1:=HI.out.node.of_block (hY.same pt HI.out.node.lt (by omega));have a2:OBox Y po ⟨o1,o2,o3,o4,o5,o6,o7⟩:=(hY.same po HI.out.box.lt (by omega)).trans HI.out.box;exact ⟨a1.cells.2.2.2.2,a2.cells.2.1,a2.cells.2.2.1,a2.cells.2.2.2.1⟩)
     have HRc:Hid (∀Y,Mv (fun x=>x=db) wr Y→∃k' z' vw vb vk,Y.cell? ⟨gk,k*5,none⟩=some (.int .i64 k')∧Y.cell? ⟨gk,k*5+1,none⟩=some (.int .i64 z')∧Y.cell? ⟨gk,k*5+2,none⟩=some vw∧Y.cell? ⟨gk,k*5+3,none⟩=some vb∧Y.cell? ⟨gk,k*5+4,none⟩=some vk∧∀i,Y.frozen? ⟨gk,i,none⟩=false):=LH (fun Y hY=>by
      have h2:=HGk.out;have h3:=HSz.out;have h4:=HLt.out;have hr:=HI.out.row.keep hY.size (fun x hx hl=>hY.same x hl (by omega))
      exact hr.cell (by rw[List.length_append,List.length_replicate,HI.out.left.1];omega))
     clear hdk hkind hka hn6;obtain ⟨z4,y1,y2,y3⟩:=HCel.out wr (Mv.refl _ _);go_upto_region 8 with fail
     clear z4 y1 y2 y3;have hM0:Mv (fun x=>x=db) wr wr.drew:=⟨rfl,rfl,rfl,Nat.le_refl _,fun _ _ _=>rfl⟩
     obtain ⟨z4,y1,y2,y3⟩:=HCel.out wr.drew hM0
     go_cut [11] (fun er wx=>AfterK dk db b gk k wr er wx)
     case first =>
      have HCs:Hid (∀Y,Mv (fun x=>x=db) wr Y→∀k' z' u1 u2 u3,(put5 Y gk (k*5) k' z' u1 u2 u3).cell? ⟨pt,4,none⟩=some (.slice (some ⟨gk,0,none⟩) n n)∧(put5 Y gk (k*5) k' z' u1 u2 u3).cell? ⟨po,1,none⟩=some (.int .i64 o2)∧(put5 Y gk (k*5) k' z' u1 u2 u3).cell? ⟨po,2,none⟩=some (.int .i64 o3)∧(put5 Y gk (k*5) k' z' u1 u2 u3).cell? ⟨po,3,none⟩=some (.int .i64 o4)):=LH (fun Y hY k' z' u1 u2 u3=>by
       have h:=HCel.out Y hY;have h2:=HGk.out;have h3:=HSz.out;have e:∀x,x≠gk→∀j,(put5 Y gk (k*5) k' z' u1 u2 u3).cell? ⟨x,j,none⟩=Y.cell? ⟨x,j,none⟩:=fun x hx j=>cell_same (put5_other _ _ _ _ _ _ _ _ x hx) j
       rw[e _ (by omega),e _ (by omega),e _ (by omega),e _ (by omega)];exact h)
      unfold put5 at HCs
      go_region_held3 (fun w'=>w'.cell? ⟨pt,4,none⟩=some (.slice (some ⟨gk,0,none⟩) n n)∧w'.cell? ⟨po,1,none⟩=some (.int .i64 o2)∧w'.cell? ⟨po,2,none⟩=some (.int .i64 o3)∧w'.cell? ⟨po,3,none⟩=some (.int .i64 o4)) (first | exact HCel.out _ HM8.out | exact HCs.out _ HM8.out _ _ _ _ _ | exact HCel.out _ hM0) (first
       | (go_at_call 85;with_reducible refine HCall.out.mono ?_;intro e w8 hR;obtain ⟨k',z',A4,n4,c4,A5,n5,c5,A6,n6,c6,he8,hm8,hd8,ht8,-⟩:=hR;subst he8;unfold cellsT;have HM8:=LH (hM0.trans hm8 (fun _ _ h=>h));have HR8:=LH (And.intro hd8 ht8);clear hm8 hd8 ht8;obtain ⟨q1,q2,q3,q4,q5,r0,r1,r2,r3,r4,rf⟩:=HRc.out w8 HM8.out;have rf0:=rf (k*5);have rf1:=rf (k*5+1);have rf2:=rf (k*5+2);have rf3:=rf (k*5+3);have rf4:=rf (k*5+4);clear rf))
      all_goals go_wp2_with fail
      all_goals go_meet
      all_goals exact ⟨w8,k',z',A4,n4,c4,A5,n5,c5,A6,n6,c6,rfl,rfl,HM8.out,HR8.out.1,HR8.out.2⟩
     case rest =>
      have HCu:=LH hcut;have hsz:=HSz.out;have hgk:=HGk.out;have hlt2:=HLt.out;obtain ⟨e1,hn1,hm1,c2',hd1⟩:=hcut.keeps HI.out.res (by omega) (by omega) HI.out.mv (by omega) (by omega);subst e1;have HN9:=LH hn1;have HM9:=LH hm1;have HD9:=LH hd1;clear hcut hn1 hm1 hd1 hsz hgk hlt2 z4 y1 y2 y3
      by_cases he:dk.err=0
      ·have HNx:Hid (KidI (srA ls) (d - 1) ⟨o1,o2,o3,o4,o5,o6,o7⟩ db b w3 pt po gk n (.slice A1 nw c1) (.slice A2 nb c2) p0 w (k+1) dk.paid (lk ++ [dk.t]) wc):=LH (by
        have h1:=HPo.out;have h2:=HGk.out;have h3:=HSz.out;have h4:=HCu.out;rw[HDk.out] at h4;have h:=(HI.out.next hlt (by have h2:=H08.out;have h3:=HW0.out g a;rw[←HF.out] at h3;have h4:=HP0.out;omega) HW0.out (by rw[←HDk.out];exact he) h4 HLt.out h3.1 h2.1 h2.2 ⟨h1,h3.2.1⟩).2;rw[←HDk.out] at h;exact h)
       rw[he];have hn6:n≤1000000:=HSz.out.2.2
       go_wp2_with fail
       go_roundw
       case rel =>
        exact ⟨k+1,dk.paid,_,rfl,by go_num,HNx.out⟩
       case measure=>simp[intOf];omega
      ·have hE1:(dk.err != 0)=true:=by simp[he]
       obtain ⟨E,hE⟩:∃E,E=dk.err:=⟨_,rfl⟩;have HErr:Hid (dn.err=E):=LH (by
        have h1:=HI.out.left.err hlt (by rw[←HDk.out];exact he);rw[←HDk.out] at h1;have hdd:d=d - 1+1:=by omega
        have h:=dec10_some (s:=srA ls) (d:=d - 1) (g:=g) (a:=a) (paid:=paid) (by rw[←hdd];exact HX0.out) (by
         rw[←HF.out,←HOF.out];intro e;have h:=good_zero HGo.out e;have h2:=HNn.out;rw[h] at h2;have h3:n=0:=h2
         omega)
        rw[←hdd,←HF.out,←HOF.out,←HNn.out] at h;rw[←HOF.out] at HP0;rw[←HP0.out] at h;rw[if_pos (by rw[h1];exact he)] at h;rw[HDn.out,h,hE];exact h1)
       rw[←hE] at hE1 he ⊢;clear hE;obtain ⟨x0,x1,x2,x3,x4⟩:=HN9.out.cells;obtain ⟨f0,f1,f2,f3,f4⟩:=HN9.out.frozens;have HXX:=LH (HN9.out.put 0 0 (.slice none 0 0) (.slice none 0 0) (.slice none 0 0));have HMX:=LH (HM9.out.put5 w.heap.size (fun h=>absurd h (Nat.lt_irrefl _)) 0 0 0 (.slice none 0 0) (.slice none 0 0) (.slice none 0 0))
       have HDX:Hid (∃c',DBox (put5 wc w.heap.size 0 0 0 (.slice none 0 0) (.slice none 0 0) (.slice none 0 0)) db b c'∧(dn.err=0→c'=8192 - dn.paid)):=LH ⟨_,HD9.out.of_block (put5_other _ _ _ _ _ _ _ _ _ (Nat.ne_of_lt HLt.out)),fun h=>absurd (HErr.out.symm.trans h) he⟩
       go_wp2_with fail
       unfold put5 at HXX HMX HDX;simp only[Nat.zero_add] at HXX HMX HDX;clear x0 x1 x2 x3 x4;obtain ⟨x0,x1,x2,x3,x4⟩:=HXX.out.cells;refine bodyPost_ret (v:= .tuple #[.agg (cellsT 0 0 (.slice none 0 0) (.slice none 0 0) (.slice none 0 0)),.int .u16 E]) ?_ rfl (by unfold TreeR;exact ⟨0,0,none,0,0,none,0,0,none,0,0,by rw[HErr.out],HMX.out,HDX.out,fun h=>absurd (HErr.out.symm.trans h) he,fun _=>trP_nil _ _⟩)
       simp[results,Tryz.f85,go_sem,cellsT,x0,x1,x2,x3,x4]
    ·obtain rfl:k=n:=by omega
     have hdn:dn=⟨0,pk,.mk o1 o6 (wordsF (srA ls) ⟨o1,o2,o3,o4,o5,o6,o7⟩) (bytesF (srA ls) ⟨o1,o2,o3,o4,o5,o6,o7⟩) lk⟩:=by
      have hl:=HI.out.left.last
      by_cases hk0:o1=0
      ·have hz:=good_zero HGo.out hk0;have hn0:nKids ⟨o1,o2,o3,o4,o5,o6,o7⟩=0:=by rw[hz];rfl
       have h2:=HNn.out;rw[hn0] at h2;rw[h2] at hl;have hp:p0=pk:=congrArg (fun x=>x.2.1) hl
       have hk:[]=lk:=congrArg (fun x=>x.2.2) hl
       rw[HDn.out,dec10_leaf HX0.out (by rw[←HF.out];exact HGd.out) (by rw[←HF.out,←HOF.out];exact hn0),←HF.out,←HP0.out,←HOF.out,hp,hk]
      ·have hd1:1≤d:=HP08.out.2 (by rw[←HOF.out];exact hk0);have hdd:d=d - 1+1:=by omega
       have h:=dec10_some (s:=srA ls) (d:=d - 1) (g:=g) (a:=a) (paid:=paid) (by rw[←hdd];exact HX0.out) (by rw[←HF.out,←HOF.out];exact hk0);rw[←hdd,←HF.out,←HP0.out,←HOF.out,←HNn.out] at h;rw[hl,if_neg (by simp)] at h;rw[HDn.out];exact h
     obtain ⟨x0,x1,x2,x3,x4⟩:=HI.out.res.cells;obtain ⟨f0,f1,f2,f3,f4⟩:=HI.out.res.frozens;obtain ⟨z0,z1,z2,z3,z4⟩:=HI.out.node.cells;dsimp only at z0 z1;have HXX:=LH (HI.out.res.put o1 o6 (.slice A1 nw c1) (.slice A2 nb c2) (.slice (some ⟨gk,0,none⟩) k k));have HMX:=LH (HI.out.mv.put5 w.heap.size (fun h=>absurd h (Nat.lt_irrefl _)) 0 o1 o6 (.slice A1 nw c1) (.slice A2 nb c2) (.slice (some ⟨gk,0,none⟩) k k))
     have HEr:Hid (dn.err=0):=LH (by rw[hdn]);have HDX:Hid (∃c',DBox (put5 wr w.heap.size 0 o1 o6 (.slice A1 nw c1) (.slice A2 nb c2) (.slice (some ⟨gk,0,none⟩) k k)) db b c'∧(dn.err=0→c'=8192 - dn.paid)):=LH ⟨_,HI.out.dec.of_block (put5_other _ _ _ _ _ _ _ _ _ (Nat.ne_of_lt HLt.out)),fun _=>by rw[hdn]⟩
     have HTr:Hid (TrP (put5 wr w.heap.size 0 o1 o6 (.slice A1 nw c1) (.slice A2 nb c2) (.slice (some ⟨gk,0,none⟩) k k)) (fun x=>w.heap.size≤x∧x<(put5 wr w.heap.size 0 o1 o6 (.slice A1 nw c1) (.slice A2 nb c2) (.slice (some ⟨gk,0,none⟩) k k)).heap.size) dn.t (.agg (cellsT o1 o6 (.slice A1 nw c1) (.slice A2 nb c2) (.slice (some ⟨gk,0,none⟩) k k)))):=LH (by
      rw[hdn,put5_size];have h1:=HSz.out;have h2:=HGk.out;have h3:=HI.out.node.lt;have hlen:=HI.out.left.1;have hrow:=HI.out.row;rw[Nat.sub_self,List.replicate_zero,List.append_nil] at hrow;have hko:=fun x (hx:w3≤x)=>put5_other wr w.heap.size 0 o1 o6 (.slice A1 nw c1) (.slice A2 nb c2) (.slice (some ⟨gk,0,none⟩) k k) x (by omega)
      unfold TrP;refine ⟨_,_,some ⟨gk,0,none⟩,k,by rw[hlen],HG1.out _ (by rw[hlen];exact Nat.le_of_eq HNn.out),(HI.out.words.keep (fun x hx=>hko x hx.1)).mono (fun x hx=>⟨by omega,by omega⟩),(HI.out.bytes.keep (fun x hx=>hko x hx.1)).mono (fun x hx=>⟨by omega,by omega⟩),by rw[hlen];exact Nat.le_refl _,by omega,fun _=>⟨gk,0,rfl,⟨⟨by omega,by omega⟩,by
       obtain ⟨-,-,cur,hh,-⟩:=hrow;exact ⟨cur,_,(hko gk (by omega)).trans hh⟩⟩,?_⟩⟩
      exact KidsP.keep (P:=fun x=>w.heap.size≤x∧x<wr.heap.size) (w:=put5 wr w.heap.size 0 o1 o6 (.slice A1 nw c1) (.slice A2 nb c2) (.slice (some ⟨gk,0,none⟩) k k)) (fun _ _=>rfl) gk ⟨by omega,by omega⟩ 0 lk (KidsP.mono (fun x hx=>⟨by omega,hx.2⟩) gk 0 lk (KidsP.keep (fun x hx=>hko x hx.1) gk ⟨by omega,by omega⟩ 0 lk hrow.kids)))
     clear hdn
     go_wp2_with fail
     unfold put5 at HXX HMX HDX HTr;simp only[Nat.zero_add] at HXX HMX HDX HTr;clear x0 x1 x2 x3 x4;obtain ⟨x0,x1,x2,x3,x4⟩:=HXX.out.cells;refine bodyPost_ret (v:= .tuple #[.agg (cellsT o1 o6 (.slice A1 nw c1) (.slice A2 nb c2) (.slice (some ⟨gk,0,none⟩) k k)),.int .u16 0]) ?_ rfl (by unfold TreeR;exact ⟨o1,o6,A1,nw,c1,A2,nb,c2,some ⟨gk,0,none⟩,k,k,by rw[HEr.out],HMX.out,HDX.out,fun _=>HTr.out,fun h=>absurd HEr.out h⟩)
     simp[results,Tryz.f85,go_sem,cellsT,x0,x1,x2,x3,x4]
 ·have hE1:(E != 0)=true:=by simp[hE]
  have hdn:dn=⟨E,paid,Tr.nil⟩:=by
   have h:=dec10_err (s:=srA ls) (d:=d) (g:=g) (a:=a) (paid:=paid) (by rw[←HF.out,←HAr.out,←HX.out];exact hE);rw[←HF.out,←HAr.out,←HX.out,←HDn.out] at h;exact h
  obtain ⟨x0,x1,x2,x3,x4⟩:=HN3.out.cells;obtain ⟨f0,f1,f2,f3,f4⟩:=HN3.out.frozens;have HXX:=LH (HN3.out.put 0 0 (.slice none 0 0) (.slice none 0 0) (.slice none 0 0));have HMX:=LH (HM3.out.put5 w.heap.size (fun h=>absurd h (Nat.lt_irrefl _)) 0 0 0 (.slice none 0 0) (.slice none 0 0) (.slice none 0 0))
  have HDX:Hid (∃c',DBox (put5 W3 w.heap.size 0 0 0 (.slice none 0 0) (.slice none 0 0) (.slice none 0 0)) db b c'∧(E=0→c'=8192 - paid)):=LH (by
   obtain ⟨c',h1,-⟩:=HP2.out;exact ⟨c',(h1.on HBa.out).of_block (put5_other _ _ _ _ _ _ _ _ _ (Nat.ne_of_lt HLt.out)),fun h=>absurd h hE⟩)
  subst hdn;unfold TreeR
  go_wp2_with fail
  unfold put5 at HXX HMX HDX;simp only[Nat.zero_add] at HXX HMX HDX;clear x0 x1 x2 x3 x4;obtain ⟨x0,x1,x2,x3,x4⟩:=HXX.out.cells;refine bodyPost_ret (v:= .tuple #[.agg (cellsT 0 0 (.slice none 0 0) (.slice none 0 0) (.slice none 0 0)),.int .u16 E]) ?_ rfl ⟨0,0,none,0,0,none,0,0,none,0,0,rfl,HMX.out,HDX.out,fun h=>absurd h hE,fun _=>trP_nil _ _⟩
  simp[results,Tryz.f85,go_sem,cellsT,x0,x1,x2,x3,x4]
set_option maxHeartbeats 1000000 in
theorem clone_u (A:Option Addr) (c:Nat) (xs:List Value) (w:World) (hc:xs.length≤c) (hlen:xs.length≤1000000) (h1:∀u∈xs,u.oneCell'=true) (hr:0<xs.length→∃a,A=some a∧∀j u,xs[j]? = some u→w.cell? (a.add j)=some u∧(a.add j).block<w.heap.size) :
  Calls Tryz.prog 65 #[.slice A xs.length c] w fun e w'=>∃v',e= .returned v'∧w'.ownsRow w.heap.size 44 1 v' xs.length xs∧Below w.heap.size w w'∧(A.isSome=true→∃q,v'= .slice (some q) xs.length xs.length∨v'≠ .slice none 0 0):=by
 have q22:∀(w:World) (a:Option Addr) (n c n' c':Nat),(binOp .eql 31 (.slice a n c) (.slice none n' c')).run Tryz.prog w= .ok (.bool a.isNone) w:=fun w a n c n' c'=>Lib.run_eql_slice_nil w _ _ a n c n' c' Tryz.underlying31
 cases A with
 | none =>
  have hl:xs=[]:=by
   rcases Nat.eq_zero_or_pos xs.length with h | h
   ·exact List.eq_nil_of_length_eq_zero h
   ·obtain ⟨a,e,_⟩:=hr h;cases e
  subst hl;clear hr;go_enter Tryz.func65,Tryz.ntmps65
  go_wp2
  go_ret;exact ⟨_,rfl,World.ownsRow_nil _ _ _ _,Below.refl _ _,fun h=>by cases h⟩
 | some a =>
  have hB:Below w.heap.size w (w.alloc (.cells #[] 44)):=(Below.refl _ _).alloc (Nat.le_refl _) _;have hO:(w.alloc (.cells #[] 44)).ownsRow w.heap.size 44 1 (.slice (some ⟨w.heap.size,0,none⟩) 0 0) 0 []:=World.ownsRow_made w #[] 0 (Nat.le_refl _) (Nat.zero_le _) (by simp);obtain ⟨i0,hi,hz0,hz1,hz2⟩:=info_parts Tryz.info44;obtain ⟨v',w',hrun,ho',hg',hnil,_⟩:=run_append_own_at (P:=Tryz.prog) (w:=w.alloc (.cells #[] 44)) w.heap.size 31 31 44 i0 _ 1 8 Tryz.underlying31 hi hz0 hz1 hz2 rfl (by decide) _ 0 [] hO a xs.length c xs (by simp)
   (fun j u hu=>by
    obtain ⟨a',e,hcell⟩:=hr (by have:=(List.getElem?_eq_some_iff.1 hu).1;omega);cases e
    obtain ⟨h2,h3⟩:=hcell j u hu;exact (hB.cell h3).trans h2) h1 (by unfold maxLen;omega) (by omega) hB.size
  rw[Nat.zero_add,List.nil_append] at ho';have HRun:=LH hrun;have HO:=LH ho';have HB:=LH (hB.grown (B:=w.heap.size) hg' hB.size (fun k e=>by cases e;exact Nat.le_refl _))
  have HNil:Hid (v'≠ .slice none 0 0):=LH (fun e=>by have:=(hnil.1 e).1;cases this)
  obtain ⟨n,hn⟩:∃n,n=xs.length:=⟨_,rfl⟩;rw[←hn] at HRun HO;rw[←hn];clear hr hB hO hrun ho' hg' hn hc hnil;go_enter Tryz.func65,Tryz.ntmps65
  go_wp2_with (at_builtin;refine Lib.wpList_append_run _ rfl _ _ _ _ rfl _ _ rfl rfl _ _ HRun.out ?_)
  go_ret;exact ⟨_,rfl,HO.out,HB.out,fun _=>⟨⟨0,0,none⟩,.inr HNil.out⟩⟩
set_option maxHeartbeats 1000000 in
theorem clone_a (A:Option Addr) (c:Nat) (xs:List Value) (w:World) (hc:xs.length≤c) (hlen:xs.length≤1000000) (h1:∀u∈xs,u.oneCell'=true) (hr:0<xs.length→∃a,A=some a∧∀j u,xs[j]? = some u→w.cell? (a.add j)=some u∧(a.add j).block<w.heap.size) :
  Calls Tryz.prog 64 #[.slice A xs.length c] w fun e w'=>∃v',e= .returned v'∧w'.ownsRow w.heap.size 31 1 v' xs.length xs∧Below w.heap.size w w'∧(A.isSome=true→∃q,v'= .slice (some q) xs.length xs.length∨v'≠ .slice none 0 0):=by
 have q22:∀(w:World) (a:Option Addr) (n c n' c':Nat),(binOp .eql 23 (.slice a n c) (.slice none n' c')).run Tryz.prog w= .ok (.bool a.isNone) w:=fun w a n c n' c'=>Lib.run_eql_slice_nil w _ _ a n c n' c' Tryz.underlying23
 cases A with
 | none =>
  have hl:xs=[]:=by
   rcases Nat.eq_zero_or_pos xs.length with h | h
   ·exact List.eq_nil_of_length_eq_zero h
   ·obtain ⟨a,e,_⟩:=hr h;cases e
  subst hl;clear hr;go_enter Tryz.func64,Tryz.ntmps64
  go_wp2
  go_ret;exact ⟨_,rfl,World.ownsRow_nil _ _ _ _,Below.refl _ _,fun h=>by cases h⟩
 | some a =>
  have hB:Below w.heap.size w (w.alloc (.cells #[] 31)):=(Below.refl _ _).alloc (Nat.le_refl _) _;have hO:(w.alloc (.cells #[] 31)).ownsRow w.heap.size 31 1 (.slice (some ⟨w.heap.size,0,none⟩) 0 0) 0 []:=World.ownsRow_made w #[] 0 (Nat.le_refl _) (Nat.zero_le _) (by simp);obtain ⟨i0,hi,hz0,hz1,hz2⟩:=info_parts Tryz.info31;obtain ⟨v',w',hrun,ho',hg',hnil,_⟩:=run_append_own_at (P:=Tryz.prog) (w:=w.alloc (.cells #[] 31)) w.heap.size 23 23 31 i0 _ 1 24 Tryz.underlying23 hi hz0 hz1 hz2 rfl (by decide) _ 0 [] hO a xs.length c xs (by simp)
   (fun j u hu=>by
    obtain ⟨a',e,hcell⟩:=hr (by have:=(List.getElem?_eq_some_iff.1 hu).1;omega);cases e
    obtain ⟨h2,h3⟩:=hcell j u hu;exact (hB.cell h3).trans h2) h1 (by unfold maxLen;omega) (by omega) hB.size
  rw[Nat.zero_add,List.nil_append] at ho';have HRun:=LH hrun;have HO:=LH ho';have HB:=LH (hB.grown (B:=w.heap.size) hg' hB.size (fun k e=>by cases e;exact Nat.le_refl _))
  have HNil:Hid (v'≠ .slice none 0 0):=LH (fun e=>by have:=(hnil.1 e).1;cases this)
  obtain ⟨n,hn⟩:∃n,n=xs.length:=⟨_,rfl⟩;rw[←hn] at HRun HO;rw[←hn];clear hr hB hO hrun ho' hg' hn hc hnil;go_enter Tryz.func64,Tryz.ntmps64
  go_wp2_with (at_builtin;refine Lib.wpList_append_run _ rfl _ _ _ _ rfl _ _ rfl rfl _ _ HRun.out ?_)
  go_ret;exact ⟨_,rfl,HO.out,HB.out,fun _=>⟨⟨0,0,none⟩,.inr HNil.out⟩⟩
theorem clone_u64 (v:Value) (l:List Int) (w:World) (h:NumS .u64 w w.heap.size v l) (hl:l.length≤1000000) :
  Calls Tryz.prog 65 #[v] w fun e w'=>∃v',e= .returned v'∧OwnU w' w.heap.size v' l∧Below w.heap.size w w':=by
 obtain ⟨A,c,rfl,hc,hm,hr⟩:=h;have hl2:(l.map (Value.int .u64)).length=l.length:=by simp
 have h:=clone_u A c (l.map (Value.int .u64)) w (by rw[hl2];exact hc) (by rw[hl2];exact hl) (fun u hu=>by obtain ⟨x,_,rfl⟩:=List.mem_map.1 hu;rfl) (fun hp=>by
  rw[hl2] at hp;obtain ⟨b,off,rfl,hb,hcell⟩:=hr hp;refine ⟨_,rfl,fun j u hu=> ?_⟩
  rw[List.getElem?_map,Option.map_eq_some_iff] at hu;obtain ⟨x,hx,rfl⟩:=hu;have hj:j<l.length:=(List.getElem?_eq_some_iff.1 hx).1;have h2:=hcell j hj;rw[hx,Option.getD_some] at h2;rw[Addr.add_lit];exact ⟨h2,hb⟩)
 rw[hl2] at h;refine h.mono ?_
 rintro e w' ⟨v',rfl,ho,hB,-⟩;exact ⟨v',rfl,ho,hB⟩
theorem OwnU.numP {w:World} {base:Nat} {v:Value} {l:List Int} (h:OwnU w base v l):NumP .u64 w (fun b=>base≤b∧b<w.heap.size) v l:=(OwnN.numP h).mono (fun b hb=>World.ownsRow.lt h b hb)
theorem NumS.numP {q:IntKind} {w:World} {B:Nat} {v:Value} {l:List Int} (h:NumS q w B v l):NumP q w (fun b=>b<B) v l:=h
def SegR (w:World) (g n:Nat) (ls:List (List Int)):Prop :=
 ∃cur:Array Value,w.heap[g]? = some (.cells cur 31 (0,0))∧n≤cur.size∧∀j,j<n→∃s,cur[j]? = some s∧NumP .u64 w (fun b=>b<w.heap.size∧b≠g) s (ls[j]?.getD [])
theorem SegR.lt {w:World} {g n:Nat} {ls:List (List Int)} (h:SegR w g n ls):g<w.heap.size:=by
 obtain ⟨cur,hh,-⟩:=h;exact (Array.getElem?_eq_some_iff.1 hh).1
theorem SegR.on {w w':World} {g n:Nat} {ls:List (List Int)} (h:SegR w g n ls) (hB:Below w.heap.size w w'):SegR w' g n ls:=by
 have hlt:=h.lt;obtain ⟨cur,hh,hn,hc⟩:=h;refine ⟨cur,(hB.block g hlt).trans hh,hn,fun j hj=> ?_⟩
 obtain ⟨s,h1,h2⟩:=hc j hj;exact ⟨s,h1,(h2.keep (fun b hb=>hB.block b hb.1)).mono (fun b hb=>⟨Nat.lt_of_lt_of_le hb.1 hB.size,hb.2⟩)⟩
theorem SegR.at_ {w:World} {g n:Nat} {ls:List (List Int)} (h:SegR w g n ls) {j:Nat} (hj:j<n):∃s,w.cell? ⟨g,j,none⟩=some s∧w.frozen? ⟨g,j,none⟩=false∧NumS .u64 w w.heap.size s (ls[j]?.getD []):=by
 obtain ⟨cur,hh,hn,hc⟩:=h;obtain ⟨s,h1,h2⟩:=hc j hj;exact ⟨s,by simp[World.cell?,hh,h1],by simp[World.frozen?,hh],h2.numS (fun b hb=>hb.1)⟩
theorem SegR.set {w:World} {g n:Nat} {ls:List (List Int)} (h:SegR w g n ls) {j:Nat} (hj:j<n) {u:Value} (hu:NumP .u64 w (fun b=>b<w.heap.size∧b≠g) u (ls[j]?.getD [])):SegR (w.setCell ⟨g,j,none⟩ u) g n ls:=by
 obtain ⟨cur,hh,hn,hc⟩:=h;have hs:(w.setCell ⟨g,j,none⟩ u).heap.size=w.heap.size:=nblk_setCell _ _ _;have hk:∀v l,NumP .u64 w (fun b=>b<w.heap.size∧b≠g) v l→NumP .u64 (w.setCell ⟨g,j,none⟩ u) (fun b=>b<(w.setCell ⟨g,j,none⟩ u).heap.size∧b≠g) v l:=fun v l hv=>by
  rw[hs];exact hv.keep (fun b hb=>blk_setCell_other _ _ _ _ hb.2)
 refine ⟨_,heap_setCell_same _ g j _ _ u hh,by simpa using hn,fun i hi=> ?_⟩
 by_cases e:i=j
 ·subst e;exact ⟨u,by rw[Array.getElem?_setIfInBounds_self_of_lt (by omega)],hk _ _ hu⟩
 ·obtain ⟨s,h1,h2⟩:=hc i hi;exact ⟨s,by rw[Array.getElem?_setIfInBounds_ne (fun e'=>e e'.symm)];exact h1,hk _ _ h2⟩
theorem SegR.arV {w:World} {g c:Nat} {ls:List (List Int)} (h:SegR w g ls.length ls) (hc:ls.length≤c) (hm:c≤9223372036854775807):ArV w w.heap.size (.slice (some ⟨g,0,none⟩) ls.length c) ls :=
 ⟨_,c,rfl,hc,hm,fun _=>⟨g,0,rfl,h.lt,fun j hj=>by
  obtain ⟨s,h1,-,h3⟩:=h.at_ hj;exact ⟨s,by rw[Nat.zero_add];exact h1,h3⟩⟩⟩
theorem clone_ar (v:Value) (ls:List (List Int)) (w:World) (h:ArV w w.heap.size v ls) (hl:1≤ls.length) (hl2:ls.length≤1000000) :
  Calls Tryz.prog 64 #[v] w fun e w'=>∃g c,e= .returned (.slice (some ⟨g,0,none⟩) ls.length c)∧ls.length≤c∧c≤9223372036854775807∧w.heap.size≤g∧SegR w' g ls.length ls∧Below w.heap.size w w':=by
 obtain ⟨A,c,rfl,hc,hm,hr⟩:=h;obtain ⟨b,off,rfl,hb,hcell⟩:=hr (by omega);obtain ⟨xs,hxs⟩:∃xs:List Value,xs=(List.range ls.length).map (fun j=>(w.cell? ⟨b,off+j,none⟩).getD (.bool false)):=⟨_,rfl⟩
 have hxl:xs.length=ls.length:=by rw[hxs];simp
 have hxg:∀j,j<ls.length→∃s,xs[j]? = some s∧w.cell? ⟨b,off+j,none⟩=some s∧NumS .u64 w w.heap.size s (ls[j]?.getD []):=fun j hj=>by
  obtain ⟨s,h1,h2⟩:=hcell j hj;refine ⟨s,?_,h1,h2⟩;rw[hxs,List.getElem?_map,List.getElem?_range hj]
  show some ((w.cell? ⟨b,off+j,none⟩).getD (.bool false))=some s
  rw[h1]
  rfl
 have h:=clone_a (some ⟨b,off,none⟩) c xs w (by omega) (by omega) (fun u hu=>by
  obtain ⟨j,hj,rfl⟩:=List.getElem_of_mem hu;obtain ⟨s,h1,-,h3⟩:=hxg j (by omega);rw[List.getElem?_eq_getElem hj] at h1
  injection h1 with h1
  rw[h1];obtain ⟨A',c',rfl,-⟩:=h3
  rfl) (fun _=>⟨_,rfl,fun j u hu=>by
   have hj:j<xs.length:=(List.getElem?_eq_some_iff.1 hu).1;obtain ⟨s,h1,h2,-⟩:=hxg j (by omega);rw[h1] at hu
   injection hu with hu
   rw[Addr.add_lit,←hu];exact ⟨h2,hb⟩⟩)
 rw[hxl] at h;refine h.mono ?_
 rintro e w' ⟨v',rfl,ho,hB,-⟩;obtain ⟨h1,⟨-,hn⟩ | ⟨g,cap,cur,rfl,hg,hh,hcp,hmx,hsz,htk⟩⟩:=ho
 ·omega
 refine ⟨g,cap,rfl,hcp,by unfold maxLen at hmx;omega,hg,⟨cur,hh,by omega,fun j hj=> ?_⟩,hB⟩
 obtain ⟨s,h2,-,h4⟩:=hxg j hj;refine ⟨s,?_,?_⟩
 ·rw[Nat.mul_one] at htk;rw[←htk,List.getElem?_take_of_lt hj] at h2
  simpa using h2
 ·exact ((NumS.numP h4).keep (fun x hx=>hB.block x hx)).mono (fun x hx=>⟨Nat.lt_of_lt_of_le hx hB.size,by omega⟩)
set_option maxHeartbeats 1000000 in
theorem whole10_any (v:Value) (ls:List (List Int)) (w:World) (h:ArV w w.heap.size v ls) (hl:1≤ls.length) (hl2:ls.length≤1000000) (hs:∀l∈ls,l.length≤1000000) :
  Calls Tryz.prog 39 #[v] w fun e w'=>∃b v',e= .returned (.iface 122 (.pointer (some ⟨b,0,none⟩)))∧w.heap.size≤b∧WhBox w' b v'∧ArV w' w'.heap.size v' ls∧Below w.heap.size w w':=by
 have HC:=LH (clone_ar v ls w h hl hl2);obtain ⟨A,q,rfl⟩:=h.form rfl;obtain ⟨n,hn⟩:∃n,n=ls.length:=⟨_,rfl⟩;rw[←hn] at HC hl hl2 ⊢;have HN:=LH hn;have HS:=LH hs;clear h hn hs;go_enter Tryz.func39,Tryz.ntmps39
 go_wp2_with fail
 refine HC.out.mono ?_
 rintro e w1 ⟨g,c,rfl,hc,hm,hg,hr,hB⟩;have HR1:=LH hr;have HB1:=LH hB;have HG:=LH (And.intro hg (And.intro hc hm));clear hc hm hg hr hB
 go_wp2_with fail
 go_loopw [4,5,10] (fun _ _ i wr=>∃t:Nat,t≤n∧i= .int .i64 t∧SegR wr g n ls∧Below w.heap.size w wr) (fun _ _ i _=>n - (intOf i).toNat)
 case atStart=>exact ⟨0,by omega,rfl,HR1.out,HB1.out⟩
 case round =>
  obtain ⟨t,ht,rfl,hr,hB⟩:=hrel;have HR:=LH hr;have HB:=LH hB;clear hr hB
  by_cases hlt:t<n
  ·have i1:(t:Int)<(n:Int):=by omega
   obtain ⟨s,p1,p2,hs⟩:=HR.out.at_ hlt;have hsl:(ls[t]?.getD []).length≤1000000:=by
    rw[List.getElem?_eq_getElem (by rw[←HN.out];exact hlt)];exact HS.out _ (List.getElem_mem _)
   have HCl:=LH (clone_u64 s _ wr hs hsl);obtain ⟨A5,c5,rfl⟩:=hs.form rfl;clear hsl hs
   go_wp2_with fail
   refine HCl.out.mono ?_
   rintro e w5 ⟨u,rfl,ho,hB5⟩;have hr5:=HR.out.on hB5;obtain ⟨s',z1,z2,-⟩:=hr5.at_ hlt;have HR6:=LH (hr5.set hlt (ho.numP.mono (fun x hx=>⟨hx.2,by have:=HR.out.lt;omega⟩)))
   have HB6:Hid (Below w.heap.size w (w5.setCell ⟨g,t,none⟩ u)):=LH ((HB.out.trans (hB5.mono HB.out.size)).setCell (p:=⟨g,t,none⟩) HG.out.1 _);obtain ⟨A6,c6,rfl⟩:=ho.numP.form;clear hr5 ho hB5 p1 p2
   go_wp2_with fail
   go_roundw
   case rel=>exact ⟨t+1,by omega,by go_num,HR6.out,HB6.out⟩
   case measure=>simp[intOf];omega
  ·obtain rfl:t=n:=by omega
   have hWb:WhBox (wr.alloc (.cells #[.slice (some ⟨g,0,none⟩) t c] 124)) wr.heap.size (.slice (some ⟨g,0,none⟩) t c):=by unfold WhBox;rw[blk_alloc_new]
   have hBa:Below wr.heap.size wr (wr.alloc (.cells #[.slice (some ⟨g,0,none⟩) t c] 124)):=(Below.refl _ _).alloc (Nat.le_refl _) _;have HE:Hid (WhBox (wr.alloc (.cells #[.slice (some ⟨g,0,none⟩) t c] 124)) wr.heap.size (.slice (some ⟨g,0,none⟩) t c)∧ArV (wr.alloc (.cells #[.slice (some ⟨g,0,none⟩) t c] 124)) (wr.alloc (.cells #[.slice (some ⟨g,0,none⟩) t c] 124)).heap.size (.slice (some ⟨g,0,none⟩) t c) ls∧Below w.heap.size w (wr.alloc (.cells #[.slice (some ⟨g,0,none⟩) t c] 124))):=LH ⟨hWb,by
    have hx:=(HR.out.on hBa);have hn:=HN.out;subst hn;exact hx.arV HG.out.2.1 HG.out.2.2,HB.out.trans (hBa.mono HB.out.size)⟩
   clear hWb hBa
   go_wp2_with fail
   go_ret;exact ⟨_,_,rfl,HB.out.size,HE.out⟩
theorem tree_any (db b:Nat) (v:Value) (ls:List (List Int)) (w0:World) (hK:WhK b v ls w0) (hdb:w0.heap.size≤db) (hs:ls.length≤1000000000) (hu:AllU ls) (h64:All64 (sizesL ls)) (hf:fitsL (sizesL ls)=true):(d:Nat)→d≤32→TreeK db b ls w0 d
 | 0,h=>tree_step db b v ls w0 hK hdb hs hu h64 hf 0 h (fun d' e=>by omega)
 | d+1,h=>tree_step db b v ls w0 hK hdb hs hu h64 hf (d+1) h (fun d' e=>by
  obtain rfl:d=d':=by omega
  exact tree_any db b v ls w0 hK hdb hs hu h64 hf d (by omega))
def TrER (t:Tr × Int) (w:World) (e:Ending) (w':World):Prop :=
 ∃u,e= .returned (.tuple #[u,.int .u16 t.2])∧TrP w' (fun x=>w.heap.size≤x∧x<w'.heap.size) t.1 u∧Below w.heap.size w w'
set_option maxHeartbeats 2000000 in
theorem decode_any (v:Value) (ls:List (List Int)) (w:World) (L:Laid w) (h:ArV w w.heap.size v ls) (hl:ls.length≤1000000000) (hu:AllU ls) :
  Calls Tryz.prog 58 #[v] w (TrER (decodeT ls) w):=by
 have HR:=LH (fun X (hX:Below w.heap.size w X)=>aright_anyL v ls X (h.on hX) hl)
 have HTr:=LH (fun X b v' (hX:Below w.heap.size w X) (hb:WhBox X b v') (ha:ArV X X.heap.size v' ls) (hf:fitsL (sizesL ls)=true)=>fun Y hY db hdb hd=>tree_any db b v' ls X ⟨hb,ha,L.on hX⟩ hdb hl hu (sizes_all64 h) hf 32 (Nat.le_refl _) 0 0 0 Y hY hd ⟨by decide,by decide⟩ ⟨by decide,by decide⟩ (by decide) (by decide))
 have HWh:=LH (fun X (hX:Below w.heap.size w X) (hf:fitsL (sizesL ls)=true)=>whole10_any v ls X (h.on hX) (by have h1:=(of_decide_eq_true hf).1;rw[sizesL_length] at h1;exact h1) (by have h1:=(of_decide_eq_true hf).2.1;rw[sizesL_length] at h1;omega) (fun l hm=>by
  have h1:(l.length:Int)∈sizesL ls:=List.mem_map.2 ⟨l,hm,rfl⟩;obtain ⟨j,hj,e⟩:=List.getElem_of_mem h1;have h2:=fits_size hf j;rw[List.getElem?_eq_getElem hj,e] at h2
  show l.length≤1000000
  have h3:(l.length:Int)≤4096:=h2
  omega))
 have HL:Hid (decodeT ls=if fitsL (sizesL ls)=true then (if (decN (srA ls) 32 0 0 0).err≠0 then (Tr.nil,(decN (srA ls) 32 0 0 0).err) else ((decN (srA ls) 32 0 0 0).t,0)) else (Tr.nil,1)):=LH rfl
 obtain ⟨Z,hZ⟩:∃Z,Z=decodeT ls:=⟨_,rfl⟩;rw[←hZ] at HL ⊢;generalize fitsL (sizesL ls)=F at *
 generalize decN (srA ls) 32 0 0 0=dn at *
 have hb1:=TBox.new w 0 0 (.slice none 0 0) (.slice none 0 0) (.slice none 0 0);have hB1:Below w.heap.size w (w.alloc (.cells (cellsT 0 0 (.slice none 0 0) (.slice none 0 0) (.slice none 0 0)) 34)):=(Below.refl _ _).alloc (Nat.le_refl _) _;obtain ⟨A,q,rfl⟩:=h.form rfl;obtain ⟨W1,hW1⟩:∃W1,W1=w.alloc (.cells (cellsT 0 0 (.slice none 0 0) (.slice none 0 0) (.slice none 0 0)) 34):=⟨_,rfl⟩;rw[←hW1] at hb1 hB1;have HN1:=LH hb1;have HB1:=LH hB1;have HRc:=LH (HR.out W1 HB1.out);unfold cellsT at hW1;clear hZ hb1 hB1 h L hl hu HR;generalize ls.length=m at *
 cases F with
 | false =>
  obtain rfl:Z=(Tr.nil,1):=HL.out.trans (if_neg (by decide));go_enter Tryz.func58,Tryz.ntmps58;go_upto_region 1 with fail
  rw[←hW1];clear hW1
  go_wp2_with fail
  refine HRc.out.mono ?_
  rintro e w2 ⟨rfl,hB2⟩;have HN2:=LH (HN1.out.on hB2);have HB2:=LH (HB1.out.trans (hB2.mono HB1.out.size));clear hB2;obtain ⟨x0,x1,x2,x3,x4⟩:=HN2.out.cells;obtain ⟨f0,f1,f2,f3,f4⟩:=HN2.out.frozens;have HX:=LH (HN2.out.put 0 0 (.slice none 0 0) (.slice none 0 0) (.slice none 0 0));have HBX:=LH (below_put5 (g:=w.heap.size) HB2.out (Nat.le_refl _) 0 0 0 (.slice none 0 0) (.slice none 0 0) (.slice none 0 0))
  go_wp2_with fail
  unfold put5 at HX HBX;simp only[Nat.zero_add] at HX HBX;clear x0 x1 x2 x3 x4;obtain ⟨x0,x1,x2,x3,x4⟩:=HX.out.cells;refine bodyPost_ret (v:= .tuple #[.agg (cellsT 0 0 (.slice none 0 0) (.slice none 0 0) (.slice none 0 0)),.int .u16 1]) ?_ rfl (by unfold TrER;exact ⟨_,rfl,trP_nil _ _,HBX.out⟩)
  simp[results,Tryz.f58,go_sem,cellsT,x0,x1,x2,x3,x4]
 | true =>
  have HL2:=LH (HL.out.trans (if_pos rfl));go_enter Tryz.func58,Tryz.ntmps58;go_upto_region 1 with fail
  rw[←hW1];clear hW1
  go_wp2_with fail
  refine HRc.out.mono ?_
  rintro e w2 ⟨rfl,hB2⟩;have HN2:=LH (HN1.out.on hB2);have HB2:=LH (HB1.out.trans (hB2.mono HB1.out.size));clear hB2;have HWw:=LH (HWh.out w2 HB2.out (by trivial))
  go_wp2_with fail
  refine HWw.out.mono ?_
  rintro e w3 ⟨b,v',rfl,hb,hWb,hAr,hB3⟩;have hB4:Below w3.heap.size w3 (w3.alloc (.cells #[.iface 122 (.pointer (some ⟨b,0,none⟩)),.int .i64 8192] 148)):=(Below.refl _ _).alloc (Nat.le_refl _) _;have hD4:DBox (w3.alloc (.cells #[.iface 122 (.pointer (some ⟨b,0,none⟩)),.int .i64 8192] 148)) w3.heap.size b (8192 - 0):=by unfold DBox;rw[blk_alloc_new];rfl
  have HCall:=LH (HTr.out w3 b v' (HB2.out.trans (hB3.mono HB2.out.size)) hWb hAr (by trivial) _ hB4 w3.heap.size (Nat.le_refl _) hD4);have HN4:=LH ((HN2.out.on hB3).on hB4);have HB4:=LH (HB2.out.trans ((bseq8 hB3 hB4).mono HB2.out.size));have HLt:Hid (w.heap.size<w3.heap.size):=LH (Nat.lt_of_lt_of_le HN2.out.lt hB3.size);clear hB3 hb hWb hAr hB4 hD4 HTr HWh
  go_wp2_with fail
  refine HCall.out.mono ?_
  intro e w5 hR;obtain ⟨k,z,A1,n1,c1,A2,n2,c2,A3,n3,c3,he,hm,-,ht,hn⟩:=hR;subst he;unfold cellsT;have HN5:Hid (TBox w5 w.heap.size 0 0 (.slice none 0 0) (.slice none 0 0) (.slice none 0 0)):=LH (HN4.out.of_block (hm.same _ HN4.out.lt (by have:=HLt.out;omega)));have HB5:=LH (HB4.out.trans (hm.below HB4.out.size (fun x hx=>by have:=HLt.out;omega)))
  have HSz:=LH HB4.out.size;have HT:=LH ht;have HNl:=LH hn;clear hm ht hn;obtain ⟨x0,x1,x2,x3,x4⟩:=HN5.out.cells;obtain ⟨f0,f1,f2,f3,f4⟩:=HN5.out.frozens;have HX:=LH (HN5.out.put k z (.slice A1 n1 c1) (.slice A2 n2 c2) (.slice A3 n3 c3));have HBX:=LH (below_put5 (g:=w.heap.size) HB5.out (Nat.le_refl _) 0 k z (.slice A1 n1 c1) (.slice A2 n2 c2) (.slice A3 n3 c3));have HF:Hid (Z.2=dn.err∧TrP (put5 w5 w.heap.size 0 k z (.slice A1 n1 c1) (.slice A2 n2 c2) (.slice A3 n3 c3)) (fun x=>w.heap.size≤x∧x<(put5 w5 w.heap.size 0 k z (.slice A1 n1 c1) (.slice A2 n2 c2) (.slice A3 n3 c3)).heap.size) Z.1 (.agg (cellsT k z (.slice A1 n1 c1) (.slice A2 n2 c2) (.slice A3 n3 c3)))):=LH (by
   rw[put5_size]
   by_cases he:dn.err=0
   ·have hz:=HL2.out.trans (if_neg (by simp[he]));rw[hz];have h4:=HN4.out.lt;exact ⟨he.symm,TrP.mono (fun x hx=>⟨by omega,hx.2⟩) _ _ (TrP.keep (fun x hx=>put5_other _ _ _ _ _ _ _ _ x (by omega)) _ _ (HT.out he))⟩
   ·have hz:=HL2.out.trans (if_pos he);rw[hz];exact ⟨rfl,TrP.mono (fun x hx=>hx.elim) _ _ (TrP.keep (fun x hx=>hx.elim) _ _ (HNl.out he))⟩)
  go_wp2_with fail
  unfold put5 at HX HBX HF;simp only[Nat.zero_add] at HX HBX HF;clear x0 x1 x2 x3 x4;obtain ⟨x0,x1,x2,x3,x4⟩:=HX.out.cells;refine bodyPost_ret (v:= .tuple #[.agg (cellsT k z (.slice A1 n1 c1) (.slice A2 n2 c2) (.slice A3 n3 c3)),.int .u16 dn.err]) ?_ rfl (by unfold TrER;exact ⟨_,by rw[HF.out.1],HF.out.2,HBX.out⟩)
  simp[results,Tryz.f58,go_sem,cellsT,x0,x1,x2,x3,x4]
end Go.Proofs.YtmmlfnblodfjbaaGreatDoor
