/- Layer 10, the document: step, word: what a step leads to in a tree; one word of something. -/
import Derived.Test.YtmmlfnblodfjbaaGreatDoorQTaA
import Derived.Test.YtmmlfnblodfjbaaGreatDoorQRdC
import Derived.BigRegion
import Derived.Test.YtmmlfnblodfjbaaGreatDoorQTnA
import Derived.Deep.RegionHeldLaw
set_option maxRecDepth 100000
namespace Go.Proofs.YtmmlfnblodfjbaaGreatDoor
open Go.RowKit Go.Deep
set_option maxHeartbeats 4000000 in
theorem rstep10_any (t:Tr) (v:Value) (k:Int) (w:World) (B:Nat) (hB:B≤w.heap.size) (h:TrV w B t v) (hf:FineT t) (hk:0≤k∧k≤9223372036854775807) :
  Calls Tryz.prog 46 #[v,.int .i64 k] w fun e w'=>∃u,e= .returned (.tuple #[u,.int .i64 (stepT t k).2])∧TrV w' B (stepT t k).1 u∧Below w.heap.size w w':=by
 obtain ⟨kk,z,ws,bs,ks⟩:=t;have hst:stepT (.mk kk z ws bs ks) k=if kk=0∨(kk=1∧(ks.length:Int)≤k) then (Tr.nil,0) else if kk≠1∧z≠6 then (Tr.nil,23) else if (ks.length:Int)≤k then (Tr.nil,20) else (ks[k.toNat]?.getD Tr.nil,0):=rfl
 unfold FineT at hf;obtain ⟨hf1,-⟩:=hf;obtain ⟨A1,c1,A2,c2,A3,c3,rfl,hg,-,-,hc3,hm3,hkid⟩:=h.parts;obtain ⟨hb1,hb2,hB0,hs0⟩:=two_new10 w (cellsT kk z (.slice A1 ws.length c1) (.slice A2 bs.length c2) (.slice A3 ks.length c3)) (cellsT 0 0 (.slice none 0 0) (.slice none 0 0) (.slice none 0 0)) 34 34 _ rfl;obtain ⟨nw,hnw⟩:∃n,n=ws.length:=⟨_,rfl⟩;obtain ⟨nb,hnb⟩:∃n,n=bs.length:=⟨_,rfl⟩;obtain ⟨nk,hnk⟩:∃n,n=ks.length:=⟨_,rfl⟩;rw[←hnw,←hnb,←hnk] at hb1 hb2 hB0 hs0 hf1;rw[←hnk] at hst hkid hc3;rw[←hnw,←hnb,←hnk];obtain ⟨W1,hW1⟩:∃W1,W1=(w.alloc (.cells (cellsT kk z (.slice A1 nw c1) (.slice A2 nb c2) (.slice A3 nk c3)) 34)).alloc (.cells (cellsT 0 0 (.slice none 0 0) (.slice none 0 0) (.slice none 0 0)) 34):=⟨_,rfl⟩;rw[←hW1] at hb1 hb2 hB0 hs0;have HO1:Hid (TBox W1 w.heap.size kk z (.slice A1 nw c1) (.slice A2 nb c2) (.slice A3 nk c3)):=LH hb1;have HN1:Hid (TBox W1 (w.heap.size+1) 0 0 (.slice none 0 0) (.slice none 0 0) (.slice none 0 0)):=LH hb2;have HB1:=LH hB0;have HKid:=LH hkid;have HNk:=LH hnk;obtain ⟨k0,k1⟩:=hk;unfold cellsT at hW1 ⊢;obtain ⟨x0,x1,x2,x3,x4⟩:=HO1.out.cells;clear h hkid hb1 hb2 hB0 hs0 hnw hnb hnk hg
 by_cases e0:kk=0
 ·subst e0;rw[hst,if_pos (.inl rfl)];clear hst;obtain ⟨y0,y1,y2,y3,y4⟩:=HN1.out.cells;obtain ⟨f0,f1,f2,f3,f4⟩:=HN1.out.frozens;have HX:=LH (HN1.out.put 0 0 (.slice none 0 0) (.slice none 0 0) (.slice none 0 0));have HBX:=LH (below_put5 (g:=w.heap.size+1) HB1.out (Nat.le_succ _) 0 0 0 (.slice none 0 0) (.slice none 0 0) (.slice none 0 0));go_enter Tryz.func46,Tryz.ntmps46;go_upto_region 1 with fail
  rw[←hW1];clear hW1
  go_wp2_with fail
  unfold put5 at HX HBX;simp only[Nat.zero_add] at HX HBX;clear y0 y1 y2 y3 y4;obtain ⟨y0,y1,y2,y3,y4⟩:=HX.out.cells;refine bodyPost_ret (v:= .tuple #[.agg (cellsT 0 0 (.slice none 0 0) (.slice none 0 0) (.slice none 0 0)),.int .i64 0]) ?_ rfl ⟨_,rfl,TrV.nil _ _,HBX.out⟩
  simp[results,Tryz.f46,go_sem,cellsT,y0,y1,y2,y3,y4]
 ·by_cases e1:kk=1
  ·subst e1
   by_cases hle:(nk:Int)≤k
   ·rw[hst,if_pos (.inr ⟨rfl,hle⟩)];clear hst;obtain ⟨y0,y1,y2,y3,y4⟩:=HN1.out.cells;obtain ⟨f0,f1,f2,f3,f4⟩:=HN1.out.frozens;have HX:=LH (HN1.out.put 0 0 (.slice none 0 0) (.slice none 0 0) (.slice none 0 0));have HBX:=LH (below_put5 (g:=w.heap.size+1) HB1.out (Nat.le_succ _) 0 0 0 (.slice none 0 0) (.slice none 0 0) (.slice none 0 0));go_enter Tryz.func46,Tryz.ntmps46;go_upto_region 1 with fail
    rw[←hW1];clear hW1
    go_wp2_with fail
    unfold put5 at HX HBX;simp only[Nat.zero_add] at HX HBX;clear y0 y1 y2 y3 y4;obtain ⟨y0,y1,y2,y3,y4⟩:=HX.out.cells;refine bodyPost_ret (v:= .tuple #[.agg (cellsT 0 0 (.slice none 0 0) (.slice none 0 0) (.slice none 0 0)),.int .i64 0]) ?_ rfl ⟨_,rfl,TrV.nil _ _,HBX.out⟩
    simp[results,Tryz.f46,go_sem,cellsT,y0,y1,y2,y3,y4]
   ·rw[hst,if_neg (fun e=>e.elim (fun e=>by omega) (fun e=>hle e.2)),if_neg (fun e=>e.1 rfl),if_neg hle]
    clear hst;obtain ⟨j,rfl⟩:∃j:Nat,k=j:=⟨k.toNat,by omega⟩
    rw[Int.toNat_natCast];have hlt:(j:Int)<(nk:Int):=by omega
    obtain ⟨b,off,rfl,hbB,hkj⟩:=HKid.out (by omega);obtain ⟨k',z',vw,vb,vk,q0,q1,q2,q3,q4,hTk⟩:=hkj j (by omega);obtain ⟨u,hu⟩:∃u,u=ks[j]?.getD Tr.nil:=⟨_,rfl⟩;rw[←hu] at hTk ⊢;obtain ⟨A4,n4,c4,A5,n5,c5,A6,n6,c6,rfl,rfl,rfl⟩:=hTk.three;have hc:=fun i=>HB1.out.cell (p:=⟨b,i,none⟩) (by show b<w.heap.size;omega)
    have p0:=(hc _).trans q0;have p1:=(hc _).trans q1;have p2:=(hc _).trans q2;have p3:=(hc _).trans q3;have p4:=(hc _).trans q4;clear hkj q0 q1 q2 q3 q4 hc hu;obtain ⟨y0,y1,y2,y3,y4⟩:=HN1.out.cells;obtain ⟨f0,f1,f2,f3,f4⟩:=HN1.out.frozens;have HX:=LH (HN1.out.put k' z' (.slice A4 n4 c4) (.slice A5 n5 c5) (.slice A6 n6 c6));have HBX:=LH (below_put5 (g:=w.heap.size+1) HB1.out (Nat.le_succ _) 0 k' z' (.slice A4 n4 c4) (.slice A5 n5 c5) (.slice A6 n6 c6));have HTV:Hid (TrV (put5 W1 (w.heap.size+1) 0 k' z' (.slice A4 n4 c4) (.slice A5 n5 c5) (.slice A6 n6 c6)) B u (.agg (cellsT k' z' (.slice A4 n4 c4) (.slice A5 n5 c5) (.slice A6 n6 c6)))):=LH (TrV.below (HBX.out) hB _ _ hTk);clear hTk;go_enter Tryz.func46,Tryz.ntmps46;go_upto_region 1 with fail
    rw[←hW1];clear hW1
    go_wp2_with fail
    unfold put5 at HX HBX HTV;simp only[Nat.zero_add] at HX HBX HTV;clear y0 y1 y2 y3 y4;obtain ⟨y0,y1,y2,y3,y4⟩:=HX.out.cells;refine bodyPost_ret (v:= .tuple #[.agg (cellsT k' z' (.slice A4 n4 c4) (.slice A5 n5 c5) (.slice A6 n6 c6)),.int .i64 0]) ?_ rfl ⟨_,rfl,HTV.out,HBX.out⟩
    simp[results,Tryz.f46,go_sem,cellsT,y0,y1,y2,y3,y4]
  ·have e2:kk=2:=by unfold fine1 at hf1;omega
   subst e2
   by_cases z6:z=6
   ·subst z6
    by_cases hle:(nk:Int)≤k
    ·rw[hst,if_neg (by omega),if_neg (fun e=>e.2 rfl),if_pos hle]
     clear hst;obtain ⟨y0,y1,y2,y3,y4⟩:=HN1.out.cells;obtain ⟨f0,f1,f2,f3,f4⟩:=HN1.out.frozens;have HX:=LH (HN1.out.put 0 0 (.slice none 0 0) (.slice none 0 0) (.slice none 0 0));have HBX:=LH (below_put5 (g:=w.heap.size+1) HB1.out (Nat.le_succ _) 0 0 0 (.slice none 0 0) (.slice none 0 0) (.slice none 0 0));go_enter Tryz.func46,Tryz.ntmps46;go_upto_region 1 with fail
     rw[←hW1];clear hW1
     go_wp2_with fail
     unfold put5 at HX HBX;simp only[Nat.zero_add] at HX HBX;clear y0 y1 y2 y3 y4;obtain ⟨y0,y1,y2,y3,y4⟩:=HX.out.cells;refine bodyPost_ret (v:= .tuple #[.agg (cellsT 0 0 (.slice none 0 0) (.slice none 0 0) (.slice none 0 0)),.int .i64 20]) ?_ rfl ⟨_,rfl,TrV.nil _ _,HBX.out⟩
     simp[results,Tryz.f46,go_sem,cellsT,y0,y1,y2,y3,y4]
    ·rw[hst,if_neg (by omega),if_neg (fun e=>e.2 rfl),if_neg hle]
     clear hst;obtain ⟨j,rfl⟩:∃j:Nat,k=j:=⟨k.toNat,by omega⟩
     rw[Int.toNat_natCast];have hlt:(j:Int)<(nk:Int):=by omega
     obtain ⟨b,off,rfl,hbB,hkj⟩:=HKid.out (by omega);obtain ⟨k',z',vw,vb,vk,q0,q1,q2,q3,q4,hTk⟩:=hkj j (by omega);obtain ⟨u,hu⟩:∃u,u=ks[j]?.getD Tr.nil:=⟨_,rfl⟩;rw[←hu] at hTk ⊢;obtain ⟨A4,n4,c4,A5,n5,c5,A6,n6,c6,rfl,rfl,rfl⟩:=hTk.three;have hc:=fun i=>HB1.out.cell (p:=⟨b,i,none⟩) (by show b<w.heap.size;omega)
     have p0:=(hc _).trans q0;have p1:=(hc _).trans q1;have p2:=(hc _).trans q2;have p3:=(hc _).trans q3;have p4:=(hc _).trans q4;clear hkj q0 q1 q2 q3 q4 hc hu;obtain ⟨y0,y1,y2,y3,y4⟩:=HN1.out.cells;obtain ⟨f0,f1,f2,f3,f4⟩:=HN1.out.frozens;have HX:=LH (HN1.out.put k' z' (.slice A4 n4 c4) (.slice A5 n5 c5) (.slice A6 n6 c6));have HBX:=LH (below_put5 (g:=w.heap.size+1) HB1.out (Nat.le_succ _) 0 k' z' (.slice A4 n4 c4) (.slice A5 n5 c5) (.slice A6 n6 c6));have HTV:Hid (TrV (put5 W1 (w.heap.size+1) 0 k' z' (.slice A4 n4 c4) (.slice A5 n5 c5) (.slice A6 n6 c6)) B u (.agg (cellsT k' z' (.slice A4 n4 c4) (.slice A5 n5 c5) (.slice A6 n6 c6)))):=LH (TrV.below (HBX.out) hB _ _ hTk);clear hTk;go_enter Tryz.func46,Tryz.ntmps46;go_upto_region 1 with fail
     rw[←hW1];clear hW1
     go_wp2_with fail
     unfold put5 at HX HBX HTV;simp only[Nat.zero_add] at HX HBX HTV;clear y0 y1 y2 y3 y4;obtain ⟨y0,y1,y2,y3,y4⟩:=HX.out.cells;refine bodyPost_ret (v:= .tuple #[.agg (cellsT k' z' (.slice A4 n4 c4) (.slice A5 n5 c5) (.slice A6 n6 c6)),.int .i64 0]) ?_ rfl ⟨_,rfl,HTV.out,HBX.out⟩
     simp[results,Tryz.f46,go_sem,cellsT,y0,y1,y2,y3,y4]
   ·rw[hst,if_neg (by omega),if_pos ⟨by decide,z6⟩];clear hst;have z61:(z != 6)=true:=by simp[z6]
    obtain ⟨y0,y1,y2,y3,y4⟩:=HN1.out.cells;obtain ⟨f0,f1,f2,f3,f4⟩:=HN1.out.frozens;have HX:=LH (HN1.out.put 0 0 (.slice none 0 0) (.slice none 0 0) (.slice none 0 0));have HBX:=LH (below_put5 (g:=w.heap.size+1) HB1.out (Nat.le_succ _) 0 0 0 (.slice none 0 0) (.slice none 0 0) (.slice none 0 0));go_enter Tryz.func46,Tryz.ntmps46;go_upto_region 1 with fail
    rw[←hW1];clear hW1
    go_wp2_with fail
    unfold put5 at HX HBX;simp only[Nat.zero_add] at HX HBX;clear y0 y1 y2 y3 y4;obtain ⟨y0,y1,y2,y3,y4⟩:=HX.out.cells;refine bodyPost_ret (v:= .tuple #[.agg (cellsT 0 0 (.slice none 0 0) (.slice none 0 0) (.slice none 0 0)),.int .i64 23]) ?_ rfl ⟨_,rfl,TrV.nil _ _,HBX.out⟩
    simp[results,Tryz.f46,go_sem,cellsT,y0,y1,y2,y3,y4]
set_option maxHeartbeats 2000000 in
theorem rword10_any (t:Tr) (v:Value) (i:Int) (w:World) (h:TrV w w.heap.size t v) (hf:FineT t) (hi:0≤i∧i≤9223372036854775807) :
  Calls Tryz.prog 47 #[v,.int .i64 i] w fun e w'=>e= .returned (.tuple #[.int .u64 (wordT t i).1,.int .i64 (wordT t i).2])∧Below w.heap.size w w':=by
 obtain ⟨k,z,ws,bs,ks⟩:=t;unfold FineT at hf;obtain ⟨hf1,-⟩:=hf;obtain ⟨A1,c1,A2,c2,A3,c3,rfl,hg,hw,hb,-⟩:=h.parts;obtain ⟨-,-,-,-,-,hwd,hby⟩:=hg;have hV:wordT (.mk k z ws bs ks) i=if k=0∨(k=1∧(ws.length:Int)≤i) then (0,0) else if k≠1∧z=6 then (0,23) else if i<ws.length then (ws[i.toNat]?.getD 0,0) else if k≠1∧z=2∧i<bs.length then (bs[i.toNat]?.getD 0,0) else (0,20):=rfl
 obtain ⟨V,hVV⟩:∃V,V=wordT (.mk k z ws bs ks) i:=⟨_,rfl⟩;rw[←hVV] at hV ⊢;have HV:=LH hV;obtain ⟨nw,hnw⟩:∃n,n=ws.length:=⟨_,rfl⟩;obtain ⟨nb,hnb⟩:∃n,n=bs.length:=⟨_,rfl⟩;generalize ks.length=nk at *
 rw[←hnw,←hnb] at HV hf1;rw[←hnw] at hw;rw[←hnb] at hb;rw[←hnw,←hnb];have HNl:=LH (And.intro hnw hnb);obtain ⟨A1',c1',e1,-,-,hwr⟩:=hw
 injection e1 with e1 e2 e3
 obtain ⟨A2',c2',e4,-,-,hbr⟩:=hb
 injection e4 with e4 e5 e6
 subst e1 e4;have HWr:=LH hwr;have HBr:=LH hbr;have HBy:=LH hby;have hB1:∀c:Array Value,Below w.heap.size w (w.alloc (.cells c 34)):=fun c=>(Below.refl _ _).alloc (Nat.le_refl _) _
 have HB1:=LH hB1;obtain ⟨i0,i1⟩:=hi;clear h hV hVV hnw hnb hwr hbr hwd hby e2 e3 e5 e6 hB1;unfold cellsT
 rcases hf1 with ⟨rfl,rfl,rfl,rfl,rfl⟩ | ⟨rfl,rfl,rfl⟩ | ⟨rfl,hf2⟩
 ·obtain rfl:V=(0,0):=HV.out.trans (if_pos (.inl rfl));go_enter Tryz.func47,Tryz.ntmps47
  go_wp2_with fail
  go_ret2;exact ⟨rfl,HB1.out _⟩
 ·by_cases hlt:i<nw
  ·obtain rfl:V=(ws[i.toNat]?.getD 0,0):=HV.out.trans (by rw[if_neg (by omega),if_neg (by omega),if_pos hlt]);obtain ⟨j,rfl⟩:∃j:Nat,i=j:=⟨i.toNat,by omega⟩
   rw[Int.toNat_natCast];obtain ⟨b,off,rfl,hbB,hc⟩:=HWr.out (by rw[←HNl.out.1];omega);have p1:=fun o=>((HB1.out o).cell (p:=⟨b,off+j,none⟩) hbB).trans (hc j (by rw[←HNl.out.1];omega))
   clear hc;generalize ws[j]?.getD 0=x at *
   go_enter Tryz.func47,Tryz.ntmps47
   go_wp2_with fail
   go_ret2;exact ⟨rfl,HB1.out _⟩
  ·have hle:(nw:Int)≤i:=by omega
   obtain rfl:V=(0,0):=HV.out.trans (if_pos (.inr ⟨rfl,hle⟩));go_enter Tryz.func47,Tryz.ntmps47
   go_wp2_with fail
   go_ret2;exact ⟨rfl,HB1.out _⟩
 ·rcases hf2 with ⟨rfl,rfl,rfl⟩ | ⟨rfl,rfl,rfl⟩ | ⟨rfl,rfl,rfl⟩
  ·by_cases hlt:i<nb
   ·obtain rfl:V=(bs[i.toNat]?.getD 0,0):=HV.out.trans (by rw[if_neg (by omega),if_neg (by omega),if_neg (by omega),if_pos (by omega)]);obtain ⟨j,rfl⟩:∃j:Nat,i=j:=⟨i.toNat,by omega⟩
    rw[Int.toNat_natCast];have hjb:j<bs.length:=by rw[←HNl.out.2];omega
    obtain ⟨b,off,rfl,hbB,hc⟩:=HBr.out (by omega);have p1:=fun o=>((HB1.out o).cell (p:=⟨b,off+j,none⟩) hbB).trans (hc j hjb)
    have hx:0≤bs[j]?.getD 0∧bs[j]?.getD 0≤255:=HBy.out _ (by rw[List.getElem?_eq_getElem hjb];exact List.getElem_mem hjb);clear hc hjb;generalize bs[j]?.getD 0=x at *
    have hw1:IntKind.u64.wrap x=x:=by rw[IntKind.wrap_u64];omega
    obtain ⟨hx1,hx2⟩:=hx;go_enter Tryz.func47,Tryz.ntmps47
    go_wp2_with fail
    go_ret2;exact ⟨rfl,HB1.out _⟩
   ·obtain rfl:V=(0,20):=HV.out.trans (by rw[if_neg (by omega),if_neg (by omega),if_neg (by omega),if_neg (by omega)]);go_enter Tryz.func47,Tryz.ntmps47
    go_wp2_with fail
    go_ret2;exact ⟨rfl,HB1.out _⟩
  ·by_cases hlt:i<nw
   ·obtain rfl:V=(ws[i.toNat]?.getD 0,0):=HV.out.trans (by rw[if_neg (by omega),if_neg (by omega),if_pos hlt]);obtain ⟨j,rfl⟩:∃j:Nat,i=j:=⟨i.toNat,by omega⟩
    rw[Int.toNat_natCast];obtain ⟨b,off,rfl,hbB,hc⟩:=HWr.out (by rw[←HNl.out.1];omega);have p1:=fun o=>((HB1.out o).cell (p:=⟨b,off+j,none⟩) hbB).trans (hc j (by rw[←HNl.out.1];omega))
    clear hc;generalize ws[j]?.getD 0=x at *
    go_enter Tryz.func47,Tryz.ntmps47
    go_wp2_with fail
    go_ret2;exact ⟨rfl,HB1.out _⟩
   ·have hle:(nw:Int)≤i:=by omega
    obtain rfl:V=(0,20):=HV.out.trans (by rw[if_neg (by omega),if_neg (by omega),if_neg (by omega),if_neg (by omega)]);go_enter Tryz.func47,Tryz.ntmps47
    go_wp2_with fail
    go_ret2;exact ⟨rfl,HB1.out _⟩
  ·obtain rfl:V=(0,23):=HV.out.trans (by rw[if_neg (by omega),if_pos ⟨by decide,rfl⟩]);go_enter Tryz.func47,Tryz.ntmps47
   go_wp2_with fail
   go_ret2;exact ⟨rfl,HB1.out _⟩
def VaI (t:Va × Int) (w:World) (e:Ending) (w':World):Prop:=e= .returned (.tuple #[.agg (cellsV t.1),.int .i64 t.2])∧Below w.heap.size w w'
def StpI (T:Tr × Int) (B:Nat) (w:World) (x8 x9:Value) (wx:World):Prop:=∃g k z A1 n1 c1 A2 n2 c2 A3 n3 c3,x8= .pointer (some ⟨g,0,none⟩)∧x9= .int .i64 T.2∧TBox wx g k z (.slice A1 n1 c1) (.slice A2 n2 c2) (.slice A3 n3 c3)∧TrV wx B T.1 (.agg (cellsT k z (.slice A1 n1 c1) (.slice A2 n2 c2) (.slice A3 n3 c3)))∧Below w.heap.size w wx
theorem goT_drop {ks:List Int} {q:Nat} (h:q<ks.length) (t:Tr):goT (ks.drop q) (t,0)=goT (ks.drop (q+1)) (stepT t (ks[q]?.getD 0)):=by
 rw[List.drop_eq_getElem_cons h,goT,if_neg (by simp),List.getElem?_eq_getElem h]
 rfl
set_option maxHeartbeats 4000000 in
theorem rask10_any (t:Tr) (v:Value) (w:World) (sv:Value) (ks:List Int) (i:Int) (h:TrV w w.heap.size t v) (hf:FineT t) (hs:NumS .i64 w w.heap.size sv ks) (h64:All64 ks) (hi:In64 i) :
  Calls Tryz.prog 27 #[v,.agg #[sv,.int .i64 i]] w (VaI (askT t ks i) w):=by
 have HL:Hid (askT t ks i=if negs ks=true then (Va.zero,1) else if 32<ks.length then (Va.zero,3) else if (goT ks (t,0)).2≠0 then (Va.zero,(goT ks (t,0)).2) else endT (goT ks (t,0)).1 i):=LH rfl
 obtain ⟨Z,hZ⟩:∃Z,Z=askT t ks i:=⟨_,rfl⟩;rw[←hZ] at HL ⊢;obtain ⟨T,hT⟩:∃T,T=goT ks (t,0):=⟨_,rfl⟩;rw[←hT] at HL;have HT0:=LH hT;obtain ⟨k0,z0,A1,n1,c1,A2,n2,c2,A3,n3,c3,rfl⟩:=h.parts2;obtain ⟨A,q0,e0,hc0,hm0,hr0⟩:=id hs;subst e0;obtain ⟨nk,hnk⟩:∃n,n=ks.length:=⟨_,rfl⟩;rw[←hnk] at hc0 hr0 HL hs ⊢;obtain ⟨hb1,hb2,hb3,hB0,hs0⟩:=three_new w (cellsT k0 z0 (.slice A1 n1 c1) (.slice A2 n2 c2) (.slice A3 n3 c3)) #[.slice A nk q0,.int .i64 i] (cellsV Va.zero) 34 47 54 _ rfl;obtain ⟨W1,hW1⟩:∃W1,W1=((w.alloc (.cells (cellsT k0 z0 (.slice A1 n1 c1) (.slice A2 n2 c2) (.slice A3 n3 c3)) 34)).alloc (.cells #[.slice A nk q0,.int .i64 i] 47)).alloc (.cells (cellsV Va.zero) 54):=⟨_,rfl⟩;rw[←hW1] at hb1 hb2 hb3 hB0 hs0;have HT1:Hid (TBox W1 w.heap.size k0 z0 (.slice A1 n1 c1) (.slice A2 n2 c2) (.slice A3 n3 c3)):=LH hb1;have HP1:Hid (PaBox W1 (w.heap.size+1) (.slice A nk q0) i):=LH hb2;have HV1:Hid (VBox W1 (w.heap.size+1+1) Va.zero):=LH hb3;have HB1:=LH hB0;have HTr:=LH (TrV.below hB0 (Nat.le_refl _) _ _ h);have HF:=LH hf;have HR:=LH hr0;have HN:=LH hnk;have HK4:=LH h64;have HI:=LH hi;have hkb:nk≤9223372036854775807:=by omega
 have HKb:=LH hkb;unfold cellsT cellsV Va.zero at hW1;unfold cellsT;dsimp only at hW1;clear hZ hT hb1 hb2 hb3 hB0 hs0 hs h64 h hf hc0 hm0 hr0 hnk hi;obtain ⟨t0,t1,t2,t3,t4⟩:=HT1.out.cells;obtain ⟨p0,p1⟩:=HP1.out.cells;go_enter Tryz.func27,Tryz.ntmps27;go_upto_region 1 with fail
 rw[←hW1];clear hW1
 go_wp2_with fail
 go_loopw [6] (fun x wr=>∃q:Nat,q≤nk∧x= .int .i64 q∧(∀k∈ks.take q,¬k<0)∧W1=wr) (fun x _=>nk - (intOf x).toNat)
 case atStart=>exact ⟨0,by omega,rfl,by simp,rfl⟩
 case round =>
  obtain ⟨q,hq,rfl,hall,rfl⟩:=hrel;have HAll:=LH hall;clear hall
  by_cases hlt:q<nk
  ·obtain ⟨b,off,rfl,hb,hcell⟩:=HR.out (by omega);have p2:=(HB1.out.cell (p:=⟨b,off+q,none⟩) hb).trans (hcell q hlt);have HTk:Hid (ks.take (q+1)=ks.take q ++ [ks[q]?.getD 0]):=LH (by rw[List.take_add_one,List.getElem?_eq_getElem (by rw[←HN.out];exact hlt)];rfl);have HM:Hid (ks[q]?.getD 0∈ks):=LH (by rw[List.getElem?_eq_getElem (by rw[←HN.out];exact hlt)];exact List.getElem_mem _);obtain ⟨y,hy⟩:∃y,ks[q]?.getD 0=y:=⟨_,rfl⟩;rw[hy] at p2 HTk HM;clear hcell hy;have i1:(q:Int)<(nk:Int):=by omega
   by_cases hy:y<0
   ·obtain rfl:Z=(Va.zero,1):=HL.out.trans (if_pos (List.any_eq_true.2 ⟨y,HM.out,decide_eq_true hy⟩));have HX:=LH (HV1.out.set5 0 0 0 0 0);have HBX:=LH (below_val5 (g:=w.heap.size+1+1) HB1.out (by omega) (.int .i64 0) (.int .i64 0) (.int .i64 0) (.int .i64 0) (.int .u64 0));obtain ⟨x0,x1,x2,x3,x4⟩:=HV1.out.cells;obtain ⟨f0,f1,f2,f3,f4⟩:=HV1.out.frozens;unfold Va.zero at x0 x1 x2 x3 x4;dsimp only at x0 x1 x2 x3 x4
    go_wp2_with fail
    clear x0 x1 x2 x3 x4;obtain ⟨x0,x1,x2,x3,x4⟩:=HX.out.cells;dsimp only at x0 x1 x2 x3 x4;refine bodyPost_ret (v:= .tuple #[.agg (cellsV ⟨0,0,0,0,0⟩),.int .i64 1]) ?_ rfl ⟨rfl,HBX.out⟩
    simp[results,Tryz.f27,go_sem,cellsV,x0,x1,x2,x3,x4]
   ·go_wp2_with fail
    go_roundw
    case rel =>
     refine ⟨q+1,by omega,by go_num,fun k hk=> ?_,trivial⟩
     rw[HTk.out,List.mem_append,List.mem_singleton] at hk
     rcases hk with hk | rfl
     ·have:=HAll.out k hk;omega
     ·omega
    case measure=>simp[intOf];omega
  ·obtain rfl:q=nk:=by omega
   have i1:¬(q:Int)<(q:Int):=by omega
   have HPos:Hid (∀k∈ks,0≤k∧k≤9223372036854775807):=LH (fun k hk=>by
    have h1:=HAll.out k (by rw[HN.out,List.take_length];exact hk);have h2:=HK4.out k hk;unfold In64 at h2
    omega)
   have hng:¬negs ks=true:=fun hn=>by
    obtain ⟨y,h1,h2⟩:=List.any_eq_true.1 hn;have:=(HPos.out y h1).1;have:=of_decide_eq_true h2
    omega
   have HL1:=LH (HL.out.trans (if_neg hng));clear hng
   by_cases hl:32<q
   ·obtain rfl:Z=(Va.zero,3):=HL1.out.trans (if_pos hl);have hl1:(q:Int)>32:=by omega
    have HX:=LH (HV1.out.set5 0 0 0 0 0);have HBX:=LH (below_val5 (g:=w.heap.size+1+1) HB1.out (by omega) (.int .i64 0) (.int .i64 0) (.int .i64 0) (.int .i64 0) (.int .u64 0));obtain ⟨x0,x1,x2,x3,x4⟩:=HV1.out.cells;obtain ⟨f0,f1,f2,f3,f4⟩:=HV1.out.frozens;unfold Va.zero at x0 x1 x2 x3 x4;dsimp only at x0 x1 x2 x3 x4
    go_wp2_with fail
    clear x0 x1 x2 x3 x4;obtain ⟨x0,x1,x2,x3,x4⟩:=HX.out.cells;dsimp only at x0 x1 x2 x3 x4;refine bodyPost_ret (v:= .tuple #[.agg (cellsV ⟨0,0,0,0,0⟩),.int .i64 3]) ?_ rfl ⟨rfl,HBX.out⟩
    simp[results,Tryz.f27,go_sem,cellsV,x0,x1,x2,x3,x4]
   ·have hl1:¬(q:Int)>32:=by omega
    have HL2:=LH (HL1.out.trans (if_neg hl));generalize q=nk at *
    clear i1 HL HL1
    go_wp2_with fail
    clear t0 t1 t2 t3 t4 p0 p1 hl1
    go_loopw [7] (fun x wr=>∃q:Nat,q≤nk∧x= .int .i64 q∧∃t',goT (ks.drop q) (t',0)=T∧FineT t'∧∃k z A4 n4 c4 A5 n5 c5 A6 n6 c6,TBox wr w.heap.size k z (.slice A4 n4 c4) (.slice A5 n5 c5) (.slice A6 n6 c6)∧TrV wr w.heap.size t' (.agg (cellsT k z (.slice A4 n4 c4) (.slice A5 n5 c5) (.slice A6 n6 c6)))∧PaBox wr (w.heap.size+1) (.slice A nk q0) i∧VBox wr (w.heap.size+1+1) Va.zero∧Below w.heap.size w wr) (fun x _=>nk - (intOf x).toNat)
    case atStart=>exact ⟨0,by omega,rfl,t,HT0.out.symm,HF.out,k0,z0,A1,n1,c1,A2,n2,c2,A3,n3,c3,HT1.out,HTr.out,HP1.out,HV1.out,HB1.out⟩
    case round =>
     obtain ⟨q,hq,rfl,t',hgo,hfin,k,z,A4,n4,c4,A5,n5,c5,A6,n6,c6,hT,hV,hP,hVb,hBr⟩:=hrel;generalize wr=wa at *
     have HT:=LH hT;have HP:=LH hP;have HVb:=LH hVb;have HBr:=LH hBr;have HGo:=LH hgo;have HTV:=LH hV;have HFi:=LH hfin;clear hT hP hVb hBr hgo hV hfin
     by_cases hlt:q<nk
     ·have i1:(q:Int)<(nk:Int):=by omega
      have hkb:=HKb.out;obtain ⟨b,off,rfl,hb,hcell⟩:=HR.out (by omega);have hcq:=hcell q hlt;have hyb:0≤ks[q]?.getD 0∧ks[q]?.getD 0≤9223372036854775807:=HPos.out _ (by rw[List.getElem?_eq_getElem (by rw[←HN.out];exact hlt)];exact List.getElem_mem _);have hgo2:=(goT_drop (by rw[←HN.out];exact hlt) t').symm.trans HGo.out;obtain ⟨y,hy⟩:∃y,ks[q]?.getD 0=y:=⟨_,rfl⟩;rw[hy] at hcq hyb hgo2;obtain ⟨S,hS⟩:∃S,S=stepT t' y:=⟨_,rfl⟩;have HNx:=LH (fun X (hX:Below wa.heap.size wa X)=>rstep10_any t' _ y X w.heap.size (Nat.le_trans HBr.out.size hX.size) (TrV.below hX HBr.out.size _ _ HTV.out) HFi.out hyb)
      have HSf:=LH (step_fine HFi.out y);have HSe:Hid (S.2≠0→S.1=Tr.nil):=LH (by rw[hS];exact step_err);rw[←hS] at HNx hgo2 HSf;have HG2:=LH hgo2;have HCel:Hid (∀X,Below wa.heap.size wa X→(X.cell? ⟨w.heap.size,0,none⟩=some (.int .i64 k)∧X.cell? ⟨w.heap.size,1,none⟩=some (.int .i64 z)∧X.cell? ⟨w.heap.size,2,none⟩=some (.slice A4 n4 c4)∧X.cell? ⟨w.heap.size,3,none⟩=some (.slice A5 n5 c5)∧X.cell? ⟨w.heap.size,4,none⟩=some (.slice A6 n6 c6))∧X.cell? ⟨w.heap.size+1,0,none⟩=some (.slice (some ⟨b,off,none⟩) nk q0)∧X.cell? ⟨b,off+q,none⟩=some (.int .i64 y)):=LH (fun X hX=>⟨(HT.out.on hX).cells,(HP.out.on hX HP.out.lt).cells.1,((HBr.out.trans (hX.mono HBr.out.size)).cell (p:=⟨b,off+q,none⟩) hb).trans hcq⟩)
      have HNb:Hid (∀X,Below (wa.alloc (.cells #[.int .i64 0,.int .i64 0,.slice none 0 0,.slice none 0 0,.slice none 0 0] 34)).drew.heap.size (wa.alloc (.cells #[.int .i64 0,.int .i64 0,.slice none 0 0,.slice none 0 0,.slice none 0 0] 34)).drew X→TBox X wa.heap.size 0 0 (.slice none 0 0) (.slice none 0 0) (.slice none 0 0)):=LH (fun X hX=>TBox.on (w:=(wa.alloc (.cells #[.int .i64 0,.int .i64 0,.slice none 0 0,.slice none 0 0,.slice none 0 0] 34)).drew) (TBox.new wa 0 0 (.slice none 0 0) (.slice none 0 0) (.slice none 0 0)) hX)
      have HEnd1:Hid (∀w6 k9 z9 A7 n7 c7 A8 n8 c8 A9 n9 c9,Below wa.heap.size wa w6→TrV w6 w.heap.size S.1 (.agg (cellsT k9 z9 (.slice A7 n7 c7) (.slice A8 n8 c8) (.slice A9 n9 c9)))→StpI S w.heap.size wa (.pointer (some ⟨w6.heap.size,0,none⟩)) (.int .i64 S.2) (w6.alloc (.cells #[.int .i64 k9,.int .i64 z9,.slice A7 n7 c7,.slice A8 n8 c8,.slice A9 n9 c9] 34))):=LH (fun w6 k9 z9 A7 n7 c7 A8 n8 c8 A9 n9 c9 hD ht=>⟨_,_,_,_,_,_,_,_,_,_,_,_,rfl,rfl,TBox.new w6 k9 z9 (.slice A7 n7 c7) (.slice A8 n8 c8) (.slice A9 n9 c9),TrV.below ((Below.refl _ _).alloc (Nat.le_refl _) _) (Nat.le_trans HBr.out.size hD.size) _ _ ht,hD.alloc hD.size _⟩)
      have HEnd2:Hid (∀w6 k9 z9 A7 n7 c7 A8 n8 c8 A9 n9 c9,Below wa.heap.size wa w6→TBox w6 wa.heap.size 0 0 (.slice none 0 0) (.slice none 0 0) (.slice none 0 0)→TrV w6 w.heap.size S.1 (.agg (cellsT k9 z9 (.slice A7 n7 c7) (.slice A8 n8 c8) (.slice A9 n9 c9)))→StpI S w.heap.size wa (.pointer (some ⟨wa.heap.size,0,none⟩)) (.int .i64 S.2) (((((w6.setCell ⟨wa.heap.size,0,none⟩ (.int .i64 k9)).setCell ⟨wa.heap.size,1,none⟩ (.int .i64 z9)).setCell ⟨wa.heap.size,2,none⟩ (.slice A7 n7 c7)).setCell ⟨wa.heap.size,3,none⟩ (.slice A8 n8 c8)).setCell ⟨wa.heap.size,4,none⟩ (.slice A9 n9 c9))):=LH (fun w6 k9 z9 A7 n7 c7 A8 n8 c8 A9 n9 c9 hD hq ht=>⟨_,_,_,_,_,_,_,_,_,_,_,_,rfl,rfl,hq.putT k9 z9 (.slice A7 n7 c7) (.slice A8 n8 c8) (.slice A9 n9 c9),TrV.below (below_putT (Below.refl wa.heap.size w6) (Nat.le_refl _) k9 z9 (.slice A7 n7 c7) (.slice A8 n8 c8) (.slice A9 n9 c9)) HBr.out.size _ _ ht,below_val5 hD (Nat.le_refl _) _ _ _ _ _⟩)
      unfold cellsT at HNx;clear hcell hcq hy hgo2 hS hyb;obtain ⟨p0,p1⟩:=HP.out.cells;go_upto_region 11 with fail
      clear p0 p1
      go_cut [8,9] (fun x8 x9 wx=>StpI S w.heap.size wa x8 x9 wx)
      case first =>
       have hD:Below wa.heap.size wa wa.drew:=(Below.refl _ _).drew;have hDa:Below wa.heap.size wa (wa.alloc (.cells #[.int .i64 0,.int .i64 0,.slice none 0 0,.slice none 0 0,.slice none 0 0] 34)).drew:=((Below.refl _ _).alloc (Nat.le_refl _) _).drew
       go_region_held_law (fun X=>(X.cell? ⟨w.heap.size,0,none⟩=some (.int .i64 k)∧X.cell? ⟨w.heap.size,1,none⟩=some (.int .i64 z)∧X.cell? ⟨w.heap.size,2,none⟩=some (.slice A4 n4 c4)∧X.cell? ⟨w.heap.size,3,none⟩=some (.slice A5 n5 c5)∧X.cell? ⟨w.heap.size,4,none⟩=some (.slice A6 n6 c6))∧X.cell? ⟨w.heap.size+1,0,none⟩=some (.slice (some ⟨b,off,none⟩) nk q0)∧X.cell? ⟨b,off+q,none⟩=some (.int .i64 y)) (with_reducible first | exact HCel.out _ hD | exact HCel.out _ hDa | exact HCel.out _ hF | exact HCel.out _ (hF.alloc hF.size _) | exact HCel.out _ (below_val5 hF (Nat.le_refl _) _ _ _ _ _)) (first
        | (go_at_call 46;with_reducible refine (HNx.out _ hD).mono ?_;intro e w6 hR;obtain ⟨u,he6,hu6,hB6⟩:=hR;subst he6;have hF:=bseq8 hD hB6;obtain ⟨k9,z9,A7,n7,c7,A8,n8,c8,A9,n9,c9,hu⟩:=hu6.parts2;subst hu;have HE:=LH (HEnd1.out _ _ _ _ _ _ _ _ _ _ _ _ hF hu6);unfold cellsT;clear hu6)
        | (go_at_call 46;with_reducible refine (HNx.out _ hDa).mono ?_;intro e w6 hR;obtain ⟨u,he6,hu6,hB6⟩:=hR;subst he6;have hF:=bseq8 hDa hB6;obtain ⟨k9,z9,A7,n7,c7,A8,n8,c8,A9,n9,c9,hu⟩:=hu6.parts2;subst hu;have HQ:=LH (HNb.out _ hB6);have HE:=LH (HEnd2.out _ _ _ _ _ _ _ _ _ _ _ _ hF HQ.out hu6);obtain ⟨y0,y1,y2,y3,y4⟩:=HQ.out.cells;obtain ⟨f0,f1,f2,f3,f4⟩:=HQ.out.frozens;unfold cellsT;clear hu6))
       all_goals go_wp2_with fail
       all_goals go_meet
       all_goals exact HE.out
      case rest =>
       obtain ⟨g,k9,z9,A7,n7,c7,A8,n8,c8,A9,n9,c9,rfl,rfl,hT6,hV6,hB6⟩:=hcut;have HB:=LH (HBr.out.trans (hB6.mono HBr.out.size));have HT6:=LH hT6;have HTa:=LH (HT.out.on hB6);have HV:=LH (HVb.out.on hB6);have HPa:=LH (HP.out.on hB6 HP.out.lt);have HV6:=LH hV6;clear hT6 hV6 hB6;obtain ⟨S1,E⟩:=S;dsimp only at HSf HSe HG2 HV6 ⊢
       by_cases hE:E=0
       ·subst hE;have HTn:=LH (HTa.out.putT k9 z9 (.slice A7 n7 c7) (.slice A8 n8 c8) (.slice A9 n9 c9));have HBn:=LH (below_putT (r:=w.heap.size) HB.out (Nat.le_refl _) k9 z9 (.slice A7 n7 c7) (.slice A8 n8 c8) (.slice A9 n9 c9));have HTVn:=LH (TrV.below (below_putT (B:=w.heap.size) (r:=w.heap.size) (Below.refl w.heap.size wc) (Nat.le_refl _) k9 z9 (.slice A7 n7 c7) (.slice A8 n8 c8) (.slice A9 n9 c9)) (Nat.le_refl _) _ _ HV6.out);have HPn:Hid (PaBox (putT wc w.heap.size k9 z9 (.slice A7 n7 c7) (.slice A8 n8 c8) (.slice A9 n9 c9)) (w.heap.size+1) (.slice (some ⟨b,off,none⟩) nk q0) i):=LH ((putT_other _ _ _ _ _ _ _ (by omega)).trans HPa.out);have HVn:Hid (VBox (putT wc w.heap.size k9 z9 (.slice A7 n7 c7) (.slice A8 n8 c8) (.slice A9 n9 c9)) (w.heap.size+1+1) Va.zero):=LH ((putT_other _ _ _ _ _ _ _ (by omega)).trans HV.out);unfold putT at HTn HBn HTVn HPn HVn;obtain ⟨u0,u1,u2,u3,u4⟩:=HT6.out.cells;obtain ⟨y0,y1,y2,y3,y4⟩:=HTa.out.cells;obtain ⟨f0,f1,f2,f3,f4⟩:=HTa.out.frozens
        go_wp2_with fail
        go_roundw
        case rel=>exact ⟨q+1,by omega,by go_num,S1,HG2.out,HSf.out,k9,z9,A7,n7,c7,A8,n8,c8,A9,n9,c9,HTn.out,HTVn.out,HPn.out,HVn.out,HBn.out⟩
        case measure=>simp[intOf];omega
       ·have hE1:(E != 0)=true:=by simp[hE]
        have hTe:T=(Tr.nil,E):=HG2.out.symm.trans (by rw[HSe.out hE];exact goT_err _ _ hE);obtain rfl:Z=(Va.zero,E):=HL2.out.trans (by rw[hTe];exact if_pos hE);clear hTe;have HX:=LH (HV.out.set5 0 0 0 0 0);have HBX:=LH (below_val5 (g:=w.heap.size+1+1) HB.out (by omega) (.int .i64 0) (.int .i64 0) (.int .i64 0) (.int .i64 0) (.int .u64 0));obtain ⟨x0,x1,x2,x3,x4⟩:=HV.out.cells;obtain ⟨f0,f1,f2,f3,f4⟩:=HV.out.frozens;unfold Va.zero at x0 x1 x2 x3 x4;dsimp only at x0 x1 x2 x3 x4
        go_wp2_with fail
        clear x0 x1 x2 x3 x4;obtain ⟨x0,x1,x2,x3,x4⟩:=HX.out.cells;dsimp only at x0 x1 x2 x3 x4;refine bodyPost_ret (v:= .tuple #[.agg (cellsV ⟨0,0,0,0,0⟩),.int .i64 E]) ?_ rfl ⟨rfl,HBX.out⟩
        simp[results,Tryz.f27,go_sem,cellsV,x0,x1,x2,x3,x4]
     ·obtain rfl:q=nk:=by omega
      have i1:¬(q:Int)<(q:Int):=by omega
      have HB:=HBr;have HV:=HVb;obtain rfl:T=(t',0):=HGo.out.symm.trans (by rw[HN.out,List.drop_length,goT]);have HL3:=LH (HL2.out.trans (if_neg (by simp)));clear HL2;obtain ⟨p0,p1⟩:=HP.out.cells;obtain ⟨t0,t1,t2,t3,t4⟩:=HT.out.cells;have hfi:=HFi.out;have hparts:=HTV.out;obtain ⟨kk,zz,ws,bs,kids⟩:=t';obtain ⟨A4',c4',A5',c5',A6',c6',e,hg,-⟩:=hparts.parts;unfold cellsT at e;simp only[Value.agg.injEq,Array.mk.injEq,List.cons.injEq,Value.int.injEq,true_and,and_true,Value.slice.injEq] at e;obtain ⟨rfl,rfl,⟨rfl,rfl,rfl⟩,⟨rfl,rfl,rfl⟩,⟨rfl,rfl,rfl⟩⟩:=e
      by_cases hi0:i<0
      ·have hzz:Z=(shapeT (.mk k z ws bs kids),0):=HL3.out.trans (by unfold endT;rw[if_pos hi0];rfl);have hsz:Hid (shapeT (.mk k z ws bs kids)=⟨k,z,((ws.length+bs.length:Nat):Int),(kids.length:Int),0⟩):=LH rfl;unfold FineT at hfi;have hw1:IntKind.i64.wrap ((ws.length:Int)+bs.length)=((ws.length+bs.length:Nat):Int):=by
        rw[IntWalk.i64_in _ (by have:=hfi.1;have h1:=hg.2.2.1;have h2:=hg.2.2.2.1;unfold fine1 at this;omega)]
        omega
       rw[hsz.out] at hzz;subst hzz;generalize ws.length+bs.length=nwb at *
       generalize ws.length=nw at *
       generalize bs.length=nb at *
       generalize kids.length=nkk at *
       clear hsz hfi hparts hg HFi HTV HGo HL3;have HX:=LH (HV.out.set5 k z nwb nkk 0);have HBX:=LH (below_val5 (g:=w.heap.size+1+1) HB.out (by omega) (.int .i64 k) (.int .i64 z) (.int .i64 nwb) (.int .i64 nkk) (.int .u64 0));obtain ⟨x0,x1,x2,x3,x4⟩:=HV.out.cells;obtain ⟨f0,f1,f2,f3,f4⟩:=HV.out.frozens;unfold Va.zero at x0 x1 x2 x3 x4;dsimp only at x0 x1 x2 x3 x4
       go_wp2_with fail
       clear x0 x1 x2 x3 x4;obtain ⟨x0,x1,x2,x3,x4⟩:=HX.out.cells;dsimp only at x0 x1 x2 x3 x4;refine bodyPost_ret (v:= .tuple #[.agg (cellsV ⟨k,z,nwb,nkk,0⟩),.int .i64 0]) ?_ rfl ⟨rfl,HBX.out⟩
       simp[results,Tryz.f27,go_sem,cellsV,x0,x1,x2,x3,x4]
      ·have hi1:0≤i∧i≤9223372036854775807:=by have:=HI.out;unfold In64 at this;omega
       have HL4:Hid (Z=if (wordT (.mk k z ws bs kids) i).2≠0 then (Va.zero,(wordT (.mk k z ws bs kids) i).2) else (⟨k,0,0,0,(wordT (.mk k z ws bs kids) i).1⟩,0)):=LH (HL3.out.trans (by unfold endT;rw[if_neg hi0];rfl))
       have HN4:=LH (rword10_any _ _ i wa (TrV.more HB.out.size _ _ HTV.out) HFi.out hi1);generalize wordT (.mk k z ws bs kids) i=X at *
       obtain ⟨x,D⟩:=X;dsimp only at HL4 HN4;unfold cellsT at HN4;generalize ws.length=nw at *
       generalize bs.length=nb at *
       generalize kids.length=nkk at *
       clear hi1 hfi hparts hg HFi HTV HGo HL3
       go_wp2_with fail
       refine HN4.out.mono ?_
       rintro e w5 ⟨rfl,hB5⟩;have HV:=LH (HV.out.on hB5);have HB:=LH (HB.out.trans (hB5.mono HB.out.size));have HT5:=LH (HT.out.on hB5);clear hB5 p0 p1 t0 t1 t2 t3 t4;obtain ⟨t0,t1,t2,t3,t4⟩:=HT5.out.cells
       by_cases hD:D=0
       ·subst hD;obtain rfl:Z=(⟨k,0,0,0,x⟩,0):=HL4.out.trans (if_neg (by simp));have HX:=LH (HV.out.set5 k 0 0 0 x);have HBX:=LH (below_val5 (g:=w.heap.size+1+1) HB.out (by omega) (.int .i64 k) (.int .i64 0) (.int .i64 0) (.int .i64 0) (.int .u64 x));obtain ⟨x0,x1,x2,x3,x4⟩:=HV.out.cells;obtain ⟨f0,f1,f2,f3,f4⟩:=HV.out.frozens;unfold Va.zero at x0 x1 x2 x3 x4;dsimp only at x0 x1 x2 x3 x4
        go_wp2_with fail
        clear x0 x1 x2 x3 x4;obtain ⟨x0,x1,x2,x3,x4⟩:=HX.out.cells;dsimp only at x0 x1 x2 x3 x4;refine bodyPost_ret (v:= .tuple #[.agg (cellsV ⟨k,0,0,0,x⟩),.int .i64 0]) ?_ rfl ⟨rfl,HBX.out⟩
        simp[results,Tryz.f27,go_sem,cellsV,x0,x1,x2,x3,x4]
       ·have hD1:(D != 0)=true:=by simp[hD]
        obtain rfl:Z=(Va.zero,D):=HL4.out.trans (if_pos hD);have HX:=LH (HV.out.set5 0 0 0 0 0);have HBX:=LH (below_val5 (g:=w.heap.size+1+1) HB.out (by omega) (.int .i64 0) (.int .i64 0) (.int .i64 0) (.int .i64 0) (.int .u64 0));obtain ⟨x0,x1,x2,x3,x4⟩:=HV.out.cells;obtain ⟨f0,f1,f2,f3,f4⟩:=HV.out.frozens;unfold Va.zero at x0 x1 x2 x3 x4;dsimp only at x0 x1 x2 x3 x4
        go_wp2_with fail
        clear x0 x1 x2 x3 x4;obtain ⟨x0,x1,x2,x3,x4⟩:=HX.out.cells;dsimp only at x0 x1 x2 x3 x4;refine bodyPost_ret (v:= .tuple #[.agg (cellsV ⟨0,0,0,0,0⟩),.int .i64 D]) ?_ rfl ⟨rfl,HBX.out⟩
        simp[results,Tryz.f27,go_sem,cellsV,x0,x1,x2,x3,x4]
end Go.Proofs.YtmmlfnblodfjbaaGreatDoor
