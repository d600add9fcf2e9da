/- Layer 9, the landed package: things in memory; thing, near, pointerTo, Words. -/
import Derived.Test.YtmmlfnblodfjbaaGreatDoorQRdPlain
import Derived.Test.YtmmlfnblodfjbaaGreatDoorQRsA
import Derived.Test.YtmmlfnblodfjbaaGreatDoorQPtr
import Derived.Test.YtmmlfnblodfjbaaGreatDoorQCut
import Derived.Deep.DeepCutAuto
import Derived.Deep.CutBlock
import Derived.LoopN
import Derived.Deep.RegionHeld3
set_option maxRecDepth 100000
namespace Go.Proofs.YtmmlfnblodfjbaaGreatDoor
open Go.RowKit Go.Deep
set_option maxHeartbeats 400000 in
theorem thing_any (p:Pt) (g a:Int) (w:World) :
  Calls Tryz.prog 165 #[.agg (cellsP p),.int .i64 g,.int .i64 a] w fun e w'=>e= .returned (.agg (cellsO (thingO p g a)))∧Below w.heap.size w w':=by
 have HB:∀cs cs' t t',Below w.heap.size w ((w.alloc (.cells cs t)).alloc (.cells cs' t')):=fun cs cs' t t'=>((Below.refl _ _).alloc (Nat.le_refl _) _).alloc (by simp) _
 unfold cellsP cellsO thingO;go_enter Tryz.func165,Tryz.ntmps165
 go_wp2_with fail
 refine bodyPost_ret (v:= .agg (cellsO (thingO p g a))) ?_ rfl ⟨rfl,HB _ _ _ _⟩
 simp[results,Tryz.f165,go_sem,cellsO,thingO]
set_option maxHeartbeats 400000 in
theorem ptrto_any (o:Ob) (w:World) :
  Calls Tryz.prog 129 #[.agg (cellsO o)] w fun e w'=>e= .returned (.agg (cellsP (ptrO o)))∧Below w.heap.size w w':=by
 have HB:∀cs cs' t t',Below w.heap.size w ((w.alloc (.cells cs t)).alloc (.cells cs' t')):=fun cs cs' t t'=>((Below.refl _ _).alloc (Nat.le_refl _) _).alloc (by simp) _
 unfold cellsP cellsO ptrO;go_enter Tryz.func129,Tryz.ntmps129
 go_wp2_with fail
 refine bodyPost_ret (v:= .agg (cellsP (ptrO o))) ?_ rfl ⟨rfl,HB _ _ _ _⟩
 simp[results,Tryz.f129,go_sem,cellsP,ptrO]
theorem pwords_q (p:Pt) (w:World) (hp:OkQ p) :
  Calls Tryz.prog 128 #[.agg (cellsP p)] w fun e w'=>e= .returned (.tuple #[.int .i64 (wordN p),.int .u16 (wordE p)])∧Below w.heap.size w w':=by
 rcases hp with hp | rfl
 ·exact pwords_any p w hp
 ·have HE:Hid (wordN ⟨1,0,0,0,0,0,0,false⟩=0∧wordE ⟨1,0,0,0,0,0,0,false⟩=0):=LH (by decide);rw[HE.out.1,HE.out.2];clear HE;unfold cellsP;dsimp only;go_enter Tryz.func128,Tryz.ntmps128
  go_wp2_with fail
  go_ret2;exact ⟨rfl,(Below.refl _ _).alloc (Nat.le_refl _) _⟩
set_option maxHeartbeats 400000 in
theorem words9_any (o:Ob) (w:World) (ho:OkQ (ptrO o)) :
  Calls Tryz.prog 101 #[.agg (cellsO o)] w fun e w'=>e= .returned (.int .i64 (wordsO o))∧Below w.heap.size w w':=by
 have HB:Hid (Below w.heap.size w (w.alloc (.cells (cellsO o) 129))):=LH ((Below.refl _ _).alloc (Nat.le_refl _) _);have HP:=LH (fun X=>ptrto_any o X)
 have HW:=LH (fun X=>pwords_q (ptrO o) X ho)
 have HE:Hid (wordsO o=wordN (ptrO o)):=LH rfl;rw[HE.out];clear HE ho;generalize wordN (ptrO o)=n at *
 generalize wordE (ptrO o)=x at *
 generalize ptrO o=p at *
 unfold cellsO at *
 go_enter Tryz.func101,Tryz.ntmps101
 go_wp2_with fail
 refine (HP.out _).mono ?_
 rintro e w1 ⟨rfl,hB1⟩;have HB1:=LH (bseq' HB.out hB1);clear hB1
 go_wp2_with fail
 refine (HW.out _).mono ?_
 rintro e w2 ⟨rfl,hB2⟩;have HB2:=LH (bseq' HB1.out hB2);clear hB2
 go_wp2_with fail
 go_ret;exact ⟨rfl,HB2.out⟩
set_option maxHeartbeats 1000000 in
theorem near9_at (p:Pt) (g a m t x:Int) (b1 b2:Bool) (w:World) (hm:IntKind.i64.wrap (p.off+1)=m) (ht:IntKind.i64.wrap (a+m)=t) (d1:decide (t<a)=b1) (d2:decide (m<0)=b2) (hx:x=if b1=b2 then t else -1) :
  Calls Tryz.prog 146 #[.agg (cellsP p),.int .i64 g,.int .i64 a] w fun e w'=>e= .returned (.agg (cellsO (thingO p g x)))∧Below w.heap.size w w':=by
 have hp0:PBox ((w.alloc (.cells (cellsP p) 70)).alloc (.cells (cellsO Ob.zero) 129)) w.heap.size p:=(PBox.new w p).on ((Below.refl _ _).alloc (Nat.le_refl _) _);have ho0:OBox ((w.alloc (.cells (cellsP p) 70)).alloc (.cells (cellsO Ob.zero) 129)) (w.heap.size+1) Ob.zero:=by
  have:=OBox.new (w.alloc (.cells (cellsP p) 70)) Ob.zero
  rwa [World.size_alloc] at this
 have hB0:Below w.heap.size w ((w.alloc (.cells (cellsP p) 70)).alloc (.cells (cellsO Ob.zero) 129)):=((Below.refl _ _).alloc (Nat.le_refl _) _).alloc (by simp) _;have HT:=LH (fun X=>thing_any p g x X)
 obtain ⟨W1,hW1⟩:∃W1,W1=(w.alloc (.cells (cellsP p) 70)).alloc (.cells (cellsO Ob.zero) 129):=⟨_,rfl⟩;rw[←hW1] at hB0 hp0 ho0;have HB0:=LH hB0;have HO0:=LH ho0;obtain ⟨z0,z1,z2,z3,z4,z5,z6,z7⟩:=hp0.cells;unfold cellsP cellsO Ob.zero at hW1;unfold cellsP at HT ⊢;dsimp only at hW1;clear hB0 hp0 ho0;cases b1 <;> cases b2
 all_goals
  simp only[Bool.false_eq_true,Bool.true_eq_false,reduceIte] at hx;subst hx;generalize thingO p g _=O at *
  obtain ⟨o1,o2,o3,o4,o5,o6,o7⟩:=O;unfold cellsO at HT ⊢;dsimp only at HT ⊢;go_enter Tryz.func146,Tryz.ntmps146;go_upto_region 1 with fail
  rw[←hW1];clear hW1
  go_wp2_with fail
  refine (HT.out _).mono ?_
  rintro e w2 ⟨rfl,hB2⟩;have ho2:=HO0.out.on hB2;have HB2:=LH (bseq' HB0.out hB2);obtain ⟨y0,y1,y2,y3,y4,y5,y6⟩:=ho2.cells;obtain ⟨f0,f1,f2,f3,f4,f5,f6⟩:=ho2.frozens;unfold Ob.zero at y0 y1 y2 y3 y4 y5 y6;dsimp only at y0 y1 y2 y3 y4 y5 y6;have HX:=LH (ho2.set7 o1 o2 o3 o4 o5 o6 o7);have HBX:=LH (below_set7 (g:=w.heap.size+1) HB2.out (by omega) (.int .i64 o1) (.int .i64 o2) (.int .i64 o3) (.int .i64 o4) (.int .i64 o5) (.int .i64 o6) (.int .i64 o7));clear hB2 ho2
  go_wp2_with fail
  clear y0 y1 y2 y3 y4 y5 y6;obtain ⟨y0,y1,y2,y3,y4,y5,y6⟩:=HX.out.cells;dsimp only at y0 y1 y2 y3 y4 y5 y6;refine bodyPost_ret (v:= .agg (cellsO ⟨o1,o2,o3,o4,o5,o6,o7⟩)) ?_ rfl ⟨rfl,HBX.out⟩
  simp[results,Tryz.f146,go_sem,cellsO,y0,y1,y2,y3,y4,y5,y6]
theorem near9_any (p:Pt) (g a:Int) (w:World) (ho: -536870912≤p.off∧p.off<536870912) (ha:In64 a) :
  Calls Tryz.prog 146 #[.agg (cellsP p),.int .i64 g,.int .i64 a] w fun e w'=>e= .returned (.agg (cellsO (nearO p g a)))∧Below w.heap.size w w':=by
 obtain ⟨h1,h2⟩:=ho;obtain ⟨h3,h4⟩:=ha;refine near9_at p g a (p.off+1) (IntKind.i64.wrap (a+(p.off+1))) (nearA p a) (decide (IntKind.i64.wrap (a+(p.off+1))<a)) (decide (p.off+1<0)) w (IntWalk.i64_in _ (by omega)) rfl rfl rfl ?_
 rw[IntKind.wrap_i64];unfold nearA
 by_cases hin: -9223372036854775808≤a+(p.off+1)∧a+(p.off+1)≤9223372036854775807
 ·rw[if_pos hin,if_pos]
  ·omega
  ·rw[decide_eq_decide];omega
 ·rw[if_neg hin,if_neg];rw[decide_eq_decide];omega
structure SrcOK (K:World→Prop) (s:Value) (sr:Sr):Prop where
 good:sr.Good
 on:∀{w w':World},K w→Below w.heap.size w w'→K w'
 laid:∀{w:World},K w→Laid w
 form:∃t v,s= .iface t v
 word:∀(g a:Int) (w:World),K w→In64 g→In64 a→Calls Tryz.prog 102 #[s,.int .i64 g,.int .i64 a] w fun e w'=>e= .returned (.tuple #[.int .u64 (sr.wd g a),.int .u16 (sr.we g a)])∧Below w.heap.size w w'
 sizes:∀(w:World),K w→Calls Tryz.prog 131 #[s] w fun e w'=>∃u,e= .returned u∧NumS .i64 w' w'.heap.size u sr.sz∧Below w.heap.size w w'
theorem Tryz.info70:(Tryz.prog.info? 70).map (fun i=>(i.zero,i.size,i.bytes))=some (some (.agg (cellsP Pt.zero)),8,64):=by kernel_rfl
theorem run_make_P (n:Nat) (hn:n≤1000) (w:World) :
  (Instr.makeSlice 205 (.int .i64 (n:Int)) (.int .i64 (n:Int))).run Tryz.prog w= .ok (.slice (some ⟨w.heap.size,0,none⟩) n n) (w.alloc (.cells (madeCells (cellsP Pt.zero) (n*8)) 70)):=by
 obtain ⟨i,hi,hzz⟩:=Option.map_eq_some_iff.1 Tryz.info70;simp only[Prod.mk.injEq] at hzz;obtain ⟨hz,hs,hb⟩:=hzz;have hr:=run_make (P:=Tryz.prog) w 205 70 i _ Tryz.underlying205 hi hz .i64 .i64 n n (by omega) (Int.le_refl _) (by rw[hb];omega) (by omega);simp only[Int.toNat_natCast,hs] at hr;exact hr
theorem made_u1:madeCells #[Value.int .u64 0] 1=#[Value.int .u64 0]:=by kernel_rfl
theorem made_u2:madeCells #[Value.int .u64 0] 2=#[Value.int .u64 0,Value.int .u64 0]:=by kernel_rfl
theorem made_1:madeCells (cellsP Pt.zero) (1*8)=cellsP Pt.zero:=by kernel_rfl
theorem made_2:madeCells (cellsP Pt.zero) (2*8)=cellsP Pt.zero ++ cellsP Pt.zero:=by kernel_rfl
def Row1 (w:World) (b:Nat) (x:Int):Prop:=w.heap[b]? = some (.cells #[.int .u64 x] 44 (0,0))
theorem Row1.cell {w:World} {b:Nat} {x:Int} (h:Row1 w b x):w.cell? ⟨b,0,none⟩=some (.int .u64 x)∧w.frozen? ⟨b,0,none⟩=false:=by
 unfold Row1 at h
 simp[World.cell?,World.frozen?,h]
theorem Row1.set {w:World} {b:Nat} {x:Int} (h:Row1 w b x) (y:Int):Row1 (w.setCell ⟨b,0,none⟩ (.int .u64 y)) b y:=by
 have:=heap_setCell_same _ b 0 _ _ (.int .u64 y) h;unfold Row1;rw[this]
 simp
theorem two_new (w:World) (c1 c2:Array Value) (t1 t2:TypeId):((w.alloc (.cells c1 t1)).alloc (.cells c2 t2)).drew.heap[w.heap.size]? = some (.cells c1 t1 (0,0))∧((w.alloc (.cells c1 t1)).alloc (.cells c2 t2)).drew.heap[w.heap.size+1]? = some (.cells c2 t2 (0,0))∧Below w.heap.size w ((w.alloc (.cells c1 t1)).alloc (.cells c2 t2)).drew:=by
 refine ⟨?_,?_,(((Below.refl _ _).alloc (Nat.le_refl _) _).alloc (by simp) _).drew⟩
 ·show ((w.alloc (.cells c1 t1)).alloc (.cells c2 t2)).heap[w.heap.size]? = _
  rw[blk_alloc_lt _ _ _ (by simp),blk_alloc_new]
 ·show ((w.alloc (.cells c1 t1)).alloc (.cells c2 t2)).heap[w.heap.size+1]? = _
  have:=blk_alloc_new (w.alloc (.cells c1 t1)) (.cells c2 t2)
  rwa [World.size_alloc] at this
def One (p:Pt) (w:World) (v:Value):Prop:=∃b,v= .slice (some ⟨b,0,none⟩) 1 1∧PBox w b p
theorem ite_err {E D:Int}:(if E≠0 then E else D)=if E=0 then D else E:=by
 by_cases h:E=0
 ·rw[if_neg (by simp[h]),if_pos h]
 ·rw[if_pos h,if_neg h]
def PBox2 (w:World) (g:Nat) (p q:Pt):Prop:=w.heap[g]? = some (.cells (cellsP p ++ cellsP q) 70 (0,0))
theorem PBox2.lt {w:World} {g:Nat} {p q:Pt} (h:PBox2 w g p q):g<w.heap.size:=(Array.getElem?_eq_some_iff.1 h).1
theorem PBox2.on {w w':World} {g:Nat} {p q:Pt} (h:PBox2 w g p q) (hB:Below w.heap.size w w'):PBox2 w' g p q:=(hB.block g h.lt).trans h
theorem PBox2.other {w:World} {g b:Nat} {p q:Pt} (h:PBox2 w g p q) (hne:g≠b) (j:Nat) (v:Value):PBox2 (w.setCell ⟨b,j,none⟩ v) g p q:=(blk_setCell_other _ _ _ _ hne).trans h
theorem PBox2.cells1 {w:World} {g:Nat} {p q:Pt} (h:PBox2 w g p q):w.cell? ⟨g,0,none⟩=some (.int .i64 p.kind)∧w.cell? ⟨g,1,none⟩=some (.int .i64 p.off)∧w.cell? ⟨g,2,none⟩=some (.int .i64 p.data)∧w.cell? ⟨g,3,none⟩=some (.int .i64 p.ptrs)∧w.cell? ⟨g,4,none⟩=some (.int .i64 p.size)∧w.cell? ⟨g,5,none⟩=some (.int .i64 p.count)∧w.cell? ⟨g,6,none⟩=some (.int .i64 p.seg)∧w.cell? ⟨g,7,none⟩=some (.bool p.dbl):=by
 unfold PBox2 at h
 simp[World.cell?,h,cellsP]
theorem PBox2.cells2 {w:World} {g:Nat} {p q:Pt} (h:PBox2 w g p q):w.cell? ⟨g,8,none⟩=some (.int .i64 q.kind)∧w.cell? ⟨g,9,none⟩=some (.int .i64 q.off)∧w.cell? ⟨g,10,none⟩=some (.int .i64 q.data)∧w.cell? ⟨g,11,none⟩=some (.int .i64 q.ptrs)∧w.cell? ⟨g,12,none⟩=some (.int .i64 q.size)∧w.cell? ⟨g,13,none⟩=some (.int .i64 q.count)∧w.cell? ⟨g,14,none⟩=some (.int .i64 q.seg)∧w.cell? ⟨g,15,none⟩=some (.bool q.dbl):=by
 unfold PBox2 at h
 simp[World.cell?,h,cellsP]
theorem PBox2.frozen {w:World} {g:Nat} {p q:Pt} (h:PBox2 w g p q) (j:Nat):w.frozen? ⟨g,j,none⟩=false:=by
 unfold PBox2 at h
 simp[World.frozen?,h]
theorem PBox2.frozens1 {w:World} {g:Nat} {p q:Pt} (h:PBox2 w g p q):w.frozen? ⟨g,0,none⟩=false∧w.frozen? ⟨g,1,none⟩=false∧w.frozen? ⟨g,2,none⟩=false∧w.frozen? ⟨g,3,none⟩=false∧w.frozen? ⟨g,4,none⟩=false∧w.frozen? ⟨g,5,none⟩=false∧w.frozen? ⟨g,6,none⟩=false∧w.frozen? ⟨g,7,none⟩=false :=
 ⟨h.frozen 0,h.frozen 1,h.frozen 2,h.frozen 3,h.frozen 4,h.frozen 5,h.frozen 6,h.frozen 7⟩
theorem PBox2.frozens2 {w:World} {g:Nat} {p q:Pt} (h:PBox2 w g p q):w.frozen? ⟨g,8,none⟩=false∧w.frozen? ⟨g,9,none⟩=false∧w.frozen? ⟨g,10,none⟩=false∧w.frozen? ⟨g,11,none⟩=false∧w.frozen? ⟨g,12,none⟩=false∧w.frozen? ⟨g,13,none⟩=false∧w.frozen? ⟨g,14,none⟩=false∧w.frozen? ⟨g,15,none⟩=false :=
 ⟨h.frozen 8,h.frozen 9,h.frozen 10,h.frozen 11,h.frozen 12,h.frozen 13,h.frozen 14,h.frozen 15⟩
theorem PBox2.set1 {w:World} {g:Nat} {p q:Pt} (h:PBox2 w g p q) (k o d r s c e:Int) (b:Bool) :
  PBox2 ((((((((w.setCell ⟨g,0,none⟩ (.int .i64 k)).setCell ⟨g,1,none⟩ (.int .i64 o)).setCell ⟨g,2,none⟩ (.int .i64 d)).setCell ⟨g,3,none⟩ (.int .i64 r)).setCell ⟨g,4,none⟩ (.int .i64 s)).setCell ⟨g,5,none⟩ (.int .i64 c)).setCell ⟨g,6,none⟩ (.int .i64 e)).setCell ⟨g,7,none⟩ (.bool b)) g ⟨k,o,d,r,s,c,e,b⟩ q:=by
 have h0:w.heap[g]? = some (.cells (cellsP p ++ cellsP q) 70 (0,0)):=h;have h1:=heap_setCell_same _ g 0 _ _ (.int .i64 k) h0;have h2:=heap_setCell_same _ g 1 _ _ (.int .i64 o) h1;have h3:=heap_setCell_same _ g 2 _ _ (.int .i64 d) h2;have h4:=heap_setCell_same _ g 3 _ _ (.int .i64 r) h3;have h5:=heap_setCell_same _ g 4 _ _ (.int .i64 s) h4;have h6:=heap_setCell_same _ g 5 _ _ (.int .i64 c) h5;have h7:=heap_setCell_same _ g 6 _ _ (.int .i64 e) h6;have h8:=heap_setCell_same _ g 7 _ _ (.bool b) h7;unfold PBox2;rw[h8]
 simp[cellsP]
theorem PBox2.set2 {w:World} {g:Nat} {p q:Pt} (h:PBox2 w g p q) (k o d r s c e:Int) (b:Bool) :
  PBox2 ((((((((w.setCell ⟨g,8,none⟩ (.int .i64 k)).setCell ⟨g,9,none⟩ (.int .i64 o)).setCell ⟨g,10,none⟩ (.int .i64 d)).setCell ⟨g,11,none⟩ (.int .i64 r)).setCell ⟨g,12,none⟩ (.int .i64 s)).setCell ⟨g,13,none⟩ (.int .i64 c)).setCell ⟨g,14,none⟩ (.int .i64 e)).setCell ⟨g,15,none⟩ (.bool b)) g p ⟨k,o,d,r,s,c,e,b⟩:=by
 have h0:w.heap[g]? = some (.cells (cellsP p ++ cellsP q) 70 (0,0)):=h;have h1:=heap_setCell_same _ g 8 _ _ (.int .i64 k) h0;have h2:=heap_setCell_same _ g 9 _ _ (.int .i64 o) h1;have h3:=heap_setCell_same _ g 10 _ _ (.int .i64 d) h2;have h4:=heap_setCell_same _ g 11 _ _ (.int .i64 r) h3;have h5:=heap_setCell_same _ g 12 _ _ (.int .i64 s) h4;have h6:=heap_setCell_same _ g 13 _ _ (.int .i64 c) h5;have h7:=heap_setCell_same _ g 14 _ _ (.int .i64 e) h6;have h8:=heap_setCell_same _ g 15 _ _ (.bool b) h7;unfold PBox2;rw[h8]
 simp[cellsP]
def Row2 (w:World) (b:Nat) (x y:Int):Prop:=w.heap[b]? = some (.cells #[.int .u64 x,.int .u64 y] 44 (0,0))
theorem Row2.lt {w:World} {b:Nat} {x y:Int} (h:Row2 w b x y):b<w.heap.size:=(Array.getElem?_eq_some_iff.1 h).1
theorem Row2.on {w w':World} {b:Nat} {x y:Int} (h:Row2 w b x y) (hB:Below w.heap.size w w'):Row2 w' b x y:=(hB.block b h.lt).trans h
theorem Row2.cell {w:World} {b:Nat} {x y:Int} (h:Row2 w b x y):w.cell? ⟨b,0,none⟩=some (.int .u64 x)∧w.cell? ⟨b,1,none⟩=some (.int .u64 y)∧w.frozen? ⟨b,0,none⟩=false∧w.frozen? ⟨b,1,none⟩=false:=by
 unfold Row2 at h
 simp[World.cell?,World.frozen?,h]
theorem Row2.set1 {w:World} {b:Nat} {x y:Int} (h:Row2 w b x y) (z:Int):Row2 (w.setCell ⟨b,0,none⟩ (.int .u64 z)) b z y:=by
 have:=heap_setCell_same _ b 0 _ _ (.int .u64 z) h;unfold Row2;rw[this]
 simp
theorem Row2.set2 {w:World} {b:Nat} {x y:Int} (h:Row2 w b x y) (z:Int):Row2 (w.setCell ⟨b,1,none⟩ (.int .u64 z)) b x z:=by
 have:=heap_setCell_same _ b 1 _ _ (.int .u64 z) h;unfold Row2;rw[this]
 simp
def TwoP (p q:Pt) (w:World) (v:Value):Prop:=∃b,v= .slice (some ⟨b,0,none⟩) 2 2∧PBox2 w b p q
theorem Row2.other {w:World} {g b:Nat} {x y:Int} (h:Row2 w g x y) (hne:g≠b) (j:Nat) (v:Value):Row2 (w.setCell ⟨b,j,none⟩ v) g x y:=(blk_setCell_other _ _ _ _ hne).trans h
def ObR (t:Ob × Int) (w:World) (e:Ending) (w':World):Prop:=e= .returned (.tuple #[.agg (cellsO t.1),.int .u16 t.2])∧Below w.heap.size w w'
theorem two_boxes9 (w:World) (p:Pt) (o:Ob):PBox ((w.alloc (.cells (cellsP p) 70)).alloc (.cells (cellsO o) 129)) w.heap.size p∧OBox ((w.alloc (.cells (cellsP p) 70)).alloc (.cells (cellsO o) 129)) (w.heap.size+1) o∧Below w.heap.size w ((w.alloc (.cells (cellsP p) 70)).alloc (.cells (cellsO o) 129)):=by
 refine ⟨(PBox.new w p).on ((Below.refl _ _).alloc (Nat.le_refl _) _),?_,((Below.refl _ _).alloc (Nat.le_refl _) _).alloc (by simp) _⟩;have:=OBox.new (w.alloc (.cells (cellsP p) 70)) o
 rwa [World.size_alloc] at this
theorem okp_off {p:Pt} (hp:OkP p): -536870912≤p.off∧p.off<536870912:=by
 rcases hp with e | ⟨_,h,_⟩ | ⟨_,h,_⟩ | ⟨_,h,_⟩
 ·rw[e];decide
 ·exact h
 ·exact h
 ·omega
theorem sr_in {sr:Sr} (h:sr.Good) (g a:Int) (hk:(targetO sr g a).1.kind≠0) (h0:(targetO sr g a).2=0):OkQ (ptrO (targetO sr g a).1):=(target_ok h g a h0 hk).1
theorem near_in64 (p:Pt) (a:Int):In64 (nearA p a):=by
 unfold nearA In64
 split
 ·assumption
 ·omega
theorem landed_in {sr:Sr} (h:sr.Good) (f:Pt) (hf:OkP f):In64 (landedO sr f).1.seg∧In64 (landedO sr f).1.at_:=by
 have hz:In64 Ob.zero.seg∧In64 Ob.zero.at_:=by unfold In64 Ob.zero;decide
 have hs:∀p:Pt,OkP p→In64 p.seg∧In64 p.off:=by
  intro p hp;unfold In64
  rcases hp with rfl | ⟨h1,h2,h3,h4,h5,h6,h7,h8,-⟩ | ⟨h1,h2,h3,h4,h5,h6,h7,h8⟩ | ⟨h1,h2,h3,h4,h5,h6,h7⟩
  ·decide
  ·omega
  ·omega
  ·omega
 unfold landedO landed1 landed2
 repeat' split
 all_goals first | exact hz | exact ⟨(hs _ hf).1,near_in64 _ _⟩ | exact hs _ (ptS_ok h _ _)
theorem target_in {sr:Sr} (h:sr.Good) (g a:Int) (hg:In64 g):In64 (targetO sr g a).1.seg∧In64 (targetO sr g a).1.at_:=by
 have hz:In64 Ob.zero.seg∧In64 Ob.zero.at_:=by unfold In64 Ob.zero;decide
 unfold targetO
 by_cases h1:ptE sr g a≠0
 ·rw[if_pos h1];exact hz
 rw[if_neg h1]
 by_cases h2:(ptS sr g a).kind=0
 ·rw[if_pos h2];exact hz
 rw[if_neg h2]
 by_cases h3:(ptS sr g a).kind=3
 ·rw[if_pos h3];exact landed_in h _ (ptS_ok h g a)
 ·rw[if_neg h3];exact ⟨hg,near_in64 _ _⟩
theorem two_objs (w:World) (p o:Ob):OBox ((w.alloc (.cells (cellsO p) 129)).alloc (.cells (cellsO o) 129)) w.heap.size p∧OBox ((w.alloc (.cells (cellsO p) 129)).alloc (.cells (cellsO o) 129)) (w.heap.size+1) o∧Below w.heap.size w ((w.alloc (.cells (cellsO p) 129)).alloc (.cells (cellsO o) 129)):=by
 refine ⟨(OBox.new w p).on ((Below.refl _ _).alloc (Nat.le_refl _) _),?_,((Below.refl _ _).alloc (Nat.le_refl _) _).alloc (by simp) _⟩;have:=OBox.new (w.alloc (.cells (cellsO p) 129)) o
 rwa [World.size_alloc] at this
end Go.Proofs.YtmmlfnblodfjbaaGreatDoor
