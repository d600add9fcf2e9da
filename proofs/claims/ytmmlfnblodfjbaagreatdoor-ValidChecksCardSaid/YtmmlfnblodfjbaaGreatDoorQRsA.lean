/- Layer 9: things in memory. -/
import Derived.Test.YtmmlfnblodfjbaaGreatDoorQRdPlain
import Derived.Test.YtmmlfnblodfjbaaGreatDoorQLaid
import Derived.Test.YtmmlfnblodfjbaaGreatDoorQAr
import Derived.Deep.DeepCutAuto
import Derived.Deep.CutBlock
import Derived.Deep.RegionHeld3
set_option maxRecDepth 100000
namespace Go.Proofs.YtmmlfnblodfjbaaGreatDoor
open Go.RowKit Go.Deep
def cellsO (o:Ob):Array Value:=#[.int .i64 o.kind,.int .i64 o.seg,.int .i64 o.at_,.int .i64 o.data,.int .i64 o.ptrs,.int .i64 o.size,.int .i64 o.count]
def OBox (w:World) (g:Nat) (o:Ob):Prop:=w.heap[g]? = some (.cells (cellsO o) 129 (0,0))
theorem OBox.new (w:World) (o:Ob):OBox (w.alloc (.cells (cellsO o) 129)) w.heap.size o:=by unfold OBox;rw[blk_alloc_new]
theorem OBox.lt {w:World} {g:Nat} {o:Ob} (h:OBox w g o):g<w.heap.size:=(Array.getElem?_eq_some_iff.1 h).1
theorem OBox.on {w w':World} {g:Nat} {o:Ob} (h:OBox w g o) (hB:Below w.heap.size w w'):OBox w' g o:=(hB.block g h.lt).trans h
theorem OBox.cells {w:World} {g:Nat} {o:Ob} (h:OBox w g o):w.cell? ⟨g,0,none⟩=some (.int .i64 o.kind)∧w.cell? ⟨g,1,none⟩=some (.int .i64 o.seg)∧w.cell? ⟨g,2,none⟩=some (.int .i64 o.at_)∧w.cell? ⟨g,3,none⟩=some (.int .i64 o.data)∧w.cell? ⟨g,4,none⟩=some (.int .i64 o.ptrs)∧w.cell? ⟨g,5,none⟩=some (.int .i64 o.size)∧w.cell? ⟨g,6,none⟩=some (.int .i64 o.count):=by
 unfold OBox at h
 simp[World.cell?,h,cellsO]
theorem OBox.set7 {w:World} {g:Nat} {o:Ob} (h:OBox w g o) (a b c d e f i:Int) :
  OBox (((((((w.setCell ⟨g,0,none⟩ (.int .i64 a)).setCell ⟨g,1,none⟩ (.int .i64 b)).setCell ⟨g,2,none⟩ (.int .i64 c)).setCell ⟨g,3,none⟩ (.int .i64 d)).setCell ⟨g,4,none⟩ (.int .i64 e)).setCell ⟨g,5,none⟩ (.int .i64 f)).setCell ⟨g,6,none⟩ (.int .i64 i)) g ⟨a,b,c,d,e,f,i⟩:=by
 have h0:w.heap[g]? = some (.cells (cellsO o) 129 (0,0)):=h;have h1:=heap_setCell_same _ g 0 _ _ (.int .i64 a) h0;have h2:=heap_setCell_same _ g 1 _ _ (.int .i64 b) h1;have h3:=heap_setCell_same _ g 2 _ _ (.int .i64 c) h2;have h4:=heap_setCell_same _ g 3 _ _ (.int .i64 d) h3;have h5:=heap_setCell_same _ g 4 _ _ (.int .i64 e) h4;have h6:=heap_setCell_same _ g 5 _ _ (.int .i64 f) h5;have h7:=heap_setCell_same _ g 6 _ _ (.int .i64 i) h6;unfold OBox;rw[h7]
 simp[cellsO]
theorem below_set7 {w W:World} {g:Nat} (h:Below w.heap.size w W) (hg:w.heap.size≤g) (a0 a1 a2 a3 a4 a5 a6:Value) :
  Below w.heap.size w (((((((W.setCell ⟨g,0,none⟩ a0).setCell ⟨g,1,none⟩ a1).setCell ⟨g,2,none⟩ a2).setCell ⟨g,3,none⟩ a3).setCell ⟨g,4,none⟩ a4).setCell ⟨g,5,none⟩ a5).setCell ⟨g,6,none⟩ a6) :=
 ((((((h.setCell (p:=⟨g,0,none⟩) hg a0).setCell (p:=⟨g,1,none⟩) hg a1).setCell (p:=⟨g,2,none⟩) hg a2).setCell (p:=⟨g,3,none⟩) hg a3).setCell (p:=⟨g,4,none⟩) hg a4).setCell (p:=⟨g,5,none⟩) hg a5).setCell (p:=⟨g,6,none⟩) hg a6
theorem OBox.frozen {w:World} {g:Nat} {o:Ob} (h:OBox w g o) (j:Nat):w.frozen? ⟨g,j,none⟩=false:=by
 unfold OBox at h
 simp[World.frozen?,h]
theorem OBox.frozens {w:World} {g:Nat} {o:Ob} (h:OBox w g o):w.frozen? ⟨g,0,none⟩=false∧w.frozen? ⟨g,1,none⟩=false∧w.frozen? ⟨g,2,none⟩=false∧w.frozen? ⟨g,3,none⟩=false∧w.frozen? ⟨g,4,none⟩=false∧w.frozen? ⟨g,5,none⟩=false∧w.frozen? ⟨g,6,none⟩=false :=
 ⟨h.frozen 0,h.frozen 1,h.frozen 2,h.frozen 3,h.frozen 4,h.frozen 5,h.frozen 6⟩
def PZBox (w:World) (g:Nat) (p:Pt):Prop:=w.heap[g]? = some (.cells (cellsP p) 70 (0,0))
theorem PZBox.new (w:World) (p:Pt):PZBox (w.alloc (.cells (cellsP p) 70)) w.heap.size p:=by unfold PZBox;rw[blk_alloc_new]
theorem PZBox.lt {w:World} {g:Nat} {p:Pt} (h:PZBox w g p):g<w.heap.size:=(Array.getElem?_eq_some_iff.1 h).1
theorem PZBox.on {w w':World} {g:Nat} {p:Pt} (h:PZBox w g p) (hB:Below w.heap.size w w'):PZBox w' g p:=(hB.block g h.lt).trans h
theorem PZBox.cells {w:World} {g:Nat} {p:Pt} (h:PZBox w g p):w.cell? ⟨g,0,none⟩=some (.int .i64 p.kind)∧w.cell? ⟨g,1,none⟩=some (.int .i64 p.off)∧w.cell? ⟨g,2,none⟩=some (.int .i64 p.data)∧w.cell? ⟨g,3,none⟩=some (.int .i64 p.ptrs)∧w.cell? ⟨g,4,none⟩=some (.int .i64 p.size)∧w.cell? ⟨g,5,none⟩=some (.int .i64 p.count)∧w.cell? ⟨g,6,none⟩=some (.int .i64 p.seg)∧w.cell? ⟨g,7,none⟩=some (.bool p.dbl):=by
 unfold PZBox at h
 simp[World.cell?,h,cellsP]
theorem PZBox.frozen {w:World} {g:Nat} {p:Pt} (h:PZBox w g p) (j:Nat):w.frozen? ⟨g,j,none⟩=false:=by
 unfold PZBox at h
 simp[World.frozen?,h]
theorem PZBox.frozens {w:World} {g:Nat} {p:Pt} (h:PZBox w g p):w.frozen? ⟨g,0,none⟩=false∧w.frozen? ⟨g,1,none⟩=false∧w.frozen? ⟨g,2,none⟩=false∧w.frozen? ⟨g,3,none⟩=false∧w.frozen? ⟨g,4,none⟩=false∧w.frozen? ⟨g,5,none⟩=false∧w.frozen? ⟨g,6,none⟩=false∧w.frozen? ⟨g,7,none⟩=false :=
 ⟨h.frozen 0,h.frozen 1,h.frozen 2,h.frozen 3,h.frozen 4,h.frozen 5,h.frozen 6,h.frozen 7⟩
def put8 (w:World) (g:Nat) (p:Pt):World:=(((((((w.setCell ⟨g,0,none⟩ (.int .i64 p.kind)).setCell ⟨g,1,none⟩ (.int .i64 p.off)).setCell ⟨g,2,none⟩ (.int .i64 p.data)).setCell ⟨g,3,none⟩ (.int .i64 p.ptrs)).setCell ⟨g,4,none⟩ (.int .i64 p.size)).setCell ⟨g,5,none⟩ (.int .i64 p.count)).setCell ⟨g,6,none⟩ (.int .i64 p.seg)).setCell ⟨g,7,none⟩ (.bool p.dbl)
theorem PZBox.put {w:World} {g:Nat} {q:Pt} (h:PZBox w g q) (p:Pt):PZBox (put8 w g p) g p:=by
 have h0:w.heap[g]? = some (.cells (cellsP q) 70 (0,0)):=h;have h1:=heap_setCell_same _ g 0 _ _ (.int .i64 p.kind) h0;have h2:=heap_setCell_same _ g 1 _ _ (.int .i64 p.off) h1;have h3:=heap_setCell_same _ g 2 _ _ (.int .i64 p.data) h2;have h4:=heap_setCell_same _ g 3 _ _ (.int .i64 p.ptrs) h3;have h5:=heap_setCell_same _ g 4 _ _ (.int .i64 p.size) h4;have h6:=heap_setCell_same _ g 5 _ _ (.int .i64 p.count) h5;have h7:=heap_setCell_same _ g 6 _ _ (.int .i64 p.seg) h6;have h8:=heap_setCell_same _ g 7 _ _ (.bool p.dbl) h7;unfold PZBox put8;rw[h8]
 simp[cellsP]
theorem below_put8 {w W:World} {g:Nat} (h:Below w.heap.size w W) (hg:w.heap.size≤g) (p:Pt):Below w.heap.size w (put8 W g p) :=
 (((((((h.setCell (p:=⟨g,0,none⟩) hg _).setCell (p:=⟨g,1,none⟩) hg _).setCell (p:=⟨g,2,none⟩) hg _).setCell (p:=⟨g,3,none⟩) hg _).setCell (p:=⟨g,4,none⟩) hg _).setCell (p:=⟨g,5,none⟩) hg _).setCell (p:=⟨g,6,none⟩) hg _).setCell (p:=⟨g,7,none⟩) hg _
theorem wordA_in {ls:List (List Int)} (h:AllU ls) (g a:Int):0≤wordA ls g a∧wordA ls g a≤18446744073709551615:=by
 unfold wordA
 split
 ·exact h.at_ _ _
 ·decide
theorem bseqS {a b c:World} (h:Below a.heap.size a b) (k:Below b.heap.size b c):Below a.heap.size a c:=h.trans (k.mono h.size)
def srcV (v:Value):Value:= .agg #[v,.bool false,.slice none 0 0]
def S9Box (w:World) (b:Nat) (v:Value):Prop:=w.heap[b]? = some (.cells #[v,.bool false,.slice none 0 0] 96 (0,0))
theorem S9Box.new (w:World) (v:Value):S9Box (w.alloc (.cells #[v,.bool false,.slice none 0 0] 96)) w.heap.size v:=by unfold S9Box;rw[blk_alloc_new]
theorem S9Box.lt {w:World} {b:Nat} {v:Value} (h:S9Box w b v):b<w.heap.size:=(Array.getElem?_eq_some_iff.1 h).1
theorem S9Box.on {w w':World} {b:Nat} {v:Value} (h:S9Box w b v) (hB:Below w.heap.size w w'):S9Box w' b v:=(hB.block b h.lt).trans h
theorem S9Box.cells {w:World} {b:Nat} {v:Value} (h:S9Box w b v):w.cell? ⟨b,0,none⟩=some v∧w.cell? ⟨b,1,none⟩=some (.bool false):=by
 unfold S9Box at h
 simp[World.cell?,h]
set_option maxHeartbeats 1000000 in
theorem rsword_any (v:Value) (ls:List (List Int)) (g a:Int) (w:World) (h:ArV w w.heap.size v ls) (hlen:ls.length≤1000000000000) :
  Calls Tryz.prog 80 #[srcV v,.int .i64 g,.int .i64 a] w fun e w'=>e= .returned (.tuple #[.int .u64 (wordA ls g a),.int .i64 (wordE7 ls g a)])∧Below w.heap.size w w':=by
 have hB0:Below w.heap.size w (w.alloc (.cells #[v,.bool false,.slice none 0 0] 96)):=(Below.refl _ _).alloc (Nat.le_refl _) _;have hS0:=S9Box.new w v;obtain ⟨W1,hW1⟩:∃W1,W1=w.alloc (.cells #[v,.bool false,.slice none 0 0] 96):=⟨_,rfl⟩;rw[←hW1] at hB0 hS0;have HW:=LH (rword7_any v ls g a W1 (h.on hB0) hlen);have HB0:=LH hB0;have HS0:=LH hS0;have he:wordE7 ls g a=0∨wordE7 ls g a=20:=by unfold wordE7;split <;> simp
 generalize wordA ls g a=x at *
 generalize wordE7 ls g a=y at *
 obtain ⟨z1,z2⟩:=hS0.cells;obtain ⟨A,q,rfl⟩:=h.form rfl;unfold srcV;clear h hlen hB0 hS0
 rcases he with rfl | rfl
 all_goals
  go_enter Tryz.func80,Tryz.ntmps80;go_upto_region 1 with fail
  rw[←hW1];clear hW1
  go_wp2_with fail
  refine HW.out.mono ?_
  rintro e w1 ⟨rfl,hB1⟩;obtain ⟨y1,y2⟩:=(HS0.out.on hB1).cells;have HB1:=LH (HB0.out.trans (hB1.mono HB0.out.size));clear hB1 z1 z2
  go_wp2_with fail
  go_ret2;exact ⟨rfl,HB1.out⟩
set_option maxHeartbeats 400000 in
theorem rsnear_any (p:Pt) (w:World) :
  Calls Tryz.prog 110 #[.agg (cellsP p)] w fun e w'=>e= .returned (.bool (decide (p.kind=1∨p.kind=2)))∧Below w.heap.size w w':=by
 have HB:∀cs,Below w.heap.size w (w.alloc (.cells cs 70)):=fun cs=>(Below.refl _ _).alloc (Nat.le_refl _) _
 obtain ⟨k,o,d,r,z,c,g,b⟩:=p;unfold cellsP;dsimp only
 by_cases k1:k=1
 ·subst k1;go_enter Tryz.func110,Tryz.ntmps110
  go_wp2_with fail
  go_ret;exact ⟨rfl,HB _⟩
 ·have d1:(k == 1)=false:=by simpa using k1
  by_cases k2:k=2
  ·subst k2;go_enter Tryz.func110,Tryz.ntmps110
   go_wp2_with fail
   go_ret;exact ⟨rfl,HB _⟩
  ·have d2:(k == 2)=false:=by simpa using k2
   rw[show decide (k=1∨k=2)=false by simp[k1,k2]]
   go_enter Tryz.func110,Tryz.ntmps110
   go_wp2_with fail
   go_ret;exact ⟨rfl,HB _⟩
set_option maxHeartbeats 400000 in
theorem rsobj_any (p:Pt) (g a:Int) (w:World) :
  Calls Tryz.prog 112 #[.agg (cellsP p),.int .i64 g,.int .i64 a] w fun e w'=>e= .returned (.agg (cellsO (thingO p g a)))∧Below w.heap.size w w':=by
 have HB:∀cs cs' t t',Below w.heap.size w ((w.alloc (.cells cs t)).alloc (.cells cs' t')):=fun cs cs' t t'=>((Below.refl _ _).alloc (Nat.le_refl _) _).alloc (by simp) _
 unfold cellsP cellsO thingO;go_enter Tryz.func112,Tryz.ntmps112
 go_wp2_with fail
 refine bodyPost_ret (v:= .agg (cellsO (thingO p g a))) ?_ rfl ⟨rfl,HB _ _ _ _⟩
 simp[results,Tryz.f112,go_sem,cellsO,thingO]
theorem rwords_q (p:Pt) (w:World) (hp:OkQ p) :
  Calls Tryz.prog 114 #[.agg (cellsP p)] w fun e w'=>e= .returned (.tuple #[.int .i64 (wordN p),.int .i64 (wordE p)])∧Below w.heap.size w w':=by
 rcases hp with hp | rfl
 ·exact rwords_any p hp w
 ·have HE:Hid (wordN ⟨1,0,0,0,0,0,0,false⟩=0∧wordE ⟨1,0,0,0,0,0,0,false⟩=0):=LH (by decide);rw[HE.out.1,HE.out.2];clear HE;unfold cellsP;dsimp only;go_enter Tryz.func114,Tryz.ntmps114
  go_wp2_with fail
  go_ret2;exact ⟨rfl,(Below.refl _ _).alloc (Nat.le_refl _) _⟩
def ptZ (ls:List (List Int)) (g a:Int):Pt:=if wordE7 ls g a≠0 then Pt.zero else ptS (srA ls) g a
theorem ptz_is (ls:List (List Int)) (g a:Int):(wordE7 ls g a=0∧ptZ ls g a=decP (wordA ls g a)∧ptE (srA ls) g a=decE (wordA ls g a))∨(wordE7 ls g a=20∧ptZ ls g a=Pt.zero∧ptE (srA ls) g a=20):=by
 have he:wordE7 ls g a=0∨wordE7 ls g a=20:=by unfold wordE7;split <;> simp
 rcases he with e | e
 ·refine .inl ⟨e,?_,?_⟩
  ·unfold ptZ;rw[if_neg (by rw[e];decide)]
   rfl
  ·unfold ptE;rw[if_neg (by show ¬(wordE7 ls g a≠0);rw[e];decide)]
   rfl
 ·refine .inr ⟨e,?_,?_⟩
  ·unfold ptZ;rw[if_pos (by rw[e];decide)]
  ·unfold ptE;rw[if_pos (by show wordE7 ls g a≠0;rw[e];decide)]
   exact e
set_option maxHeartbeats 2000000 in
theorem rsptr_any (v:Value) (ls:List (List Int)) (g a:Int) (w:World) (h:ArV w w.heap.size v ls) (hlen:ls.length≤1000000000000) (hu:AllU ls) :
  Calls Tryz.prog 109 #[srcV v,.int .i64 g,.int .i64 a] w fun e w'=>e= .returned (.tuple #[.agg (cellsP (ptZ ls g a)),.int .i64 (ptE (srA ls) g a)])∧Below w.heap.size w w':=by
 obtain ⟨W1,hW1⟩:∃W1,W1=(w.alloc (.cells #[v,.bool false,.slice none 0 0] 96)).alloc (.cells (cellsP Pt.zero) 70):=⟨_,rfl⟩;have hB0:Below w.heap.size w W1:=by rw[hW1];exact ((Below.refl _ _).alloc (Nat.le_refl _) _).alloc (by simp) _
 have hS0:S9Box W1 w.heap.size v:=by rw[hW1];exact (S9Box.new w v).on ((Below.refl _ _).alloc (Nat.le_refl _) _)
 have hP0:PZBox W1 (w.heap.size+1) Pt.zero:=by
  rw[hW1,←show (w.alloc (.cells #[v,.bool false,.slice none 0 0] 96)).heap.size=w.heap.size+1 by rw[World.size_alloc]]
  exact PZBox.new _ _
 have HW:=LH (rsword_any v ls g a W1 (h.on hB0) hlen);have hx:=wordA_in hu g a;have HD:=LH (fun X=>rdec_any (wordA ls g a) X hx.1 hx.2)
 have HB0:=LH hB0;have HP0:=LH hP0;obtain ⟨z1,z2⟩:=hS0.cells;obtain ⟨A,q,rfl⟩:=h.form rfl;have hZ0:W1.cell? ⟨w.heap.size,2,none⟩=some (.slice none 0 0):=by
  unfold S9Box at hS0
  simp[World.cell?,hS0]
 unfold srcV at *
 unfold cellsP Pt.zero at hW1;dsimp only at hW1
 rcases ptz_is ls g a with ⟨e0,e1,e2⟩ | ⟨e0,e1,e2⟩
 ·rw[e1,e2];rw[e0] at HW;generalize wordA ls g a=x at *
  generalize decE x=y at *
  generalize decP x=p at *
  obtain ⟨k,o,d,r,z,c,g',b⟩:=p;unfold cellsP at *
  dsimp only at HD ⊢;clear h hlen hB0 hS0 hP0 e0 e1 e2 hu hx;go_enter Tryz.func109,Tryz.ntmps109;go_upto_region 1 with fail
  rw[←hW1];clear hW1
  go_wp2_with fail
  refine HW.out.mono ?_
  rintro e w1 ⟨rfl,hB1⟩;have HP1:=LH (HP0.out.on hB1);have HB1:=LH (bseqS HB0.out hB1);clear hB1 z1 z2 hZ0
  go_wp2_with fail
  refine (HD.out _).mono ?_
  rintro e w2 ⟨rfl,hB2⟩;have HB2:=LH (bseqS HB1.out hB2);have HP2:=LH ((HP1.out.on hB2).on ((Below.refl w2.heap.size w2).alloc (Nat.le_refl _) (.cells (cellsP ⟨k,o,d,r,z,c,g',b⟩) 70)));have HQ2:=LH (PZBox.new w2 ⟨k,o,d,r,z,c,g',b⟩);have HB3:Hid (Below w.heap.size w (w2.alloc (.cells (cellsP ⟨k,o,d,r,z,c,g',b⟩) 70))):=LH (HB2.out.alloc HB2.out.size _);obtain ⟨W3,hW3⟩:∃W3,W3=w2.alloc (.cells (cellsP ⟨k,o,d,r,z,c,g',b⟩) 70):=⟨_,rfl⟩;rw[←hW3] at HP2 HQ2 HB3;unfold cellsP at hW3;dsimp only at hW3;clear hB2;go_upto_region 5 with fail
  rw[←hW3];clear hW3;obtain ⟨y0,y1,y2,y3,y4,y5,y6,y7⟩:=HQ2.out.cells;obtain ⟨f0,f1,f2,f3,f4,f5,f6,f7⟩:=HP2.out.frozens;obtain ⟨x0,x1,x2,x3,x4,x5,x6,x7⟩:=HP2.out.cells;unfold Pt.zero at x0 x1 x2 x3 x4 x5 x6 x7;dsimp only at x0 x1 x2 x3 x4 x5 x6 x7 y0 y1 y2 y3 y4 y5 y6 y7;have HX:=LH (HP2.out.put ⟨k,o,d,r,z,c,g',b⟩);have HBX:=LH (below_put8 (g:=w.heap.size+1) HB3.out (by omega) ⟨k,o,d,r,z,c,g',b⟩);unfold put8 at HX HBX;dsimp only at HX HBX
  go_wp2_with fail
  clear x0 x1 x2 x3 x4 x5 x6 x7 y0 y1 y2 y3 y4 y5 y6 y7;obtain ⟨x0,x1,x2,x3,x4,x5,x6,x7⟩:=HX.out.cells;dsimp only at x0 x1 x2 x3 x4 x5 x6 x7;refine bodyPost_ret (v:= .tuple #[.agg (cellsP ⟨k,o,d,r,z,c,g',b⟩),.int .i64 y]) ?_ rfl ⟨rfl,HBX.out⟩
  simp[results,Tryz.f109,go_sem,cellsP,x0,x1,x2,x3,x4,x5,x6,x7]
 ·rw[e1,e2];rw[e0] at HW;generalize wordA ls g a=x at *
  clear h hlen hB0 hS0 hP0 e0 e1 e2 hu hx;unfold cellsP Pt.zero;dsimp only;go_enter Tryz.func109,Tryz.ntmps109;go_upto_region 1 with fail
  rw[←hW1];clear hW1
  go_wp2_with fail
  refine HW.out.mono ?_
  rintro e w1 ⟨rfl,hB1⟩;have HP1:=LH (HP0.out.on hB1);have HB1:=LH (bseqS HB0.out hB1);obtain ⟨f0,f1,f2,f3,f4,f5,f6,f7⟩:=HP1.out.frozens;obtain ⟨x0,x1,x2,x3,x4,x5,x6,x7⟩:=HP1.out.cells;unfold Pt.zero at x0 x1 x2 x3 x4 x5 x6 x7;dsimp only at x0 x1 x2 x3 x4 x5 x6 x7;have HX:=LH (HP1.out.put Pt.zero);have HBX:=LH (below_put8 (g:=w.heap.size+1) HB1.out (by omega) Pt.zero);unfold put8 Pt.zero at HX HBX;dsimp only at HX HBX;clear hB1 z1 z2 hZ0
  go_wp2_with fail
  clear x0 x1 x2 x3 x4 x5 x6 x7;obtain ⟨x0,x1,x2,x3,x4,x5,x6,x7⟩:=HX.out.cells;dsimp only at x0 x1 x2 x3 x4 x5 x6 x7;refine bodyPost_ret (v:= .tuple #[.agg (cellsP Pt.zero),.int .i64 20]) ?_ rfl ⟨rfl,HBX.out⟩
  simp[results,Tryz.f109,go_sem,cellsP,Pt.zero,x0,x1,x2,x3,x4,x5,x6,x7]
def ObI (t:Ob × Int) (w:World) (e:Ending) (w':World):Prop:=e= .returned (.tuple #[.agg (cellsO t.1),.int .i64 t.2])∧Below w.heap.size w w'
theorem wordE_two (p:Pt):wordE p=0∨wordE p=23:=by
 unfold wordE
 repeat' split
 all_goals first | exact .inl rfl | exact .inr rfl
def wSO (w:World) (v:Value) (o:Ob):World:=((w.alloc (.cells #[v,.bool false,.slice none 0 0] 96)).alloc (.cells (cellsO o) 129)).alloc (.cells (cellsO Ob.zero) 129)
theorem boxes_so (w:World) (v:Value) (o:Ob):S9Box (wSO w v o) w.heap.size v∧OBox (wSO w v o) (w.heap.size+1) o∧OBox (wSO w v o) (w.heap.size+2) Ob.zero∧Below w.heap.size w (wSO w v o):=by
 have h1:Below w.heap.size w (w.alloc (.cells #[v,.bool false,.slice none 0 0] 96)):=(Below.refl _ _).alloc (Nat.le_refl _) _;obtain ⟨X,hX⟩:∃X,X=w.alloc (.cells #[v,.bool false,.slice none 0 0] 96):=⟨_,rfl⟩;have hs:X.heap.size=w.heap.size+1:=by rw[hX,World.size_alloc]
 have a1:S9Box X w.heap.size v:=by rw[hX];exact S9Box.new w v
 rw[←hX] at h1;have h2:Below X.heap.size X (X.alloc (.cells (cellsO o) 129)):=(Below.refl _ _).alloc (Nat.le_refl _) _;obtain ⟨Y,hY⟩:∃Y,Y=X.alloc (.cells (cellsO o) 129):=⟨_,rfl⟩;have hs2:Y.heap.size=w.heap.size+2:=by rw[hY,World.size_alloc,hs]
 have a2:OBox Y (w.heap.size+1) o:=by rw[hY,←hs];exact OBox.new X o
 rw[←hY] at h2;have h3:Below Y.heap.size Y (Y.alloc (.cells (cellsO Ob.zero) 129)):=(Below.refl _ _).alloc (Nat.le_refl _) _;unfold wSO;rw[←hX,←hY];exact ⟨(a1.on h2).on h3,a2.on h3,by rw[←hs2];exact OBox.new Y Ob.zero,bseqS (bseqS h1 h2) h3⟩
set_option maxHeartbeats 4000000 in
theorem rsbounds_any (v:Value) (ls:List (List Int)) (o:Ob) (w:World) (h:ArV w w.heap.size v ls) (hlen:ls.length≤1000000000000) (hq:OkQ (ptrO o)) (hk:o.kind≠0) :
  Calls Tryz.prog 111 #[srcV v,.agg (cellsO o)] w (ObI (checkO (srA ls) (o,0)) w):=by
 have HA:=LH (sizes_all64 h);have HP:=LH (fun X=>rwords_q (ptrO o) X hq)
 have HZ:=LH (fun X (hX:Below w.heap.size w X)=>rsizes_any v ls X (h.on hX) hlen)
 have HC:Hid (checkO (srA ls) (o,0)=if wordE (ptrO o)≠0 then (Ob.zero,wordE (ptrO o)) else if withinB (sizesL ls) o.seg o.at_ (wordN (ptrO o))=true then (o,0) else (Ob.zero,20)):=LH (by
  unfold checkO;rw[if_neg (by simp[hk])]
  rfl)
 have hE:wordE (ptrO o)=0∨wordE (ptrO o)=23:=wordE_two _;have HWi:=LH (fun X u (hu:NumS .i64 X X.heap.size u (sizesL ls))=>rwithin_any u (sizesL ls) o.seg o.at_ (wordN (ptrO o)) _ X hu HA.out)
 obtain ⟨Z,hZ⟩:∃Z,Z=checkO (srA ls) (o,0):=⟨_,rfl⟩;rw[←hZ] at HC ⊢;have hPt:ptrO o=⟨o.kind,0,o.data,o.ptrs,o.size,o.count,0,false⟩:=rfl;generalize wordE (ptrO o)=y at *
 generalize wordN (ptrO o)=n at *
 rw[hPt] at HP;obtain ⟨A,q,rfl⟩:=h.form rfl;obtain ⟨b1,b2,b3,hB0⟩:=boxes_so w (.slice A ls.length q) o;obtain ⟨W1,hW1⟩:∃W1,W1=wSO w (.slice A ls.length q) o:=⟨_,rfl⟩;rw[←hW1] at b1 b2 b3 hB0;have HS1:=LH b1;have HO1:=LH b2;have HR1:=LH b3;have HB1:=LH hB0;generalize withinB (sizesL ls) o.seg o.at_ n=C at *
 obtain ⟨z0,z1,z2,z3,z4,z5,z6⟩:=b2.cells;obtain ⟨o1,o2,o3,o4,o5,o6,o7⟩:=o;dsimp only at z0 z1 z2 z3 z4 z5 z6 HP HC HWi;have HO':=LH (rfl:(⟨o1,o2,o3,o4,o5,o6,o7⟩:Ob)=⟨o1,o2,o3,o4,o5,o6,o7⟩);unfold wSO cellsO Ob.zero at hW1;dsimp only at hW1;unfold cellsP at HP;unfold srcV cellsO;dsimp only;clear hZ hk hq h hlen b1 b2 b3 hB0 hPt;go_enter Tryz.func111,Tryz.ntmps111;go_upto_region 1 with fail
 rw[←hW1];clear hW1
 go_wp2_with fail
 refine (HP.out _).mono ?_
 rintro e w2 ⟨rfl,hB2⟩;have HB2:=LH (bseqS HB1.out hB2);have HR2:=LH (HR1.out.on hB2);have HO2:=LH (HO1.out.on hB2);have HS2:=LH (HS1.out.on hB2);clear hB2 z0 z1 z2 z3 z4 z5 z6 HP HB1 HR1 HO1 HS1;obtain ⟨y1,y2⟩:=HS2.out.cells;obtain ⟨x0,x1,x2,x3,x4,x5,x6⟩:=HR2.out.cells;obtain ⟨f0,f1,f2,f3,f4,f5,f6⟩:=HR2.out.frozens;unfold Ob.zero at x0 x1 x2 x3 x4 x5 x6;dsimp only at x0 x1 x2 x3 x4 x5 x6
 rcases hE with rfl | rfl
 ·have HC3:Hid (Z=if C=true then (⟨o1,o2,o3,o4,o5,o6,o7⟩,0) else (Ob.zero,20)):=LH (HC.out.trans (if_neg (by decide)))
  clear x0 x1 x2 x3 x4 x5 x6 f0 f1 f2 f3 f4 f5 f6 y1 y2 HC;have HW7:=LH (fun X B u (hN:OwnI X B u (sizesL ls))=>HWi.out X u (OwnN.numS hN))
  go_upto_region 4 with fail
  have hT0:Below w2.heap.size w2 w2.drew:=(Below.refl _ _).drew;have HCel:Hid (∀X,Below w2.heap.size w2 X→X.cell? ⟨w.heap.size,0,none⟩=some (.slice A ls.length q)∧X.cell? ⟨w.heap.size+1,1,none⟩=some (.int .i64 o2)∧X.cell? ⟨w.heap.size+1,2,none⟩=some (.int .i64 o3)):=LH (fun X hX=>⟨(HS2.out.on hX).cells.1,(HO2.out.on hX).cells.2.1,(HO2.out.on hX).cells.2.2.1⟩)
  obtain ⟨D,hD⟩:∃D,D= !C:=⟨_,rfl⟩
  go_cut [36] (fun x wx=>x= .bool D∧Below w2.heap.size w2 wx)
  case first =>
   go_region_held3 (fun w'=>w'.cell? ⟨w.heap.size,0,none⟩=some (.slice A ls.length q)∧w'.cell? ⟨w.heap.size+1,1,none⟩=some (.int .i64 o2)∧w'.cell? ⟨w.heap.size+1,2,none⟩=some (.int .i64 o3)) (first | exact HCel.out _ hT2 | exact HCel.out _ hT0) (first
    | (go_at_call 75;with_reducible refine (HZ.out _ (bseqS HB2.out hT0)).mono ?_;rintro e w6 ⟨u,rfl,hN6,hB6⟩;have hT2:=bseqS hT0 hB6)
    | (go_at_call 136;with_reducible refine (HW7.out _ _ _ hN6).mono ?_;rintro e w7 ⟨rfl,rfl⟩))
   all_goals go_wp2_with fail
   all_goals go_meet
   all_goals exact ⟨congrArg Value.bool hD.symm,hT2⟩
  case rest =>
   obtain ⟨rfl,hB6⟩:=hcut;have HR6:=LH (HR2.out.on hB6);have HO6:=LH (HO2.out.on hB6);have HB6:=LH (bseqS HB2.out hB6);clear hB6 hT0;obtain ⟨x0,x1,x2,x3,x4,x5,x6⟩:=HR6.out.cells;obtain ⟨f0,f1,f2,f3,f4,f5,f6⟩:=HR6.out.frozens;obtain ⟨y0,y1,y2,y3,y4,y5,y6⟩:=HO6.out.cells;unfold Ob.zero at x0 x1 x2 x3 x4 x5 x6;dsimp only at x0 x1 x2 x3 x4 x5 x6 y0 y1 y2 y3 y4 y5 y6;cases D with
   | false =>
    obtain rfl:C=true:=by simpa using hD
    clear hD;obtain rfl:Z=(⟨o1,o2,o3,o4,o5,o6,o7⟩,0):=HC3.out.trans (if_pos rfl);have HX:=LH (HR6.out.set7 o1 o2 o3 o4 o5 o6 o7);have HBX:=LH (below_set7 (g:=w.heap.size+2) HB6.out (by omega) (.int .i64 o1) (.int .i64 o2) (.int .i64 o3) (.int .i64 o4) (.int .i64 o5) (.int .i64 o6) (.int .i64 o7))
    go_wp2_with fail
    clear x0 x1 x2 x3 x4 x5 x6;obtain ⟨x0,x1,x2,x3,x4,x5,x6⟩:=HX.out.cells;dsimp only at x0 x1 x2 x3 x4 x5 x6;refine bodyPost_ret (v:= .tuple #[.agg (cellsO ⟨o1,o2,o3,o4,o5,o6,o7⟩),.int .i64 0]) ?_ rfl ⟨rfl,HBX.out⟩
    simp[results,Tryz.f111,go_sem,cellsO,x0,x1,x2,x3,x4,x5,x6]
   | true =>
    obtain rfl:C=false:=by simpa using hD
    clear hD;obtain rfl:Z=(Ob.zero,20):=HC3.out.trans (if_neg (by simp));have HX:=LH (HR6.out.set7 0 0 0 0 0 0 0);have HBX:=LH (below_set7 (g:=w.heap.size+2) HB6.out (by omega) (.int .i64 0) (.int .i64 0) (.int .i64 0) (.int .i64 0) (.int .i64 0) (.int .i64 0) (.int .i64 0))
    go_wp2_with fail
    clear x0 x1 x2 x3 x4 x5 x6;obtain ⟨x0,x1,x2,x3,x4,x5,x6⟩:=HX.out.cells;dsimp only at x0 x1 x2 x3 x4 x5 x6;refine bodyPost_ret (v:= .tuple #[.agg (cellsO Ob.zero),.int .i64 20]) ?_ rfl ⟨rfl,HBX.out⟩
    simp[results,Tryz.f111,go_sem,cellsO,Ob.zero,x0,x1,x2,x3,x4,x5,x6]
 ·obtain rfl:Z=(Ob.zero,23):=HC.out.trans (if_pos (by decide));have HX:=LH (HR2.out.set7 0 0 0 0 0 0 0);have HBX:=LH (below_set7 (g:=w.heap.size+2) HB2.out (by omega) (.int .i64 0) (.int .i64 0) (.int .i64 0) (.int .i64 0) (.int .i64 0) (.int .i64 0) (.int .i64 0))
  go_wp2_with fail
  clear x0 x1 x2 x3 x4 x5 x6;obtain ⟨x0,x1,x2,x3,x4,x5,x6⟩:=HX.out.cells;dsimp only at x0 x1 x2 x3 x4 x5 x6;refine bodyPost_ret (v:= .tuple #[.agg (cellsO Ob.zero),.int .i64 23]) ?_ rfl ⟨rfl,HBX.out⟩
  simp[results,Tryz.f111,go_sem,cellsO,Ob.zero,x0,x1,x2,x3,x4,x5,x6]
def wSP (w:World) (v:Value) (p:Pt):World:=((w.alloc (.cells #[v,.bool false,.slice none 0 0] 96)).alloc (.cells (cellsP p) 70)).alloc (.cells (cellsO Ob.zero) 129)
theorem boxes_sp (w:World) (v:Value) (p:Pt):S9Box (wSP w v p) w.heap.size v∧PZBox (wSP w v p) (w.heap.size+1) p∧OBox (wSP w v p) (w.heap.size+2) Ob.zero∧Below w.heap.size w (wSP w v p):=by
 have h1:Below w.heap.size w (w.alloc (.cells #[v,.bool false,.slice none 0 0] 96)):=(Below.refl _ _).alloc (Nat.le_refl _) _;obtain ⟨X,hX⟩:∃X,X=w.alloc (.cells #[v,.bool false,.slice none 0 0] 96):=⟨_,rfl⟩;have hs:X.heap.size=w.heap.size+1:=by rw[hX,World.size_alloc]
 have a1:S9Box X w.heap.size v:=by rw[hX];exact S9Box.new w v
 rw[←hX] at h1;have h2:Below X.heap.size X (X.alloc (.cells (cellsP p) 70)):=(Below.refl _ _).alloc (Nat.le_refl _) _;obtain ⟨Y,hY⟩:∃Y,Y=X.alloc (.cells (cellsP p) 70):=⟨_,rfl⟩;have hs2:Y.heap.size=w.heap.size+2:=by rw[hY,World.size_alloc,hs]
 have a2:PZBox Y (w.heap.size+1) p:=by rw[hY,←hs];exact PZBox.new X p
 rw[←hY] at h2;have h3:Below Y.heap.size Y (Y.alloc (.cells (cellsO Ob.zero) 129)):=(Below.refl _ _).alloc (Nat.le_refl _) _;unfold wSP;rw[←hX,←hY];exact ⟨(a1.on h2).on h3,a2.on h3,by rw[←hs2];exact OBox.new Y Ob.zero,bseqS (bseqS h1 h2) h3⟩
theorem S9Box.cell2 {w:World} {b:Nat} {v:Value} (h:S9Box w b v):w.cell? ⟨b,2,none⟩=some (.slice none 0 0):=by
 unfold S9Box at h
 simp[World.cell?,h]
theorem far_in {f:Pt} (hf:OkP f) (hk:f.kind=3):(0≤f.off∧f.off<536870912)∧(0≤f.seg∧f.seg<4294967296):=by
 rcases hf with e | ⟨e,_⟩ | ⟨e,_⟩ | ⟨_,h⟩
 ·rw[e] at hk;exact absurd hk (by decide)
 ·omega
 ·omega
 ·exact ⟨h.1,h.2.2.2.2.2⟩
theorem landed2_eq (s:Sr) (f:Pt):landed2 s f=if s.we f.seg f.off≠0 then (Ob.zero,s.we f.seg f.off) else if s.we f.seg (f.off+1)≠0 then (Ob.zero,s.we f.seg (f.off+1)) else if decE (s.wd f.seg f.off)≠0 then (Ob.zero,decE (s.wd f.seg f.off)) else if decE (s.wd f.seg (f.off+1))≠0 then (Ob.zero,decE (s.wd f.seg (f.off+1)))
   else if (decP (s.wd f.seg (f.off+1))).kind≠1∧(decP (s.wd f.seg (f.off+1))).kind≠2 then (Ob.zero,23) else if (decP (s.wd f.seg f.off)).kind≠3∨(decP (s.wd f.seg f.off)).dbl=true∨(decP (s.wd f.seg (f.off+1))).off≠0 then (Ob.zero,23) else (thingO (decP (s.wd f.seg (f.off+1))) (decP (s.wd f.seg f.off)).seg (decP (s.wd f.seg f.off)).off,0):=by
 unfold landed2 ptE2 ptS
 by_cases c1:s.we f.seg f.off=0 <;> by_cases c2:s.we f.seg (f.off+1)=0 <;> by_cases c3:decE (s.wd f.seg f.off)=0 <;> by_cases c4:decE (s.wd f.seg (f.off+1))=0 <;> simp[c1,c2,c3,c4]
set_option maxHeartbeats 4000000 in
theorem rsdouble_any (v:Value) (ls:List (List Int)) (f:Pt) (w:World) (h:ArV w w.heap.size v ls) (hlen:ls.length≤1000000000000) (hu:AllU ls) (hf:OkP f) (hk:f.kind=3) :
  Calls Tryz.prog 113 #[srcV v,.agg (cellsP f)] w (ObI (landed2 (srA ls) f) w):=by
 obtain ⟨hin1,hin2⟩:=far_in hf hk;have HWa:=LH (fun X (hX:Below w.heap.size w X)=>rsword_any v ls f.seg f.off X (h.on hX) hlen)
 have HWb:=LH (fun X (hX:Below w.heap.size w X)=>rsword_any v ls f.seg (f.off+1) X (h.on hX) hlen)
 have HDa:=LH (fun X=>rdec_any (wordA ls f.seg f.off) X (wordA_in hu _ _).1 (wordA_in hu _ _).2)
 have HDb:=LH (fun X=>rdec_any (wordA ls f.seg (f.off+1)) X (wordA_in hu _ _).1 (wordA_in hu _ _).2)
 have he:=fun g a=>show wordE7 ls g a=0∨wordE7 ls g a=20 by unfold wordE7;split <;> simp
 have hd:=fun g a=>show decE (wordA ls g a)=0∨decE (wordA ls g a)=23 by unfold decE;split <;> simp
 have hea:=he f.seg f.off;have heb:=he f.seg (f.off+1);have hda:=hd f.seg f.off;have hdb:=hd f.seg (f.off+1);have HC:Hid (landed2 (srA ls) f=if wordE7 ls f.seg f.off≠0 then (Ob.zero,wordE7 ls f.seg f.off) else if wordE7 ls f.seg (f.off+1)≠0 then (Ob.zero,wordE7 ls f.seg (f.off+1)) else if decE (wordA ls f.seg f.off)≠0 then (Ob.zero,decE (wordA ls f.seg f.off)) else if decE (wordA ls f.seg (f.off+1))≠0 then (Ob.zero,decE (wordA ls f.seg (f.off+1)))
   else if (decP (wordA ls f.seg (f.off+1))).kind≠1∧(decP (wordA ls f.seg (f.off+1))).kind≠2 then (Ob.zero,23) else if (decP (wordA ls f.seg f.off)).kind≠3∨(decP (wordA ls f.seg f.off)).dbl=true∨(decP (wordA ls f.seg (f.off+1))).off≠0 then (Ob.zero,23) else (thingO (decP (wordA ls f.seg (f.off+1))) (decP (wordA ls f.seg f.off)).seg (decP (wordA ls f.seg f.off)).off,0)):=LH (landed2_eq (srA ls) f)
 obtain ⟨Z,hZ⟩:∃Z,Z=landed2 (srA ls) f:=⟨_,rfl⟩;rw[←hZ] at HC ⊢;have hw1:IntKind.i64.wrap (f.off+1)=f.off+1:=IntWalk.i64_in _ (by omega);generalize wordE7 ls f.seg f.off=ea at *
 generalize wordE7 ls f.seg (f.off+1)=eb at *
 generalize wordA ls f.seg f.off=na at *
 generalize wordA ls f.seg (f.off+1)=nb at *
 generalize decE na=da at *
 generalize decE nb=db at *
 generalize decP na=p at *
 generalize decP nb=q at *
 obtain ⟨A,qc,rfl⟩:=h.form rfl;obtain ⟨b1,b2,b3,hB0⟩:=boxes_sp w (.slice A ls.length qc) f;obtain ⟨W1,hW1⟩:∃W1,W1=wSP w (.slice A ls.length qc) f:=⟨_,rfl⟩;rw[←hW1] at b1 b2 b3 hB0;have HS1:=LH b1;have HF1:=LH b2;have HR1:=LH b3;have HB1:=LH hB0;obtain ⟨z0,z1,z2,z3,z4,z5,z6,z7⟩:=b2.cells;obtain ⟨s0,s1⟩:=b1.cells;have s2:=b1.cell2;obtain ⟨k,o,d,r,z,c,g,b⟩:=f;dsimp only at z0 z1 z2 z3 z4 z5 z6 z7 hw1 HWa HWb hk;unfold wSP cellsP cellsO Ob.zero at hW1;dsimp only at hW1;unfold srcV at HWa HWb ⊢;unfold cellsP;dsimp only;clear hZ hk h hlen b1 b2 b3 hB0 hf hu he hd hin1 hin2;go_enter Tryz.func113,Tryz.ntmps113;go_upto_region 1 with fail
 rw[←hW1];clear hW1
 go_wp2_with fail
 refine (HWa.out _ HB1.out).mono ?_
 rintro e w2 ⟨rfl,hB2⟩;have HB2:=LH (bseqS HB1.out hB2);have HR2:=LH (HR1.out.on hB2);have HF2:=LH (HF1.out.on hB2);have HS2:=LH (HS1.out.on hB2);clear hB2 z0 z1 z2 z3 z4 z5 z6 z7 s0 s1 s2 HB1 HR1 HF1 HS1
 rcases hea with rfl | rfl
 ·obtain ⟨z0,z1,z2,z3,z4,z5,z6,z7⟩:=HF2.out.cells;obtain ⟨s0,s1⟩:=HS2.out.cells;have s2:=HS2.out.cell2;dsimp only at z0 z1 z2 z3 z4 z5 z6 z7
  go_wp2_with fail
  refine (HWb.out _ HB2.out).mono ?_
  rintro e w3 ⟨rfl,hB3⟩;have HB3:=LH (bseqS HB2.out hB3);have HR3:=LH (HR2.out.on hB3);clear hB3 z0 z1 z2 z3 z4 z5 z6 z7 s0 s1 s2 HB2 HR2 HF2 HS2
  rcases heb with rfl | rfl
  ·obtain ⟨pk,po,pd,pr,pz,pc,pg,pb⟩:=p;obtain ⟨qk,qo,qd,qr,qz,qc',qg,qb⟩:=q;have HN:=LH (fun X=>rsnear_any ⟨qk,qo,qd,qr,qz,qc',qg,qb⟩ X)
   have HT:=LH (fun X=>rsobj_any ⟨qk,qo,qd,qr,qz,qc',qg,qb⟩ pg po X)
   have HC2:Hid (Z=if da≠0 then (Ob.zero,da) else if db≠0 then (Ob.zero,db) else if qk≠1∧qk≠2 then (Ob.zero,23) else if pk≠3∨pb=true∨qo≠0 then (Ob.zero,23) else (thingO ⟨qk,qo,qd,qr,qz,qc',qg,qb⟩ pg po,0)):=LH ((HC.out.trans (if_neg (by decide))).trans (if_neg (by decide)))
   clear HC;generalize hTO:thingO ⟨qk,qo,qd,qr,qz,qc',qg,qb⟩ pg po=TO at *
   clear hTO;unfold cellsP at HDa HDb HN HT;dsimp only at HDa HDb HN HT
   go_wp2_with fail
   refine (HDa.out _).mono ?_
   rintro e w4 ⟨rfl,hB4⟩;have HB4a:=LH (bseqS HB3.out hB4);have HR4a:=LH (HR3.out.on hB4);have HR4:=LH (HR4a.out.on ((Below.refl w4.heap.size w4).alloc (Nat.le_refl _) (.cells (cellsP ⟨pk,po,pd,pr,pz,pc,pg,pb⟩) 70)));have HP4:=LH (PZBox.new w4 ⟨pk,po,pd,pr,pz,pc,pg,pb⟩);have HB4:Hid (Below w.heap.size w (w4.alloc (.cells (cellsP ⟨pk,po,pd,pr,pz,pc,pg,pb⟩) 70))):=LH (HB4a.out.alloc HB4a.out.size _);obtain ⟨W4,hW4⟩:∃W4,W4=w4.alloc (.cells (cellsP ⟨pk,po,pd,pr,pz,pc,pg,pb⟩) 70):=⟨_,rfl⟩;rw[←hW4] at HR4 HP4 HB4;unfold cellsP at hW4;dsimp only at hW4;clear hB4 HB4a HR4a HB3 HR3;go_upto_region 8 with fail
   rw[←hW4];clear hW4
   rcases hda with rfl | rfl
   ·go_wp2_with fail
    refine (HDb.out _).mono ?_
    rintro e w5 ⟨rfl,hB5⟩;have HB5a:=LH (bseqS HB4.out hB5);have hA5:Below w5.heap.size w5 (w5.alloc (.cells (cellsP ⟨qk,qo,qd,qr,qz,qc',qg,qb⟩) 70)):=(Below.refl _ _).alloc (Nat.le_refl _) _;have HR5:=LH ((HR4.out.on hB5).on hA5);have HP5:=LH ((HP4.out.on hB5).on hA5);have HQ5:=LH (PZBox.new w5 ⟨qk,qo,qd,qr,qz,qc',qg,qb⟩);have HB5:=LH (bseqS HB5a.out hA5);obtain ⟨W5,hW5⟩:∃W5,W5=w5.alloc (.cells (cellsP ⟨qk,qo,qd,qr,qz,qc',qg,qb⟩) 70):=⟨_,rfl⟩;rw[←hW5] at HR5 HP5 HQ5 HB5;unfold cellsP at hW5;dsimp only at hW5;clear hB5 hA5 HB5a HB4 HR4 HP4;go_upto_region 11 with fail
    rw[←hW5];clear hW5
    rcases hdb with rfl | rfl
    ·obtain ⟨z0,z1,z2,z3,z4,z5,z6,z7⟩:=HP5.out.cells;obtain ⟨y0,y1,y2,y3,y4,y5,y6,y7⟩:=HQ5.out.cells;dsimp only at z0 z1 z2 z3 z4 z5 z6 z7 y0 y1 y2 y3 y4 y5 y6 y7;have HC3:Hid (Z=if qk≠1∧qk≠2 then (Ob.zero,23) else if pk≠3∨pb=true∨qo≠0 then (Ob.zero,23) else (TO,0)):=LH ((HC2.out.trans (if_neg (by decide))).trans (if_neg (by decide)))
     clear HC2;go_upto_region 13 with fail
     have hT0:Below W5.heap.size W5 W5:=Below.refl _ _;obtain ⟨D,hD⟩:∃D,D=(decide (pk≠3) || pb || !decide (qk=1∨qk=2) || decide (qo≠0)):=⟨_,rfl⟩;have HZt:Hid (D=true→Z=(Ob.zero,23)):=LH (fun hx=>by
      rw[hD] at hx;rw[HC3.out]
      by_cases c1:qk≠1∧qk≠2
      ·rw[if_pos c1]
      ·rw[if_neg c1,if_pos];have:decide (qk=1∨qk=2)=true:=decide_eq_true (by omega);rw[this] at hx
       simpa [or_assoc] using hx)
     have HZf:Hid (D=false→Z=(TO,0)):=LH (fun hx=>by
      rw[hD] at hx;simp only[Bool.or_eq_false_iff,decide_eq_false_iff_not,Bool.not_eq_false',decide_eq_true_eq] at hx;obtain ⟨⟨⟨c1,c2⟩,c3⟩,c4⟩:=hx;rw[HC3.out,if_neg (by omega),if_neg];rw[c2]
      simp
      omega)
     have HCel:Hid (∀X,Below W5.heap.size W5 X→PZBox X w4.heap.size ⟨pk,po,pd,pr,pz,pc,pg,pb⟩∧PZBox X w5.heap.size ⟨qk,qo,qd,qr,qz,qc',qg,qb⟩):=LH (fun X hX=>⟨HP5.out.on hX,HQ5.out.on hX⟩)
     clear HC3
     go_cut [75] (fun x wx=>x= .bool D∧Below W5.heap.size W5 wx)
     case first =>
      clear HZt HZf
      by_cases k3:pk=3
      ·subst k3;cases pb with
       | true =>
        go_wp2_with fail
        go_meet;exact ⟨congrArg Value.bool (by rw[hD];simp),hT0⟩
       | false =>
        by_cases kn:qk=1∨qk=2
        ·rw[decide_eq_true kn] at HN hD
         by_cases k0:qo=0
         ·subst k0
          go_wp2_with fail
          refine (HN.out _).mono ?_
          rintro e w6 ⟨rfl,hB6⟩;obtain ⟨y0,y1,y2,y3,y4,y5,y6,y7⟩:=(HCel.out _ hB6).2.cells;dsimp only at y0 y1 y2 y3 y4 y5 y6 y7
          go_wp2_with fail
          go_meet;exact ⟨congrArg Value.bool (by rw[hD];simp),hB6⟩
         ·have d0:(qo != 0)=true:=by simpa using k0
          go_wp2_with fail
          refine (HN.out _).mono ?_
          rintro e w6 ⟨rfl,hB6⟩;obtain ⟨y0,y1,y2,y3,y4,y5,y6,y7⟩:=(HCel.out _ hB6).2.cells;dsimp only at y0 y1 y2 y3 y4 y5 y6 y7
          go_wp2_with fail
          go_meet;exact ⟨congrArg Value.bool (by rw[hD];simp[k0]),hB6⟩
        ·rw[decide_eq_false kn] at HN hD
         go_wp2_with fail
         refine (HN.out _).mono ?_
         rintro e w6 ⟨rfl,hB6⟩
         go_wp2_with fail
         go_meet;exact ⟨congrArg Value.bool (by rw[hD];simp),hB6⟩
      ·have d3:(pk != 3)=true:=by simpa using k3
       go_wp2_with fail
       go_meet;exact ⟨congrArg Value.bool (by rw[hD];simp[k3]),hT0⟩
     case rest =>
      obtain ⟨rfl,hB6⟩:=hcut;have HR6:=LH (HR5.out.on hB6);have HP6:=LH (HP5.out.on hB6);have HQ6:=LH (HQ5.out.on hB6);have HB6:=LH (bseqS HB5.out hB6);clear hB6 hT0 z0 z1 z2 z3 z4 z5 z6 z7 y0 y1 y2 y3 y4 y5 y6 y7 hD HCel HB5 HR5 HP5 HQ5;cases D with
      | true =>
       obtain rfl:Z=(Ob.zero,23):=HZt.out rfl;obtain ⟨x0,x1,x2,x3,x4,x5,x6⟩:=HR6.out.cells;obtain ⟨f0,f1,f2,f3,f4,f5,f6⟩:=HR6.out.frozens;unfold Ob.zero at x0 x1 x2 x3 x4 x5 x6;dsimp only at x0 x1 x2 x3 x4 x5 x6;have HX:=LH (HR6.out.set7 0 0 0 0 0 0 0);have HBX:=LH (below_set7 (g:=w.heap.size+2) HB6.out (by omega) (.int .i64 0) (.int .i64 0) (.int .i64 0) (.int .i64 0) (.int .i64 0) (.int .i64 0) (.int .i64 0))
       go_wp2_with fail
       clear x0 x1 x2 x3 x4 x5 x6;obtain ⟨x0,x1,x2,x3,x4,x5,x6⟩:=HX.out.cells;dsimp only at x0 x1 x2 x3 x4 x5 x6;refine bodyPost_ret (v:= .tuple #[.agg (cellsO Ob.zero),.int .i64 23]) ?_ rfl ⟨rfl,HBX.out⟩
       simp[results,Tryz.f113,go_sem,cellsO,Ob.zero,x0,x1,x2,x3,x4,x5,x6]
      | false =>
       obtain rfl:Z=(TO,0):=HZf.out rfl;obtain ⟨z0,z1,z2,z3,z4,z5,z6,z7⟩:=HP6.out.cells;obtain ⟨y0,y1,y2,y3,y4,y5,y6,y7⟩:=HQ6.out.cells;dsimp only at z0 z1 z2 z3 z4 z5 z6 z7 y0 y1 y2 y3 y4 y5 y6 y7;obtain ⟨o1,o2,o3,o4,o5,o6,o7⟩:=TO;unfold cellsO at HT;dsimp only at HT;clear HZt HZf
       go_wp2_with fail
       refine (HT.out _).mono ?_
       rintro e w7 ⟨rfl,hB7⟩;have HR7:=LH (HR6.out.on hB7);have HB7:=LH (bseqS HB6.out hB7);clear hB7 z0 z1 z2 z3 z4 z5 z6 z7 y0 y1 y2 y3 y4 y5 y6 y7;obtain ⟨x0,x1,x2,x3,x4,x5,x6⟩:=HR7.out.cells;obtain ⟨f0,f1,f2,f3,f4,f5,f6⟩:=HR7.out.frozens;unfold Ob.zero at x0 x1 x2 x3 x4 x5 x6;dsimp only at x0 x1 x2 x3 x4 x5 x6;have HX:=LH (HR7.out.set7 o1 o2 o3 o4 o5 o6 o7);have HBX:=LH (below_set7 (g:=w.heap.size+2) HB7.out (by omega) (.int .i64 o1) (.int .i64 o2) (.int .i64 o3) (.int .i64 o4) (.int .i64 o5) (.int .i64 o6) (.int .i64 o7))
       go_wp2_with fail
       clear x0 x1 x2 x3 x4 x5 x6;obtain ⟨x0,x1,x2,x3,x4,x5,x6⟩:=HX.out.cells;dsimp only at x0 x1 x2 x3 x4 x5 x6;refine bodyPost_ret (v:= .tuple #[.agg (cellsO ⟨o1,o2,o3,o4,o5,o6,o7⟩),.int .i64 0]) ?_ rfl ⟨rfl,HBX.out⟩
       simp[results,Tryz.f113,go_sem,cellsO,x0,x1,x2,x3,x4,x5,x6]
    ·obtain rfl:Z=(Ob.zero,23):=(HC2.out.trans (if_neg (by decide))).trans (if_pos (by decide));obtain ⟨x0,x1,x2,x3,x4,x5,x6⟩:=HR5.out.cells;obtain ⟨f0,f1,f2,f3,f4,f5,f6⟩:=HR5.out.frozens;unfold Ob.zero at x0 x1 x2 x3 x4 x5 x6;dsimp only at x0 x1 x2 x3 x4 x5 x6;have HX:=LH (HR5.out.set7 0 0 0 0 0 0 0);have HBX:=LH (below_set7 (g:=w.heap.size+2) HB5.out (by omega) (.int .i64 0) (.int .i64 0) (.int .i64 0) (.int .i64 0) (.int .i64 0) (.int .i64 0) (.int .i64 0))
     go_wp2_with fail
     clear x0 x1 x2 x3 x4 x5 x6;obtain ⟨x0,x1,x2,x3,x4,x5,x6⟩:=HX.out.cells;dsimp only at x0 x1 x2 x3 x4 x5 x6;refine bodyPost_ret (v:= .tuple #[.agg (cellsO Ob.zero),.int .i64 23]) ?_ rfl ⟨rfl,HBX.out⟩
     simp[results,Tryz.f113,go_sem,cellsO,Ob.zero,x0,x1,x2,x3,x4,x5,x6]
   ·obtain rfl:Z=(Ob.zero,23):=HC2.out.trans (if_pos (by decide));obtain ⟨x0,x1,x2,x3,x4,x5,x6⟩:=HR4.out.cells;obtain ⟨f0,f1,f2,f3,f4,f5,f6⟩:=HR4.out.frozens;unfold Ob.zero at x0 x1 x2 x3 x4 x5 x6;dsimp only at x0 x1 x2 x3 x4 x5 x6;have HX:=LH (HR4.out.set7 0 0 0 0 0 0 0);have HBX:=LH (below_set7 (g:=w.heap.size+2) HB4.out (by omega) (.int .i64 0) (.int .i64 0) (.int .i64 0) (.int .i64 0) (.int .i64 0) (.int .i64 0) (.int .i64 0))
    go_wp2_with fail
    clear x0 x1 x2 x3 x4 x5 x6;obtain ⟨x0,x1,x2,x3,x4,x5,x6⟩:=HX.out.cells;dsimp only at x0 x1 x2 x3 x4 x5 x6;refine bodyPost_ret (v:= .tuple #[.agg (cellsO Ob.zero),.int .i64 23]) ?_ rfl ⟨rfl,HBX.out⟩
    simp[results,Tryz.f113,go_sem,cellsO,Ob.zero,x0,x1,x2,x3,x4,x5,x6]
  ·obtain rfl:Z=(Ob.zero,20):=(HC.out.trans (if_neg (by decide))).trans (if_pos (by decide));obtain ⟨x0,x1,x2,x3,x4,x5,x6⟩:=HR3.out.cells;obtain ⟨f0,f1,f2,f3,f4,f5,f6⟩:=HR3.out.frozens;unfold Ob.zero at x0 x1 x2 x3 x4 x5 x6;dsimp only at x0 x1 x2 x3 x4 x5 x6;have HX:=LH (HR3.out.set7 0 0 0 0 0 0 0);have HBX:=LH (below_set7 (g:=w.heap.size+2) HB3.out (by omega) (.int .i64 0) (.int .i64 0) (.int .i64 0) (.int .i64 0) (.int .i64 0) (.int .i64 0) (.int .i64 0))
   go_wp2_with fail
   clear x0 x1 x2 x3 x4 x5 x6;obtain ⟨x0,x1,x2,x3,x4,x5,x6⟩:=HX.out.cells;dsimp only at x0 x1 x2 x3 x4 x5 x6;refine bodyPost_ret (v:= .tuple #[.agg (cellsO Ob.zero),.int .i64 20]) ?_ rfl ⟨rfl,HBX.out⟩
   simp[results,Tryz.f113,go_sem,cellsO,Ob.zero,x0,x1,x2,x3,x4,x5,x6]
 ·obtain rfl:Z=(Ob.zero,20):=HC.out.trans (if_pos (by decide));obtain ⟨x0,x1,x2,x3,x4,x5,x6⟩:=HR2.out.cells;obtain ⟨f0,f1,f2,f3,f4,f5,f6⟩:=HR2.out.frozens;unfold Ob.zero at x0 x1 x2 x3 x4 x5 x6;dsimp only at x0 x1 x2 x3 x4 x5 x6;have HX:=LH (HR2.out.set7 0 0 0 0 0 0 0);have HBX:=LH (below_set7 (g:=w.heap.size+2) HB2.out (by omega) (.int .i64 0) (.int .i64 0) (.int .i64 0) (.int .i64 0) (.int .i64 0) (.int .i64 0) (.int .i64 0))
  go_wp2_with fail
  clear x0 x1 x2 x3 x4 x5 x6;obtain ⟨x0,x1,x2,x3,x4,x5,x6⟩:=HX.out.cells;dsimp only at x0 x1 x2 x3 x4 x5 x6;refine bodyPost_ret (v:= .tuple #[.agg (cellsO Ob.zero),.int .i64 20]) ?_ rfl ⟨rfl,HBX.out⟩
  simp[results,Tryz.f113,go_sem,cellsO,Ob.zero,x0,x1,x2,x3,x4,x5,x6]
set_option maxHeartbeats 1000000 in
theorem rswords_any (o:Ob) (w:World) (hq:OkQ (ptrO o)) (hk:o.kind≠3) :
  Calls Tryz.prog 77 #[.agg (cellsO o)] w fun e w'=>e= .returned (.int .i64 (wordsO o))∧Below w.heap.size w w':=by
 have HP:=LH (fun X=>rwords_q (ptrO o) X hq)
 have HB:∀cs,Below w.heap.size w (w.alloc (.cells cs 129)):=fun cs=>(Below.refl _ _).alloc (Nat.le_refl _) _
 obtain ⟨k,g,a,d,p,z,c⟩:=o;have hk3:(k == 3)=false:=by simpa using hk
 have hk4:¬k=3:=hk;unfold ptrO cellsP at HP;unfold wordsO ptrO cellsO;dsimp only at HP ⊢;have HB2:=LH (HB #[.int .i64 k,.int .i64 g,.int .i64 a,.int .i64 d,.int .i64 p,.int .i64 z,.int .i64 c]);clear hk hq HB;go_enter Tryz.func77,Tryz.ntmps77
 go_wp2_with fail
 refine (HP.out _).mono ?_
 rintro e w2 ⟨rfl,hB2⟩;have HB3:=LH (HB2.out.trans (hB2.mono HB2.out.size));clear hB2
 go_wp2_with fail
 go_ret;exact ⟨rfl,HB3.out⟩
theorem follow_err {s:Sr} {g a:Int} (h:ptE s g a≠0):followO s g a=(Ob.zero,ptE s g a):=by
 unfold followO targetO checkO;rw[if_pos h,if_pos (.inl h)]
theorem follow_nil {s:Sr} {g a:Int} (h:ptE s g a=0) (hk:(ptS s g a).kind=0):followO s g a=(Ob.zero,0):=by
 unfold followO targetO checkO;rw[h,if_neg (show ¬(0:Int)≠0 by decide),if_pos hk]
 rfl
theorem boxesFo (w:World) (v:Value):∀W,W=(w.alloc (.cells #[v,.bool false,.slice none 0 0] 96)).alloc (.cells (cellsO Ob.zero) 129)→S9Box W w.heap.size v∧OBox W (w.heap.size+1) Ob.zero∧Below w.heap.size w W:=by
 rintro W rfl;have hs:(w.alloc (.cells #[v,.bool false,.slice none 0 0] 96)).heap.size=w.heap.size+1:=World.size_alloc _ _;refine ⟨(S9Box.new w v).on ((Below.refl _ _).alloc (Nat.le_refl _) _),?_,((Below.refl _ _).alloc (Nat.le_refl _) _).alloc (by simp) _⟩;rw[←hs];exact OBox.new _ _
set_option maxHeartbeats 4000000 in
theorem rsfollow_none (v:Value) (ls:List (List Int)) (g a:Int) (w:World) (h:ArV w w.heap.size v ls) (hlen:ls.length≤1000000000000) (hu:AllU ls) (hn:ptE (srA ls) g a≠0∨(ptZ ls g a).kind=0) :
  Calls Tryz.prog 76 #[srcV v,.int .i64 g,.int .i64 a] w (ObI (Ob.zero,ptE (srA ls) g a) w):=by
 have HP:=LH (fun X (hX:Below w.heap.size w X)=>rsptr_any v ls g a X (h.on hX) hlen hu)
 obtain ⟨A,qc,rfl⟩:=h.form rfl;obtain ⟨W1,hW1⟩:∃W1,W1=(w.alloc (.cells #[.slice A ls.length qc,.bool false,.slice none 0 0] 96)).alloc (.cells (cellsO Ob.zero) 129):=⟨_,rfl⟩;obtain ⟨b1,b2,hB1⟩:=boxesFo w _ W1 hW1;have HO1:=LH b2;have HB1:=LH hB1;obtain ⟨s0,s1⟩:=b1.cells;have s2:=b1.cell2;generalize ptE (srA ls) g a=E at *
 generalize ptZ ls g a=p at *
 obtain ⟨k,o,d,r,z,c,sg,db⟩:=p;dsimp only at hn;unfold srcV cellsP at HP;dsimp only at HP;unfold srcV;unfold cellsO Ob.zero at hW1;dsimp only at hW1;generalize ls.length=n at *
 clear h hlen hu b1 b2 hB1;have HN:=LH hn;have hq:(E != 0 || k == 0)=true:=by
  rcases hn with h | h
  ·simp[h]
  ·simp[h]
 go_enter Tryz.func76,Tryz.ntmps76;go_upto_region 1 with fail
 rw[←hW1];clear hW1
 go_wp2_with fail
 refine (HP.out _ HB1.out).mono ?_
 rintro e w2 ⟨rfl,hB2⟩;obtain ⟨w3,hw3⟩:∃w3,w3=w2.alloc (.cells #[.int .i64 k,.int .i64 o,.int .i64 d,.int .i64 r,.int .i64 z,.int .i64 c,.int .i64 sg,.bool db] 70):=⟨_,rfl⟩;have hB3:Below w2.heap.size w2 w3:=by rw[hw3];exact (Below.refl _ _).alloc (Nat.le_refl _) _
 have HQ3:Hid (w3.cell? ⟨w2.heap.size,0,none⟩=some (.int .i64 k)):=LH (by
  have hb:w3.heap[w2.heap.size]? = some (.cells #[.int .i64 k,.int .i64 o,.int .i64 d,.int .i64 r,.int .i64 z,.int .i64 c,.int .i64 sg,.bool db] 70 (0,0)):=by rw[hw3];exact blk_alloc_new _ _
  unfold World.cell?;dsimp only;rw[hb]
  rfl)
 have HO3:=LH (HO1.out.on (bseqS hB2 hB3));have HB3:=LH (HB1.out.trans ((bseqS hB2 hB3).mono HB1.out.size));clear hB2 hB3 s0 s1 s2 hn;go_upto_region 2 with fail
 rw[←hw3];clear hw3;have q0:=HQ3.out;obtain ⟨x0,x1,x2,x3,x4,x5,x6⟩:=HO3.out.cells;obtain ⟨y0,y1,y2,y3,y4,y5,y6⟩:=HO3.out.frozens;have HX:=LH (HO3.out.set7 0 0 0 0 0 0 0);have HBX:=LH (below_set7 HB3.out (g:=w.heap.size+1) (Nat.le_succ _) (.int .i64 0) (.int .i64 0) (.int .i64 0) (.int .i64 0) (.int .i64 0) (.int .i64 0) (.int .i64 0))
 by_cases hE:E=0
 ·subst hE;obtain rfl:k=0:=HN.out.elim (fun h=>absurd rfl h) id
  go_wp2_with fail
  clear x0 x1 x2 x3 x4 x5 x6;obtain ⟨x0,x1,x2,x3,x4,x5,x6⟩:=HX.out.cells;dsimp only at x0 x1 x2 x3 x4 x5 x6;refine bodyPost_ret (v:= .tuple #[.agg (cellsO Ob.zero),.int .i64 0]) ?_ rfl ⟨rfl,HBX.out⟩
  simp[results,Tryz.f76,go_sem,cellsO,Ob.zero,x0,x1,x2,x3,x4,x5,x6]
 ·have hE1:(E != 0)=true:=by simp[hE]
  go_wp2_with fail
  clear x0 x1 x2 x3 x4 x5 x6;obtain ⟨x0,x1,x2,x3,x4,x5,x6⟩:=HX.out.cells;dsimp only at x0 x1 x2 x3 x4 x5 x6;refine bodyPost_ret (v:= .tuple #[.agg (cellsO Ob.zero),.int .i64 E]) ?_ rfl ⟨rfl,HBX.out⟩
  simp[results,Tryz.f76,go_sem,cellsO,Ob.zero,x0,x1,x2,x3,x4,x5,x6]
set_option maxHeartbeats 4000000 in
theorem rsfollow_double (v:Value) (ls:List (List Int)) (g a:Int) (w:World) (h:ArV w w.heap.size v ls) (hlen:ls.length≤1000000000000) (hu:AllU ls) (hE:ptE (srA ls) g a=0) (hf:OkP (ptZ ls g a)) (hk:(ptZ ls g a).kind=3) (hd:(ptZ ls g a).dbl=true)
  (hT:(landed2 (srA ls) (ptZ ls g a)).2=0→OkQ (ptrO (landed2 (srA ls) (ptZ ls g a)).1)∧(landed2 (srA ls) (ptZ ls g a)).1.kind≠0) :
  Calls Tryz.prog 76 #[srcV v,.int .i64 g,.int .i64 a] w (ObI (checkO (srA ls) (landed2 (srA ls) (ptZ ls g a))) w):=by
 have HP:=LH (fun X (hX:Below w.heap.size w X)=>rsptr_any v ls g a X (h.on hX) hlen hu)
 rw[hE] at HP;have HD:=LH (fun X (hX:Below w.heap.size w X)=>rsdouble_any v ls (ptZ ls g a) X (h.on hX) hlen hu hf hk)
 have HN:=LH (fun X=>rsnear_any (ptZ ls g a) X)
 rw[show decide ((ptZ ls g a).kind=1∨(ptZ ls g a).kind=2)=false by rw[hk];decide] at HN
 have HBo:=LH (fun (o:Ob) X (hX:Below w.heap.size w X) (hq:OkQ (ptrO o)) (hk:o.kind≠0)=>rsbounds_any v ls o X (h.on hX) hlen hq hk)
 have HCk:Hid (∀o e,e≠0→checkO (srA ls) (o,e)=(Ob.zero,e)):=LH (fun o e he=>by unfold checkO;rw[if_pos (.inl he)])
 have HTt:=LH hT;obtain ⟨A,qc,rfl⟩:=h.form rfl;obtain ⟨W1,hW1⟩:∃W1,W1=(w.alloc (.cells #[.slice A ls.length qc,.bool false,.slice none 0 0] 96)).alloc (.cells (cellsO Ob.zero) 129):=⟨_,rfl⟩;obtain ⟨b1,b2,hB1⟩:=boxesFo w _ W1 hW1;have HO1:=LH b2;have HS1:=LH b1;have HB1:=LH hB1;obtain ⟨s0,s1⟩:=b1.cells;have s2:=b1.cell2;generalize landed2 (srA ls) (ptZ ls g a)=T at *
 generalize ptZ ls g a=p at *
 generalize srA ls=sr at *
 obtain ⟨k,o,d,r,z,c,sg,db⟩:=p;dsimp only at hk hd;subst hk hd;unfold srcV cellsP at HP HD;unfold srcV at HBo;unfold cellsP at HN;dsimp only at HP HD HN;unfold srcV;unfold cellsO Ob.zero at hW1;dsimp only at hW1;generalize ls.length=n at *
 clear h hlen hu b1 b2 hB1 hT hf hE;go_enter Tryz.func76,Tryz.ntmps76;go_upto_region 1 with fail
 rw[←hW1];clear hW1
 go_wp2_with fail
 refine (HP.out _ HB1.out).mono ?_
 rintro e w2 ⟨rfl,hB2⟩;obtain ⟨w3,hw3⟩:∃w3,w3=w2.alloc (.cells #[.int .i64 3,.int .i64 o,.int .i64 d,.int .i64 r,.int .i64 z,.int .i64 c,.int .i64 sg,.bool true] 70):=⟨_,rfl⟩;have hB3:Below w2.heap.size w2 w3:=by rw[hw3];exact (Below.refl _ _).alloc (Nat.le_refl _) _
 have HQ3:Hid (PZBox w3 w2.heap.size ⟨3,o,d,r,z,c,sg,true⟩):=LH (by rw[hw3];exact PZBox.new w2 ⟨3,o,d,r,z,c,sg,true⟩);have HO3:=LH (HO1.out.on (bseqS hB2 hB3));have HS3:=LH (HS1.out.on (bseqS hB2 hB3));have HB3:=LH (HB1.out.trans ((bseqS hB2 hB3).mono HB1.out.size));clear hB2 hB3 s0 s1 s2;go_upto_region 2 with fail
 rw[←hw3];clear hw3;obtain ⟨z0,z1,z2,z3,z4,z5,z6,z7⟩:=HQ3.out.cells;dsimp only at z0 z1 z2 z3 z4 z5 z6 z7
 go_wp2_with fail
 refine (HN.out _).mono ?_
 rintro e w4 ⟨rfl,hB4⟩;have HB4:=LH (bseqS HB3.out hB4);have HO4:=LH (HO3.out.on hB4);have HS4:=LH (HS3.out.on hB4);have hz:=(HQ3.out.on hB4).cells;clear hB4 z0 z1 z2 z3 z4 z5 z6 z7;obtain ⟨z0,z1,z2,z3,z4,z5,z6,z7⟩:=hz;dsimp only at z0 z1 z2 z3 z4 z5 z6 z7;obtain ⟨s0,s1⟩:=HS4.out.cells;have s2:=HS4.out.cell2
 go_wp2_with fail
 refine (HD.out _ HB4.out).mono ?_
 unfold ObI;rintro e w5 ⟨rfl,hB5⟩;obtain ⟨⟨o1,o2,o3,o4,o5,o6,o7⟩,E⟩:=T;unfold cellsO;dsimp only;obtain ⟨w6,hw6⟩:∃w6,w6=w5.alloc (.cells #[.int .i64 o1,.int .i64 o2,.int .i64 o3,.int .i64 o4,.int .i64 o5,.int .i64 o6,.int .i64 o7] 129):=⟨_,rfl⟩;have hB6:Below w5.heap.size w5 w6:=by rw[hw6];exact (Below.refl _ _).alloc (Nat.le_refl _) _
 have HU6:Hid (OBox w6 w5.heap.size ⟨o1,o2,o3,o4,o5,o6,o7⟩):=LH (by rw[hw6];exact OBox.new w5 ⟨o1,o2,o3,o4,o5,o6,o7⟩);have HO6:=LH (HO4.out.on (bseqS hB5 hB6));have HS6:=LH (HS4.out.on (bseqS hB5 hB6));have HB6:=LH (HB4.out.trans ((bseqS hB5 hB6).mono HB4.out.size));clear hB5 hB6 s0 s1 s2 z0 z1 z2 z3 z4 z5 z6 z7;go_upto_region 9 with fail
 rw[←hw6];clear hw6
 by_cases hE:E=0
 ·subst hE;obtain ⟨hq,hk⟩:=HTt.out rfl;have hC:=HBo.out ⟨o1,o2,o3,o4,o5,o6,o7⟩ w6 HB6.out hq hk;unfold cellsO at hC;dsimp only at hC;have HC:=LH hC;obtain ⟨s0,s1⟩:=HS6.out.cells;have s2:=HS6.out.cell2;obtain ⟨u0,u1,u2,u3,u4,u5,u6⟩:=HU6.out.cells;dsimp only at u0 u1 u2 u3 u4 u5 u6;clear hC hq hk
  go_wp2_with fail
  refine HC.out.mono ?_
  unfold ObI;rintro e w7 ⟨rfl,hB7⟩;generalize checkO sr (⟨o1,o2,o3,o4,o5,o6,o7⟩,0)=R at *
  obtain ⟨⟨r1,r2,r3,r4,r5,r6,r7⟩,F⟩:=R;unfold cellsO;dsimp only;obtain ⟨w8,hw8⟩:∃w8,w8=w7.alloc (.cells #[.int .i64 r1,.int .i64 r2,.int .i64 r3,.int .i64 r4,.int .i64 r5,.int .i64 r6,.int .i64 r7] 129):=⟨_,rfl⟩;have hB8:Below w7.heap.size w7 w8:=by rw[hw8];exact (Below.refl _ _).alloc (Nat.le_refl _) _
  have HU8:Hid (OBox w8 w7.heap.size ⟨r1,r2,r3,r4,r5,r6,r7⟩):=LH (by rw[hw8];exact OBox.new w7 ⟨r1,r2,r3,r4,r5,r6,r7⟩);have HO8:=LH (HO6.out.on (bseqS hB7 hB8));have HB8:=LH (HB6.out.trans ((bseqS hB7 hB8).mono HB6.out.size));clear hB7 hB8 s0 s1 s2 u0 u1 u2 u3 u4 u5 u6;go_upto_region 12 with fail
  rw[←hw8];clear hw8;obtain ⟨u0,u1,u2,u3,u4,u5,u6⟩:=HU8.out.cells;dsimp only at u0 u1 u2 u3 u4 u5 u6;obtain ⟨x0,x1,x2,x3,x4,x5,x6⟩:=HO8.out.cells;obtain ⟨y0,y1,y2,y3,y4,y5,y6⟩:=HO8.out.frozens;have HX:=LH (HO8.out.set7 r1 r2 r3 r4 r5 r6 r7);have HBX:=LH (below_set7 HB8.out (g:=w.heap.size+1) (Nat.le_succ _) (.int .i64 r1) (.int .i64 r2) (.int .i64 r3) (.int .i64 r4) (.int .i64 r5) (.int .i64 r6) (.int .i64 r7))
  go_wp2_with fail
  clear x0 x1 x2 x3 x4 x5 x6;obtain ⟨x0,x1,x2,x3,x4,x5,x6⟩:=HX.out.cells;dsimp only at x0 x1 x2 x3 x4 x5 x6;refine bodyPost_ret (v:= .tuple #[.agg (cellsO ⟨r1,r2,r3,r4,r5,r6,r7⟩),.int .i64 F]) ?_ rfl ⟨rfl,HBX.out⟩
  simp[results,Tryz.f76,go_sem,cellsO,x0,x1,x2,x3,x4,x5,x6]
 ·have hE1:(E != 0)=true:=by simp[hE]
  have HCe:=HCk.out ⟨o1,o2,o3,o4,o5,o6,o7⟩ E hE;generalize checkO sr (⟨o1,o2,o3,o4,o5,o6,o7⟩,E)=R at *
  obtain ⟨⟨r1,r2,r3,r4,r5,r6,r7⟩,F⟩:=R;unfold Ob.zero at HCe;simp only[Prod.mk.injEq,Ob.mk.injEq] at HCe;obtain ⟨⟨rfl,rfl,rfl,rfl,rfl,rfl,rfl⟩,rfl⟩:=HCe;obtain ⟨x0,x1,x2,x3,x4,x5,x6⟩:=HO6.out.cells;obtain ⟨y0,y1,y2,y3,y4,y5,y6⟩:=HO6.out.frozens;have HX:=LH (HO6.out.set7 0 0 0 0 0 0 0);have HBX:=LH (below_set7 HB6.out (g:=w.heap.size+1) (Nat.le_succ _) (.int .i64 0) (.int .i64 0) (.int .i64 0) (.int .i64 0) (.int .i64 0) (.int .i64 0) (.int .i64 0))
  go_wp2_with fail
  clear x0 x1 x2 x3 x4 x5 x6;obtain ⟨x0,x1,x2,x3,x4,x5,x6⟩:=HX.out.cells;dsimp only at x0 x1 x2 x3 x4 x5 x6;refine bodyPost_ret (v:= .tuple #[.agg (cellsO ⟨0,0,0,0,0,0,0⟩),.int .i64 F]) ?_ rfl ⟨rfl,HBX.out⟩
  simp[results,Tryz.f76,go_sem,cellsO,x0,x1,x2,x3,x4,x5,x6]
end Go.Proofs.YtmmlfnblodfjbaaGreatDoor
