/- Layer 9, the landed package: an arena as a source: its methods; word and sizes, whose deferred closures find nothing to recover. -/
import Derived.Test.YtmmlfnblodfjbaaGreatDoorQRdA
import Derived.Test.YtmmlfnblodfjbaaGreatDoorQRdPlain
import Derived.Defers
import Derived.Recover
import Derived.StillTailTactics
import Derived.WalkMore
set_option maxRecDepth 100000
namespace Go.Proofs.YtmmlfnblodfjbaaGreatDoor
open Go.RowKit Go.Deep
def Bx (w:World) (b t:Nat) (v:Value):Prop:=w.heap[b]? = some (.cells #[v] t (0,0))
theorem Bx.lt {w:World} {b t:Nat} {v:Value} (h:Bx w b t v):b<w.heap.size:=(Array.getElem?_eq_some_iff.1 h).1
theorem Bx.on {w w':World} {b t:Nat} {v:Value} (h:Bx w b t v) (hB:Below w.heap.size w w'):Bx w' b t v:=(hB.block b h.lt).trans h
theorem Bx.cell {w:World} {b t:Nat} {v:Value} (h:Bx w b t v):w.cell? ⟨b,0,none⟩=some v∧w.frozen? ⟨b,0,none⟩=false:=by
 unfold Bx at h
 simp[World.cell?,World.frozen?,h]
theorem Bx.set {w:World} {b t:Nat} {v:Value} (h:Bx w b t v) (y:Value):Bx (w.setCell ⟨b,0,none⟩ y) b t y:=by
 have:=heap_setCell_same _ b 0 _ _ y h;unfold Bx;rw[this]
 simp
theorem Bx.other {w:World} {g b t:Nat} {x:Value} (h:Bx w g t x) (hne:g≠b) (j:Nat) (v:Value):Bx (w.setCell ⟨b,j,none⟩ v) g t x:=(blk_setCell_other _ _ _ _ hne).trans h
def WhBox (w:World) (b:Nat) (v:Value):Prop:=w.heap[b]? = some (.cells #[v] 124 (0,0))
theorem WhBox.lt {w:World} {b:Nat} {v:Value} (h:WhBox w b v):b<w.heap.size:=(Array.getElem?_eq_some_iff.1 h).1
theorem WhBox.on {w w':World} {b:Nat} {v:Value} (h:WhBox w b v) (hB:Below w.heap.size w w'):WhBox w' b v:=(hB.block b h.lt).trans h
theorem WhBox.cell {w:World} {b:Nat} {v:Value} (h:WhBox w b v):w.cell? ⟨b,0,none⟩=some v:=by
 unfold WhBox at h
 simp[World.cell?,h]
theorem meth_sizes (a:Nat) (W:World):Sem.run Tryz.prog (method (Tryz.prog.types.size+100) 122 (.pointer (some ⟨a,0,none⟩)) "Sizes") W= .ok (200,.pointer (some ⟨a,0,none⟩)) W:=by
 rw[Tryz.types_size];kernel_rfl
theorem meth_word (a:Nat) (W:World):Sem.run Tryz.prog (method (Tryz.prog.types.size+100) 122 (.pointer (some ⟨a,0,none⟩)) "Word") W= .ok (201,.pointer (some ⟨a,0,none⟩)) W:=by
 rw[Tryz.types_size];kernel_rfl
set_option maxHeartbeats 400000 in
theorem wsizes_any (b:Nat) (v:Value) (ls:List (List Int)) (w:World) (hb:WhBox w b v) (h:ArV w w.heap.size v ls) (hs:ls.length≤1000000000) :
  Calls Tryz.prog 200 #[.pointer (some ⟨b,0,none⟩)] w fun e w'=>∃u,e= .returned u∧OwnI w' w.heap.size u (sizesL ls)∧Below w.heap.size w w':=by
 have HS:=LH (asizes_anyL v ls w h hs);have hc:=hb.cell;obtain ⟨A,c,rfl,-⟩:=h;generalize ls.length=n at *
 clear hb hs;go_enter Tryz.func200,Tryz.ntmps200
 go_wp2_with fail
 refine HS.out.mono ?_
 rintro e w2 ⟨u,rfl,h1,h2⟩
 go_wp2_with fail
 go_ret;exact ⟨_,rfl,h1,h2⟩
set_option maxHeartbeats 400000 in
theorem wword_any (b:Nat) (v:Value) (ls:List (List Int)) (g a:Int) (w:World) (hb:WhBox w b v) (h:ArV w w.heap.size v ls) :
  Calls Tryz.prog 201 #[.pointer (some ⟨b,0,none⟩),.int .i64 g,.int .i64 a] w fun e w'=>e= .returned (.tuple #[.int .u64 (wordA ls g a),.int .u16 (wordE7 ls g a)])∧Below w.heap.size w w':=by
 have HS:=LH (aword_any v ls g a w h);have hc:=hb.cell;obtain ⟨A,c,rfl,-⟩:=h;generalize ls.length=n at *
 generalize wordA ls g a=x at *
 generalize wordE7 ls g a=y at *
 clear hb;go_enter Tryz.func201,Tryz.ntmps201
 go_wp2_with fail
 refine HS.out.mono ?_
 rintro e w2 ⟨rfl,h2⟩
 go_wp2_with fail
 go_ret2;exact ⟨rfl,h2⟩
theorem catch_word (a b:Value) (w:World) :
  CallsD Tryz.prog 132 #[a,b] .returning w fun e u' w'=>e= .returned (.tuple #[])∧u'= .returning∧w'=w:=by
 refine callsD_of_wpS Tryz.func132 rfl fun c₀ cs hu=> ?_
 apply wpS_seq
 apply wpS_region
 simp[wpOpsS,go_sem,recoverD,hu,Tryz.ntmps132,Exit.thenS]
 refine wpS_cond (t:=false) (by simp[Act.eval,Array.replicate]) ?_
 simp only[Bool.false_eq_true,if_false];refine wpS_of_wp (wp_skip ?_);cases c₀
 simp_all [bodyPostS,results,Tryz.results132]
theorem catch_sizes (a:Value) (w:World) :
  CallsD Tryz.prog 150 #[a] .returning w fun e u' w'=>e= .returned (.tuple #[])∧u'= .returning∧w'=w:=by
 refine callsD_of_wpS Tryz.func150 rfl fun c₀ cs hu=> ?_
 apply wpS_seq
 apply wpS_region
 simp[wpOpsS,go_sem,recoverD,hu,Tryz.ntmps150,Exit.thenS]
 refine wpS_cond (t:=false) (by simp[Act.eval,Array.replicate]) ?_
 simp only[Bool.false_eq_true,if_false];refine wpS_of_wp (wp_skip ?_);cases c₀
 simp_all [bodyPostS,results,Tryz.results150]
set_option maxHeartbeats 1000000 in
theorem word_whole (b:Nat) (v:Value) (ls:List (List Int)) (g a:Int) (w:World) (hb:WhBox w b v) (h:ArV w w.heap.size v ls) :
  Calls Tryz.prog 102 #[.iface 122 (.pointer (some ⟨b,0,none⟩)),.int .i64 g,.int .i64 a] w fun e w'=>e= .returned (.tuple #[.int .u64 (wordA ls g a),.int .u16 (wordE7 ls g a)])∧Below w.heap.size w w':=by
 have hmf:∀(fn:Fn) (first cap:Array Value) (w:World),(Instr.makeFunc fn first cap).run Tryz.prog w= .ok (.func fn first cap) w:=fun _ _ _ _=>rfl
 have hm:=meth_word b;simp only[Tryz.types_size,Nat.reduceAdd] at hm;have HS:=LH (fun X (hX:Below w.heap.size w X)=>wword_any b v ls g a X (hb.on hX) (h.on hX))
 obtain ⟨e1,e2,-⟩:=two_new w #[.int .u64 0] #[.int .u16 0] 44 40;have HS1:=HS.out _ ((((Below.refl _ _).alloc (Nat.le_refl _) _).alloc (by simp) _):Below w.heap.size w ((w.alloc (.cells #[.int .u64 0] 44)).alloc (.cells #[.int .u16 0] 40)));clear hb h;generalize wordA ls g a=x at *
 generalize wordE7 ls g a=y at *
 go_enter_defers Tryz.func102,Tryz.ntmps102
 go_wp2_with fail
 refine HS1.mono ?_
 rintro e w2 ⟨rfl,hB2⟩;have h1:Bx w2 w.heap.size 44 (.int .u64 0):=Bx.on (w:=(w.alloc (.cells #[.int .u64 0] 44)).alloc (.cells #[.int .u16 0] 40)) e1 hB2;have h2:Bx w2 (w.heap.size+1) 40 (.int .u16 0):=Bx.on (w:=(w.alloc (.cells #[.int .u64 0] 44)).alloc (.cells #[.int .u16 0] 40)) e2 hB2;have hB3:Below w.heap.size w w2:=bseq' ((((Below.refl _ _).alloc (Nat.le_refl _) _).alloc (by simp) _):Below w.heap.size w ((w.alloc (.cells #[.int .u64 0] 44)).alloc (.cells #[.int .u16 0] 40))) hB2;have H1:=LH ((h1.set (.int .u64 x)).other (by omega:w.heap.size≠w.heap.size+1) 0 (.int .u16 y));have H2:=LH ((h2.other (by omega:w.heap.size+1≠w.heap.size) 0 (.int .u64 x)).set (.int .u16 y));have HB:=LH ((hB3.setCell (p:=⟨w.heap.size,0,none⟩) (Nat.le_refl _) (.int .u64 x)).setCell (p:=⟨w.heap.size+1,0,none⟩) (Nat.le_succ _) (.int .u16 y));obtain ⟨c1,f1⟩:=h1.cell;obtain ⟨c2,f2⟩:=h2.cell;have c3:=((h2.other (by omega:w.heap.size+1≠w.heap.size) 0 (.int .u64 x))).cell;obtain ⟨c3,f3⟩:=c3;clear hB2 hB3 e1 e2 h1 h2 hm
 go_wp2_with fail
 obtain ⟨d1,-⟩:=H1.out.cell;obtain ⟨d2,-⟩:=H2.out.cell;refine leaves_cons (f:=132) (args:=#[.pointer (some ⟨w.heap.size,0,none⟩),.pointer (some ⟨w.heap.size+1,0,none⟩)]) (by simp) (by simp[go_sem]) ?_
 refine (catch_word _ _ _).mono ?_
 rintro e u' w'' ⟨rfl,rfl,rfl⟩
 simp[Leaves,settle,results,Tryz.results102,go_sem,d1,d2]
 exact HB.out
theorem OwnI.setBelow {w:World} {base g:Nat} {v:Value} {xs:List Int} (h:OwnI w base v xs) (hg:g<base) (j:Nat) (x:Value):OwnI (w.setCell ⟨g,j,none⟩ x) base v xs:=by
 obtain ⟨h1,h2 | ⟨k,c,cur,e,hk,hh,r⟩⟩:=h
 ·exact ⟨h1,.inl h2⟩
 ·exact ⟨h1,.inr ⟨k,c,cur,e,hk,(blk_setCell_other _ _ _ _ (by show k≠g;omega)).trans hh,r⟩⟩
set_option maxHeartbeats 1000000 in
theorem sizes_whole (b:Nat) (v:Value) (ls:List (List Int)) (w:World) (hb:WhBox w b v) (h:ArV w w.heap.size v ls) (hs:ls.length≤1000000000) :
  Calls Tryz.prog 131 #[.iface 122 (.pointer (some ⟨b,0,none⟩))] w fun e w'=>∃u,e= .returned u∧NumS .i64 w' w'.heap.size u (sizesL ls)∧Below w.heap.size w w':=by
 have hmf:∀(fn:Fn) (first cap:Array Value) (w:World),(Instr.makeFunc fn first cap).run Tryz.prog w= .ok (.func fn first cap) w:=fun _ _ _ _=>rfl
 have hm:=meth_sizes b;simp only[Tryz.types_size,Nat.reduceAdd] at hm;have hB1:Below w.heap.size w (w.alloc (.cells #[.slice none 0 0] 45)):=(Below.refl _ _).alloc (Nat.le_refl _) _;have HB1:=LH hB1;have h0:Bx (w.alloc (.cells #[.slice none 0 0] 45)) w.heap.size 45 (.slice none 0 0):=by unfold Bx;rw[blk_alloc_new]
 have H0:=LH h0;have HS1:=wsizes_any b v ls _ (hb.on hB1) (h.on hB1) hs;clear hb h hB1 h0
 go_enter_defers Tryz.func131,Tryz.ntmps131
 go_wp2_with fail
 refine HS1.mono ?_
 rintro e w2 ⟨u,rfl,hO,hB2⟩;have h1:=H0.out.on hB2;have hB3:=bseq' HB1.out hB2;have hO2:=OwnI.setBelow hO (g:=w.heap.size) (by simp) 0 u;have HO:=LH hO2.numS;have H1:=LH (h1.set u);have HB:=LH (hB3.setCell (p:=⟨w.heap.size,0,none⟩) (Nat.le_refl _) u);obtain ⟨A,c,rfl,-⟩:=hO.numS;generalize (sizesL ls).length=n at *
 obtain ⟨c1,f1⟩:=h1.cell;clear hB2 hB3 h1 hO hO2 hm
 go_wp2_with fail
 obtain ⟨d1,-⟩:=H1.out.cell;refine leaves_cons (f:=150) (args:=#[.pointer (some ⟨w.heap.size,0,none⟩)]) (by simp) (by simp[go_sem]) ?_
 refine (catch_sizes _ _).mono ?_
 rintro e u' w'' ⟨rfl,rfl,rfl⟩
 simp[Leaves,settle,results,Tryz.results131,go_sem,d1]
 exact ⟨by simpa using HO.out,HB.out⟩
structure WhK (b:Nat) (v:Value) (ls:List (List Int)) (w:World):Prop where
 box:WhBox w b v
 ar:ArV w w.heap.size v ls
 laid:Laid w
theorem wordA_bd {ls:List (List Int)} (h:AllU ls) (g a:Int):0≤wordA ls g a∧wordA ls g a≤18446744073709551615:=by
 unfold wordA
 split
 ·exact h.at_ _ _
 ·decide
theorem wordE9_bd (ls:List (List Int)) (g a:Int):0≤wordE7 ls g a∧wordE7 ls g a≤65535:=by
 unfold wordE7
 split <;> decide
theorem whole_ok (b:Nat) (v:Value) (ls:List (List Int)) (hs:ls.length≤1000000000) (hu:AllU ls) (h64:All64 (sizesL ls)):SrcOK (WhK b v ls) (.iface 122 (.pointer (some ⟨b,0,none⟩))) (srA ls) where
 good:=⟨fun g a=>wordA_bd hu g a,fun g a=>wordE9_bd ls g a,h64,by show (sizesL ls).length≤_;rw[sizesL_length];exact hs⟩
 on:=fun h hB=>⟨h.box.on hB,h.ar.on hB,h.laid.on hB⟩
 laid:=fun h=>h.laid
 form:=⟨_,_,rfl⟩
 word:=fun g a w h _ _=>word_whole b v ls g a w h.box h.ar
 sizes:=fun w h=>sizes_whole b v ls w h.box h.ar hs
def PayR (w:World) (pb:Nat) (c n:Int) (e:Ending) (w':World):Prop :=
 ∃w1,Below w.heap.size w w1∧((n≤c∧e= .returned (.bool true)∧w'=w1.setCell ⟨pb,0,none⟩ (.int .i64 (c - n)))∨(c<n∧e= .returned (.bool false)∧w'=w1))
set_option maxHeartbeats 1000000 in
theorem pay_any (o:Ob) (pb:Nat) (c:Int) (w:World) (ho:OkQ (ptrO o)) (hp:Bx w pb 127 (.int .i64 c)) (hc:In64 c) :
  Calls Tryz.prog 69 #[.pointer (some ⟨pb,0,none⟩),.agg (cellsO o)] w (PayR w pb c (1+wordsO o)):=by
 have hb:=wordN_bd ho;have hB0:Below w.heap.size w (w.alloc (.cells (cellsO o) 129)):=(Below.refl _ _).alloc (Nat.le_refl _) _;have HW:=LH (words9_any o (w.alloc (.cells (cellsO o) 129)) ho);have HE:Hid (wordsO o=wordN (ptrO o)):=LH rfl;rw[←HE.out] at hb;generalize wordsO o=n at *
 have hw1:IntKind.i64.wrap (1+n)=1+n:=IntWalk.i64_in _ (by omega);obtain ⟨h1,h2⟩:=hc;have HP:=LH hp;have HB0:=LH hB0;clear HE ho hp hB0;unfold cellsO at *
 by_cases hlt:1+n≤c
 ·have hw2:IntKind.i64.wrap (c - (1+n))=c - (1+n):=IntWalk.i64_in _ (by omega);have i1:¬c<1+n:=by omega
  go_enter Tryz.func69,Tryz.ntmps69
  go_wp2_with fail
  refine HW.out.mono ?_
  rintro e w2 ⟨rfl,hB2⟩;have HP2:=LH (HP.out.on (bseq' HB0.out hB2));have HB2:=LH (bseq' HB0.out hB2);obtain ⟨c1,f1⟩:=HP2.out.cell;clear hB2
  go_wp2_with fail
  go_ret;exact ⟨_,HB2.out,.inl ⟨hlt,rfl,rfl⟩⟩
 ·have i1:c<1+n:=by omega
  go_enter Tryz.func69,Tryz.ntmps69
  go_wp2_with fail
  refine HW.out.mono ?_
  rintro e w2 ⟨rfl,hB2⟩;have HP2:=LH (HP.out.on (bseq' HB0.out hB2));have HB2:=LH (bseq' HB0.out hB2);obtain ⟨c1,f1⟩:=HP2.out.cell;clear hB2
  go_wp2_with fail
  go_ret;exact ⟨_,HB2.out,.inr ⟨i1,rfl,rfl⟩⟩
def cellsV (v:Va):Array Value:=#[.int .i64 v.kind,.int .i64 v.size,.int .i64 v.words,.int .i64 v.kids,.int .u64 v.word]
def VBox (w:World) (g:Nat) (v:Va):Prop:=w.heap[g]? = some (.cells (cellsV v) 54 (0,0))
theorem VBox.lt {w:World} {g:Nat} {v:Va} (h:VBox w g v):g<w.heap.size:=(Array.getElem?_eq_some_iff.1 h).1
theorem VBox.on {w w':World} {g:Nat} {v:Va} (h:VBox w g v) (hB:Below w.heap.size w w'):VBox w' g v:=(hB.block g h.lt).trans h
theorem VBox.cells {w:World} {g:Nat} {v:Va} (h:VBox w g v):w.cell? ⟨g,0,none⟩=some (.int .i64 v.kind)∧w.cell? ⟨g,1,none⟩=some (.int .i64 v.size)∧w.cell? ⟨g,2,none⟩=some (.int .i64 v.words)∧w.cell? ⟨g,3,none⟩=some (.int .i64 v.kids)∧w.cell? ⟨g,4,none⟩=some (.int .u64 v.word):=by
 unfold VBox at h
 simp[World.cell?,h,cellsV]
theorem VBox.frozen {w:World} {g:Nat} {v:Va} (h:VBox w g v) (j:Nat):w.frozen? ⟨g,j,none⟩=false:=by
 unfold VBox at h
 simp[World.frozen?,h]
theorem VBox.frozens {w:World} {g:Nat} {v:Va} (h:VBox w g v):w.frozen? ⟨g,0,none⟩=false∧w.frozen? ⟨g,1,none⟩=false∧w.frozen? ⟨g,2,none⟩=false∧w.frozen? ⟨g,3,none⟩=false∧w.frozen? ⟨g,4,none⟩=false :=
 ⟨h.frozen 0,h.frozen 1,h.frozen 2,h.frozen 3,h.frozen 4⟩
theorem VBox.set5 {w:World} {g:Nat} {v:Va} (h:VBox w g v) (a b c d e:Int) :
  VBox (((((w.setCell ⟨g,0,none⟩ (.int .i64 a)).setCell ⟨g,1,none⟩ (.int .i64 b)).setCell ⟨g,2,none⟩ (.int .i64 c)).setCell ⟨g,3,none⟩ (.int .i64 d)).setCell ⟨g,4,none⟩ (.int .u64 e)) g ⟨a,b,c,d,e⟩:=by
 have h0:w.heap[g]? = some (.cells (cellsV v) 54 (0,0)):=h;have h1:=heap_setCell_same _ g 0 _ _ (.int .i64 a) h0;have h2:=heap_setCell_same _ g 1 _ _ (.int .i64 b) h1;have h3:=heap_setCell_same _ g 2 _ _ (.int .i64 c) h2;have h4:=heap_setCell_same _ g 3 _ _ (.int .i64 d) h3;have h5:=heap_setCell_same _ g 4 _ _ (.int .u64 e) h4;unfold VBox;rw[h5]
 simp[cellsV]
set_option maxHeartbeats 1000000 in
theorem shape_any (o:Ob) (w:World) :
  Calls Tryz.prog 70 #[.agg (cellsO o)] w fun e w'=>e= .returned (.agg (cellsV (shapeV o)))∧Below w.heap.size w w':=by
 obtain ⟨o1,o2,o3,o4,o5,o6,o7⟩:=o;have HL:Hid (shapeV ⟨o1,o2,o3,o4,o5,o6,o7⟩=if o1=1 then ⟨o1,o6,o4,o5,0⟩ else if o6=6 then ⟨o1,o6,0,o7,0⟩ else ⟨o1,o6,o7,0,0⟩):=LH rfl
 obtain ⟨Z,hZ⟩:∃Z,Z=shapeV ⟨o1,o2,o3,o4,o5,o6,o7⟩:=⟨_,rfl⟩;rw[←hZ] at HL ⊢;unfold cellsO;dsimp only;clear hZ;have HB:∀cs1 cs2 cs3 t1 t2 t3,Below w.heap.size w (((w.alloc (.cells cs1 t1)).alloc (.cells cs2 t2)).alloc (.cells cs3 t3)):=fun cs1 cs2 cs3 t1 t2 t3=>(((Below.refl _ _).alloc (Nat.le_refl _) _).alloc (by simp) _).alloc (by simp;omega) _
 by_cases h1:o1=1
 ·subst h1;obtain rfl:=HL.out.trans (if_pos rfl);go_enter Tryz.func70,Tryz.ntmps70;go_upto_region 4 with fail
  go_region
  all_goals go_wp2_with fail
  all_goals
   refine bodyPost_ret (v:= .agg (cellsV ⟨1,o6,o4,o5,0⟩)) ?_ rfl ⟨rfl,by first | exact HB _ _ _ _ _ _ | exact (HB _ _ _ _ _ _).drew⟩
   simp[results,Tryz.f70,go_sem,cellsV]
 ·have h11:(o1 == 1)=false:=by simp[h1]
  by_cases h6:o6=6
  ·subst h6;obtain rfl:=HL.out.trans (by rw[if_neg h1,if_pos rfl]);go_enter Tryz.func70,Tryz.ntmps70
   go_wp2_with fail
   refine bodyPost_ret (v:= .agg (cellsV ⟨o1,6,0,o7,0⟩)) ?_ rfl ⟨rfl,by first | exact HB _ _ _ _ _ _ | exact (HB _ _ _ _ _ _).drew⟩
   simp[results,Tryz.f70,go_sem,cellsV]
  ·have h61:(o6 == 6)=false:=by simp[h6]
   obtain rfl:=HL.out.trans (by rw[if_neg h1,if_neg h6]);go_enter Tryz.func70,Tryz.ntmps70
   go_wp2_with fail
   refine bodyPost_ret (v:= .agg (cellsV ⟨o1,o6,o7,0,0⟩)) ?_ rfl ⟨rfl,by first | exact HB _ _ _ _ _ _ | exact (HB _ _ _ _ _ _).drew⟩
   simp[results,Tryz.f70,go_sem,cellsV]
theorem OBox.other {w:World} {g b:Nat} {o:Ob} (h:OBox w g o) (hne:g≠b) (j:Nat) (v:Value):OBox (w.setCell ⟨b,j,none⟩ v) g o:=(blk_setCell_other _ _ _ _ hne).trans h
theorem goalO_err (s:Sr) (r:List Int) (c:Int) (o:Ob) (e:Int) (h:e≠0):goalO s r c (o,e)=(Ob.zero,e):=by
 cases r <;> (unfold goalO;rw[if_pos h])
theorem goalO_cost (s:Sr) (r:List Int) (c:Int) (o:Ob) (h:c<1+wordsO o):goalO s r c (o,0)=(Ob.zero,22):=by
 cases r <;> (unfold goalO;rw[if_neg (by simp),if_pos h])
theorem goalO_end (s:Sr) (c:Int) (o:Ob) (h:¬c<1+wordsO o):goalO s [] c (o,0)=(o,0):=by
 unfold goalO;rw[if_neg (by simp),if_neg h]
theorem goalO_next (s:Sr) (k:Int) (r:List Int) (c:Int) (o:Ob) (h:¬c<1+wordsO o):goalO s (k :: r) c (o,0)=goalO s r (c - (1+wordsO o)) (nextO s o k):=by
 rw[goalO,if_neg (by simp),if_neg h]
def lenS9:Value→Nat
 | .slice _ n _=>n
 | _=>0
theorem NumS.rest {q:IntKind} {w:World} {B:Nat} {v:Value} {k:Int} {r:List Int} (h:NumS q w B v (k :: r)) :
  ∃b off c,v= .slice (some ⟨b,off,none⟩) (r.length+1) (c+1)∧r.length≤c∧c<9223372036854775807∧b<B∧w.cell? ⟨b,off,none⟩=some (.int q k)∧NumS q w B (.slice (if c=0 then some ⟨b,off,none⟩ else some ⟨b,off+1,none⟩) r.length c) r:=by
 obtain ⟨A,c,rfl,hc,hm,hr⟩:=h;obtain ⟨b,off,rfl,hb,hcell⟩:=hr (by simp);rw[List.length_cons] at hc;obtain ⟨d,rfl⟩:∃d,c=d+1:=⟨c - 1,by omega⟩
 refine ⟨b,off,d,by rw[List.length_cons],by omega,by omega,hb,?_,_,d,rfl,by omega,by omega,fun hl=>⟨b,off+1,if_neg (by omega),hb,fun j hj=> ?_⟩⟩
 ·have:=hcell 0 (by simp)
  simpa using this
 ·have:=hcell (j+1) (by simpa using hj);rw[show off+1+j=off+(j+1) by omega]
  simpa using this
theorem neg_any (k:Int) (w:World):Calls Tryz.prog 67 #[.int .i64 k] w fun e w'=>e= .returned (.bool (decide (k<0)))∧w=w':=by
 go_enter Tryz.func67,Tryz.ntmps67
 go_wp2_with fail
 go_ret;exact ⟨rfl,rfl⟩
set_option maxHeartbeats 1000000 in
theorem idx_any (v:Value) (l:List Int) (B:Nat) (w:World) (h:NumS .i64 w B v l) :
  Calls Tryz.prog 98 #[v,.func (.func 67) #[] #[]] w fun e w'=>(∃x:Int,e= .returned (.int .i64 x)∧decide (x≥0)=negs l)∧w=w':=by
 obtain ⟨A,c,rfl,hc,hm,hr⟩:=h;obtain ⟨len,hn⟩:∃n,n=l.length:=⟨_,rfl⟩;rw[←hn] at hc ⊢;have H:=LH hr;have HN:=LH hn;clear hr hn;go_enter Tryz.func98,Tryz.ntmps98
 go_wp2_with fail
 go_loopw [8] (fun i wr=>∃t:Nat,t≤len∧i= .int .i64 t∧(∀k∈l.take t,¬k<0)∧w=wr) (fun i _=>len - (intOf i).toNat)
 case atStart=>exact ⟨0,by omega,rfl,by simp,rfl⟩
 case round =>
  obtain ⟨t,ht,rfl,hall,rfl⟩:=hrel;have HAll:=LH hall;clear hall
  by_cases hlt:t<len
  ·obtain ⟨b,off,rfl,_,hcell⟩:=H.out (by rw[←HN.out];omega);have p1:=hcell t (by rw[←HN.out];omega);have HT:Hid (l.take (t+1)=l.take t ++ [l[t]?.getD 0]):=LH (by rw[List.take_add_one,List.getElem?_eq_getElem (by rw[←HN.out];exact hlt)];rfl);have HM:Hid (l[t]?.getD 0∈l):=LH (by rw[List.getElem?_eq_getElem (by rw[←HN.out];exact hlt)];exact List.getElem_mem _);obtain ⟨y,hy⟩:∃y,l[t]?.getD 0=y:=⟨_,rfl⟩;rw[hy] at p1 HT HM;clear hcell hy;have i1:(t:Int)<(len:Int):=by omega
   by_cases hy:y<0
   ·have hy1:decide (y<0)=true:=decide_eq_true hy
    go_wp2_with fail
    refine (neg_any y w).mono ?_
    rintro e w' ⟨rfl,rfl⟩;rw[hy1]
    go_wp2_with fail
    go_ret;exact ⟨⟨_,rfl,by rw[decide_eq_true (by omega)];exact (List.any_eq_true.2 ⟨y,HM.out,hy1⟩).symm⟩,rfl⟩
   ·have hy1:decide (y<0)=false:=decide_eq_false hy
    go_wp2_with fail
    refine (neg_any y w).mono ?_
    rintro e w' ⟨rfl,rfl⟩;rw[hy1]
    go_wp2_with fail
    go_roundw
    case rel =>
     refine ⟨t+1,by omega,by go_num,fun k hk=> ?_,trivial⟩
     rw[HT.out,List.mem_append,List.mem_singleton] at hk
     rcases hk with hk | rfl
     ·have:=HAll.out k hk;omega
     ·omega
    case measure=>simp[intOf];omega
  ·obtain rfl:t=len:=by omega
   go_wp2_with fail
   go_ret;refine ⟨⟨_,rfl,?_⟩,rfl⟩;have hall:=HAll.out;rw[HN.out,List.take_length] at hall;have hf:negs l=false:=by
    unfold negs;rw[List.any_eq_false];intro k hk
    simpa using hall k hk
   rw[hf]
   decide
theorem contains_any (v:Value) (l:List Int) (B:Nat) (w:World) (h:NumS .i64 w B v l) :
  Calls Tryz.prog 66 #[v,.func (.func 67) #[] #[]] w fun e w'=>e= .returned (.bool (negs l))∧w=w':=by
 have HI:=LH (idx_any v l B w h);obtain ⟨A,c,rfl,-⟩:=h;generalize l.length=n at *
 go_enter Tryz.func66,Tryz.ntmps66
 go_wp2_with fail
 refine HI.out.mono ?_
 rintro e w' ⟨⟨x,rfl,hx⟩,rfl⟩;have HX:=LH hx;clear hx
 go_wp2_with fail
 go_ret;exact ⟨by rw[←HX.out];rfl,rfl⟩
def PaBox (w:World) (g:Nat) (v:Value) (i:Int):Prop:=w.heap[g]? = some (.cells #[v,.int .i64 i] 47 (0,0))
theorem PaBox.lt {w:World} {g:Nat} {v:Value} {i:Int} (h:PaBox w g v i):g<w.heap.size:=(Array.getElem?_eq_some_iff.1 h).1
theorem PaBox.on {w w':World} {g:Nat} {v:Value} {i:Int} (h:PaBox w g v i) {B:Nat} (hB:Below B w w') (hg:g<B):PaBox w' g v i:=(hB.block g hg).trans h
theorem PaBox.cells {w:World} {g:Nat} {v:Value} {i:Int} (h:PaBox w g v i):w.cell? ⟨g,0,none⟩=some v∧w.cell? ⟨g,1,none⟩=some (.int .i64 i):=by
 unfold PaBox at h
 simp[World.cell?,h]
theorem new_walk (w:World) (v:Value) (i:Int):PaBox ((w.alloc (.cells #[v,.int .i64 i] 47)).alloc (.cells (cellsV Va.zero) 54)) w.heap.size v i∧VBox ((w.alloc (.cells #[v,.int .i64 i] 47)).alloc (.cells (cellsV Va.zero) 54)) (w.heap.size+1) Va.zero∧Below w.heap.size w ((w.alloc (.cells #[v,.int .i64 i] 47)).alloc (.cells (cellsV Va.zero) 54)):=by
 obtain ⟨e1,e2,-⟩:=two_new w #[v,.int .i64 i] (cellsV Va.zero) 47 54;exact ⟨e1,e2,((Below.refl _ _).alloc (Nat.le_refl _) _).alloc (by simp) _⟩
end Go.Proofs.YtmmlfnblodfjbaaGreatDoor
