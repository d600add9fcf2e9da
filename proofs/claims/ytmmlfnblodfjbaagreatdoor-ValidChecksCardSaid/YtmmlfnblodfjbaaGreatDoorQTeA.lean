/- Layer 10, the landed package: what a decoder is in memory; rows of words, known whole. -/
import Derived.Test.YtmmlfnblodfjbaaGreatDoorQRdC
import Derived.Test.YtmmlfnblodfjbaaGreatDoorQTdPlain
import Derived.Test.YtmmlfnblodfjbaaGreatDoorQMem
import Derived.Test.YtmmlfnblodfjbaaGreatDoorQWord
set_option maxRecDepth 100000
namespace Go.Proofs.YtmmlfnblodfjbaaGreatDoor
open Go.RowKit Go.Deep
def DBox (w:World) (db b:Nat) (c:Int):Prop:=w.heap[db]? = some (.cells #[.iface 122 (.pointer (some ⟨b,0,none⟩)),.int .i64 c] 148 (0,0))
theorem DBox.lt {w:World} {db b:Nat} {c:Int} (h:DBox w db b c):db<w.heap.size:=(Array.getElem?_eq_some_iff.1 h).1
theorem DBox.of_block {w w':World} {db b:Nat} {c:Int} (h:DBox w db b c) (e:w'.heap[db]? = w.heap[db]?):DBox w' db b c:=e.trans h
theorem DBox.on {w w':World} {db b:Nat} {c:Int} (h:DBox w db b c) (hB:Below w.heap.size w w'):DBox w' db b c:=(hB.block db h.lt).trans h
theorem DBox.cells {w:World} {db b:Nat} {c:Int} (h:DBox w db b c):w.cell? ⟨db,0,none⟩=some (.iface 122 (.pointer (some ⟨b,0,none⟩)))∧w.cell? ⟨db,1,none⟩=some (.int .i64 c):=by
 unfold DBox at h
 simp[World.cell?,h]
theorem DBox.frozen {w:World} {db b:Nat} {c:Int} (h:DBox w db b c) (j:Nat):w.frozen? ⟨db,j,none⟩=false:=by
 unfold DBox at h
 simp[World.frozen?,h]
theorem DBox.pay {w:World} {db b:Nat} {c:Int} (h:DBox w db b c) (c':Int):DBox (w.setCell ⟨db,1,none⟩ (.int .i64 c')) db b c':=by
 have h1:=heap_setCell_same _ db 1 _ _ (.int .i64 c') h;unfold DBox;rw[h1]
 simp
def RowU (w:World) (g:Nat) (l:List Int):Prop:=w.heap[g]? = some (.cells (l.map (Value.int .u64)).toArray 44 (0,0))
theorem RowU.lt {w:World} {g:Nat} {l:List Int} (h:RowU w g l):g<w.heap.size:=(Array.getElem?_eq_some_iff.1 h).1
theorem RowU.cell {w:World} {g:Nat} {l:List Int} (h:RowU w g l) {j:Nat} (hj:j<l.length):w.cell? ⟨g,j,none⟩=some (.int .u64 (l[j]?.getD 0)):=by
 unfold RowU at h
 simp[World.cell?,h,hj]
theorem RowU.frozen {w:World} {g:Nat} {l:List Int} (h:RowU w g l) (j:Nat):w.frozen? ⟨g,j,none⟩=false:=by
 unfold RowU at h
 simp[World.frozen?,h]
theorem RowU.of_block {w w':World} {g:Nat} {l:List Int} (h:RowU w g l) (e:w'.heap[g]? = w.heap[g]?):RowU w' g l:=e.trans h
theorem RowU.on {w w':World} {g:Nat} {l:List Int} (h:RowU w g l) (hB:Below w.heap.size w w'):RowU w' g l:=(hB.block g h.lt).trans h
theorem RowU.set {w:World} {g:Nat} {l:List Int} (h:RowU w g l) (i:Nat) (x:Int):RowU (w.setCell ⟨g,i,none⟩ (.int .u64 x)) g (l.set i x):=by
 unfold RowU at h ⊢
 simp[World.setCell,Array.getElem?_modify,h]
theorem RowU.made (w:World) (n:Nat):RowU (w.alloc (.cells (madeCells #[Value.int .u64 0] n) 44)) w.heap.size (List.replicate n 0):=by
 unfold RowU;rw[blk_alloc_new]
 congr 2
 apply Array.ext'
 rw[toList_madeCells_one,List.map_replicate]
theorem RowU.numP {w:World} {g:Nat} {l:List Int} (h:RowU w g l) (hm:l.length≤1000000):NumP .u64 w (fun b=>b=g) (.slice (some ⟨g,0,none⟩) l.length l.length) l :=
 ⟨_,_,rfl,Nat.le_refl _,by omega,fun _=>⟨g,0,rfl,rfl,fun j hj=>by rw[Nat.zero_add];exact h.cell hj⟩⟩
def wordsN (ls:List (List Int)) (g a:Int) (m:Nat):List Int:=(List.range m).map (fun (i:Nat)=>wordA ls g (a+(i:Int)))
theorem wordsN_length (ls:List (List Int)) (g a:Int) (m:Nat):(wordsN ls g a m).length=m:=by simp[wordsN]
theorem wordsN_get (ls:List (List Int)) (g a:Int) {m j:Nat} (h:j<m):(wordsN ls g a m)[j]?.getD 0=wordA ls g (a+(j:Int)):=by simp[wordsN,h]
def wordsTo (ls:List (List Int)) (g a:Int) (m t:Nat):List Int:=wordsN ls g a t ++ List.replicate (m - t) 0
theorem wordsTo_zero (ls:List (List Int)) (g a:Int) (m:Nat):wordsTo ls g a m 0=List.replicate m 0:=by simp[wordsTo,wordsN]
theorem wordsTo_length (ls:List (List Int)) (g a:Int) {m t:Nat} (h:t≤m):(wordsTo ls g a m t).length=m:=by
 unfold wordsTo;rw[List.length_append,wordsN_length,List.length_replicate]
 omega
theorem wordsTo_next (ls:List (List Int)) (g a:Int) {m t:Nat} (h:t<m):(wordsTo ls g a m t).set t (wordA ls g (a+(t:Int)))=wordsTo ls g a m (t+1):=by
 unfold wordsTo;have e:wordsN ls g a (t+1)=wordsN ls g a t ++ [wordA ls g (a+(t:Int))]:=by simp[wordsN,List.range_succ]
 rw[e,List.set_append_right _ _ (by rw[wordsN_length];exact Nat.le_refl _),wordsN_length,Nat.sub_self];obtain ⟨q,hq⟩:∃q,m - t=q+1:=⟨m - t - 1,by omega⟩
 rw[hq,List.replicate_succ,List.set_cons_zero,List.append_assoc,show m - (t+1)=q by omega]
 rfl
theorem wordsTo_end (ls:List (List Int)) (g a:Int) (m:Nat):wordsTo ls g a m m=wordsN ls g a m:=by simp[wordsTo]
set_option maxHeartbeats 1000000 in
theorem dwords_any (db b:Nat) (v:Value) (ls:List (List Int)) (o:Ob) (m:Nat) (c:Int) (w:World) (hd:DBox w db b c) (hb:WhBox w b v) (h:ArV w w.heap.size v ls) (hm:m≤1000000) (ha:0≤o.at_∧o.at_+m≤9223372036854775807) :
  Calls Tryz.prog 137 #[.pointer (some ⟨db,0,none⟩),.agg (cellsO o),.int .i64 (m:Int)] w fun e w'=>∃g,e= .returned (.slice (some ⟨g,0,none⟩) m m)∧w.heap.size≤g∧RowU w' g (wordsN ls o.seg o.at_ m)∧Below w.heap.size w w':=by
 have HW:=LH (fun g a X (hX:Below w.heap.size w X)=>wword_any b v ls g a X (hb.on hX) (h.on hX))
 have HD:=LH (fun X (hX:Below w.heap.size w X)=>hd.on hX)
 have hmk:=run_make_row' (P:=Tryz.prog) 31 44 (.int .u64 0) 8 Tryz.underlying31 Tryz.info44 rfl .i64 .i64 m (by omega) (by omega);have hmt:=meth_word b;simp only[Tryz.types_size,Nat.reduceAdd] at hmt;have ho1:=OBox.new w o;have hr1:=RowU.made (w.alloc (.cells (cellsO o) 129)) m;rw[World.size_alloc] at hr1;have hB1:Below w.heap.size w ((w.alloc (.cells (cellsO o) 129)).alloc (.cells (madeCells #[Value.int .u64 0] m) 44)):=((Below.refl _ _).alloc (Nat.le_refl _) _).alloc (by simp) _;have ho2:=ho1.on ((Below.refl _ _).alloc (Nat.le_refl _) (.cells (madeCells #[Value.int .u64 0] m) 44));obtain ⟨o1,o2,o3,o4,o5,o6,o7⟩:=o;obtain ⟨W1,hW1⟩:∃W1,W1=(w.alloc (.cells (cellsO ⟨o1,o2,o3,o4,o5,o6,o7⟩) 129)).alloc (.cells (madeCells #[Value.int .u64 0] m) 44):=⟨_,rfl⟩;rw[←hW1] at hr1 hB1 ho2;have HR1:=LH hr1;have HB1:=LH hB1;have HO1:=LH ho2;have HA:=LH ha;unfold cellsO at hW1 ⊢;dsimp only at hW1 HA ⊢;clear hd hb h ho1 hr1 hB1 ho2 ha;go_enter Tryz.func137,Tryz.ntmps137
 go_wp2_with fail
 rw[←hW1];clear hW1 hmk
 go_loopw [8,13] (fun _ i wr=>∃t:Nat,t≤m∧i= .int .i64 t∧RowU wr (w.heap.size+1) (wordsTo ls o2 o3 m t)∧OBox wr w.heap.size ⟨o1,o2,o3,o4,o5,o6,o7⟩∧Below w.heap.size w wr) (fun _ i _=>m - (intOf i).toNat)
 case atStart=>exact ⟨0,by omega,rfl,by rw[wordsTo_zero];exact HR1.out,HO1.out,HB1.out⟩
 case round =>
  obtain ⟨t,ht,rfl,hr,ho,hB⟩:=hrel;have HR:=LH hr;have HO:=LH ho;have HB:=LH hB;clear hr ho hB
  by_cases hlt:t<m
  ·have i1:(t:Int)<(m:Int):=by omega
   have hw1:IntKind.i64.wrap (o3+(t:Int))=o3+(t:Int):=IntWalk.i64_in _ (by have:=HA.out;omega);obtain ⟨d0,d1⟩:=(HD.out _ HB.out).cells;obtain ⟨x0,x1,x2,x3,x4,x5,x6⟩:=HO.out.cells;dsimp only at x0 x1 x2 x3 x4 x5 x6;have HT0:Below wr.heap.size wr wr.drew:=(Below.refl _ _).drew;have HWw:=LH (HW.out o2 (o3+(t:Int)) wr.drew HB.out.drew);obtain ⟨x,hx⟩:∃x,wordA ls o2 (o3+(t:Int))=x:=⟨_,rfl⟩;have HX:Hid ((wordsTo ls o2 o3 m t).set t x=wordsTo ls o2 o3 m (t+1)):=LH (by rw[←hx];exact wordsTo_next ls o2 o3 hlt);have HLn:Hid ((wordsTo ls o2 o3 m t).length=m):=LH (wordsTo_length ls o2 o3 ht);rw[hx] at HWw;clear hx;obtain ⟨y,hy⟩:∃y,wordE7 ls o2 (o3+(t:Int))=y:=⟨_,rfl⟩;rw[hy] at HWw;clear hy;go_upto_region 5 with fail
   have HCel:Hid (∀X,Below wr.heap.size wr X→X.cell? ⟨db,0,none⟩=some (.iface 122 (.pointer (some ⟨b,0,none⟩)))∧X.cell? ⟨w.heap.size,1,none⟩=some (.int .i64 o2)∧X.cell? ⟨w.heap.size,2,none⟩=some (.int .i64 o3)):=LH (fun X hX=>⟨(HD.out _ (HB.out.trans (hX.mono HB.out.size))).cells.1,(HO.out.on hX).cells.2.1,(HO.out.on hX).cells.2.2.1⟩)
   have HDl:=LH (HD.out _ (Below.refl _ _)).lt;have HCs:Hid (∀X,Below wr.heap.size wr X→(X.setCell ⟨w.heap.size+1,t,none⟩ (.int .u64 x)).cell? ⟨db,0,none⟩=some (.iface 122 (.pointer (some ⟨b,0,none⟩)))∧(X.setCell ⟨w.heap.size+1,t,none⟩ (.int .u64 x)).cell? ⟨w.heap.size,1,none⟩=some (.int .i64 o2)∧(X.setCell ⟨w.heap.size+1,t,none⟩ (.int .u64 x)).cell? ⟨w.heap.size,2,none⟩=some (.int .i64 o3)):=LH (fun X hX=>by
    have h:=HCel.out X hX;have hd:=HDl.out;have e:∀k,k<w.heap.size+1→∀j,(X.setCell ⟨w.heap.size+1,t,none⟩ (.int .u64 x)).cell? ⟨k,j,none⟩=X.cell? ⟨k,j,none⟩:=fun k hk j=>cell_same (blk_setCell_other _ _ _ _ (by show k≠w.heap.size+1;omega)) j
    rw[e _ (by omega),e _ (by omega),e _ (by omega)];exact h)
   have HRo:=LH (fun X (hX:Below wr.heap.size wr X)=>HR.out.on hX)
   go_region_held3 (fun w'=>w'.cell? ⟨db,0,none⟩=some (.iface 122 (.pointer (some ⟨b,0,none⟩)))∧w'.cell? ⟨w.heap.size,1,none⟩=some (.int .i64 o2)∧w'.cell? ⟨w.heap.size,2,none⟩=some (.int .i64 o3)) (first | exact HCel.out _ hT2 | exact HCs.out _ hT2 | exact HCel.out _ HT0) (first
    | (go_at_call 201;with_reducible refine HWw.out.mono ?_;rintro e w6 ⟨rfl,hB6⟩;have hT2:=bseq' HT0 hB6;have hr6:=HRo.out _ hT2;have c6:=hr6.cell (j:=t) (by rw[HLn.out];exact hlt);have f6:=hr6.frozen t;have HR6:=LH hr6;clear hr6))
   all_goals
    clear c6 f6;have HR7:Hid (RowU (w6.setCell ⟨w.heap.size+1,t,none⟩ (.int .u64 x)) (w.heap.size+1) (wordsTo ls o2 o3 m (t+1))):=LH (by rw[←HX.out];exact HR6.out.set t x);have HO7:Hid (OBox (w6.setCell ⟨w.heap.size+1,t,none⟩ (.int .u64 x)) w.heap.size ⟨o1,o2,o3,o4,o5,o6,o7⟩):=LH ((blk_setCell_other _ _ _ _ (by show w.heap.size≠w.heap.size+1;omega)).trans (HO.out.on hT2))
    have HB7:Hid (Below w.heap.size w (w6.setCell ⟨w.heap.size+1,t,none⟩ (.int .u64 x))):=LH ((HB.out.trans (hT2.mono HB.out.size)).setCell (p:=⟨w.heap.size+1,t,none⟩) (Nat.le_succ _) _)
    go_wp2_with fail
    go_roundw
    case rel=>exact ⟨t+1,by omega,by go_num,HR7.out,HO7.out,HB7.out⟩
    case measure=>simp[intOf];omega
  ·obtain rfl:t=m:=by omega
   go_wp2_with fail
   go_ret;exact ⟨_,rfl,Nat.le_succ _,by rw[←wordsTo_end];exact HR.out,HB.out⟩
theorem TBox.of_block {w w':World} {g:Nat} {k z:Int} {vw vb vk:Value} (h:TBox w g k z vw vb vk) (e:w'.heap[g]? = w.heap[g]?):TBox w' g k z vw vb vk:=e.trans h
theorem TBox.frozens {w:World} {g:Nat} {k z:Int} {vw vb vk:Value} (h:TBox w g k z vw vb vk):w.frozen? ⟨g,0,none⟩=false∧w.frozen? ⟨g,1,none⟩=false∧w.frozen? ⟨g,2,none⟩=false∧w.frozen? ⟨g,3,none⟩=false∧w.frozen? ⟨g,4,none⟩=false :=
 ⟨h.frozen 0,h.frozen 1,h.frozen 2,h.frozen 3,h.frozen 4⟩
theorem TBox.setW {w:World} {g:Nat} {k z:Int} {vw vb vk:Value} (h:TBox w g k z vw vb vk) (u:Value):TBox (w.setCell ⟨g,2,none⟩ u) g k z u vb vk:=by
 have h1:=heap_setCell_same _ g 2 _ _ u h;unfold TBox;rw[h1]
 simp[cellsT]
theorem TBox.setB {w:World} {g:Nat} {k z:Int} {vw vb vk:Value} (h:TBox w g k z vw vb vk) (u:Value):TBox (w.setCell ⟨g,3,none⟩ u) g k z vw u vk:=by
 have h1:=heap_setCell_same _ g 3 _ _ u h;unfold TBox;rw[h1]
 simp[cellsT]
theorem TBox.setK {w:World} {g:Nat} {k z:Int} {vw vb vk:Value} (h:TBox w g k z vw vb vk) (u:Value):TBox (w.setCell ⟨g,4,none⟩ u) g k z vw vb u:=by
 have h1:=heap_setCell_same _ g 4 _ _ u h;unfold TBox;rw[h1]
 simp[cellsT]
def put5 (w:World) (g o:Nat) (k z:Int) (vw vb vk:Value):World:=((((w.setCell ⟨g,o,none⟩ (.int .i64 k)).setCell ⟨g,o+1,none⟩ (.int .i64 z)).setCell ⟨g,o+2,none⟩ vw).setCell ⟨g,o+3,none⟩ vb).setCell ⟨g,o+4,none⟩ vk
theorem TBox.put {w:World} {g:Nat} {k z:Int} {vw vb vk:Value} (h:TBox w g k z vw vb vk) (k' z':Int) (a b c:Value):TBox (put5 w g 0 k' z' a b c) g k' z' a b c:=by
 have h0:w.heap[g]? = some (.cells (cellsT k z vw vb vk) 34 (0,0)):=h;have h1:=heap_setCell_same _ g 0 _ _ (.int .i64 k') h0;have h2:=heap_setCell_same _ g 1 _ _ (.int .i64 z') h1;have h3:=heap_setCell_same _ g 2 _ _ a h2;have h4:=heap_setCell_same _ g 3 _ _ b h3;have h5:=heap_setCell_same _ g 4 _ _ c h4;unfold TBox put5;simp only[Nat.zero_add];rw[h5]
 simp[cellsT]
theorem put5_other (w:World) (g o:Nat) (k z:Int) (a b c:Value) (x:Nat) (hx:x≠g):(put5 w g o k z a b c).heap[x]? = w.heap[x]? := by
 unfold put5;rw[blk_setCell_other _ _ _ _ hx,blk_setCell_other _ _ _ _ hx,blk_setCell_other _ _ _ _ hx,blk_setCell_other _ _ _ _ hx,blk_setCell_other _ _ _ _ hx]
theorem put5_size (w:World) (g o:Nat) (k z:Int) (a b c:Value):(put5 w g o k z a b c).heap.size=w.heap.size:=by
 unfold put5;rw[nblk_setCell,nblk_setCell,nblk_setCell,nblk_setCell,nblk_setCell]
theorem below_put5 {B:Nat} {w W:World} {g:Nat} (h:Below B w W) (hg:B≤g) (o:Nat) (k z:Int) (a b c:Value):Below B w (put5 W g o k z a b c) :=
 ((((h.setCell (p:=⟨g,o,none⟩) hg _).setCell (p:=⟨g,o+1,none⟩) hg _).setCell (p:=⟨g,o+2,none⟩) hg _).setCell (p:=⟨g,o+3,none⟩) hg _).setCell (p:=⟨g,o+4,none⟩) hg _
theorem three_new (w:World) (c1 c2 c3:Array Value) (t1 t2 t3:TypeId):∀W,W=((w.alloc (.cells c1 t1)).alloc (.cells c2 t2)).alloc (.cells c3 t3) →
  W.heap[w.heap.size]? = some (.cells c1 t1 (0,0))∧W.heap[w.heap.size+1]? = some (.cells c2 t2 (0,0))∧W.heap[w.heap.size+1+1]? = some (.cells c3 t3 (0,0))∧Below w.heap.size w W∧W.heap.size=w.heap.size+3:=by
 rintro W rfl;refine ⟨?_,?_,?_,(((Below.refl _ _).alloc (Nat.le_refl _) _).alloc (by simp) _).alloc (by simp;omega) _,by simp⟩
 ·rw[blk_alloc_lt _ _ _ (by simp;omega),blk_alloc_lt _ _ _ (by simp),blk_alloc_new]
 ·have:=blk_alloc_new (w.alloc (.cells c1 t1)) (.cells c2 t2);rw[World.size_alloc] at this;rw[blk_alloc_lt _ _ _ (by simp),this]
 ·have:=blk_alloc_new ((w.alloc (.cells c1 t1)).alloc (.cells c2 t2)) (.cells c3 t3)
  rwa [World.size_alloc,World.size_alloc] at this
theorem Tryz.info34:(Tryz.prog.info? 34).map (fun i=>(i.zero,i.size,i.bytes))=some (some (.agg (cellsT 0 0 (.slice none 0 0) (.slice none 0 0) (.slice none 0 0))),5,88):=by kernel_rfl
theorem run_make_T (n:Nat) (hn:n≤1000000) (w:World) :
  (Instr.makeSlice 32 (.int .i64 (n:Int)) (.int .i64 (n:Int))).run Tryz.prog w= .ok (.slice (some ⟨w.heap.size,0,none⟩) n n) (w.alloc (.cells (madeCells (cellsT 0 0 (.slice none 0 0) (.slice none 0 0) (.slice none 0 0)) (n*5)) 34)):=by
 obtain ⟨i,hi,hzz⟩:=Option.map_eq_some_iff.1 Tryz.info34;simp only[Prod.mk.injEq] at hzz;obtain ⟨hz,hs,hb⟩:=hzz;have hr:=run_make (P:=Tryz.prog) w 32 34 i _ Tryz.underlying32 hi hz .i64 .i64 n n (by omega) (Int.le_refl _) (by rw[hb];omega) (by omega);simp only[Int.toNat_natCast,hs] at hr;exact hr
def NRow (w:World) (base g:Nat) (ks:List Tr):Prop :=
 base≤g∧ks.length≤1000000∧∃cur:Array Value,w.heap[g]? = some (.cells cur 34 (0,0))∧cur.size=ks.length*5∧∀j,j<ks.length→∃k z vw vb vk,cur[j*5]? = some (.int .i64 k)∧cur[j*5+1]? = some (.int .i64 z)∧cur[j*5+2]? = some vw∧cur[j*5+3]? = some vb∧cur[j*5+4]? = some vk ∧
  TrP w (fun b=>base≤b∧b<w.heap.size∧b≠g) (ks[j]?.getD Tr.nil) (.agg (cellsT k z vw vb vk))
theorem NRow.lt {w:World} {base g:Nat} {ks:List Tr} (h:NRow w base g ks):g<w.heap.size:=by
 obtain ⟨-,-,cur,hh,-⟩:=h;exact (Array.getElem?_eq_some_iff.1 hh).1
theorem NRow.cell {w:World} {base g:Nat} {ks:List Tr} (h:NRow w base g ks) {j:Nat} (hj:j<ks.length) :
  ∃k z vw vb vk,w.cell? ⟨g,j*5,none⟩=some (.int .i64 k)∧w.cell? ⟨g,j*5+1,none⟩=some (.int .i64 z)∧w.cell? ⟨g,j*5+2,none⟩=some vw∧w.cell? ⟨g,j*5+3,none⟩=some vb∧w.cell? ⟨g,j*5+4,none⟩=some vk∧∀i,w.frozen? ⟨g,i,none⟩=false:=by
 obtain ⟨-,-,cur,hh,-,hc⟩:=h;obtain ⟨k,z,vw,vb,vk,e0,e1,e2,e3,e4,-⟩:=hc j hj;refine ⟨k,z,vw,vb,vk,?_,?_,?_,?_,?_,fun i=> ?_⟩
 ·simp[World.cell?,hh,e0]
 ·simp[World.cell?,hh,e1]
 ·simp[World.cell?,hh,e2]
 ·simp[World.cell?,hh,e3]
 ·simp[World.cell?,hh,e4]
 ·simp[World.frozen?,hh]
theorem trP_nil (w:World) (P:Nat→Prop):TrP w P Tr.nil (.agg (cellsT 0 0 (.slice none 0 0) (.slice none 0 0) (.slice none 0 0))):=by
 unfold Tr.nil TrP;exact ⟨_,_,none,0,rfl,⟨⟨by decide,by decide⟩,⟨by decide,by decide⟩,by simp,by simp,by simp,by simp,by simp⟩,NumP.nil _ _ _,NumP.nil _ _ _,by simp,by omega,fun h=>by simp at h⟩
theorem NRow.made (w:World) (base n:Nat) (hb:base≤w.heap.size) (hn:n≤1000000):NRow (w.alloc (.cells (madeCells (cellsT 0 0 (.slice none 0 0) (.slice none 0 0) (.slice none 0 0)) (n*5)) 34)) base w.heap.size (List.replicate n Tr.nil):=by
 refine ⟨hb,by simpa using hn,_,blk_alloc_new _ _,by rw[size_madeCells,List.length_replicate],fun j hj=> ?_⟩
 rw[List.length_replicate] at hj;have hc:∀i,i<5→(madeCells (cellsT 0 0 (.slice none 0 0) (.slice none 0 0) (.slice none 0 0)) (n*5))[j*5+i]? = some ((cellsT 0 0 (.slice none 0 0) (.slice none 0 0) (.slice none 0 0))[i]!):=fun i hi=>by
  unfold madeCells;rw[Array.getElem?_map,Array.getElem?_range,if_pos (by omega)]
  show some _=_
  have e:(j*5+i) % (cellsT 0 0 (.slice none 0 0) (.slice none 0 0) (.slice none 0 0)).size=i:=by show (j*5+i) % 5=i;omega
  show some ((cellsT 0 0 (.slice none 0 0) (.slice none 0 0) (.slice none 0 0))[(j*5+i) % (cellsT 0 0 (.slice none 0 0) (.slice none 0 0) (.slice none 0 0)).size]!)=_
  rw[e]
 refine ⟨0,0,_,_,_,hc 0 (by omega),hc 1 (by omega),hc 2 (by omega),hc 3 (by omega),hc 4 (by omega),?_⟩;rw[List.getElem?_replicate,if_pos hj];exact trP_nil _ _
theorem NRow.keep {w w':World} {base g:Nat} {ks:List Tr} (h:NRow w base g ks) (hs:w.heap.size≤w'.heap.size) (hk:∀b,base≤b→b<w.heap.size→w'.heap[b]? = w.heap[b]?):NRow w' base g ks:=by
 have hlt:=h.lt;obtain ⟨h1,h2,cur,hh,hz,hc⟩:=h;refine ⟨h1,h2,cur,(hk g h1 hlt).trans hh,hz,fun j hj=> ?_⟩
 obtain ⟨k,z,vw,vb,vk,e0,e1,e2,e3,e4,ht⟩:=hc j hj;exact ⟨k,z,vw,vb,vk,e0,e1,e2,e3,e4,TrP.mono (fun b hb=>⟨hb.1,Nat.lt_of_lt_of_le hb.2.1 hs,hb.2.2⟩) _ _ (TrP.keep (fun b hb=>hk b hb.1 hb.2.1) _ _ ht)⟩
theorem put5_same {w:World} {g o:Nat} {cur:Array Value} {T:TypeId} (h:w.heap[g]? = some (.cells cur T (0,0))) (k z:Int) (a b c:Value) :
  (put5 w g o k z a b c).heap[g]? = some (.cells (((((cur.setIfInBounds o (.int .i64 k)).setIfInBounds (o+1) (.int .i64 z)).setIfInBounds (o+2) a).setIfInBounds (o+3) b).setIfInBounds (o+4) c) T (0,0)):=by
 have h1:=heap_setCell_same _ g o _ _ (.int .i64 k) h;have h2:=heap_setCell_same _ g (o+1) _ _ (.int .i64 z) h1;have h3:=heap_setCell_same _ g (o+2) _ _ a h2;have h4:=heap_setCell_same _ g (o+3) _ _ b h3;have h5:=heap_setCell_same _ g (o+4) _ _ c h4;exact h5
theorem NRow.set {w:World} {base g:Nat} {ks:List Tr} (h:NRow w base g ks) {j:Nat} (hj:j<ks.length) {t:Tr} {k z:Int} {a vb' c:Value} (ht:TrP w (fun b=>base≤b∧b<w.heap.size∧b≠g) t (.agg (cellsT k z a vb' c))):NRow (put5 w g (j*5) k z a vb' c) base g (ks.set j t):=by
 have hother:=fun x (hx:x≠g)=>put5_other w g (j*5) k z a vb' c x hx
 have hsz:=put5_size w g (j*5) k z a vb' c;obtain ⟨h1,h2,cur,hh,hz,hc⟩:=h;have hT:∀t v,TrP w (fun b=>base≤b∧b<w.heap.size∧b≠g) t v→TrP (put5 w g (j*5) k z a vb' c) (fun b=>base≤b∧b<(put5 w g (j*5) k z a vb' c).heap.size∧b≠g) t v:=fun t v h=>by
  rw[hsz];exact TrP.keep (fun b hb=>hother b hb.2.2) _ _ h
 refine ⟨h1,by rw[List.length_set];exact h2,_,put5_same hh _ _ _ _ _,by simp[hz],fun i hi=> ?_⟩
 rw[List.length_set] at hi
 by_cases e:i=j
 ·subst e;refine ⟨k,z,a,vb',c,?_,?_,?_,?_,?_,?_⟩
  ·rw[Array.getElem?_setIfInBounds_ne (by omega),Array.getElem?_setIfInBounds_ne (by omega),Array.getElem?_setIfInBounds_ne (by omega),Array.getElem?_setIfInBounds_ne (by omega),Array.getElem?_setIfInBounds_self_of_lt (by omega)]
  ·rw[Array.getElem?_setIfInBounds_ne (by omega),Array.getElem?_setIfInBounds_ne (by omega),Array.getElem?_setIfInBounds_ne (by omega),Array.getElem?_setIfInBounds_self_of_lt (by rw[Array.size_setIfInBounds];omega)]
  ·rw[Array.getElem?_setIfInBounds_ne (by omega),Array.getElem?_setIfInBounds_ne (by omega),Array.getElem?_setIfInBounds_self_of_lt (by rw[Array.size_setIfInBounds,Array.size_setIfInBounds];omega)]
  ·rw[Array.getElem?_setIfInBounds_ne (by omega),Array.getElem?_setIfInBounds_self_of_lt (by rw[Array.size_setIfInBounds,Array.size_setIfInBounds,Array.size_setIfInBounds];omega)]
  ·rw[Array.getElem?_setIfInBounds_self_of_lt (by rw[Array.size_setIfInBounds,Array.size_setIfInBounds,Array.size_setIfInBounds,Array.size_setIfInBounds];omega)]
  ·rw[List.getElem?_set_self (by omega)];exact hT _ _ ht
 ·obtain ⟨k',z',vw,vb,vk,e0,e1,e2,e3,e4,ht'⟩:=hc i hi;have hne:∀p q,p<5→q<5→¬(j*5+p=i*5+q):=fun p q hp hq=>by omega
  have hs:∀q,q<5→(((((cur.setIfInBounds (j*5) (.int .i64 k)).setIfInBounds (j*5+1) (.int .i64 z)).setIfInBounds (j*5+2) a).setIfInBounds (j*5+3) vb').setIfInBounds (j*5+4) c)[i*5+q]? = cur[i*5+q]? := fun q hq=>by
   rw[Array.getElem?_setIfInBounds_ne (hne 4 q (by omega) hq),Array.getElem?_setIfInBounds_ne (hne 3 q (by omega) hq),Array.getElem?_setIfInBounds_ne (hne 2 q (by omega) hq),Array.getElem?_setIfInBounds_ne (hne 1 q (by omega) hq),Array.getElem?_setIfInBounds_ne (by have:=hne 0 q (by omega) hq;omega)]
  refine ⟨k',z',vw,vb,vk,(hs 0 (by omega)).trans e0,(hs 1 (by omega)).trans e1,(hs 2 (by omega)).trans e2,(hs 3 (by omega)).trans e3,(hs 4 (by omega)).trans e4,?_⟩;rw[List.getElem?_set_ne (fun e'=>e e'.symm)]
  exact hT _ _ ht'
theorem NRow.kids {w:World} {base g:Nat} {ks:List Tr} (h:NRow w base g ks):KidsP w (fun b=>base≤b∧b<w.heap.size) g 0 ks:=by
 obtain ⟨h1,h2,cur,hh,hz,hc⟩:=h;refine KidsP.of ks 0 (fun j hj=> ?_)
 obtain ⟨k,z,vw,vb,vk,e0,e1,e2,e3,e4,ht⟩:=hc j hj;rw[List.getElem?_eq_getElem hj,Option.getD_some] at ht;refine ⟨k,z,vw,vb,vk,?_,?_,?_,?_,?_,TrP.mono (fun b hb=>⟨hb.1,hb.2.1⟩) _ _ ht⟩
 all_goals rw[Nat.zero_add]
 ·simp[World.cell?,hh,e0]
 ·simp[World.cell?,hh,e1]
 ·simp[World.cell?,hh,e2]
 ·simp[World.cell?,hh,e3]
 ·simp[World.cell?,hh,e4]
def cutB (l:List Int) (n t:Nat):List Int:=(List.range n).map (fun (i:Nat)=>if i<8*t then l[i / 8]?.getD 0 / 2 ^ (8*(i % 8)) % 256 else 0)
theorem cutB_length (l:List Int) (n t:Nat):(cutB l n t).length=n:=by simp[cutB]
theorem cutB_zero (l:List Int) (n:Nat):cutB l n 0=List.replicate n 0:=by
 unfold cutB;refine List.ext_getElem (by simp) (fun i h1 h2=> ?_)
 simp
theorem cutB_get (l:List Int) {n t i:Nat} (h:i<n):(cutB l n t)[i]? = some (if i<8*t then l[i / 8]?.getD 0 / 2 ^ (8*(i % 8)) % 256 else 0):=by
 unfold cutB;rw[List.getElem?_map,List.getElem?_range h]
 rfl
theorem putL_at (x:Int) {k:Nat} (h:k<8):(putL x 8)[k]? = some (x / 2 ^ (8*k) % 256):=by
 unfold putL byteAt;rw[List.getElem?_map,List.getElem?_range h]
 rfl
theorem cutB_next (l:List Int) {n t:Nat} (h:8*t<n):splice (cutB l n t) (8*t) ((putL (l[t]?.getD 0) 8).take (min 8 (n - 8*t)))=cutB l n (t+1):=by
 have hk:((putL (l[t]?.getD 0) 8).take (min 8 (n - 8*t))).length=min 8 (n - 8*t):=by rw[List.length_take,putL_length];omega
 refine List.ext_getElem? (fun i=> ?_)
 unfold splice
 by_cases hi:i<n
 ·rw[cutB_get l hi];have hT:((cutB l n t).take (8*t)).length=8*t:=by rw[List.length_take,cutB_length];omega
  by_cases h1:i<8*t
  ·rw[List.getElem?_append_left (by rw[hT];exact h1),List.getElem?_take_of_lt h1,cutB_get l hi,if_pos h1,if_pos (by omega)]
  ·rw[List.getElem?_append_right (by rw[hT];omega),hT]
   by_cases h2:i<8*t+8
   ·rw[List.getElem?_append_left (by rw[hk];omega),List.getElem?_take_of_lt (by omega),putL_at _ (by omega),if_pos (by omega),show i / 8=t by omega,show i % 8=i - 8*t by omega]
   ·rw[List.getElem?_append_right (by rw[hk];omega),hk,List.getElem?_drop,show 8*t+min 8 (n - 8*t)+(i - 8*t - min 8 (n - 8*t))=i by omega,cutB_get l hi,if_neg h1,if_neg (by omega)]
 ·rw[List.getElem?_eq_none (by rw[List.length_append,List.length_append,List.length_take,List.length_drop,cutB_length,hk];omega),List.getElem?_eq_none (by rw[cutB_length];omega)]
theorem copy_part (w:World) (g M o ty:Nat) (A:Option Addr) (c B:Nat) (l bs:List Int) (hg:RowB w g l) (hl:l.length=M) (ho:o<M) (h:Bytes w B (.slice A 8 c) bs) (hb:bs.length=8) :
  ∃w3,(Builtin.copy_ #[24,24] ty #[.slice (some ⟨g,o,none⟩) (M - o) (M - o),.slice A 8 c]).run Tryz.prog w= .ok (.int .i64 ((min 8 (M - o):Nat):Int)) w3∧RowB w3 g (splice l o (bs.take (min 8 (M - o))))∧w.grownBy w3 (some g):=by
 obtain ⟨s1,s2⟩:=h.source g 8 (Nat.le_refl _);obtain ⟨_,ad,rfl,hsrc⟩:=s2 (by rw[List.length_map];omega);have hk:(bs.take (min 8 (M - o))).length=min 8 (M - o):=by rw[List.length_take];omega
 have s3:((bs.take (min 8 (M - o))).map (Value.int .u8)).length=Nat.min 8 (M - o):=by rw[List.length_map,hk]
 have hsrc2:∀j v,((bs.take (min 8 (M - o))).map (Value.int .u8))[j]? = some v→w.cell? (ad.add j)=some v:=fun j v hv=>by
  refine hsrc j v ?_
  rw[List.getElem?_map] at hv ⊢;have hj:j<min 8 (M - o):=by
   rw[Option.map_eq_some_iff] at hv;obtain ⟨x,hx,-⟩:=hv;have:=(List.getElem?_eq_some_iff.1 hx).1;rw[hk] at this;exact this
  rwa [List.getElem?_take_of_lt hj] at hv
 have hrun:=run_copy_row (P:=Tryz.prog) w 24 24 ty 5 g o (M - o) (M - o) ad 8 c _ 5 ((bs.take (min 8 (M - o))).map (Value.int .u8)) Tryz.underlying24 (by kernel_rfl) hg s3 hsrc2 (by simp;omega) (ones_cells _);rw[List.length_map,hk] at hrun;refine ⟨_,hrun,?_,⟨rfl,rfl,rfl,by simp[World.setRow],fun k _ hne=>setRow_other w g k _ (fun e=>hne (by rw[e]))⟩⟩
 have h2:=setRow_heap w g _ ((((l.map (Value.int .u8)).toArray).toList.take o ++ (bs.take (min 8 (M - o))).map (Value.int .u8) ++ ((l.map (Value.int .u8)).toArray).toList.drop (o+min 8 (M - o))).toArray) 5 (0,0) hg;unfold RowB;rw[h2];unfold splice;rw[hk]
 simp
set_option maxHeartbeats 1000000 in
theorem dcut_any (v:Value) (l:List Int) (n:Nat) (w:World) (h:NumS .u64 w w.heap.size v l) (hl:l.length=(n+7) / 8) (hn:n≤1000000) :
  Calls Tryz.prog 138 #[v,.int .i64 (n:Int)] w fun e w'=>∃g,e= .returned (.slice (some ⟨g,0,none⟩) n n)∧w.heap.size≤g∧RowB w' g (cutB l n l.length)∧Below w.heap.size w w':=by
 have hmk:=run_make_row' (P:=Tryz.prog) 24 5 (.int .u8 0) 1 Tryz.underlying24 Tryz.info5 rfl .i64 .i64 n (by omega) (by omega);obtain ⟨A,c,rfl,hc,hcm,hr⟩:=h;have H:=LH hr;obtain ⟨len,hlen⟩:∃k,k=l.length:=⟨_,rfl⟩;rw[←hlen] at hc hl ⊢;have HLn:=LH hlen;have hr1:=RowB.made w n;have hB1:Below w.heap.size w (w.alloc (.cells (madeCells #[Value.int .u8 0] n) 5)):=(Below.refl _ _).alloc (Nat.le_refl _) _;obtain ⟨W1,hW1⟩:∃W1,W1=w.alloc (.cells (madeCells #[Value.int .u8 0] n) 5):=⟨_,rfl⟩;rw[←hW1] at hr1 hB1;have HR1:=LH hr1;have HB1:=LH hB1;have HL:=LH hl;clear hr hlen hr1 hB1 hl;go_enter Tryz.func138,Tryz.ntmps138
 go_wp2_with fail
 rw[←hW1];clear hW1 hmk
 go_loopw [6,7,12] (fun _ _ i wr=>∃t:Nat,t≤len∧i= .int .i64 t∧RowB wr w.heap.size (cutB l n t)∧Below w.heap.size w wr) (fun _ _ i _=>len - (intOf i).toNat)
 case atStart=>exact ⟨0,by omega,rfl,by rw[cutB_zero];exact HR1.out,HB1.out⟩
 case round =>
  obtain ⟨t,ht,rfl,hrr,hB⟩:=hrel;have HR:=LH hrr;have HB:=LH hB;clear hrr hB
  by_cases hlt:t<len
  ·have i1:(t:Int)<(len:Int):=by omega
   obtain ⟨b,off,rfl,hbB,hcell⟩:=H.out (by rw[←HLn.out];omega);have p1:=(HB.out.cell (p:=⟨b,off+t,none⟩) hbB).trans (hcell t (by rw[←HLn.out];exact hlt));clear hcell;obtain ⟨x,hx⟩:∃x,l[t]?.getD 0=x:=⟨_,rfl⟩;have hM:8*t<n:=by have:=HL.out;omega
   have HNx:=LH (cutB_next l hM);rw[hx] at p1 HNx;clear hx;have n1:(8*(t:Int)).toNat=8*t:=by omega
   have n2:(0:Int)≤8*(t:Int):=by omega
   have n3:8*(t:Int)≤(n:Int):=by omega
   have n4:¬n=8*t:=by omega
   have n5:IntKind.i64.wrap (8*(t:Int))=8*(t:Int):=IntWalk.i64_in _ (by omega);have HPut:=put_any x 8 wr.drew;rw[show clip8 8=8 by decide] at HPut
   have HPu:=LH HPut;clear HPut;have HT0:Below wr.heap.size wr wr.drew:=(Below.refl _ _).drew;have HCp:=LH (fun (w2:World) (hB:Below wr.heap.size wr w2) A c B h=>copy_part w2 w.heap.size n (8*t) 3 A c B (cutB l n t) (putL x 8) (HR.out.below hB HR.out.lt) (cutB_length _ _ _) hM h (putL_length x 8))
   go_upto_region 5 with fail
   go_region_held3 (fun _=>True) (trivial) (first
    | (go_at_call 161;with_reducible refine HPu.out.mono ?_;rintro e w6 ⟨v6,rfl,hby,hB6⟩;have hT2:=bseq' HT0 hB6;obtain ⟨A6,c6,rfl⟩:=hby.form (putL_length x 8);obtain ⟨w7,hrun,hr7,hg7⟩:=HCp.out w6 hT2 _ _ _ hby;have HRun:=LH hrun;have HR7:=LH (And.intro hr7 hg7);clear hrun hr7 hg7 hby)
    | (rw[HRun.out]))
   all_goals
    have HR8:Hid (RowB w7 w.heap.size (cutB l n (t+1))):=LH (by rw[←HNx.out];exact HR7.out.1);have HB8:Hid (Below w.heap.size w w7):=LH ((HB.out.trans (hT2.mono HB.out.size)).grown HR7.out.2 (Nat.le_trans HB.out.size hT2.size) (fun k e=>by cases e;exact Nat.le_refl _))
    clear HR7 HRun
    go_wp2_with fail
    go_roundw
    case rel=>exact ⟨t+1,by omega,by go_num,HR8.out,HB8.out⟩
    case measure=>simp[intOf];omega
  ·obtain rfl:t=len:=by omega
   go_wp2_with fail
   go_ret;exact ⟨_,rfl,Nat.le_refl _,HR.out,HB.out⟩
end Go.Proofs.YtmmlfnblodfjbaaGreatDoor
