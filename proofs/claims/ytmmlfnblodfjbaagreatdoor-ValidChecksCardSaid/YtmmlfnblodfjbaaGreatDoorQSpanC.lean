/- Layer 4: how the program's sort compares two spans: cmp.Compare, cmp.Or, the closure of sorted. -/
import Derived.Test.YtmmlfnblodfjbaaGreatDoorQSpanB
import Derived.Lib.Small
import Derived.Sort.Grow
import Derived.Shelf.SlSortCmp.InsertionK
import Derived.Shelf.SlLaysF0
import Derived.Test.YtmmlfnblodfjbaaGreatDoorProg
import Derived.Shelf.SlSortCmp.WholeK
set_option maxRecDepth 100000
namespace Go.Proofs.YtmmlfnblodfjbaaGreatDoor
open Go.RowKit Go.Deep Go.Sort
set_option maxHeartbeats 400000 in
theorem cmp_any (x y:Int) (w:World):Calls Tryz.prog 107 #[.int .i64 x,.int .i64 y] w fun e w'=>e= .returned (.int .i64 (Lib.compareInt x y))∧w'=w:=by
 unfold Lib.compareInt
 by_cases h1:x<y
 ·have d1:decide (x<y)=true:=decide_eq_true h1;rw[if_pos h1];go_enter Tryz.func107,Tryz.ntmps107
  go_wp2
  go_ret;exact ⟨rfl,rfl⟩
 ·have d1:decide (x<y)=false:=decide_eq_false h1;rw[if_neg h1]
  by_cases h2:y<x
  ·have d2:decide (y<x)=true:=decide_eq_true h2;rw[if_pos h2];go_enter Tryz.func107,Tryz.ntmps107
   go_wp2
   go_ret;exact ⟨rfl,rfl⟩
  ·have d2:decide (y<x)=false:=decide_eq_false h2;rw[if_neg h2];go_enter Tryz.func107,Tryz.ntmps107
   go_wp2
   go_ret;exact ⟨rfl,rfl⟩
def orI (p q:Int):Int:=if p=0 then q else p
set_option maxHeartbeats 400000 in
theorem or_any (p q:Int) (b:Nat) (w:World) (c0:w.cell? ⟨b,0,none⟩=some (.int .i64 p)) (c1:w.cell? ⟨b,1,none⟩=some (.int .i64 q)) :
  Calls Tryz.prog 106 #[.slice (some ⟨b,0,none⟩) 2 2] w fun e w'=>e= .returned (.int .i64 (orI p q))∧w'=w:=by
 unfold orI
 by_cases h1:p=0
 ·subst h1;rw[if_pos rfl]
  by_cases h2:q=0
  ·subst h2;go_enter Tryz.func106,Tryz.ntmps106
   go_wp2
   refine wp_loop_rounds 3 ?_
   rw[rounds_succ]
   go_wp2
   rw[rounds_succ]
   go_wp2
   rw[rounds_succ]
   go_wp2
   go_ret;exact ⟨rfl,rfl⟩
  ·have d2:(q == 0)=false:=by simpa using h2
   go_enter Tryz.func106,Tryz.ntmps106
   go_wp2
   refine wp_loop_rounds 3 ?_
   rw[rounds_succ]
   go_wp2
   rw[rounds_succ]
   go_wp2
   go_ret;exact ⟨rfl,rfl⟩
 ·have d2:(p == 0)=false:=by simpa using h1
  rw[if_neg h1];go_enter Tryz.func106,Tryz.ntmps106
  go_wp2
  refine wp_loop_rounds 3 ?_
  rw[rounds_succ]
  go_wp2
  go_ret;exact ⟨rfl,rfl⟩
def cmpS (x y:Sp):Int:=orI (Lib.compareInt x.1 y.1) (Lib.compareInt x.2 y.2)
set_option maxHeartbeats 1000000 in
theorem cmpS_any (x y:Sp) (w:World):Calls Tryz.prog 105 #[.agg #[.int .i64 x.1,.int .i64 x.2],.agg #[.int .i64 y.1,.int .i64 y.2]] w fun e w'=>e= .returned (.int .i64 (cmpS x y))∧∃q os',w'=grow (w.drewN q) os':=by
 obtain ⟨a,b⟩:=x;obtain ⟨a',b'⟩:=y;obtain ⟨r,hr⟩:∃r,cmpS (a,b) (a',b')=r:=⟨_,rfl⟩;rw[hr];have HR:=LH hr;clear hr;obtain ⟨c0,c1⟩:=(Box2.new w a b).cells;go_enter Tryz.func105,Tryz.ntmps105
 go_wp2
 have e0:((w.alloc (.cells #[.int .i64 a,.int .i64 b] 67)).alloc (.cells #[.int .i64 a',.int .i64 b'] 67))=grow w #[.cells #[.int .i64 a,.int .i64 b] 67,.cells #[.int .i64 a',.int .i64 b'] 67]:=by rw[alloc_eq_grow,alloc_eq_grow,grow_grow];rfl
 have b0:Box2 ((w.alloc (.cells #[.int .i64 a,.int .i64 b] 67)).alloc (.cells #[.int .i64 a',.int .i64 b'] 67)) w.heap.size a b:=(Box2.new w a b).of_block (Below.heap_alloc _ _ _ (by simp));have b1:Box2 ((w.alloc (.cells #[.int .i64 a,.int .i64 b] 67)).alloc (.cells #[.int .i64 a',.int .i64 b'] 67)) (w.heap.size+1) a' b':=by have:=Box2.new (w.alloc (.cells #[.int .i64 a,.int .i64 b] 67)) a' b';rwa [show (w.alloc (.cells #[.int .i64 a,.int .i64 b] 67)).heap.size=w.heap.size+1 by simp] at this
 generalize ((w.alloc (.cells #[.int .i64 a,.int .i64 b] 67)).alloc (.cells #[.int .i64 a',.int .i64 b'] 67))=W at *
 clear c0 c1;obtain ⟨c0,c1⟩:=b0.cells;obtain ⟨c2,c3⟩:=b1.cells;have HE:=LH e0;clear e0 b0 b1;refine wp_region_still_tail 10 (by kernel_rfl) (by kernel_rfl) ?_
 simp only[List.take_succ_cons,List.take_zero,List.drop_succ_cons,List.drop_zero]
 repeat still_step
 still_call (cmp_any a a' _)
 repeat still_step
 still_call (cmp_any b b' _)
 refine wpStill_nil ?_
 change wpList _ _ _ _ _ W.drew
 have HE2:Hid (W.drew=grow (w.drewN 1) #[.cells #[.int .i64 a,.int .i64 b] 67,.cells #[.int .i64 a',.int .i64 b'] 67]):=LH (by rw[HE.out];rfl);generalize W.drew=W2 at *
 clear c0 c1 c2 c3;have HR2:Hid (orI (Lib.compareInt a a') (Lib.compareInt b b')=r):=HR;clear HR;generalize Lib.compareInt a a'=p at *
 generalize Lib.compareInt b b'=q at *
 have c0:(W2.alloc (.cells #[.int .i64 p,.int .i64 q] 3)).cell? ⟨W2.heap.size,0,none⟩=some (.int .i64 p):=by simp
 have c1:(W2.alloc (.cells #[.int .i64 p,.int .i64 q] 3)).cell? ⟨W2.heap.size,1,none⟩=some (.int .i64 q):=by simp
 have HC:=LH (or_any p q _ _ c0 c1);clear c0 c1
 go_wp2_with (go_at_call 106;refine (HC.out).mono ?_;rintro e w' ⟨rfl,rfl⟩)
 go_ret;exact ⟨by rw[←HR2.out];rfl,1,_,by rw[alloc_eq_grow,HE2.out,grow_grow]⟩
theorem append_spans (w:World) (base ty:Nat) (v:Value) (l m:List Sp) (A:Addr) (c B:Nat) (hs:Spans w B (.slice (some A) m.length c) m) (hown:OwnS w base v l) (hk:l.length+m.length≤1000000000) (hbase:base≤w.heap.size) :
  ∃v' w',(Builtin.append_ #[49,49] ty #[v,.slice (some A) m.length c]).run Tryz.prog w= .ok v' w'∧OwnS w' base v' (l ++ m)∧w.grownBy w' v.ownBlock:=by
 obtain ⟨i0,hi,hz0,hz1,hz2⟩:=info_parts Tryz.info67;obtain ⟨A',c',e,hc,hm,hr⟩:=hs;cases e
 obtain ⟨v',w',hrun,ho,hg,_⟩:=run_append_own (P:=Tryz.prog) (w:=w) base 49 ty 67 i0 _ 2 16 Tryz.underlying49 hi hz0 hz1 hz2 rfl (by decide) v l.length (cellsS l) hown A m.length c (cellsS m) (cellsS_length m)
  (fun j u hu=>by
   have hj:j<m.length*2:=by
    have:=(List.getElem?_eq_some_iff.1 hu).1
    rwa [cellsS_length] at this
   obtain ⟨b,off,ea,_,hcell⟩:=hr (by omega);cases ea
   have h1:=hcell (j / 2) (by omega);have h2:=cellsS_get m (j / 2) (by omega);have e1:(⟨b,off,none⟩:Addr).add j=⟨b,off+j,none⟩:=by simp[Addr.add]
   rw[e1]
   rcases Nat.mod_two_eq_zero_or_one j with h | h
   ·have ej:j / 2*2=j:=by omega
    rw[ej] at h1 h2;rw[h1.1,←h2.1,hu]
   ·have ej:j / 2*2+1=j:=by omega
    rw[Nat.add_assoc,ej] at h1;rw[ej] at h2;rw[h1.2,←h2.2,hu])
  (fun u hu=>by simp only[cellsS,List.mem_flatMap] at hu;obtain ⟨s,_,hu⟩:=hu;simp at hu;rcases hu with rfl | rfl <;> rfl) (by unfold maxLen;omega) (by omega) (by omega)
 refine ⟨v',w',hrun,?_,hg⟩;unfold OwnS;rw[show cellsS (l ++ m)=cellsS l ++ cellsS m by simp[cellsS],List.length_append]
 exact ho
set_option maxHeartbeats 1000000 in
theorem clone_any (v:Value) (l:List Sp) (w:World) (h:Spans w w.heap.size v l) (hlen:l.length≤1000000) :
  Calls Tryz.prog 103 #[v] w fun e w'=>∃v',e= .returned v'∧OwnS w' w.heap.size v' l∧Below w.heap.size w w':=by
 have q22:∀(w:World) (a:Option Addr) (n c n' c':Nat),(binOp .eql 49 (.slice a n c) (.slice none n' c')).run Tryz.prog w= .ok (.bool a.isNone) w:=fun w a n c n' c'=>Lib.run_eql_slice_nil w _ _ a n c n' c' Tryz.underlying49
 have h0:=h;obtain ⟨A,c,rfl,hc,hm,hr⟩:=h;cases A with
 | none =>
  have hl:l=[]:=by
   rcases Nat.eq_zero_or_pos l.length with h | h
   ·exact List.eq_nil_of_length_eq_zero h
   ·obtain ⟨b,off,e,_⟩:=hr h;cases e
  subst hl;clear hr h0;go_enter Tryz.func103,Tryz.ntmps103
  go_wp2
  go_ret;exact ⟨_,rfl,OwnS.nil _ _,Below.refl _ _⟩
 | some A =>
  have hB:Below w.heap.size w (w.alloc (.cells #[] 67)):=(Below.refl _ _).alloc (Nat.le_refl _) _;have hO:OwnS (w.alloc (.cells #[] 67)) w.heap.size (.slice (some ⟨w.heap.size,0,none⟩) 0 0) []:=World.ownsRow_made w #[] 0 (Nat.le_refl _) (Nat.zero_le _) (by simp);obtain ⟨v',w',hrun,ho',hg'⟩:=append_spans _ w.heap.size 49 _ [] l A c _ (h0.below hB (Nat.le_refl _)) hO (by simp;omega) hB.size;have HRun:=LH hrun;have HO:=LH ho';have HB:=LH (hB.grown (B:=w.heap.size) hg' hB.size (fun k e=>by cases e;exact Nat.le_refl _))
  obtain ⟨n,hn⟩:∃n,n=l.length:=⟨_,rfl⟩;rw[←hn] at HRun;rw[←hn];clear hr h0 hB hO hrun ho' hg' hn hc;go_enter Tryz.func103,Tryz.ntmps103
  go_wp2_with (at_builtin;refine Lib.wpList_append_run _ rfl _ _ _ _ rfl _ _ rfl rfl _ _ HRun.out ?_)
  go_ret;exact ⟨_,rfl,HO.out,HB.out⟩
def encS (s:Sp):List Value:=[.int .i64 s.1,.int .i64 s.2]
theorem flat_cells (l:List Sp):(flatK encS 2 l.toArray).toList=cellsS l:=by
 apply List.ext_getElem?
 intro t
 by_cases ht:t<l.length*2
 ·have hg:=get_flatK encS 2 l.toArray t (by simpa using ht);rw[getElem!_pos _ _ (by simpa using ht)] at hg;rw[Array.getElem?_toList,Array.getElem?_eq_getElem (by simpa using ht),hg];have h2:=cellsS_get l (t / 2) (by omega);have hd:l.toArray[t / 2]! = l[t / 2]?.getD (0,0):=by rw[getElem!_pos l.toArray (t / 2) (by simp;omega),List.getElem?_eq_getElem (by omega)];simp
  rw[hd]
  rcases Nat.mod_two_eq_zero_or_one t with h | h
  ·rw[h];rw[show t / 2*2=t by omega] at h2
   rw[h2.1];rfl
  ·rw[h];rw[show t / 2*2+1=t by omega] at h2
   rw[h2.2];rfl
 ·rw[List.getElem?_eq_none (by simp;omega),List.getElem?_eq_none (by rw[cellsS_length];omega)]
theorem holds_own {w:World} {base g cap n:Nat} {l:List Sp} (h:OwnS w base (.slice (some ⟨g,0,none⟩) n cap) l) (hn:l.length=n):HoldsK encS 2 w g 0 l.toArray:=by
 subst hn;intro j hj;have hj':j<l.length*2:=by simpa using hj
 refine ⟨?_,World.ownsRow.frozenAt h _⟩;rw[Nat.zero_add,World.ownsRow.cellAt h j hj',←flat_cells,Array.getElem?_toList,getElem!_pos (flatK encS 2 l.toArray) j hj,Array.getElem?_eq_getElem hj]
 rfl
theorem own_sorted {w:World} {base g cap n q:Nat} {l m:List Sp} {os:Array Obj} (h:OwnS w base (.slice (some ⟨g,0,none⟩) n cap) l) (hn:l.length=n) (hm:m.length=n) :
  OwnS (sortWorldK encS 2 w g 0 q m.toArray os) base (.slice (some ⟨g,0,none⟩) n cap) m∧w.grownBy (sortWorldK encS 2 w g 0 q m.toArray os) (some g):=by
 subst hn;obtain ⟨h1,⟨e0,_⟩ | ⟨g',cap',cur,e0,hb,hg,hc,hmx,hs,ht⟩⟩:=h
 ·cases e0
 ·cases e0
  have hgl:g<w.heap.size:=(Array.getElem?_eq_some_iff.1 hg).1;have hfs:(flatK encS 2 m.toArray).size=l.length*2:=by simp[hm]
  have hgrow:w.grownBy (sortWorldK encS 2 w g 0 q m.toArray os) (some g):=by
   refine ⟨rfl,rfl,rfl,by simp[sortWorldK,putRowK,putRow,mapBlock,Sort.ahead,grow],fun k hk hne=> ?_⟩
   unfold sortWorldK putRowK;rw[heap_grow_old _ _ (by simpa using hk)];have:g≠k:=fun e=>hne (by rw[e])
   simp[putRow,mapBlock,Sort.ahead,Array.getElem?_modify,this]
  refine ⟨⟨by rw[cellsS_length],.inr ⟨g,cap,putCells id 0 (flatK encS 2 m.toArray) cur,by rw[hm],hb,?_,by rw[hm];exact hc,hmx,by simp[putCells,hs],?_⟩⟩,hgrow⟩
  ·unfold sortWorldK putRowK;rw[heap_grow_old _ _ (by simpa using hgl)]
   simp[putRow,mapBlock,Sort.ahead,Array.getElem?_modify,hg,onCells]
  ·rw[←flat_cells m]
   apply List.ext_getElem?
   intro j;rw[hm]
   by_cases hj:j<l.length*2
   ·rw[List.getElem?_take_of_lt hj,Array.getElem?_toList,Array.getElem?_toList];have hjc:j<cur.size:=by rw[hs];have:=Nat.mul_le_mul_right 2 hc;omega
    simp only[putCells,Array.getElem?_mapIdx,Array.getElem?_eq_getElem hjc,Option.map_some];rw[if_pos (by rw[hfs];omega),Array.getElem?_eq_getElem (by rw[hfs];exact hj),Nat.sub_zero,getElem!_pos (flatK encS 2 m.toArray) j (by rw[hfs];exact hj)]
    rfl
   ·rw[List.getElem?_take_eq_none (by omega),List.getElem?_eq_none (by simp[hm];omega)]
end Go.Proofs.YtmmlfnblodfjbaaGreatDoor
namespace Go.Proofs
open Go.Shelf
def Tryz.sortSpan_ren:Go.Shelf.Ren:=⟨fun | 6=>104 | 15=>134 | 14=>133 | 28=>159 | 29=>160 | 20=>151 | 21=>152 | 22=>153 | 23=>154 | 24=>155 | 25=>156 | 26=>157 | 27=>158 | 46=>166 | 47=>167 | 48=>168 | 49=>169 | 50=>170 | 57=>175 | n=>n,fun | 22=>49 | 24=>67 | 25=>169 | 3=>3 | 39=>74 | 0=>0 | 53=>221 | 55=>44 | 4=>4 | 46=>215 | 45=>214 | 50=>159 | 5=>5 | 9=>9 | 66=>228 | 70=>232 | 76=>237 | 77=>177 | n=>n,fun | n=>n⟩
theorem Tryz.sortSpan:Go.Proofs.SlLaysF0.n6 Tryz.prog Tryz.sortSpan_ren:={
 mixed:=by kernel_rfl
 f6:=⟨Tryz.f104.name,by decide,Tryz.func104.trans (congrArg some (by kernel_rfl))⟩
 f14:=⟨Tryz.f133.name,by decide,Tryz.func133.trans (congrArg some (by kernel_rfl))⟩
 f15:=Tryz.func134.trans (congrArg some (by kernel_rfl))
 f20:=⟨Tryz.f151.name,by decide,Tryz.func151.trans (congrArg some (by kernel_rfl))⟩
 f21:=⟨Tryz.f152.name,by decide,Tryz.func152.trans (congrArg some (by kernel_rfl))⟩
 f22:=⟨Tryz.f153.name,by decide,Tryz.func153.trans (congrArg some (by kernel_rfl))⟩
 f23:=⟨Tryz.f154.name,by decide,Tryz.func154.trans (congrArg some (by kernel_rfl))⟩
 f24:=⟨Tryz.f155.name,by decide,Tryz.func155.trans (congrArg some (by kernel_rfl))⟩
 f25:=⟨Tryz.f156.name,by decide,Tryz.func156.trans (congrArg some (by kernel_rfl))⟩
 f26:=⟨Tryz.f157.name,by decide,Tryz.func157.trans (congrArg some (by kernel_rfl))⟩
 f27:=⟨Tryz.f158.name,by decide,Tryz.func158.trans (congrArg some (by kernel_rfl))⟩
 f28:=Tryz.func159.trans (congrArg some (by kernel_rfl))
 f29:=Tryz.func160.trans (congrArg some (by kernel_rfl))
 f46:=⟨Tryz.f166.name,by decide,Tryz.func166.trans (congrArg some (by kernel_rfl))⟩
 f47:=Tryz.func167.trans (congrArg some (by kernel_rfl))
 f48:=Tryz.func168.trans (congrArg some (by kernel_rfl))
 f49:=⟨Tryz.f169.name,by decide,Tryz.func169.trans (congrArg some (by kernel_rfl))⟩
 f50:=⟨Tryz.f170.name,by decide,Tryz.func170.trans (congrArg some (by kernel_rfl))⟩
 f57:=⟨Tryz.f175.name,by decide,Tryz.func175.trans (congrArg some (by kernel_rfl))⟩
 t0:=Tryz.underlying0
 a0:=Tryz.isAgg0
 z0:=Tryz.sizeOf0
 v0:=Tryz.zeroValue0
 t3:=Tryz.underlying3
 a3:=Tryz.isAgg3
 z3:=Tryz.sizeOf3
 v3:=Tryz.zeroValue3
 t4:=Tryz.underlying4
 a4:=Tryz.isAgg4
 z4:=Tryz.sizeOf4
 v4:=Tryz.zeroValue4
 t5:=Tryz.underlying5
 a5:=Tryz.isAgg5
 z5:=Tryz.sizeOf5
 v5:=Tryz.zeroValue5
 t9:=Tryz.underlying9
 a9:=Tryz.isAgg9
 z9:=Tryz.sizeOf9
 v9:=Tryz.zeroValue9
 t22:=Tryz.underlying49
 a22:=Tryz.isAgg49
 z22:=Tryz.sizeOf49
 v22:=Tryz.zeroValue49
 t25:=Tryz.underlying169
 a25:=Tryz.isAgg169
 z25:=Tryz.sizeOf169
 v25:=Tryz.zeroValue169
 t39:=Tryz.underlying74
 a39:=Tryz.isAgg74
 z39:=Tryz.sizeOf74
 v39:=Tryz.zeroValue74
 t45:=Tryz.underlying214
 a45:=Tryz.isAgg214
 z45:=Tryz.sizeOf214
 v45:=Tryz.zeroValue214
 t46:=Tryz.underlying215
 a46:=Tryz.isAgg215
 z46:=Tryz.sizeOf215
 v46:=Tryz.zeroValue215
 t50:=Tryz.underlying159
 a50:=Tryz.isAgg159
 z50:=Tryz.sizeOf159
 v50:=Tryz.zeroValue159
 t53:=Tryz.underlying221
 a53:=Tryz.isAgg221
 z53:=Tryz.sizeOf221
 v53:=Tryz.zeroValue221
 t55:=Tryz.underlying44
 a55:=Tryz.isAgg44
 z55:=Tryz.sizeOf44
 v55:=Tryz.zeroValue44
 t66:=Tryz.underlying228
 a66:=Tryz.isAgg228
 z66:=Tryz.sizeOf228
 v66:=Tryz.zeroValue228
 t70:=Tryz.underlying232
 a70:=Tryz.isAgg232
 z70:=Tryz.sizeOf232
 v70:=Tryz.zeroValue232
 t76:=Tryz.underlying237
 a76:=Tryz.isAgg237
 z76:=Tryz.sizeOf237
 v76:=Tryz.zeroValue237
 t77:=Tryz.underlying177
 a77:=Tryz.isAgg177
 z77:=Tryz.sizeOf177
 v77:=Tryz.zeroValue177}
end Go.Proofs
namespace Go.Proofs.YtmmlfnblodfjbaaGreatDoor
open Go.RowKit Go.Deep Go.Sort
theorem compare_lt (x y:Int):Lib.compareInt x y<0↔x<y:=by
 unfold Lib.compareInt
 split
 ·exact ⟨fun _=>by assumption,fun _=>by decide⟩
 ·split <;> constructor <;> intro h <;> first | omega | exact absurd h (by decide)
theorem compare_zero (x y:Int):Lib.compareInt x y=0↔x=y:=by
 unfold Lib.compareInt
 split
 ·exact ⟨fun h=>absurd h (by decide),fun _=>by omega⟩
 ·split
  ·exact ⟨fun h=>absurd h (by decide),fun _=>by omega⟩
  ·exact ⟨fun _=>by omega,fun _=>rfl⟩
theorem ltS (x y:Sp):ltOf cmpS x y=decide (x.1<y.1∨(x.1=y.1∧x.2<y.2)):=by
 have a1:=compare_lt x.1 y.1;have a2:=compare_zero x.1 y.1;have a3:=compare_lt x.2 y.2;unfold ltOf cmpS orI
 congr 1
 apply propext
 split
 ·rename_i h;have:=a2.1 h;rw[a3];omega
 ·rename_i h;rw[a1];constructor
  ·exact .inl
  ·rintro (h2 | ⟨h2,_⟩)
   ·exact h2
   ·exact absurd (a2.2 h2) h
theorem swoS:SWO (ltOf cmpS) where
 irrefl x:=by rw[ltS];simp
 trans x y z h1 h2:=by rw[ltS] at *;simp only[decide_eq_true_eq] at *;omega
 ntrans x y z h1 h2:=by rw[ltS] at *;simp only[decide_eq_false_iff_not] at *;omega
theorem cmp_lays (blk off size:Nat) (w:World):CmpLays Tryz.prog 105 #[] encS 2 cmpS blk off size w :=
 fun _ _ _ _ x y=>cmpS_any x y _
set_option maxHeartbeats 1000000 in
theorem insertion_none (p:Option Addr) (cap:Nat) (fv:Value) (w:World):Calls Tryz.prog 151 #[.slice p 0 cap,.int .i64 0,.int .i64 0,fv] w fun e w'=>e= .returned (.tuple #[])∧w'=w:=by
 go_enter Tryz.func151,Tryz.ntmps151
 go_wp2
 refine wp_loop_rounds 1 ?_
 rw[rounds_succ]
 go_wp2
 go_end0
 exact ⟨rfl,rfl⟩
set_option maxHeartbeats 1000000 in
theorem pdq_none (p:Option Addr) (cap:Nat) (lim:Int) (fv:Value) (w:World):Calls Tryz.prog 133 #[.slice p 0 cap,.int .i64 0,.int .i64 0,.int .i64 lim,fv] w fun e w'=>e= .returned (.tuple #[])∧w'=w:=by
 go_enter Tryz.func133,Tryz.ntmps133
 go_wp2
 refine wp_loop_rounds 1 ?_
 rw[rounds_succ]
 go_wp2_with (go_at_call 151;refine (insertion_none _ _ _ _).mono ?_;rintro e w' ⟨rfl,rfl⟩)
 (try simp only[Exit.inBlock,Exit.then]);refine bodyPost_ret (results_none rfl _ _ _) rfl ?_
 exact ⟨rfl,rfl⟩
theorem len_zero (w:World):Calls Tryz.prog 134 #[.int .u64 0] w fun e w'=>e= .returned (.int .i64 (Lib.bitLen 0:Nat))∧w'=w :=
 Any.bits_Len (SlLaysF0.n15.bits (P:=Tryz.prog) (ρ := Tryz.sortSpan_ren) {Tryz.sortSpan with}) 0 w (by omega) (by omega)
set_option maxHeartbeats 1000000 in
theorem sort_none (p:Option Addr) (cap:Nat) (fv:Value) (w:World):Calls Tryz.prog 104 #[.slice p 0 cap,fv] w fun e w'=>e= .returned (.tuple #[])∧w'=w:=by
 have hl:=fun W=>len_zero W
 generalize (Lib.bitLen 0:Nat)=k at hl;go_enter Tryz.func104,Tryz.ntmps104
 go_wp2_with (first | (go_at_call 134;refine (hl _).mono ?_;rintro e w' ⟨rfl,rfl⟩) | (go_at_call 133;refine (pdq_none _ _ _ _ _).mono ?_;rintro e w' ⟨rfl,rfl⟩))
 go_end0
 exact ⟨rfl,rfl⟩
theorem sort_any (base g cap n:Nat) (l:List Sp) (w:World) (h:OwnS w base (.slice (some ⟨g,0,none⟩) n cap) l) (hn:l.length=n) (hlen:n≤1000000) :
  Calls Tryz.prog 104 #[.slice (some ⟨g,0,none⟩) n cap,.func (.func 105) #[] #[]] w fun e w'=>e= .returned (.tuple #[]) ∧
   ∃m:List Sp,m.Perm l∧m.Pairwise (fun a b=>a.1≤b.1)∧OwnS w' base (.slice (some ⟨g,0,none⟩) n cap) m∧w.grownBy w' (some g):=by
 have eg:∀args w,(callFunc 105 args).run Tryz.prog w= .ok (.enter 105 args) w:=enters_of Tryz.func105 (by kernel_rfl) rfl;have hg:=World.ownsRow.lt h g rfl;have hcon:=AnyQ.slices_SortFunc Tryz.sortSpan 2 Tryz.isAgg67 Tryz.sizeOf67 encS (fun _=>rfl) (fun x v hv=>by simp[encS] at hv;rcases hv with rfl | rfl <;> rfl) cmpS swoS 105 #[] g 0 cap l.toArray w eg (cmp_lays g 0 _ w) (holds_own h hn) hg.2 (by simp;omega)
 have hsz:l.toArray.size=n:=by simpa using hn
 rw[hsz] at hcon;refine Calls.mono hcon ?_
 rintro e w' ⟨he,d',q,os,hp,hs,rfl⟩;have hsd:d'.size=n:=by rw[hp.1,hsz]
 have hperm:d'.toList.Perm l:=by
  have:=hp.2.2;rw[show d'.extract 0 n=d' by rw[←hsd];simp,show l.toArray.extract 0 n=l.toArray by rw[←hsz];simp] at this
  simpa using this
 have hd:d'=d'.toList.toArray:=by simp
 rw[hd];obtain ⟨o1,o2⟩:=own_sorted (q:=q) (os:=os) (m:=d'.toList) h hn (by simpa using hsd);refine ⟨he,d'.toList,hperm,?_,o1,o2⟩;rw[List.pairwise_iff_getElem];intro i j hi hj hij;have:=hs i j (Nat.zero_le _) hij (by simpa [hsd] using hj);rw[getElem!_pos d' i (by simpa using hi),getElem!_pos d' j (by simpa using hj),ltS,decide_eq_false_iff_not] at this;simp only[Array.getElem_toList]
 omega
theorem sort_own {base:Nat} {u:Value} {l:List Sp} {w:World} (h:OwnS w base u l) (hlen:l.length≤1000000):∀f,f=Value.func (.func 105) #[] #[]→Calls Tryz.prog 104 #[u,f] w fun e w'=>e= .returned (.tuple #[]) ∧
   ∃m:List Sp,m.Perm l∧m.Pairwise (fun a b=>a.1≤b.1)∧OwnS w' base u m∧w.grownBy w' u.ownBlock:=by
 rintro f rfl
 rcases Nat.eq_zero_or_pos l.length with h0 | h0
 ·have hl:l=[]:=List.eq_nil_of_length_eq_zero h0;subst hl;have h2:=h;obtain ⟨_,⟨rfl,_⟩ | ⟨g,cap,cur,rfl,_⟩⟩:=h2
  ·refine (sort_none none 0 _ w).mono ?_
   rintro e w' ⟨rfl,rfl⟩;exact ⟨rfl,[],List.Perm.refl _,List.Pairwise.nil,h,⟨rfl,rfl,rfl,Nat.le_refl _,fun _ _ _=>rfl⟩⟩
  ·refine (sort_none (some ⟨g,0,none⟩) cap _ w).mono ?_
   rintro e w' ⟨rfl,rfl⟩;exact ⟨rfl,[],List.Perm.refl _,List.Pairwise.nil,h,⟨rfl,rfl,rfl,Nat.le_refl _,fun _ _ _=>rfl⟩⟩
 ·obtain ⟨g,cap,rfl,_,_⟩:=OwnS.form h h0;exact sort_any base g cap l.length l w h rfl hlen
set_option maxHeartbeats 1000000 in
theorem sorted_any (v:Value) (l:List Sp) (w:World) (h:Spans w w.heap.size v l) (hlen:l.length≤1000000) :
  Calls Tryz.prog 72 #[v] w fun e w'=>∃v' m,e= .returned v'∧List.Perm m l∧m.Pairwise (fun a b=>a.1≤b.1)∧Spans w' w'.heap.size v' m∧Below w.heap.size w w':=by
 have HC:=LH (clone_any v l w h hlen);clear h;go_enter Tryz.func72,Tryz.ntmps72
 go_wp2_with (first | (go_at_call 103;refine HC.out.mono ?_;rintro e w2 ⟨u,rfl,hO,hB⟩;have HO:=LH hO;have HB:=LH hB;have HS:Hid (∀f,f=Value.func (.func 105) #[] #[]→Calls Tryz.prog 104 #[u,f] w2 fun e w'=>e= .returned (.tuple #[])∧∃m:List Sp,m.Perm l∧m.Pairwise (fun a b=>a.1≤b.1)∧OwnS w' w.heap.size u m∧w2.grownBy w' u.ownBlock):=LH (sort_own hO hlen);clear hO hB) | (go_at_call 104;refine (HS.out _ rfl).mono ?_;rintro e w3 ⟨rfl,m,hp,hs,hO2,hg⟩;have HP:=LH hp;have HSo:=LH hs;have HO2:=LH hO2;have HG:=LH hg;clear hp hs hO2 hg))
 go_ret;exact ⟨_,m,rfl,HP.out,HSo.out,HO2.out.spans,HB.out.grown HG.out HB.out.size (fun k e=>(World.ownsRow.lt HO.out k e).1)⟩
end Go.Proofs.YtmmlfnblodfjbaaGreatDoor
namespace Go.Proofs.YtmmlfnblodfjbaaGreatDoor
open Go.RowKit Go.Deep
set_option maxHeartbeats 1000000 in
theorem norm_any (v:Value) (l:List Sp) (w:World) (h:Spans w w.heap.size v l) (hlen:l.length≤1000000) :
  Calls Tryz.prog 41 #[v] w fun e w'=>∃v',e= .returned v'∧OwnS w' w.heap.size v' (normL l)∧Below w.heap.size w w':=by
 have HSp:=LH h;have HLe:=LH hlen;clear h hlen;go_enter Tryz.func41,Tryz.ntmps41
 go_wp2_with fail
 refine (sorted_any _ l _ HSp.out HLe.out).mono ?_
 rintro e w2 ⟨v2,m,rfl,hp,hs,hsp,hB2⟩;obtain ⟨A,c,rfl,hc,hm,hr⟩:=hsp;obtain ⟨len,hn⟩:∃n,n=m.length:=⟨_,rfl⟩;have H:=LH hr;have HN:=LH hn;have hlen':len≤1000000:=by have:=hp.length_eq;have:=HLe.out;omega
 have HE:Hid (m.foldl joinL []=normL l):=LH (by rw[sorted_norm hs,perm_norm hp]);have HB2:=LH hB2;rw[←hn];clear hr hn hp hs hc hB2
 go_wp2_with fail
 go_loopw [3,9] (fun o i wr=>∃(t:Nat) (out:List Sp),t≤len∧i= .int .i64 t∧OwnS wr w2.heap.size o out∧out.length≤t∧(m.drop t).foldl joinL out=normL l∧Below w2.heap.size w2 wr) (fun _ i _=>len - (intOf i).toNat)
 case atStart=>exact ⟨0,[],by omega,rfl,OwnS.nil _ _,by simp,HE.out,Below.refl _ _⟩
 case round =>
  obtain ⟨t,out,ht,rfl,hown,hol,hf,hB⟩:=hrel;have HO:=LH hown;have HF:=LH hf;clear hown hf
  by_cases hlt:t<len
  ·obtain ⟨b,off,rfl,hb,hc⟩:=H.out (by rw[←HN.out];omega);obtain ⟨u0,u1⟩:=hc t (by rw[←HN.out];exact hlt);have hc0:=(hB.cell (p:=⟨b,off+t*2,none⟩) hb).trans u0;have hc1:=(hB.cell (p:=⟨b,off+t*2+1,none⟩) hb).trans u1;have HD:=LH (drop_cons (l:=m) (t:=t) (by rw[←HN.out];exact hlt));rw[HD.out,List.foldl_cons] at HF;clear hc u0 u1 HD;obtain ⟨u,hu⟩:∃u,m[t]?.getD (0,0)=u:=⟨_,rfl⟩;rw[hu] at hc0 hc1 HF;clear hu;obtain ⟨x,y⟩:=u;simp only at hc0 hc1;have hO1:OwnS (wr.alloc (.cells #[.int .i64 x,.int .i64 y] 67)) w2.heap.size _ out:=World.ownsRow.alloc HO.out _;have hB1:=hB.alloc hB.size (.cells #[.int .i64 x,.int .i64 y] 67);have HJ:=LH (join_any w2.heap.size _ out x y _ hO1 (by omega) hB1.size);have HL:=LH (World.ownsRow.lt hO1);have HB1:=LH hB1;clear hO1 hB1
   go_wp2_with fail
   refine HJ.out.mono ?_
   rintro e w3 ⟨v3,rfl,ho3,hg3⟩;have hB3:Below w2.heap.size w2 w3:=HB1.out.grown hg3 HB1.out.size (fun k e=>(HL.out k e).1)
   have HO3:=LH ho3;clear ho3 hg3
   go_wp2_with fail
   go_roundw
   case rel=>exact ⟨t+1,joinL out (x,y),by omega,by go_num,HO3.out,by have:=join_length out (x,y);omega,HF.out,hB3⟩
   case measure=>simp[intOf];omega
  ·obtain rfl:t=len:=by omega
   have HF2:Hid (out=normL l):=LH (by rw[←HF.out,List.drop_eq_nil_of_le (by rw[←HN.out];exact Nat.le_refl _)];rfl)
   go_wp2
   go_ret;exact ⟨_,rfl,by rw[←HF2.out];exact HO.out.base HB2.out.size,HB2.out.trans (hB.mono HB2.out.size)⟩
end Go.Proofs.YtmmlfnblodfjbaaGreatDoor
