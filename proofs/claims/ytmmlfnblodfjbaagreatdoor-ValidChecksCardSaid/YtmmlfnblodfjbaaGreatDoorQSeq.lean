/- Layer 8: what stays while words are laid; a range over a method value whose rounds never stop it. -/
import Derived.RangeFuncNested
import Derived.RangeFuncBound
import Derived.RangeFuncCalls
import Derived.RangeFuncLeaves
import Derived.RangeFuncBox
import Derived.Test.YtmmlfnblodfjbaaGreatDoorQBuA
import Derived.Test.YtmmlfnblodfjbaaGreatDoorQCut
import Derived.Shelf.Abstract
import Derived.Shelf.RegionOpen
import Derived.WalkKit
import Derived.OwnWalkIn
import Derived.TacticsInMore
import Derived.LoopNIn
import Derived.LoopIn
import Derived.RegionIn
import Derived.Stop.RegionWithIn
import Derived.Test.YtmmlfnblodfjbaaGreatDoorQWord
import Derived.Maps.OwnIn
set_option maxRecDepth 100000
namespace Go.Proofs.YtmmlfnblodfjbaaGreatDoor
open Go.RowKit Go.Deep
def plainO:Obj→Bool
 | .cells _ t _=>decide (t≠31) && decide (t≠44)
 | _=>true
structure KeepR (base:Nat) (lp:Option Nat) (W W':World):Prop where
 below:Below base W W'
 same:∀k o,some k≠lp→W.heap[k]? = some o→plainO o=true→W'.heap[k]? = some o
theorem KeepR.refl (base:Nat) (lp:Option Nat) (W:World):KeepR base lp W W:=⟨Below.refl _ _,fun _ _ _ h _=>h⟩
theorem KeepR.trans {base:Nat} {lp:Option Nat} {A B C:World} (h:KeepR base lp A B) (k:KeepR base lp B C):KeepR base lp A C :=
 ⟨h.below.trans k.below,fun i o hi ho hp=>k.same i o hi (h.same i o hi ho hp) hp⟩
theorem KeepR.weak {base:Nat} {lp:Option Nat} {A B:World} (h:KeepR base none A B):KeepR base lp A B:=⟨h.below,fun k o _ hk hp=>h.same k o (by simp) hk hp⟩
theorem KeepR.grown {base:Nat} {lp:Option Nat} {A B C:World} {row:Option Nat} (h:KeepR base lp A B) (hg:B.grownBy C row) (hb:base≤B.heap.size) (hr:∀r,row=some r→base≤r∧(some r=lp∨∀o,B.heap[r]? = some o→plainO o=false)):KeepR base lp A C :=
 ⟨h.below.grown hg hb (fun k e=>(hr k e).1),fun k o hk ho hp=>by
  have h1:=h.same k o hk ho hp;refine (hg.block k (Array.getElem?_eq_some_iff.1 h1).1 (fun e=> ?_)).trans h1
  rcases (hr k e.symm).2 with e2 | h2
  ·exact hk e2
  ·rw[h2 o h1] at hp;cases hp⟩
theorem KeepR.alloc {base:Nat} {lp:Option Nat} {A B:World} (h:KeepR base lp A B) (hb:base≤B.heap.size) (o:Obj):KeepR base lp A (B.alloc o):=h.grown (World.grownBy_alloc B o none) hb (fun r e=>by cases e)
theorem KeepR.drew {base:Nat} {lp:Option Nat} {A B:World} (h:KeepR base lp A B):KeepR base lp A B.drew:=⟨h.below.drew,h.same⟩
theorem KeepR.put {base l:Nat} {A B:World} (h:KeepR base (some l) A B) (hb:base≤l) (hl:l<B.heap.size) (o:Obj):KeepR base (some l) A (B.putObj l o) :=
 h.grown (grownBy_putObj' B l o) (by omega) (fun r e=>by cases e;exact ⟨hb,.inl rfl⟩)
theorem KeepR.late {base:Nat} {lp:Option Nat} {A B C:World} {row:Option Nat} (h:KeepR base lp A B) (hg:B.grownBy C row) (hb:base≤A.heap.size) (hr:∀r,row=some r→A.heap.size≤r):KeepR base lp A C :=
 ⟨h.below.grown hg (by have:=h.below.size;omega) (fun k e=>by have:=hr k e;omega),fun k o hk ho hp=>by
  have h1:=h.same k o hk ho hp;refine (hg.block k (Array.getElem?_eq_some_iff.1 h1).1 (fun e=> ?_)).trans h1
  have:=hr k e.symm;have:=(Array.getElem?_eq_some_iff.1 ho).1
  omega⟩
theorem KeepR.own {β : Type} {base B:Nat} {lp:Option Nat} {A:World} (hb:base≤A.heap.size) (hB:A.heap.size≤B):OwnFrom B (fun (_: β) W=>KeepR base lp A W) :=
 fun _ _ _ _ h hg hr=>h.late hg hb (fun r e=>by have:=(hr r e).1;omega)
theorem own_more {β : Type} {B B':Nat} {I: β → World→Prop} (h:OwnFrom B I) (hB:B≤B'):OwnFrom B' I:=fun s A C row hs hg hr=>h s A C row hs hg (fun r e=>⟨by have:=(hr r e).1;omega,(hr r e).2⟩)
theorem grown_tr {A B C:World} {r r':Option Nat} (h:A.grownBy B r) (k:B.grownBy C r') (hr:r'=r∨∀g,r'=some g→A.heap.size≤g):A.grownBy C r :=
 ⟨k.os.trans h.os,k.tape.trans h.tape,k.output.trans h.output,Nat.le_trans h.size k.size,fun i hi hne=>(k.block i (Nat.lt_of_lt_of_le hi h.size) (fun e=>by
  rcases hr with e2 | e2
  ·exact hne (by rw[e,e2])
  ·have:=e2 i e.symm;omega)).trans (h.block i hi hne)⟩
def Gives (gf:Nat) (first:Array Value) (base:Nat) (ls:List Int) (w:World):Prop :=
 ∀(lp:Nat) (J:List Int→World→Prop) (W:World),Below base w W→base≤lp→lp<W.heap.size→OwnFrom W.heap.size J→J [] W →
  (∀(m:Nat) (pre:List Int) (x:Int) (W1:World),pre.length≤3000000→J pre W1→YieldAt Fence.wide m Tryz.prog lp #[.int .u64 x] W1 fun e W'=>e= .returned (.bool true)∧J (pre ++ [x]) W'∧KeepR base (some lp) W1 W') →
  ∀m,CallsIn Fence.wide m Tryz.prog gf (first ++ #[.func (.yield lp) #[] #[]]) W fun e W'=>(∃v,e= .returned v)∧J ls W'
theorem range_gives {n:Nat} {g:Operand} {ps:Array Tmp} {assign body:Code} {Q:Exit→Act→World→Prop} {a:Act} {w:World} {gf base:Nat} {first:Array Value} {ls:List Int}
  (hg:a.eval g= .func (.func gf) first #[]) (eg:∀args w,(callFunc gf args).run Tryz.prog w= .ok (.enter gf args) w) (hG:Gives gf first base ls w) (hb:base≤w.heap.size) (hps:ps.size=1)
  (I:List Int→World→Prop) (hI:OwnFrom w.heap.size I) (h0:I [] w) (a₁:Int→Act)
  (hassign:∀(l m:Nat) (x:Int) (W:World) (K:Act→World→Prop),K (a₁ x) W →
   assign.wpIn (Fence.wide.inRound l) m Tryz.prog (Exit.then K (fun _ _ _=>False)) {tmps:=(ps.zip #[.int .u64 x]).foldl (fun t (p,v)=>t.setIfInBounds p v) a.tmps,defers:=[]} W)
  (hbody:∀(l m:Nat) (pre:List Int) (x:Int) (W:World),pre.length≤3000000→I pre W→body.wpIn (Fence.wide.inRound l) m Tryz.prog (Exit.then (fun _ W'=>KeepR base none W W'∧I (pre ++ [x]) W') (fun _ _ _=>False)) (a₁ x) W)
  (hdone:∀(D:Nat) (W:World),w.heap.size≤D→I ls W→W.heap[D]? = some (.deferred (some []))→Q .normal {a with defers:={target:= .collected D,args:=#[]} :: a.defers} W) :
  (Code.rangeFunc g ps assign body).wpIn Fence.wide n Tryz.prog Q a w:=by
 refine wpIn_rangeFunc ?_
 intro fn hfn;obtain ⟨rec,hrec⟩:∃rec:LoopState→Option Code→Loop,rec=fun st pe=>{state:=st,pending:=pe,fn,tmps:=a.tmps,params:=ps,assign,body,defers:=w.heap.size}:=⟨_,rfl⟩
 obtain ⟨W1,hW1⟩:∃W1,(w.alloc (.deferred (some []))).alloc (.loop (rec .ready none))=W1:=⟨_,rfl⟩;have hL1:W1.heap[w.heap.size+1]? = some (.loop (rec .ready none)):=by
  rw[←hW1];have:=World.alloc_heap_new (w.alloc (.deferred (some []))) (.loop (rec .ready none))
  rwa [World.size_alloc] at this
 have hK1:W1.heap[w.heap.size]? = some (.deferred (some [])):=by
  rw[←hW1];exact (Below.heap_alloc _ _ _ (by simp)).trans (World.alloc_heap_new w _)
 have hI1:I [] W1:=by
  rw[←hW1];exact hI.alloc _ (hI.alloc _ h0)
 have hsz:W1.heap.size=w.heap.size+2:=by
  rw[←hW1]
  simp
 have hb1:Below base w W1:=by
  rw[←hW1];exact ((Below.refl _ w).alloc hb _).alloc (by simp;omega) _
 refine ⟨w.heap.size+1,[{target:= .collected w.heap.size,args:=#[]}],W1,{target:= .fn (.func gf) #[],args:=first ++ #[.func (.yield (w.heap.size+1)) #[] #[]]},W1,gf,first ++ #[.func (.yield (w.heap.size+1)) #[] #[]],W1,?_,?_,?_,?_,?_,?_⟩
 ·rw[←hW1,hrec];exact run_enterLoop_outer _ _ _ _ _
 ·simp only[resolve,hg]
  simp[go_sem]
 ·intro f' _
  trivial
 ·simp[invoke,go_sem,eg]
 ·intro h;cases h
 ·refine (hG (w.heap.size+1) (fun pre W=>I pre W∧W.heap[w.heap.size+1]? = some (.loop (rec .ready none))∧W.heap[w.heap.size]? = some (.deferred (some []))) W1 hb1 (by omega) (by omega)
   (fun s A B row hs hgr hr=>⟨(own_more hI (by omega)) s A B row hs.1 hgr hr,?_,?_⟩) ⟨hI1,hL1,hK1⟩ ?_ _).mono ?_
  ·refine (hgr.block _ (Array.getElem?_eq_some_iff.1 hs.2.1).1 (fun e=> ?_)).trans hs.2.1
   have:=(hr _ e.symm).1
   omega
  ·refine (hgr.block _ (Array.getElem?_eq_some_iff.1 hs.2.2).1 (fun e=> ?_)).trans hs.2.2
   have:=(hr _ e.symm).1
   omega
  ·rintro m pre x W hlen ⟨hi,hl,hk⟩;have hlt:w.heap.size+1<W.heap.size:=(Array.getElem?_eq_some_iff.1 hl).1;have hy:=run_yield (P:=Tryz.prog) (args:=#[.int .u64 x]) hl (by rw[hrec];exact hps.symm);rw[hrec] at hy;refine ⟨fn,_,assign,body,hy,roundIn_of_wpIn hfn (hassign _ _ x W _ ⟨_,run_beginRound hl (by rw[hrec]),?_⟩)⟩;have hl2:(W.putObj (w.heap.size+1) (.loop {rec .ready none with state:= .busy})).heap[w.heap.size+1]? = some (.loop {rec .ready none with state:= .busy}):=World.putObj_heap_same hlt
   have hk2:(W.putObj (w.heap.size+1) (.loop {rec .ready none with state:= .busy})).heap[w.heap.size]? = some (.deferred (some [])):=(World.putObj_heap_other (by omega)).trans hk
   have hw2:KeepR base (some (w.heap.size+1)) W (W.putObj (w.heap.size+1) (.loop {rec .ready none with state:= .busy})):=(KeepR.refl _ _ _).put (by omega) hlt _
   refine wpIn_mono (hbody _ _ pre x _ hlen (hI.putObj _ hi (by omega) hl rfl)) ?_
   rintro e a3 W3 hp;cases e with
   | normal =>
    obtain ⟨hk3,hi3⟩:=hp;have hl3:=hk3.same _ _ (by simp) hl2 rfl;have hr:=run_endRound (P:=Tryz.prog) none hl3;have hlt3:=(Array.getElem?_eq_some_iff.1 hl3).1;rw[hrec] at hr;refine ⟨_,_,hr,rfl,⟨hI.putObj _ hi3 (by omega) hl3 rfl,?_,?_⟩,(hw2.trans hk3.weak).put (by omega) hlt3 _⟩
    ·rw[hrec];exact World.putObj_heap_same hlt3
    ·exact (World.putObj_heap_other (by omega)).trans (hk3.same _ _ (by simp) hk2 rfl)
   | ret=>exact hp.elim
   | exit id=>exact hp.elim
   | goto t=>exact hp.elim
   | panic ch=>exact hp.elim
   | outgrown=>exact hp.elim
  ·rintro e W2 ⟨⟨v,rfl⟩,hi,hl,hk⟩;have hr:=run_endLoop (P:=Tryz.prog) hl (by rw[hrec];simp);rw[hrec] at hr;exact ⟨none,_,hr,hdone _ _ (Nat.le_refl _) (hI.putObj _ hi (by omega) hl rfl) ((World.putObj_heap_other (by omega)).trans hk)⟩
end Go.Proofs.YtmmlfnblodfjbaaGreatDoor
namespace Go.Proofs.YtmmlfnblodfjbaaGreatDoor
open Go.RowKit Go.Shelf
attribute [local go_sem] Oper.semAt_some
theorem round_any {a b:Nat} {l:Nat} {f:FuncId} {tmps:Array Value} {assign body:Code} {w:World} {R:Ending→World→Prop} (h:RoundIn Fence.wide a Tryz.prog l f tmps assign body w R):RoundIn Fence.wide b Tryz.prog l f tmps assign body w R :=
 ⟨trivial,fun c cs _=>h.2 c cs (room_wide _)⟩
def chL (len j:Nat):Nat:=min 8 (len - 8*j)
def chE (b off len j:Nat):Value:= .slice (some ⟨b,off+8*j,none⟩) (chL len j) (chL len j)
def ChunkOf (len:Nat):Type:={j:Nat // 8*j<len}
def chV {len:Nat} (l:List (ChunkOf len)):List Nat:=l.map (fun x=>x.1)
theorem chV_snoc {len:Nat} (l:List (ChunkOf len)) (x:ChunkOf len):chV (l ++ [x])=chV l ++ [x.1]:=by simp[chV]
theorem chV_len {len k:Nat} {l:List (ChunkOf len)} (h:chV l=List.range k):l.length=k:=by
 have:=congrArg List.length h
 simpa [chV] using this
def KeepC (n₀ B1 B2:Nat) (W W':World):Prop:=Below n₀ W W'∧W'.heap[B1]? = W.heap[B1]? ∧ W'.heap[B2]? = W.heap[B2]?
theorem KeepC.trans {n₀ B1 B2:Nat} {A B C:World} (h:KeepC n₀ B1 B2 A B) (k:KeepC n₀ B1 B2 B C):KeepC n₀ B1 B2 A C:=⟨h.1.trans k.1,k.2.1.trans h.2.1,k.2.2.trans h.2.2⟩
theorem KeepC.put {n₀ B1 B2:Nat} {w:World} (hn:n₀≤w.heap.size) (h1:B1<w.heap.size) (h2:B2<w.heap.size) (W:World) (l:Nat) (o o':Obj) (hl:w.heap.size≤l) (ho:W.heap[l]? = some o) (c1:o.isCells=false) (c2:o.isWalk=false):KeepC n₀ B1 B2 W (W.putObj l o') :=
 ⟨belowK_b hn W l o o' hl ho c1 c2,World.putObj_heap_other (by omega),World.putObj_heap_other (by omega)⟩
theorem KeepC.drew {n₀ B1 B2:Nat} {A B:World} (h:KeepC n₀ B1 B2 A B):KeepC n₀ B1 B2 A B.drew:=⟨h.1.drew,h.2.1,h.2.2⟩
theorem box_cell {W:World} {B:Nat} {v:Value} {t:TypeId} (h:W.heap[B]? = some (.cells #[v] t (0,0))):W.cell? ⟨B,0,none⟩=some v:=by simp[World.cell?,h]
theorem chunk_any (A:Option Addr) (m c n:Nat) (w:World) :
  CallsIn Fence.wide n Tryz.prog 125 #[.slice A m c,.int .i64 8] w fun e w'=>e= .returned (.func (.func 142) #[] #[.pointer (some ⟨w.heap.size,0,none⟩),.pointer (some ⟨w.heap.size+1,0,none⟩)])∧w'=(w.alloc (.cells #[.slice A m c] 24)).alloc (.cells #[.int .i64 8] 3):=by
 refine callsIn_wide.2 ?_
 go_enter Tryz.func125,Tryz.ntmps125
 go_wp2
 go_ret;exact ⟨by simp,rfl⟩
set_option maxHeartbeats 1000000 in
theorem chunk1_in (n:Nat) (lp B1 B2 n₀ b off:Nat) (A:Option Addr) (c len:Nat) (hlen:len≤1000000) (hlc:len≤c) (hcm:c≤9223372036854775807)
  (J Jx:List (ChunkOf len)→World→Prop)
  (hY:∀m pre (j:ChunkOf len) W,J pre W→pre.length<(len+7) / 8→YieldAt Fence.wide m Tryz.prog lp #[chE b off len j.1] W fun e W' =>
   (e= .returned (.bool true)∧J (pre ++ [j]) W'∧KeepC n₀ B1 B2 W W')∨(e= .returned (.bool false)∧Jx (pre ++ [j]) W'))
  (W:World) (h1:W.heap[B1]? = some (.cells #[.slice A len c] 24 (0,0))) (h2:W.heap[B2]? = some (.cells #[.int .i64 8] 3 (0,0)))
  (hA:0<len→A=some ⟨b,off,none⟩) (hD:∀pre X,J pre X→J pre X.drew) (h0:J [] W) :
  CallsIn Fence.wide n Tryz.prog 142 #[.func (.yield lp) #[] #[],.pointer (some ⟨B1,0,none⟩),.pointer (some ⟨B2,0,none⟩)] W fun e W'=>(∃v,e= .returned v) ∧
   ((∃ys,chV ys=List.range ((len+7) / 8)∧J ys W')∨(∃pre,True∧Jx pre W')):=by
 have HA:=LH hA;have H1:=LH h1;have H2:=LH h2;clear hA h1 h2;refine callsIn_of_wp Tryz.func142 rfl trivial ?_ rfl;simp only[Tryz.ntmps142,List.size_toArray,List.length_cons,List.length_nil,Nat.reduceAdd,Nat.reduceSub,Array.replicate_succ,Array.replicate_zero,List.push_toArray,List.append_toArray,List.nil_append,List.cons_append]
 gi_wp2
 gi_loopw [4] (fun i wr=>∃(k:Nat) (pre:List (ChunkOf len)),k≤(len+7) / 8∧i= .int .i64 ((8*k:Nat):Int)∧chV pre=List.range k∧J pre wr∧KeepC n₀ B1 B2 W wr)
  (fun i _=>(len+7 - intOf i).toNat)
 case atStart=>exact ⟨0,[],Nat.zero_le _,by simp,rfl,h0,Below.refl _ _,rfl,rfl⟩
 case round =>
  obtain ⟨k,pre,hk,rfl,hpv,hJs,hnx⟩:=hrel;have HPV:=LH hpv;clear hpv;have c1:wr.cell? ⟨B1,0,none⟩=some (.slice A len c):=box_cell (hnx.2.1.trans H1.out);have c2:wr.cell? ⟨B2,0,none⟩=some (.int .i64 8):=box_cell (hnx.2.2.trans H2.out)
  by_cases hlt:8*k<len
  ·obtain rfl:=HA.out (by omega);obtain ⟨jk,hjk⟩:∃jk:ChunkOf len,jk.1=k:=⟨⟨k,hlt⟩,rfl⟩;have HJK:=LH hjk;clear hjk;obtain ⟨i,hi⟩:∃i,i=8*k:=⟨_,rfl⟩;have HI:=LH hi;rw[←hi] at hlt ⊢;have hi2:i≤1000000:=by omega
   clear hi
   gi_wp2
   gi_region
   obtain ⟨m,hm⟩:∃m,m=chL len k:=⟨_,rfl⟩;have hE:Value.slice (some ⟨b,off+i,none⟩) m m=chE b off len k:=by rw[hm,HI.out,chE]
   have hmin:(if ((len - i:Nat):Int)<8 then ((len - i:Nat):Int) else 8)=(m:Int):=by
    rw[hm,HI.out,chL]
    split <;> omega
   have hml:i+m≤len:=by
    have:=HI.out;rw[hm,chL]
    omega
   have hm0:0<m:=by
    have:=HI.out;rw[hm,chL]
    omega
   rw[hmin];obtain ⟨W2,hW2⟩:∃W2,W2=wr.drew:=⟨_,rfl⟩;rw[←hW2];have hJ2:J pre W2:=by rw[hW2];exact hD _ _ hJs
   have hn2:KeepC n₀ B1 B2 W W2:=by rw[hW2];exact hnx.drew
   have d1:W2.cell? ⟨B1,0,none⟩=some (.slice (some ⟨b,off,none⟩) len c):=by rw[hW2];exact c1
   have d2:W2.cell? ⟨B2,0,none⟩=some (.int .i64 8):=by rw[hW2];exact c2
   clear hW2 hm hmin c1 c2 hJs hnx;obtain ⟨fn,tmps,assign,body,hy,hR⟩:=hY (n - 1) _ jk W2 hJ2 (by rw[chV_len HPV.out];have:=HI.out;omega);rw[HJK.out,←hE] at hy;have HE:=LH hE;clear hE
   gi_wp2
   refine ⟨(fun h=>by cases h),hR.mono ?_⟩
   rintro e W3 (⟨rfl,hJ3,hk3⟩ | ⟨rfl,hJx3⟩)
   ·have hn3:=hn2.trans hk3;have e1:W3.cell? ⟨B1,0,none⟩=some (.slice (some ⟨b,off,none⟩) len c):=box_cell (hn3.2.1.trans H1.out);have e2:W3.cell? ⟨B2,0,none⟩=some (.int .i64 8):=box_cell (hn3.2.2.trans H2.out)
    gi_wp2
    go_roundw
    case rel=>exact ⟨k+1,pre ++ [jk],by have:=HI.out;omega,congrArg (Value.int .i64) (by have:=HI.out;omega),by rw[List.range_succ,chV_snoc,HPV.out,HJK.out],hJ3,hn3⟩
    case measure =>
     have:=HI.out
     simp[intOf]
     omega
   ·gi_wp2
    refine bodyPost_ret (results_none rfl _ _ _) rfl ?_
    exact ⟨⟨_,rfl⟩,.inr ⟨_,trivial,hJx3⟩⟩
  ·have hk2:k=(len+7) / 8:=by omega
   gi_wp2
   go_end0
   exact ⟨⟨_,rfl⟩,.inl ⟨pre,by rw[←hk2];exact HPV.out,hJs⟩⟩
theorem chunk_stops (n B1 B2 n₀ b off:Nat) (A:Option Addr) (c len:Nat) (hlen:len≤1000000) (hlc:len≤c) (hcm:c≤9223372036854775807) (w:World)
  (hB1:B1<w.heap.size) (hB2:B2<w.heap.size)
  (h1:w.heap[B1]? = some (.cells #[.slice A len c] 24 (0,0))) (h2:w.heap[B2]? = some (.cells #[.int .i64 8] 3 (0,0)))
  (hA:0<len→A=some ⟨b,off,none⟩) :
  SeqStopsK Fence.wide n Tryz.prog 142 #[.pointer (some ⟨B1,0,none⟩),.pointer (some ⟨B2,0,none⟩)] (fun j:ChunkOf len=>#[chE b off len j.1]) (KeepC n₀ B1 B2) (fun ys=>chV ys=List.range ((len+7) / 8)) (fun _=>True) ((len+7) / 8) w:=fun lp J Jx W hW hJ _ hY h0=>by
 refine chunk1_in n lp B1 B2 n₀ b off A c len hlen hlc hcm J Jx (fun m pre j W1 hp hl=> ?_) W ((hW.block _ hB1).trans h1) ((hW.block _ hB2).trans h2) hA (fun pre X hp=>hJ _ _ _ none hp (grown_drew X none) (fun r e=>by cases e)) h0
 obtain ⟨fn,tmps,assign,body,hy,hR⟩:=hY pre j W1 hp hl;exact ⟨fn,tmps,assign,body,hy,round_any hR⟩
attribute [local go_sem] Oper.semAt_some
def wordB (bs:List Int) (j:Nat):Int:=getV ((bs.drop (8*j)).take 8)
theorem wordsB_eq (bs:List Int):wordsB bs=(List.range ((bs.length+7) / 8)).map (wordB bs):=rfl
theorem chunk_bytes {w:World} {B b off c:Nat} {bs:List Int} {A:Option Addr} (h:Bytes w B (.slice A bs.length c) bs) (hA:A=some ⟨b,off,none⟩) {j:Nat} (hj:8*j<bs.length):Bytes w B (chE b off bs.length j) ((bs.drop (8*j)).take 8):=by
 obtain ⟨A',c',e,h1,h2,h3⟩:=h
 injection e with e1 e2 e3
 subst e1 e3 hA;have hl:((bs.drop (8*j)).take 8).length=chL bs.length j:=by rw[List.length_take,List.length_drop];rfl
 obtain ⟨b',off',e,hb,hc⟩:=h3 (by omega)
 injection e with e
 injection e with e1 e2 _
 subst e1 e2;refine ⟨some ⟨b,off+8*j,none⟩,chL bs.length j,by rw[hl];rfl,by omega,by unfold chL;omega,fun _=>⟨b,off+8*j,rfl,hb,fun i hi=> ?_⟩⟩
 have hi2:i<8∧8*j+i<bs.length:=by rw[hl,chL] at hi;omega
 rw[List.getElem?_take_of_lt hi2.1,List.getElem?_drop,show off+8*j+i=off+(8*j+i) by omega]
 exact hc _ hi2.2
theorem drop_all {bs:List Int} (h:∀x∈bs,0≤x∧x≤255) (j:Nat):AllB ((bs.drop (8*j)).take 8):=fun x hx=>h x (List.mem_of_mem_drop (List.mem_of_mem_take hx))
theorem get_chunk (w:World) {B b off c:Nat} {bs:List Int} {A:Option Addr} (hB:B≤w.heap.size) (h:Bytes w B (.slice A bs.length c) bs) (hA:A=some ⟨b,off,none⟩) (hbs:∀x∈bs,0≤x∧x≤255) {j:Nat} (hj:8*j<bs.length) :
  Calls Tryz.prog 126 #[chE b off bs.length j] w fun e w'=>e= .returned (.int .u64 (wordB bs j))∧Below w.heap.size w w':=by
 have:=get_any _ _ w ((chunk_bytes h hA hj).more hB) (drop_all hbs j);rw[List.take_take] at this;exact this
theorem take_snoc' {ws:List Int} {q:Nat} (h:q<ws.length):ws.take (q+1)=ws.take q ++ [ws[q]?.getD 0]:=by
 rw[List.take_add_one,List.getElem?_eq_getElem h]
 rfl
theorem rep_snoc (q:Nat):List.replicate (q+1) (0:Int)=List.replicate q 0 ++ [0]:=List.replicate_succ'
theorem box5 {W:World} {B t:Nat} {a0 a1 a2 a3 a4:Value} (h:W.heap[B]? = some (.cells #[a0,a1,a2,a3,a4] t (0,0))):W.cell? ⟨B,0,none⟩=some a0∧W.cell? ⟨B,1,none⟩=some a1∧W.cell? ⟨B,2,none⟩=some a2∧W.cell? ⟨B,3,none⟩=some a3∧W.cell? ⟨B,4,none⟩=some a4:=by simp[World.cell?,h]
theorem round_in {a b l':Nat} {l:Nat} {f:FuncId} {tmps:Array Value} {assign body:Code} {w:World} {R:Ending→World→Prop} (h:RoundIn Fence.wide a Tryz.prog l f tmps assign body w R):RoundIn (Fence.wide.inRound l') b Tryz.prog l f tmps assign body w R :=
 ⟨trivial,fun c cs _=>h.2 c cs (room_wide _)⟩
theorem KeepR.new {base:Nat} {lp:Option Nat} {A B C:World} (h:KeepR base lp A B) (hb:base≤B.heap.size) (k:Below B.heap.size B C):KeepR base lp A C:=h.grown ⟨k.os,k.tape,k.output,k.size,fun j hj _=>k.block j hj⟩ hb (fun r e=>by cases (e:(none:Option Nat)=some r))
theorem KeepR.keepC {base lp B1 B2 B:Nat} {X Y:World} (h:KeepR base (some lp) X Y) (h1:B1≠lp) (h2:B2≠lp) (hB:lp<B) {o1 o2:Obj} (c1:X.heap[B1]? = some o1) (c2:X.heap[B2]? = some o2) (p1:plainO o1=true) (p2:plainO o2=true):KeepsFrom B X Y∧KeepC base B1 B2 X Y :=
 ⟨⟨h.below.size,fun k o hk ho hc=>h.same k o (by simp;omega) ho (by cases o <;> first | rfl | cases hc)⟩,h.below,(h.same _ _ (by simpa using h1) c1 p1).trans c1.symm,(h.same _ _ (by simpa using h2) c2 p2).trans c2.symm⟩
set_option maxHeartbeats 4000000 in
theorem words_in (k z:Int) (ws bs:List Int) (ks:List Tr) (cv:Value) (base:Nat) (W:World) (hT:TrV W base (.mk k z ws bs ks) cv) (hb:base≤W.heap.size) (lp:Nat) (hlp1:base≤lp) (hlp2:lp<W.heap.size)
  (J:List Int→World→Prop) (hJ:OwnFrom W.heap.size J) (h0:J [] W)
  (hY:∀(m:Nat) (pre:List Int) (x:Int) (W1:World),pre.length≤3000000→J pre W1→YieldAt Fence.wide m Tryz.prog lp #[.int .u64 x] W1 fun e W'=>e= .returned (.bool true)∧J (pre ++ [x]) W'∧KeepR base (some lp) W1 W') :
  CallsIn Fence.wide 5 Tryz.prog 92 #[cv,.func (.yield lp) #[] #[]] W fun e W'=>(∃v,e= .returned v)∧J (contentT (.mk k z ws bs ks)) W':=by
 obtain ⟨A1,c1,A2,c2,A3,c3,rfl,hg,hn,hbt,hk1,hk2,-⟩:=hT.parts;obtain ⟨g1,g2,g3,g4,g5,g6,g7⟩:=hg;obtain ⟨A1',c1',e1,e2,e3,e4⟩:=hn
 injection e1 with e5 e6 e7
 subst e5 e7;have HN:=LH e4;have HB:=LH hbt;obtain ⟨A2',c2',f1,f2,f3,f4⟩:=hbt
 injection f1 with f5 f6 f7
 subst f5 f7;have HC:Hid (contentT (.mk k z ws bs ks)=ws ++ wordsB bs ++ List.replicate ks.length 0):=LH rfl;rw[HC.out];have HG7:=LH g7;have HY:=LH hY;clear hT g7 g6 e4 f4 hY e6 f6;obtain ⟨nw,hnw⟩:∃n,n=ws.length:=⟨_,rfl⟩;obtain ⟨nb,hnb⟩:∃n,n=bs.length:=⟨_,rfl⟩;obtain ⟨nk,hnk⟩:∃n,n=ks.length:=⟨_,rfl⟩;rw[←hnw] at g3 HN e2 ⊢;rw[←hnb] at g4 HB f2 ⊢;rw[←hnk] at g5 hk1 ⊢;have HNW:=LH hnw;have HNB:=LH hnb;clear hnw hnb hnk HC;unfold cellsT;obtain ⟨W1,hW1⟩:∃W1,W1=(W.alloc (.cells #[.int .i64 k,.int .i64 z,.slice A1 nw c1,.slice A2 nb c2,.slice A3 nk c3] 155)).alloc (.cells #[.func (.yield lp) #[] #[]] 185):=⟨_,rfl⟩;have hx:W1.heap[W.heap.size]? = some (.cells #[.int .i64 k,.int .i64 z,.slice A1 nw c1,.slice A2 nb c2,.slice A3 nk c3] 155 (0,0)):=by
  rw[hW1];exact (Below.heap_alloc _ _ _ (by simp)).trans (World.alloc_heap_new W _)
 have hy:W1.heap[W.heap.size+1]? = some (.cells #[.func (.yield lp) #[] #[]] 185 (0,0)):=by
  rw[hW1];have:=World.alloc_heap_new (W.alloc (.cells #[.int .i64 k,.int .i64 z,.slice A1 nw c1,.slice A2 nb c2,.slice A3 nk c3] 155)) (.cells #[.func (.yield lp) #[] #[]] 185)
  rwa [World.size_alloc] at this
 have hs1:W1.heap.size=W.heap.size+2:=by rw[hW1];simp
 have hJ1:J [] W1:=by rw[hW1];exact hJ.alloc _ (hJ.alloc _ h0)
 have hB1:Below base W W1:=by rw[hW1];exact ((Below.refl _ W).alloc hb _).alloc (by simp;omega) _
 have HX:=LH hx;have HYB:=LH hy;clear hx hy h0;refine callsIn_of_wp_marks Tryz.func92 rfl trivial ?_ rfl;simp only[Tryz.ntmps92,List.size_toArray,List.length_cons,List.length_nil,Nat.reduceAdd,Nat.reduceSub,Array.replicate_succ,Array.replicate_zero,List.push_toArray,List.append_toArray,List.nil_append,List.cons_append]
 gi_wp2
 rw[←hW1];clear hW1
 gi_loopw [10] (fun i wr=>∃q:Nat,q≤nw∧i= .int .i64 (q:Int)∧J (ws.take q) wr∧KeepR base (some lp) W1 wr)
  (fun i _=>(nw - intOf i).toNat)
 case atStart=>exact ⟨0,Nat.zero_le _,by simp,hJ1,KeepR.refl _ _ _⟩
 case round =>
  obtain ⟨q,hq,rfl,hJs,hkr⟩:=hrel;obtain ⟨d0,d1,d2,d3,d4⟩:=box5 (hkr.same _ _ (by simp;omega) HX.out (by rfl));have dy:=box_cell (hkr.same _ _ (by simp;omega) HYB.out (by rfl))
  by_cases hlt:q<nw
  ·obtain ⟨b,off,rfl,hbl,hc⟩:=HN.out (by omega);have dw:=((hB1.trans hkr.below).cell (p:=⟨b,off+q,none⟩) hbl).trans (hc q hlt);clear hc;obtain ⟨fn,tmps,assign,body,hyr,hR⟩:=HY.out 4 _ (ws[q]?.getD 0) wr (by rw[List.length_take];omega) hJs;have HS:=LH (take_snoc' (ws:=ws) (q:=q) (by rw[←HNW.out];exact hlt))
   gi_wp2
   refine hR.mono ?_
   rintro e W3 ⟨rfl,hJ3,hk3⟩
   gi_wp2
   go_roundw
   case rel=>exact ⟨q+1,by omega,congrArg (Value.int .i64) (by omega),by rw[HS.out];exact hJ3,hkr.trans hk3⟩
   case measure=>simp[intOf];omega
  ·have hqn:ws.take q=ws:=List.take_of_length_le (by have:=HNW.out;omega);rw[hqn] at hJs;clear hqn;obtain ⟨b,off,hA⟩:∃b off,0<nb→A2=some ⟨b,off,none⟩:=by
    by_cases hp:0<nb
    ·obtain ⟨A',c',e1,-,-,e4⟩:=HB.out
     injection e1 with e1 _ _
     subst e1;obtain ⟨b,off,e,-⟩:=e4 (by rw[←HNB.out];exact hp);exact ⟨b,off,fun _=>e⟩
    ·exact ⟨0,0,fun h=>absurd h hp⟩
   gi_wp2
   refine ⟨trivial,(chunk_any _ _ _ _ _).mono ?_⟩;rintro e W2 ⟨rfl,hW2⟩;have hz:=hkr.below.size;have hk2w:KeepR base (some lp) W1 W2:=by rw[hW2];exact (hkr.alloc (by omega) _).alloc (by simp;omega) _
   have hJ2:J ws W2:=by rw[hW2];exact hJ.alloc _ (hJ.alloc _ hJs)
   have b1:W2.heap[wr.heap.size]? = some (.cells #[.slice A2 nb c2] 24 (0,0)):=by
    rw[hW2];exact (Below.heap_alloc _ _ _ (by simp)).trans (World.alloc_heap_new wr _)
   have b2:W2.heap[wr.heap.size+1]? = some (.cells #[.int .i64 8] 3 (0,0)):=by
    rw[hW2];have:=World.alloc_heap_new (wr.alloc (.cells #[.slice A2 nb c2] 24)) (.cells #[.int .i64 8] 3)
    rwa [World.size_alloc] at this
   have hs2:W2.heap.size=wr.heap.size+2:=by rw[hW2];simp
   clear hW2 hkr hJs d0 d1 d2 d3 d4 dy;have HA:=LH hA;have HB1:=LH b1;have HB2:=LH b2;clear hA b1 b2
   gi_wp2
   refine wpIn_rangeFunc_ownG rfl (by omega) (gf:=142) (lb:=#[.pointer (some ⟨wr.heap.size,0,none⟩),.pointer (some ⟨wr.heap.size+1,0,none⟩)]) rfl trivial (enters_of Tryz.func142 (by kernel_rfl) rfl)
    (chunk_stops 4 wr.heap.size (wr.heap.size+1) base b off A2 c2 nb g4 f2 f3 W2 (by omega) (by omega) HB1.out HB2.out HA.out) KeepC.trans (KeepC.put (by omega) (by omega) (by omega)) (Below.refl _ _) (fun _=>rfl)
    (fun pre X=>J (ws ++ (chV pre).map (wordB bs)) X∧KeepR base (some lp) W2 X) (fun _ _ _=>False)
    (OwnFrom.and (fun s A B row hs hg hr=>(own_more hJ (by omega)) _ A B row hs hg hr) (KeepR.own (by omega) (Nat.le_refl _))) (fun _ _ _ _ _ hs _ _=>hs)
    ⟨by simpa [chV] using hJ2,KeepR.refl _ _ _⟩
    (fun x=>{tmps:=#[.agg #[.int .i64 k,.int .i64 z,.slice A1 nw c1,.slice A2 nb c2,.slice A3 nk c3],.func (.yield lp) #[] #[],.pointer (some ⟨W.heap.size,0,none⟩),.pointer (some ⟨W.heap.size+1,0,none⟩),undef,u5,chE b off nb x.1,.pointer (some ⟨W.heap.size,2,none⟩),.slice A1 nw c1,.int .i64 nw,.int .i64 q,.bool false,u12,u13,u14,u15,u16,u17,u18,.pointer (some ⟨W.heap.size,3,none⟩),.slice A2 nb c2,.func (.func 142) #[] #[.pointer (some ⟨wr.heap.size,0,none⟩),.pointer (some ⟨wr.heap.size+1,0,none⟩)],chE b off nb x.1,undef,undef,undef,undef,undef,undef,undef,undef,undef,undef,undef,undef,undef,undef],defers:=[]}) ?assign ?body ?done ?stop
   case assign =>
    intro l x X K hK
    gi_wp2
    exact hK
   case body =>
    rintro l pre x X ⟨hJx,hkx⟩ hpl;have HPL:Hid ((ws ++ (chV pre).map (wordB bs)).length≤3000000):=LH (by rw[List.length_append,List.length_map,←HNW.out];unfold chV;rw[List.length_map];omega);clear hpl;have dyX:=box_cell ((hk2w.trans hkx).same _ _ (by simp;omega) HYB.out (by rfl));have HSN:Hid (ws ++ (chV (pre ++ [x])).map (wordB bs)=(ws ++ (chV pre).map (wordB bs)) ++ [wordB bs x.1]):=LH (by rw[chV_snoc,List.map_append,List.append_assoc];rfl);have HXJ:Hid (8*x.1<nb):=LH x.2;generalize x.1=xj at HSN HXJ ⊢;have hbX:base≤X.heap.size:=by have:=hkx.below.size;omega
    have HGet:=LH (get_chunk X.drew (B:=base) (b:=b) (off:=off) (c:=c2) (bs:=bs) (A:=A2) (j:=xj) hbX (by rw[←HNB.out];exact HB.out.below ((hB1.trans hk2w.below).trans hkx.below.drew) (Nat.le_refl _)) (HA.out (by have:=HXJ.out;omega)) HG7.out (by rw[←HNB.out];exact HXJ.out));rw[←HNB.out] at HGet;have HDY:Hid (∀Y,Below X.drew.heap.size X.drew Y→Y.cell? ⟨W.heap.size+1,0,none⟩=some (.func (.yield lp) #[] #[])):=LH (fun Y hY=>(hY.cell (p:=⟨W.heap.size+1,0,none⟩) (World.block_lt_of_cell? X _ dyX)).trans dyX)
    have HYY:Hid (∀Y,Below X.drew.heap.size X.drew Y→∃fn tmps assign body,(Instr.yield lp #[.int .u64 (wordB bs xj)]).run Tryz.prog Y= .ok (.round lp fn tmps assign body) Y∧RoundIn (Fence.wide.inRound l) 2 Tryz.prog lp fn tmps assign body Y fun e W'=>e= .returned (.bool true)∧J (ws ++ (chV (pre ++ [x])).map (wordB bs)) W'∧KeepR base (some lp) X W'):=LH (fun Y hBY=>by
     have hXY:Below X.heap.size X Y:=⟨hBY.os,hBY.tape,hBY.output,hBY.size,hBY.block⟩;obtain ⟨fn,tmps,assign,body,hyr,hR⟩:=HY.out 2 _ (wordB bs xj) Y HPL.out ((own_more hJ (by have:=hkx.below.size;omega:W.heap.size≤X.heap.size)) _ X Y none hJx ⟨hXY.os,hXY.tape,hXY.output,hXY.size,fun j hj _=>hXY.block j hj⟩ (fun r e=>by cases e))
     refine ⟨fn,tmps,assign,body,hyr,(round_in hR).mono ?_⟩;rintro e W' ⟨h1,h2,h3⟩;exact ⟨h1,by rw[HSN.out];exact h2,((KeepR.refl _ _ X).new hbX hXY).trans h3⟩)
    have HKF:Hid (∀Y,KeepR base (some lp) X Y→KeepsFrom W2.heap.size X Y∧KeepC base wr.heap.size (wr.heap.size+1) X Y):=LH (fun Y h=>h.keepC (by omega) (by omega) (by omega) (hkx.same _ _ (by simp;omega) HB1.out (by rfl)) (hkx.same _ _ (by simp;omega) HB2.out (by rfl)) (by rfl) (by rfl))
    have HKX:=LH hkx;clear hkx hJx HSN HXJ
    gi_wp2
    gi_region_with (first
     | (refine ⟨trivial,(CallsIn.inRound l (callsIn_wide.2 HGet.out)).mono ?_⟩;rintro e Y ⟨rfl,hBY⟩;have dy2:=HDY.out Y hBY;obtain ⟨fn,tmps,assign,body,hyr,hR⟩:=HYY.out Y hBY;have HRR:=LH hR;clear hR)
     | (refine HRR.out.mono ?_;rintro e Y3 ⟨rfl,hJ3,hk3⟩))
    all_goals gi_wp2
    all_goals exact ⟨(HKF.out _ hk3).1,(HKF.out _ hk3).2,hJ3,HKX.out.trans hk3⟩
   case done =>
    rintro D ys X hD hys ⟨hJx,hkx⟩ hKD;have hJ3:J (ws ++ wordsB bs ++ List.replicate 0 0) X:=by
     rw[hys,HNB.out] at hJx;rw[List.replicate_zero,List.append_nil];exact hJx
    have hk13:=hk2w.trans hkx;have hDl:D≠lp:=by omega
    obtain ⟨d0,d1,d2,d3,d4⟩:=box5 (hk13.same _ _ (by simp;omega) HX.out (by rfl));have HKX:=LH hk13;have hDW:W.heap.size≤D:=by omega
    clear hJx hys hkx hk2w hJ2 HB1 HB2 hk13
    gi_wp2
    clear d0 d1 d2 d3 d4
    gi_loopw [31] (fun i wr=>∃p:Nat,p≤nk∧i= .int .i64 (p:Int)∧J (ws ++ wordsB bs ++ List.replicate p 0) wr∧KeepR base (some lp) X wr)
     (fun i _=>(nk - intOf i).toNat)
    case atStart=>exact ⟨0,Nat.zero_le _,by simp,hJ3,KeepR.refl _ _ _⟩
    case round =>
     obtain ⟨p,hp,rfl,hJs,hkr⟩:=hrel;have dy:=box_cell ((HKX.out.trans hkr).same _ _ (by simp;omega) HYB.out (by rfl))
     by_cases hlp:p<nk
     ·obtain ⟨fn,tmps,assign,body,hyr,hR⟩:=HY.out 4 _ 0 _ (by rw[List.length_append,List.length_append,List.length_replicate,wordsB_eq,List.length_map,List.length_range,←HNW.out,←HNB.out];omega) hJs;have HS:Hid (ws ++ wordsB bs ++ List.replicate (p+1) 0=ws ++ wordsB bs ++ List.replicate p 0 ++ [0]):=LH (by rw[rep_snoc];exact (List.append_assoc _ _ _).symm)
      gi_wp2
      refine hR.mono ?_
      rintro e W3 ⟨rfl,hJ4,hk4⟩
      gi_wp2
      go_roundw
      case rel=>exact ⟨p+1,by omega,congrArg (Value.int .i64) (by omega),by rw[HS.out];exact hJ4,hkr.trans hk4⟩
      case measure=>simp[intOf];omega
     ·have hKD2:=hkr.same _ _ (by simpa using hDl) hKD (by rfl);have hpk:p=nk:=by omega
      have HJF:Hid (J (ws ++ wordsB bs ++ List.replicate nk 0) _):=LH (by rw[←hpk];exact hJs);have hDs:=(Array.getElem?_eq_some_iff.1 hKD2).1;clear hpk hJs
      gi_wp2
      refine ⟨by simp,.inl ⟨_,_,rfl,run_takeDeferred hKD2,?_⟩⟩;exact ⟨_,results_none rfl _ _ _,⟨_,rfl⟩,hJ.putObj _ HJF.out hDW hKD2 rfl⟩
   case stop =>
    rintro D cc pre X _ _ h _;exact h.elim
theorem words_gives (t:Tr) (cv:Value) (base:Nat) (w:World) (hT:TrV w base t cv) (hb:base≤w.heap.size):Gives 92 #[cv] base (contentT t) w:=by
 obtain ⟨k,z,ws,bs,ks⟩:=t;intro lp J W hB h1 h2 hJ h0 hY m;refine callsIn_wide.2 ((callsIn_wide (n:=5)).1 ?_);exact words_in k z ws bs ks cv base W (TrV.below hB (Nat.le_refl _) _ _ hT) (by have:=hB.size;omega) lp h1 h2 J hJ h0 hY
def SeqI (w:World) (base:Nat) (v:Value) (xs:List Int) (pre:List Int) (W:World):Prop :=
 ∃u,Boxed W w.heap.size 31 u∧OwnU W base u (xs ++ pre)∧w.grownBy W v.ownBlock∧(u.ownBlock=v.ownBlock∨∀g,u.ownBlock=some g→w.heap.size≤g)
theorem own_cells {w:World} {base e n g:Nat} {v:Value} {xs:List Value} (h:w.ownsRow base e 1 v n xs) (hg:v.ownBlock=some g):∃cur,w.heap[g]? = some (.cells cur e (0,0))∧base≤g:=by
 rcases h.2 with ⟨rfl,_⟩ | ⟨g1,c,cur,rfl,hb,hh,_⟩
 ·simp[Value.ownBlock] at hg
 ·simp only[Value.ownBlock,Option.some.injEq] at hg;subst hg;exact ⟨cur,hh,hb⟩
theorem seqI_own (w:World) (base:Nat) (v:Value) (xs:List Int):OwnFrom w.heap.size (SeqI w base v xs):=by
 rintro s A B row ⟨u,hb,ho,hg,hn⟩ hgr hr;refine ⟨u,hb.kept hgr (fun e=> ?_),ho.kept hgr ?_,grown_tr hg hgr (.inr (fun g e=>(hr g e).1)),hn⟩
 ·obtain ⟨_,o,h1,h2⟩:=hr _ e.symm;rw[show A.heap[w.heap.size]? = _ from hb] at h1
  cases h1
  cases h2
 ·cases h3:u.ownBlock with
  | none=>exact .inl rfl
  | some g =>
   refine .inr (fun e=> ?_)
   obtain ⟨cur,h4,_⟩:=own_cells ho h3;obtain ⟨_,o,h1,h2⟩:=hr g e.symm;rw[h4] at h1;cases h1
   cases h2
set_option maxHeartbeats 1000000 in
theorem appseq_any (t:Tr) (cv:Value) (base:Nat) (v:Value) (xs:List Int) (w:World) (hT:TrV w base t cv) (hb:base≤w.heap.size) (ho:OwnU w base v xs) (hx:xs.length≤1000000) :
  Calls Tryz.prog 91 #[v,.func (.func 92) #[cv] #[]] w fun e w'=>∃v',e= .returned v'∧OwnU w' base v' (xs ++ contentT t)∧w.grownBy w' v.ownBlock∧(v'.ownBlock=v.ownBlock∨∀g,v'.ownBlock=some g→w.heap.size≤g):=by
 obtain ⟨A,c,e0,-⟩:=OwnN.numS (q:= .u64) (t:=44) ho;obtain ⟨i0,hi,hz0,hz1,hz2⟩:=info_parts Tryz.info44;have Hi:=LH (And.intro hi (And.intro hz0 (And.intro hz1 hz2)));clear hi hz0 hz1 hz2;have hG:=words_gives t cv base (w.alloc (.cells #[v] 31)) (TrV.below ((Below.refl _ w).alloc hb _) (Nat.le_refl _) _ _ hT) (by simp;omega);have hs0:SeqI w base v xs [] (w.alloc (.cells #[v] 31)):=⟨v,Boxed.new w _ v,by rw[List.append_nil];exact World.ownsRow.alloc ho _,World.grownBy_alloc w _ _,.inl rfl⟩
 have hvb:∀g,v.ownBlock=some g→base≤g∧g<w.heap.size:=fun g hg=>World.ownsRow.lt ho g hg
 have HG:=LH hG;have HS:=LH hs0;have HVB:=LH hvb;clear hG hs0 hT ho hvb;subst e0;obtain ⟨n,hn⟩:∃n,n=xs.length:=⟨_,rfl⟩;have HN:=LH hn;rw[←hn] at HG HS HVB hx ⊢;clear hn;refine (callsIn_wide (n:=5)).1 ?_
 refine callsIn_of_wp_marks Tryz.func91 rfl trivial ?_ rfl;simp only[Tryz.ntmps91,List.size_toArray,List.length_cons,List.length_nil,Nat.reduceAdd,Nat.reduceSub,Array.replicate_succ,Array.replicate_zero,List.push_toArray,List.append_toArray,List.nil_append,List.cons_append]
 gi_wp2
 obtain ⟨w1,hw1⟩:∃w1,w1=w.alloc (.cells #[.slice A n c] 31):=⟨_,rfl⟩;have hz1:w1.heap.size=w.heap.size+1:=by rw[hw1];simp
 rw[←hw1] at HG HS ⊢;refine range_gives rfl (enters_of Tryz.func92 (by kernel_rfl) rfl) HG.out (by omega) rfl (SeqI w base (.slice A n c) xs) (own_more (seqI_own _ _ _ _) (by omega)) HS.out
  (fun x=>{tmps:=#[.slice A n c,.func (.func 92) #[cv] #[],.pointer (some ⟨w.heap.size,0,none⟩),undef,.slice none 0 0,.int .u64 x,.func (.func 92) #[cv] #[],.int .u64 x,undef,undef,undef,undef,undef],defers:=[]}) ?assign ?body ?done
 case assign =>
  intro l m x W K hK
  gi_wp2
  exact hK
 case body =>
  rintro l m pre x W hpl ⟨u,hbx,hown,hgr,hbl⟩;have hsz:=hgr.size;have hlen:(xs ++ pre).length=n+pre.length:=by rw[List.length_append,HN.out]
  obtain ⟨k,hk⟩:∃k,k=(xs ++ pre).length:=⟨_,rfl⟩;have hk2:k≤4000000:=by omega
  have hrow:W.ownsRow base 44 1 u k ((xs ++ pre).map (Value.int .u64)):=by rw[hk];exact hown
  have hEnd:Hid (∀v' w',w'.ownsRow base 44 1 v' (k+1) ((xs ++ pre).map (Value.int .u64) ++ [.int .u64 x])→Boxed w' w.heap.size 31 u→Boxed (w'.setCell ⟨w.heap.size,0,none⟩ v') w.heap.size 31 v'→(W.alloc (.cells #[.int .u64 x] 44)).grownBy w' u.ownBlock→(w'.setCell ⟨w.heap.size,0,none⟩ v').ownsRow base 44 1 v' (k+1) ((xs ++ pre).map (Value.int .u64) ++ [.int .u64 x])→(v'.ownBlock=u.ownBlock∨v'.ownBlock=some (W.alloc (.cells #[.int .u64 x] 44)).heap.size)→KeepR base none W (w'.setCell ⟨w.heap.size,0,none⟩ v')∧SeqI w base (.slice A n c) xs (pre ++ [x]) (w'.setCell ⟨w.heap.size,0,none⟩ v')):=LH (by
   intro v' w' _ h2 h3 h4 h5 h6;have hWa:w.heap.size≤(W.alloc (.cells #[.int .u64 x] 44)).heap.size:=by simp;omega
   have hrow2:=World.ownsRow.alloc hrow (.cells #[.int .u64 x] 44);refine ⟨?_,v',h3,?_,?_,?_⟩
   ·refine (((KeepR.refl base none W).alloc (by omega) _).grown h4 (by omega) (fun r e=> ?_)).grown (grownBy_setCell' w' w.heap.size v') (by have:=h4.size;omega) (fun r e=> ?_)
    ·obtain ⟨cur,e1,e2⟩:=own_cells hrow2 e;exact ⟨e2,.inr (fun o ho=>by rw[e1] at ho;cases ho;rfl)⟩
    ·cases e
     exact ⟨hb,.inr (fun o ho=>by rw[show w'.heap[w.heap.size]? = _ from h2] at ho;cases ho;rfl)⟩
   ·unfold OwnU OwnN;rw[←List.append_assoc,List.map_append,List.length_append,←hk];exact h5
   ·exact grown_tr (grown_tr (grown_tr hgr (World.grownBy_alloc W _ none) (.inr (fun g e=>by cases e))) h4 (hbl.imp id (fun h g e=>h g e))) (grownBy_setCell' w' w.heap.size v') (.inr (fun g e=>by cases e;exact Nat.le_refl _))
   ·rcases h6 with e | e
    ·rw[e];exact hbl
    ·right
     intro g hg;rw[e] at hg;cases hg
     exact hWa)
  have HE:=hEnd;clear hEnd hown hgr hbl hlen hk;have hc0:=hbx.cell
  gi_wp2_with (gi_at_builtin;refine wpListIn_append_own_at _ rfl _ _ 31 rfl base 44 i0 (.int .u64 0) 1 8 Tryz.underlying31 Hi.out.1 Hi.out.2.1 Hi.out.2.2.1 Hi.out.2.2.2 rfl (by decide) _ _ _ rfl (hrow.alloc _) ⟨W.heap.size,0,none⟩ 1 1 [.int .u64 x] rfl rfl (cell_one_new _ _ _) (by simp[Value.oneCell']) (by unfold maxLen;omega) (by omega) (by simp;omega) ?_;intro v' w2 hown' hgrow _ hat;obtain ⟨g',cap',rfl⟩:=ownsRow_succ hown';obtain ⟨hv1,hv2,hr2,-,-⟩:=hbx.appended (by decide) hrow (by omega) hb hown' hgrow;have hc1:=hv1.cell;have hf1:=hv1.frozen)
  exact HE.out _ _ hown' hv1 hv2 hgrow hr2 hat
 case done =>
  rintro D W hD ⟨u,hbx,hown,hgr,hbl⟩ hK;have hc0:=hbx.cell
  gi_wp2
  refine ⟨by simp,.inl ⟨_,_,rfl,run_takeDeferred hK,?_⟩⟩;exact ⟨_,results_tmp rfl _ _ _,u,rfl,ownsRow_putObj hown _ hK rfl,grown_tr hgr (grownBy_putObj' W D _) (.inr (fun g e=>by cases e;omega)),hbl⟩
end Go.Proofs.YtmmlfnblodfjbaaGreatDoor
