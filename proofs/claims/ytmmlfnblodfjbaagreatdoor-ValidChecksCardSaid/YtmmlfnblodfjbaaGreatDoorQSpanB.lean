/- Layer 4, the document's functions: Right, Same, add, Norm. -/
import Derived.Test.YtmmlfnblodfjbaaGreatDoorQWord
import Derived.Deep.QuietTactic
import Derived.BigQuiet
import Derived.IntWalk
import Derived.Laws.StructEq
import Derived.Deep.OwnRows
import Derived.Lib.AppendZeros
import Derived.StillTailTactics
set_option maxRecDepth 100000
namespace Go.Proofs.YtmmlfnblodfjbaaGreatDoor
open Go.RowKit Go.Deep
theorem Tryz.info67:(Tryz.prog.info? 67).map (fun i=>(i.zero,i.size,i.bytes))=some (some (.agg #[.int .i64 0,.int .i64 0]),2,16):=by kernel_rfl
def cellsS (l:List Sp):List Value:=l.flatMap (fun s=>[Value.int .i64 s.1,Value.int .i64 s.2])
theorem cellsS_length (l:List Sp):(cellsS l).length=l.length*2:=by
 induction l with
 | nil=>rfl
 | cons s l ih=>simp only[cellsS,List.flatMap_cons,List.length_append,List.length_cons,List.length_nil] at ih ⊢;omega
theorem cellsS_snoc (l:List Sp) (s:Sp):cellsS (l ++ [s])=cellsS l ++ [.int .i64 s.1,.int .i64 s.2]:=by simp[cellsS]
theorem cellsS_get (l:List Sp) (j:Nat) (hj:j<l.length):(cellsS l)[j*2]? = some (.int .i64 (l[j]?.getD (0,0)).1)∧(cellsS l)[j*2+1]? = some (.int .i64 (l[j]?.getD (0,0)).2):=by
 induction l generalizing j with
 | nil=>simp at hj
 | cons s l ih =>
  have e:cellsS (s :: l)= .int .i64 s.1 :: .int .i64 s.2 :: cellsS l:=by simp[cellsS]
  rw[e];cases j with
  | zero=>simp
  | succ j =>
   have:=ih j (by simpa using hj);rw[show (j+1)*2=j*2+1+1 by omega]
   simpa using this
def OwnS (w:World) (base:Nat) (v:Value) (l:List Sp):Prop:=w.ownsRow base 67 2 v l.length (cellsS l)
theorem OwnS.nil (w:World) (base:Nat):OwnS w base (.slice none 0 0) []:=World.ownsRow_nil _ _ _ _
theorem OwnS.spans {w:World} {base:Nat} {v:Value} {l:List Sp} (h:OwnS w base v l):Spans w w.heap.size v l:=by
 have h0:=h;obtain ⟨h1,⟨rfl,hn⟩ | ⟨g,cap,cur,rfl,hb,hh,hc,hm,hs,ht⟩⟩:=h
 ·have e:l=[]:=List.eq_nil_of_length_eq_zero hn;subst e;exact nil_spans _ _
 ·refine ⟨_,cap,rfl,hc,by unfold maxLen at hm;omega,fun hp=>⟨g,0,rfl,?_,fun j hj=> ?_⟩⟩
  ·rcases Nat.lt_or_ge g w.heap.size with hlt | hge
   ·exact hlt
   ·rw[Array.getElem?_eq_none hge] at hh;cases hh
  ·obtain ⟨c1,c2⟩:=cellsS_get l j hj;have e:∀k,k<l.length*2→w.cell? ⟨g,k,none⟩=(cellsS l)[k]? := fun k hk=>by
    rw[←ht,List.getElem?_take_of_lt hk]
    simp[World.cell?,hh]
   rw[Nat.zero_add,e _ (by omega),e _ (by omega)];exact ⟨c1,c2⟩
theorem OwnS.on {w w':World} {base:Nat} {v:Value} {l:List Sp} (h:OwnS w base v l) (hB:Below w.heap.size w w'):OwnS w' base v l:=by
 obtain ⟨h1,h2 | ⟨g,c,cur,e,hg,hh,r⟩⟩:=h
 ·exact ⟨h1,.inl h2⟩
 ·refine ⟨h1,.inr ⟨g,c,cur,e,hg,?_,r⟩⟩;rw[hB.block g ?_]
  ·exact hh
  ·rcases Nat.lt_or_ge g w.heap.size with hlt | hge
   ·exact hlt
   ·rw[Array.getElem?_eq_none hge] at hh;cases hh
theorem append_span (w:World) (base ty:Nat) (v:Value) (l:List Sp) (x y:Int) (hown:OwnS w base v l) (hk:l.length≤1000000000) (hbase:base≤w.heap.size) :
  ∃v' w',(Builtin.append_ #[49,49] ty #[v,.slice (some ⟨w.heap.size,0,none⟩) 1 1]).run Tryz.prog (w.alloc (.cells #[.int .i64 x,.int .i64 y] 67))= .ok v' w'∧OwnS w' base v' (l ++ [(x,y)])∧(w.alloc (.cells #[.int .i64 x,.int .i64 y] 67)).grownBy w' v.ownBlock:=by
 obtain ⟨i0,hi,hz0,hz1,hz2⟩:=info_parts Tryz.info67;have hB:Below w.heap.size w (w.alloc (.cells #[.int .i64 x,.int .i64 y] 67)):=(Below.refl _ _).alloc (Nat.le_refl _) _;obtain ⟨v',w',hrun,ho,hg,_⟩:=run_append_own (P:=Tryz.prog) (w:=w.alloc (.cells #[.int .i64 x,.int .i64 y] 67)) base 49 ty 67 i0 _ 2 16 Tryz.underlying49 hi hz0 hz1 hz2 rfl (by decide) v l.length (cellsS l) (hown.on hB) ⟨w.heap.size,0,none⟩ 1 1 [.int .i64 x,.int .i64 y] rfl
  (fun j u hu=>by
   match j,hu with
   | 0,hu=>simp at hu;subst hu;simp[Addr.add]
   | 1,hu=>simp at hu;subst hu;simp[Addr.add])
  (fun u hu=>by simp at hu;rcases hu with rfl | rfl <;> rfl) (by unfold maxLen;omega) (by omega) (by simp;omega)
 refine ⟨v',w',hrun,?_,hg⟩;unfold OwnS;rw[cellsS_snoc,List.length_append];exact ho
def Box2 (w:World) (g:Nat) (x y:Int):Prop:=w.heap[g]? = some (.cells #[.int .i64 x,.int .i64 y] 67 (0,0))
theorem Box2.cells {w:World} {g:Nat} {x y:Int} (h:Box2 w g x y):w.cell? ⟨g,0,none⟩=some (.int .i64 x)∧w.cell? ⟨g,1,none⟩=some (.int .i64 y):=by
 unfold Box2 at h
 simp[World.cell?,h]
theorem Box2.of_block {w w':World} {g:Nat} {x y:Int} (h:Box2 w g x y) (e:w'.heap[g]? = w.heap[g]?):Box2 w' g x y:=e.trans h
theorem Box2.new (w:World) (x y:Int):Box2 (w.alloc (.cells #[.int .i64 x,.int .i64 y] 67)) w.heap.size x y:=by unfold Box2;rw[blk_alloc_new]
theorem drop_cons {l:List Sp} {t:Nat} (h:t<l.length):l.drop t=l[t]?.getD (0,0) :: l.drop (t+1):=by
 rw[List.drop_eq_getElem_cons h,List.getElem?_eq_getElem h];rfl
theorem OwnS.base {w:World} {base base':Nat} {v:Value} {l:List Sp} (h:OwnS w base v l) (hb:base'≤base):OwnS w base' v l:=by
 obtain ⟨h1,h2 | ⟨g,c,cur,e,hg,r⟩⟩:=h
 ·exact ⟨h1,.inl h2⟩
 ·exact ⟨h1,.inr ⟨g,c,cur,e,by omega,r⟩⟩
end Go.Proofs.YtmmlfnblodfjbaaGreatDoor
namespace Go.Proofs.YtmmlfnblodfjbaaGreatDoor
open Go.RowKit
def lastS (l:List Sp):Sp:=l[l.length - 1]?.getD (0,0)
def joinL (l:List Sp) (s:Sp):List Sp :=
 if s.2≤s.1 then l else if 0<l.length∧s.1≤(lastS l).2 then l.set (l.length - 1) ((lastS l).1,max (lastS l).2 s.2) else l ++ [s]
theorem lastS_snoc (l:List Sp) (t:Sp):lastS (l ++ [t])=t:=by simp[lastS]
theorem set_snoc (l:List Sp) (t u:Sp):(l ++ [t]).set ((l ++ [t]).length - 1) u=l ++ [u]:=by simp
theorem join_snoc (l:List Sp) (t s:Sp):joinL (l ++ [t]) s=if s.2≤s.1 then l ++ [t] else if s.1≤t.2 then l ++ [(t.1,max t.2 s.2)] else l ++ [t] ++ [s]:=by
 unfold joinL;rw[lastS_snoc,set_snoc]
 simp
theorem join_nil (s:Sp):joinL [] s=if s.2≤s.1 then [] else [s]:=by simp[joinL]
theorem RightL.one {s:Sp} (h:s.1<s.2):RightL [s]:=RightL.nil.cons h (fun t ht=>by simp at ht)
theorem RightL.before {l:List Sp} {t:Sp} (h:RightL (l ++ [t])):∀u∈l,u.2<t.1:=fun u hu=>(List.pairwise_append.1 h.2).2.2 u hu t (by simp)
theorem join_right {l:List Sp} {s:Sp} (h:RightL l) (hb:∀t∈l,t.1≤s.1):RightL (joinL l s)∧(∀x,places (joinL l s) x↔places l x∨(s.1≤x∧x<s.2))∧∀t∈joinL l s,t.1≤s.1:=by
 rcases List.eq_nil_or_concat l with rfl | ⟨m,t,rfl⟩
 ·rw[join_nil]
  split
  ·exact ⟨h,fun x=>⟨.inl,fun h2=>h2.elim id (fun h3=>by omega)⟩,hb⟩
  ·exact ⟨RightL.one (by omega),fun x=>by rw[places_cons];constructor <;> rintro (h | h) <;> first | exact .inr h | exact .inl h,fun t ht=>by simp at ht;rw[ht];omega⟩
 ·rw[List.concat_eq_append] at h hb ⊢;have ht:=h.right.head;have hbt:=hb t (by simp);rw[join_snoc]
  split
  ·exact ⟨h,fun x=>⟨.inl,fun h2=>h2.elim id (fun h3=>by omega)⟩,hb⟩
  ·split
   ·refine ⟨h.left.append (RightL.one (by simp only;omega)) (fun u hu v hv=> ?_),fun x=> ?_,fun u hu=> ?_⟩
    ·simp at hv;rw[hv];exact h.before u hu
    ·rw[places_append,places_append,places_cons,places_cons];have:=places_nil x;simp only[this,or_false]
     constructor
     ·rintro (h3 | h3)
      ·exact .inl (.inl h3)
      ·by_cases h4:x<t.2
       ·exact .inl (.inr ⟨h3.1,h4⟩)
       ·exact .inr (by omega)
     ·rintro ((h3 | h3) | h3)
      ·exact .inl h3
      ·exact .inr (by omega)
      ·exact .inr (by omega)
    ·rcases List.mem_append.1 hu with hu | hu
     ·exact hb u (by simp[hu])
     ·simp at hu;rw[hu];exact hbt
   ·refine ⟨h.append (RightL.one (by omega)) (fun u hu v hv=> ?_),fun x=> ?_,fun u hu=> ?_⟩
    ·simp at hv;rw[hv]
     rcases List.mem_append.1 hu with hu | hu
     ·have:=h.before u hu;omega
     ·simp at hu;rw[hu];omega
    ·rw[places_append,places_cons];have:=places_nil x;simp only[this,or_false]
    ·rcases List.mem_append.1 hu with hu | hu
     ·exact hb u hu
     ·simp at hu;rw[hu];omega
theorem join_add {l:List Sp} {s:Sp} (h:RightL l) (hb:∀t∈l,t.1≤s.1):joinL l s=addL l s :=
 right_uniq (join_right h hb).1 (addL_right h).1 (fun x=>by rw[(join_right h hb).2.1,(addL_right h).2])
theorem join_length (l:List Sp) (s:Sp):(joinL l s).length≤l.length+1:=by
 unfold joinL
 split
 ·omega
 ·split <;> simp
theorem fold_join {m:List Sp} (hm:m.Pairwise (fun a b=>a.1≤b.1)):∀{o:List Sp},RightL o→(∀t∈o,∀u∈m,t.1≤u.1)→m.foldl joinL o=m.foldl addL o:=by
 induction m with
 | nil=>intro o _ _;rfl
 | cons s m ih =>
  intro o ho hb;have hs:∀t∈o,t.1≤s.1:=fun t ht=>hb t ht s List.mem_cons_self
  obtain ⟨h1,h2⟩:=List.pairwise_cons.1 hm;rw[List.foldl_cons,List.foldl_cons,←join_add ho hs];exact ih h2 (join_right ho hs).1 (fun t ht u hu=>by have:=(join_right ho hs).2.2 t ht;have:=h1 u hu;omega)
theorem sorted_norm {m:List Sp} (hm:m.Pairwise (fun a b=>a.1≤b.1)):m.foldl joinL []=normL m:=fold_join hm RightL.nil (fun t ht=>by simp at ht)
theorem places_perm {l m:List Sp} (h:l.Perm m) (x:Int):places l x↔places m x:=by
 unfold places
 constructor
 ·rintro ⟨s,hs,hx⟩;exact ⟨s,h.mem_iff.1 hs,hx⟩
 ·rintro ⟨s,hs,hx⟩;exact ⟨s,h.mem_iff.2 hs,hx⟩
theorem perm_norm {l m:List Sp} (h:l.Perm m):normL l=normL m:=norm_same (places_perm h)
end Go.Proofs.YtmmlfnblodfjbaaGreatDoor
namespace Go.Proofs.YtmmlfnblodfjbaaGreatDoor
open Go.RowKit Go.Deep
set_option maxHeartbeats 400000 in
theorem isEmpty_any (x y:Int) (w:World) :
  Calls Tryz.prog 108 #[.agg #[.int .i64 x,.int .i64 y]] w fun e w'=>e= .returned (.bool (decide (y≤x)))∧w'=w.alloc (.cells #[.int .i64 x,.int .i64 y] 67):=by
 obtain ⟨c0,c1⟩:=(Box2.new w x y).cells;go_enter Tryz.func108,Tryz.ntmps108
 go_wp2
 go_ret;exact ⟨rfl,rfl⟩
theorem cellsS_set (l:List Sp) (j:Nat) (z:Int):(cellsS l).set (j*2+1) (.int .i64 z)=cellsS (l.set j ((l[j]?.getD (0,0)).1,z)):=by
 induction l generalizing j with
 | nil=>simp[cellsS]
 | cons s l ih =>
  have e:∀(s:Sp) (l:List Sp),cellsS (s :: l)= .int .i64 s.1 :: .int .i64 s.2 :: cellsS l:=fun s l=>by simp[cellsS]
  cases j with
  | zero=>simp[e]
  | succ j =>
   rw[e,show (j+1)*2+1=j*2+1+1+1 by omega,List.set_cons_succ,List.set_cons_succ,ih,List.set_cons_succ,e]
   simp
theorem OwnS.form {w:World} {base:Nat} {v:Value} {l:List Sp} (h:OwnS w base v l) (hn:0<l.length):∃g cap,v= .slice (some ⟨g,0,none⟩) l.length cap∧base≤g∧g<w.heap.size:=by
 have hlt:=World.ownsRow.lt h;obtain ⟨_,⟨_,h0⟩ | ⟨g,cap,cur,rfl,_⟩⟩:=h
 ·omega
 ·obtain ⟨h1,h2⟩:=hlt g rfl;exact ⟨g,cap,rfl,h1,h2⟩
theorem OwnS.setTo {w:World} {base g cap n k:Nat} {l:List Sp} (h:OwnS w base (.slice (some ⟨g,0,none⟩) n cap) l) (hn:l.length=n) (z:Int) :
  OwnS (w.setCell ⟨g,k*2+1,none⟩ (.int .i64 z)) base (.slice (some ⟨g,0,none⟩) n cap) (l.set k ((l[k]?.getD (0,0)).1,z))∧w.grownBy (w.setCell ⟨g,k*2+1,none⟩ (.int .i64 z)) (some g):=by
 subst hn;obtain ⟨a,b⟩:=World.ownsRow.stored h (k*2+1) (.int .i64 z);refine ⟨?_,b⟩;unfold OwnS;rw[←cellsS_set,List.length_set];exact a
theorem OwnS.cellTo {w:World} {base g cap n k:Nat} {l:List Sp} (h:OwnS w base (.slice (some ⟨g,0,none⟩) n cap) l) (hn:l.length=n) (hk:k<n) :
  w.cell? ⟨g,k*2+1,none⟩=some (.int .i64 (l[k]?.getD (0,0)).2)∧w.frozen? ⟨g,k*2+1,none⟩=false:=by
 subst hn;refine ⟨?_,World.ownsRow.frozenAt h _⟩;rw[World.ownsRow.cellAt h _ (by omega),(cellsS_get l k hk).2]
theorem grown_any {a b:World} {row:Option Nat} (h:a.grownBy b none):a.grownBy b row:=⟨h.os,h.tape,h.output,h.size,fun i hi _=>h.block i hi (by simp)⟩
theorem grown_drew' {a b:World} {row:Option Nat} (h:a.grownBy b row):a.grownBy b.drew row:=⟨h.os,h.tape,h.output,h.size,h.block⟩
theorem grown_drewN {a b:World} {row:Option Nat} (h:a.grownBy b row) (n:Nat):a.grownBy (b.drewN n) row:=⟨h.os,h.tape,h.output,h.size,h.block⟩
theorem after_box {w w':World} {base:Nat} {v:Value} {l:List Sp} {x y:Int} (h:OwnS w base v l) (e:w'=(w.alloc (.cells #[.int .i64 x,.int .i64 y] 67)).alloc (.cells #[.int .i64 x,.int .i64 y] 67)) :
  OwnS w' base v l∧w.grownBy w' none∧Box2 w' w.heap.size x y:=by
 subst e;exact ⟨World.ownsRow.alloc (World.ownsRow.alloc h _) _,grown_trans (World.grownBy_alloc _ _ _) (World.grownBy_alloc _ _ _),(Box2.new w x y).of_block (Below.heap_alloc _ _ _ (by simp))⟩
set_option maxHeartbeats 1000000 in
theorem join_any (base:Nat) (v:Value) (l:List Sp) (x y:Int) (w:World) (h:OwnS w base v l) (hlen:l.length≤1000000) (hb:base≤w.heap.size) :
  Calls Tryz.prog 73 #[v,.agg #[.int .i64 x,.int .i64 y]] w fun e w'=>∃v',e= .returned v'∧OwnS w' base v' (joinL l (x,y))∧w.grownBy w' v.ownBlock:=by
 obtain ⟨c0,c1⟩:=(Box2.new w x y).cells;obtain ⟨A,c,hv,hc,hm,hr⟩:=h.spans;obtain ⟨len,hn⟩:∃n,n=l.length:=⟨_,rfl⟩;rw[←hn] at hv;have HN:=LH hn;have HO:=LH h;have hlen':len≤1000000:=by omega
 clear hr hc h hn;subst hv
 by_cases h1:y≤x
 ·have d1:decide (y≤x)=true:=decide_eq_true h1;have HJ:=LH (show joinL l (x,y)=l by unfold joinL;rw[if_pos h1])
  go_enter Tryz.func73,Tryz.ntmps73
  go_wp2_with (go_at_call 108;refine (isEmpty_any x y _).mono ?_;rintro e w' ⟨rfl,hw⟩;obtain ⟨hO2,hG2,hX2⟩:=after_box HO.out hw;have HO2:=LH hO2;have HG2:=LH hG2;clear hO2 hG2 hX2 hw c0 c1)
  go_ret;exact ⟨_,rfl,by rw[HJ.out];exact HO2.out,grown_any HG2.out⟩
 ·have d1:decide (y≤x)=false:=decide_eq_false h1;cases hk:len with
  | zero =>
   subst hk;have hl0:l=[]:=List.eq_nil_of_length_eq_zero HN.out.symm;subst hl0;have HJ:=LH (show joinL [] (x,y)=[(x,y)] by rw[join_nil,if_neg h1])
   go_enter Tryz.func73,Tryz.ntmps73
   go_wp2_with (first | (go_at_call 108;refine (isEmpty_any x y _).mono ?_;rintro e w2 ⟨rfl,hw⟩;obtain ⟨hO2,hG2,hX2⟩:=after_box HO.out hw;clear hw c0 c1;obtain ⟨c0,c1⟩:=hX2.cells;obtain ⟨v',w',hrun,ho',hg'⟩:=append_span w2 base 49 _ [] x y hO2 (by simp) (by have:=hG2.size;omega);have HRun:=LH hrun;have HO':=LH ho';have HG:=LH (grown_trans (grown_trans (grown_any hG2) (World.grownBy_alloc _ _ _)) hg');clear hrun ho' hg' hO2 hG2 hX2) | (at_builtin;refine Lib.wpList_append_run _ rfl _ _ _ _ rfl _ _ rfl rfl _ _ HRun.out ?_))
   go_ret;exact ⟨_,rfl,by rw[HJ.out];exact HO'.out,HG.out⟩
  | succ k =>
   subst hk;have hlk:l.length=k+1:=HN.out.symm;obtain ⟨g,cap,hv,hbg,hgl⟩:=OwnS.form HO.out (by omega);rw[hlk] at hv;cases hv
   have HLK:=LH hlk;clear hlk;obtain ⟨z,hz⟩:∃z,z=(l[k]?.getD (0,0)).2:=⟨_,rfl⟩;obtain ⟨a,ha⟩:∃a,a=(l[k]?.getD (0,0)).1:=⟨_,rfl⟩;have HZ:=LH hz;have HAA:=LH ha;have HLS:Hid (lastS l=(a,z)):=LH (by unfold lastS;rw[HLK.out,Nat.add_sub_cancel,hz,ha]);clear hz ha;have hw:IntKind.i64.wrap ((k:Int)+1 - 1)=(k:Int):=by rw[Int.add_sub_cancel];exact IntWalk.i64_in _ (by omega)
   by_cases h2:x≤z
   ·have d2:decide (x≤z)=true:=decide_eq_true h2;have HJ:=LH (show joinL l (x,y)=l.set k (a,max z y) by unfold joinL;rw[if_neg h1,if_pos ⟨by rw[HLK.out];omega,by rw[HLS.out];exact h2⟩,HLS.out,HLK.out,Nat.add_sub_cancel])
    go_enter Tryz.func73,Tryz.ntmps73
    go_wp2_with (go_at_call 108;refine (isEmpty_any x y _).mono ?_;rintro e w2 ⟨rfl,hw2⟩;obtain ⟨hO2,hG2,hX2⟩:=after_box HO.out hw2;clear hw2 c0 c1;obtain ⟨c0,c1⟩:=hX2.cells;obtain ⟨lc,lf⟩:=hO2.cellTo (k:=k) HLK.out (by omega);rw[←HZ.out] at lc;have HO2:=LH hO2;have HG2:=LH hG2;clear hO2 hG2 hX2)
    go_quiet (fail)
    have hO3:OwnS (w2.drewN nq) base _ l:=HO2.out;have hG3:w.grownBy (w2.drewN nq) none:=grown_drewN HG2.out nq;have d3:(w2.drewN nq).cell? ⟨w.heap.size,0,none⟩=some (.int .i64 x):=c0;have d4:(w2.drewN nq).cell? ⟨w.heap.size,1,none⟩=some (.int .i64 y):=c1;clear c0 c1 lc lf HO2 HG2;generalize w2.drewN nq=W at *
    obtain ⟨lc,lf⟩:=hO3.cellTo (k:=k) HLK.out (by omega);rw[←HZ.out] at lc;have HO3:=LH hO3;have HG3:=LH hG3;clear hO3 hG3
    go_wp2
    go_still_tail 10,(by kernel_rfl)
    rw[show (if z<y then y else z)=max z y by split <;> omega]
    change wpList _ _ _ _ _ W.drew
    have hO4:OwnS W.drew base _ l:=HO3.out;have hG4:w.grownBy W.drew none:=grown_drew' HG3.out;generalize W.drew=W2 at *
    clear HO3 HG3 lc lf d3 d4;obtain ⟨lc,lf⟩:=hO4.cellTo (k:=k) HLK.out (by omega);obtain ⟨s1,s2⟩:=hO4.setTo (k:=k) HLK.out (max z y);have HS:=LH s1;have HG:=LH (grown_trans (grown_any hG4) s2);rw[←HAA.out] at HS;clear hO4 hG4 s1 s2
    go_wp2
    go_ret;exact ⟨_,rfl,by rw[HJ.out];exact HS.out,HG.out⟩
   ·have d2:decide (x≤z)=false:=decide_eq_false h2;have HJ:=LH (show joinL l (x,y)=l ++ [(x,y)] by unfold joinL;rw[if_neg h1,if_neg (fun h=>by have:=h.2;rw[HLS.out] at this;exact h2 this)])
    go_enter Tryz.func73,Tryz.ntmps73
    go_wp2_with (go_at_call 108;refine (isEmpty_any x y _).mono ?_;rintro e w2 ⟨rfl,hw2⟩;obtain ⟨hO2,hG2,hX2⟩:=after_box HO.out hw2;clear hw2 c0 c1;obtain ⟨c0,c1⟩:=hX2.cells;obtain ⟨lc,lf⟩:=hO2.cellTo (k:=k) HLK.out (by omega);rw[←HZ.out] at lc;have HO2:=LH hO2;have HG2:=LH hG2;clear hO2 hG2 hX2)
    go_quiet (fail)
    have hO3:OwnS (w2.drewN nq) base _ l:=HO2.out;have hG3:w.grownBy (w2.drewN nq) none:=grown_drewN HG2.out nq;have d3:(w2.drewN nq).cell? ⟨w.heap.size,0,none⟩=some (.int .i64 x):=c0;have d4:(w2.drewN nq).cell? ⟨w.heap.size,1,none⟩=some (.int .i64 y):=c1;clear c0 c1 lc lf HO2 HG2;generalize w2.drewN nq=W at *
    obtain ⟨v',w',hrun,ho',hg'⟩:=append_span W base 49 _ l x y hO3 (by rw[HLK.out];omega) (by have:=hG3.size;omega);have HRun:=LH hrun;have HO':=LH ho';have HG:=LH (grown_trans (grown_trans (grown_any hG3) (World.grownBy_alloc _ _ _)) hg');clear hrun ho' hg' hO3 hG3
    go_wp2_with (at_builtin;refine Lib.wpList_append_run _ rfl _ _ _ _ rfl _ _ rfl rfl _ _ HRun.out ?_)
    go_ret;exact ⟨_,rfl,by rw[HJ.out];exact HO'.out,HG.out⟩
end Go.Proofs.YtmmlfnblodfjbaaGreatDoor
