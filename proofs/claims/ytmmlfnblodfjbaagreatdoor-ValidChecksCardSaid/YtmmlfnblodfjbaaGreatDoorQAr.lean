/- Plain facts for layer 7 (arena): sizes and places. No program is named here. -/
import Derived.Test.YtmmlfnblodfjbaaGreatDoorQWord
import Derived.Deep.OwnRows
import Derived.Maps.AppendAt
import Derived.Lib.AppendZeros
import Derived.WalkSpells
import Derived.WalkLawsBesides
import Derived.Deep.QuietTactic
import Derived.BigQuiet
import Derived.IntWalk
set_option maxRecDepth 100000
namespace Go.Proofs.YtmmlfnblodfjbaaGreatDoor
def fitsL (l:List Int):Bool:=decide (1≤l.length∧l.length≤16∧(1:Int)≤l[0]?.getD 0∧(∀s∈l,0≤s)∧l.sum≤4096)
def withinB (l:List Int) (seg at_ n:Int):Bool:=decide (0≤seg∧seg<l.length∧0≤at_∧0≤n∧at_≤l[seg.toNat]?.getD 0∧n≤l[seg.toNat]?.getD 0 - at_)
def placeI (l:List Int) (seg at_:Int):Int:=if fitsL l=true∧withinB l seg at_ 1=true then at_+(l.take seg.toNat).sum else -1
theorem sum_take_succ {l:List Int} {t:Nat} (h:t<l.length):(l.take (t+1)).sum=(l.take t).sum+l[t]?.getD 0:=by
 rw[List.take_add_one,List.sum_append,List.getElem?_eq_getElem h];simp only[Option.toList_some,List.sum_cons,List.sum_nil,Option.getD_some]
 omega
theorem sum_nonneg:∀{l:List Int},(∀s∈l,0≤s)→0≤l.sum:=by
 intro l
 induction l with
 | nil=>intro _;simp
 | cons x l ih =>
  intro h;have h1:=h x (List.mem_cons_self ..);have h2:=ih (fun s hs=>h s (List.mem_cons_of_mem _ hs))
  rw[List.sum_cons]
  omega
theorem sum_split (l:List Int) (t:Nat):l.sum=(l.take t).sum+(l.drop t).sum:=by
 conv=>lhs;rw[←List.take_append_drop t l]
 rw[List.sum_append]
def FitTo (l:List Int) (t:Nat):Prop:=(∀s∈l.take t,0≤s)∧0≤(l.take t).sum∧(l.take t).sum≤4096
theorem FitTo.zero (l:List Int):FitTo l 0:=⟨fun s h=>by simp at h,by simp,by simp⟩
theorem FitTo.next {l:List Int} {t:Nat} (h:FitTo l t) (ht:t<l.length) (h1:0≤l[t]?.getD 0) (h2:l[t]?.getD 0≤4096 - (l.take t).sum):FitTo l (t+1):=by
 obtain ⟨a,b,c⟩:=h;refine ⟨fun s hs=> ?_,by rw[sum_take_succ ht];omega,by rw[sum_take_succ ht];omega⟩
 rw[List.take_add_one,List.getElem?_eq_getElem ht] at hs;rw[List.getElem?_eq_getElem ht] at h1
 rcases List.mem_append.1 hs with hs | hs
 ·exact a s hs
 ·simp at hs
  subst hs;exact h1
theorem fits_not {l:List Int} {t:Nat} (ht:t<l.length) (hb:l[t]?.getD 0<0∨4096 - (l.take t).sum<l[t]?.getD 0):fitsL l=false:=by
 refine decide_eq_false (fun ⟨_,_,_,h4,h5⟩=> ?_)
 have hm:l[t]?.getD 0∈l:=by rw[List.getElem?_eq_getElem ht];exact List.getElem_mem ht
 have h6:=h4 _ hm;have h7:=sum_split l (t+1);rw[sum_take_succ ht] at h7;have h8:0≤(l.drop (t+1)).sum:=sum_nonneg (fun s hs=>h4 s (List.mem_of_mem_drop hs))
 omega
theorem fits_yes {l:List Int} (h:FitTo l l.length) (h1:1≤l.length) (h2:l.length≤16) (h3:(1:Int)≤l[0]?.getD 0):fitsL l=true:=by
 obtain ⟨a,b,c⟩:=h;rw[List.take_length] at a c;exact decide_eq_true ⟨h1,h2,h3,a,c⟩
theorem fits_all {l:List Int} (h:fitsL l=true):1≤l.length∧l.length≤16∧(1:Int)≤l[0]?.getD 0∧(∀s∈l,0≤s)∧l.sum≤4096:=of_decide_eq_true h
theorem fits_take {l:List Int} (h:fitsL l=true) (t:Nat):0≤(l.take t).sum∧(l.take t).sum≤4096:=by
 obtain ⟨_,_,_,h4,h5⟩:=fits_all h;have h7:=sum_split l t;have h8:0≤(l.drop t).sum:=sum_nonneg (fun s hs=>h4 s (List.mem_of_mem_drop hs))
 exact ⟨sum_nonneg (fun s hs=>h4 s (List.mem_of_mem_take hs)),by omega⟩
end Go.Proofs.YtmmlfnblodfjbaaGreatDoor
namespace Go.Proofs.YtmmlfnblodfjbaaGreatDoor
open Go.RowKit Go.Deep
def ArV (w:World) (B:Nat) (v:Value) (ls:List (List Int)):Prop :=
 ∃A c,v= .slice A ls.length c∧ls.length≤c∧c≤9223372036854775807∧(0<ls.length→∃b off,A=some ⟨b,off,none⟩∧b<B∧∀j,j<ls.length→∃s,w.cell? ⟨b,off+j,none⟩=some s∧NumS .u64 w B s (ls[j]?.getD []))
theorem ArV.below {w w':World} {B B':Nat} {v:Value} {ls:List (List Int)} (h:ArV w B v ls) (hb:Below B' w w') (hB:B≤B'):ArV w' B v ls:=by
 obtain ⟨A,c,e,hc,hm,hr⟩:=h;refine ⟨A,c,e,hc,hm,fun hl=> ?_⟩
 obtain ⟨b,off,ea,hlt,hcell⟩:=hr hl;refine ⟨b,off,ea,hlt,fun j hj=> ?_⟩
 obtain ⟨s,h1,h2⟩:=hcell j hj;exact ⟨s,(hb.cell (p:=⟨b,off+j,none⟩) (by show b<B';omega)).trans h1,h2.below hb hB⟩
theorem ArV.more {w:World} {B B':Nat} {v:Value} {ls:List (List Int)} (h:ArV w B v ls) (hB:B≤B'):ArV w B' v ls:=by
 obtain ⟨A,c,e,hc,hm,hr⟩:=h;refine ⟨A,c,e,hc,hm,fun hl=> ?_⟩
 obtain ⟨b,off,ea,hlt,hcell⟩:=hr hl;refine ⟨b,off,ea,by omega,fun j hj=> ?_⟩
 obtain ⟨s,h1,h2⟩:=hcell j hj;exact ⟨s,h1,h2.more hB⟩
theorem ArV.on {a b:World} {v:Value} {ls:List (List Int)} (h:ArV a a.heap.size v ls) (k:Below a.heap.size a b):ArV b b.heap.size v ls:=(h.below k (Nat.le_refl _)).more k.size
theorem ArV.form {a:World} {B m:Nat} {v:Value} {ls:List (List Int)} (h:ArV a B v ls) (hm:ls.length=m):∃A c,v= .slice A m c:=by
 obtain ⟨A,c,e,_⟩:=h;exact ⟨A,c,by rw[e,hm]⟩
def sizesL (ls:List (List Int)):List Int:=ls.map (fun s=>(s.length:Int))
theorem sizesL_get {ls:List (List Int)} {t:Nat} (h:t<ls.length):(sizesL ls)[t]?.getD 0=((ls[t]?.getD []).length:Int):=by
 unfold sizesL;rw[List.getElem?_map,List.getElem?_eq_getElem h]
 rfl
theorem sizesL_take {ls:List (List Int)} {t:Nat} (h:t<ls.length):(sizesL ls).take (t+1)=(sizesL ls).take t ++ [((ls[t]?.getD []).length:Int)]:=by
 rw[List.take_add_one]
 congr 1
 unfold sizesL;rw[List.getElem?_map,List.getElem?_eq_getElem h]
 rfl
theorem sizesL_length (ls:List (List Int)):(sizesL ls).length=ls.length:=by unfold sizesL;rw[List.length_map]
theorem sizesL_pos (ls:List (List Int)):∀s∈sizesL ls,0≤s:=by
 intro s hs;obtain ⟨x,_,rfl⟩:=List.mem_map.1 hs
 omega
theorem sizesL_le (ls:List (List Int)) (t:Nat):0≤((sizesL ls).take t).sum∧((sizesL ls).take t).sum≤(sizesL ls).sum:=by
 have h7:=sum_split (sizesL ls) t;have h8:0≤((sizesL ls).drop t).sum:=sum_nonneg (fun s hs=>sizesL_pos ls s (List.mem_of_mem_drop hs))
 exact ⟨sum_nonneg (fun s hs=>sizesL_pos ls s (List.mem_of_mem_take hs)),by omega⟩
theorem Tryz.info3:(Tryz.prog.info? 3).map (fun i=>(i.zero,i.size,i.bytes))=some (some (.int .i64 0),1,8):=by kernel_rfl
def OwnI (w:World) (base:Nat) (v:Value) (xs:List Int):Prop:=OwnN .i64 3 w base v xs
theorem OwnI.nil (w:World) (base:Nat):OwnI w base (.slice none 0 0) []:=World.ownsRow_nil _ _ _ _
theorem append_int (w:World) (base ty:Nat) (v:Value) (xs:List Int) (x:Int) (hown:OwnI w base v xs) (hk:xs.length≤1000000000000) (hbase:base≤w.heap.size) :
  ∃v' w',(Builtin.append_ #[45,45] ty #[v,.slice (some ⟨w.heap.size,0,none⟩) 1 1]).run Tryz.prog (w.alloc (.cells #[.int .i64 x] 3))= .ok v' w'∧OwnI w' base v' (xs ++ [x])∧(w.alloc (.cells #[.int .i64 x] 3)).grownBy w' v.ownBlock:=by
 obtain ⟨i0,hi,hz0,hz1,hz2⟩:=info_parts Tryz.info3;obtain ⟨v',w',hrun,ho,hg,_,hl⟩:=run_append_own_at (P:=Tryz.prog) (w:=w.alloc (.cells #[.int .i64 x] 3)) base 45 ty 3 i0 _ 1 8 Tryz.underlying45 hi hz0 hz1 hz2 rfl (by decide) v xs.length (xs.map (Value.int .i64)) (World.ownsRow.alloc hown _) ⟨w.heap.size,0,none⟩ 1 1 [.int .i64 x] rfl (cell_one_new _ _ _) (fun u hu=>by simp at hu;subst hu;rfl) (by unfold maxLen;omega) (by omega) (by simp;omega)
 refine ⟨v',w',hrun,?_,hg⟩;unfold OwnI OwnN;rw[List.length_append,List.map_append];exact ho
theorem app_belowI {w0 W w':World} {base:Nat} {v:Value} {o:Obj} {xs:List Int} (hown:OwnI W base v xs) (hb:base=w0.heap.size) (hB:Below w0.heap.size w0 W) (hg:(W.alloc o).grownBy w' v.ownBlock):Below w0.heap.size w0 w':=by
 subst hb;exact (hB.alloc hB.size _).grown hg (by have:=hB.size;simp;omega) (fun k e=>(World.ownsRow.lt hown k e).1)
end Go.Proofs.YtmmlfnblodfjbaaGreatDoor
namespace Go.Proofs.YtmmlfnblodfjbaaGreatDoor
open Go.RowKit
set_option maxHeartbeats 1000000 in
theorem rfits_any (v:Value) (l:List Int) (B:Nat) (w:World) (h:NumS .i64 w B v l) (hl:All64 l) :
  Calls Tryz.prog 74 #[v] w fun e w'=>e= .returned (.bool (fitsL l))∧w=w':=by
 obtain ⟨A,c,rfl,hc,hm,hr⟩:=h;obtain ⟨len,hn⟩:∃n,n=l.length:=⟨_,rfl⟩;rw[←hn] at hc ⊢;have H:=LH hr;have HN:=LH hn;have HL:=LH hl;clear hr hl
 by_cases h0:len<1
 ·have HF:Hid (fitsL l=false):=LH (decide_eq_false (fun ⟨a,_⟩=>by omega))
  rw[HF.out];have d0:decide ((len:Int)<1)=true:=decide_eq_true (by omega);clear hn;go_enter Tryz.func74,Tryz.ntmps74
  go_wp2_with fail
  go_ret;exact ⟨rfl,rfl⟩
 have d0:decide ((len:Int)<1)=false:=decide_eq_false (by omega)
 by_cases h1:16<len
 ·have HF:Hid (fitsL l=false):=LH (decide_eq_false (fun ⟨_,a,_⟩=>by omega))
  rw[HF.out];have d1:decide (16<(len:Int))=true:=decide_eq_true (by omega);clear hn;go_enter Tryz.func74,Tryz.ntmps74
  go_wp2_with fail
  go_ret;exact ⟨rfl,rfl⟩
 have d1:decide (16<(len:Int))=false:=decide_eq_false (by omega);obtain ⟨b,off,rfl,_,hcell⟩:=H.out (by omega);have HC:=LH hcell;have c0:=hcell 0 (by omega);obtain ⟨x,hx⟩:∃x,l[0]?.getD 0=x:=⟨_,rfl⟩;rw[hx,Nat.add_zero] at c0;have HX:=LH hx;have i0:(0:Int)<(len:Int):=by omega
 clear hcell hx
 by_cases h2:x<1
 ·have HF:Hid (fitsL l=false):=LH (decide_eq_false (fun ⟨_,_,a,_⟩=>by rw[HX.out] at a;omega))
  rw[HF.out];have d2:decide (x<1)=true:=decide_eq_true h2;clear hn;go_enter Tryz.func74,Tryz.ntmps74
  go_wp2_with fail
  go_ret;exact ⟨rfl,rfl⟩
 have d2:decide (x<1)=false:=decide_eq_false h2;have h2':(1:Int)≤x:=by omega
 clear hn;go_enter Tryz.func74,Tryz.ntmps74
 go_wp2_with fail
 go_loopw [3,4] (fun s i wr=>∃t:Nat,t≤len∧i= .int .i64 t∧s= .int .i64 (l.take t).sum∧FitTo l t∧w=wr) (fun _ i _=>len - (intOf i).toNat)
 case atStart=>exact ⟨0,by omega,rfl,by simp,FitTo.zero l,rfl⟩
 case round =>
  obtain ⟨t,ht,rfl,rfl,hf,rfl⟩:=hrel;have HFt:=LH hf;obtain ⟨S,hS⟩:∃S,(l.take t).sum=S:=⟨_,rfl⟩;have s0:=hf.2.1;have s1:=hf.2.2;rw[hS] at s0 s1 ⊢;have HS:=LH hS;clear hf hS
  by_cases hlt:t<len
  ·have p1:=HC.out t (by rw[←HN.out];exact hlt);have y1:=HL.out.at_ t;obtain ⟨y,hy⟩:∃y,l[t]?.getD 0=y:=⟨_,rfl⟩;rw[hy] at p1 y1;have HY:=LH hy;unfold In64 at y1;clear hy
   by_cases h3:y<0
   ·have d3:decide (y<0)=true:=decide_eq_true h3;have HF:Hid (fitsL l=false):=LH (fits_not (t:=t) (by rw[←HN.out];exact hlt) (.inl (by rw[HY.out];exact h3)))
    go_wp2_with fail
    go_ret;exact ⟨by rw[HF.out];rfl,rfl⟩
   have d3:decide (y<0)=false:=decide_eq_false h3
   by_cases h4:4096 - S<y
   ·have d4:decide (4096 - S<y)=true:=decide_eq_true h4;have HF:Hid (fitsL l=false):=LH (fits_not (t:=t) (by rw[←HN.out];exact hlt) (.inr (by rw[HY.out,HS.out];exact h4)))
    go_wp2_with fail
    go_ret;exact ⟨by rw[HF.out];rfl,rfl⟩
   have d4:decide (4096 - S<y)=false:=decide_eq_false h4;have h4':y≤4096 - S:=by omega
   have HE:Hid ((l.take (t+1)).sum=S+y∧FitTo l (t+1)):=LH ⟨by rw[sum_take_succ (by rw[←HN.out];exact hlt),HS.out,HY.out],HFt.out.next (by rw[←HN.out];exact hlt) (by rw[HY.out];omega) (by rw[HY.out,HS.out];exact h4')⟩
   go_wp2_with fail
   go_roundw
   case rel=>exact ⟨t+1,by omega,by go_num,by rw[HE.out.1],HE.out.2,trivial⟩
   case measure=>simp[intOf];omega
  ·obtain rfl:t=len:=by omega
   have HF:Hid (fitsL l=true):=LH (fits_yes (by rw[←HN.out];exact HFt.out) (by rw[←HN.out];omega) (by rw[←HN.out];omega) (by rw[HX.out];exact h2'))
   go_wp2_with fail
   go_ret;exact ⟨by rw[HF.out];rfl,rfl⟩
set_option maxHeartbeats 1000000 in
theorem rwithin_any (v:Value) (l:List Int) (g a n:Int) (B:Nat) (w:World) (h:NumS .i64 w B v l) (hl:All64 l) :
  Calls Tryz.prog 136 #[v,.int .i64 g,.int .i64 a,.int .i64 n] w fun e w'=>e= .returned (.bool (withinB l g a n))∧w=w':=by
 obtain ⟨A,c,rfl,hc,hm,hr⟩:=h;obtain ⟨len,hn⟩:∃n,n=l.length:=⟨_,rfl⟩;rw[←hn];have H:=LH hr;have HN:=LH hn;have HL:=LH hl;clear hr hl hc hm
 by_cases h1:0≤g
 ·have d1:decide (0≤g)=true:=decide_eq_true h1
  by_cases h2:g<(len:Int)
  ·have d2:decide (g<(len:Int))=true:=decide_eq_true h2
   by_cases h3:0≤a
   ·have d3:decide (0≤a)=true:=decide_eq_true h3
    by_cases h4:0≤n
    ·have d4:decide (0≤n)=true:=decide_eq_true h4;obtain ⟨j,rfl⟩:=Int.eq_ofNat_of_zero_le h1;obtain ⟨b,off,rfl,_,hcell⟩:=H.out (by omega);have c0:=hcell j (by omega);have y1:=HL.out.at_ j;obtain ⟨x,hx⟩:∃x,l[j]?.getD 0=x:=⟨_,rfl⟩;rw[hx] at c0 y1;have HX:=LH hx;unfold In64 at y1;clear hcell hx;have HW:Hid (withinB l j a n=decide (a≤x∧n≤x - a)):=LH (by
      unfold withinB;rw[show ((j:Int)).toNat=j by simp,HX.out,←HN.out]
      simp[h2,h3,h4])
     clear hn
     by_cases h5:a≤x
     ·have d5:decide (a≤x)=true:=decide_eq_true h5;have hw:IntKind.i64.wrap (x - a)=x - a:=IntWalk.i64_in _ (by omega)
      by_cases h6:n≤x - a
      ·have d6:decide (n≤x - a)=true:=decide_eq_true h6;rw[HW.out,decide_eq_true ⟨h5,h6⟩];go_enter Tryz.func136,Tryz.ntmps136
       go_wp2_with fail
       go_ret;exact ⟨rfl,rfl⟩
      ·have d6:decide (n≤x - a)=false:=decide_eq_false h6;rw[HW.out,decide_eq_false (fun e=>h6 e.2)]
       go_enter Tryz.func136,Tryz.ntmps136
       go_wp2_with fail
       go_ret;exact ⟨rfl,rfl⟩
     ·have d5:decide (a≤x)=false:=decide_eq_false h5;rw[HW.out,decide_eq_false (fun e=>h5 e.1)]
      go_enter Tryz.func136,Tryz.ntmps136
      go_wp2_with fail
      go_ret;exact ⟨rfl,rfl⟩
    ·have d4:decide (0≤n)=false:=decide_eq_false h4;have HF:Hid (withinB l g a n=false):=LH (decide_eq_false (fun e=>h4 e.2.2.2.1))
     rw[HF.out];clear HF hn;go_enter Tryz.func136,Tryz.ntmps136
     go_wp2_with fail
     go_ret;exact ⟨rfl,rfl⟩
   ·have d3:decide (0≤a)=false:=decide_eq_false h3;have HF:Hid (withinB l g a n=false):=LH (decide_eq_false (fun e=>h3 e.2.2.1))
    rw[HF.out];clear HF hn;go_enter Tryz.func136,Tryz.ntmps136
    go_wp2_with fail
    go_ret;exact ⟨rfl,rfl⟩
  ·have d2:decide (g<(len:Int))=false:=decide_eq_false h2;have HF:Hid (withinB l g a n=false):=LH (decide_eq_false (fun e=>h2 (by have:=e.2.1;omega)))
   rw[HF.out];clear HF hn;go_enter Tryz.func136,Tryz.ntmps136
   go_wp2_with fail
   go_ret;exact ⟨rfl,rfl⟩
 ·have d1:decide (0≤g)=false:=decide_eq_false h1;have HF:Hid (withinB l g a n=false):=LH (decide_eq_false (fun e=>h1 e.1))
  rw[HF.out];clear HF hn;go_enter Tryz.func136,Tryz.ntmps136
  go_wp2_with fail
  go_ret;exact ⟨rfl,rfl⟩
end Go.Proofs.YtmmlfnblodfjbaaGreatDoor
namespace Go.Proofs.YtmmlfnblodfjbaaGreatDoor
open Go.RowKit Go.Deep
set_option maxHeartbeats 1000000 in
theorem rwords7_any (v:Value) (ls:List (List Int)) (B:Nat) (w:World) (h:ArV w B v ls) (hs:(sizesL ls).sum≤1000000000000) :
  Calls Tryz.prog 83 #[v] w fun e w'=>e= .returned (.int .i64 (sizesL ls).sum)∧w=w':=by
 obtain ⟨A,c,rfl,hc,hm,hr⟩:=h;obtain ⟨len,hn⟩:∃n,n=ls.length:=⟨_,rfl⟩;rw[←hn] at hc ⊢;have H:=LH hr;have HN:=LH hn;have HS:=LH hs;clear hr hs hn;go_enter Tryz.func83,Tryz.ntmps83
 go_wp2_with fail
 go_loopw [3,4] (fun s i wr=>∃t:Nat,t≤len∧i= .int .i64 t∧s= .int .i64 ((sizesL ls).take t).sum∧w=wr) (fun _ i _=>len - (intOf i).toNat)
 case atStart=>exact ⟨0,by omega,rfl,by simp,rfl⟩
 case round =>
  obtain ⟨t,ht,rfl,rfl,rfl⟩:=hrel;have f0:=sizesL_le ls t;have hs0:=HS.out
  by_cases hlt:t<len
  ·obtain ⟨b,off,rfl,_,hcell⟩:=H.out (by rw[←HN.out];omega);obtain ⟨s,p1,hs1⟩:=hcell t (by rw[←HN.out];exact hlt);obtain ⟨m,hm1⟩:∃m,(ls[t]?.getD []).length=m:=⟨_,rfl⟩;obtain ⟨A1,c1,rfl⟩:=hs1.form hm1;have HE:Hid (((sizesL ls).take (t+1)).sum=((sizesL ls).take t).sum+m):=LH (by rw[sizesL_take (by rw[←HN.out];exact hlt),List.sum_append,hm1];simp);have f1:=sizesL_le ls (t+1);rw[HE.out] at f1;obtain ⟨S,hS⟩:∃S,((sizesL ls).take t).sum=S:=⟨_,rfl⟩;rw[hS] at f0 f1 HE ⊢;clear hcell hs1 hm1 hS
   go_wp2_with fail
   go_roundw
   case rel=>exact ⟨t+1,by omega,by go_num,by rw[HE.out],trivial⟩
   case measure=>simp[intOf];omega
  ·obtain rfl:t=len:=by omega
   have HE:Hid ((sizesL ls).take t=sizesL ls):=LH (by rw[HN.out,←sizesL_length,List.take_length]);obtain ⟨S,hS⟩:∃S,((sizesL ls).take t).sum=S:=⟨_,rfl⟩;have HSS:Hid (S=(sizesL ls).sum):=LH (by rw[←hS,HE.out]);rw[hS] at f0 ⊢;clear hS
   go_wp2_with fail
   go_ret;exact ⟨by rw[←HSS.out];rfl,rfl⟩
set_option maxHeartbeats 1000000 in
theorem rsizes_any (v:Value) (ls:List (List Int)) (w:World) (h:ArV w w.heap.size v ls) (hlen:ls.length≤1000000000000) :
  Calls Tryz.prog 75 #[v] w fun e w'=>∃u,e= .returned u∧OwnI w' w.heap.size u (sizesL ls)∧Below w.heap.size w w':=by
 have HV:=LH h;obtain ⟨A,c,rfl,hc,hm,hr⟩:=h;obtain ⟨len,hn⟩:∃n,n=ls.length:=⟨_,rfl⟩;rw[←hn] at hc hlen ⊢;have HN:=LH hn;rw[←hn] at HV;clear hr hn;go_enter Tryz.func75,Tryz.ntmps75
 go_wp2_with fail
 go_loopw [3,4] (fun o i wr=>∃t:Nat,t≤len∧i= .int .i64 t∧OwnI wr w.heap.size o ((sizesL ls).take t)∧Below w.heap.size w wr) (fun _ i _=>len - (intOf i).toNat)
 case atStart=>exact ⟨0,by omega,rfl,OwnI.nil _ _,Below.refl _ _⟩
 case round =>
  obtain ⟨t,ht,rfl,ho,hB⟩:=hrel;have HO:=LH ho;have HB:=LH hB;clear ho hB
  by_cases hlt:t<len
  ·obtain ⟨A',c',e',_,_,hr⟩:=HV.out.on HB.out;obtain ⟨b,off,ea,_,hcell⟩:=hr (by rw[←HN.out];omega);cases e'
   subst ea;obtain ⟨s,p1,hs1⟩:=hcell t (by rw[←HN.out];exact hlt);obtain ⟨m,hm1⟩:∃m,(ls[t]?.getD []).length=m:=⟨_,rfl⟩;obtain ⟨A1,c1,rfl⟩:=hs1.form hm1;have HE:Hid ((sizesL ls).take (t+1)=(sizesL ls).take t ++ [(m:Int)]):=LH (by rw[sizesL_take (by rw[←HN.out];exact hlt),hm1]);obtain ⟨v',w',hrun,ho',hg'⟩:=append_int wr w.heap.size 45 u3 ((sizesL ls).take t) m HO.out (by rw[List.length_take];omega) HB.out.size;have HRun:=LH hrun;have HR:Hid (OwnI w' w.heap.size v' ((sizesL ls).take (t+1))∧Below w.heap.size w w'):=LH ⟨by rw[HE.out];exact ho',app_belowI HO.out rfl HB.out hg'⟩;clear hcell hs1 hm1 hrun ho' hg' hr
   go_wp2_with (at_builtin;refine Lib.wpList_append_run _ rfl _ _ _ _ rfl _ _ rfl rfl _ _ HRun.out ?_)
   go_roundw
   case rel=>exact ⟨t+1,by omega,by go_num,HR.out.1,HR.out.2⟩
   case measure=>simp[intOf];omega
  ·obtain rfl:t=len:=by omega
   have HE:Hid ((sizesL ls).take t=sizesL ls):=LH (by rw[HN.out,←sizesL_length,List.take_length]);rw[HE.out] at HO
   go_wp2_with fail
   go_ret;exact ⟨_,rfl,HO.out,HB.out⟩
theorem sizes_all64 {ls:List (List Int)} {w:World} {B:Nat} {v:Value} (h:ArV w B v ls):All64 (sizesL ls):=by
 intro x hx;obtain ⟨s,hs,rfl⟩:=List.mem_map.1 hx;obtain ⟨j,hj,rfl⟩:=List.getElem_of_mem hs;obtain ⟨A,c,_,_,_,hr⟩:=h;obtain ⟨b,off,_,_,hcell⟩:=hr (by omega);obtain ⟨u,_,A',c',_,h1,h2,_⟩:=hcell j hj;rw[List.getElem?_eq_getElem hj] at h1;simp only[Option.getD_some] at h1;unfold In64
 omega
theorem rright7_any (v:Value) (ls:List (List Int)) (w:World) (h:ArV w w.heap.size v ls) (hlen:ls.length≤1000000000000) :
  Calls Tryz.prog 42 #[v] w fun e w'=>e= .returned (.bool (fitsL (sizesL ls)))∧Below w.heap.size w w':=by
 have HS:=LH (rsizes_any v ls w h hlen);have HA:=LH (sizes_all64 h);clear h hlen;go_enter Tryz.func42,Tryz.ntmps42
 go_wp2_with fail
 refine HS.out.mono ?_
 rintro e w1 ⟨u,rfl,ho,hB⟩;have HO:=LH (OwnN.numS ho);clear ho
 go_wp2_with fail
 refine (rfits_any u (sizesL ls) _ w1 HO.out HA.out).mono ?_
 rintro e w' ⟨rfl,rfl⟩
 go_wp2_with fail
 go_ret;exact ⟨rfl,hB⟩
def wordA (ls:List (List Int)) (g a:Int):Int:=if withinB (sizesL ls) g a 1=true then (ls[g.toNat]?.getD [])[a.toNat]?.getD 0 else 0
def wordE7 (ls:List (List Int)) (g a:Int):Int:=if withinB (sizesL ls) g a 1=true then 0 else 20
theorem below_cells {a b:World} {v:Value} {ls:List (List Int)} {A:Option Addr} {n c:Nat} (h:ArV a a.heap.size v ls) (k:Below a.heap.size a b) (hv:v= .slice A n c) {j:Nat} (hj:j<ls.length):∃g off A1 c1,A=some ⟨g,off,none⟩∧b.cell? ⟨g,off+j,none⟩=some (.slice A1 (ls[j]?.getD []).length c1)∧(ls[j]?.getD []).length≤9223372036854775807∧∀i,i<(ls[j]?.getD []).length→∃g1 off1,A1=some ⟨g1,off1,none⟩∧b.cell? ⟨g1,off1+i,none⟩=some (.int .u64 ((ls[j]?.getD [])[i]?.getD 0)):=by
 obtain ⟨A',c',e,_,_,hr⟩:=h.on k;rw[hv] at e;cases e
 obtain ⟨g,off,ea,_,hcell⟩:=hr (by omega);obtain ⟨s,p1,A1,c1,rfl,k1,k2,hr1⟩:=hcell j hj;refine ⟨g,off,A1,c1,ea,p1,by omega,fun i hi=> ?_⟩
 obtain ⟨g1,off1,e1,_,hc1⟩:=hr1 (by omega);exact ⟨g1,off1,e1,hc1 i hi⟩
set_option maxHeartbeats 1000000 in
theorem rword7_any (v:Value) (ls:List (List Int)) (g a:Int) (w:World) (h:ArV w w.heap.size v ls) (hlen:ls.length≤1000000000000) :
  Calls Tryz.prog 116 #[v,.int .i64 g,.int .i64 a] w fun e w'=>e= .returned (.tuple #[.int .u64 (wordA ls g a),.int .i64 (wordE7 ls g a)])∧Below w.heap.size w w':=by
 have HS:=LH (rsizes_any v ls w h hlen);have HA:=LH (sizes_all64 h);have HV:=LH h;cases hw:withinB (sizesL ls) g a 1 with
 | false =>
  have HE:Hid (wordA ls g a=0∧wordE7 ls g a=20):=LH (by unfold wordA wordE7;rw[hw];exact ⟨rfl,rfl⟩);rw[HE.out.1,HE.out.2];have HW:=LH hw;clear h hlen hw HE;go_enter Tryz.func116,Tryz.ntmps116
  go_wp2_with fail
  refine HS.out.mono ?_
  rintro e w1 ⟨u,rfl,ho,hB⟩;have HO:=LH (OwnN.numS ho);clear ho
  go_wp2_with fail
  refine (rwithin_any u (sizesL ls) g a 1 _ w1 HO.out HA.out).mono ?_
  rintro e w' ⟨rfl,rfl⟩;rw[HW.out]
  go_wp2_with fail
  go_ret2;exact ⟨rfl,hB⟩
 | true =>
  have HE:Hid (wordA ls g a=(ls[g.toNat]?.getD [])[a.toNat]?.getD 0∧wordE7 ls g a=0):=LH (by unfold wordA wordE7;rw[hw];exact ⟨rfl,rfl⟩);rw[HE.out.1,HE.out.2];obtain ⟨w1,w2,w3,w4,w5,w6⟩:0≤g∧g<(sizesL ls).length∧0≤a∧(0:Int)≤1∧a≤(sizesL ls)[g.toNat]?.getD 0∧1≤(sizesL ls)[g.toNat]?.getD 0 - a:=of_decide_eq_true hw;obtain ⟨j,rfl⟩:=Int.eq_ofNat_of_zero_le w1;obtain ⟨i,rfl⟩:=Int.eq_ofNat_of_zero_le w3;rw[sizesL_length] at w2;have hj:j<ls.length:=by omega
  rw[show ((j:Int)).toNat=j by simp,sizesL_get hj] at w6
  rw[show ((j:Int)).toNat=j by simp,show ((i:Int)).toNat=i by simp]
  have hi:i<(ls[j]?.getD []).length:=by omega
  have HW:=LH hw;have HJ:=LH hj;have HI:=LH hi;obtain ⟨A,c,rfl,-⟩:=h;obtain ⟨len,hn⟩:∃n,n=ls.length:=⟨_,rfl⟩;rw[←hn] at HS HV ⊢;have i1:(j:Int)<(len:Int):=by omega
  obtain ⟨m,hm⟩:∃m,m=(ls[j]?.getD []).length:=⟨_,rfl⟩;have i2:(i:Int)<(m:Int):=by omega
  have HM:=LH hm;obtain ⟨x,hx⟩:∃x,(ls[j]?.getD [])[i]?.getD 0=x:=⟨_,rfl⟩;rw[hx];have HX:=LH hx;clear hlen hw HE w1 w2 w3 w4 w5 w6 hn hm hx hj hi;go_enter Tryz.func116,Tryz.ntmps116
  go_wp2_with fail
  refine HS.out.mono ?_
  rintro e w1 ⟨u,rfl,ho,hB⟩;have HO:=LH (OwnN.numS ho);clear ho
  go_wp2_with fail
  refine (rwithin_any u (sizesL ls) j i 1 _ w1 HO.out HA.out).mono ?_
  rintro e w' ⟨rfl,rfl⟩;rw[HW.out];obtain ⟨b,off,A1,c1,rfl,p1,_,hr1⟩:=below_cells HV.out hB rfl HJ.out;obtain ⟨b1,off1,rfl,q1⟩:=hr1 i HI.out;rw[←HM.out] at p1;rw[HX.out] at q1;clear hr1
  go_wp2_with fail
  go_ret2;exact ⟨rfl,hB⟩
def sameA (a b:List (List Int)):Bool:=decide (a=b)
theorem sameA_no {a b:List (List Int)} {t:Nat} (h:a[t]?.getD []≠b[t]?.getD []):sameA a b=false:=decide_eq_false (fun e=>h (by rw[e]))
theorem row_ext {a b:List Int} (h:a.length=b.length) (h2:∀i,i<a.length→a[i]?.getD 0=b[i]?.getD 0):a=b :=
 List.ext_getElem h (fun i h1 h3=>by have:=h2 i h1;rw[List.getElem?_eq_getElem h1,List.getElem?_eq_getElem h3] at this;exact this)
theorem arena_ext {a b:List (List Int)} (h:a.length=b.length) (h2:∀i,i<a.length→a[i]?.getD []=b[i]?.getD []):a=b :=
 List.ext_getElem h (fun i h1 h3=>by have:=h2 i h1;rw[List.getElem?_eq_getElem h1,List.getElem?_eq_getElem h3] at this;exact this)
set_option maxHeartbeats 2000000 in
theorem rsame7_any (v u:Value) (a b:List (List Int)) (w:World) (h:ArV w w.heap.size v a) (h':ArV w w.heap.size u b) :
  Calls Tryz.prog 18 #[v,u] w fun e w'=>e= .returned (.bool (sameA a b))∧Below w.heap.size w w':=by
 have HV:=LH h;have HU:=LH h';obtain ⟨A,c,rfl,hc,hm,-⟩:=h;obtain ⟨A',c',rfl,-⟩:=h';obtain ⟨len,hn⟩:∃n,n=a.length:=⟨_,rfl⟩;obtain ⟨len',hn'⟩:∃n,n=b.length:=⟨_,rfl⟩;have HN:=LH hn;have HN':=LH hn';rw[←hn] at hc HV;rw[←hn'] at HU;rw[←hn,←hn']
 by_cases hne:len=len'
 ·subst hne;have d0:((len:Int) != (len:Int))=false:=by simp
  clear hn hn';go_enter Tryz.func18,Tryz.ntmps18
  go_wp2_with fail
  go_loopw [5] (fun i wr=>∃t:Nat,t≤len∧i= .int .i64 t∧(∀i,i<t→a[i]?.getD []=b[i]?.getD [])∧∃n,wr=w.drewN n) (fun i _=>len - (intOf i).toNat)
  case atStart=>exact ⟨0,by omega,rfl,fun i hi=>by omega,0,rfl⟩
  case round =>
   obtain ⟨t,ht,rfl,hall,n,rfl⟩:=hrel;have HL:=LH hall;clear hall
   by_cases hlt:t<len
   ·have hBw:∀n,Below w.heap.size w (w.drewN n):=fun n=>⟨rfl,rfl,rfl,Nat.le_refl _,fun _ _=>rfl⟩
    obtain ⟨b1,off1,A1,c1,rfl,p1,k1,hr1⟩:=below_cells HV.out (hBw 0) rfl (j:=t) (by rw[←HN.out];exact hlt);obtain ⟨b2,off2,A2,c2,rfl,q1,k2,hr2⟩:=below_cells HU.out (hBw 0) rfl (j:=t) (by rw[←HN'.out];exact hlt);rw[World.drewN_zero] at p1 q1 hr1 hr2;obtain ⟨m,hm1⟩:∃m,(a[t]?.getD []).length=m:=⟨_,rfl⟩;obtain ⟨m',hm2⟩:∃m,(b[t]?.getD []).length=m:=⟨_,rfl⟩;rw[hm1] at p1 hr1 k1;rw[hm2] at q1 hr2 k2;have HM1:=LH hm1;have HM2:=LH hm2;have HR1:=LH hr1;have HR2:=LH hr2;clear hm1 hm2 hr1 hr2 hBw
    by_cases hmm:m=m'
    ·subst hmm;have d1:((m:Int) != (m:Int))=false:=by simp
     go_wp2_with fail
     go_quiet (fail)
     go_wp2_with fail
     go_loopw [6] (fun i wr=>∃k:Nat,k≤m∧i= .int .i64 k∧(∀i,i<k→(a[t]?.getD [])[i]?.getD 0=(b[t]?.getD [])[i]?.getD 0)∧∃n,wr=w.drewN n) (fun i _=>m - (intOf i).toNat)
     case atStart=>exact ⟨0,by omega,rfl,fun i hi=>by omega,_,by first | rfl | exact World.drewN_drewN _ _ _⟩
     case round =>
      obtain ⟨k,hk,rfl,hall,n2,rfl⟩:=hrel;have HK:=LH hall;clear hall
      by_cases hlk:k<m
      ·obtain ⟨g1,o1,rfl,x1⟩:=HR1.out k hlk;obtain ⟨g2,o2,rfl,x2⟩:=HR2.out k hlk;obtain ⟨x,hx⟩:∃x,(a[t]?.getD [])[k]?.getD 0=x:=⟨_,rfl⟩;obtain ⟨y,hy⟩:∃y,(b[t]?.getD [])[k]?.getD 0=y:=⟨_,rfl⟩;rw[hx] at x1;rw[hy] at x2;have HX:=LH hx;have HY:=LH hy;clear hx hy
       by_cases hxy:x=y
       ·have d2:(x != y)=false:=by simp[hxy]
        have HL2:Hid (∀i,i<k+1→(a[t]?.getD [])[i]?.getD 0=(b[t]?.getD [])[i]?.getD 0):=LH (fun i hi=>by
         by_cases e:i=k
         ·subst e;rw[HX.out,HY.out];exact hxy
         ·exact HK.out i (by omega))
        clear hxy
        go_wp2_with fail
        go_quiet (fail)
        go_wp2_with fail
        go_roundw
        case rel=>exact ⟨k+1,by omega,by go_num,HL2.out,_,by first | rfl | exact World.drewN_drewN _ _ _⟩
        case measure=>simp[intOf];omega
       ·have d2:(x != y)=true:=by simpa using hxy
        have HF:Hid (false=sameA a b):=LH (sameA_no (t:=t) (fun e=>hxy (by rw[←HX.out,←HY.out,e]))).symm
        clear hxy
        go_wp2_with fail
        go_quiet (fail)
        go_wp2_with fail
        go_ret;exact ⟨by rw[←HF.out];rfl,⟨rfl,rfl,rfl,Nat.le_refl _,fun _ _=>rfl⟩⟩
      ·obtain rfl:k=m:=by omega
       have HL2:Hid (∀i,i<t+1→a[i]?.getD []=b[i]?.getD []):=LH (fun i hi=>by
        by_cases e:i=t
        ·subst e;exact row_ext (by rw[HM1.out,HM2.out]) (fun i h1=>HK.out i (by rw[←HM1.out];exact h1))
        ·exact HL.out i (by omega))
       go_wp2_with fail
       go_roundw
       case rel=>exact ⟨t+1,by omega,by go_num,HL2.out,_,by first | rfl | exact World.drewN_drewN _ _ _⟩
       case measure=>simp[intOf];omega
    ·have d1:((m:Int) != (m':Int))=true:=by rw[bne_iff_ne];omega
     have HF:Hid (false=sameA a b):=LH (sameA_no (t:=t) (fun e=>hmm (by rw[←HM1.out,←HM2.out,e]))).symm
     go_wp2_with fail
     go_quiet (fail)
     go_wp2_with fail
     go_ret;exact ⟨by rw[←HF.out];rfl,⟨rfl,rfl,rfl,Nat.le_refl _,fun _ _=>rfl⟩⟩
   ·obtain rfl:t=len:=by omega
    have HF:Hid (true=sameA a b):=LH (decide_eq_true (arena_ext (by rw[←HN.out,←HN'.out]) (fun i h1=>HL.out i (by rw[HN.out];exact h1)))).symm
    go_wp2_with fail
    go_ret;exact ⟨by rw[←HF.out];rfl,⟨rfl,rfl,rfl,Nat.le_refl _,fun _ _=>rfl⟩⟩
 ·have d0:((len:Int) != (len':Int))=true:=by rw[bne_iff_ne];omega
  have HF:Hid (false=sameA a b):=LH (decide_eq_false (fun e=>hne (by rw[HN.out,HN'.out,e]))).symm
  clear hn hn';go_enter Tryz.func18,Tryz.ntmps18
  go_wp2_with fail
  go_ret;exact ⟨by rw[←HF.out];rfl,Below.refl _ _⟩
def AllU (ls:List (List Int)):Prop:=∀s∈ls,∀x∈s,0≤x∧x≤18446744073709551615
theorem AllU.at_ {ls:List (List Int)} (h:AllU ls) (j i:Nat):0≤(ls[j]?.getD [])[i]?.getD 0∧(ls[j]?.getD [])[i]?.getD 0≤18446744073709551615:=by
 by_cases hj:j<ls.length
 ·rw[List.getElem?_eq_getElem hj,Option.getD_some]
  by_cases hi:i<ls[j].length
  ·rw[List.getElem?_eq_getElem hi];exact h _ (List.getElem_mem hj) _ (List.getElem_mem hi)
  ·rw[List.getElem?_eq_none (Nat.le_of_not_lt hi)];exact ⟨by decide,by decide⟩
 ·rw[List.getElem?_eq_none (Nat.le_of_not_lt hj)];exact ⟨by simp,by simp⟩
theorem Tryz.info44:(Tryz.prog.info? 44).map (fun i=>(i.zero,i.size,i.bytes))=some (some (.int .u64 0),1,8):=by kernel_rfl
theorem Tryz.info31:(Tryz.prog.info? 31).map (fun i=>(i.zero,i.size,i.bytes))=some (some (.slice none 0 0),1,24):=by kernel_rfl
def OwnU (w:World) (base:Nat) (v:Value) (xs:List Int):Prop:=OwnN .u64 44 w base v xs
theorem OwnU.nil (w:World) (base:Nat):OwnU w base (.slice none 0 0) []:=World.ownsRow_nil _ _ _ _
theorem OwnU.on {w w':World} {base:Nat} {v:Value} {xs:List Int} (h:OwnU w base v xs) (hB:Below w.heap.size w w'):OwnU w' base v xs:=own_on h hB
theorem OwnU.base {w:World} {base base':Nat} {v:Value} {xs:List Int} (h:OwnU w base v xs) (hb:base'≤base):OwnU w base' v xs:=own_base h hb
theorem append_u (w:World) (base ty:Nat) (v:Value) (xs:List Int) (x:Int) (hown:OwnU w base v xs) (hk:xs.length≤1000000000000) (hbase:base≤w.heap.size) :
  ∃v' w',(Builtin.append_ #[31,31] ty #[v,.slice (some ⟨w.heap.size,0,none⟩) 1 1]).run Tryz.prog (w.alloc (.cells #[.int .u64 x] 44))= .ok v' w'∧OwnU w' base v' (xs ++ [x])∧(w.alloc (.cells #[.int .u64 x] 44)).grownBy w' v.ownBlock:=by
 obtain ⟨i0,hi,hz0,hz1,hz2⟩:=info_parts Tryz.info44;obtain ⟨v',w',hrun,ho,hg,_,hl⟩:=run_append_own_at (P:=Tryz.prog) (w:=w.alloc (.cells #[.int .u64 x] 44)) base 31 ty 44 i0 _ 1 8 Tryz.underlying31 hi hz0 hz1 hz2 rfl (by decide) v xs.length (xs.map (Value.int .u64)) (World.ownsRow.alloc hown _) ⟨w.heap.size,0,none⟩ 1 1 [.int .u64 x] rfl (cell_one_new _ _ _) (fun u hu=>by simp at hu;subst hu;rfl) (by unfold maxLen;omega) (by omega) (by simp;omega)
 refine ⟨v',w',hrun,?_,hg⟩;unfold OwnU OwnN;rw[List.length_append,List.map_append];exact ho
def OwnA (w:World) (base:Nat) (v:Value) (ls:List (List Int)):Prop :=
 ∃vs:List Value,vs.length=ls.length∧w.ownsRow base 31 1 v ls.length vs∧∀j,j<ls.length→OwnU w base (vs[j]?.getD undef) (ls[j]?.getD [])
theorem OwnA.nil (w:World) (base:Nat):OwnA w base (.slice none 0 0) []:=⟨[],rfl,World.ownsRow_nil _ _ _ _,fun j hj=>by simp at hj⟩
theorem OwnA.on {w w':World} {base:Nat} {v:Value} {ls:List (List Int)} (h:OwnA w base v ls) (hB:Below w.heap.size w w'):OwnA w' base v ls:=by
 obtain ⟨vs,h1,h2,h3⟩:=h;exact ⟨vs,h1,own_on h2 hB,fun j hj=>(h3 j hj).on hB⟩
theorem OwnA.arV {w:World} {base:Nat} {v:Value} {ls:List (List Int)} (h:OwnA w base v ls):ArV w w.heap.size v ls:=by
 obtain ⟨vs,h1,h2,h3⟩:=h;have h0:=h2;obtain ⟨_,⟨rfl,hn⟩ | ⟨g,cap,cur,rfl,hb,hh,hc,hm,hs,ht⟩⟩:=h2
 ·exact ⟨none,0,by rw[hn],by omega,by omega,fun hp=>by omega⟩
 ·refine ⟨_,cap,rfl,hc,by unfold maxLen at hm;omega,fun hp=>⟨g,0,rfl,(World.ownsRow.lt h0 g rfl).2,fun j hj=>⟨vs[j]?.getD undef,?_,OwnN.numS (h3 j hj)⟩⟩⟩
  rw[Nat.zero_add,World.ownsRow.cellAt h0 j (by omega),List.getElem?_eq_getElem (by omega)]
  rfl
theorem own_type {w:World} {base base' e e' n n' g:Nat} {v v':Value} {xs xs':List Value} (h:w.ownsRow base e 1 v n xs) (h':w.ownsRow base' e' 1 v' n' xs') (hne:e≠e') (hg:v.ownBlock=some g):v'.ownBlock≠some g:=by
 intro e2;obtain ⟨_,⟨rfl,_⟩ | ⟨g1,c1,cur1,rfl,_,hh1,_⟩⟩:=h
 ·simp[Value.ownBlock] at hg
 ·obtain ⟨_,⟨rfl,_⟩ | ⟨g2,c2,cur2,rfl,_,hh2,_⟩⟩:=h'
  ·simp[Value.ownBlock] at e2
  ·simp only[Value.ownBlock,Option.some.injEq] at hg e2;subst hg;subst e2;rw[hh1] at hh2
   simp at hh2
   exact hne hh2.2
theorem own_kept2 {w w':World} {base e n:Nat} {v:Value} {xs:List Value} {r:Option Nat} (h:w.ownsRow base e 1 v n xs) (hg:w.grownBy w' r) (hne:∀g,v.ownBlock=some g→r≠some g):w'.ownsRow base e 1 v n xs:=by
 obtain ⟨h1,h2 | ⟨g,c,cur,rfl,hk,hh,rr⟩⟩:=h
 ·exact ⟨h1,.inl h2⟩
 ·exact ⟨h1,.inr ⟨g,c,cur,rfl,hk,(hg.block g (Array.getElem?_eq_some_iff.1 hh).1 (fun e2=>hne g rfl e2.symm)).trans hh,rr⟩⟩
theorem append_seg (w:World) (base ty:Nat) (v s:Value) (ls:List (List Int)) (x:List Int) (hown:OwnA w base v ls) (hs:OwnU w base s x) (hk:ls.length≤1000000000000) (hbase:base≤w.heap.size) :
  ∃v' w',(Builtin.append_ #[23,23] ty #[v,.slice (some ⟨w.heap.size,0,none⟩) 1 1]).run Tryz.prog (w.alloc (.cells #[s] 31))= .ok v' w'∧OwnA w' base v' (ls ++ [x])∧(w.alloc (.cells #[s] 31)).grownBy w' v.ownBlock:=by
 obtain ⟨i0,hi,hz0,hz1,hz2⟩:=info_parts Tryz.info31;obtain ⟨vs,h1,h2,h3⟩:=hown;have hone:s.oneCell'=true:=by
  rcases hs.2 with ⟨rfl,_⟩ | ⟨g,c,cur,rfl,_⟩ <;> rfl
 have hB:Below w.heap.size w (w.alloc (.cells #[s] 31)):=(Below.refl _ _).alloc (Nat.le_refl _) _;obtain ⟨v',w',hrun,ho,hg,_,hl⟩:=run_append_own_at (P:=Tryz.prog) (w:=w.alloc (.cells #[s] 31)) base 23 ty 31 i0 _ 1 24 Tryz.underlying23 hi hz0 hz1 hz2 rfl (by decide) v ls.length vs (World.ownsRow.alloc h2 _) ⟨w.heap.size,0,none⟩ 1 1 [s] rfl (cell_one_new _ _ _) (fun u hu=>by simp at hu;subst hu;exact hone) (by unfold maxLen;omega) (by omega) (by simp;omega)
 have hkeep:∀u xs,OwnU w base u xs→OwnU w' base u xs:=fun u xs hu=>by
  refine own_kept2 (World.ownsRow.alloc hu _) hg (fun g hg2 e=> ?_)
  exact own_type (World.ownsRow.alloc hu (.cells #[s] 31)) (World.ownsRow.alloc h2 (.cells #[s] 31)) (by decide) hg2 e
 refine ⟨v',w',hrun,⟨vs ++ [s],by simp[h1],by rw[List.length_append];exact ho,fun j hj=> ?_⟩,hg⟩
 rw[List.length_append] at hj;simp only[List.length_cons,List.length_nil] at hj
 by_cases e:j<ls.length
 ·rw[List.getElem?_append_left (by omega),List.getElem?_append_left e];exact hkeep _ _ (h3 j e)
 ·obtain rfl:j=ls.length:=by omega
  rw[List.getElem?_append_right (by omega),List.getElem?_append_right (Nat.le_refl _),h1,Nat.sub_self];exact hkeep _ _ hs
end Go.Proofs.YtmmlfnblodfjbaaGreatDoor
