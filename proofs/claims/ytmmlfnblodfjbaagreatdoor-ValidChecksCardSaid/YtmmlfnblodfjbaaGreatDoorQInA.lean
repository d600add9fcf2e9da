/- Layer 7: slices of ints, and arenas, that came in. -/
import Derived.Test.YtmmlfnblodfjbaaGreatDoorQAr
import Derived.Test.YtmmlfnblodfjbaaGreatDoorQWord
import Derived.Deep.Matrix
import Derived.OpenShut
import Derived.Test.YtmmlfnblodfjbaaGreatDoorQMem
import Derived.Deep.Slices
import Derived.SizedLaws
namespace Go.Proofs.YtmmlfnblodfjbaaGreatDoor
open Go.ChangeShapes Go.WideShapes Go.RowKit Go.Deep
theorem row_ints {w:World} {a:Option Addr} {len cap:Nat} {zs:List Int}
  (h:(a=none∧len=0∧cap=0∧zs=[])∨∃x,a=some x∧len≤cap∧cap≤maxLen∧zs.length=cap∧(∀i,i<zs.length→w.cell? (x.add i)=some (.int .i64 (zs.getD i 0)))∧∀n∈zs,(Lit.int .i64 n).wf=true) :
  ∃l:List Int,l.length=len∧All64 l∧NumS .i64 w w.heap.size (.slice a len cap) l:=by
 rcases h with ⟨rfl,rfl,rfl,rfl⟩ | ⟨x,rfl,hl,hm,hz,hcell,hwf⟩
 ·exact ⟨[],rfl,fun _ h=>by simp at h,⟨none,0,rfl,by simp,by omega,fun h=>by simp at h⟩⟩
 ·have hlen:(zs.take len).length=len:=by rw[List.length_take];omega
  refine ⟨zs.take len,hlen,fun y hy=>bounds_i64 (hwf y (List.mem_of_mem_take hy)),⟨some x,cap,by rw[hlen],by omega,by unfold maxLen at hm;omega,fun hp=> ?_⟩⟩
  obtain ⟨b,off,spot⟩:=x;have h0:=hcell 0 (by omega);have hs:spot=none:=by simpa [Addr.add] using World.cell?_spot h0
  subst hs;have hb:=cell_lt h0;refine ⟨b,off,rfl,by simpa [Addr.add] using hb,fun j hj=> ?_⟩
  have hj':=hcell j (by omega);rw[List.getElem?_take_of_lt (by omega)];rw[←List.getD_eq_getElem?_getD]
  by_cases hj0:j=0
  ·subst hj0;simpa [Addr.add] using hj'
  ·simpa [Addr.add,hj0] using hj'
theorem add_at (b off j:Nat):(⟨b,off,none⟩:Addr).add j=⟨b,off+j,none⟩:=by
 by_cases h:j=0
 ·subst h;simp[Addr.add]
 ·simp[Addr.add,h]
theorem arena_in {H:Type} {enc:TypeId × Value→H} {W:World} {a:Option Addr} {len cap:Nat} {d:DataW H} {ps:List MemPlace} (h:DataW.Trod enc Tryz.prog W 0 (fun _=>true) true 23 (.slice a len cap) d ps) :
  ∃ls:List (List Int),ls.length=len∧AllU ls∧ArV W W.heap.size (.slice a len cap) ls∧(sizesL ls).sum+ls.length≤(Rows.uptoBulk d:Int):=by
 obtain ⟨fuel,hf⟩:=h
 rcases open_int_rows Tryz.underlying23 Tryz.underlying31 Tryz.underlying44 (by kernel_rfl) (by kernel_rfl) hf with ⟨hcs,hx⟩ | ⟨x,l0,c0,A,L,C,Z,hcs,_,hl,hm,hx,hrow⟩
 ·simp[Value.cells] at hcs
  obtain ⟨rfl,rfl,rfl⟩:=hcs;refine ⟨[],rfl,fun s hs=>by simp at hs,⟨none,0,rfl,by simp,by omega,fun h=>by simp at h⟩,?_⟩
  simp[sizesL]
 ·simp[Value.cells] at hcs
  obtain ⟨rfl,rfl,rfl⟩:=hcs;obtain ⟨rfl,-⟩:=Prod.mk.inj hx;have hg:∀r,r<len→(((List.range len).map fun r=>(Z r).take (L r))[r]?.getD [])=(Z r).take (L r):=fun r hr=>by simp[hr]
  have hz:∀r,r<len→((Z r).take (L r)).length=L r:=fun r hr=>by
   obtain ⟨_,h2,_,h4,_⟩:=hrow r (by omega);rw[List.length_take,h4]
   omega
  refine ⟨(List.range len).map fun r=>(Z r).take (L r),by simp,fun s hs y hy=> ?_,⟨some x,cap,by simp,by simpa using hl,by unfold maxLen at hm;omega,fun hp=> ?_⟩,?_⟩
  ·obtain ⟨r,hr,rfl⟩:=List.mem_map.1 hs;have hr':=List.mem_range.1 hr;obtain ⟨_,_,_,_,h5,_⟩:=hrow r (by omega);exact bounds_u64 (h5 y (List.mem_of_mem_take hy))
  ·have hp':0<len:=by simpa using hp
   obtain ⟨b,off,spot⟩:=x;have h0:=(hrow 0 (by omega)).1;have hs:spot=none:=by simpa [Addr.add] using World.cell?_spot h0
   subst hs;have hb:=cell_lt h0;refine ⟨b,off,rfl,by simpa [Addr.add] using hb,fun j hj=> ?_⟩
   have hj':j<len:=by simpa using hj
   obtain ⟨c1,c2,c3,c4,c5,c6,c7⟩:=hrow j (by omega);rw[add_at] at c1;refine ⟨_,c1,?_⟩;rw[hg j hj'];refine ⟨A j,C j,by rw[hz j hj'],by rw[hz j hj'];exact c2,by unfold maxLen at c3;omega,fun hp2=> ?_⟩
   rw[hz j hj'] at hp2;cases hA:A j with
   | none=>have:=c6 hA;omega
   | some a' =>
    obtain ⟨_,hc⟩:=c7 a' hA;obtain ⟨g,o,sp⟩:=a';have e0:=hc 0 (by omega);have hs2:sp=none:=by simpa [Addr.add] using World.cell?_spot e0
    subst hs2;have hb2:=cell_lt e0;refine ⟨g,o,rfl,by simpa [Addr.add] using hb2,fun i hi=> ?_⟩
    rw[hz j hj'] at hi;have e1:=hc i (by omega);rw[add_at] at e1;rw[List.getElem?_take_of_lt hi,←List.getD_eq_getElem?_getD];exact e1
  ·simp only[Rows.uptoBulk];have key:∀n,n≤len→(sizesL ((List.range n).map fun r=>(Z r).take (L r))).sum+n≤(Rows.uptoBulkAll ((List.range n).map fun r=>intRow (H:=H) IntKind.u64 (A r) (L r) (Z r)):Int):=by
    intro n hn
    induction n with
    | zero=>simp[sizesL]
    | succ n ih =>
     have ih':=ih (by omega);have hb:(L n:Int)+1≤Rows.uptoBulk (intRow (H:=H) IntKind.u64 (A n) (L n) (Z n)):=by
      obtain ⟨_,h2,_,h4,_,h6,_⟩:=hrow n (by omega);cases hA:A n with
      | none =>
       have:=h6 hA;have hL:L n=0:=by omega
       simp[intRow,Rows.uptoBulk,hL]
      | some a' =>
       have ha:∀m:List Int,Rows.uptoBulkAll (lits (H:=H) IntKind.u64 m)=m.length:=fun m=>by
        induction m with
        | nil=>simp[lits,Rows.uptoBulkAll]
        | cons y m ih=>simp only[lits,List.map_cons,Rows.uptoBulkAll,Rows.uptoBulk,List.length_cons] at ih ⊢;omega
       simp only[intRow,Rows.uptoBulk,ha,List.length_take,List.length_drop]
       omega
     have happ:∀l r:List (DataW H),Rows.uptoBulkAll (l ++ r)=Rows.uptoBulkAll l+Rows.uptoBulkAll r:=fun l r=>by
      induction l with
      | nil=>simp[Rows.uptoBulkAll]
      | cons x l ih=>simp only[List.cons_append,Rows.uptoBulkAll,ih];omega
     rw[List.range_succ,List.map_append,List.map_append,happ];unfold sizesL at ih' ⊢;rw[List.map_append,List.sum_append];simp only[List.map_cons,List.map_nil,List.sum_cons,List.sum_nil,Rows.uptoBulkAll,hz n (by omega)]
     omega
   have:=key len (Nat.le_refl _);rw[List.length_map,List.length_range]
   omega
end Go.Proofs.YtmmlfnblodfjbaaGreatDoor
namespace Go.Proofs.YtmmlfnblodfjbaaGreatDoor
open Go.RowKit Go.Deep
theorem arena_len {H:Type} {enc:TypeId × Value→H} {W:World} {a:Option Addr} {len cap:Nat} {d:DataW H} {ps:List MemPlace} (h:DataW.Trod enc Tryz.prog W 0 (fun _=>true) true 23 (.slice a len cap) d ps) (hw:∀y∈d.weights Tryz.prog 23,y≤reachBytes):len≤10000000000000:=by
 obtain ⟨fuel,hf⟩:=h
 rcases open_int_rows Tryz.underlying23 Tryz.underlying31 Tryz.underlying44 (by kernel_rfl) (by kernel_rfl) hf with ⟨hcs,hx⟩ | ⟨x,l0,c0,A,L,C,Z,hcs,_,hl,hm,hx,hrow⟩
 ·simp[Value.cells] at hcs
  omega
 ·simp[Value.cells] at hcs
  obtain ⟨rfl,rfl,rfl⟩:=hcs;obtain ⟨rfl,-⟩:=Prod.mk.inj hx;have hb:Tryz.prog.bytesOf 31=24:=by kernel_rfl
  have h1:=hw ((len+(cap - len))*24) (by
   simp[DataW.weights,Tryz.underlying23,hb])
  unfold reachBytes at h1
  omega
end Go.Proofs.YtmmlfnblodfjbaaGreatDoor
