/- Layer 11: the rows' condition on the package's variables gives 'Laid'; the heap that the variables' own initialisers leave meets it. -/
import Derived.Test.YtmmlfnblodfjbaaGreatDoorRows
import Derived.Test.YtmmlfnblodfjbaaGreatDoorQLaid
import Derived.ProofKit
import Derived.LaidMore
import Derived.OpenShut
set_option maxRecDepth 100000
namespace Go.Proofs.YtmmlfnblodfjbaaGreatDoor
open Go.ChangeShapes Go.WideShapes Go.RowKit Go.Deep
theorem laidMet_tail {P:Program} {x:String × DataW Unit} {r:List (String × DataW Unit)} {w:World} (h:laidMet P (x :: r) w):laidMet P r w:=by
 obtain ⟨ps,hv,hnd,hrows⟩:=h;obtain ⟨n,d⟩:=x;obtain ⟨g,t,cs,fuel,p,q,_,_,_,_,hq,rfl⟩:=hv;exact ⟨q,hq,List.Nodup.sublist (List.sublist_append_right _ _) hnd,fun b off hm=>hrows b off (List.mem_append_right _ hm)⟩
theorem laid_place {n:String} {r:List (String × DataW Unit)} {W:World} {g:Nat} {a b:Int} (h:laidMet Tryz.prog ((n,.agg [.lit (.int .i64 a),.lit (.int .i64 b)]) :: r) W)
  (hg:Tryz.prog.globalNamed n=some g) (ht:(Tryz.prog.globals[g]?).map (·.type)=some 236):G2 W g a b:=by
 obtain ⟨ps,⟨g0,t0,cs0,f0,p0,q0,hg0,ht0,hv0,hd0,_,e0⟩,_,hrows⟩:=h;obtain rfl:=Option.some.inj (hg.symm.trans hg0);obtain rfl:=Option.some.inj (ht.symm.trans ht0);obtain ⟨l⟩:=cs0;obtain ⟨xs,k,hk,hxy,_,hxl,hq⟩:=DataW.trod_struct Tryz.underlying236 hd0;have c3:Tryz.prog.cellsOf 3=1:=by kernel_rfl
 match xs,hxl with
 | [y0,y1],_ =>
  have g0:=hq 0 _ rfl;have g1:=hq 1 _ rfl
  simp[c3] at g0 g1
  obtain ⟨z0,e0,e0',_⟩:=DataW.trod_int Tryz.underlying3 g0;obtain ⟨z1,e1,e1',_⟩:=DataW.trod_int Tryz.underlying3 g1;simp only[Prod.mk.injEq,DataW.agg.injEq,List.map_cons,List.map_nil,List.cons.injEq] at hxy;have ha:z0=a:=by have:=hxy.1.1;rw[e0'] at this;simpa using this.symm
  have hb:z1=b:=by have:=hxy.1.2.1;rw[e1'] at this;simpa using this.symm
  subst ha hb
  match l,e0,e1 with
  | x :: y :: l,e0,e1 =>
   simp at e0 e1
   subst e0 e1;exact ⟨by simpa using World.var?_cell hg0 hv0 0,by simpa using World.var?_cell hg0 hv0 1⟩
theorem of_laid {W:World} (h:laidMetH Tryz.prog Rows.validCanonRow.laid W):Laid W:=by
 rw[MakeChecks.laidMetH_plain _ _ _ (by kernel_rfl)] at h;have h1:=laidMet_tail h;have h2:=laidMet_tail h1;have h3:=laidMet_tail h2;have h4:=laidMet_tail h3;have h5:=laidMet_tail h4;have h6:=laidMet_tail h5;have h7:=laidMet_tail h6;have h8:=laidMet_tail h7;exact ⟨laid_place h (by kernel_rfl) (by kernel_rfl),laid_place h1 (by kernel_rfl) (by kernel_rfl),laid_place h2 (by kernel_rfl) (by kernel_rfl),laid_place h3 (by kernel_rfl) (by kernel_rfl),laid_place h4 (by kernel_rfl) (by kernel_rfl),laid_place h5 (by kernel_rfl) (by kernel_rfl),laid_place h6 (by kernel_rfl) (by kernel_rfl),laid_place h7 (by kernel_rfl) (by kernel_rfl),laid_place h8 (by kernel_rfl) (by kernel_rfl)⟩
theorem door_met (os:Os) (args:Array Value):laidMetH Tryz.prog Rows.validCanonRow.laid ((World.doorLaid Tryz.prog 54 os).forCall (fun _ _=>0) ⟨#[],args,[]⟩).memory :=
 laidMetH_of_parts3 (fuel:=8) (laidMet_of_run' 8 (by kernel_rfl) (by kernel_rfl)) (by kernel_rfl) (by kernel_rfl)
end Go.Proofs.YtmmlfnblodfjbaaGreatDoor
