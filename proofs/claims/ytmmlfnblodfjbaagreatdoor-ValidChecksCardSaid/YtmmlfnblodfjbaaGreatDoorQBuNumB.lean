/- Layer 8, the landed package: last, has, full. -/
import Derived.Test.YtmmlfnblodfjbaaGreatDoorQBuB
import Derived.Deep.RegionHeld3
set_option maxRecDepth 100000
namespace Go.Proofs.YtmmlfnblodfjbaaGreatDoor
open Go.RowKit Go.Deep
theorem blast_any {W:World} {base bb:Nat} {sz:Int} {a:List (List Int)} {g c:Nat} {us:List Value} (h:BuS W base bb sz a g c us) (hp:0<a.length) (hs:a.length≤1000000) :
  Calls Tryz.prog 90 #[.pointer (some ⟨bb,0,none⟩)] W fun e w'=>e= .returned (.int .i64 ((a.length - 1:Nat):Int))∧W=w':=by
 have d0:=h.cells.1;have hl:=h.len;obtain ⟨n,hn⟩:∃n,n=us.length:=⟨_,rfl⟩;rw[←hn] at d0 hl;obtain ⟨m,hm⟩:∃m:Nat,m=a.length - 1:=⟨_,rfl⟩;have hnm:n=m+1:=by omega
 rw[←hm];have hm2:m≤1000000:=by omega
 clear h hl hn hm hp hs;subst hnm;go_enter Tryz.func90,Tryz.ntmps90
 go_wp2_with fail
 go_ret;exact ⟨ret_i64 (by omega),rfl⟩
set_option maxHeartbeats 1000000 in
theorem bhas_any {W:World} {base bb:Nat} {sz:Nat} {a:List (List Int)} {g c:Nat} {us:List Value} (h:BuS W base bb sz a g c us) (hp:0<a.length) (hs:a.length≤1000000) (hl:lastL a≤10000000) (k:Nat) (hk:k≤10000000) :
  Calls Tryz.prog 123 #[.pointer (some ⟨bb,0,none⟩),.int .i64 k] W fun e w'=>e= .returned (.bool (decide (lastL a+k≤sz)))∧Below W.heap.size W w':=by
 have HL:=LH (fun X (hB:Below W.heap.size W X)=>blast_any (h.on hB) hp hs)
 have HC:Hid (∀X,Below W.heap.size W X→X.cell? ⟨bb,0,none⟩=some (.slice (some ⟨g,0,none⟩) us.length c)∧X.cell? ⟨bb,1,none⟩=some (.int .i64 sz)∧X.cell? ⟨g,(a.length - 1:Nat),none⟩=some (us[a.length - 1]?.getD undef)):=LH (fun X hB=>⟨(h.on hB).cells.1,(h.on hB).cells.2,(h.on hB).at_ (by omega)⟩)
 obtain ⟨A,q,e⟩:=h.seg (j:=a.length - 1) (by omega);rw[e] at HC;have e2:(a[a.length - 1]?.getD []).length=lastL a:=rfl;rw[e2] at HC;have hcap:=h.cap;have hlen:=h.len;clear h e e2;generalize lastL a=L at *
 obtain ⟨m,hm⟩:∃m:Nat,m=a.length - 1:=⟨_,rfl⟩;rw[←hm] at HL HC;have hmn:(m:Int)<(us.length:Int):=by omega
 generalize us.length=n at *
 have hw:IntKind.i64.wrap ((L:Int)+k)=L+k:=IntWalk.i64_in _ (by omega);have hR:∀v:Bool,v=decide ((L:Int)+k≤sz)→v=decide (L+k≤sz):=fun v e=>by rw[e];simp;omega
 have HR:=LH hR;have hT0:Below W.heap.size W W.drew:=(Below.refl _ _).drew;clear hR hp hs hlen hm;have hK0:=HC.out _ hT0;go_enter Tryz.func123,Tryz.ntmps123
 go_wp2_with fail
 go_region_held3 (fun w'=>w'.cell? ⟨bb,0,none⟩=some (.slice (some ⟨g,0,none⟩) n c)∧w'.cell? ⟨bb,1,none⟩=some (.int .i64 sz)∧w'.cell? ⟨g,m,none⟩=some (.slice A L q)) (first | exact HC.out _ hT0) (first
  | (go_at_call 90;with_reducible refine (HL.out _ hT0).mono ?_;rintro e w2 ⟨rfl,rfl⟩))
 all_goals go_wp2_with fail
 all_goals go_ret
 all_goals exact ⟨congrArg (fun v=>Ending.returned (Value.bool v)) (HR.out _ rfl),hT0⟩
theorem full_is {sz:Nat} {a:List (List Int)} (hp:0<a.length) (h0:0<(a[0]?.getD []).length):(!(decide (lastL a+0≤sz)) || !(fitsL (sizesL a)))=fullA sz a:=by
 have hs:(sizesL a).sum=(lenS a:Int):=by
  unfold sizesL lenS
  induction a with
  | nil=>rfl
  | cons x r ih =>
   rw[List.map_cons,List.sum_cons,List.map_cons,List.sum_cons];have:∀r:List (List Int),(r.map (fun s=>(s.length:Int))).sum=((r.map List.length).sum:Nat):=by
    intro r
    induction r with
    | nil=>rfl
    | cons y r ih=>simp[ih]
   rw[this]
   omega
 have h1:((sizesL a)[0]?.getD 0)=((a[0]?.getD []).length:Int):=sizesL_get hp;have hf:fitsL (sizesL a)=decide (a.length≤16∧lenS a≤4096):=by
  unfold fitsL;rw[sizesL_length,hs,h1,Bool.eq_iff_iff,decide_eq_true_eq,decide_eq_true_eq];have:=sizesL_pos a;exact ⟨fun e=>⟨e.2.1,by omega⟩,fun e=>⟨by omega,e.1,by omega,this,by omega⟩⟩
 rw[hf];unfold fullA;rw[Bool.eq_iff_iff]
 simp
set_option maxHeartbeats 1000000 in
theorem bfull_any {W:World} {base bb:Nat} {sz:Nat} {a:List (List Int)} {g c:Nat} {us:List Value} (h:BuS W base bb sz a g c us) (hp:0<a.length) (hs:a.length≤1000000) (hl:lastL a≤10000000) (h0:0<(a[0]?.getD []).length) :
  Calls Tryz.prog 93 #[.pointer (some ⟨bb,0,none⟩)] W fun e w'=>e= .returned (.bool (fullA sz a))∧Below W.heap.size W w':=by
 have HH:=LH (bhas_any h hp hs hl 0 (by omega));have HC:Hid (∀X,Below W.heap.size W X→X.cell? ⟨bb,0,none⟩=some (.slice (some ⟨g,0,none⟩) us.length c)):=LH (fun X hB=>(h.on hB).cells.1)
 have HR:=LH (fun X (hB:Below W.heap.size W X)=>aright_anyL _ a X (h.on hB).arV (by omega))
 have HF:=LH (full_is (sz:=sz) hp h0);rw[←HF.out];clear h hp hs hl h0 HF;generalize decide (lastL a+0≤sz)=p at *
 generalize fitsL (sizesL a)=q at *
 generalize us.length=n at *
 go_enter Tryz.func93,Tryz.ntmps93
 go_wp2_with fail
 refine HH.out.mono ?_
 rintro e w2 ⟨rfl,hB2⟩;have hc:=HC.out _ hB2;have HB2:=LH hB2;clear hB2;cases p with
 | false =>
  go_wp2_with fail
  go_ret;exact ⟨rfl,HB2.out⟩
 | true =>
  go_wp2_with fail
  refine (HR.out _ HB2.out).mono ?_
  rintro e w3 ⟨rfl,hB3⟩;have HB3:=LH (bseq8 HB2.out hB3);clear hB3
  go_wp2_with fail
  go_ret;exact ⟨rfl,HB3.out⟩
end Go.Proofs.YtmmlfnblodfjbaaGreatDoor
