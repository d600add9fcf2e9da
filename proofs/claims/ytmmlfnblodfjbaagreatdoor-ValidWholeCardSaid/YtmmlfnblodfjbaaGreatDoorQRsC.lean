/- Layer 9, the document: step: one further. -/
import Derived.Test.YtmmlfnblodfjbaaGreatDoorQTsB
import Derived.Test.YtmmlfnblodfjbaaGreatDoorQTdPlain
import Derived.Test.YtmmlfnblodfjbaaGreatDoorQRsA
import Derived.Test.YtmmlfnblodfjbaaGreatDoorQRdC
import Derived.Deep.RegionHeldLaw
set_option maxRecDepth 100000
namespace Go.Proofs.YtmmlfnblodfjbaaGreatDoor
open Go.RowKit Go.Deep
theorem three_boxS (w:World) (c1 c2 c3:Array Value) (t1 t2 t3:TypeId):∀W,W=((w.alloc (.cells c1 t1)).alloc (.cells c2 t2)).alloc (.cells c3 t3) →
  W.heap[w.heap.size]? = some (.cells c1 t1 (0,0))∧W.heap[w.heap.size+1]? = some (.cells c2 t2 (0,0))∧W.heap[w.heap.size+1+1]? = some (.cells c3 t3 (0,0))∧Below w.heap.size w W∧W.heap.size=w.heap.size+3:=by
 rintro W rfl;refine ⟨?_,?_,?_,(((Below.refl _ _).alloc (Nat.le_refl _) _).alloc (by simp) _).alloc (by simp;omega) _,by simp⟩
 ·rw[blk_alloc_lt _ _ _ (by simp;omega),blk_alloc_lt _ _ _ (by simp),blk_alloc_new]
 ·have:=blk_alloc_new (w.alloc (.cells c1 t1)) (.cells c2 t2);rw[World.size_alloc] at this;rw[blk_alloc_lt _ _ _ (by simp),this]
 ·have:=blk_alloc_new ((w.alloc (.cells c1 t1)).alloc (.cells c2 t2)) (.cells c3 t3);rw[World.size_alloc,World.size_alloc] at this;exact this
theorem good_atS {ls:List (List Int)} (hf:fitsL (sizesL ls)=true) {o:Ob} (h:GoodO (sizesL ls) o):0≤o.at_∧o.at_≤4096:=by
 rcases h with rfl | ⟨-,-,-,h⟩
 ·exact ⟨by decide,by decide⟩
 ·obtain ⟨h1,h2,h3,h4,h5⟩:=within_at h;have hd:=(of_decide_eq_true hf).2.2.2;have hle:(sizesL ls)[o.seg.toNat]?.getD 0≤(sizesL ls).sum:=by
   have hl:o.seg.toNat<(sizesL ls).length:=by omega
   have e:=sum_take_succ hl;have s1:=sum_nonneg (l:=(sizesL ls).take o.seg.toNat) (fun x hx=>hd.1 x (List.mem_of_mem_take hx))
   have s2:=sum_nonneg (l:=(sizesL ls).drop (o.seg.toNat+1)) (fun x hx=>hd.1 x (List.mem_of_mem_drop hx))
   have e2:(sizesL ls).sum=((sizesL ls).take (o.seg.toNat+1)).sum+((sizesL ls).drop (o.seg.toNat+1)).sum:=by
    rw[←List.sum_append,List.take_append_drop]
   omega
  omega
set_option maxHeartbeats 4000000 in
theorem rsstep_any (v:Value) (ls:List (List Int)) (o:Ob) (k:Int) (w:World) (h:ArV w w.heap.size v ls) (hs:ls.length≤1000000000) (hu:AllU ls) (hf:fitsL (sizesL ls)=true) (ho:GoodO (sizesL ls) o) (hk:0≤k∧k≤9223372036854775807) :
  Calls Tryz.prog 78 #[srcV v,.agg (cellsO o),.int .i64 k] w (ObI (nextO (srA ls) o k) w):=by
 have HF:=LH (fun X (hX:Below w.heap.size w X) g a ha=>rsfollow_any v ls g a X (h.on hX) hs hu (sizes_all64 h) ha)
 have hat:=good_atS hf ho;have hq:=okq_bd ho.okq;have hgk:o.kind=0∨o.kind=1∨(o.kind=2∧o.data=0∧o.ptrs=0):=by
  by_cases hk0:o.kind=0
  ·exact .inl hk0
  ·rcases (good_parts ho hk0).1 with ⟨h1,-⟩ | ⟨h1,h2,h3,-⟩
   ·exact .inr (.inl h1)
   ·exact .inr (.inr ⟨h1,h2,h3⟩)
 obtain ⟨A,n,c,rfl⟩:∃A n c,v= .slice A n c:=by
  obtain ⟨A,c,e⟩:=h.form rfl;exact ⟨_,_,_,e⟩
 obtain ⟨o1,o2,o3,o4,o5,o6,o7⟩:=o;have HL:Hid (nextO (srA ls) ⟨o1,o2,o3,o4,o5,o6,o7⟩ k=if o1=0∨(o1=1∧o5≤k) then (Ob.zero,0) else if o1=1 then followO (srA ls) o2 (o3+o4+k) else if o6≠6 then (Ob.zero,23) else if o7≤k then (Ob.zero,20) else followO (srA ls) o2 (o3+k)):=LH rfl
 obtain ⟨Z,hZ⟩:∃Z,Z=nextO (srA ls) ⟨o1,o2,o3,o4,o5,o6,o7⟩ k:=⟨_,rfl⟩;rw[←hZ] at HL ⊢;unfold ptrO at hq;dsimp only at hat hq hgk;obtain ⟨q1,q2,q3,q4,-⟩:=hq;obtain ⟨W1,hW1⟩:∃W1,W1=((w.alloc (.cells #[.slice A n c,.bool false,.slice none 0 0] 96)).alloc (.cells (cellsO ⟨o1,o2,o3,o4,o5,o6,o7⟩) 129)).alloc (.cells (cellsO Ob.zero) 129):=⟨_,rfl⟩;obtain ⟨hb1,hb2,hb3,hB1,hs1⟩:=three_boxS w _ _ _ _ _ _ W1 hW1;have HS:Hid (S9Box W1 w.heap.size (.slice A n c)):=LH hb1;have HY:Hid (OBox W1 (w.heap.size+1) ⟨o1,o2,o3,o4,o5,o6,o7⟩):=LH hb2;have HO:Hid (OBox W1 (w.heap.size+1+1) Ob.zero):=LH hb3;have HB:=LH hB1;obtain ⟨y0,y1,y2,y3,y4,y5,y6⟩:=HY.out.cells;obtain ⟨s0,s1⟩:=HS.out.cells;have s2:=HS.out.cell2;dsimp only at y0 y1 y2 y3 y4 y5 y6;unfold cellsO Ob.zero at hW1;dsimp only at hW1;unfold cellsO srcV at *
 dsimp only at *
 clear hZ hb1 hb2 hb3 hB1 hs1 h hs hu hf ho;obtain ⟨k0,k1⟩:=hk
 rcases hgk with rfl | rfl | ⟨rfl,rfl,rfl⟩
 ·obtain rfl:Z=(Ob.zero,0):=HL.out.trans (if_pos (.inl rfl));clear HL hat q1 q2 q3 q4;go_enter Tryz.func78,Tryz.ntmps78;go_upto_region 1 with fail
  rw[←hW1];clear hW1;have HX:=LH (HO.out.set7 0 0 0 0 0 0 0);have HBX:=LH (below_set7 (g:=w.heap.size+1+1) HB.out (by omega) (.int .i64 0) (.int .i64 0) (.int .i64 0) (.int .i64 0) (.int .i64 0) (.int .i64 0) (.int .i64 0));obtain ⟨x0,x1,x2,x3,x4,x5,x6⟩:=HO.out.cells;obtain ⟨f0,f1,f2,f3,f4,f5,f6⟩:=HO.out.frozens;unfold Ob.zero at x0 x1 x2 x3 x4 x5 x6;dsimp only at x0 x1 x2 x3 x4 x5 x6
  go_wp2_with fail
  clear x0 x1 x2 x3 x4 x5 x6;obtain ⟨x0,x1,x2,x3,x4,x5,x6⟩:=HX.out.cells;dsimp only at x0 x1 x2 x3 x4 x5 x6;refine bodyPost_ret (v:= .tuple #[.agg (cellsO ⟨0,0,0,0,0,0,0⟩),.int .i64 0]) ?_ rfl ⟨rfl,HBX.out⟩
  simp[results,Tryz.f78,go_sem,cellsO,x0,x1,x2,x3,x4,x5,x6]
 ·by_cases hp:o5≤k
  ·obtain rfl:Z=(Ob.zero,0):=HL.out.trans (if_pos (.inr ⟨rfl,hp⟩));clear HL hat q1 q2 q3 q4;go_enter Tryz.func78,Tryz.ntmps78;go_upto_region 1 with fail
   rw[←hW1];clear hW1;have HX:=LH (HO.out.set7 0 0 0 0 0 0 0);have HBX:=LH (below_set7 (g:=w.heap.size+1+1) HB.out (by omega) (.int .i64 0) (.int .i64 0) (.int .i64 0) (.int .i64 0) (.int .i64 0) (.int .i64 0) (.int .i64 0));obtain ⟨x0,x1,x2,x3,x4,x5,x6⟩:=HO.out.cells;obtain ⟨f0,f1,f2,f3,f4,f5,f6⟩:=HO.out.frozens;unfold Ob.zero at x0 x1 x2 x3 x4 x5 x6;dsimp only at x0 x1 x2 x3 x4 x5 x6
   go_wp2_with fail
   clear x0 x1 x2 x3 x4 x5 x6;obtain ⟨x0,x1,x2,x3,x4,x5,x6⟩:=HX.out.cells;dsimp only at x0 x1 x2 x3 x4 x5 x6;refine bodyPost_ret (v:= .tuple #[.agg (cellsO ⟨0,0,0,0,0,0,0⟩),.int .i64 0]) ?_ rfl ⟨rfl,HBX.out⟩
   simp[results,Tryz.f78,go_sem,cellsO,x0,x1,x2,x3,x4,x5,x6]
  ·have hz:=HL.out.trans (by rw[if_neg (by omega),if_pos rfl]);have w1:IntKind.i64.wrap (o3+k)=o3+k:=IntWalk.i64_in _ (by omega);have w2:IntKind.i64.wrap (o3+k+o4)=o3+o4+k:=by rw[IntWalk.i64_in _ (by omega)];omega
   have HF4:=LH (HF.out W1 HB.out o2 (o3+o4+k) ⟨by omega,by omega⟩)
   rw[←hz] at HF4;clear HL hz;obtain ⟨⟨r1,r2,r3,r4,r5,r6,r7⟩,E⟩:=Z;unfold ObI cellsO at HF4;dsimp only at HF4;go_enter Tryz.func78,Tryz.ntmps78;go_upto_region 1 with fail
   rw[←hW1];clear hW1
   go_wp2_with fail
   refine HF4.out.mono ?_
   intro e w2 hR;obtain ⟨he,hB2⟩:=hR;subst he;obtain ⟨w3,hw3⟩:∃w3,w3=w2.alloc (.cells #[.int .i64 r1,.int .i64 r2,.int .i64 r3,.int .i64 r4,.int .i64 r5,.int .i64 r6,.int .i64 r7] 129):=⟨_,rfl⟩;have hB3:Below w2.heap.size w2 w3:=by rw[hw3];exact (Below.refl _ _).alloc (Nat.le_refl _) _
   have HN3:Hid (OBox w3 w2.heap.size ⟨r1,r2,r3,r4,r5,r6,r7⟩):=LH (by rw[hw3];exact OBox.new w2 ⟨r1,r2,r3,r4,r5,r6,r7⟩);have HO:=LH (HO.out.on (bseqS hB2 hB3));have HB:=LH (bseqS HB.out (bseqS hB2 hB3));clear hB2 hB3 y0 y1 y2 y3 y4 y5 y6 s0 s1 s2;go_upto_region 14 with fail
   rw[←hw3];clear hw3;obtain ⟨u0,u1,u2,u3,u4,u5,u6⟩:=HN3.out.cells;dsimp only at u0 u1 u2 u3 u4 u5 u6;have HX:=LH (HO.out.set7 r1 r2 r3 r4 r5 r6 r7);have HBX:=LH (below_set7 (g:=w.heap.size+1+1) HB.out (by omega) (.int .i64 r1) (.int .i64 r2) (.int .i64 r3) (.int .i64 r4) (.int .i64 r5) (.int .i64 r6) (.int .i64 r7));obtain ⟨x0,x1,x2,x3,x4,x5,x6⟩:=HO.out.cells;obtain ⟨f0,f1,f2,f3,f4,f5,f6⟩:=HO.out.frozens;unfold Ob.zero at x0 x1 x2 x3 x4 x5 x6;dsimp only at x0 x1 x2 x3 x4 x5 x6
   go_wp2_with fail
   clear x0 x1 x2 x3 x4 x5 x6;obtain ⟨x0,x1,x2,x3,x4,x5,x6⟩:=HX.out.cells;dsimp only at x0 x1 x2 x3 x4 x5 x6;refine bodyPost_ret (v:= .tuple #[.agg (cellsO ⟨r1,r2,r3,r4,r5,r6,r7⟩),.int .i64 E]) ?_ rfl ⟨rfl,HBX.out⟩
   simp[results,Tryz.f78,go_sem,cellsO,x0,x1,x2,x3,x4,x5,x6]
 ·by_cases h6:o6=6
  ·subst h6
   by_cases hp:o7≤k
   ·obtain rfl:Z=(Ob.zero,20):=HL.out.trans (by rw[if_neg (by omega),if_neg (by decide),if_neg (by simp),if_pos hp]);clear HL hat q1 q2 q3 q4;go_enter Tryz.func78,Tryz.ntmps78;go_upto_region 1 with fail
    rw[←hW1];clear hW1;have HX:=LH (HO.out.set7 0 0 0 0 0 0 0);have HBX:=LH (below_set7 (g:=w.heap.size+1+1) HB.out (by omega) (.int .i64 0) (.int .i64 0) (.int .i64 0) (.int .i64 0) (.int .i64 0) (.int .i64 0) (.int .i64 0));obtain ⟨x0,x1,x2,x3,x4,x5,x6⟩:=HO.out.cells;obtain ⟨f0,f1,f2,f3,f4,f5,f6⟩:=HO.out.frozens;unfold Ob.zero at x0 x1 x2 x3 x4 x5 x6;dsimp only at x0 x1 x2 x3 x4 x5 x6
    go_wp2_with fail
    clear x0 x1 x2 x3 x4 x5 x6;obtain ⟨x0,x1,x2,x3,x4,x5,x6⟩:=HX.out.cells;dsimp only at x0 x1 x2 x3 x4 x5 x6;refine bodyPost_ret (v:= .tuple #[.agg (cellsO ⟨0,0,0,0,0,0,0⟩),.int .i64 20]) ?_ rfl ⟨rfl,HBX.out⟩
    simp[results,Tryz.f78,go_sem,cellsO,x0,x1,x2,x3,x4,x5,x6]
   ·have hz:=HL.out.trans (by rw[if_neg (by omega),if_neg (by decide),if_neg (by simp),if_neg hp]);have w1:IntKind.i64.wrap (o3+k)=o3+k:=IntWalk.i64_in _ (by omega);have HF4:=LH (HF.out W1 HB.out o2 (o3+k) ⟨by omega,by omega⟩)
    rw[←hz] at HF4;clear HL hz;obtain ⟨⟨r1,r2,r3,r4,r5,r6,r7⟩,E⟩:=Z;unfold ObI cellsO at HF4;dsimp only at HF4;go_enter Tryz.func78,Tryz.ntmps78;go_upto_region 1 with fail
    rw[←hW1];clear hW1
    go_wp2_with fail
    refine HF4.out.mono ?_
    intro e w2 hR;obtain ⟨he,hB2⟩:=hR;subst he;obtain ⟨w3,hw3⟩:∃w3,w3=w2.alloc (.cells #[.int .i64 r1,.int .i64 r2,.int .i64 r3,.int .i64 r4,.int .i64 r5,.int .i64 r6,.int .i64 r7] 129):=⟨_,rfl⟩;have hB3:Below w2.heap.size w2 w3:=by rw[hw3];exact (Below.refl _ _).alloc (Nat.le_refl _) _
    have HN3:Hid (OBox w3 w2.heap.size ⟨r1,r2,r3,r4,r5,r6,r7⟩):=LH (by rw[hw3];exact OBox.new w2 ⟨r1,r2,r3,r4,r5,r6,r7⟩);have HO:=LH (HO.out.on (bseqS hB2 hB3));have HB:=LH (bseqS HB.out (bseqS hB2 hB3));clear hB2 hB3 y0 y1 y2 y3 y4 y5 y6 s0 s1 s2;go_upto_region 14 with fail
    rw[←hw3];clear hw3;obtain ⟨u0,u1,u2,u3,u4,u5,u6⟩:=HN3.out.cells;dsimp only at u0 u1 u2 u3 u4 u5 u6;have HX:=LH (HO.out.set7 r1 r2 r3 r4 r5 r6 r7);have HBX:=LH (below_set7 (g:=w.heap.size+1+1) HB.out (by omega) (.int .i64 r1) (.int .i64 r2) (.int .i64 r3) (.int .i64 r4) (.int .i64 r5) (.int .i64 r6) (.int .i64 r7));obtain ⟨x0,x1,x2,x3,x4,x5,x6⟩:=HO.out.cells;obtain ⟨f0,f1,f2,f3,f4,f5,f6⟩:=HO.out.frozens;unfold Ob.zero at x0 x1 x2 x3 x4 x5 x6;dsimp only at x0 x1 x2 x3 x4 x5 x6
    go_wp2_with fail
    clear x0 x1 x2 x3 x4 x5 x6;obtain ⟨x0,x1,x2,x3,x4,x5,x6⟩:=HX.out.cells;dsimp only at x0 x1 x2 x3 x4 x5 x6;refine bodyPost_ret (v:= .tuple #[.agg (cellsO ⟨r1,r2,r3,r4,r5,r6,r7⟩),.int .i64 E]) ?_ rfl ⟨rfl,HBX.out⟩
    simp[results,Tryz.f78,go_sem,cellsO,x0,x1,x2,x3,x4,x5,x6]
  ·obtain rfl:Z=(Ob.zero,23):=HL.out.trans (by rw[if_neg (by omega),if_neg (by decide),if_pos h6]);have h61:(o6 != 6)=true:=by simp[h6]
   clear HL hat q1 q2 q3 q4;go_enter Tryz.func78,Tryz.ntmps78;go_upto_region 1 with fail
   rw[←hW1];clear hW1;have HX:=LH (HO.out.set7 0 0 0 0 0 0 0);have HBX:=LH (below_set7 (g:=w.heap.size+1+1) HB.out (by omega) (.int .i64 0) (.int .i64 0) (.int .i64 0) (.int .i64 0) (.int .i64 0) (.int .i64 0) (.int .i64 0));obtain ⟨x0,x1,x2,x3,x4,x5,x6⟩:=HO.out.cells;obtain ⟨f0,f1,f2,f3,f4,f5,f6⟩:=HO.out.frozens;unfold Ob.zero at x0 x1 x2 x3 x4 x5 x6;dsimp only at x0 x1 x2 x3 x4 x5 x6
   go_wp2_with fail
   clear x0 x1 x2 x3 x4 x5 x6;obtain ⟨x0,x1,x2,x3,x4,x5,x6⟩:=HX.out.cells;dsimp only at x0 x1 x2 x3 x4 x5 x6;refine bodyPost_ret (v:= .tuple #[.agg (cellsO ⟨0,0,0,0,0,0,0⟩),.int .i64 23]) ?_ rfl ⟨rfl,HBX.out⟩
   simp[results,Tryz.f78,go_sem,cellsO,x0,x1,x2,x3,x4,x5,x6]
theorem two_boxS (w:World) (c1 c2:Array Value) (t1 t2:TypeId):∀W,W=(w.alloc (.cells c1 t1)).alloc (.cells c2 t2) →
  W.heap[w.heap.size]? = some (.cells c1 t1 (0,0))∧W.heap[w.heap.size+1]? = some (.cells c2 t2 (0,0))∧Below w.heap.size w W∧W.heap.size=w.heap.size+2:=by
 rintro W rfl;refine ⟨?_,?_,((Below.refl _ _).alloc (Nat.le_refl _) _).alloc (by simp) _,by simp⟩
 ·rw[blk_alloc_lt _ _ _ (by simp),blk_alloc_new]
 ·have:=blk_alloc_new (w.alloc (.cells c1 t1)) (.cells c2 t2)
  rwa [World.size_alloc] at this
def NumI (t:Int × Int) (w:World) (e:Ending) (w':World):Prop:=e= .returned (.tuple #[.int .u64 t.1,.int .i64 t.2])∧Below w.heap.size w w'
theorem div_next (X:Int) (j:Nat):X / 256 ^ j / 256=X / 256 ^ (j+1):=by
 rw[Int.ediv_ediv_of_nonneg (Int.pow_nonneg (by decide)),←Int.pow_succ]
theorem div_pow (X:Int) (j:Nat):X / 256 ^ j=X / 2 ^ (8*j):=by
 rw[show (256:Int)=2 ^ 8 by decide,←Int.pow_mul]
theorem div_bd {X:Int} (h0:0≤X) (h1:X≤18446744073709551615) (j:Nat):0≤X / 256 ^ j∧X / 256 ^ j≤18446744073709551615 :=
 ⟨Int.ediv_nonneg h0 (Int.pow_nonneg (by decide)),Int.le_trans (Int.ediv_le_self _ h0) h1⟩
set_option maxHeartbeats 4000000 in
theorem rsnum_any (v:Value) (ls:List (List Int)) (o:Ob) (i:Int) (w:World) (h:ArV w w.heap.size v ls) (hs:ls.length≤1000000000) (hu:AllU ls) (hf:fitsL (sizesL ls)=true) (ho:GoodO (sizesL ls) o) (hk:0≤i∧i≤9223372036854775807) :
  Calls Tryz.prog 115 #[srcV v,.agg (cellsO o),.int .i64 i] w (NumI (numW (srA ls) o i) w):=by
 have HF:=LH (fun X (hX:Below w.heap.size w X) g a=>rsword_any v ls g a X (h.on hX) (by omega))
 have HWb:=LH (fun g a=>wordA_in hu g a)
 have hat:=good_atS hf ho;have hq:=okq_bd ho.okq;have hgk:o.kind=0∨o.kind=1∨(o.kind=2∧(o.size=2∨o.size=5∨o.size=6)):=by
  by_cases hk0:o.kind=0
  ·exact .inl hk0
  ·rcases (good_parts ho hk0).1 with ⟨h1,-⟩ | ⟨h1,h2,h3,h4,h5⟩
   ·exact .inr (.inl h1)
   ·exact .inr (.inr ⟨h1,by omega⟩)
 obtain ⟨A,n,c,rfl⟩:∃A n c,v= .slice A n c:=by
  obtain ⟨A,c,e⟩:=h.form rfl;exact ⟨_,_,_,e⟩
 obtain ⟨o1,o2,o3,o4,o5,o6,o7⟩:=o;have HL:Hid (numW (srA ls) ⟨o1,o2,o3,o4,o5,o6,o7⟩ i=if o1=0∨(o1=1∧o4≤i) then (0,0) else if o1=1 then (wordA ls o2 (o3+i),wordE7 ls o2 (o3+i)) else if o6=6 then (0,23) else if o7≤i then (0,20) else if o6=5 then (wordA ls o2 (o3+i),wordE7 ls o2 (o3+i)) else (wordA ls o2 (o3+i / 8) / 2 ^ (8*(i % 8).toNat) % 256,wordE7 ls o2 (o3+i / 8))):=LH rfl
 obtain ⟨Z,hZ⟩:∃Z,Z=numW (srA ls) ⟨o1,o2,o3,o4,o5,o6,o7⟩ i:=⟨_,rfl⟩;rw[←hZ] at HL ⊢;unfold ptrO at hq;dsimp only at hat hq hgk;obtain ⟨q1,q2,q3,q4,-⟩:=hq;obtain ⟨W1,hW1⟩:∃W1,W1=(w.alloc (.cells #[.slice A n c,.bool false,.slice none 0 0] 96)).alloc (.cells (cellsO ⟨o1,o2,o3,o4,o5,o6,o7⟩) 129):=⟨_,rfl⟩;obtain ⟨hb1,hb2,hB1,hs1⟩:=two_boxS w _ _ _ _ W1 hW1;have HS:Hid (S9Box W1 w.heap.size (.slice A n c)):=LH hb1;have HY:Hid (OBox W1 (w.heap.size+1) ⟨o1,o2,o3,o4,o5,o6,o7⟩):=LH hb2;have HB:=LH hB1;obtain ⟨y0,y1,y2,y3,y4,y5,y6⟩:=HY.out.cells;obtain ⟨s0,s1⟩:=HS.out.cells;have s2:=HS.out.cell2;dsimp only at y0 y1 y2 y3 y4 y5 y6;unfold cellsO at hW1;dsimp only at hW1;unfold cellsO srcV at *
 dsimp only at *
 clear hZ hb1 hb2 hB1 hs1 h hs hu hf ho;obtain ⟨i0,i1⟩:=hk
 rcases hgk with rfl | rfl | ⟨rfl,h6⟩
 ·obtain rfl:Z=(0,0):=HL.out.trans (if_pos (.inl rfl));clear HL hat q1 q2 q3 q4;go_enter Tryz.func115,Tryz.ntmps115;go_upto_region 1 with fail
  rw[←hW1];clear hW1
  go_wp2_with fail
  go_ret2;exact ⟨rfl,HB.out⟩
 ·by_cases hp:o4≤i
  ·obtain rfl:Z=(0,0):=HL.out.trans (if_pos (.inr ⟨rfl,hp⟩));clear HL hat q1 q2 q3 q4;go_enter Tryz.func115,Tryz.ntmps115;go_upto_region 1 with fail
   rw[←hW1];clear hW1
   go_wp2_with fail
   go_ret2;exact ⟨rfl,HB.out⟩
  ·obtain rfl:Z=(wordA ls o2 (o3+i),wordE7 ls o2 (o3+i)):=HL.out.trans (by rw[if_neg (by omega),if_pos rfl]);have hw1:IntKind.i64.wrap (o3+i)=o3+i:=IntWalk.i64_in _ (by omega);have HF4:=HF.out W1 HB.out o2 (o3+i);generalize wordA ls o2 (o3+i)=X at *
   generalize wordE7 ls o2 (o3+i)=E at *
   clear HL q1 q2 q3 q4;go_enter Tryz.func115,Tryz.ntmps115;go_upto_region 1 with fail
   rw[←hW1];clear hW1
   go_wp2_with fail
   refine HF4.mono ?_
   rintro e w2 ⟨rfl,hB2⟩;have HB2:=LH (bseqS HB.out hB2);clear hB2
   go_wp2_with fail
   go_ret2;exact ⟨rfl,HB2.out⟩
 ·by_cases h66:o6=6
  ·subst h66;obtain rfl:Z=(0,23):=HL.out.trans (by rw[if_neg (by omega),if_neg (by decide),if_pos rfl]);clear HL hat q1 q2 q3 q4 h6;go_enter Tryz.func115,Tryz.ntmps115;go_upto_region 1 with fail
   rw[←hW1];clear hW1
   go_wp2_with fail
   go_ret2;exact ⟨rfl,HB.out⟩
  ·have h61:(o6 == 6)=false:=by simp[h66]
   by_cases hp:o7≤i
   ·obtain rfl:Z=(0,20):=HL.out.trans (by rw[if_neg (by omega),if_neg (by decide),if_neg h66,if_pos hp]);clear HL hat q1 q2 q3 q4 h6;go_enter Tryz.func115,Tryz.ntmps115;go_upto_region 1 with fail
    rw[←hW1];clear hW1
    go_wp2_with fail
    go_ret2;exact ⟨rfl,HB.out⟩
   ·by_cases h5:o6=5
    ·subst h5;obtain rfl:Z=(wordA ls o2 (o3+i),wordE7 ls o2 (o3+i)):=HL.out.trans (by rw[if_neg (by omega),if_neg (by decide),if_neg h66,if_neg hp,if_pos rfl]);have hw1:IntKind.i64.wrap (o3+i)=o3+i:=IntWalk.i64_in _ (by omega);have HF4:=HF.out W1 HB.out o2 (o3+i);generalize wordA ls o2 (o3+i)=X at *
     generalize wordE7 ls o2 (o3+i)=E at *
     clear HL q1 q2 q3 q4;go_enter Tryz.func115,Tryz.ntmps115;go_upto_region 1 with fail
     rw[←hW1];clear hW1
     go_wp2_with fail
     refine HF4.mono ?_
     rintro e w2 ⟨rfl,hB2⟩;have HB2:=LH (bseqS HB.out hB2);clear hB2
     go_wp2_with fail
     go_ret2;exact ⟨rfl,HB2.out⟩
    ·obtain rfl:o6=2:=by omega
     obtain rfl:Z=(wordA ls o2 (o3+i / 8) / 2 ^ (8*(i % 8).toNat) % 256,wordE7 ls o2 (o3+i / 8)):=HL.out.trans (by rw[if_neg (by omega),if_neg (by decide),if_neg h66,if_neg hp,if_neg h5]);have hw1:IntKind.i64.wrap (o3+i / 8)=o3+i / 8:=IntWalk.i64_in _ (by omega);have hw2:IntKind.i64.wrap (i.tdiv 8)=i / 8:=IntWalk.i64_quo _ _ (by omega);have HF4:=HF.out W1 HB.out o2 (o3+i / 8);have HX:=LH (HWb.out o2 (o3+i / 8));generalize wordA ls o2 (o3+i / 8)=X at *
     generalize wordE7 ls o2 (o3+i / 8)=E at *
     obtain ⟨m,hm⟩:∃m,m=(i % 8).toNat:=⟨_,rfl⟩;have hw3:IntKind.i64.wrap (i.tmod 8)=(m:Int):=by rw[IntWalk.rem_in _ _ (by omega),IntWalk.i64_in _ (by omega)];omega
     have hw4:i % 8=(m:Int):=by omega
     have hw5:i.tmod 8=(m:Int):=by rw[IntWalk.rem_in _ _ (by omega)];exact hw4
     have hm7:m≤7:=by omega
     rw[←hm];clear HL q1 q2 q3 q4 hm;go_enter Tryz.func115,Tryz.ntmps115;go_upto_region 1 with fail
     rw[←hW1];clear hW1
     go_wp2_with fail
     refine HF4.mono ?_
     rintro e w2 ⟨rfl,hB2⟩;have HB2:=LH (bseqS HB.out hB2);clear hB2 hw1 hw2
     go_wp2_with fail
     go_loopw [12,14] (fun x j wr=>∃q:Nat,j= .int .i64 q∧q≤m∧x= .int .u64 (X / 256 ^ q)∧w2=wr) (fun _ j _=>m - (intOf j).toNat)
     case atStart=>exact ⟨0,rfl,by omega,by simp,rfl⟩
     case round =>
      obtain ⟨q,rfl,hq,rfl,rfl⟩:=hrel
      by_cases hlt:q<m
      ·have j1:(q:Int)<(m:Int):=by omega
       have HN:=LH (div_next X q);have hbd:=div_bd HX.out.1 HX.out.2 q;generalize X / 256 ^ q=Y at *
       have hy:IntKind.u64.wrap (Y.tdiv 256)=Y / 256:=by rw[Int.tdiv_eq_ediv_of_nonneg hbd.1,IntKind.wrap_u64];omega
       go_wp2_with fail
       go_roundw
       case rel=>exact ⟨q+1,by go_num,by omega,by rw[←HN.out],trivial⟩
       case measure=>simp[intOf];omega
      ·obtain rfl:q=m:=by omega
       have j1:¬(q:Int)<(q:Int):=by omega
       have HN:=LH (div_pow X q);have hbd:=div_bd HX.out.1 HX.out.2 q;generalize X / 256 ^ q=Y at *
       have hy:IntKind.u64.wrap (Y.tmod 256)=Y % 256:=by rw[Int.tmod_eq_emod_of_nonneg hbd.1,IntKind.wrap_u64];omega
       go_wp2_with fail
       rw[←HN.out];go_ret2;exact ⟨rfl,HB2.out⟩
def VaJ (t:Va × Int) (w:World) (e:Ending) (w':World):Prop:=e= .returned (.tuple #[.agg (cellsV t.1),.int .i64 t.2])∧Below w.heap.size w w'
set_option maxHeartbeats 4000000 in
theorem rsval_any (v:Value) (ls:List (List Int)) (o:Ob) (i:Int) (w:World) (h:ArV w w.heap.size v ls) (hs:ls.length≤1000000000) (hu:AllU ls) (hf:fitsL (sizesL ls)=true) (ho:GoodO (sizesL ls) o) (hk:In64 i) :
  Calls Tryz.prog 79 #[srcV v,.agg (cellsO o),.int .i64 i] w (VaJ (endV (srA ls) o i) w):=by
 have HN:=LH (fun X (hX:Below w.heap.size w X) (hi:0≤i∧i≤9223372036854775807)=>rsnum_any v ls o i X (h.on hX) hs hu hf ho hi)
 have hgk:o=Ob.zero∨(o.kind=1)∨(o.kind=2∧o.data=0∧o.ptrs=0):=by
  by_cases hk0:o.kind=0
  ·exact ho.elim .inl (fun e=>absurd hk0 (by omega))
  ·rcases (good_parts ho hk0).1 with ⟨h1,-⟩ | ⟨h1,h2,h3,-⟩
   ·exact .inr (.inl h1)
   ·exact .inr (.inr ⟨h1,h2,h3⟩)
 obtain ⟨A,n,c,rfl⟩:∃A n c,v= .slice A n c:=by
  obtain ⟨A,c,e⟩:=h.form rfl;exact ⟨_,_,_,e⟩
 obtain ⟨o1,o2,o3,o4,o5,o6,o7⟩:=o;have HL:Hid (endV (srA ls) ⟨o1,o2,o3,o4,o5,o6,o7⟩ i=if i<0 then (shapeV ⟨o1,o2,o3,o4,o5,o6,o7⟩,0) else if (numW (srA ls) ⟨o1,o2,o3,o4,o5,o6,o7⟩ i).2≠0 then (Va.zero,(numW (srA ls) ⟨o1,o2,o3,o4,o5,o6,o7⟩ i).2) else (⟨o1,0,0,0,(numW (srA ls) ⟨o1,o2,o3,o4,o5,o6,o7⟩ i).1⟩,0)):=LH rfl
 obtain ⟨Z,hZ⟩:∃Z,Z=endV (srA ls) ⟨o1,o2,o3,o4,o5,o6,o7⟩ i:=⟨_,rfl⟩;rw[←hZ] at HL ⊢;obtain ⟨W1,hW1⟩:∃W1,W1=((w.alloc (.cells #[.slice A n c,.bool false,.slice none 0 0] 96)).alloc (.cells (cellsO ⟨o1,o2,o3,o4,o5,o6,o7⟩) 129)).alloc (.cells (cellsV Va.zero) 54):=⟨_,rfl⟩;obtain ⟨hb1,hb2,hb3,hB1,hs1⟩:=three_boxS w _ _ _ _ _ _ W1 hW1;have HS:Hid (S9Box W1 w.heap.size (.slice A n c)):=LH hb1;have HY:Hid (OBox W1 (w.heap.size+1) ⟨o1,o2,o3,o4,o5,o6,o7⟩):=LH hb2;have HV:Hid (VBox W1 (w.heap.size+1+1) Va.zero):=LH hb3;have HB:=LH hB1;have HSz:=LH hs1;obtain ⟨y0,y1,y2,y3,y4,y5,y6⟩:=HY.out.cells;obtain ⟨s0,s1⟩:=HS.out.cells;have s2:=HS.out.cell2;dsimp only at y0 y1 y2 y3 y4 y5 y6;have HN1:=LH (fun hi=>HN.out W1 HB.out hi)
 obtain ⟨R,hR⟩:∃R,R=numW (srA ls) ⟨o1,o2,o3,o4,o5,o6,o7⟩ i:=⟨_,rfl⟩;rw[←hR] at HL HN1;unfold cellsO cellsV Va.zero at hW1;dsimp only at hW1;unfold NumI srcV cellsO at HN1;dsimp only at HN1;unfold cellsO srcV;dsimp only at hgk ⊢;unfold In64 at hk;clear hZ hR hb1 hb2 hb3 hB1 hs1 h hs hu hf ho HN
 by_cases hi:i<0
 ·have HZ:Hid (Z=(shapeV ⟨o1,o2,o3,o4,o5,o6,o7⟩,0)):=LH (HL.out.trans (if_pos hi));have hi2:¬(0:Int)≤i:=by omega
  clear HL HN1 hk
  rcases hgk with e | rfl | ⟨rfl,rfl,rfl⟩
  ·unfold Ob.zero at e
   injection e with e1 e2 e3 e4 e5 e6 e7
   subst e1 e2 e3 e4 e5 e6 e7;obtain rfl:Z=(⟨0,0,0,0,0⟩,0):=HZ.out;go_enter Tryz.func79,Tryz.ntmps79;go_upto_region 1 with fail
   rw[←hW1];clear hW1;obtain ⟨w2,hw2⟩:∃w2,w2=W1.alloc (.cells #[.int .i64 0,.int .i64 0,.int .i64 0,.int .i64 0,.int .u64 0] 54):=⟨_,rfl⟩;have hB2:Below W1.heap.size W1 w2:=by rw[hw2];exact (Below.refl _ _).alloc (Nat.le_refl _) _
   have HN2:Hid (VBox w2 W1.heap.size ⟨0,0,0,0,0⟩):=LH (by rw[hw2];exact VBox.new W1 ⟨0,0,0,0,0⟩);have HV2:=LH (HV.out.on hB2);have HY2:=LH (HY.out.on hB2);have HB2:=LH (HB.out.trans (hB2.mono HB.out.size));clear hB2;go_upto_region 7 with fail
   rw[←hw2];clear hw2 y0 y1 y2 y3 y4 y5 y6 s0 s1 s2;obtain ⟨y0,y1,y2,y3,y4,y5,y6⟩:=HY2.out.cells;dsimp only at y0 y1 y2 y3 y4 y5 y6;obtain ⟨u0,u1,u2,u3,u4⟩:=HN2.out.cells;dsimp only at u0 u1 u2 u3 u4;have HV:=HV2;have HB:=HB2;have HX:=LH (HV.out.set5 0 0 0 0 0);have HBX:=LH (below_val5 (g:=w.heap.size+1+1) HB.out (by omega) (.int .i64 0) (.int .i64 0) (.int .i64 0) (.int .i64 0) (.int .u64 0));obtain ⟨x0,x1,x2,x3,x4⟩:=HV.out.cells;obtain ⟨f0,f1,f2,f3,f4⟩:=HV.out.frozens;unfold Va.zero at x0 x1 x2 x3 x4;dsimp only at x0 x1 x2 x3 x4
   go_wp2_with fail
   clear x0 x1 x2 x3 x4;obtain ⟨x0,x1,x2,x3,x4⟩:=HX.out.cells;dsimp only at x0 x1 x2 x3 x4;refine bodyPost_ret (v:= .tuple #[.agg (cellsV ⟨0,0,0,0,0⟩),.int .i64 0]) ?_ rfl ⟨rfl,HBX.out⟩
   simp[results,Tryz.f79,go_sem,cellsV,x0,x1,x2,x3,x4]
  ·obtain rfl:Z=(⟨1,o6,o4,o5,0⟩,0):=HZ.out;go_enter Tryz.func79,Tryz.ntmps79;go_upto_region 1 with fail
   rw[←hW1];clear hW1;obtain ⟨w2,hw2⟩:∃w2,w2=W1.alloc (.cells #[.int .i64 1,.int .i64 o6,.int .i64 o4,.int .i64 o5,.int .u64 0] 54):=⟨_,rfl⟩;have hB2:Below W1.heap.size W1 w2:=by rw[hw2];exact (Below.refl _ _).alloc (Nat.le_refl _) _
   have HN2:Hid (VBox w2 W1.heap.size ⟨1,o6,o4,o5,0⟩):=LH (by rw[hw2];exact VBox.new W1 ⟨1,o6,o4,o5,0⟩);have HV2:=LH (HV.out.on hB2);have HY2:=LH (HY.out.on hB2);have HB2:=LH (HB.out.trans (hB2.mono HB.out.size));clear hB2;go_upto_region 7 with fail
   rw[←hw2];clear hw2 y0 y1 y2 y3 y4 y5 y6 s0 s1 s2;obtain ⟨y0,y1,y2,y3,y4,y5,y6⟩:=HY2.out.cells;dsimp only at y0 y1 y2 y3 y4 y5 y6;obtain ⟨u0,u1,u2,u3,u4⟩:=HN2.out.cells;dsimp only at u0 u1 u2 u3 u4;have HV:=HV2;have HB:=HB2;have HX:=LH (HV.out.set5 1 o6 o4 o5 0);have HBX:=LH (below_val5 (g:=w.heap.size+1+1) HB.out (by omega) (.int .i64 1) (.int .i64 o6) (.int .i64 o4) (.int .i64 o5) (.int .u64 0));obtain ⟨x0,x1,x2,x3,x4⟩:=HV.out.cells;obtain ⟨f0,f1,f2,f3,f4⟩:=HV.out.frozens;unfold Va.zero at x0 x1 x2 x3 x4;dsimp only at x0 x1 x2 x3 x4
   go_wp2_with fail
   clear x0 x1 x2 x3 x4;obtain ⟨x0,x1,x2,x3,x4⟩:=HX.out.cells;dsimp only at x0 x1 x2 x3 x4;refine bodyPost_ret (v:= .tuple #[.agg (cellsV ⟨1,o6,o4,o5,0⟩),.int .i64 0]) ?_ rfl ⟨rfl,HBX.out⟩
   simp[results,Tryz.f79,go_sem,cellsV,x0,x1,x2,x3,x4]
  ·by_cases h6:o6=6
   ·subst h6;obtain rfl:Z=(⟨2,6,0,o7,0⟩,0):=HZ.out;go_enter Tryz.func79,Tryz.ntmps79;go_upto_region 1 with fail
    rw[←hW1];clear hW1;obtain ⟨w2,hw2⟩:∃w2,w2=W1.alloc (.cells #[.int .i64 2,.int .i64 6,.int .i64 0,.int .i64 0,.int .u64 0] 54):=⟨_,rfl⟩;have hB2:Below W1.heap.size W1 w2:=by rw[hw2];exact (Below.refl _ _).alloc (Nat.le_refl _) _
    have HN2:Hid (VBox w2 W1.heap.size ⟨2,6,0,0,0⟩):=LH (by rw[hw2];exact VBox.new W1 ⟨2,6,0,0,0⟩);have HV2:=LH (HV.out.on hB2);have HY2:=LH (HY.out.on hB2);have HB2:=LH (HB.out.trans (hB2.mono HB.out.size));clear hB2;go_upto_region 7 with fail
    rw[←hw2];clear hw2 y0 y1 y2 y3 y4 y5 y6 s0 s1 s2;obtain ⟨y0,y1,y2,y3,y4,y5,y6⟩:=HY2.out.cells;dsimp only at y0 y1 y2 y3 y4 y5 y6;obtain ⟨b,hb⟩:∃b,b=W1.heap.size:=⟨_,rfl⟩;have hsz:=HSz.out;rw[←hb] at HN2 hsz ⊢;have HN3:Hid (VBox (w2.setCell ⟨b,3,none⟩ (.int .i64 o7)) b ⟨2,6,0,o7,0⟩):=LH (by
     have h0:w2.heap[b]? = some (.cells (cellsV ⟨2,6,0,0,0⟩) 54 (0,0)):=HN2.out;have h1:=heap_setCell_same _ b 3 _ _ (.int .i64 o7) h0;unfold VBox;rw[h1]
     simp[cellsV])
    have HV:Hid (VBox (w2.setCell ⟨b,3,none⟩ (.int .i64 o7)) (w.heap.size+1+1) Va.zero):=LH ((blk_setCell_other _ _ _ _ (show w.heap.size+1+1≠b by omega)).trans HV2.out)
    have HB:=LH (HB2.out.setCell (p:=⟨b,3,none⟩) (by show w.heap.size≤b;omega) (.int .i64 o7))
    obtain ⟨v0,v1,v2,v3,v4⟩:=HN2.out.cells;have g0:=HN2.out.frozen 3;obtain ⟨u0,u1,u2,u3,u4⟩:=HN3.out.cells;dsimp only at v0 v1 v2 v3 v4 u0 u1 u2 u3 u4;clear hb hsz;have HX:=LH (HV.out.set5 2 6 0 o7 0);have HBX:=LH (below_val5 (g:=w.heap.size+1+1) HB.out (by omega) (.int .i64 2) (.int .i64 6) (.int .i64 0) (.int .i64 o7) (.int .u64 0));obtain ⟨x0,x1,x2,x3,x4⟩:=HV.out.cells;obtain ⟨f0,f1,f2,f3,f4⟩:=HV.out.frozens;unfold Va.zero at x0 x1 x2 x3 x4;dsimp only at x0 x1 x2 x3 x4
    go_wp2_with fail
    clear x0 x1 x2 x3 x4;obtain ⟨x0,x1,x2,x3,x4⟩:=HX.out.cells;dsimp only at x0 x1 x2 x3 x4;refine bodyPost_ret (v:= .tuple #[.agg (cellsV ⟨2,6,0,o7,0⟩),.int .i64 0]) ?_ rfl ⟨rfl,HBX.out⟩
    simp[results,Tryz.f79,go_sem,cellsV,x0,x1,x2,x3,x4]
   ·obtain rfl:Z=(⟨2,o6,o7,0,0⟩,0):=HZ.out.trans (by unfold shapeV;rw[if_neg (show ¬(2:Int)=1 by decide),if_neg h6])
    have h61:(o6 == 6)=false:=by simp[h6]
    go_enter Tryz.func79,Tryz.ntmps79;go_upto_region 1 with fail
    rw[←hW1];clear hW1;obtain ⟨w2,hw2⟩:∃w2,w2=W1.alloc (.cells #[.int .i64 2,.int .i64 o6,.int .i64 0,.int .i64 0,.int .u64 0] 54):=⟨_,rfl⟩;have hB2:Below W1.heap.size W1 w2:=by rw[hw2];exact (Below.refl _ _).alloc (Nat.le_refl _) _
    have HN2:Hid (VBox w2 W1.heap.size ⟨2,o6,0,0,0⟩):=LH (by rw[hw2];exact VBox.new W1 ⟨2,o6,0,0,0⟩);have HV2:=LH (HV.out.on hB2);have HY2:=LH (HY.out.on hB2);have HB2:=LH (HB.out.trans (hB2.mono HB.out.size));clear hB2;go_upto_region 7 with fail
    rw[←hw2];clear hw2 y0 y1 y2 y3 y4 y5 y6 s0 s1 s2;obtain ⟨y0,y1,y2,y3,y4,y5,y6⟩:=HY2.out.cells;dsimp only at y0 y1 y2 y3 y4 y5 y6;obtain ⟨b,hb⟩:∃b,b=W1.heap.size:=⟨_,rfl⟩;have hsz:=HSz.out;rw[←hb] at HN2 hsz ⊢;have HN3:Hid (VBox (w2.setCell ⟨b,2,none⟩ (.int .i64 o7)) b ⟨2,o6,o7,0,0⟩):=LH (by
     have h0:w2.heap[b]? = some (.cells (cellsV ⟨2,o6,0,0,0⟩) 54 (0,0)):=HN2.out;have h1:=heap_setCell_same _ b 2 _ _ (.int .i64 o7) h0;unfold VBox;rw[h1]
     simp[cellsV])
    have HV:Hid (VBox (w2.setCell ⟨b,2,none⟩ (.int .i64 o7)) (w.heap.size+1+1) Va.zero):=LH ((blk_setCell_other _ _ _ _ (show w.heap.size+1+1≠b by omega)).trans HV2.out)
    have HB:=LH (HB2.out.setCell (p:=⟨b,2,none⟩) (by show w.heap.size≤b;omega) (.int .i64 o7))
    obtain ⟨v0,v1,v2,v3,v4⟩:=HN2.out.cells;have g0:=HN2.out.frozen 2;obtain ⟨u0,u1,u2,u3,u4⟩:=HN3.out.cells;dsimp only at v0 v1 v2 v3 v4 u0 u1 u2 u3 u4;clear hb hsz;have HX:=LH (HV.out.set5 2 o6 o7 0 0);have HBX:=LH (below_val5 (g:=w.heap.size+1+1) HB.out (by omega) (.int .i64 2) (.int .i64 o6) (.int .i64 o7) (.int .i64 0) (.int .u64 0));obtain ⟨x0,x1,x2,x3,x4⟩:=HV.out.cells;obtain ⟨f0,f1,f2,f3,f4⟩:=HV.out.frozens;unfold Va.zero at x0 x1 x2 x3 x4;dsimp only at x0 x1 x2 x3 x4
    go_wp2_with fail
    clear x0 x1 x2 x3 x4;obtain ⟨x0,x1,x2,x3,x4⟩:=HX.out.cells;dsimp only at x0 x1 x2 x3 x4;refine bodyPost_ret (v:= .tuple #[.agg (cellsV ⟨2,o6,o7,0,0⟩),.int .i64 0]) ?_ rfl ⟨rfl,HBX.out⟩
    simp[results,Tryz.f79,go_sem,cellsV,x0,x1,x2,x3,x4]
 ·obtain ⟨X,E⟩:=R;have hi2:(0:Int)≤i:=by omega
  have HL2:=LH (HL.out.trans (if_neg hi));have HN2:=LH (HN1.out ⟨hi2,hk.2⟩);dsimp only at HL2 HN2;clear HL HN1 hk hgk;go_enter Tryz.func79,Tryz.ntmps79;go_upto_region 1 with fail
  rw[←hW1];clear hW1
  go_wp2_with fail
  refine HN2.out.mono ?_
  rintro e w2 ⟨rfl,hB2⟩;have HV:=LH (HV.out.on hB2);have HY2:=LH (HY.out.on hB2);have HB:=LH (HB.out.trans (hB2.mono HB.out.size));clear hB2 y0 y1 y2 y3 y4 y5 y6 s0 s1 s2;obtain ⟨y0,y1,y2,y3,y4,y5,y6⟩:=HY2.out.cells;dsimp only at y0 y1 y2 y3 y4 y5 y6
  by_cases hE:E=0
  ·subst hE;obtain rfl:Z=(⟨o1,0,0,0,X⟩,0):=HL2.out.trans (if_neg (by simp));have HX:=LH (HV.out.set5 o1 0 0 0 X);have HBX:=LH (below_val5 (g:=w.heap.size+1+1) HB.out (by omega) (.int .i64 o1) (.int .i64 0) (.int .i64 0) (.int .i64 0) (.int .u64 X));obtain ⟨x0,x1,x2,x3,x4⟩:=HV.out.cells;obtain ⟨f0,f1,f2,f3,f4⟩:=HV.out.frozens;unfold Va.zero at x0 x1 x2 x3 x4;dsimp only at x0 x1 x2 x3 x4
   go_wp2_with fail
   clear x0 x1 x2 x3 x4;obtain ⟨x0,x1,x2,x3,x4⟩:=HX.out.cells;dsimp only at x0 x1 x2 x3 x4;refine bodyPost_ret (v:= .tuple #[.agg (cellsV ⟨o1,0,0,0,X⟩),.int .i64 0]) ?_ rfl ⟨rfl,HBX.out⟩
   simp[results,Tryz.f79,go_sem,cellsV,x0,x1,x2,x3,x4]
  ·have hE1:(E != 0)=true:=by simp[hE]
   obtain rfl:Z=(Va.zero,E):=HL2.out.trans (if_pos hE);have HX:=LH (HV.out.set5 0 0 0 0 0);have HBX:=LH (below_val5 (g:=w.heap.size+1+1) HB.out (by omega) (.int .i64 0) (.int .i64 0) (.int .i64 0) (.int .i64 0) (.int .u64 0));obtain ⟨x0,x1,x2,x3,x4⟩:=HV.out.cells;obtain ⟨f0,f1,f2,f3,f4⟩:=HV.out.frozens;unfold Va.zero at x0 x1 x2 x3 x4;dsimp only at x0 x1 x2 x3 x4
   go_wp2_with fail
   clear x0 x1 x2 x3 x4;obtain ⟨x0,x1,x2,x3,x4⟩:=HX.out.cells;dsimp only at x0 x1 x2 x3 x4;refine bodyPost_ret (v:= .tuple #[.agg (cellsV ⟨0,0,0,0,0⟩),.int .i64 E]) ?_ rfl ⟨rfl,HBX.out⟩
   simp[results,Tryz.f79,go_sem,cellsV,x0,x1,x2,x3,x4]
def StpO (T:Ob × Int) (w:World) (x13 x14:Value) (wx:World):Prop:=∃g o,x13= .pointer (some ⟨g,0,none⟩)∧x14= .int .i64 T.2∧o=T.1∧OBox wx g o∧Below w.heap.size w wx
theorem goalO_drop {s:Sr} {ks:List Int} {q:Nat} (h:q<ks.length) {c:Int} {o:Ob} (hc:¬c<1+wordsO o):goalO s (ks.drop q) c (o,0)=goalO s (ks.drop (q+1)) (c - (1+wordsO o)) (nextO s o (ks[q]?.getD 0)):=by
 rw[List.drop_eq_getElem_cons h,goalO_on s _ _ c o hc,List.getElem?_eq_getElem h]
 rfl
theorem goalO_short {s:Sr} {ks:List Int} {c:Int} {o:Ob} (hc:c<1+wordsO o):goalO s ks c (o,0)=(Ob.zero,22):=by
 cases ks <;> (unfold goalO;rw[if_neg (by simp),if_pos hc])
set_option maxHeartbeats 8000000 in
theorem rswalk_any (v:Value) (ls:List (List Int)) (sv:Value) (ks:List Int) (i c:Int) (w:World) (h:ArV w w.heap.size v ls) (hs:ls.length≤1000000000) (hu:AllU ls) (hf:fitsL (sizesL ls)=true) (hsv:NumS .i64 w w.heap.size sv ks) (h64:All64 ks) (hi:In64 i) (hc:In64 c) :
  Calls Tryz.prog 43 #[srcV v,.agg #[sv,.int .i64 i],.int .i64 c] w (VaJ (walkV (srA ls) ks i c) w):=by
 have hgd:=srA_good hs hu (sizes_all64 h);have HGd:=LH hgd;have HFo:=LH (fun X (hX:Below w.heap.size w X)=>rsfollow_any v ls 0 0 X (h.on hX) hs hu (sizes_all64 h) ⟨by decide,by decide⟩)
 have HStp:=LH (fun X (hX:Below w.heap.size w X) o k ho hk=>rsstep_any v ls o k X (h.on hX) hs hu hf ho hk)
 have HVal:=LH (fun X (hX:Below w.heap.size w X) o ho=>rsval_any v ls o i X (h.on hX) hs hu hf ho hi)
 obtain ⟨B,nb,cb,rfl⟩:∃A n c,v= .slice A n c:=by
  obtain ⟨A,c,e⟩:=h.form rfl;exact ⟨_,_,_,e⟩
 have HL:Hid (walkV (srA ls) ks i c=if negs ks=true then (Va.zero,1) else if 32<ks.length then (Va.zero,3) else if (goalO (srA ls) ks c (followO (srA ls) 0 0)).2≠0 then (Va.zero,(goalO (srA ls) ks c (followO (srA ls) 0 0)).2) else endV (srA ls) (goalO (srA ls) ks c (followO (srA ls) 0 0)).1 i):=LH rfl
 obtain ⟨Z,hZ⟩:∃Z,Z=walkV (srA ls) ks i c:=⟨_,rfl⟩;rw[←hZ] at HL ⊢;obtain ⟨T,hT⟩:∃T,T=goalO (srA ls) ks c (followO (srA ls) 0 0):=⟨_,rfl⟩;rw[←hT] at HL;have HT0:=LH hT;obtain ⟨A,q0,e0,hc0,hm0,hr0⟩:=id hsv;subst e0;obtain ⟨nk,hnk⟩:∃n,n=ks.length:=⟨_,rfl⟩;rw[←hnk] at hc0 hr0 HL hsv ⊢;obtain ⟨W1,hW1⟩:∃W1,W1=((w.alloc (.cells #[.slice B nb cb,.bool false,.slice none 0 0] 96)).alloc (.cells #[.slice A nk q0,.int .i64 i] 47)).alloc (.cells (cellsV Va.zero) 54):=⟨_,rfl⟩;obtain ⟨hb1,hb2,hb3,hB0,hs0⟩:=three_boxS w _ _ _ _ _ _ W1 hW1;have HS1:Hid (S9Box W1 w.heap.size (.slice B nb cb)):=LH hb1;have HP1:Hid (PaBox W1 (w.heap.size+1) (.slice A nk q0) i):=LH hb2;have HV1:Hid (VBox W1 (w.heap.size+1+1) Va.zero):=LH hb3;have HB1:=LH hB0;have HSz:=LH hs0;have HR:=LH hr0;have HN:=LH hnk;have HK4:=LH h64;have HC:=LH hc;have hkb:nk≤9223372036854775807:=by omega
 have HKb:=LH hkb;unfold cellsV Va.zero at hW1;dsimp only at hW1;unfold srcV at *
 clear hZ hT hb1 hb2 hb3 hB0 hs0 hsv h64 h hc0 hm0 hr0 hnk hi hs hu hf hgd hc;obtain ⟨p0,p1⟩:=HP1.out.cells;go_enter Tryz.func43,Tryz.ntmps43;go_upto_region 1 with fail
 rw[←hW1];clear hW1
 go_wp2_with fail
 go_loopw [8] (fun x wr=>∃q:Nat,q≤nk∧x= .int .i64 q∧(∀k∈ks.take q,¬k<0)∧W1=wr) (fun x _=>nk - (intOf x).toNat)
 case atStart=>exact ⟨0,by omega,rfl,by simp,rfl⟩
 case round =>
  obtain ⟨q,hq,rfl,hall,rfl⟩:=hrel;have HAll:=LH hall;have HB:=HB1;have HV:=HV1;clear hall
  by_cases hlt:q<nk
  ·obtain ⟨b,off,rfl,hb,hcell⟩:=HR.out (by omega);have p2:=(HB1.out.cell (p:=⟨b,off+q,none⟩) hb).trans (hcell q hlt);have HTk:Hid (ks.take (q+1)=ks.take q ++ [ks[q]?.getD 0]):=LH (by rw[List.take_add_one,List.getElem?_eq_getElem (by rw[←HN.out];exact hlt)];rfl);have HM:Hid (ks[q]?.getD 0∈ks):=LH (by rw[List.getElem?_eq_getElem (by rw[←HN.out];exact hlt)];exact List.getElem_mem _);obtain ⟨y,hy⟩:∃y,ks[q]?.getD 0=y:=⟨_,rfl⟩;rw[hy] at p2 HTk HM;clear hcell hy;have i1:(q:Int)<(nk:Int):=by omega
   by_cases hy:y<0
   ·obtain rfl:Z=(Va.zero,1):=HL.out.trans (if_pos (List.any_eq_true.2 ⟨y,HM.out,decide_eq_true hy⟩));have HX:=LH (HV.out.set5 0 0 0 0 0);have HBX:=LH (below_val5 (g:=w.heap.size+1+1) HB.out (by omega) (.int .i64 0) (.int .i64 0) (.int .i64 0) (.int .i64 0) (.int .u64 0));obtain ⟨x0,x1,x2,x3,x4⟩:=HV.out.cells;obtain ⟨f0,f1,f2,f3,f4⟩:=HV.out.frozens;unfold Va.zero at x0 x1 x2 x3 x4;dsimp only at x0 x1 x2 x3 x4
    go_wp2_with fail
    clear x0 x1 x2 x3 x4;obtain ⟨x0,x1,x2,x3,x4⟩:=HX.out.cells;dsimp only at x0 x1 x2 x3 x4;refine bodyPost_ret (v:= .tuple #[.agg (cellsV ⟨0,0,0,0,0⟩),.int .i64 1]) ?_ rfl ⟨rfl,HBX.out⟩
    simp[results,Tryz.f43,go_sem,cellsV,x0,x1,x2,x3,x4]
   ·go_wp2_with fail
    go_roundw
    case rel =>
     refine ⟨q+1,by omega,by go_num,fun k hk=> ?_,trivial⟩
     rw[HTk.out,List.mem_append,List.mem_singleton] at hk
     rcases hk with hk | rfl
     ·have:=HAll.out k hk;omega
     ·omega
    case measure=>simp[intOf];omega
  ·obtain rfl:q=nk:=by omega
   have i1:¬(q:Int)<(q:Int):=by omega
   have HPos:Hid (∀k∈ks,0≤k∧k≤9223372036854775807):=LH (fun k hk=>by
    have h1:=HAll.out k (by rw[HN.out,List.take_length];exact hk);have h2:=HK4.out k hk;unfold In64 at h2
    omega)
   have hng:¬negs ks=true:=fun hn=>by
    obtain ⟨y,h1,h2⟩:=List.any_eq_true.1 hn;have:=(HPos.out y h1).1;have:=of_decide_eq_true h2
    omega
   have HL1:=LH (HL.out.trans (if_neg hng));clear hng
   by_cases hl:32<q
   ·obtain rfl:Z=(Va.zero,3):=HL1.out.trans (if_pos hl);have hl1:(q:Int)>32:=by omega
    have HX:=LH (HV.out.set5 0 0 0 0 0);have HBX:=LH (below_val5 (g:=w.heap.size+1+1) HB.out (by omega) (.int .i64 0) (.int .i64 0) (.int .i64 0) (.int .i64 0) (.int .u64 0));obtain ⟨x0,x1,x2,x3,x4⟩:=HV.out.cells;obtain ⟨f0,f1,f2,f3,f4⟩:=HV.out.frozens;unfold Va.zero at x0 x1 x2 x3 x4;dsimp only at x0 x1 x2 x3 x4
    go_wp2_with fail
    clear x0 x1 x2 x3 x4;obtain ⟨x0,x1,x2,x3,x4⟩:=HX.out.cells;dsimp only at x0 x1 x2 x3 x4;refine bodyPost_ret (v:= .tuple #[.agg (cellsV ⟨0,0,0,0,0⟩),.int .i64 3]) ?_ rfl ⟨rfl,HBX.out⟩
    simp[results,Tryz.f43,go_sem,cellsV,x0,x1,x2,x3,x4]
   ·have hl1:¬(q:Int)>32:=by omega
    have HL2:=LH (HL1.out.trans (if_neg hl));have HKn:Hid (q≤32):=LH (by omega);generalize q=nk at *
    have HF1:=HFo.out W1 HB1.out;have HGo:=LH (follow_good HGd.out 0 0);obtain ⟨F,hF⟩:∃F,F=followO (srA ls) 0 0:=⟨_,rfl⟩;rw[←hF] at HF1 HGo HT0;obtain ⟨⟨o1,o2,o3,o4,o5,o6,o7⟩,e0⟩:=F;unfold ObI cellsO at HF1;dsimp only at HF1 HGo;obtain ⟨s0,s1⟩:=HS1.out.cells;have s2:=HS1.out.cell2;clear i1 HL HL1 hF
    go_wp2_with fail
    refine HF1.mono ?_
    intro e w2 hR;obtain ⟨he,hB2⟩:=hR;subst he;obtain ⟨w3,hw3⟩:∃w3,w3=w2.alloc (.cells #[.int .i64 o1,.int .i64 o2,.int .i64 o3,.int .i64 o4,.int .i64 o5,.int .i64 o6,.int .i64 o7] 129):=⟨_,rfl⟩;have hB3:Below w2.heap.size w2 w3:=by rw[hw3];exact (Below.refl _ _).alloc (Nat.le_refl _) _
    have HN3:Hid (OBox w3 w2.heap.size ⟨o1,o2,o3,o4,o5,o6,o7⟩):=LH (by rw[hw3];exact OBox.new w2 ⟨o1,o2,o3,o4,o5,o6,o7⟩);have HGb:Hid (w.heap.size+3≤w2.heap.size):=LH (by have:=hB2.size;have:=HSz.out;omega);have HS3:=LH (HS1.out.on (bseqS hB2 hB3));have HP3:=LH (HP1.out.on (bseqS hB2 hB3) HP1.out.lt);have HV3:=LH (HV1.out.on (bseqS hB2 hB3));have HB3:=LH (bseqS HB1.out (bseqS hB2 hB3));clear hB2 hB3 p0 p1 s0 s1 s2 hl1;go_upto_region 9 with fail
    rw[←hw3];clear hw3;obtain ⟨gb,hgb⟩:∃g,g=w2.heap.size:=⟨_,rfl⟩;rw[←hgb] at HN3 HGb ⊢;clear hgb
    go_wp2_with fail
    go_loopw [10,11,12] (fun xe xp xi wr=>∃(q:Nat) (o:Ob) (e P:Int),xe= .int .i64 e∧xp= .int .i64 P∧xi= .int .i64 q∧((q≤nk∧goalO (srA ls) (ks.drop q) (c - P) (o,e)=T)∨(q=nk+1∧T=(o,0)))∧(0≤P∧P≤q*600000000)∧GoodO (sizesL ls) o∧OBox wr gb o∧S9Box wr w.heap.size (.slice B nb cb)∧PaBox wr (w.heap.size+1) (.slice A nk q0) i∧VBox wr (w.heap.size+1+1) Va.zero∧Below w.heap.size w wr) (fun _ _ xi _=>nk+1 - (intOf xi).toNat)
    case atStart=>exact ⟨0,⟨o1,o2,o3,o4,o5,o6,o7⟩,e0,0,rfl,rfl,rfl,.inl ⟨by omega,by rw[List.drop_zero,Int.sub_zero];exact HT0.out.symm⟩,⟨by omega,by omega⟩,HGo.out,HN3.out,HS3.out,HP3.out,HV3.out,HB3.out⟩
    case round =>
     obtain ⟨q,o,e,P,rfl,rfl,rfl,hgo,hP,hgo2,hO,hS,hPa,hV,hB⟩:=hrel;generalize wr=wa at *
     have HGl:=LH hgo;have HPb:=LH hP;have HGo:=LH hgo2;have HO:=LH hO;have HS:=LH hS;have HPa:=LH hPa;have HV:=LH hV;have HB:=LH hB;obtain ⟨p0,p1⟩:=hPa.cells;have hkn:=HKn.out;clear hgo hP hgo2 hO hS hPa hV hB
     by_cases hqn:q≤nk
     ·have i1:(q:Int)≤(nk:Int):=by omega
      have hgl:goalO (srA ls) (ks.drop q) (c - P) (o,e)=T:=by
       rcases HGl.out with h | h
       ·exact h.2
       ·omega
      by_cases he:e=0
      ·subst he;have hw0:0≤wordsO o∧wordsO o≤536870911:=wordN_bd HGo.out.okq;have hk3:o.kind≠3:=by
        rcases HGo.out with rfl | ⟨h1,-⟩
        ·decide
        ·omega
       have HWo:=LH (rswords_any o wa HGo.out.okq hk3);have hdrop:=fun (h:q<ks.length) hc=>(goalO_drop (s:=srA ls) (ks:=ks) (q:=q) h (c:=c - P) (o:=o) hc)
       have hshort:=fun hc=>(goalO_short (s:=srA ls) (ks:=ks.drop q) (c:=c - P) (o:=o) hc).symm.trans hgl
       have HDr:=LH hdrop;have HSh:=LH hshort;have HGl2:=LH hgl;obtain ⟨W,hW⟩:∃W,W=wordsO o:=⟨_,rfl⟩;have HWe:=LH hW;rw[←hW] at HWo hw0 HDr HSh;have hpb:=HPb.out;have w1:IntKind.i64.wrap (1+W)=1+W:=IntWalk.i64_in _ (by omega);have w2:IntKind.i64.wrap (P+(1+W))=P+(1+W):=IntWalk.i64_in _ (by omega);obtain ⟨o1,o2,o3,o4,o5,o6,o7⟩:=o;unfold cellsO at HWo;dsimp only at HWo;obtain ⟨y0,y1,y2,y3,y4,y5,y6⟩:=HO.out.cells;dsimp only at y0 y1 y2 y3 y4 y5 y6;have HW0:=LH hw0;clear hW hk3 hdrop hshort hgl HGl hpb hw0
       go_wp2_with fail
       refine HWo.out.mono ?_
       rintro e w4 ⟨rfl,hB4⟩;have HO:=LH (HO.out.on hB4);have HS:=LH (HS.out.on hB4);have HPa:=LH (HPa.out.on hB4 HPa.out.lt);have HV:=LH (HV.out.on hB4);have HB:=LH (HB.out.trans (hB4.mono HB.out.size));clear hB4 p0 p1 y0 y1 y2 y3 y4 y5 y6
       by_cases hcs:c - P<1+W
       ·have hc1:P+(1+W)>c:=by omega
        have hTe:=HSh.out hcs;obtain rfl:Z=(Va.zero,22):=HL2.out.trans (by rw[←hTe];rfl);clear hTe;have HX:=LH (HV.out.set5 0 0 0 0 0);have HBX:=LH (below_val5 (g:=w.heap.size+1+1) HB.out (by omega) (.int .i64 0) (.int .i64 0) (.int .i64 0) (.int .i64 0) (.int .u64 0));obtain ⟨x0,x1,x2,x3,x4⟩:=HV.out.cells;obtain ⟨f0,f1,f2,f3,f4⟩:=HV.out.frozens;unfold Va.zero at x0 x1 x2 x3 x4;dsimp only at x0 x1 x2 x3 x4
        go_wp2_with fail
        clear x0 x1 x2 x3 x4;obtain ⟨x0,x1,x2,x3,x4⟩:=HX.out.cells;dsimp only at x0 x1 x2 x3 x4;refine bodyPost_ret (v:= .tuple #[.agg (cellsV ⟨0,0,0,0,0⟩),.int .i64 22]) ?_ rfl ⟨rfl,HBX.out⟩
        simp[results,Tryz.f43,go_sem,cellsV,x0,x1,x2,x3,x4]
       ·have hc1:¬P+(1+W)>c:=by omega
        obtain ⟨p0,p1⟩:=HPa.out.cells
        by_cases hlt:q<nk
        ·have i2:(q:Int)<(nk:Int):=by omega
         have hkb:=HKb.out;obtain ⟨b,off,rfl,hb,hcell⟩:=HR.out (by omega);have hcq:=hcell q hlt;have hyb:0≤ks[q]?.getD 0∧ks[q]?.getD 0≤9223372036854775807:=HPos.out _ (by rw[List.getElem?_eq_getElem (by rw[←HN.out];exact hlt)];exact List.getElem_mem _);have hnx:=(HDr.out (by rw[←HN.out];exact hlt) (by omega)).symm.trans HGl2.out;obtain ⟨y,hy⟩:∃y,ks[q]?.getD 0=y:=⟨_,rfl⟩;rw[hy] at hcq hyb hnx;have HNx:=LH (fun X (hX:Below w4.heap.size w4 X)=>HStp.out X (HB.out.trans (hX.mono HB.out.size)) ⟨o1,o2,o3,o4,o5,o6,o7⟩ y HGo.out hyb)
         have HGn:=LH (next_good HGd.out ⟨o1,o2,o3,o4,o5,o6,o7⟩ y);obtain ⟨S,hS'⟩:∃S,S=nextO (srA ls) ⟨o1,o2,o3,o4,o5,o6,o7⟩ y:=⟨_,rfl⟩;rw[←hS'] at HNx hnx HGn;have HG2:=LH hnx;obtain ⟨⟨r1,r2,r3,r4,r5,r6,r7⟩,E⟩:=S;unfold ObI cellsO at HNx;dsimp only at HNx HGn;have HCel:Hid (∀X,Below w4.heap.size w4 X→(X.cell? ⟨w.heap.size,0,none⟩=some (.slice B nb cb)∧X.cell? ⟨w.heap.size,1,none⟩=some (.bool false)∧X.cell? ⟨w.heap.size,2,none⟩=some (.slice none 0 0))∧(X.cell? ⟨gb,0,none⟩=some (.int .i64 o1)∧X.cell? ⟨gb,1,none⟩=some (.int .i64 o2)∧X.cell? ⟨gb,2,none⟩=some (.int .i64 o3)∧X.cell? ⟨gb,3,none⟩=some (.int .i64 o4)∧X.cell? ⟨gb,4,none⟩=some (.int .i64 o5)∧X.cell? ⟨gb,5,none⟩=some (.int .i64 o6)∧X.cell? ⟨gb,6,none⟩=some (.int .i64 o7))∧X.cell? ⟨w.heap.size+1,0,none⟩=some (.slice (some ⟨b,off,none⟩) nk q0)∧X.cell? ⟨b,off+q,none⟩=some (.int .i64 y)):=LH (fun X hX=>⟨⟨(HS.out.on hX).cells.1,(HS.out.on hX).cells.2,(HS.out.on hX).cell2⟩,(HO.out.on hX).cells,(HPa.out.on hX HPa.out.lt).cells.1,((HB.out.trans (hX.mono HB.out.size)).cell (p:=⟨b,off+q,none⟩) hb).trans hcq⟩)
         have HNb:Hid (∀X,Below (w4.alloc (.cells #[.int .i64 0,.int .i64 0,.int .i64 0,.int .i64 0,.int .i64 0,.int .i64 0,.int .i64 0] 129)).drew.heap.size (w4.alloc (.cells #[.int .i64 0,.int .i64 0,.int .i64 0,.int .i64 0,.int .i64 0,.int .i64 0,.int .i64 0] 129)).drew X→OBox X w4.heap.size Ob.zero):=LH (fun X hX=>OBox.on (w:=(w4.alloc (.cells #[.int .i64 0,.int .i64 0,.int .i64 0,.int .i64 0,.int .i64 0,.int .i64 0,.int .i64 0] 129)).drew) (OBox.new w4 Ob.zero) hX)
         have HEnd1:Hid (∀w6,Below w4.heap.size w4 w6→StpO (⟨r1,r2,r3,r4,r5,r6,r7⟩,E) w4 (.pointer (some ⟨w6.heap.size,0,none⟩)) (.int .i64 E) (w6.alloc (.cells #[.int .i64 r1,.int .i64 r2,.int .i64 r3,.int .i64 r4,.int .i64 r5,.int .i64 r6,.int .i64 r7] 129))):=LH (fun w6 hD=>⟨_,_,rfl,rfl,rfl,OBox.new w6 ⟨r1,r2,r3,r4,r5,r6,r7⟩,hD.alloc hD.size _⟩)
         have HEnd2:Hid (∀w6,Below w4.heap.size w4 w6→OBox w6 w4.heap.size Ob.zero→StpO (⟨r1,r2,r3,r4,r5,r6,r7⟩,E) w4 (.pointer (some ⟨w4.heap.size,0,none⟩)) (.int .i64 E) (((((((w6.setCell ⟨w4.heap.size,0,none⟩ (.int .i64 r1)).setCell ⟨w4.heap.size,1,none⟩ (.int .i64 r2)).setCell ⟨w4.heap.size,2,none⟩ (.int .i64 r3)).setCell ⟨w4.heap.size,3,none⟩ (.int .i64 r4)).setCell ⟨w4.heap.size,4,none⟩ (.int .i64 r5)).setCell ⟨w4.heap.size,5,none⟩ (.int .i64 r6)).setCell ⟨w4.heap.size,6,none⟩ (.int .i64 r7))):=LH (fun w6 hD hq=>⟨_,_,rfl,rfl,rfl,hq.set7 r1 r2 r3 r4 r5 r6 r7,below_set7 hD (Nat.le_refl _) _ _ _ _ _ _ _⟩)
         clear hcell hcq hy hnx hS' hyb HStp;go_upto_region 19 with fail
         clear p0 p1
         go_cut [13,14] (fun x13 x14 wx=>StpO (⟨r1,r2,r3,r4,r5,r6,r7⟩,E) w4 x13 x14 wx)
         case first =>
          have hD:Below w4.heap.size w4 w4.drew:=(Below.refl _ _).drew;have hDa:Below w4.heap.size w4 (w4.alloc (.cells #[.int .i64 0,.int .i64 0,.int .i64 0,.int .i64 0,.int .i64 0,.int .i64 0,.int .i64 0] 129)).drew:=((Below.refl _ _).alloc (Nat.le_refl _) _).drew
          go_region_held_law (fun X=>(X.cell? ⟨w.heap.size,0,none⟩=some (.slice B nb cb)∧X.cell? ⟨w.heap.size,1,none⟩=some (.bool false)∧X.cell? ⟨w.heap.size,2,none⟩=some (.slice none 0 0))∧(X.cell? ⟨gb,0,none⟩=some (.int .i64 o1)∧X.cell? ⟨gb,1,none⟩=some (.int .i64 o2)∧X.cell? ⟨gb,2,none⟩=some (.int .i64 o3)∧X.cell? ⟨gb,3,none⟩=some (.int .i64 o4)∧X.cell? ⟨gb,4,none⟩=some (.int .i64 o5)∧X.cell? ⟨gb,5,none⟩=some (.int .i64 o6)∧X.cell? ⟨gb,6,none⟩=some (.int .i64 o7))∧X.cell? ⟨w.heap.size+1,0,none⟩=some (.slice (some ⟨b,off,none⟩) nk q0)∧X.cell? ⟨b,off+q,none⟩=some (.int .i64 y)) (with_reducible first | exact HCel.out _ hD | exact HCel.out _ hDa | exact HCel.out _ hF | exact HCel.out _ (hF.alloc hF.size _) | exact HCel.out _ (below_set7 hF (Nat.le_refl _) _ _ _ _ _ _ _)) (first
           | (go_at_call 78;with_reducible refine (HNx.out _ hD).mono ?_;intro e w6 hR;obtain ⟨he6,hB6⟩:=hR;subst he6;have hF:=bseqS hD hB6;have HE:=LH (HEnd1.out _ hF))
           | (go_at_call 78;with_reducible refine (HNx.out _ hDa).mono ?_;intro e w6 hR;obtain ⟨he6,hB6⟩:=hR;subst he6;have hF:=bseqS hDa hB6;have HQ:=LH (HNb.out _ hB6);have HE:=LH (HEnd2.out _ hF HQ.out);obtain ⟨u0,u1,u2,u3,u4,u5,u6⟩:=HQ.out.cells;obtain ⟨f0,f1,f2,f3,f4,f5,f6⟩:=HQ.out.frozens;unfold Ob.zero at u0 u1 u2 u3 u4 u5 u6;dsimp only at u0 u1 u2 u3 u4 u5 u6))
          all_goals go_wp2_with fail
          all_goals go_meet
          all_goals exact HE.out
         case rest =>
          obtain ⟨g,o',rfl,rfl,rfl,hT6,hB6⟩:=hcut;have HT6:=LH hT6;have HOa:=LH (HO.out.on hB6);have HSa:=LH (HS.out.on hB6);have HPb2:=LH (HPa.out.on hB6 HPa.out.lt);have HVa:=LH (HV.out.on hB6);have HBa:=LH (HB.out.trans (hB6.mono HB.out.size));have hgb3:=HGb.out;have HOn:=LH (HOa.out.set7 r1 r2 r3 r4 r5 r6 r7);have oth:∀bk,bk≠gb→((((((((wc.setCell ⟨gb,0,none⟩ (.int .i64 r1)).setCell ⟨gb,1,none⟩ (.int .i64 r2)).setCell ⟨gb,2,none⟩ (.int .i64 r3)).setCell ⟨gb,3,none⟩ (.int .i64 r4)).setCell ⟨gb,4,none⟩ (.int .i64 r5)).setCell ⟨gb,5,none⟩ (.int .i64 r6)).setCell ⟨gb,6,none⟩ (.int .i64 r7))).heap[bk]? = wc.heap[bk]? := fun bk hne=>by
           rw[blk_setCell_other _ _ _ _ hne,blk_setCell_other _ _ _ _ hne,blk_setCell_other _ _ _ _ hne,blk_setCell_other _ _ _ _ hne,blk_setCell_other _ _ _ _ hne,blk_setCell_other _ _ _ _ hne,blk_setCell_other _ _ _ _ hne]
          have HSn:Hid (S9Box (((((((wc.setCell ⟨gb,0,none⟩ (.int .i64 r1)).setCell ⟨gb,1,none⟩ (.int .i64 r2)).setCell ⟨gb,2,none⟩ (.int .i64 r3)).setCell ⟨gb,3,none⟩ (.int .i64 r4)).setCell ⟨gb,4,none⟩ (.int .i64 r5)).setCell ⟨gb,5,none⟩ (.int .i64 r6)).setCell ⟨gb,6,none⟩ (.int .i64 r7)) w.heap.size (.slice B nb cb)):=LH ((oth _ (by omega)).trans HSa.out);have HPn:Hid (PaBox (((((((wc.setCell ⟨gb,0,none⟩ (.int .i64 r1)).setCell ⟨gb,1,none⟩ (.int .i64 r2)).setCell ⟨gb,2,none⟩ (.int .i64 r3)).setCell ⟨gb,3,none⟩ (.int .i64 r4)).setCell ⟨gb,4,none⟩ (.int .i64 r5)).setCell ⟨gb,5,none⟩ (.int .i64 r6)).setCell ⟨gb,6,none⟩ (.int .i64 r7)) (w.heap.size+1) (.slice (some ⟨b,off,none⟩) nk q0) i):=LH ((oth _ (by omega)).trans HPb2.out);have HVn:Hid (VBox (((((((wc.setCell ⟨gb,0,none⟩ (.int .i64 r1)).setCell ⟨gb,1,none⟩ (.int .i64 r2)).setCell ⟨gb,2,none⟩ (.int .i64 r3)).setCell ⟨gb,3,none⟩ (.int .i64 r4)).setCell ⟨gb,4,none⟩ (.int .i64 r5)).setCell ⟨gb,5,none⟩ (.int .i64 r6)).setCell ⟨gb,6,none⟩ (.int .i64 r7)) (w.heap.size+1+1) Va.zero):=LH ((oth _ (by omega)).trans HVa.out);have HBn:=LH (below_set7 (g:=gb) HBa.out (by omega) (.int .i64 r1) (.int .i64 r2) (.int .i64 r3) (.int .i64 r4) (.int .i64 r5) (.int .i64 r6) (.int .i64 r7));obtain ⟨u0,u1,u2,u3,u4,u5,u6⟩:=HT6.out.cells;obtain ⟨y0,y1,y2,y3,y4,y5,y6⟩:=HOa.out.cells;obtain ⟨f0,f1,f2,f3,f4,f5,f6⟩:=HOa.out.frozens;dsimp only at u0 u1 u2 u3 u4 u5 u6 y0 y1 y2 y3 y4 y5 y6;have HPp:Hid (0≤P+(1+W)∧P+(1+W)≤((q+1:Nat):Int)*600000000):=LH (by have:=HPb.out;have:=HW0.out;omega);have HGq:Hid (goalO (srA ls) (ks.drop (q+1)) (c - (P+(1+W))) (⟨r1,r2,r3,r4,r5,r6,r7⟩,E)=T):=LH (by rw[show c - (P+(1+W))=c - P - (1+W) by omega];exact HG2.out)
          clear hT6 hB6 oth hgb3 w1 w2
          go_wp2_with fail
          go_roundw
          case rel=>exact ⟨q+1,⟨r1,r2,r3,r4,r5,r6,r7⟩,E,P+(1+W),rfl,rfl,by go_num,.inl ⟨by omega,HGq.out⟩,HPp.out,HGn.out,HOn.out,HSn.out,HPn.out,HVn.out,HBn.out⟩
          case measure=>simp[intOf];omega
        ·have i2:¬(q:Int)<(nk:Int):=by omega
         have hkb:=HKb.out;have hTz:T=(⟨o1,o2,o3,o4,o5,o6,o7⟩,0):=by
          have:=HGl2.out;rw[show ks.drop q=[] from List.drop_eq_nil_of_le (by rw[←HN.out];omega),goalO_stop _ _ _ (by rw[←HWe.out];exact hcs)] at this
          exact this.symm
         have HTz:=LH hTz;have HPp:Hid (0≤P+(1+W)∧P+(1+W)≤((q+1:Nat):Int)*600000000):=LH (by have:=HPb.out;have:=HW0.out;omega);clear hTz
         go_wp2_with fail
         go_roundw
         case rel=>exact ⟨q+1,⟨o1,o2,o3,o4,o5,o6,o7⟩,0,P+(1+W),rfl,rfl,by go_num,.inr ⟨by omega,HTz.out⟩,HPp.out,HGo.out,HO.out,HS.out,HPa.out,HV.out,HB.out⟩
         case measure=>simp[intOf];omega
      ·have he1:(e != 0)=true:=by simp[he]
       have hTe:=(goalO_bad (srA ls) (ks.drop q) (c - P) o e he).symm.trans hgl;obtain rfl:Z=(Va.zero,e):=HL2.out.trans (by rw[←hTe];exact if_pos he);clear hTe hgl;have HX:=LH (HV.out.set5 0 0 0 0 0);have HBX:=LH (below_val5 (g:=w.heap.size+1+1) HB.out (by omega) (.int .i64 0) (.int .i64 0) (.int .i64 0) (.int .i64 0) (.int .u64 0));obtain ⟨x0,x1,x2,x3,x4⟩:=HV.out.cells;obtain ⟨f0,f1,f2,f3,f4⟩:=HV.out.frozens;unfold Va.zero at x0 x1 x2 x3 x4;dsimp only at x0 x1 x2 x3 x4
       go_wp2_with fail
       clear x0 x1 x2 x3 x4;obtain ⟨x0,x1,x2,x3,x4⟩:=HX.out.cells;dsimp only at x0 x1 x2 x3 x4;refine bodyPost_ret (v:= .tuple #[.agg (cellsV ⟨0,0,0,0,0⟩),.int .i64 e]) ?_ rfl ⟨rfl,HBX.out⟩
       simp[results,Tryz.f43,go_sem,cellsV,x0,x1,x2,x3,x4]
     ·have i1:¬(q:Int)≤(nk:Int):=by omega
      have hTz:T=(o,0):=by
       rcases HGl.out with h | h
       ·omega
       ·exact h.2
      have hzz:Z=endV (srA ls) o i:=HL2.out.trans (by rw[hTz];exact if_neg (by simp));have HVl:=LH (HVal.out wa HB.out o HGo.out);rw[←hzz] at HVl;obtain ⟨o1,o2,o3,o4,o5,o6,o7⟩:=o;obtain ⟨⟨v1,v2,v3,v4,v5⟩,E⟩:=Z;unfold VaJ cellsV cellsO at HVl;dsimp only at HVl;obtain ⟨y0,y1,y2,y3,y4,y5,y6⟩:=HO.out.cells;dsimp only at y0 y1 y2 y3 y4 y5 y6;obtain ⟨s0,s1⟩:=HS.out.cells;have s2:=HS.out.cell2;clear hTz hzz HGl HL2
      go_wp2_with fail
      refine HVl.out.mono ?_
      intro e w5 hR;obtain ⟨he,hB5⟩:=hR;subst he;obtain ⟨w6,hw6⟩:∃w6,w6=w5.alloc (.cells #[.int .i64 v1,.int .i64 v2,.int .i64 v3,.int .i64 v4,.int .u64 v5] 54):=⟨_,rfl⟩;have hB6:Below w5.heap.size w5 w6:=by rw[hw6];exact (Below.refl _ _).alloc (Nat.le_refl _) _
      have HN6:Hid (VBox w6 w5.heap.size ⟨v1,v2,v3,v4,v5⟩):=LH (by rw[hw6];exact VBox.new w5 ⟨v1,v2,v3,v4,v5⟩);have HV:=LH (HV.out.on (bseqS hB5 hB6));have HB:=LH (bseqS HB.out (bseqS hB5 hB6));clear hB5 hB6 p0 p1 y0 y1 y2 y3 y4 y5 y6 s0 s1 s2;go_upto_region 23 with fail
      rw[←hw6];clear hw6;obtain ⟨u0,u1,u2,u3,u4⟩:=HN6.out.cells;dsimp only at u0 u1 u2 u3 u4;have HX:=LH (HV.out.set5 v1 v2 v3 v4 v5);have HBX:=LH (below_val5 (g:=w.heap.size+1+1) HB.out (by omega) (.int .i64 v1) (.int .i64 v2) (.int .i64 v3) (.int .i64 v4) (.int .u64 v5));obtain ⟨x0,x1,x2,x3,x4⟩:=HV.out.cells;obtain ⟨f0,f1,f2,f3,f4⟩:=HV.out.frozens;unfold Va.zero at x0 x1 x2 x3 x4;dsimp only at x0 x1 x2 x3 x4
      go_wp2_with fail
      clear x0 x1 x2 x3 x4;obtain ⟨x0,x1,x2,x3,x4⟩:=HX.out.cells;dsimp only at x0 x1 x2 x3 x4;refine bodyPost_ret (v:= .tuple #[.agg (cellsV ⟨v1,v2,v3,v4,v5⟩),.int .i64 E]) ?_ rfl ⟨rfl,HBX.out⟩
      simp[results,Tryz.f43,go_sem,cellsV,x0,x1,x2,x3,x4]
set_option maxHeartbeats 2000000 in
theorem rof_any (v:Value) (ls:List (List Int)) (sv:Value) (ks:List Int) (i c:Int) (w:World) (h:ArV w w.heap.size v ls) (hs:ls.length≤1000000000) (hu:AllU ls) (hsv:NumS .i64 w w.heap.size sv ks) (h64:All64 ks) (hi:In64 i) (hc:In64 c) :
  Calls Tryz.prog 22 #[v,.agg #[sv,.int .i64 i],.int .i64 c] w (VaJ (ofV ls ks i c) w):=by
 have HR:=LH (fun X (hX:Below w.heap.size w X)=>rright7_any v ls X (h.on hX) (by omega))
 have HWk:=LH (fun X (hX:Below w.heap.size w X) hf=>rswalk_any v ls sv ks i c X (h.on hX) hs hu hf (hsv.on hX) h64 hi hc)
 have HL:Hid (ofV ls ks i c=if fitsL (sizesL ls)=true then walkV (srA ls) ks i c else (Va.zero,1)):=LH rfl
 obtain ⟨Z,hZ⟩:∃Z,Z=ofV ls ks i c:=⟨_,rfl⟩;rw[←hZ] at HL ⊢;generalize walkV (srA ls) ks i c=T at *
 generalize fitsL (sizesL ls)=F at *
 obtain ⟨A,q,rfl⟩:=hsv.form rfl;obtain ⟨A2,q2,rfl⟩:=h.form rfl;generalize ks.length=nk at *
 generalize ls.length=n at *
 obtain ⟨W1,hW1⟩:∃W1,W1=(w.alloc (.cells #[.slice A nk q,.int .i64 i] 47)).alloc (.cells (cellsV Va.zero) 54):=⟨_,rfl⟩;obtain ⟨hb1,hb2,hB1,hs1⟩:=two_boxS w _ _ _ _ W1 hW1;have HP:Hid (PaBox W1 w.heap.size (.slice A nk q) i):=LH hb1;have HV1:Hid (VBox W1 (w.heap.size+1) Va.zero):=LH hb2;have HB1:=LH hB1;unfold cellsV Va.zero at hW1;dsimp only at hW1;clear hZ hb1 hb2 hB1 hs1 h hsv h64 hi hc hs hu;go_enter Tryz.func22,Tryz.ntmps22;go_upto_region 1 with fail
 rw[←hW1];clear hW1
 go_wp2_with fail
 refine (HR.out W1 HB1.out).mono ?_
 rintro e w2 ⟨rfl,hB2⟩;have HP2:=LH (HP.out.on hB2 HP.out.lt);have HV:=LH (HV1.out.on hB2);have HB:=LH (HB1.out.trans (hB2.mono HB1.out.size));clear hB2;cases F with
 | false =>
  obtain rfl:Z=(Va.zero,1):=HL.out.trans (if_neg (by decide));have HX:=LH (HV.out.set5 0 0 0 0 0);have HBX:=LH (below_val5 (g:=w.heap.size+1) HB.out (by omega) (.int .i64 0) (.int .i64 0) (.int .i64 0) (.int .i64 0) (.int .u64 0));obtain ⟨x0,x1,x2,x3,x4⟩:=HV.out.cells;obtain ⟨f0,f1,f2,f3,f4⟩:=HV.out.frozens;unfold Va.zero at x0 x1 x2 x3 x4;dsimp only at x0 x1 x2 x3 x4
  go_wp2_with fail
  clear x0 x1 x2 x3 x4;obtain ⟨x0,x1,x2,x3,x4⟩:=HX.out.cells;dsimp only at x0 x1 x2 x3 x4;refine bodyPost_ret (v:= .tuple #[.agg (cellsV ⟨0,0,0,0,0⟩),.int .i64 1]) ?_ rfl ⟨rfl,HBX.out⟩
  simp[results,Tryz.f22,go_sem,cellsV,x0,x1,x2,x3,x4]
 | true =>
  obtain rfl:Z=T:=HL.out.trans (if_pos rfl);have HW2:=LH (HWk.out w2 HB.out rfl);obtain ⟨⟨v1,v2,v3,v4,v5⟩,E⟩:=Z;unfold VaJ srcV cellsV at HW2;dsimp only at HW2;obtain ⟨p0,p1⟩:=HP2.out.cells;clear HL HWk
  go_wp2_with fail
  refine HW2.out.mono ?_
  intro e w5 hR;obtain ⟨he,hB5⟩:=hR;subst he;obtain ⟨w6,hw6⟩:∃w6,w6=w5.alloc (.cells #[.int .i64 v1,.int .i64 v2,.int .i64 v3,.int .i64 v4,.int .u64 v5] 54):=⟨_,rfl⟩;have hB6:Below w5.heap.size w5 w6:=by rw[hw6];exact (Below.refl _ _).alloc (Nat.le_refl _) _
  have HN6:Hid (VBox w6 w5.heap.size ⟨v1,v2,v3,v4,v5⟩):=LH (by rw[hw6];exact VBox.new w5 ⟨v1,v2,v3,v4,v5⟩);have HV:=LH (HV.out.on (bseqS hB5 hB6));have HB:=LH (bseqS HB.out (bseqS hB5 hB6));clear hB5 hB6 p0 p1;go_upto_region 4 with fail
  rw[←hw6];clear hw6;obtain ⟨u0,u1,u2,u3,u4⟩:=HN6.out.cells;dsimp only at u0 u1 u2 u3 u4;have HX:=LH (HV.out.set5 v1 v2 v3 v4 v5);have HBX:=LH (below_val5 (g:=w.heap.size+1) HB.out (by omega) (.int .i64 v1) (.int .i64 v2) (.int .i64 v3) (.int .i64 v4) (.int .u64 v5));obtain ⟨x0,x1,x2,x3,x4⟩:=HV.out.cells;obtain ⟨f0,f1,f2,f3,f4⟩:=HV.out.frozens;unfold Va.zero at x0 x1 x2 x3 x4;dsimp only at x0 x1 x2 x3 x4
  go_wp2_with fail
  clear x0 x1 x2 x3 x4;obtain ⟨x0,x1,x2,x3,x4⟩:=HX.out.cells;dsimp only at x0 x1 x2 x3 x4;refine bodyPost_ret (v:= .tuple #[.agg (cellsV ⟨v1,v2,v3,v4,v5⟩),.int .i64 E]) ?_ rfl ⟨rfl,HBX.out⟩
  simp[results,Tryz.f22,go_sem,cellsV,x0,x1,x2,x3,x4]
end Go.Proofs.YtmmlfnblodfjbaaGreatDoor
