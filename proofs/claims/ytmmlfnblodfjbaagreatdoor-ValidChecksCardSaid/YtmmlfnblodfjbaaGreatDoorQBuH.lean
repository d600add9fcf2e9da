/- Layer 8: the document's builder: lay of whatever tree; Build. -/
import Derived.Test.YtmmlfnblodfjbaaGreatDoorQBuRefG1
import Derived.Test.YtmmlfnblodfjbaaGreatDoorQBuRefG2
import Derived.Test.YtmmlfnblodfjbaaGreatDoorQBuRefG3
import Derived.Test.YtmmlfnblodfjbaaGreatDoorQBuRefG4
import Derived.Test.YtmmlfnblodfjbaaGreatDoorQBuA
import Derived.Test.YtmmlfnblodfjbaaGreatDoorQTdPlain
import Derived.Test.YtmmlfnblodfjbaaGreatDoorQRsA
set_option maxRecDepth 100000
namespace Go.Proofs.YtmmlfnblodfjbaaGreatDoor
open Go.RowKit Go.Deep
theorem rlay_any (sz:Nat) (hsz:sz≤4096):(m:Nat)→(t:Tr)→SizeOf.sizeOf t≤m→RLayC sz t
 | 0,.mk k z ws bs ks,hn=>by simp at hn
 | m+1,.mk k z ws bs ks,hn=>by
  intro left v n A c a f s i w P hPw hd hT hA hna hp hf;have ih:∀j,j<ks.length→RLayC sz (ks[j]?.getD Tr.nil):=fun j hj=>rlay_any sz hsz m _ (deep_kids hn hj)
  by_cases h0:k=0∨f=true
  ·exact rlay_none sz k z ws bs ks v n A c a f s i w P hPw h0 hT hA hna
  ·have hk:k≠0:=fun e=>h0 (.inl e)
   obtain rfl:f=false:=by
    cases f with
    | false=>rfl
    | true=>exact absurd (.inr rfl) h0
   obtain ⟨hH,hR⟩:=hf rfl
   by_cases hn0:needT (.mk k z ws bs ks)=0
   ·exact rlay_zero sz k z ws bs ks left v n A c a s i w P hPw hk hd hn0 hT hA hna hH hR hsz
   ·by_cases h1:s=a.length - 1
    ·by_cases h2:(a[a.length - 1]?.getD []).length+needT (.mk k z ws bs ks)≤sz
     ·exact rlay_some1 sz k z ws bs ks left v n A c a s i w P hPw hk hd hn0 hT hA hna hH hR hsz ih ⟨h1,h2⟩
     ·exact rlay_some2 sz k z ws bs ks left v n A c a s i w P hPw hk hd hn0 hT hA hna hH hR hsz ih ⟨h1,h2⟩
    ·by_cases h2:sz<(a[a.length - 1]?.getD []).length+needT (.mk k z ws bs ks)+1
     ·exact rlay_some3 sz k z ws bs ks left v n A c a s i w P hPw hk hd hn0 hT hA hna hH hR hsz ih ⟨h1,h2⟩
     ·exact rlay_some4 sz k z ws bs ks left v n A c a s i w P hPw hk hd hn0 hT hA hna hH hR hsz ih ⟨h1,h2⟩
theorem first_ar (w:World):ArP ((w.alloc (.cells #[.int .u64 0] 44)).alloc (.cells #[.slice (some ⟨w.heap.size,0,none⟩) 1 1] 31)) (fun b=>w.heap.size≤b∧b<((w.alloc (.cells #[.int .u64 0] 44)).alloc (.cells #[.slice (some ⟨w.heap.size,0,none⟩) 1 1] 31)).heap.size) (.slice (some ⟨w.heap.size+1,0,none⟩) 1 1) [[0]]:=by
 have h1:=one_in8 .u64 44 w 0;have hX0:(w.alloc (.cells #[.int .u64 0] 44)).heap[w.heap.size]? = some (.cells #[.int .u64 0] 44 (0,0)):=blk_alloc_new _ _;have hz:(w.alloc (.cells #[.int .u64 0] 44)).heap.size=w.heap.size+1:=World.size_alloc _ _;generalize w.alloc (.cells #[.int .u64 0] 44)=X at *
 have hB:Below X.heap.size X (X.alloc (.cells #[.slice (some ⟨w.heap.size,0,none⟩) 1 1] 31)):=(Below.refl _ _).alloc (Nat.le_refl _) _;have hzz:(X.alloc (.cells #[.slice (some ⟨w.heap.size,0,none⟩) 1 1] 31)).heap.size=X.heap.size+1:=World.size_alloc _ _;refine ⟨_,1,rfl,by simp,by omega,fun _=>⟨w.heap.size+1,0,rfl,⟨⟨by omega,by omega⟩,_,by rw[←hz];exact blk_alloc_new _ _⟩,fun j hj=> ?_⟩⟩
 obtain rfl:j=0:=by simp at hj;omega
 refine ⟨.slice (some ⟨w.heap.size,0,none⟩) 1 1,?_,⟨⟨_,1,rfl,by simp,by omega,fun _=>⟨w.heap.size,0,rfl,⟨Nat.le_refl _,by omega⟩,fun i hi=> ?_⟩⟩,fun _=>⟨_,_,_,_,rfl,⟨Nat.le_refl _,by omega⟩,_,(hB.block _ (by omega)).trans hX0⟩⟩⟩
 ·have:=cell_one_new X (.slice (some ⟨w.heap.size,0,none⟩) 1 1) 31 0 (.slice (some ⟨w.heap.size,0,none⟩) 1 1) rfl
  rwa [Addr.add_lit,hz] at this
 ·obtain ⟨A',c',e,_,_,hr⟩:=h1;cases e
  obtain ⟨b,off,ea,hb,hc⟩:=hr (by simp);cases ea
  exact (hB.cell (p:=⟨w.heap.size,0+i,none⟩) (by show w.heap.size<X.heap.size;omega)).trans (hc i hi)
theorem first_room {sz:Nat} (h:1≤sz):RoomA sz [[0]]:=by
 refine ⟨fun n hn=> ?_,by simp,by simp[lenS]⟩
 simp at hn
 omega
set_option maxHeartbeats 1000000 in
theorem rbuildP_any (t:Tr) (v:Value) (z:Int) (w:World) (h:TrV w w.heap.size t v) :
  Calls Tryz.prog 15 #[v,.int .i64 z] w fun e w'=>∃A n c,e= .returned (.tuple #[.slice A n c,.int .i64 (buildT t z).2])∧ArP w' (fun b=>w.heap.size≤b∧b<w'.heap.size) (.slice A n c) (buildT t z).1∧Below w.heap.size w w':=by
 have HR:=LH (fun X (hX:Below w.heap.size w X)=>rright8_any t v X (h.on hX))
 have hTX:=fun X (hX:Below w.heap.size w X)=>h.on hX
 have hbt:buildT t z=if z<1∨4096<z∨rightT t=false then ([],1) else if (lay z.toNat t ⟨[[0]],false⟩ 0 0).full=true then ([],24) else ((lay z.toNat t ⟨[[0]],false⟩ 0 0).a,0):=rfl
 have hd:rightT t=true→deepB t 32=true:=fun e=>e
 have hS:=fun (hz:1≤z∧z≤4096)=>rlay_any z.toNat (by omega) _ t (Nat.le_refl _)
 obtain ⟨T,hTt⟩:∃T,T=t:=⟨_,rfl⟩;obtain ⟨k,y,ws,bs,ks⟩:=t;obtain ⟨A1,c1,A2,c2,A3,c3,rfl,-⟩:=h.parts;rw[←hTt] at HR hTX hbt hd hS ⊢;clear h hTt;generalize ws.length=nw at *
 generalize bs.length=nb at *
 generalize ks.length=nk at *
 obtain ⟨W1,hW1⟩:∃W1,W1=w.alloc (.cells (cellsT k y (.slice A1 nw c1) (.slice A2 nb c2) (.slice A3 nk c3)) 34):=⟨_,rfl⟩;have hB1:Below w.heap.size w W1:=by rw[hW1];exact (Below.refl _ _).alloc (Nat.le_refl _) _
 have hT1:TBox W1 w.heap.size k y (.slice A1 nw c1) (.slice A2 nb c2) (.slice A3 nk c3):=by rw[hW1];exact TBox.new _ _ _ _ _ _
 have HB1:=LH hB1;have HT1:=LH hT1;obtain ⟨d0,d1,d2,d3,d4⟩:=hT1.cells;unfold cellsT at hW1 HR ⊢;have HTX:=LH hTX;unfold cellsT at HTX;clear hB1 hT1 hTX;have arg:buildT T z=([],1)→(z<1∨4096<z)→Calls Tryz.prog 15 #[.agg #[.int .i64 k,.int .i64 y,.slice A1 nw c1,.slice A2 nb c2,.slice A3 nk c3],.int .i64 z] w fun e w'=>∃A n c,e= .returned (.tuple #[.slice A n c,.int .i64 (buildT T z).2])∧ArP w' (fun b=>w.heap.size≤b∧b<w'.heap.size) (.slice A n c) (buildT T z).1∧Below w.heap.size w w':=fun hb hz=>by
  rw[hb];dsimp only;have HF:=LH (show ArP W1 (fun b=>w.heap.size≤b∧b<W1.heap.size) (.slice none 0 0) [] from ⟨none,0,rfl,by simp,by omega,fun h=>by simp at h⟩)
  clear hS hbt hd hb
  by_cases h1:z<1
  ·clear hz;go_enter Tryz.func15,Tryz.ntmps15;go_upto_region 1 with fail
   rw[←hW1];clear hW1
   go_wp2_with fail
   go_ret2;exact ⟨_,_,_,rfl,HF.out,HB1.out⟩
  ·have h2:(4096:Int)<z:=hz.resolve_left h1;clear hz;have i1:decide (z<1)=false:=decide_eq_false h1;go_enter Tryz.func15,Tryz.ntmps15;go_upto_region 1 with fail
   rw[←hW1];clear hW1
   go_wp2_with fail
   go_ret2;exact ⟨_,_,_,rfl,HF.out,HB1.out⟩
 by_cases hz:z<1∨4096<z
 ·exact arg (by rw[hbt,if_pos (by rcases hz with e | e;exact .inl e;exact .inr (.inl e))]) hz
 ·clear arg;have hz1:¬z<1:=fun e=>hz (.inl e)
  have hz2:¬(4096:Int)<z:=fun e=>hz (.inr e)
  have j1:decide (z<1)=false:=decide_eq_false hz1;have j2:decide ((4096:Int)<z)=false:=decide_eq_false hz2;cases hr:rightT T with
  | false =>
   rw[hr] at HR;have hb:buildT T z=([],1):=by rw[hbt,if_pos (.inr (.inr hr))]
   rw[hb];dsimp only;clear hS hbt hd hb hz hr;go_enter Tryz.func15,Tryz.ntmps15;go_upto_region 1 with fail
   rw[←hW1];clear hW1
   go_wp2_with fail
   refine (HR.out _ HB1.out).mono ?_
   rintro e w2 ⟨rfl,hB2⟩;have HB2:=LH (HB1.out.trans (hB2.mono HB1.out.size));clear hB2
   go_wp2_with fail
   go_ret2;exact ⟨_,_,_,rfl,⟨none,0,rfl,by simp,by omega,fun h=>by simp at h⟩,HB2.out⟩
  | true =>
   rw[hr] at HR;have hzb:1≤z∧z≤4096:=by omega
   obtain ⟨sz,rfl⟩:=Int.eq_ofNat_of_zero_le (show 0≤z by omega)
   have hLay:=hS hzb;rw[hbt,if_neg (by rw[hr];simp;omega)];have hd32:=hd hr;clear hS hbt hd hz hr;rw[Int.toNat_natCast] at hLay ⊢;unfold RLayC at hLay;have HLay:=LH (fun X (hX:Below w.heap.size w X) Y (hY:Y=(X.alloc (.cells #[.int .u64 0] 44)).alloc (.cells #[.slice (some ⟨X.heap.size,0,none⟩) 1 1] 31)) (hW:Below w.heap.size w Y)=>hLay 32 _ 1 (some ⟨X.heap.size+1,0,none⟩) 1 [[0]] false 0 0 Y (fun b=>w.heap.size≤b∧b<Y.heap.size) (fun b hb=>hb.2) hd32 (HTX.out Y hW) (by rw[hY];exact (first_ar X).mono (fun b hb=>⟨Nat.le_trans hX.size hb.1,hb.2⟩)) rfl (by omega) (fun _=>⟨⟨0,rfl⟩,first_room (by omega)⟩))
   obtain ⟨st,hst⟩:∃st,st=lay sz T ⟨[[0]],false⟩ 0 0:=⟨_,rfl⟩;rw[←hst] at HLay ⊢;unfold LayR at HLay;clear hLay hst hzb hd32;obtain ⟨a,f⟩:=st;dsimp only at HLay ⊢;cases f with
   | true =>
    rw[if_pos rfl];dsimp only;go_enter Tryz.func15,Tryz.ntmps15;go_upto_region 1 with fail
    rw[←hW1];clear hW1
    go_wp2_with fail
    refine (HR.out _ HB1.out).mono ?_
    rintro e w2 ⟨rfl,hB2⟩;have HB2:=LH (HB1.out.trans (hB2.mono HB1.out.size));have hT2:=HT1.out.on hB2;clear hB2 d0 d1 d2 d3 d4;obtain ⟨Y,hY⟩:∃Y,Y=(w2.alloc (.cells #[.int .u64 0] 44)).alloc (.cells #[.slice (some ⟨w2.heap.size,0,none⟩) 1 1] 31):=⟨_,rfl⟩;have hBY:Below w2.heap.size w2 Y:=by rw[hY];exact ((Below.refl _ _).alloc (Nat.le_refl _) _).alloc (by simp) _
    have hWY:=HB2.out.trans (hBY.mono HB2.out.size);have hCall:=HLay.out w2 HB2.out Y hY hWY;obtain ⟨d0,d1,d2,d3,d4⟩:=hT2.cells;obtain ⟨e0,e1,e2,e3,e4⟩:=(hT2.on hBY).cells;rw[hY] at hCall e0 e1 e2 e3 e4;have HCall:=LH hCall;have HWY:=LH hWY;have HY:=LH hY;clear hCall hWY hBY hT2 hY
    go_wp2_with fail
    refine HCall.out.mono ?_
    rintro e w3 ⟨A',n',c',rfl,hAr,-,hB3⟩;rw[←HY.out] at hAr hB3;have HB3:=LH (HWY.out.trans (hB3.mono HWY.out.size));have hV:ArP w3 (fun b=>w.heap.size≤b∧b<w3.heap.size) _ _:=hAr.mono (fun b hb=>by
     have h1:=HWY.out.size;have h2:=hB3.size
     rcases hb with hb | hb
     ·exact ⟨hb.1,Nat.lt_of_lt_of_le hb.2 h2⟩
     ·exact ⟨Nat.le_trans h1 hb.1,hb.2⟩)
    have HV:=LH hV;clear hAr hB3 hV
    go_wp2_with fail
    go_ret2;exact ⟨_,_,_,rfl,⟨none,0,rfl,by simp,by omega,fun h=>by simp at h⟩,HB3.out.alloc HB3.out.size _⟩
   | false =>
    rw[if_neg (by decide)];dsimp only;go_enter Tryz.func15,Tryz.ntmps15;go_upto_region 1 with fail
    rw[←hW1];clear hW1
    go_wp2_with fail
    refine (HR.out _ HB1.out).mono ?_
    rintro e w2 ⟨rfl,hB2⟩;have HB2:=LH (HB1.out.trans (hB2.mono HB1.out.size));have hT2:=HT1.out.on hB2;clear hB2 d0 d1 d2 d3 d4;obtain ⟨Y,hY⟩:∃Y,Y=(w2.alloc (.cells #[.int .u64 0] 44)).alloc (.cells #[.slice (some ⟨w2.heap.size,0,none⟩) 1 1] 31):=⟨_,rfl⟩;have hBY:Below w2.heap.size w2 Y:=by rw[hY];exact ((Below.refl _ _).alloc (Nat.le_refl _) _).alloc (by simp) _
    have hWY:=HB2.out.trans (hBY.mono HB2.out.size);have hCall:=HLay.out w2 HB2.out Y hY hWY;obtain ⟨d0,d1,d2,d3,d4⟩:=hT2.cells;obtain ⟨e0,e1,e2,e3,e4⟩:=(hT2.on hBY).cells;rw[hY] at hCall e0 e1 e2 e3 e4;have HCall:=LH hCall;have HWY:=LH hWY;have HY:=LH hY;clear hCall hWY hBY hT2 hY
    go_wp2_with fail
    refine HCall.out.mono ?_
    rintro e w3 ⟨A',n',c',rfl,hAr,-,hB3⟩;rw[←HY.out] at hAr hB3;have HB3:=LH (HWY.out.trans (hB3.mono HWY.out.size));have hV:ArP w3 (fun b=>w.heap.size≤b∧b<w3.heap.size) _ _:=hAr.mono (fun b hb=>by
     have h1:=HWY.out.size;have h2:=hB3.size
     rcases hb with hb | hb
     ·exact ⟨hb.1,Nat.lt_of_lt_of_le hb.2 h2⟩
     ·exact ⟨Nat.le_trans h1 hb.1,hb.2⟩)
    have HV:=LH hV;clear hAr hB3 hV
    go_wp2_with fail
    go_ret2;exact ⟨_,_,_,rfl,(HV.out.keep (fun b hb=>Below.heap_alloc _ _ _ hb.2)).mono (fun b hb=>⟨hb.1,by rw[World.size_alloc];omega⟩),HB3.out.alloc HB3.out.size _⟩
theorem rbuild_any (t:Tr) (v:Value) (z:Int) (w:World) (h:TrV w w.heap.size t v) :
  Calls Tryz.prog 15 #[v,.int .i64 z] w fun e w'=>∃A n c,e= .returned (.tuple #[.slice A n c,.int .i64 (buildT t z).2])∧ArV w' w'.heap.size (.slice A n c) (buildT t z).1∧Below w.heap.size w w' :=
 (rbuildP_any t v z w h).mono (fun e w' hr=>by
  obtain ⟨A,n,c,e1,h1,h2⟩:=hr;exact ⟨A,n,c,e1,h1.arV (fun b hb=>hb.2),h2⟩)
theorem PZBox.setF1 {w:World} {g:Nat} {p:Pt} (h:PZBox w g p) (x:Int):PZBox (w.setCell ⟨g,1,none⟩ (.int .i64 x)) g {p with off:=x}:=by
 unfold PZBox cellsP at *
 simp[World.setCell,Array.getElem?_modify,h]
theorem PZBox.setF2 {w:World} {g:Nat} {p:Pt} (h:PZBox w g p) (x:Int):PZBox (w.setCell ⟨g,2,none⟩ (.int .i64 x)) g {p with data:=x}:=by
 unfold PZBox cellsP at *
 simp[World.setCell,Array.getElem?_modify,h]
theorem PZBox.setF3 {w:World} {g:Nat} {p:Pt} (h:PZBox w g p) (x:Int):PZBox (w.setCell ⟨g,3,none⟩ (.int .i64 x)) g {p with ptrs:=x}:=by
 unfold PZBox cellsP at *
 simp[World.setCell,Array.getElem?_modify,h]
theorem PZBox.setF4 {w:World} {g:Nat} {p:Pt} (h:PZBox w g p) (x:Int):PZBox (w.setCell ⟨g,4,none⟩ (.int .i64 x)) g {p with size:=x}:=by
 unfold PZBox cellsP at *
 simp[World.setCell,Array.getElem?_modify,h]
theorem PZBox.setF5 {w:World} {g:Nat} {p:Pt} (h:PZBox w g p) (x:Int):PZBox (w.setCell ⟨g,5,none⟩ (.int .i64 x)) g {p with count:=x}:=by
 unfold PZBox cellsP at *
 simp[World.setCell,Array.getElem?_modify,h]
theorem PZBox.setF6 {w:World} {g:Nat} {p:Pt} (h:PZBox w g p) (x:Int):PZBox (w.setCell ⟨g,6,none⟩ (.int .i64 x)) g {p with seg:=x}:=by
 unfold PZBox cellsP at *
 simp[World.setCell,Array.getElem?_modify,h]
theorem PZBox.setF7 {w:World} {g:Nat} {p:Pt} (h:PZBox w g p) (x:Bool):PZBox (w.setCell ⟨g,7,none⟩ (.bool x)) g {p with dbl:=x}:=by
 unfold PZBox cellsP at *
 simp[World.setCell,Array.getElem?_modify,h]
theorem cells_set {w:World} {T g:Nat} (h:CellsT w T g) (b i:Nat) (u:Value):CellsT (w.setCell ⟨b,i,none⟩ u) T g:=by
 obtain ⟨cur,hc⟩:=h
 by_cases e:b=g
 ·subst e;exact ⟨_,heap_setCell_same _ b i _ _ u hc⟩
 ·exact ⟨cur,(blk_setCell_other _ _ _ _ (fun x=>e x.symm)).trans hc⟩
theorem cells_frozen {w:World} {T g:Nat} (h:CellsT w T g) (i:Nat):w.frozen? ⟨g,i,none⟩=false:=by
 obtain ⟨cur,hc⟩:=h
 simp[World.frozen?,hc]
theorem cell_set {w:World} {T g:Nat} (h:CellsT w T g) (i j:Nat) (u:Value) {v:Value} (hj:w.cell? ⟨g,j,none⟩=some v):(w.setCell ⟨g,i,none⟩ u).cell? ⟨g,j,none⟩=some (if i=j then u else v):=by
 obtain ⟨cur,hc⟩:=h;have h2:=heap_setCell_same _ g i _ _ u hc;unfold World.cell? at hj ⊢;dsimp only at hj ⊢;rw[hc] at hj;rw[h2];dsimp only at hj ⊢
 by_cases e:i=j
 ·subst e;rw[if_pos rfl];have hlt:i<cur.size:=(Array.getElem?_eq_some_iff.1 hj).1
  simp[hlt]
 ·rw[if_neg e,Array.getElem?_setIfInBounds_ne e];exact hj
theorem numT_set {w:World} {P:Nat→Prop} {v:Value} {l:List Int} {g i:Nat} {x:Int} (h:NumT w P v l) (hg:CellsT w 44 g) (hx:0≤x∧x≤18446744073709551615) (hs:Sma x) (hu:∀y∈l,0≤y∧y≤18446744073709551615) (hw:∀y∈l,Sma y) :
  ∃l',l'.length=l.length∧NumT (w.setCell ⟨g,i,none⟩ (.int .u64 x)) P v l'∧(∀y∈l',0≤y∧y≤18446744073709551615)∧(∀y∈l',Sma y):=by
 obtain ⟨⟨A,c,rfl,h1,h2,hr⟩,ht⟩:=h
 by_cases hp:0<l.length
 ·obtain ⟨b,off,rfl,hb,hc⟩:=hr hp;obtain ⟨g',off',n',c',e,hg',hct⟩:=ht hp;cases e
  by_cases e:b=g
  ·subst e;have hat:∀(l':List Int),(∃k,l'=(List.range l.length).map k∧∀j,j<l.length→k j=if i=off+j then x else l[j]?.getD 0)→(∀j,j<l.length→l'[j]?.getD 0=if i=off+j then x else l[j]?.getD 0):=by
    rintro l' ⟨k,rfl,hk⟩ j hj;rw[List.getElem?_map,List.getElem?_range hj];exact hk j hj
   refine ⟨(List.range l.length).map (fun j=>if i=off+j then x else l[j]?.getD 0),by simp,⟨⟨_,c,by simp,by simpa using h1,h2,fun _=>⟨b,off,rfl,hb,fun j hj=> ?_⟩⟩,fun _=>⟨b,off,_,c,rfl,hb,cells_set hct _ _ _⟩⟩,fun y hy=> ?_,fun y hy=> ?_⟩
   ·have hj':j<l.length:=by simpa using hj
    rw[cell_set hct i (off+j) _ (hc j hj'),hat _ ⟨_,rfl,fun _ _=>rfl⟩ j hj']
    split <;> rfl
   ·obtain ⟨j,hj,rfl⟩:=List.mem_map.1 hy;have hj':=List.mem_range.1 hj
    split
    ·exact hx
    ·rw[List.getElem?_eq_getElem hj'];exact hu _ (List.getElem_mem hj')
   ·obtain ⟨j,hj,rfl⟩:=List.mem_map.1 hy;have hj':=List.mem_range.1 hj
    split
    ·exact hs
    ·rw[List.getElem?_eq_getElem hj'];exact hw _ (List.getElem_mem hj')
  ·have hk:(w.setCell ⟨g,i,none⟩ (.int .u64 x)).heap[b]? = w.heap[b]? := blk_setCell_other _ _ _ _ e;refine ⟨l,rfl,⟨⟨_,c,rfl,h1,h2,fun _=>⟨b,off,rfl,hb,fun j hj=>(cell_same hk _).trans (hc j hj)⟩⟩,fun _=>⟨b,off,_,c,rfl,hb,hct.same hk⟩⟩,hu,hw⟩
 ·exact ⟨l,rfl,⟨⟨A,c,rfl,h1,h2,fun hq=>absurd hq hp⟩,fun hq=>absurd hq hp⟩,hu,hw⟩
def BenA (X:World) (P:Nat→Prop) (v:Value) (lens:List Nat):Prop:=∃ls,ArP X P v ls∧ls.map List.length=lens∧AllU10 ls∧AllW ls
theorem BenA.keep {X Y:World} {P:Nat→Prop} {v:Value} {lens:List Nat} (h:BenA X P v lens) (hk:∀b,P b→Y.heap[b]? = X.heap[b]?):BenA Y P v lens:=by
 obtain ⟨ls,h1,h2⟩:=h;exact ⟨ls,h1.keep hk,h2⟩
theorem ben_at {X:World} {P:Nat→Prop} {A:Option Addr} {c:Nat} {lens:List Nat} (h:BenA X P (.slice A lens.length c) lens) {s:Nat} (hs:s<lens.length) :
  ∃b off sA q,A=some ⟨b,off,none⟩∧P b∧X.cell? ⟨b,off+s,none⟩=some (.slice sA (lens[s]?.getD 0) q)∧(∀at_,at_<lens[s]?.getD 0→∃g o y,sA=some ⟨g,o,none⟩∧P g∧X.cell? ⟨g,o+at_,none⟩=some (.int .u64 y)∧X.frozen? ⟨g,o+at_,none⟩=false ∧
   ∀x,(0≤x∧x≤18446744073709551615)→Sma x→BenA (X.setCell ⟨g,o+at_,none⟩ (.int .u64 x)) P (.slice A lens.length c) lens):=by
 obtain ⟨ls,⟨A',c',e,hc,hm,hr⟩,hl,hu,hw⟩:=h;have hll:ls.length=lens.length:=by rw[←hl,List.length_map]
 have hls:∀j,lens[j]?.getD 0=(ls[j]?.getD []).length:=fun j=>by
  rw[←hl,List.getElem?_map];cases ls[j]? <;> rfl
 obtain ⟨rfl,-,rfl⟩:A=A'∧lens.length=ls.length∧c=c':=by
  injection e with e1 e2 e3
  exact ⟨e1,e2,e3⟩
 obtain ⟨b,off,rfl,⟨hb,hbt⟩,hcell⟩:=hr (by omega);obtain ⟨sv,h1,⟨⟨sA,q,rfl,k1,k2,kr⟩,kt⟩⟩:=hcell s (by omega);refine ⟨b,off,sA,q,rfl,hb,by rw[hls];exact h1,fun at_ hat=> ?_⟩
 rw[hls] at hat;obtain ⟨g,o,rfl,hg,hgc⟩:=kr (by omega);obtain ⟨g',o',n',q',e2,hg',hgt⟩:=kt (by omega);cases e2
 refine ⟨g,o,_,rfl,hg,hgc at_ hat,cells_frozen hgt _,fun x hx hsm=> ?_⟩
 have hne:b≠g:=by
  rintro rfl;obtain ⟨c1,e1⟩:=hbt;obtain ⟨c2,e2⟩:=hgt;rw[e1] at e2
  simp at e2
 have hkb:(X.setCell ⟨g,o+at_,none⟩ (.int .u64 x)).heap[b]? = X.heap[b]? := blk_setCell_other _ _ _ _ hne;have hex:∀j,∃l',j<ls.length→l'.length=(ls[j]?.getD []).length∧(∃sj,(X.setCell ⟨g,o+at_,none⟩ (.int .u64 x)).cell? ⟨b,off+j,none⟩=some sj∧NumT (X.setCell ⟨g,o+at_,none⟩ (.int .u64 x)) P sj l')∧(∀y∈l',0≤y∧y≤18446744073709551615)∧(∀y∈l',Sma y):=fun j=>by
  by_cases hj:j<ls.length
  ·obtain ⟨sj,j1,j2⟩:=hcell j hj;have hmem:ls[j]?.getD []∈ls:=by
    rw[List.getElem?_eq_getElem hj];exact List.getElem_mem hj
   obtain ⟨l',m1,m2,m3,m4⟩:=numT_set (g:=g) (i:=o+at_) j2 hgt hx hsm (hu _ hmem) (hw _ hmem);exact ⟨l',fun _=>⟨m1,⟨sj,(cell_same hkb _).trans j1,m2⟩,m3,m4⟩⟩
  ·exact ⟨[],fun h=>absurd h hj⟩
 have hmk:∃ls':List (List Int),ls'.length=ls.length∧∀j,j<ls.length→(ls'[j]?.getD []).length=(ls[j]?.getD []).length∧(∃sj,(X.setCell ⟨g,o+at_,none⟩ (.int .u64 x)).cell? ⟨b,off+j,none⟩=some sj∧NumT (X.setCell ⟨g,o+at_,none⟩ (.int .u64 x)) P sj (ls'[j]?.getD []))∧(∀y∈ls'[j]?.getD [],0≤y∧y≤18446744073709551615)∧(∀y∈ls'[j]?.getD [],Sma y):=by
  refine ⟨(List.range ls.length).map (fun j=>Classical.choose (hex j)),by simp,fun j hj=> ?_⟩
  rw[List.getElem?_map,List.getElem?_range hj];exact Classical.choose_spec (hex j) hj
 obtain ⟨ls',p1,p2⟩:=hmk;refine ⟨ls',⟨_,c,by rw[p1,hll],by rw[p1];exact hc,hm,fun _=>⟨b,off,rfl,⟨hb,hbt.same hkb⟩,fun j hj=>(p2 j (by omega)).2.1⟩⟩,?_,fun l hl2=> ?_,fun l hl2=> ?_⟩
 ·rw[←hl];refine List.ext_getElem? (fun j=> ?_)
  rw[List.getElem?_map,List.getElem?_map]
  by_cases hj:j<ls.length
  ·have:=(p2 j hj).1;rw[List.getElem?_eq_getElem hj,List.getElem?_eq_getElem (by omega)] at this ⊢;exact congrArg some this
  ·rw[List.getElem?_eq_none (by omega),List.getElem?_eq_none (by omega)]
 ·obtain ⟨j,hj,rfl⟩:=List.getElem_of_mem hl2;have:=(p2 j (by omega)).2.2.1;rw[List.getElem?_eq_getElem hj] at this;exact this
 ·obtain ⟨j,hj,rfl⟩:=List.getElem_of_mem hl2;have:=(p2 j (by omega)).2.2.2;rw[List.getElem?_eq_getElem hj] at this;exact this
end Go.Proofs.YtmmlfnblodfjbaaGreatDoor
