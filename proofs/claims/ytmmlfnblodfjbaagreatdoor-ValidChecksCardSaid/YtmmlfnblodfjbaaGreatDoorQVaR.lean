/- Layer 11, the document: Check, Canon, Equal. -/
import Derived.Test.YtmmlfnblodfjbaaGreatDoorQVaP
import Derived.Test.YtmmlfnblodfjbaaGreatDoorQTnD
import Derived.Test.YtmmlfnblodfjbaaGreatDoorQTaA
import Derived.Test.YtmmlfnblodfjbaaGreatDoorQBuA
import Derived.Test.YtmmlfnblodfjbaaGreatDoorQBuH
import Derived.Deep.RegionHeldLaw
import Derived.Test.YtmmlfnblodfjbaaGreatDoorQVaK
import Derived.Test.YtmmlfnblodfjbaaGreatDoorQArG
import Derived.Test.YtmmlfnblodfjbaaGreatDoorQAr
set_option maxRecDepth 100000
namespace Go.Proofs.YtmmlfnblodfjbaaGreatDoor
open Go.RowKit Go.Deep
set_option maxHeartbeats 2000000 in
theorem rcheck11_any (v:Value) (ls:List (List Int)) (w:World) (h:ArV w w.heap.size v ls) (hl:ls.length≤10000000000000) (hu:AllU ls) :
  Calls Tryz.prog 31 #[v] w fun e w'=>e= .returned (.int .i64 (checkT ls))∧Below w.heap.size w w':=by
 have HR:=LH (rdecode_anyB v ls w h hl hu);have hC:checkT ls=if (decodeT ls).2≠0 then (decodeT ls).2 else if rightT (decodeT ls).1=true then 0 else 23:=rfl
 rw[hC];clear hC;obtain ⟨Z,hZ⟩:∃Z,Z=decodeT ls:=⟨_,rfl⟩;rw[←hZ] at HR ⊢;have HRt:=LH (fun X u (hu:TrV X X.heap.size Z.1 u)=>rright8_any Z.1 u X hu)
 obtain ⟨A,q,rfl⟩:=h.form rfl;generalize ls.length=m at *
 clear hZ h hl hu
 by_cases hz:Z.2=0
 ·rw[if_neg (fun e=>e hz)]
  obtain ⟨V,hV⟩:∃V:Int,V=if rightT Z.1=true then 0 else 23:=⟨_,rfl⟩
  rw[←hV];have HV:=LH hV;clear hV;unfold TrED at HR;rw[hz] at HR;clear hz;go_enter Tryz.func31,Tryz.ntmps31
  go_wp2_with fail
  refine HR.out.mono ?_
  intro e w4 hR;obtain ⟨k2,q2,B1,m1,d1,B2,m2,d2,B3,m3,d3,he,hT,hB4⟩:=hR;subst he;dsimp only;unfold cellsT;obtain ⟨w5,hw5⟩:∃w5,w5=w4.alloc (.cells #[.int .i64 k2,.int .i64 q2,.slice B1 m1 d1,.slice B2 m2 d2,.slice B3 m3 d3] 34):=⟨_,rfl⟩;have hB5:Below w4.heap.size w4 w5:=by rw[hw5];exact (Below.refl _ _).alloc (Nat.le_refl _) _
  have HX5:Hid (TBox w5 w4.heap.size k2 q2 (.slice B1 m1 d1) (.slice B2 m2 d2) (.slice B3 m3 d3)):=LH (by rw[hw5];exact TBox.new _ _ _ _ _ _);have HB5:=LH (bseq8 hB4 hB5);have hC:=HRt.out w5 _ ((TrP.trV (fun b hb=>hb.2) _ _ hT).on hB5)
  unfold cellsT at hC;have HC:=LH hC;generalize rightT Z.1=R at *
  clear hT hB4 hB5 hC HRt HR;go_upto_region 2 with fail
  rw[←hw5];clear hw5;obtain ⟨x0,x1,x2,x3,x4⟩:=HX5.out.cells
  go_wp2_with fail
  refine HC.out.mono ?_
  rintro e w6 ⟨rfl,hB6⟩;have HB6:=LH (bseq8 HB5.out hB6);clear hB6 x0 x1 x2 x3 x4;cases R with
  | true =>
   obtain rfl:V=0:=by rw[HV.out,if_pos rfl]
   go_wp2_with fail
   go_ret;exact ⟨rfl,HB6.out⟩
  | false =>
   obtain rfl:V=23:=by rw[HV.out,if_neg (by decide)]
   go_wp2_with fail
   go_ret;exact ⟨rfl,HB6.out⟩
 ·rw[if_pos hz];have hz1:(Z.2 != 0)=true:=by simp[hz]
  unfold TrED at HR;clear HRt hz;generalize Z.2=E at *
  generalize Z.1=T at *
  go_enter Tryz.func31,Tryz.ntmps31
  go_wp2_with fail
  refine HR.out.mono ?_
  intro e w4 hR;obtain ⟨k2,q2,B1,m1,d1,B2,m2,d2,B3,m3,d3,he,hT,hB4⟩:=hR;subst he;unfold cellsT;have HB5:=LH (hB4.alloc hB4.size (.cells #[.int .i64 k2,.int .i64 q2,.slice B1 m1 d1,.slice B2 m2 d2,.slice B3 m3 d3] 34));clear hT hB4 HR
  go_wp2_with fail
  go_ret;exact ⟨rfl,HB5.out⟩
set_option maxHeartbeats 2000000 in
theorem rcanon11_any (v:Value) (ls:List (List Int)) (w:World) (h:ArV w w.heap.size v ls) (hl:ls.length≤10000000000000) (hu:AllU ls) :
  Calls Tryz.prog 30 #[v] w fun e w'=>∃A n c,e= .returned (.tuple #[.slice A n c,.int .i64 (canonT ls).2])∧ArV w' w'.heap.size (.slice A n c) (canonT ls).1∧Below w.heap.size w w':=by
 have HCk:=LH (rcheck11_any v ls w h hl hu);have HR:=LH (fun X (hX:Below w.heap.size w X)=>rdecode_anyB v ls X (h.on hX) hl hu)
 have hC:canonT ls=if checkT ls≠0 then ([],checkT ls) else buildT (decodeT ls).1 4096:=rfl
 rw[hC];clear hC;generalize checkT ls=K at *
 obtain ⟨Z,hZ⟩:∃Z,Z=decodeT ls:=⟨_,rfl⟩;rw[←hZ] at HR ⊢;have HBd:=LH (fun X u (hu:TrV X X.heap.size Z.1 u)=>rbuild_any Z.1 u 4096 X hu)
 obtain ⟨A,q,rfl⟩:=h.form rfl;generalize ls.length=m at *
 clear hZ h hl hu
 by_cases hz:K=0
 ·subst hz;rw[if_neg (fun e=>e rfl)]
  unfold TrED at HR;generalize buildT Z.1 4096=Y at *
  go_enter Tryz.func30,Tryz.ntmps30
  go_wp2_with fail
  refine HCk.out.mono ?_
  rintro e w2 ⟨rfl,hB2⟩;have HB2:=LH hB2;clear hB2
  go_wp2_with fail
  refine (HR.out w2 HB2.out).mono ?_
  intro e w4 hR;obtain ⟨k2,q2,B1,m1,d1,B2,m2,d2,B3,m3,d3,he,hT,hB4⟩:=hR;subst he;unfold cellsT;obtain ⟨w5,hw5⟩:∃w5,w5=w4.alloc (.cells #[.int .i64 k2,.int .i64 q2,.slice B1 m1 d1,.slice B2 m2 d2,.slice B3 m3 d3] 34):=⟨_,rfl⟩;have hB5:Below w4.heap.size w4 w5:=by rw[hw5];exact (Below.refl _ _).alloc (Nat.le_refl _) _
  have HX5:Hid (TBox w5 w4.heap.size k2 q2 (.slice B1 m1 d1) (.slice B2 m2 d2) (.slice B3 m3 d3)):=LH (by rw[hw5];exact TBox.new _ _ _ _ _ _);have HB5:=LH (bseq8 HB2.out (bseq8 hB4 hB5));have hC:=HBd.out w5 _ ((TrP.trV (fun b hb=>hb.2) _ _ hT).on hB5)
  unfold cellsT at hC;have HC:=LH hC;generalize Z.2=E at *
  clear hT hB4 hB5 hC HBd HR HCk;go_upto_region 5 with fail
  rw[←hw5];clear hw5;obtain ⟨x0,x1,x2,x3,x4⟩:=HX5.out.cells
  go_wp2_with fail
  with_reducible refine HC.out.mono ?_
  rintro e w6 ⟨Aa,na,ca,rfl,ha,hB6⟩;have HA:=LH ha;have HB6:=LH (bseq8 HB5.out hB6);clear hB6 ha x0 x1 x2 x3 x4
  go_wp2_with fail
  go_ret2;exact ⟨_,_,_,rfl,HA.out,HB6.out⟩
 ·rw[if_pos hz];have hz1:(K != 0)=true:=by simp[hz]
  clear HR HBd hz;go_enter Tryz.func30,Tryz.ntmps30
  go_wp2_with fail
  refine HCk.out.mono ?_
  rintro e w2 ⟨rfl,hB2⟩;have HB2:=LH hB2;clear hB2
  go_wp2_with fail
  go_ret2;exact ⟨_,_,_,rfl,(OwnA.nil _ 0).arV,HB2.out⟩
set_option maxHeartbeats 4000000 in
theorem requal11_any (v u:Value) (a b:List (List Int)) (w:World) (ha:ArV w w.heap.size v a) (hb:ArV w w.heap.size u b) (la:a.length≤10000000000000) (lb:b.length≤10000000000000) (ua:AllU a) (ub:AllU b) :
  Calls Tryz.prog 32 #[v,u] w fun e w'=>e= .returned (.bool (equalT a b))∧Below w.heap.size w w':=by
 have HCa:=LH (fun X (hX:Below w.heap.size w X)=>rcheck11_any v a X (ha.on hX) la ua)
 have HCb:=LH (fun X (hX:Below w.heap.size w X)=>rcheck11_any u b X (hb.on hX) lb ub)
 have HRa:=LH (fun X (hX:Below w.heap.size w X)=>rdecode_anyB v a X (ha.on hX) la ua)
 have HRb:=LH (fun X (hX:Below w.heap.size w X)=>rdecode_anyB u b X (hb.on hX) lb ub)
 have hC:equalT a b=(decide (checkT a=0) && (decide (checkT b=0) && sameT (decodeT a).1 (decodeT b).1)):=rfl;obtain ⟨Q,hQ⟩:∃Q,Q=equalT a b:=⟨_,rfl⟩;rw[←hQ] at hC ⊢;obtain ⟨Z,hZ⟩:∃Z,Z=decodeT a:=⟨_,rfl⟩;obtain ⟨Y,hY⟩:∃Y,Y=decodeT b:=⟨_,rfl⟩;rw[←hZ] at HRa hC;rw[←hY] at HRb hC;have HSm:=LH (fun X t x (ht:TrV X X.heap.size Z.1 t) (hx:TrV X X.heap.size Y.1 x)=>rsame8_any Z.1 Y.1 t x X ht hx)
 generalize sameT Z.1 Y.1=S at *
 generalize checkT a=Ka at *
 generalize checkT b=Kb at *
 have HQ:=LH hC;obtain ⟨A,q,rfl⟩:=ha.form rfl;obtain ⟨A',q',rfl⟩:=hb.form rfl;generalize a.length=m at *
 generalize b.length=m' at *
 clear hZ hY hQ hC ha hb la lb ua ub;unfold TrED at HRa HRb;go_enter Tryz.func32,Tryz.ntmps32
 go_wp2_with fail
 refine (HRa.out w (Below.refl _ _)).mono ?_
 intro e w4 hR;obtain ⟨k2,q2,B1,m1,d1,B2,m2,d2,B3,m3,d3,he,hT,hB4⟩:=hR;subst he;unfold cellsT;obtain ⟨w5,hw5⟩:∃w5,w5=w4.alloc (.cells #[.int .i64 k2,.int .i64 q2,.slice B1 m1 d1,.slice B2 m2 d2,.slice B3 m3 d3] 34):=⟨_,rfl⟩;have hB5:Below w4.heap.size w4 w5:=by rw[hw5];exact (Below.refl _ _).alloc (Nat.le_refl _) _
 have HX5:Hid (TBox w5 w4.heap.size k2 q2 (.slice B1 m1 d1) (.slice B2 m2 d2) (.slice B3 m3 d3)):=LH (by rw[hw5];exact TBox.new _ _ _ _ _ _);have HT5:=LH ((TrP.trV (fun b hb=>hb.2) _ _ hT).on hB5)
 have HB5:=LH (bseq8 hB4 hB5);clear hT hB4 hB5;go_upto_region 2 with fail
 rw[←hw5];clear hw5
 go_wp2_with fail
 refine (HRb.out w5 HB5.out).mono ?_
 intro e w6 hR;obtain ⟨k4,q4,C1,n1,e1,C2,n2,e2,C3,n3,e3,he,hT,hB6⟩:=hR;subst he;unfold cellsT;obtain ⟨w7,hw7⟩:∃w7,w7=w6.alloc (.cells #[.int .i64 k4,.int .i64 q4,.slice C1 n1 e1,.slice C2 n2 e2,.slice C3 n3 e3] 34):=⟨_,rfl⟩;have hB7:Below w6.heap.size w6 w7:=by rw[hw7];exact (Below.refl _ _).alloc (Nat.le_refl _) _
 have HX7:Hid (TBox w7 w6.heap.size k4 q4 (.slice C1 n1 e1) (.slice C2 n2 e2) (.slice C3 n3 e3)):=LH (by rw[hw7];exact TBox.new _ _ _ _ _ _);have HT7:=LH ((TrP.trV (fun b hb=>hb.2) _ _ hT).on hB7)
 have HD7:=LH (bseq8 hB6 hB7);have HB7:=LH (bseq8 HB5.out HD7.out);have HX57:=LH (HX5.out.on HD7.out);have HT57:=LH (HT5.out.on HD7.out);clear hT hB6 hB7;have HSm7:=LH (fun X (hX:Below w7.heap.size w7 X)=>HSm.out X _ _ (HT57.out.on hX) (HT7.out.on hX))
 have HCa7:=LH (fun X (hX:Below w7.heap.size w7 X)=>HCa.out X (bseq8 HB7.out hX))
 have HCb7:=LH (fun X (hX:Below w7.heap.size w7 X)=>HCb.out X (bseq8 HB7.out hX))
 unfold cellsT at HSm7;generalize Z.2=E at *
 generalize Y.2=E' at *
 have HCel:=LH (fun X (hX:Below w7.heap.size w7 X)=>And.intro (HX57.out.on hX).cells (HX7.out.on hX).cells)
 go_upto_region 3 with fail
 rw[←hw7];clear hw7;generalize w4.heap.size=g at *
 generalize w6.heap.size=g' at *
 go_wp2_with fail
 refine (HCa7.out w7 (Below.refl _ _)).mono ?_
 rintro e w8 ⟨rfl,hB8⟩;have HB8:=LH hB8;clear hB8
 by_cases ha:Ka=0
 ·subst ha
  go_wp2_with fail
  refine (HCb7.out w8 HB8.out).mono ?_
  rintro e w9 ⟨rfl,hB9⟩;have HB9:=LH (bseq8 HB8.out hB9);clear hB9
  by_cases hb:Kb=0
  ·subst hb;obtain rfl:Q=S:=by rw[HQ.out];simp
   obtain ⟨⟨x0,x1,x2,x3,x4⟩,y0,y1,y2,y3,y4⟩:=HCel.out w9 HB9.out
   go_wp2_with fail
   with_reducible refine (HSm7.out w9 HB9.out).mono ?_
   rintro e wA ⟨rfl,hBA⟩;have HBA:=LH (bseq8 HB7.out (bseq8 HB9.out hBA));clear hBA x0 x1 x2 x3 x4 y0 y1 y2 y3 y4
   go_wp2_with fail
   go_ret;exact ⟨rfl,HBA.out⟩
  ·obtain rfl:Q=false:=by rw[HQ.out];simp[hb]
   have hb0:(Kb == 0)=false:=by simp[hb]
   clear hb
   go_wp2_with fail
   go_ret;exact ⟨rfl,bseq8 HB7.out HB9.out⟩
 ·obtain rfl:Q=false:=by rw[HQ.out];simp[ha]
  have ha0:(Ka == 0)=false:=by simp[ha]
  clear ha
  go_wp2_with fail
  go_ret;exact ⟨rfl,bseq8 HB7.out HB8.out⟩
theorem check_sm {ls:List (List Int)} (hu:AllU ls) (h64:All64 (sizesL ls)):SmE (checkT ls):=by
 have:=decode_sm hu h64;unfold checkT SmE at *
 split
 ·exact this
 ·split <;> omega
theorem canon_sm {ls:List (List Int)} (hu:AllU ls) (h64:All64 (sizesL ls)):SmE (canonT ls).2:=by
 unfold canonT
 split
 ·exact check_sm hu h64
 ·unfold buildT SmE
  split
  ·dsimp only;omega
  ·split <;> dsimp only <;> omega
set_option maxHeartbeats 1000000 in
theorem lwords11_any (v:Value) (ls:List (List Int)) (B:Nat) (w:World) (h:ArV w B v ls) :
  Calls Tryz.prog 9 #[v] w fun e w'=>(∃n:Int,e= .returned (.int .i64 n))∧w=w':=by
 obtain ⟨A,c,rfl,hc,hm,hr⟩:=h;obtain ⟨len,hn⟩:∃n,n=ls.length:=⟨_,rfl⟩;rw[←hn] at hc ⊢;have H:=LH hr;have HN:=LH hn;clear hr hn;go_enter Tryz.func9,Tryz.ntmps9
 go_wp2_with fail
 go_loopw [3,4] (fun s i wr=>∃t:Nat,t≤len∧i= .int .i64 t∧(∃S:Int,s= .int .i64 S)∧w=wr) (fun _ i _=>len - (intOf i).toNat)
 case atStart=>exact ⟨0,by omega,rfl,⟨0,rfl⟩,rfl⟩
 case round =>
  obtain ⟨t,ht,rfl,⟨S,rfl⟩,rfl⟩:=hrel
  by_cases hlt:t<len
  ·obtain ⟨b,off,rfl,_,hcell⟩:=H.out (by rw[←HN.out];omega);obtain ⟨s,p1,hs1⟩:=hcell t (by rw[←HN.out];exact hlt);obtain ⟨m,hm1⟩:∃m,(ls[t]?.getD []).length=m:=⟨_,rfl⟩;obtain ⟨A1,c1,rfl⟩:=hs1.form hm1;clear hcell hs1 hm1
   go_wp2_with fail
   go_roundw
   case rel=>exact ⟨t+1,by omega,by go_num,⟨_,rfl⟩,trivial⟩
   case measure=>simp[intOf];omega
  ·obtain rfl:t=len:=by omega
   go_wp2_with fail
   go_ret;exact ⟨⟨_,rfl⟩,rfl⟩
set_option maxHeartbeats 2000000 in
theorem checks11_any (H:ValidOK) (HC:CanonOK) (v u:Value) (a b:List (List Int)) (w:World) (L:Laid w) (ha:ArV w w.heap.size v a) (hb:ArV w w.heap.size u b) (la:a.length≤10000000000000) (lb:b.length≤10000000000000) (ua:AllU a) (ub:AllU b) :
  Calls Tryz.prog 12 #[v,u] w fun e w'=>e= .returned (.bool true)∧Below w.heap.size w w':=by
 have HCk:=LH (fun X (hX:Below w.heap.size w X)=>H.check v a X (L.on hX) (ha.on hX) la ua)
 have HCn:=LH (HC v a w L ha la ua);have HEq:=LH (fun X (hX:Below w.heap.size w X)=>H.equal v u a b X (L.on hX) (ha.on hX) (hb.on hX) la lb ua ub)
 have HRk:=LH (fun X (hX:Below w.heap.size w X)=>rcheck11_any v a X (ha.on hX) la ua)
 have HRn:=LH (fun X (hX:Below w.heap.size w X)=>rcanon11_any v a X (ha.on hX) la ua)
 have HRe:=LH (fun X (hX:Below w.heap.size w X)=>requal11_any v u a b X (ha.on hX) (hb.on hX) la lb ua ub)
 have HS1:=LH (check_sm ua (sizes_all64 ha));have HS2:=LH (canon_sm ua (sizes_all64 ha));generalize checkT a=Ck at *
 generalize equalT a b=Q at *
 generalize canonT a=Cn at *
 have HSa:=LH (fun X x y (hx:ArV X X.heap.size x Cn.1) (hy:ArV X X.heap.size y Cn.1)=>rsame7_any x y Cn.1 Cn.1 X hx hy)
 have hrf:sameA Cn.1 Cn.1=true:=decide_eq_true rfl;rw[hrf] at HSa;obtain ⟨A,c,rfl⟩:=ha.form rfl;obtain ⟨A',c',rfl⟩:=hb.form rfl;generalize a.length=na at *
 generalize b.length=nb at *
 obtain ⟨m1,hm1⟩:∃m,m=IntKind.i64.wrap Ck:=⟨_,rfl⟩;have w1:IntKind.i64.wrap Ck=Ck:=IntWalk.i64_in _ (by have:=HS1.out;unfold SmE at this;omega);have w2':IntKind.i64.wrap Cn.2=Cn.2:=IntWalk.i64_in _ (by have:=HS2.out;unfold SmE at this;omega);generalize Cn.2=E at *
 generalize Cn.1=Cl at *
 clear hm1 hrf ha hb la lb ua ub L H;have HW:=LH (And.intro w1 w2');clear w1 w2';go_enter Tryz.func12,Tryz.ntmps12
 go_wp2_with fail
 refine HCn.out.mono ?_
 rintro e w2 ⟨x,rfl,hx,hB2⟩;obtain ⟨nx,hnx⟩:∃n,n=Cl.length:=⟨_,rfl⟩;obtain ⟨Ax,cx,rfl⟩:=hx.form hnx.symm;have HX:=LH hx;have HB2:=LH hB2;clear hx hB2 hnx
 go_wp2_with fail
 refine (HRn.out w2 HB2.out).mono ?_
 rintro e w3 ⟨Ay,ny,cy,rfl,hy,hB3⟩;have HY:=LH hy;have HX3:=LH (HX.out.on hB3);have HB3:=LH (HB2.out.trans (hB3.mono HB2.out.size));clear hy hB3
 go_wp2_with fail
 refine (HCk.out w3 HB3.out).mono ?_
 rintro e w4 ⟨rfl,hB4⟩;have HX4:=LH (HX3.out.on hB4);have HY4:=LH (HY.out.on hB4);have HB4:=LH (HB3.out.trans (hB4.mono HB3.out.size));clear hB4;obtain ⟨w1,w2'⟩:=HW.out
 go_wp2_with fail
 refine (HRk.out w4 HB4.out).mono ?_
 rintro e w5 ⟨rfl,hB5⟩;have e1:(Ck == Ck)=true:=by simp
 have e2:(E == E)=true:=by simp
 have HX5:=LH (HX4.out.on hB5);have HY5:=LH (HY4.out.on hB5);have HB5:=LH (HB4.out.trans (hB5.mono HB4.out.size));clear hB5;have HSa5:=LH (HSa.out w5 _ _ HX5.out HY5.out)
 go_wp2_with fail
 with_reducible refine HSa5.out.mono ?_
 rintro e w6 ⟨rfl,hB6⟩;have HB6:=LH (HB5.out.trans (hB6.mono HB5.out.size));clear hB6
 go_wp2_with fail
 with_reducible refine (HEq.out w6 HB6.out).mono ?_
 rintro e w7 ⟨rfl,hB7⟩;have HB7:=LH (HB6.out.trans (hB7.mono HB6.out.size));clear hB7
 go_wp2_with fail
 with_reducible refine (HRe.out w7 HB7.out).mono ?_
 rintro e w8 ⟨rfl,hB8⟩;have HB8:=LH (HB7.out.trans (hB8.mono HB7.out.size));clear hB8;cases Q with
 | true =>
  go_wp2_with fail
  go_ret;exact ⟨by first | rfl | simp,HB8.out⟩
 | false =>
  go_wp2_with fail
  go_ret;exact ⟨by first | rfl | simp,HB8.out⟩
end Go.Proofs.YtmmlfnblodfjbaaGreatDoor
