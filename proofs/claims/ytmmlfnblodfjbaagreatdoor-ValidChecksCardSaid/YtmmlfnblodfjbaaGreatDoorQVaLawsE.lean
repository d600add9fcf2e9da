/- Layer 11: the law ValidChecks, given what the four calls pay: its walk. -/
import Derived.Test.YtmmlfnblodfjbaaGreatDoorQVaR
import Derived.Test.YtmmlfnblodfjbaaGreatDoorQTbBent
set_option maxRecDepth 100000
namespace Go.Proofs.YtmmlfnblodfjbaaGreatDoor
open Go.RowKit Go.Deep
set_option maxHeartbeats 2000000 in
theorem checks11_walk (H:ValidOK) (HC:CanonOK) (la lb:List (List Int)) (c d:List Int) (va vb vc vd:Value) (k:Nat) (w:World) (ha:ArV w w.heap.size va la) (hla:la.length≤10000000000000) (hua:AllU la) (hb:ArV w w.heap.size vb lb) (hlb:lb.length≤10000000000000) (hub:AllU lb) (hc:Bytes w w.heap.size vc c) (hcb:AllB c) (hd:Bytes w w.heap.size vd d) (hdb:AllB d) (hk:k≤255) (L:Laid w) :
  Calls Tryz.prog 3 #[va,vb,vc,vd,.int .u8 k] w fun e w'=>e= .returned (.bool true)∧Below w.heap.size w w':=by
 have HK:=LH (fun X (hX:Below w.heap.size w X)=>known11_any H X (L.on hX))
 have HWa:=LH (fun X (hX:Below w.heap.size w X)=>lwords11_any va la X.heap.size X (ha.on hX))
 have HWb:=LH (fun X (hX:Below w.heap.size w X)=>lwords11_any vb lb X.heap.size X (hb.on hX))
 have HDa:=LH (fun X (hX:Below w.heap.size w X)=>checks11_any H HC va vb la lb X (L.on hX) (ha.on hX) (hb.on hX) hla hlb hua hub)
 have HDx:=LH (fun X (hX:Below w.heap.size w X) v u ls ms (h:ArV X X.heap.size v ls) (g:ArV X X.heap.size u ms) (hl:ls.length≤10000000000000) (hm:ms.length≤10000000000000) (hu:AllU ls) (gu:AllU ms)=>checks11_any H HC v u ls ms X (L.on hX) h g hl hm hu gu)
 obtain ⟨k2,hk2⟩:∃k2:Nat,k2=(k+1) % 256:=⟨_,rfl⟩;have wk:IntKind.u8.wrap ((k:Int)+1)=(k2:Int):=by rw[IntKind.wrap_u8,hk2];omega
 have HWk:=LH wk;have HBe:=LH (fun X (hX:Below w.heap.size w X)=>bent_any c d vc vd k X (hc.on hX) (hd.on hX) hcb hdb hk)
 have HBm:=LH (fun X (hX:Below w.heap.size w X)=>bent_any c [] vc (.slice none 0 0) k2 X (hc.on hX) (nil_bytes _ _) hcb (fun x hx=>by simp at hx) (by omega))
 have HBn:=LH (fun X (hX:Below w.heap.size w X)=>bent_any c [] vc (.slice none 0 0) k X (hc.on hX) (nil_bytes _ _) hcb (fun x hx=>by simp at hx) hk)
 have HGe:=LH (fun X (hX:Below w.heap.size w X)=>gen_any vc c k X (hc.on hX) hcb (by omega))
 have HGs:=LH (arL_sm hcb k);obtain ⟨Aa,ca,rfl⟩:=ha.form rfl;obtain ⟨Ab,cb,rfl⟩:=hb.form rfl;obtain ⟨Ac,cc,rfl⟩:=hc.form rfl;obtain ⟨Ad,cd,rfl⟩:=hd.form rfl;generalize la.length=na at *
 generalize lb.length=nb at *
 obtain ⟨lc,hlc⟩:∃lc,lc=c.length:=⟨_,rfl⟩;rw[←hlc] at HBe HBm HBn HGe ⊢;generalize d.length=ld at *
 clear ha hla hua hb hlb hub hc hcb hd hdb L hlc H hk2 wk;go_enter Tryz.func3,Tryz.ntmps3
 go_wp2_with fail
 refine (HWa.out w (Below.refl _ _)).mono ?_
 rintro e w2 ⟨⟨n1,rfl⟩,rfl⟩
 go_wp2_with fail
 refine (HWb.out w (Below.refl _ _)).mono ?_
 rintro e w2 ⟨⟨n2,rfl⟩,rfl⟩;obtain ⟨n,hn⟩:∃n,n=IntKind.i64.wrap (n1+n2):=⟨_,rfl⟩;have hn':IntKind.i64.wrap (n1+n2)=n:=hn.symm;clear hn
 by_cases hg:n>300
 ·go_wp2_with fail
  refine (HK.out w (Below.refl _ _)).mono ?_
  rintro e w2 ⟨rfl,hB2⟩;have HB2:=LH hB2;clear hB2
  go_wp2_with fail
  go_ret;exact ⟨rfl,HB2.out⟩
 ·by_cases hl:(lc:Int)>200
  ·go_wp2_with fail
   refine (HK.out w (Below.refl _ _)).mono ?_
   rintro e w2 ⟨rfl,hB2⟩;have HB2:=LH hB2;clear hB2
   go_wp2_with fail
   go_ret;exact ⟨rfl,HB2.out⟩
  ·go_wp2_with fail
   refine (HK.out w (Below.refl _ _)).mono ?_
   rintro e w2 ⟨rfl,hB2⟩;have HB2:=LH hB2;clear hB2 hn'
   go_wp2_with fail
   refine (HBe.out w2 HB2.out).mono ?_
   intro e w4 hR;obtain ⟨v4,l4,he,h1,h2,h3,h4,h5,h6⟩:=hR;subst he;have HB4:=LH (HB2.out.trans (h6.mono HB2.out.size));have HV4:=LH h1;have HU4:=LH h2;have HL4:Hid (l4.length≤10000000000000):=LH (by omega);clear h1 h2 h3 h4 h5 h6;have wk:=HWk.out
   go_wp2_with fail
   refine (HBm.out w4 HB4.out).mono ?_
   intro e w6 hR;obtain ⟨v6,l6,he,h1,h2,h3,h4,h5,h6⟩:=hR;subst he;have HB6:=LH (HB4.out.trans (h6.mono HB4.out.size));have HV6:=LH h1;have HV46:=LH (HV4.out.on h6);have HU6:=LH h2;have HL6:Hid (l6.length≤10000000000000):=LH (by clear wk;omega);clear h1 h2 h3 h4 h5 h6 wk
   go_wp2_with fail
   refine (HDa.out w6 HB6.out).mono ?_
   rintro e w7 ⟨rfl,hB7⟩;have HB7:=LH (HB6.out.trans (hB7.mono HB6.out.size));have HV7:=LH (HV6.out.on hB7);have HV47:=LH (HV46.out.on hB7);clear hB7
   go_wp2_with fail
   refine (HDx.out w7 HB7.out v4 v6 l4 l6 HV47.out HV7.out HL4.out HL6.out HU4.out HU6.out).mono ?_
   rintro e w8 ⟨rfl,hB8⟩;have HB8:=LH (HB7.out.trans (hB8.mono HB7.out.size));have HV8:=LH (HV7.out.on hB8);have HV48:=LH (HV47.out.on hB8);clear hB8
   go_wp2_with fail
   refine (HBn.out w8 HB8.out).mono ?_
   intro e w9 hR;obtain ⟨v9,l9,he,h1,h2,h3,h4,h5,h6⟩:=hR;subst he;have HB9:=LH (HB8.out.trans (h6.mono HB8.out.size));have HV49:=LH (HV48.out.on h6);have HC9:=LH (HDx.out w9 HB9.out v6 v9 l6 l9 (HV8.out.on h6) h1 HL6.out (by omega) HU6.out h2);clear h1 h2 h3 h4 h5 h6
   go_wp2_with fail
   refine HC9.out.mono ?_
   rintro e wA ⟨rfl,hBA⟩;have HBA:=LH (HB9.out.trans (hBA.mono HB9.out.size));have HV4A:=LH (HV49.out.on hBA);clear hBA
   go_wp2_with fail
   refine (HGe.out wA HBA.out).mono ?_
   rintro e wB ⟨uB,rfl,hO,hBB⟩;have HBB:=LH (HBA.out.trans (hBB.mono HBA.out.size));have HCB:=LH (HDx.out wB HBB.out v4 uB l4 _ (HV4A.out.on hBB) hO.arV HL4.out (by have:=HGs.out.1;omega) HU4.out HGs.out.2.2);clear hO hBB
   go_wp2_with fail
   refine HCB.out.mono ?_
   rintro e wC ⟨rfl,hBC⟩;have HBC:=LH (HBB.out.trans (hBC.mono HBB.out.size));clear hBC
   go_wp2_with fail
   go_ret;exact ⟨rfl,HBC.out⟩
end Go.Proofs.YtmmlfnblodfjbaaGreatDoor
