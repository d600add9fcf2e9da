/- Layer 11, the landed package: Canon. -/
import Derived.Test.YtmmlfnblodfjbaaGreatDoorQVnF
import Derived.Test.YtmmlfnblodfjbaaGreatDoorQGo
import Derived.Test.YtmmlfnblodfjbaaGreatDoorQVaK
set_option maxRecDepth 100000
namespace Go.Proofs.YtmmlfnblodfjbaaGreatDoor
open Go.RowKit Go.Deep
set_option maxHeartbeats 1000000 in
theorem canon11_any (v:Value) (ls:List (List Int)) (w:World) (L:Laid w) (h:ArV w w.heap.size v ls) (hl:ls.length≤10000000000000) (hu:AllU ls) :
  Calls Tryz.prog 16 #[v] w fun e w'=>∃u,e= .returned (.tuple #[u,.int .u16 (canonT ls).2])∧ArV w' w'.heap.size u (canonT ls).1∧Below w.heap.size w w':=by
 have HC:=LH (checked_any v ls w L h hl hu);unfold TrER at HC;rw[chkR_err] at HC;have HBd:=LH (fun t v X (hX:Below w.heap.size w X) (ht:TrV X X.heap.size t v)=>build_any t v 4096 X (L.on hX) ht)
 have HL:Hid (canonT ls=if checkT ls≠0 then ([],checkT ls) else buildT (decodeT ls).1 4096):=LH rfl
 have HK:Hid (checkT ls=0→(chkR ls).1=(decodeT ls).1):=LH (fun h=>by unfold chkR;rw[if_pos h])
 obtain ⟨Z,hZ⟩:∃Z,Z=canonT ls:=⟨_,rfl⟩;rw[←hZ] at HL ⊢;obtain ⟨A,q,rfl⟩:=h.form rfl;generalize ls.length=m at *
 generalize checkT ls=D at *
 generalize (chkR ls).1=t at *
 generalize (decodeT ls).1=t' at *
 clear h L hu hZ;go_enter Tryz.func16,Tryz.ntmps16
 go_wp2_with fail
 refine HC.out.mono ?_
 rintro e w2 ⟨u,rfl,ht,hB2⟩;obtain ⟨k,z,A1,n1,c1,A2,n2,c2,A3,n3,c3,rfl⟩:=ht.parts;have hB3:Below w2.heap.size w2 (w2.alloc (.cells (cellsT k z (.slice A1 n1 c1) (.slice A2 n2 c2) (.slice A3 n3 c3)) 34)):=(Below.refl _ _).alloc (Nat.le_refl _) _;have HT3:=LH (TBox.new w2 k z (.slice A1 n1 c1) (.slice A2 n2 c2) (.slice A3 n3 c3));have HV3:=LH ((TrP.trV (B:=w2.heap.size) (fun b (hb:w.heap.size≤b∧b<w2.heap.size)=>hb.2) _ _ ht).on hB3)
 have HB3:=LH (hB2.trans (hB3.mono hB2.size));obtain ⟨W3,hW3⟩:∃W3,W3=w2.alloc (.cells (cellsT k z (.slice A1 n1 c1) (.slice A2 n2 c2) (.slice A3 n3 c3)) 34):=⟨_,rfl⟩;rw[←hW3] at HT3 HV3 HB3;unfold cellsT at hW3 ⊢;clear ht hB2 hB3;go_upto_region 2 with fail
 rw[←hW3];clear hW3
 by_cases hD:D=0
 ·subst hD;have hz:Z=buildT t' 4096:=HL.out.trans (if_neg (by simp));obtain rfl:=HK.out rfl;have HBd3:=LH (HBd.out t _ W3 HB3.out HV3.out);obtain ⟨y0,y1,y2,y3,y4⟩:=HT3.out.cells;rw[←hz] at HBd3;clear hz;obtain ⟨Y,E⟩:=Z;unfold cellsT at HBd3;dsimp only at HBd3;clear HK HL HBd
  go_wp2_with fail
  refine HBd3.out.mono ?_
  rintro e w4 ⟨x,rfl,hO,hB4⟩;have HO:=LH hO;have HB4:=LH (HB3.out.trans (hB4.mono HB3.out.size));clear hO hB4 y0 y1 y2 y3 y4
  go_wp2_with fail
  go_ret2;exact ⟨x,rfl,HO.out.arV,HB4.out⟩
 ·have hD1:(D != 0)=true:=by simp[hD]
  obtain rfl:Z=([],D):=HL.out.trans (if_pos hD)
  go_wp2_with fail
  go_ret2;exact ⟨.slice none 0 0,rfl,(OwnA.nil _ 0).arV,HB3.out⟩
theorem canon_ok:CanonOK:=fun v ls w L h hl hu=>canon11_any v ls w L h hl hu
end Go.Proofs.YtmmlfnblodfjbaaGreatDoor
