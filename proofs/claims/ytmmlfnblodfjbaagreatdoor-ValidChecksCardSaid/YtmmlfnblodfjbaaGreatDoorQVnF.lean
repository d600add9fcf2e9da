/- Layer 11, the landed package: checked (the tree of an arena that may be sent). -/
import Derived.Test.YtmmlfnblodfjbaaGreatDoorQTnD
import Derived.Test.YtmmlfnblodfjbaaGreatDoorQBuA
import Derived.Test.YtmmlfnblodfjbaaGreatDoorQVaP
import Derived.Test.YtmmlfnblodfjbaaGreatDoorQVnE
import Derived.Test.YtmmlfnblodfjbaaGreatDoorQTeC
import Derived.Test.YtmmlfnblodfjbaaGreatDoorQTeB
import Derived.Test.YtmmlfnblodfjbaaGreatDoorQSpanC
import Derived.Test.YtmmlfnblodfjbaaGreatDoorQVaK
import Derived.Test.YtmmlfnblodfjbaaGreatDoorQBuSame
set_option maxRecDepth 100000
namespace Go.Proofs.YtmmlfnblodfjbaaGreatDoor
open Go.RowKit Go.Deep
def chkR (ls:List (List Int)):Tr × Int:=if checkT ls=0 then ((decodeT ls).1,0) else (Tr.nil,checkT ls)
theorem chkR_err (ls:List (List Int)):(chkR ls).2=checkT ls:=by
 unfold chkR
 split
 ·rename_i h;exact h.symm
 ·rfl
set_option maxHeartbeats 2000000 in
theorem checked_any (v:Value) (ls:List (List Int)) (w:World) (L:Laid w) (h:ArV w w.heap.size v ls) (hl:ls.length≤10000000000000) (hu:AllU ls) :
  Calls Tryz.prog 35 #[v] w (TrER (chkR ls) w):=by
 have HD:=LH (fun X (hX:Below w.heap.size w X)=>decode_anyB v ls X (L.on hX) (h.on hX) hl hu)
 have HL:Hid (chkR ls=if (decodeT ls).2≠0 then (Tr.nil,(decodeT ls).2) else if rightT (decodeT ls).1=true then ((decodeT ls).1,0) else (Tr.nil,23)):=LH (by
  unfold chkR checkT
  by_cases h1:(decodeT ls).2≠0
  ·rw[if_pos h1,if_neg h1,if_pos h1]
  ·rw[if_neg h1,if_neg h1]
   by_cases h2:rightT (decodeT ls).1=true
   ·rw[if_pos h2,if_pos rfl,if_pos h2]
   ·rw[if_neg h2,if_neg (by decide),if_neg h2])
 obtain ⟨Z,hZ⟩:∃Z,Z=chkR ls:=⟨_,rfl⟩;rw[←hZ] at HL ⊢;generalize decodeT ls=T at *
 have hb1:=TBox.new w 0 0 (.slice none 0 0) (.slice none 0 0) (.slice none 0 0);have hB1:Below w.heap.size w (w.alloc (.cells (cellsT 0 0 (.slice none 0 0) (.slice none 0 0) (.slice none 0 0)) 34)):=(Below.refl _ _).alloc (Nat.le_refl _) _;obtain ⟨A,q,rfl⟩:=h.form rfl;obtain ⟨W1,hW1⟩:∃W1,W1=w.alloc (.cells (cellsT 0 0 (.slice none 0 0) (.slice none 0 0) (.slice none 0 0)) 34):=⟨_,rfl⟩;rw[←hW1] at hb1 hB1;have HN1:=LH hb1;have HB1:=LH hB1;have HDc:=LH (HD.out W1 HB1.out);have hlt1:=hb1.lt;have HLt1:=LH hlt1;unfold cellsT at hW1;clear hZ hb1 hB1 h L hl hu HD hlt1;generalize ls.length=m at *
 obtain ⟨t,D⟩:=T;dsimp only at HL;unfold TrER at HDc;dsimp only at HDc;go_enter Tryz.func35,Tryz.ntmps35;go_upto_region 1 with fail
 rw[←hW1];clear hW1
 go_wp2_with fail
 refine HDc.out.mono ?_
 rintro e w3 ⟨u,rfl,ht,hB3⟩;obtain ⟨k,z,A1,n1,c1,A2,n2,c2,A3,n3,c3,rfl⟩:=ht.parts;have HT4:=LH (TBox.new w3 k z (.slice A1 n1 c1) (.slice A2 n2 c2) (.slice A3 n3 c3));have hB4:Below w3.heap.size w3 (w3.alloc (.cells (cellsT k z (.slice A1 n1 c1) (.slice A2 n2 c2) (.slice A3 n3 c3)) 34)):=(Below.refl _ _).alloc (Nat.le_refl _) _;have HN4:=LH ((HN1.out.on hB3).on hB4);have HB4:=LH (HB1.out.trans ((hB3.trans (hB4.mono hB3.size)).mono HB1.out.size));have HP4:=LH (TrP.keep (fun x (hx:W1.heap.size≤x∧x<w3.heap.size)=>hB4.block x hx.2) _ _ ht)
 have HS3:Hid (w3.heap.size≤(w3.alloc (.cells (cellsT k z (.slice A1 n1 c1) (.slice A2 n2 c2) (.slice A3 n3 c3)) 34)).heap.size):=LH hB4.size;obtain ⟨W4,hW4⟩:∃W4,W4=w3.alloc (.cells (cellsT k z (.slice A1 n1 c1) (.slice A2 n2 c2) (.slice A3 n3 c3)) 34):=⟨_,rfl⟩;rw[←hW4] at HT4 HN4 HB4 HP4 HS3;unfold cellsT at hW4 ⊢;clear hB3 hB4 ht;go_upto_region 2 with fail
 rw[←hW4];clear hW4;have HRt:=LH (right8_any t _ W4 (TrP.trV (B:=W4.heap.size) (fun b (hb:W1.heap.size≤b∧b<w3.heap.size)=>Nat.lt_of_lt_of_le hb.2 HS3.out) _ _ HP4.out))
 by_cases hD:D=0
 ·subst hD;have HL2:=LH (HL.out.trans (if_neg (by simp)));clear HL;generalize rightT t=R at *
  obtain ⟨y0,y1,y2,y3,y4⟩:=HT4.out.cells;unfold cellsT at HRt
  go_wp2_with fail
  refine HRt.out.mono ?_
  rintro e w5 ⟨rfl,hB5⟩;have HT5:=LH (HT4.out.on hB5);have HN5:=LH (HN4.out.on hB5);have HB5:=LH (HB4.out.trans (hB5.mono HB4.out.size));have HP5:=LH (TrP.keep (fun x (hx:W1.heap.size≤x∧x<w3.heap.size)=>hB5.block x (Nat.lt_of_lt_of_le hx.2 HS3.out)) _ _ HP4.out)
  have HS5:=LH (Nat.le_trans HS3.out hB5.size);clear hB5 y0 y1 y2 y3 y4;obtain ⟨y0,y1,y2,y3,y4⟩:=HT5.out.cells;obtain ⟨x0,x1,x2,x3,x4⟩:=HN5.out.cells;obtain ⟨f0,f1,f2,f3,f4⟩:=HN5.out.frozens;cases R with
  | true =>
   obtain rfl:Z=(t,0):=HL2.out.trans (if_pos rfl);have HX:=LH (HN5.out.put k z (.slice A1 n1 c1) (.slice A2 n2 c2) (.slice A3 n3 c3));have HBX:=LH (below_put5 (g:=w.heap.size) HB5.out (Nat.le_refl _) 0 k z (.slice A1 n1 c1) (.slice A2 n2 c2) (.slice A3 n3 c3));have HF:Hid (TrP (put5 w5 w.heap.size 0 k z (.slice A1 n1 c1) (.slice A2 n2 c2) (.slice A3 n3 c3)) (fun x=>w.heap.size≤x∧x<(put5 w5 w.heap.size 0 k z (.slice A1 n1 c1) (.slice A2 n2 c2) (.slice A3 n3 c3)).heap.size) t (.agg (cellsT k z (.slice A1 n1 c1) (.slice A2 n2 c2) (.slice A3 n3 c3)))):=LH (by
    rw[put5_size];have h1:=HLt1.out;have h2:=HS5.out;exact TrP.mono (fun x hx=>⟨by omega,by omega⟩) _ _ (TrP.keep (fun x hx=>put5_other _ _ _ _ _ _ _ _ x (by omega)) _ _ HP5.out))
   go_wp2_with fail
   unfold put5 at HX HBX HF;simp only[Nat.zero_add] at HX HBX HF;clear x0 x1 x2 x3 x4;obtain ⟨x0,x1,x2,x3,x4⟩:=HX.out.cells;refine bodyPost_ret (v:= .tuple #[.agg (cellsT k z (.slice A1 n1 c1) (.slice A2 n2 c2) (.slice A3 n3 c3)),.int .u16 0]) ?_ rfl (by unfold TrER;exact ⟨_,rfl,HF.out,HBX.out⟩)
   simp[results,Tryz.f35,go_sem,cellsT,x0,x1,x2,x3,x4]
  | false =>
   obtain rfl:Z=(Tr.nil,23):=HL2.out.trans (if_neg (by decide));have HX:=LH (HN5.out.put 0 0 (.slice none 0 0) (.slice none 0 0) (.slice none 0 0));have HBX:=LH (below_put5 (g:=w.heap.size) HB5.out (Nat.le_refl _) 0 0 0 (.slice none 0 0) (.slice none 0 0) (.slice none 0 0))
   go_wp2_with fail
   unfold put5 at HX HBX;simp only[Nat.zero_add] at HX HBX;clear x0 x1 x2 x3 x4;obtain ⟨x0,x1,x2,x3,x4⟩:=HX.out.cells;refine bodyPost_ret (v:= .tuple #[.agg (cellsT 0 0 (.slice none 0 0) (.slice none 0 0) (.slice none 0 0)),.int .u16 23]) ?_ rfl (by unfold TrER;exact ⟨_,rfl,trP_nil _ _,HBX.out⟩)
   simp[results,Tryz.f35,go_sem,cellsT,x0,x1,x2,x3,x4]
 ·have hD1:(D != 0)=true:=by simp[hD]
  obtain rfl:Z=(Tr.nil,D):=HL.out.trans (if_pos hD);obtain ⟨x0,x1,x2,x3,x4⟩:=HN4.out.cells;obtain ⟨f0,f1,f2,f3,f4⟩:=HN4.out.frozens;have HX:=LH (HN4.out.put 0 0 (.slice none 0 0) (.slice none 0 0) (.slice none 0 0));have HBX:=LH (below_put5 (g:=w.heap.size) HB4.out (Nat.le_refl _) 0 0 0 (.slice none 0 0) (.slice none 0 0) (.slice none 0 0))
  go_wp2_with fail
  unfold put5 at HX HBX;simp only[Nat.zero_add] at HX HBX;clear x0 x1 x2 x3 x4;obtain ⟨x0,x1,x2,x3,x4⟩:=HX.out.cells;refine bodyPost_ret (v:= .tuple #[.agg (cellsT 0 0 (.slice none 0 0) (.slice none 0 0) (.slice none 0 0)),.int .u16 D]) ?_ rfl (by unfold TrER;exact ⟨_,rfl,trP_nil _ _,HBX.out⟩)
  simp[results,Tryz.f35,go_sem,cellsT,x0,x1,x2,x3,x4]
theorem walkR_len (s:Sr) (ks:List Int) (i:Int):(walkR s ks i).length≤3*ks.length+4:=by
 have h1:=followR_len s 0 0;have h2:=goR_lenN s ks (followO s 0 0).1;have h3:(endR (goO s ks (followO s 0 0).1) i).length≤1:=by
  unfold endR
  split <;> simp
 unfold walkR;rw[List.length_append,List.length_append]
 omega
theorem walkV_long {s:Sr} {ks:List Int} {i c:Int} (h:(walkV s ks i c).2=0):ks.length≤32:=by
 rw[show walkV s ks i c=if negs ks=true then (Va.zero,1) else if 32<ks.length then (Va.zero,3) else if (goalO s ks c (followO s 0 0)).2≠0 then (Va.zero,(goalO s ks c (followO s 0 0)).2) else endV s (goalO s ks c (followO s 0 0)).1 i from rfl] at h
 by_cases h1:negs ks=true
 ·rw[if_pos h1] at h;exact absurd h (by decide)
 rw[if_neg h1] at h
 by_cases h2:32<ks.length
 ·rw[if_pos h2] at h;exact absurd h (by decide)
 omega
theorem new_path (w:World) (v:Value) (i:Int):PaBox (w.alloc (.cells #[v,.int .i64 i] 47)) w.heap.size v i:=by unfold PaBox;rw[blk_alloc_new]
set_option maxHeartbeats 2000000 in
theorem touched_any (v sv:Value) (ls:List (List Int)) (ks:List Int) (i:Int) (w:World) (L:Laid w) (h:ArV w w.heap.size v ls) (hl:ls.length≤1000000000) (hu:AllU ls) (hs:NumS .i64 w w.heap.size sv ks) (h64:All64 ks) (hi:In64 i) :
  Calls Tryz.prog 20 #[v,.agg #[sv,.int .i64 i]] w fun e w'=>∃u,e= .returned (.tuple #[u,.int .u16 (touchV ls ks i).2])∧Spans w' w'.heap.size u (touchV ls ks i).1∧Below w.heap.size w w':=by
 have HR:=LH (fun X (hX:Below w.heap.size w X)=>aright_anyL v ls X (h.on hX) hl)
 have HWh:=LH (fun X (hX:Below w.heap.size w X) (hf:fitsL (sizesL ls)=true)=>whole10_any v ls X (h.on hX) (by have h1:=(of_decide_eq_true hf).1;rw[sizesL_length] at h1;exact h1) (by have h1:=(of_decide_eq_true hf).2.1;rw[sizesL_length] at h1;omega) (fun l hm=>by
  have h1:(l.length:Int)∈sizesL ls:=List.mem_map.2 ⟨l,hm,rfl⟩;obtain ⟨j,hj,e⟩:=List.getElem_of_mem h1;have h2:=fits_size hf j;rw[List.getElem?_eq_getElem hj,e] at h2
  show l.length≤1000000
  have h3:(l.length:Int)≤4096:=h2
  omega))
 have HSt:=LH (fun X b v' (hX:Below w.heap.size w X) (hb:WhBox X b v') (ha:ArV X X.heap.size v' ls) (hf:fitsL (sizesL ls)=true)=>(⟨hb,ha,L.on hX,hl,hu,sizes_all64 h,hf⟩:NtS X b v' ls))
 have HWk:=LH (fun X b v' nb Y (H:NtS X b v' ls) (hK:NtK X nb b ls [] Y) (hn:NumS .i64 Y X.heap.size sv ks)=>walk_anyN (noter_ok (nb:=nb) H) [] (by simp) Y sv ks i 8192 hK hn h64 hi ⟨by decide,by decide⟩)
 have HNs:=LH (fun X (hX:Below w.heap.size w X)=>hs.on hX)
 have HNs':=LH (fun X (hX:Below w.heap.size w X)=>hs.below hX (Nat.le_refl _))
 have HL:Hid (touchV ls ks i=if (ofV ls ks i 8192).2≠0 then ([],(ofV ls ks i 8192).2) else (normL (spR (sizesL ls) (walkR (srA ls) ks i)),0)):=LH rfl
 have HL2:Hid (ofV ls ks i 8192=if fitsL (sizesL ls)=true then walkV (srA ls) ks i 8192 else (Va.zero,1)):=LH rfl
 have HLg:Hid ((walkV (srA ls) ks i 8192).2=0→(walkR (srA ls) ks i).length≤1000):=LH (fun h=>by have h1:=walkV_long h;have h2:=walkR_len (srA ls) ks i;omega)
 obtain ⟨Z,hZ⟩:∃Z,Z=touchV ls ks i:=⟨_,rfl⟩;rw[←hZ] at HL ⊢;generalize ofV ls ks i 8192=T0 at *
 generalize walkV (srA ls) ks i 8192=T at *
 generalize walkR (srA ls) ks i=RW at *
 generalize hF:fitsL (sizesL ls)=F at *
 obtain ⟨A,q,rfl⟩:=hs.form rfl;obtain ⟨A2,q2,rfl⟩:=h.form rfl;have hp1:=new_path w (.slice A ks.length q) i;have hB1:Below w.heap.size w (w.alloc (.cells #[.slice A ks.length q,.int .i64 i] 47)):=(Below.refl _ _).alloc (Nat.le_refl _) _;obtain ⟨W1,hW1⟩:∃W1,W1=w.alloc (.cells #[.slice A ks.length q,.int .i64 i] 47):=⟨_,rfl⟩;rw[←hW1] at hp1 hB1;have HP1:=LH hp1;have HB1:=LH hB1;have HRc:=LH (HR.out W1 HB1.out);generalize ls.length=m at *
 clear hZ hp1 hB1 h L hl hu hs h64 hi HR hF;cases F with
 | false =>
  obtain rfl:T0=(Va.zero,1):=HL2.out.trans (if_neg (by decide));obtain rfl:Z=([],1):=HL.out.trans (if_pos (by decide));go_enter Tryz.func20,Tryz.ntmps20;go_upto_region 1 with fail
  rw[←hW1];clear hW1
  go_wp2_with fail
  refine HRc.out.mono ?_
  rintro e w2 ⟨rfl,hB2⟩;have HB2:=LH (HB1.out.trans (hB2.mono HB1.out.size));clear hB2
  go_wp2_with fail
  go_ret2;exact ⟨.slice none 0 0,rfl,nil_spans _ _,HB2.out⟩
 | true =>
  obtain rfl:T0=T:=HL2.out.trans (if_pos rfl);go_enter Tryz.func20,Tryz.ntmps20;go_upto_region 1 with fail
  rw[←hW1];clear hW1
  go_wp2_with fail
  refine HRc.out.mono ?_
  rintro e w2 ⟨rfl,hB2⟩;have HP2:=LH (HP1.out.on hB2 HP1.out.lt);have HB2:=LH (HB1.out.trans (hB2.mono HB1.out.size));clear hB2;have HWw:=LH (HWh.out w2 HB2.out (by trivial))
  go_wp2_with fail
  refine HWw.out.mono ?_
  rintro e w3 ⟨b,v',rfl,hb,hWb,hAr,hB3⟩;have hB23:=HB2.out.trans (hB3.mono HB2.out.size);have HSt3:=LH (HSt.out w3 b v' hB23 hWb hAr (by trivial));have hB4:Below w3.heap.size w3 (w3.alloc (.cells #[.iface 122 (.pointer (some ⟨b,0,none⟩)),.slice none 0 0] 89)):=(Below.refl _ _).alloc (Nat.le_refl _) _;have hN4:NoBox (w3.alloc (.cells #[.iface 122 (.pointer (some ⟨b,0,none⟩)),.slice none 0 0] 89)) w3.heap.size (.iface 122 (.pointer (some ⟨b,0,none⟩))) (.slice none 0 0):=by unfold NoBox;rw[blk_alloc_new]
  have hK4:NtK w3 w3.heap.size b ls [] (w3.alloc (.cells #[.iface 122 (.pointer (some ⟨b,0,none⟩)),.slice none 0 0] 89)):=⟨hB4,Nat.le_refl _,_,hN4,OwnS.nil _ _⟩;have HCall:=LH (HWk.out w3 b v' w3.heap.size _ HSt3.out hK4 ((HNs'.out _ (hB23.trans (hB4.mono hB23.size))).more hB23.size));have HP4:=LH ((HP2.out.on hB3 HP2.out.lt).on hB4 (HP2.out.on hB3 HP2.out.lt).lt);have HB3:=LH hB23;have HK4:=LH hK4;obtain ⟨W4,hW4⟩:∃W4,W4=w3.alloc (.cells #[.iface 122 (.pointer (some ⟨b,0,none⟩)),.slice none 0 0] 89):=⟨_,rfl⟩;rw[←hW4] at HCall HP4 HK4;clear hB3 hb hWb hAr hB4 hN4 hK4 HSt HWh HWk HWw HNs HNs' hB23;go_upto_region 4 with fail
  rw[←hW4];clear hW4;obtain ⟨c1,c2⟩:=HP4.out.cells
  go_wp2_with fail
  with_reducible refine HCall.out.mono ?_
  obtain ⟨⟨v1,v2,v3,v4,v5⟩,D⟩:=T0;rintro e w5 ⟨l5,rfl,hl5,hJ5⟩;unfold cellsV;dsimp only;have HL5:=LH hl5;dsimp only at HL5 HLg;have HJ5:=LH hJ5;clear hl5 hJ5 c1 c2;obtain ⟨W6,hW6⟩:∃W6,W6=w5.alloc (.cells #[.int .i64 v1,.int .i64 v2,.int .i64 v3,.int .i64 v4,.int .u64 v5] 54):=⟨_,rfl⟩;have HJ6:Hid (J (NtB w3) (NtK w3 w3.heap.size b ls) l5 W4 W6):=LH (by rw[hW6];exact HJ5.out.alloc _);go_upto_region 5 with fail
  rw[←hW6];clear hW6;have HLow:=LH (HB3.out.trans (HJ6.out.kk.low.mono HB3.out.size))
  by_cases hD:D=0
  ·subst hD;have HLx:=LH (HL5.out rfl);have HLy:=LH (HLg.out rfl);clear HL5 HLg;obtain rfl:Z=(normL (spR (sizesL ls) RW),0):=HL.out.trans (if_neg (by simp));obtain ⟨rv,hn6,ho6⟩:=HJ6.out.kk.box;rw[HLx.out,List.nil_append] at ho6;obtain ⟨c1,c2,f2⟩:=hn6.cells;have HNm:=LH (norm_any rv _ W6 ho6.spans (by have h1:=spR_length (sizesL ls) RW;have h2:=HLy.out;omega));obtain ⟨A0,q0,hrv,-⟩:=ho6.spans.parts;generalize (spR (sizesL ls) RW).length=k0 at *
   subst hrv;clear hn6 ho6
   go_wp2_with fail
   refine HNm.out.mono ?_
   rintro e w7 ⟨v7,rfl,hO7,hB7⟩;have HO7:=LH hO7.spans;have HB7:=LH (HLow.out.trans (hB7.mono HLow.out.size));obtain ⟨A7,q7,rfl,-⟩:=hO7.spans.parts;clear hO7 hB7
   go_wp2_with fail
   go_ret2;refine ⟨.slice A7 (normL (spR (sizesL ls) RW)).length q7,rfl,?_,HB7.out⟩;exact HO7.out
  ·have hD1:(D != 0)=true:=by simp[hD]
   obtain rfl:Z=([],D):=HL.out.trans (if_pos hD)
   go_wp2_with fail
   go_ret2;exact ⟨.slice none 0 0,rfl,nil_spans _ _,HLow.out⟩
set_option maxHeartbeats 2000000 in
theorem equal11_any (v u:Value) (a b:List (List Int)) (w:World) (L:Laid w) (ha:ArV w w.heap.size v a) (hb:ArV w w.heap.size u b) (hla:a.length≤10000000000000) (hlb:b.length≤10000000000000) (hua:AllU a) (hub:AllU b) :
  Calls Tryz.prog 17 #[v,u] w fun e w'=>e= .returned (.bool (equalT a b))∧Below w.heap.size w w':=by
 have HC1:=LH (checked_any v a w L ha hla hua);have HC2:=LH (fun X (hX:Below w.heap.size w X)=>checked_any u b X (L.on hX) (hb.on hX) hlb hub)
 unfold TrER at HC1 HC2;rw[chkR_err] at HC1;simp only[chkR_err] at HC2;have HS:=LH (fun X v x (hd:rightT (chkR a).1=true) (hT:TrV X X.heap.size (chkR a).1 v) (hU:TrV X X.heap.size (chkR b).1 x)=>same8_any (chkR a).1 (chkR b).1 v x 32 X hd (by omega) hT hU)
 have HL:Hid (equalT a b=(decide (checkT a=0) && (decide (checkT b=0) && sameT (decodeT a).1 (decodeT b).1))):=LH rfl;have HRt:Hid (checkT a=0→rightT (chkR a).1=true):=LH (fun h=>by unfold chkR;rw[if_pos h];exact (check_zero h).2)
 have HE1:Hid (checkT a=0→(chkR a).1=(decodeT a).1):=LH (fun h=>by unfold chkR;rw[if_pos h])
 have HE2:Hid (checkT b=0→(chkR b).1=(decodeT b).1):=LH (fun h=>by unfold chkR;rw[if_pos h])
 obtain ⟨Z,hZ⟩:∃Z,Z=equalT a b:=⟨_,rfl⟩;rw[←hZ] at HL ⊢;obtain ⟨A,q,rfl⟩:=ha.form rfl;obtain ⟨B,r,rfl⟩:=hb.form rfl;generalize a.length=m1 at *
 generalize b.length=m2 at *
 generalize checkT a=D1 at *
 generalize checkT b=D2 at *
 generalize (chkR a).1=t1 at *
 generalize (chkR b).1=t2 at *
 generalize (decodeT a).1=d1 at *
 generalize (decodeT b).1=d2 at *
 clear hZ ha hb L hua hub;go_enter Tryz.func17,Tryz.ntmps17
 go_wp2_with fail
 refine HC1.out.mono ?_
 rintro e w2 ⟨x,rfl,ht,hB2⟩;obtain ⟨k,z,A1,n1,c1,A2,n2,c2,A3,n3,c3,rfl⟩:=ht.parts;have hB3:Below w2.heap.size w2 (w2.alloc (.cells (cellsT k z (.slice A1 n1 c1) (.slice A2 n2 c2) (.slice A3 n3 c3)) 34)):=(Below.refl _ _).alloc (Nat.le_refl _) _;have HT3:=LH (TBox.new w2 k z (.slice A1 n1 c1) (.slice A2 n2 c2) (.slice A3 n3 c3));have HV3:=LH ((TrP.trV (B:=w2.heap.size) (fun b (hb:w.heap.size≤b∧b<w2.heap.size)=>hb.2) _ _ ht).on hB3)
 have HB3:=LH (hB2.trans (hB3.mono hB2.size));obtain ⟨W3,hW3⟩:∃W3,W3=w2.alloc (.cells (cellsT k z (.slice A1 n1 c1) (.slice A2 n2 c2) (.slice A3 n3 c3)) 34):=⟨_,rfl⟩;rw[←hW3] at HT3 HV3 HB3;unfold cellsT at hW3 ⊢;clear ht hB2 hB3;go_upto_region 2 with fail
 rw[←hW3];clear hW3
 go_wp2_with fail
 refine (HC2.out W3 HB3.out).mono ?_
 rintro e w4 ⟨x,rfl,ht,hB4⟩;obtain ⟨k',z',A1',n1',c1',A2',n2',c2',A3',n3',c3',rfl⟩:=ht.parts;have hB5:Below w4.heap.size w4 (w4.alloc (.cells (cellsT k' z' (.slice A1' n1' c1') (.slice A2' n2' c2') (.slice A3' n3' c3')) 34)):=(Below.refl _ _).alloc (Nat.le_refl _) _;have hB45:=hB4.trans (hB5.mono hB4.size);have HT5:=LH (TBox.new w4 k' z' (.slice A1' n1' c1') (.slice A2' n2' c2') (.slice A3' n3' c3'));have HV5:=LH ((TrP.trV (B:=w4.heap.size) (fun b (hb:W3.heap.size≤b∧b<w4.heap.size)=>hb.2) _ _ ht).on hB5)
 have HT3':=LH (HT3.out.on hB45);have HV3':=LH (HV3.out.on hB45);have HB5:=LH (HB3.out.trans (hB45.mono HB3.out.size));obtain ⟨W5,hW5⟩:∃W5,W5=w4.alloc (.cells (cellsT k' z' (.slice A1' n1' c1') (.slice A2' n2' c2') (.slice A3' n3' c3')) 34):=⟨_,rfl⟩;rw[←hW5] at HT5 HV5 HT3' HV3' HB5;unfold cellsT at hW5 ⊢;clear ht hB4 hB5 hB45;go_upto_region 3 with fail
 rw[←hW5];clear hW5
 by_cases h1:D1=0
 ·subst h1
  by_cases h2:D2=0
  ·subst h2;have HS5:=LH (HS.out W5 _ _ (HRt.out rfl) HV3'.out HV5.out);obtain rfl:=HE1.out rfl;obtain rfl:=HE2.out rfl;have hz:Z=sameT t1 t2:=HL.out.trans (by simp);rw[←hz] at HS5;clear hz;obtain ⟨x0,x1,x2,x3,x4⟩:=HT3'.out.cells;obtain ⟨y0,y1,y2,y3,y4⟩:=HT5.out.cells;unfold cellsT at HS5;clear HS HL HRt HE1 HE2
   go_wp2_with fail
   refine HS5.out.mono ?_
   rintro e w6 ⟨rfl,hB6⟩;have HB6:=LH (HB5.out.trans (hB6.mono HB5.out.size));clear hB6 x0 x1 x2 x3 x4 y0 y1 y2 y3 y4
   go_wp2_with fail
   go_ret;exact ⟨rfl,HB6.out⟩
  ·have h21:(D2 == 0)=false:=by simp[h2]
   obtain rfl:Z=false:=HL.out.trans (by simp[h2]);clear HS HL HRt HE1 HE2
   go_wp2_with fail
   go_ret;exact ⟨rfl,HB5.out⟩
 ·have h11:(D1 == 0)=false:=by simp[h1]
  obtain rfl:Z=false:=HL.out.trans (by simp[h1]);clear HS HL HRt HE1 HE2
  go_wp2_with fail
  go_ret;exact ⟨rfl,HB5.out⟩
set_option maxHeartbeats 1000000 in
theorem check11_any (v:Value) (ls:List (List Int)) (w:World) (L:Laid w) (h:ArV w w.heap.size v ls) (hl:ls.length≤10000000000000) (hu:AllU ls) :
  Calls Tryz.prog 24 #[v] w fun e w'=>e= .returned (.int .u16 (checkT ls))∧Below w.heap.size w w':=by
 have HC:=LH (checked_any v ls w L h hl hu);unfold TrER at HC;rw[chkR_err] at HC;obtain ⟨A,q,rfl⟩:=h.form rfl;generalize ls.length=m at *
 generalize checkT ls=D at *
 clear h L hu;go_enter Tryz.func24,Tryz.ntmps24
 go_wp2_with fail
 refine HC.out.mono ?_
 rintro e w2 ⟨u,rfl,ht,hB2⟩;obtain ⟨k,z,A1,n1,c1,A2,n2,c2,A3,n3,c3,rfl⟩:=ht.parts;unfold cellsT;have hB3:Below w.heap.size w (w2.alloc (.cells #[.int .i64 k,.int .i64 z,.slice A1 n1 c1,.slice A2 n2 c2,.slice A3 n3 c3] 34)):=hB2.alloc hB2.size _;have HB3:=LH hB3;clear ht hB2 hB3
 go_wp2_with fail
 go_ret;exact ⟨rfl,HB3.out⟩
theorem valid_ok:ValidOK where
 check:=fun v ls w L h hl hu=>check11_any v ls w L h hl hu
 equal:=fun v u a b w L ha hb hla hlb hua hub=>equal11_any v u a b w L ha hb hla hlb hua hub
 touched:=fun v sv ls ks i w L h hl hu hs h64 hi=>touched_any v sv ls ks i w L h hl hu hs h64 hi
end Go.Proofs.YtmmlfnblodfjbaaGreatDoor
