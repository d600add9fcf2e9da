/- Layer 10, the document: a decoding in a box. -/
import Derived.Test.YtmmlfnblodfjbaaGreatDoorQTsB
import Derived.Test.YtmmlfnblodfjbaaGreatDoorQRsA
import Derived.Test.YtmmlfnblodfjbaaGreatDoorQMem
import Derived.Test.YtmmlfnblodfjbaaGreatDoorQTeC
import Derived.Deep.RegionHeldLaw
import Derived.Deep.DeepCutAuto
import Derived.Test.YtmmlfnblodfjbaaGreatDoorQGenC
import Derived.Test.YtmmlfnblodfjbaaGreatDoorQGenA
set_option maxRecDepth 100000
namespace Go.Proofs.YtmmlfnblodfjbaaGreatDoor
open Go.RowKit Go.Deep
def NBox (w:World) (b:Nat) (v:Value) (paid e:Int):Prop:=w.heap[b]? = some (.cells #[v,.bool false,.slice none 0 0,.int .i64 paid,.int .i64 e] 98 (0,0))
theorem NBox.new (w:World) (v:Value) (paid e:Int):NBox (w.alloc (.cells #[v,.bool false,.slice none 0 0,.int .i64 paid,.int .i64 e] 98)) w.heap.size v paid e:=by unfold NBox;rw[blk_alloc_new]
theorem NBox.lt {w:World} {b:Nat} {v:Value} {p e:Int} (h:NBox w b v p e):b<w.heap.size:=(Array.getElem?_eq_some_iff.1 h).1
theorem NBox.on {w w':World} {b:Nat} {v:Value} {p e:Int} (h:NBox w b v p e) (hB:Below w.heap.size w w'):NBox w' b v p e:=(hB.block b h.lt).trans h
theorem NBox.cells {w:World} {b:Nat} {v:Value} {p e:Int} (h:NBox w b v p e):w.cell? ⟨b,0,none⟩=some v∧w.cell? ⟨b,1,none⟩=some (.bool false)∧w.cell? ⟨b,2,none⟩=some (.slice none 0 0)∧w.cell? ⟨b,3,none⟩=some (.int .i64 p)∧w.cell? ⟨b,4,none⟩=some (.int .i64 e):=by
 unfold NBox at h
 simp[World.cell?,h]
theorem NBox.frozen {w:World} {b:Nat} {v:Value} {p e:Int} (h:NBox w b v p e) (i:Nat):w.frozen? ⟨b,i,none⟩=false:=by
 unfold NBox at h
 simp[World.frozen?,h]
theorem NBox.pay {w:World} {b:Nat} {v:Value} {p e:Int} (h:NBox w b v p e) (x:Int):NBox (w.setCell ⟨b,3,none⟩ (.int .i64 x)) b v x e:=by
 unfold NBox at *
 simp[World.setCell,Array.getElem?_modify,h]
theorem NBox.fail {w:World} {b:Nat} {v:Value} {p e:Int} (h:NBox w b v p e) (x:Int):NBox (w.setCell ⟨b,4,none⟩ (.int .i64 x)) b v p x:=by
 unfold NBox at *
 simp[World.setCell,Array.getElem?_modify,h]
theorem NBox.put {w:World} {b:Nat} {v0:Value} {p0 e0:Int} (h:NBox w b v0 p0 e0) (v:Value) (p e:Int):NBox (((((w.setCell ⟨b,0,none⟩ v).setCell ⟨b,1,none⟩ (.bool false)).setCell ⟨b,2,none⟩ (.slice none 0 0)).setCell ⟨b,3,none⟩ (.int .i64 p)).setCell ⟨b,4,none⟩ (.int .i64 e)) b v p e:=by
 unfold NBox at *
 simp[World.setCell,Array.getElem?_modify,h]
theorem NBox.apart {w:World} {b:Nat} {v:Value} {p e:Int} (h:NBox w b v p e) {g i:Nat} {x:Value} (hne:b≠g):NBox (w.setCell ⟨g,i,none⟩ x) b v p e:=(blk_setCell_other _ _ _ _ hne).trans h
theorem NBox.kept {w w':World} {b:Nat} {v:Value} {p e:Int} {row:Option Nat} (h:NBox w b v p e) (hg:w.grownBy w' row) (hne:row≠some b):NBox w' b v p e:=(hg.block b h.lt (fun x=>hne x.symm)).trans h
theorem OBox.apart {w:World} {b:Nat} {o:Ob} (h:OBox w b o) {g i:Nat} {x:Value} (hne:b≠g):OBox (w.setCell ⟨g,i,none⟩ x) b o:=(blk_setCell_other _ _ _ _ hne).trans h
theorem OBox.kept {w w':World} {b:Nat} {o:Ob} {row:Option Nat} (h:OBox w b o) (hg:w.grownBy w' row) (hne:row≠some b):OBox w' b o:=(hg.block b h.lt (fun x=>hne x.symm)).trans h
theorem boxesNo (w:World) (v:Value) (p e:Int):∀W,W=((w.alloc (.cells #[v,.bool false,.slice none 0 0,.int .i64 p,.int .i64 e] 98)).alloc (.cells #[.slice none 0 0,.bool false,.slice none 0 0,.int .i64 0,.int .i64 0] 98)).alloc (.cells (cellsT 0 0 (.slice none 0 0) (.slice none 0 0) (.slice none 0 0)) 34) →
  NBox W w.heap.size v p e∧NBox W (w.heap.size+1) (.slice none 0 0) 0 0∧TBox W (w.heap.size+2) 0 0 (.slice none 0 0) (.slice none 0 0) (.slice none 0 0)∧Below w.heap.size w W∧W.heap.size=w.heap.size+3:=by
 rintro W rfl;obtain ⟨X,hX⟩:∃X,X=w.alloc (.cells #[v,.bool false,.slice none 0 0,.int .i64 p,.int .i64 e] 98):=⟨_,rfl⟩;have hs:X.heap.size=w.heap.size+1:=by rw[hX,World.size_alloc]
 have a1:NBox X w.heap.size v p e:=by rw[hX];exact NBox.new w v p e
 have h1:Below w.heap.size w X:=by rw[hX];exact (Below.refl _ _).alloc (Nat.le_refl _) _
 rw[←hX];obtain ⟨Y,hY⟩:∃Y,Y=X.alloc (.cells #[.slice none 0 0,.bool false,.slice none 0 0,.int .i64 0,.int .i64 0] 98):=⟨_,rfl⟩;have hs2:Y.heap.size=w.heap.size+2:=by rw[hY,World.size_alloc,hs]
 have a2:NBox Y (w.heap.size+1) (.slice none 0 0) 0 0:=by rw[hY,←hs];exact NBox.new X _ 0 0
 have h2:Below X.heap.size X Y:=by rw[hY];exact (Below.refl _ _).alloc (Nat.le_refl _) _
 rw[←hY];have h3:Below Y.heap.size Y (Y.alloc (.cells (cellsT 0 0 (.slice none 0 0) (.slice none 0 0) (.slice none 0 0)) 34)):=(Below.refl _ _).alloc (Nat.le_refl _) _;exact ⟨(a1.on h2).on h3,a2.on h3,by rw[←hs2];exact TBox.new Y _ _ _ _ _,bseqS (bseqS h1 h2) h3,by rw[World.size_alloc,hs2]⟩
def putN (w:World) (r:Nat) (v:Value) (p e:Int):World:=((((w.setCell ⟨r,0,none⟩ v).setCell ⟨r,1,none⟩ (.bool false)).setCell ⟨r,2,none⟩ (.slice none 0 0)).setCell ⟨r,3,none⟩ (.int .i64 p)).setCell ⟨r,4,none⟩ (.int .i64 e)
def putT (w:World) (r:Nat) (k z:Int) (vw vb vk:Value):World:=((((w.setCell ⟨r,0,none⟩ (.int .i64 k)).setCell ⟨r,1,none⟩ (.int .i64 z)).setCell ⟨r,2,none⟩ vw).setCell ⟨r,3,none⟩ vb).setCell ⟨r,4,none⟩ vk
theorem NBox.putN {w:World} {b:Nat} {v0:Value} {p0 e0:Int} (h:NBox w b v0 p0 e0) (v:Value) (p e:Int):NBox (putN w b v p e) b v p e:=h.put v p e
theorem putN_other (w:World) (r:Nat) (v:Value) (p e:Int) {b:Nat} (h:b≠r):(putN w r v p e).heap[b]? = w.heap[b]? := by
 unfold Go.Proofs.YtmmlfnblodfjbaaGreatDoor.putN;rw[blk_setCell_other _ _ _ _ h,blk_setCell_other _ _ _ _ h,blk_setCell_other _ _ _ _ h,blk_setCell_other _ _ _ _ h,blk_setCell_other _ _ _ _ h]
theorem putT_other (w:World) (r:Nat) (k z:Int) (vw vb vk:Value) {b:Nat} (h:b≠r):(putT w r k z vw vb vk).heap[b]? = w.heap[b]? := by
 unfold putT;rw[blk_setCell_other _ _ _ _ h,blk_setCell_other _ _ _ _ h,blk_setCell_other _ _ _ _ h,blk_setCell_other _ _ _ _ h,blk_setCell_other _ _ _ _ h]
theorem putN_size (w:World) (r:Nat) (v:Value) (p e:Int):(putN w r v p e).heap.size=w.heap.size:=by
 unfold Go.Proofs.YtmmlfnblodfjbaaGreatDoor.putN;rw[nblk_setCell,nblk_setCell,nblk_setCell,nblk_setCell,nblk_setCell]
theorem putT_size (w:World) (r:Nat) (k z:Int) (vw vb vk:Value):(putT w r k z vw vb vk).heap.size=w.heap.size:=by
 unfold putT;rw[nblk_setCell,nblk_setCell,nblk_setCell,nblk_setCell,nblk_setCell]
theorem below_putN {B:Nat} {a w:World} (h:Below B a w) {r:Nat} (hr:B≤r) (v:Value) (p e:Int):Below B a (putN w r v p e) :=
 ((((h.setCell (p:=⟨r,0,none⟩) hr _).setCell (p:=⟨r,1,none⟩) hr _).setCell (p:=⟨r,2,none⟩) hr _).setCell (p:=⟨r,3,none⟩) hr _).setCell (p:=⟨r,4,none⟩) hr _
theorem below_putT {B:Nat} {a w:World} (h:Below B a w) {r:Nat} (hr:B≤r) (k z:Int) (vw vb vk:Value):Below B a (putT w r k z vw vb vk) :=
 ((((h.setCell (p:=⟨r,0,none⟩) hr _).setCell (p:=⟨r,1,none⟩) hr _).setCell (p:=⟨r,2,none⟩) hr _).setCell (p:=⟨r,3,none⟩) hr _).setCell (p:=⟨r,4,none⟩) hr _
theorem NBox.block {w w':World} {b:Nat} {v:Value} {p e:Int} (h:NBox w b v p e) (hb:w'.heap[b]? = w.heap[b]?):NBox w' b v p e:=hb.trans h
theorem TBox.block {w w':World} {b:Nat} {k z:Int} {vw vb vk:Value} (h:TBox w b k z vw vb vk) (hb:w'.heap[b]? = w.heap[b]?):TBox w' b k z vw vb vk:=hb.trans h
theorem NBox.frozens {w:World} {b:Nat} {v:Value} {p e:Int} (h:NBox w b v p e):w.frozen? ⟨b,0,none⟩=false∧w.frozen? ⟨b,1,none⟩=false∧w.frozen? ⟨b,2,none⟩=false∧w.frozen? ⟨b,3,none⟩=false∧w.frozen? ⟨b,4,none⟩=false:=⟨h.frozen 0,h.frozen 1,h.frozen 2,h.frozen 3,h.frozen 4⟩
theorem TBox.frozenD {w:World} {b:Nat} {k z:Int} {vw vb vk:Value} (h:TBox w b k z vw vb vk):w.frozen? ⟨b,0,none⟩=false∧w.frozen? ⟨b,1,none⟩=false∧w.frozen? ⟨b,2,none⟩=false∧w.frozen? ⟨b,3,none⟩=false∧w.frozen? ⟨b,4,none⟩=false:=⟨h.frozen 0,h.frozen 1,h.frozen 2,h.frozen 3,h.frozen 4⟩
theorem TBox.putT {w:World} {b:Nat} {k0 z0:Int} {w0 b0 n0:Value} (h:TBox w b k0 z0 w0 b0 n0) (k z:Int) (vw vb vk:Value):TBox (putT w b k z vw vb vk) b k z vw vb vk:=((((h.set0 k).set1 z).set2 vw).set3 vb).set4 vk
theorem put_both {w a:World} {B r:Nat} {v0 v:Value} {p0 e0 p e k0 z0 k z:Int} {w0 b0 n0 vw vb vk:Value} (hn:NBox w r v0 p0 e0) (ht:TBox w (r+1) k0 z0 w0 b0 n0) (hB:Below B a w) (hr:B≤r) :
  NBox (Go.Proofs.YtmmlfnblodfjbaaGreatDoor.putT (Go.Proofs.YtmmlfnblodfjbaaGreatDoor.putN w r v p e) (r+1) k z vw vb vk) r v p e∧TBox (Go.Proofs.YtmmlfnblodfjbaaGreatDoor.putT (Go.Proofs.YtmmlfnblodfjbaaGreatDoor.putN w r v p e) (r+1) k z vw vb vk) (r+1) k z vw vb vk∧Below B a (Go.Proofs.YtmmlfnblodfjbaaGreatDoor.putT (Go.Proofs.YtmmlfnblodfjbaaGreatDoor.putN w r v p e) (r+1) k z vw vb vk) :=
 ⟨(hn.putN v p e).block (putT_other _ _ _ _ _ _ _ (by omega)),(ht.block (putN_other _ _ _ _ _ (by omega))).putT k z vw vb vk,below_putT (below_putN hB hr v p e) (by omega) k z vw vb vk⟩
def NodeR (v:Value) (dn:Dn) (w:World) (e:Ending) (w':World):Prop :=
 ∃p E k z A1 n1 c1 A2 n2 c2 A3 n3 c3,e= .returned (.tuple #[.agg #[v,.bool false,.slice none 0 0,.int .i64 p,.int .i64 E],.agg (cellsT k z (.slice A1 n1 c1) (.slice A2 n2 c2) (.slice A3 n3 c3))])∧Below w.heap.size w w'∧E=dn.err ∧
  (dn.err=0→p=dn.paid∧TrP w' (fun x=>w.heap.size≤x∧x<w'.heap.size) dn.t (.agg (cellsT k z (.slice A1 n1 c1) (.slice A2 n2 c2) (.slice A3 n3 c3))))
set_option maxHeartbeats 4000000 in
theorem node_err (v:Value) (ls:List (List Int)) (g a around paid:Int) (w:World) (h:ArV w w.heap.size v ls) (hs:ls.length≤1000000000) (hu:AllU ls) (h64:All64 (sizesL ls)) (ha: -1099511627776≤a∧a≤1099511627776) (hp:0≤paid∧paid≤8192) (hE2:(thingE (followO (srA ls) g a) around (8192 - paid)).2≠0) (t:Tr) (p':Int) :
  Calls Tryz.prog 44 #[.agg #[v,.bool false,.slice none 0 0,.int .i64 paid,.int .i64 0],.int .i64 g,.int .i64 a,.int .i64 around] w (NodeR v ⟨(thingE (followO (srA ls) g a) around (8192 - paid)).2,p',t⟩ w):=by
 have HF:=LH (fun X (hX:Below w.heap.size w X)=>rsfollow_any v ls g a X (h.on hX) hs hu h64 ha)
 have HGd:=LH (follow_good (srA_good hs hu h64) g a);obtain ⟨F,hF⟩:∃F,F=followO (srA ls) g a:=⟨_,rfl⟩;rw[←hF] at HF HGd hE2 ⊢;obtain ⟨A,qc,rfl⟩:=h.form rfl;obtain ⟨W1,hW1⟩:∃W1,W1=((w.alloc (.cells #[.slice A ls.length qc,.bool false,.slice none 0 0,.int .i64 paid,.int .i64 0] 98)).alloc (.cells #[.slice none 0 0,.bool false,.slice none 0 0,.int .i64 0,.int .i64 0] 98)).alloc (.cells (cellsT 0 0 (.slice none 0 0) (.slice none 0 0) (.slice none 0 0)) 34):=⟨_,rfl⟩;obtain ⟨b1,b2,b3,hB1,hz1⟩:=boxesNo w _ _ _ W1 hW1;have HN1:=LH b1;have HR1:=LH b2;have HT1:=LH b3;have HB1:=LH hB1;have HPd:=LH hp;obtain ⟨s0,s1,s2,s3,s4⟩:=b1.cells;obtain ⟨⟨o1,o2,o3,o4,o5,o6,o7⟩,E⟩:=F;have hok:=HGd.out.okq;have hk3:o1≠3:=by
  rcases HGd.out with e | ⟨e,_⟩
  ·cases e;decide
  ·dsimp only at e;omega
 obtain ⟨n,hn⟩:∃n,n=wordsO ⟨o1,o2,o3,o4,o5,o6,o7⟩:=⟨_,rfl⟩;have hbn:=wordN_bd hok;rw[show wordN (ptrO ⟨o1,o2,o3,o4,o5,o6,o7⟩)=n from hn.symm] at hbn
 have HW9:=LH (fun X=>rswords_any ⟨o1,o2,o3,o4,o5,o6,o7⟩ X hok hk3)
 rw[←hn] at HW9;obtain ⟨E2,hZ⟩:∃E2,(thingE (⟨o1,o2,o3,o4,o5,o6,o7⟩,E) around (8192 - paid)).2=E2:=⟨_,rfl⟩;rw[hZ] at hE2 ⊢;have HZ:Hid (E2=if E≠0 then E else if o1≠0∧32≤around then 21 else if 8192 - paid<1+n then 22 else 0):=LH (by
  rw[←hZ];unfold thingE;rw[←hn];dsimp only
  split
  ·rfl
  ·split
   ·rfl
   ·split <;> rfl)
 have HE2:=LH hE2;have hw1:IntKind.i64.wrap (1+n)=1+n:=IntWalk.i64_in _ (by omega);have hw2:IntKind.i64.wrap (paid+(1+n))=paid+(1+n):=IntWalk.i64_in _ (by omega);have HWr:=LH (And.intro hw1 hw2);unfold ObI srcV at HF;unfold cellsO at HF HW9;dsimp only at HF HW9;unfold cellsT at hW1;generalize ls.length=m at *
 clear h hs hu h64 ha hF b1 b2 b3 hB1 hz1 hn hok hk3 hZ hE2 hw1 hw2 hbn hp;go_enter Tryz.func44,Tryz.ntmps44;go_upto_region 1 with fail
 rw[←hW1];clear hW1
 go_wp2_with fail
 refine (HF.out _ HB1.out).mono ?_
 rintro e w2 ⟨rfl,hB2⟩;obtain ⟨w3,hw3⟩:∃w3,w3=w2.alloc (.cells #[.int .i64 o1,.int .i64 o2,.int .i64 o3,.int .i64 o4,.int .i64 o5,.int .i64 o6,.int .i64 o7] 129):=⟨_,rfl⟩;have hB3:Below w2.heap.size w2 w3:=by rw[hw3];exact (Below.refl _ _).alloc (Nat.le_refl _) _
 have hP3:OBox w3 w2.heap.size ⟨o1,o2,o3,o4,o5,o6,o7⟩:=by rw[hw3];exact OBox.new w2 ⟨o1,o2,o3,o4,o5,o6,o7⟩
 have HN3:=LH (HN1.out.on (bseqS hB2 hB3));have HR3:=LH (HR1.out.on (bseqS hB2 hB3));have HT3:=LH (HT1.out.on (bseqS hB2 hB3));have HB3:=LH (HB1.out.trans ((bseqS hB2 hB3).mono HB1.out.size));have HLt:Hid (w.heap.size+2<w2.heap.size):=LH (by have:=(HT1.out.on hB2).lt;omega);obtain ⟨p,hp⟩:∃p,p=w2.heap.size:=⟨_,rfl⟩;rw[←hp] at hP3 HLt;have HP3:=LH hP3;clear hB2 hB3 s0 s1 s2 s3 s4 hP3;go_upto_region 2 with fail
 rw[←hw3,←hp];clear hw3 hp;obtain ⟨x0,x1,x2,x3,x4,x5,x6⟩:=HP3.out.cells;dsimp only at x0 x1 x2 x3 x4 x5 x6;obtain ⟨C,hC⟩:∃C:Bool,C=decide (E=0∧o1≠0∧32≤around):=⟨_,rfl⟩;have HC:=LH hC;clear hC
 go_cut [43] (fun x wx=>x= .bool C∧wx=w3)
 case first=>as_aux_lemma =>
  by_cases k0:E=0
  ·subst k0
   by_cases k1:o1=0
   ·subst k1
    go_wp2_with fail
    go_meet;exact ⟨by rw[HC.out];simp,rfl⟩
   ·have k2:(o1 != 0)=true:=by simp[k1]
    by_cases k3:around≥32
    ·go_wp2_with fail
     go_meet;exact ⟨congrArg Value.bool (HC.out.trans (decide_eq_true ⟨by trivial,k1,by omega⟩)).symm,rfl⟩
    ·have k4:¬(32:Int)≤around:=k3
     go_wp2_with fail
     go_meet;exact ⟨congrArg Value.bool (HC.out.trans (decide_eq_false (fun hx=>by have:=hx.2.2;omega))).symm,rfl⟩
  ·have k1:(E == 0)=false:=by simpa using k0
   go_wp2_with fail
   go_meet;exact ⟨by rw[HC.out,decide_eq_false (fun e=>k0 e.1)],rfl⟩
 case rest =>
  obtain ⟨rfl,rfl⟩:=hcut;obtain ⟨E1,hE1⟩:∃E1,E1=if E≠0 then E else if o1≠0∧32≤around then 21 else 0:=⟨_,rfl⟩
  have HE1:=LH hE1;clear hE1
  go_upto_if 43 with fail
  go_cut [11] (fun x wx=>x= .int .i64 E1∧wx=wc)
  case first=>as_aux_lemma =>
   cases C with
   | true =>
    have hh:=of_decide_eq_true HC.out.symm
    go_wp2_with fail
    go_meet;exact ⟨by rw[HE1.out,if_neg (by simp[hh.1]),if_pos hh.2],rfl⟩
   | false =>
    have hh:=of_decide_eq_false HC.out.symm
    go_wp2_with fail
    go_meet;exact ⟨by
     rw[HE1.out]
     by_cases k0:E=0
     ·rw[if_neg (by simp[k0]),if_neg (fun e=>hh ⟨k0,e⟩),k0]
     ·rw[if_pos k0],rfl⟩
  case rest =>
   obtain ⟨rfl,rfl⟩:=hcut;go_upto_region 4 with fail
   have HCel:Hid (∀X,Below wc.heap.size wc X→(X.cell? ⟨w.heap.size,3,none⟩=some (.int .i64 paid)∧X.frozen? ⟨w.heap.size,3,none⟩=false)∧X.cell? ⟨p,0,none⟩=some (.int .i64 o1)∧X.cell? ⟨p,1,none⟩=some (.int .i64 o2)∧X.cell? ⟨p,2,none⟩=some (.int .i64 o3)∧X.cell? ⟨p,3,none⟩=some (.int .i64 o4)∧X.cell? ⟨p,4,none⟩=some (.int .i64 o5)∧X.cell? ⟨p,5,none⟩=some (.int .i64 o6)∧X.cell? ⟨p,6,none⟩=some (.int .i64 o7)):=LH (fun X hX=>⟨⟨((HN3.out.on hX).cells).2.2.2.1,(HN3.out.on hX).frozen 3⟩,(HP3.out.on hX).cells⟩)
   have HAft:Hid (∀X,Below wc.heap.size wc X→NBox (X.setCell ⟨w.heap.size,3,none⟩ (.int .i64 (paid+(1+n)))) w.heap.size (.slice A m qc) (paid+(1+n)) 0∧OBox (X.setCell ⟨w.heap.size,3,none⟩ (.int .i64 (paid+(1+n)))) p ⟨o1,o2,o3,o4,o5,o6,o7⟩∧NBox (X.setCell ⟨w.heap.size,3,none⟩ (.int .i64 (paid+(1+n)))) (w.heap.size+1) (.slice none 0 0) 0 0∧TBox (X.setCell ⟨w.heap.size,3,none⟩ (.int .i64 (paid+(1+n)))) (w.heap.size+2) 0 0 (.slice none 0 0) (.slice none 0 0) (.slice none 0 0)∧Below w.heap.size w (X.setCell ⟨w.heap.size,3,none⟩ (.int .i64 (paid+(1+n))))):=LH (fun X hX =>
    ⟨(HN3.out.on hX).pay _,(HP3.out.on hX).apart (by have:=HLt.out;omega),(HR3.out.on hX).apart (by omega),(HT3.out.on hX).apart (by omega),(bseqS HB3.out hX).setCell (p:=⟨w.heap.size,3,none⟩) (Nat.le_refl _) _⟩)
   have hD0:Below wc.heap.size wc wc.drew:=(Below.refl _ _).drew;clear x0 x1 x2 x3 x4 x5 x6;obtain ⟨⟨d1,e1⟩,y0,y1,y2,y3,y4,y5,y6⟩:=HCel.out _ hD0;obtain ⟨wr1,wr2⟩:=HWr.out
   go_cut [] (fun wx=>NBox wx w.heap.size (.slice A m qc) (paid+(1+n)) 0∧OBox wx p ⟨o1,o2,o3,o4,o5,o6,o7⟩∧NBox wx (w.heap.size+1) (.slice none 0 0) 0 0∧TBox wx (w.heap.size+2) 0 0 (.slice none 0 0) (.slice none 0 0) (.slice none 0 0)∧Below w.heap.size w wx)
   case first=>as_aux_lemma =>
    go_region_law (first
     | (go_simp;go_at_call 77;with_reducible refine (HW9.out _).mono ?_;rintro e w6 ⟨rfl,hB6⟩;have hD6:=bseqS hD0 hB6;clear d1 e1 y0 y1 y2 y3 y4 y5 y6;obtain ⟨⟨d1,e1⟩,y0,y1,y2,y3,y4,y5,y6⟩:=HCel.out _ hD6))
    all_goals go_wp2_with fail
    all_goals go_meet
    all_goals exact HAft.out _ hD6
   case rest =>
    obtain ⟨hn5,hp5,hr5,ht5,hb5⟩:=hcut;have HN5:=LH hn5;have HP5:=LH hp5;have HR5:=LH hr5;have HT5:=LH ht5;have HB5:=LH hb5;clear hn5 hp5 hr5 ht5 hb5 hD0 d1 e1 y0 y1 y2 y3 y4 y5 y6 HCel HAft wr1 wr2;obtain ⟨D,hD⟩:∃D:Bool,D=decide (E1=0∧8192<paid+(1+n)):=⟨_,rfl⟩;have HD:=LH hD;clear hD;obtain ⟨d0,d1,d2,d3,d4⟩:=HN5.out.cells;go_upto_region 5 with fail
    go_cut [57] (fun x wx=>x= .bool D∧wx=wc)
    case first=>as_aux_lemma =>
     by_cases k0:E1=0
     ·subst k0
      by_cases k3:paid+(1+n)>8192
      ·go_wp2_with fail
       go_meet;exact ⟨congrArg Value.bool (HD.out.trans (decide_eq_true ⟨by trivial,by omega⟩)).symm,rfl⟩
      ·go_wp2_with fail
       go_meet;exact ⟨congrArg Value.bool (HD.out.trans (decide_eq_false (fun hx=>by have:=hx.2;omega))).symm,rfl⟩
     ·have k1:(E1 == 0)=false:=by simpa using k0
      go_wp2_with fail
      go_meet;exact ⟨congrArg Value.bool (HD.out.trans (decide_eq_false (fun hx=>k0 hx.1))).symm,rfl⟩
    case rest =>
     obtain ⟨rfl,rfl⟩:=hcut;clear d0 d1 d2 d3 d4
     go_upto_if 57 with fail
     go_cut [11] (fun x wx=>x= .int .i64 E2∧wx=wc)
     case first=>as_aux_lemma =>
      cases D with
      | true =>
       have hh:=of_decide_eq_true HD.out.symm
       go_wp2_with fail
       go_meet;exact ⟨congrArg (Value.int .i64) (by
        have h1:=HE1.out;rw[hh.1] at h1;rw[HZ.out]
        by_cases c1:E≠0
        ·rw[if_pos c1] at h1;exact absurd h1.symm c1
        ·rw[if_neg c1] at h1 ⊢
         by_cases c2:o1≠0∧32≤around
         ·rw[if_pos c2] at h1;exact absurd h1 (by decide)
         ·rw[if_neg c2,if_pos (by have:=hh.2;omega)]),rfl⟩
      | false =>
       have hh:=of_decide_eq_false HD.out.symm
       go_wp2_with fail
       go_meet;exact ⟨congrArg (Value.int .i64) (by
        have h1:=HE1.out;have h2:=HZ.out;have h3:=HE2.out;rw[h2] at h3;rw[h1,h2]
        by_cases c1:E≠0
        ·rw[if_pos c1,if_pos c1]
        ·rw[if_neg c1] at h1 h3 ⊢;rw[if_neg c1]
         by_cases c2:o1≠0∧32≤around
         ·rw[if_pos c2,if_pos c2]
         ·rw[if_neg c2] at h1 h3 ⊢;rw[if_neg c2]
          by_cases c3:8192 - paid<1+n
          ·exact absurd ⟨h1,by omega⟩ hh
          ·rw[if_neg c3] at h3;exact absurd rfl h3),rfl⟩
     case rest =>
      obtain ⟨rfl,rfl⟩:=hcut;have hne:(E2 != 0)=true:=by have:=HE2.out;simpa using this
      have hN6:=HN5.out.fail E2
      have hB6:=HB5.out.setCell (p:=⟨w.heap.size,4,none⟩) (Nat.le_refl _) (.int .i64 E2);have hR6:NBox (wc.setCell ⟨w.heap.size,4,none⟩ (.int .i64 E2)) (w.heap.size+1) (.slice none 0 0) 0 0:=HR5.out.apart (by omega);have hT6:TBox (wc.setCell ⟨w.heap.size,4,none⟩ (.int .i64 E2)) (w.heap.size+2) 0 0 (.slice none 0 0) (.slice none 0 0) (.slice none 0 0):=HT5.out.apart (by omega);have f4:=HN5.out.frozen 4;obtain ⟨d0,d1,d2,d3,d4⟩:=HN5.out.cells;go_upto_region 9 with fail
      obtain ⟨w6,hw6⟩:∃w6,w6=wc.setCell ⟨w.heap.size,4,none⟩ (.int .i64 E2):=⟨_,rfl⟩;rw[←hw6] at hN6 hB6 hR6 hT6 ⊢;clear d0 d1 d2 d3 d4 f4 hw6;obtain ⟨d0,d1,d2,d3,d4⟩:=hN6.cells;have hT6':TBox w6 (w.heap.size+1+1) 0 0 (.slice none 0 0) (.slice none 0 0) (.slice none 0 0):=hT6;obtain ⟨r0,r1,r2,r3,r4⟩:=hR6.cells;obtain ⟨t0,t1,t2,t3,t4⟩:=hT6'.cells;obtain ⟨rf0,rf1,rf2,rf3,rf4⟩:=hR6.frozens;obtain ⟨tf0,tf1,tf2,tf3,tf4⟩:=hT6'.frozenD;obtain ⟨hFN,hFT,hFB⟩:=put_both (v:= .slice A m qc) (p:=paid+(1+n)) (e:=E2) (k:=0) (z:=0) (vw:= .slice none 0 0) (vb:= .slice none 0 0) (vk:= .slice none 0 0) hR6 hT6' hB6 (by omega);unfold putT putN at hFN hFT hFB;have HFN:=LH hFN;have HFT:=LH hFT;have HFB:=LH hFB;clear hFN hFT hFB hN6 hR6 hT6 hT6' hB6
      go_wp2_with fail
      clear d0 d1 d2 d3 d4 r0 r1 r2 r3 r4 t0 t1 t2 t3 t4;obtain ⟨r0,r1,r2,r3,r4⟩:=HFN.out.cells;obtain ⟨t0,t1,t2,t3,t4⟩:=HFT.out.cells;refine bodyPost_ret (v:= .tuple #[.agg #[.slice A m qc,.bool false,.slice none 0 0,.int .i64 (paid+(1+n)),.int .i64 E2],.agg (cellsT 0 0 (.slice none 0 0) (.slice none 0 0) (.slice none 0 0))]) ?_ rfl ⟨_,_,_,_,_,_,_,_,_,_,_,_,_,rfl,HFB.out,rfl,fun hx=>absurd hx HE2.out⟩
      simp[results,Tryz.f44,go_sem,cellsT,r0,r1,r2,r3,r4,t0,t1,t2,t3,t4]
structure StN (w:World) (p tb:Nat) (o:Ob) (v:Value) (X:World) (k z:Int) (vw vb vk:Value) (pd e:Int):Prop where
 dn:NBox X w.heap.size v pd e
 r1:NBox X (w.heap.size+1) (.slice none 0 0) 0 0
 r2:TBox X (w.heap.size+1+1) 0 0 (.slice none 0 0) (.slice none 0 0) (.slice none 0 0)
 ob:OBox X p o
 tr:TBox X tb k z vw vb vk
 bl:Below w.heap.size w X
 lo:w.heap.size+1+1<p∧p<tb
 sz:tb<X.heap.size
theorem StN.on {w:World} {p tb:Nat} {o:Ob} {v:Value} {X Y:World} {k z:Int} {vw vb vk:Value} {pd e:Int} (h:StN w p tb o v X k z vw vb vk pd e) (hB:Below X.heap.size X Y):StN w p tb o v Y k z vw vb vk pd e :=
 ⟨h.dn.on hB,h.r1.on hB,h.r2.on hB,h.ob.on hB,h.tr.on hB,h.bl.trans (hB.mono h.bl.size),h.lo,Nat.lt_of_lt_of_le h.sz hB.size⟩
theorem StN.grown {w:World} {p tb:Nat} {o:Ob} {v:Value} {X Y:World} {k z:Int} {vw vb vk:Value} {pd e:Int} {row:Option Nat} (h:StN w p tb o v X k z vw vb vk pd e) (hg:X.grownBy Y row) (hr:∀b,row=some b→tb<b):StN w p tb o v Y k z vw vb vk pd e:=by
 have hl:=h.lo;exact ⟨h.dn.kept hg (fun e=>by have:=hr _ e;omega),h.r1.kept hg (fun e=>by have:=hr _ e;omega),h.r2.kept hg (fun e=>by have:=hr _ e;omega),h.ob.kept hg (fun e=>by have:=hr _ e;omega),h.tr.kept hg (fun e=>by have:=hr _ e;omega),h.bl.grown hg h.bl.size (fun b e=>by have:=hr _ e;omega),h.lo,Nat.lt_of_lt_of_le h.sz hg.size⟩
theorem StN.set2 {w:World} {p tb:Nat} {o:Ob} {v:Value} {X:World} {k z:Int} {vw vb vk:Value} {pd e:Int} (h:StN w p tb o v X k z vw vb vk pd e) (u:Value):StN w p tb o v (X.setCell ⟨tb,2,none⟩ u) k z u vb vk pd e:=by
 have hl:=h.lo;exact ⟨h.dn.apart (by omega),h.r1.apart (by omega),h.r2.apart (by omega),h.ob.apart (by omega),h.tr.set2 u,h.bl.setCell (p:=⟨tb,2,none⟩) (by show w.heap.size≤tb;omega) _,h.lo,by rw[nblk_setCell];exact h.sz⟩
theorem StN.set3 {w:World} {p tb:Nat} {o:Ob} {v:Value} {X:World} {k z:Int} {vw vb vk:Value} {pd e:Int} (h:StN w p tb o v X k z vw vb vk pd e) (u:Value):StN w p tb o v (X.setCell ⟨tb,3,none⟩ u) k z vw u vk pd e:=by
 have hl:=h.lo;exact ⟨h.dn.apart (by omega),h.r1.apart (by omega),h.r2.apart (by omega),h.ob.apart (by omega),h.tr.set3 u,h.bl.setCell (p:=⟨tb,3,none⟩) (by show w.heap.size≤tb;omega) _,h.lo,by rw[nblk_setCell];exact h.sz⟩
theorem StN.set4 {w:World} {p tb:Nat} {o:Ob} {v:Value} {X:World} {k z:Int} {vw vb vk:Value} {pd e:Int} (h:StN w p tb o v X k z vw vb vk pd e) (u:Value):StN w p tb o v (X.setCell ⟨tb,4,none⟩ u) k z vw vb u pd e:=by
 have hl:=h.lo;exact ⟨h.dn.apart (by omega),h.r1.apart (by omega),h.r2.apart (by omega),h.ob.apart (by omega),h.tr.set4 u,h.bl.setCell (p:=⟨tb,4,none⟩) (by show w.heap.size≤tb;omega) _,h.lo,by rw[nblk_setCell];exact h.sz⟩
theorem StN.put {w:World} {p tb:Nat} {o:Ob} {v:Value} {X:World} {k z:Int} {vw vb vk:Value} {pd e:Int} (h:StN w p tb o v X k z vw vb vk pd e) (pd' e':Int):StN w p tb o v (putN X w.heap.size v pd' e') k z vw vb vk pd' e':=by
 have hl:=h.lo;exact ⟨h.dn.putN v pd' e',h.r1.block (putN_other _ _ _ _ _ (by omega)),h.r2.block (putN_other _ _ _ _ _ (by omega)),(putN_other _ _ _ _ _ (by omega)).trans h.ob,h.tr.block (putN_other _ _ _ _ _ (by omega)),below_putN h.bl (Nat.le_refl _) v pd' e',h.lo,by rw[putN_size];exact h.sz⟩
theorem append_nodeR (w:World) (base ty:Nat) (v:Value) (ks:List Tr) (k z:Int) (A1 A2 A3:Option Addr) (n1 n2 n3 c1 c2 c3:Nat) (h:KRowN w base v ks) (hk:ks.length≤1000000000000) (hbase:base≤w.heap.size) :
  ∃A n w',(Builtin.append_ #[32,32] ty #[v,.slice (some ⟨w.heap.size,0,none⟩) 1 1]).run Tryz.prog (w.alloc (.cells #[.int .i64 k,.int .i64 z,.slice A1 n1 c1,.slice A2 n2 c2,.slice A3 n3 c3] 34))= .ok (.slice A (ks.length+1) n) w' ∧
   (w.alloc (.cells #[.int .i64 k,.int .i64 z,.slice A1 n1 c1,.slice A2 n2 c2,.slice A3 n3 c3] 34)).grownBy w' v.ownBlock ∧
   (∀t,TrP w (fun b=>base≤b∧b<w.heap.size∧v.ownBlock≠some b) t (.agg (cellsT k z (.slice A1 n1 c1) (.slice A2 n2 c2) (.slice A3 n3 c3)))→KRowN w' base (.slice A (ks.length+1) n) (ks ++ [t])):=by
 obtain ⟨i0,hi,hz0,hz1,hz2⟩:=info_parts Tryz.infoNode;have h0:=h;obtain ⟨xs,ho,hx⟩:=h;obtain ⟨v',w',hrun,ho',hg,_,hl⟩:=run_append_own_at (P:=Tryz.prog) (w:=w.alloc (.cells #[.int .i64 k,.int .i64 z,.slice A1 n1 c1,.slice A2 n2 c2,.slice A3 n3 c3] 34)) base 32 ty 34 i0 _ 5 88 Tryz.underlying32 hi hz0 hz1 hz2 rfl (by decide) v ks.length xs (World.ownsRow.alloc ho _) ⟨w.heap.size,0,none⟩ 1 1 [.int .i64 k,.int .i64 z,.slice A1 n1 c1,.slice A2 n2 c2,.slice A3 n3 c3] rfl (five_new w _ _ _ _ _ _)
  (fun u hu=>by simp at hu;rcases hu with rfl | rfl | rfl | rfl | rfl <;> rfl) (by unfold maxLen;omega) (by omega) (by simp;omega)
 obtain ⟨g',c',rfl⟩:=ownsRow_succ ho';refine ⟨_,_,w',hrun,hg,fun t ht=> ?_⟩
 obtain ⟨v2,w2,hrun2,hk2,-,-⟩:=append_node w base ty v ks t k z A1 A2 A3 n1 n2 n3 c1 c2 c3 h0 ht hk hbase;rw[hrun] at hrun2;cases hrun2
 exact hk2
theorem word_stepN {w:World} {p tb:Nat} {o:Ob} {v:Value} {X Y:World} {k z:Int} {A1:Option Addr} {c1 t:Nat} {vb vk:Value} {pd e:Int} {l:List Int} {x:Int} (h:StN w p tb o v X k z (.slice A1 t c1) vb vk pd e) (ho:OwnN .u64 44 X (tb+1) (.slice A1 t c1) (l.take t)) (hB:Below X.heap.size X Y) (hx:l[t]? = some x) (hl:l.length≤1000000) :
  ∃A2 c2 Z,(Builtin.append_ #[31,31] 31 #[.slice A1 t c1,.slice (some ⟨Y.heap.size,0,none⟩) 1 1]).run Tryz.prog (Y.alloc (.cells #[.int .u64 x] 44))= .ok (.slice A2 (t+1) c2) Z∧TBox Z tb k z (.slice A1 t c1) vb vk ∧
   StN w p tb o v (Z.setCell ⟨tb,2,none⟩ (.slice A2 (t+1) c2)) k z (.slice A2 (t+1) c2) vb vk pd e∧OwnN .u64 44 (Z.setCell ⟨tb,2,none⟩ (.slice A2 (t+1) c2)) (tb+1) (.slice A2 (t+1) c2) (l.take (t+1))∧tb+1≤(Z.setCell ⟨tb,2,none⟩ (.slice A2 (t+1) c2)).heap.size:=by
 have hY:=h.on hB;have hoY:=own_on ho hB;have hlt:t<l.length:=by
  by_cases c:t<l.length
  ·exact c
  ·rw[List.getElem?_eq_none (by omega)] at hx;exact absurd hx (by simp)
 have hl0:(l.take t).length=t:=by rw[List.length_take];omega
 have hsz:tb+1≤Y.heap.size:=hY.sz;obtain ⟨A2,n2,v',Z,hv',hrun,ho',hg⟩:=append_u1 Y (tb+1) 31 _ _ x hoY (by rw[hl0];omega) hsz;rw[hl0] at hv';subst hv';have hub:∀b,(Value.slice A1 t c1).ownBlock=some b→tb<b:=fun b e=>(World.ownsRow.lt hoY b e).1
 have hZ:=hY.grown hg hub;refine ⟨A2,n2,Z,hrun,hZ.tr,hZ.set2 _,?_,by rw[nblk_setCell];exact hZ.sz⟩
 have e:l.take (t+1)=l.take t ++ [x]:=by
  rw[List.take_add_one,hx]
  rfl
 rw[e];exact own_kept2 ho' (grown_set _ _ _ _) (fun g e1 e2=>by
  cases e2
  have:=(World.ownsRow.lt ho' _ e1).1
  omega)
theorem byte_stepN {w:World} {p tb:Nat} {o:Ob} {v:Value} {X Y:World} {k z:Int} {A1:Option Addr} {c1 t:Nat} {AW:Option Addr} {NW cW:Nat} {vk:Value} {pd e:Int} {WF l:List Int} {x:Int} (h:StN w p tb o v X k z (.slice AW NW cW) (.slice A1 t c1) vk pd e) (hw:OwnN .u64 44 X (tb+1) (.slice AW NW cW) WF) (ho:OwnN .u8 5 X (tb+1) (.slice A1 t c1) (l.take t)) (hB:Below X.heap.size X Y) (hx:l[t]? = some x) (hl:l.length≤1000000) :
  ∃A2 c2 Z,(Builtin.append_ #[24,24] 24 #[.slice A1 t c1,.slice (some ⟨Y.heap.size,0,none⟩) 1 1]).run Tryz.prog (Y.alloc (.cells #[.int .u8 x] 5))= .ok (.slice A2 (t+1) c2) Z∧TBox Z tb k z (.slice AW NW cW) (.slice A1 t c1) vk ∧
   StN w p tb o v (Z.setCell ⟨tb,3,none⟩ (.slice A2 (t+1) c2)) k z (.slice AW NW cW) (.slice A2 (t+1) c2) vk pd e∧OwnN .u64 44 (Z.setCell ⟨tb,3,none⟩ (.slice A2 (t+1) c2)) (tb+1) (.slice AW NW cW) WF∧OwnN .u8 5 (Z.setCell ⟨tb,3,none⟩ (.slice A2 (t+1) c2)) (tb+1) (.slice A2 (t+1) c2) (l.take (t+1))∧tb+1≤(Z.setCell ⟨tb,3,none⟩ (.slice A2 (t+1) c2)).heap.size:=by
 have hY:=h.on hB;have hoY:=own_on ho hB;have hwY:=own_on hw hB;have hlt:t<l.length:=by
  by_cases c:t<l.length
  ·exact c
  ·rw[List.getElem?_eq_none (by omega)] at hx;exact absurd hx (by simp)
 have hl0:(l.take t).length=t:=by rw[List.length_take];omega
 have hsz:tb+1≤Y.heap.size:=hY.sz;obtain ⟨A2,n2,v',Z,hv',hrun,ho',hg⟩:=append_b1 Y (tb+1) 24 _ _ x hoY (by rw[hl0];omega) hsz;rw[hl0] at hv';subst hv';have hub:∀b,(Value.slice A1 t c1).ownBlock=some b→tb<b:=fun b e=>(World.ownsRow.lt hoY b e).1
 have hZ:=hY.grown hg hub;have hwZ:OwnN .u64 44 Z (tb+1) (.slice AW NW cW) WF:=own_kept2 hwY hg (fun g e1 e2=>own_type5 hwY hoY (by decide) e1 e2)
 refine ⟨A2,n2,Z,hrun,hZ.tr,hZ.set3 _,?_,?_,by rw[nblk_setCell];exact hZ.sz⟩
 ·exact own_kept2 hwZ (grown_set _ _ _ _) (fun g e1 e2=>by
   cases e2
   have:=(World.ownsRow.lt hwZ _ e1).1
   omega)
 ·have e:l.take (t+1)=l.take t ++ [x]:=by
   rw[List.take_add_one,hx]
   rfl
  rw[e];exact own_kept2 ho' (grown_set _ _ _ _) (fun g e1 e2=>by
   cases e2
   have:=(World.ownsRow.lt ho' _ e1).1
   omega)
theorem kid_stepN {w:World} {p tb:Nat} {o:Ob} {v:Value} {X Y:World} {k z k1 z1:Int} {A1:Option Addr} {c1 t:Nat} {AW AB B1 B2 B3:Option Addr} {NW cW NB cB m1 m2 m3 q1 q2 q3:Nat} {pd e:Int} {WF BF:List Int} {ks:List Tr} (h:StN w p tb o v X k z (.slice AW NW cW) (.slice AB NB cB) (.slice A1 t c1) pd e) (hw:OwnN .u64 44 X (tb+1) (.slice AW NW cW) WF) (hb:OwnN .u8 5 X (tb+1) (.slice AB NB cB) BF) (hk:KRowN X (tb+1) (.slice A1 t c1) ks) (hl:ks.length=t) (ht:t≤1000000) (hB:Below X.heap.size X Y) (pd' e':Int) :
  ∃A2 c2 Z,(Builtin.append_ #[32,32] 32 #[.slice A1 t c1,.slice (some ⟨(putN Y w.heap.size v pd' e').heap.size,0,none⟩) 1 1]).run Tryz.prog ((putN Y w.heap.size v pd' e').alloc (.cells #[.int .i64 k1,.int .i64 z1,.slice B1 m1 q1,.slice B2 m2 q2,.slice B3 m3 q3] 34))= .ok (.slice A2 (t+1) c2) Z∧TBox Z tb k z (.slice AW NW cW) (.slice AB NB cB) (.slice A1 t c1) ∧
   StN w p tb o v (Z.setCell ⟨tb,4,none⟩ (.slice A2 (t+1) c2)) k z (.slice AW NW cW) (.slice AB NB cB) (.slice A2 (t+1) c2) pd' e'∧OwnN .u64 44 (Z.setCell ⟨tb,4,none⟩ (.slice A2 (t+1) c2)) (tb+1) (.slice AW NW cW) WF∧OwnN .u8 5 (Z.setCell ⟨tb,4,none⟩ (.slice A2 (t+1) c2)) (tb+1) (.slice AB NB cB) BF∧tb+1≤(Z.setCell ⟨tb,4,none⟩ (.slice A2 (t+1) c2)).heap.size ∧
   (∀T,TrP Y (fun b=>X.heap.size≤b∧b<Y.heap.size) T (.agg (cellsT k1 z1 (.slice B1 m1 q1) (.slice B2 m2 q2) (.slice B3 m3 q3)))→KRowN (Z.setCell ⟨tb,4,none⟩ (.slice A2 (t+1) c2)) (tb+1) (.slice A2 (t+1) c2) (ks ++ [T])):=by
 have hY:=(h.on hB).put pd' e';have hszX:tb+1≤X.heap.size:=h.sz;have hlo:=h.lo;have hsz:tb+1≤(putN Y w.heap.size v pd' e').heap.size:=hY.sz;have hps:=putN_size Y w.heap.size v pd' e';have hsame:∀b,tb+1≤b→(putN Y w.heap.size v pd' e').heap[b]? = Y.heap[b]? := fun b hb=>putN_other _ _ _ _ _ (by omega)
 have hwY:OwnN .u64 44 (putN Y w.heap.size v pd' e') (tb+1) (.slice AW NW cW) WF:=by
  have:=own_on hw hB;refine own_kept2 this (r:=some w.heap.size) (grown_trans (grown_trans (grown_trans (grown_trans (grown_set _ _ _ _) (grown_set _ _ _ _)) (grown_set _ _ _ _)) (grown_set _ _ _ _)) (grown_set _ _ _ _)) (fun g e1 e2=> ?_)
  cases e2
  have:=(World.ownsRow.lt this _ e1).1
  omega
 have hbY:OwnN .u8 5 (putN Y w.heap.size v pd' e') (tb+1) (.slice AB NB cB) BF:=by
  have:=own_on hb hB;refine own_kept2 this (r:=some w.heap.size) (grown_trans (grown_trans (grown_trans (grown_trans (grown_set _ _ _ _) (grown_set _ _ _ _)) (grown_set _ _ _ _)) (grown_set _ _ _ _)) (grown_set _ _ _ _)) (fun g e1 e2=> ?_)
  cases e2
  have:=(World.ownsRow.lt this _ e1).1
  omega
 have hBs:=hB.size;have hkY:KRowN (putN Y w.heap.size v pd' e') (tb+1) (.slice A1 t c1) ks:=KRow.keep hk (by rw[hps];exact hB.size) (fun b h1 h2=>(hsame b h1).trans (hB.block b h2))
 have hub:∀b,(Value.slice A1 t c1).ownBlock=some b→tb<b∧b<X.heap.size:=fun b e=>by
  obtain ⟨xs,ho,-⟩:=hk;have:=World.ownsRow.lt ho b e
  omega
 obtain ⟨A2,n2,Z,hrun,hg,hR⟩:=append_nodeR (putN Y w.heap.size v pd' e') (tb+1) 32 _ _ k1 z1 B1 B2 B3 m1 m2 m3 q1 q2 q3 hkY (by omega) hsz;rw[hl] at hrun hR;have hg2:(putN Y w.heap.size v pd' e').grownBy Z (Value.slice A1 t c1).ownBlock:=grown_trans (World.grownBy_alloc _ _ _) hg;have hZ:=hY.grown hg2 (fun b e=>(hub b e).1)
 have hrt:∀(q:IntKind) (ty:Nat) (u:Value) (l:List Int),ty≠34→OwnN q ty (putN Y w.heap.size v pd' e') (tb+1) u l→OwnN q ty (Z.setCell ⟨tb,4,none⟩ (.slice A2 (t+1) n2)) (tb+1) u l:=fun q ty u l hty hu=>by
  have h1:OwnN q ty Z (tb+1) u l:=own_kept2 hu hg2 (fun g e1 e2=>by
   obtain ⟨xs,ho,-⟩:=hkY;exact own_type5 hu ho hty e1 e2)
  exact own_kept2 h1 (grown_set _ _ _ _) (fun g e1 e2=>by
   cases e2
   have:=(World.ownsRow.lt h1 _ e1).1
   omega)
 refine ⟨A2,n2,Z,hrun,hZ.tr,hZ.set4 _,hrt _ _ _ _ (by decide) hwY,hrt _ _ _ _ (by decide) hbY,by rw[nblk_setCell];exact hZ.sz,fun T hT=> ?_⟩
 refine KRow.keep (hR T ?_) (by rw[nblk_setCell];exact Nat.le_refl _) (fun b h1 _=>blk_setCell_other _ _ _ _ (by show b≠tb;omega))
 refine TrP.mono (fun b hb=>⟨by omega,by omega,fun e=>by have:=(hub b e).2;omega⟩) _ _ (TrP.keep (fun b hb=>hsame b (by omega)) _ _ hT)
end Go.Proofs.YtmmlfnblodfjbaaGreatDoor
