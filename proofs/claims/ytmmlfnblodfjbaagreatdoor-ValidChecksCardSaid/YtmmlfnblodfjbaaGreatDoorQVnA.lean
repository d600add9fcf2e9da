/- Layer 11, the landed package: what a walk over a source that notes what is read keeps (J), and what such a source pays (SrcN). -/
import Derived.Test.YtmmlfnblodfjbaaGreatDoorQRdA
import Derived.Test.YtmmlfnblodfjbaaGreatDoorQRdC
import Derived.Deep.DeepCutAuto
import Derived.Deep.CutBlock
import Derived.LoopN
set_option maxRecDepth 100000
namespace Go.Proofs.YtmmlfnblodfjbaaGreatDoor
open Go.RowKit Go.Deep
structure Bs where
 n:Nat
 N:Nat→Prop
 u64:¬N 44
 ptr:¬N 70
 obj:¬N 129
 val:¬N 54
 purse:¬N 127
 path:¬N 47
 errno:¬N 40
def Nt (n0:Bs) (o:Obj):Prop:=∃c t r,o= .cells c t r∧n0.N t
theorem not_nt {n0:Bs} {c:Array Value} {t:Nat} {r:Nat × Nat} (h:¬n0.N t):¬Nt n0 (.cells c t r):=by
 rintro ⟨c',t',r',e,ht⟩
 injection e with _ e2 _
 subst e2;exact h ht
structure Bel (n0:Bs) (n:Nat) (w w':World):Prop where
 os:w'.os=w.os
 tape:w'.tape=w.tape
 output:w'.output=w.output
 size:w.heap.size≤w'.heap.size
 keep:∀b o,b<n→w.heap[b]? = some o→(b<n0.n∨¬Nt n0 o)→w'.heap[b]? = some o
structure Sil (n0:Bs) (w w':World):Prop where
 os:w'.os=w.os
 tape:w'.tape=w.tape
 output:w'.output=w.output
 size:w.heap.size≤w'.heap.size
 keep:∀b o,w.heap[b]? = some o→(b<n0.n∨Nt n0 o)→w'.heap[b]? = some o
theorem lt_of_blk {w:World} {b:Nat} {o:Obj} (h:w.heap[b]? = some o):b<w.heap.size:=(Array.getElem?_eq_some_iff.1 h).1
theorem Sil.refl (n0:Bs) (w:World):Sil n0 w w:=⟨rfl,rfl,rfl,Nat.le_refl _,fun _ _ h _=>h⟩
theorem Sil.trans {n0:Bs} {a b c:World} (h:Sil n0 a b) (k:Sil n0 b c):Sil n0 a c :=
 ⟨k.os.trans h.os,k.tape.trans h.tape,k.output.trans h.output,Nat.le_trans h.size k.size,fun i _ hi hn=>k.keep i _ (h.keep i _ hi hn) hn⟩
theorem Sil.pure {n0:Bs} {a b:World} (h:Below a.heap.size a b):Sil n0 a b :=
 ⟨h.os,h.tape,h.output,h.size,fun i _ hi _=>(h.block i (lt_of_blk hi)).trans hi⟩
theorem Below.sil {n0:Bs} {w0 w w':World} (h:Below n0.n w0 w) (hn:n0.n≤w0.heap.size) (hS:Sil n0 w w'):Below n0.n w0 w' :=
 ⟨hS.os.trans h.os,hS.tape.trans h.tape,hS.output.trans h.output,Nat.le_trans h.size hS.size,fun k hk=>by
  have hlt:k<w.heap.size:=by have:=h.size;omega
  rw[←h.block k hk,Array.getElem?_eq_getElem hlt];exact hS.keep k _ (Array.getElem?_eq_getElem hlt) (.inl hk)⟩
structure J (n0:Bs) (K:List (Int × Int)→World→Prop) (l:List (Int × Int)) (w W:World):Prop where
 bel:Bel n0 w.heap.size w W
 k:∀W',Sil n0 W W'→K l W'
 le:n0.n≤w.heap.size
theorem J.kk {n0:Bs} {K:List (Int × Int)→World→Prop} {l:List (Int × Int)} {w W:World} (h:J n0 K l w W):K l W:=h.k W (Sil.refl _ _)
theorem J.size {n0:Bs} {K:List (Int × Int)→World→Prop} {l:List (Int × Int)} {w W:World} (h:J n0 K l w W):w.heap.size≤W.heap.size:=h.bel.size
theorem J.here {n0:Bs} {K:List (Int × Int)→World→Prop} {l:List (Int × Int)} {w W:World} (h:J n0 K l w W):J n0 K l W W :=
 ⟨⟨rfl,rfl,rfl,Nat.le_refl _,fun _ _ _ h _=>h⟩,h.k,Nat.le_trans h.le h.bel.size⟩
theorem J.step {n0:Bs} {K:List (Int × Int)→World→Prop} {l l':List (Int × Int)} {w W W':World} (h:J n0 K l w W) (h':J n0 K l' W W'):J n0 K l' w W' :=
 ⟨⟨h'.bel.os.trans h.bel.os,h'.bel.tape.trans h.bel.tape,h'.bel.output.trans h.bel.output,Nat.le_trans h.bel.size h'.bel.size,fun i o hi ho hn=>by
  have:=h.bel.keep i o hi ho hn;exact h'.bel.keep i o (lt_of_blk this) this hn⟩,h'.k,h.le⟩
theorem J.pure {n0:Bs} {K:List (Int × Int)→World→Prop} {l:List (Int × Int)} {w W W':World} (h:J n0 K l w W) (hB:Below W.heap.size W W'):J n0 K l w W' :=
 h.step ⟨⟨hB.os,hB.tape,hB.output,hB.size,fun i _ _ ho _=>(hB.block i (lt_of_blk ho)).trans ho⟩,fun X hX=>h.k X ((Sil.pure hB).trans hX),Nat.le_trans h.le h.bel.size⟩
theorem J.alloc {n0:Bs} {K:List (Int × Int)→World→Prop} {l:List (Int × Int)} {w W:World} (h:J n0 K l w W) (o:Obj):J n0 K l w (W.alloc o):=h.pure ((Below.refl _ _).alloc (Nat.le_refl _) o)
theorem J.drew {n0:Bs} {K:List (Int × Int)→World→Prop} {l:List (Int × Int)} {w W:World} (h:J n0 K l w W):J n0 K l w W.drew:=h.pure (Below.refl _ _).drew
def TyAt (W:World) (b t:Nat):Prop:=∃c,W.heap[b]? = some (.cells c t (0,0))
theorem TyAt.set {W:World} {b t:Nat} (h:TyAt W b t) (j:Nat) (v:Value):TyAt (W.setCell ⟨b,j,none⟩ v) b t:=by
 obtain ⟨c,h⟩:=h;exact ⟨_,heap_setCell_same _ b j _ _ v h⟩
theorem J.setCell {n0:Bs} {K:List (Int × Int)→World→Prop} {l:List (Int × Int)} {w W:World} (h:J n0 K l w W) {b t:Nat} (hb:w.heap.size≤b) (hx:TyAt W b t) (ht:¬n0.N t) (j:Nat) (v:Value):J n0 K l w (W.setCell ⟨b,j,none⟩ v):=by
 refine ⟨⟨h.bel.os,h.bel.tape,h.bel.output,Nat.le_trans h.bel.size (by simp[World.setCell]),fun i o hi ho hn=> ?_⟩,fun X hX=>h.k X ((show Sil n0 W (W.setCell ⟨b,j,none⟩ v) from ⟨rfl,rfl,rfl,by simp[World.setCell],fun i o ho hn=> ?_⟩).trans hX),h.le⟩
 ·rw[Below.heap_setCell _ _ _ _ (by show i≠b;omega)]
  exact h.bel.keep i o hi ho hn
 ·by_cases hib:i=b
  ·subst hib;obtain ⟨c,hx⟩:=hx;rw[hx] at ho
   injection ho with ho
   subst ho
   rcases hn with hn | hn
   ·have:=h.le;omega
   ·exact absurd hn (not_nt ht)
  ·rw[Below.heap_setCell _ _ _ _ hib];exact ho
theorem J.block {n0:Bs} {K:List (Int × Int)→World→Prop} {l:List (Int × Int)} {w W:World} (h:J n0 K l w W) {b t:Nat} {c:Array Value} {r:Nat × Nat} (hx:w.heap[b]? = some (.cells c t r)) (ht:¬n0.N t):W.heap[b]? = some (.cells c t r) :=
 h.bel.keep b _ (lt_of_blk hx) hx (.inr (not_nt ht))
theorem J.cell {n0:Bs} {K:List (Int × Int)→World→Prop} {l:List (Int × Int)} {w W:World} (h:J n0 K l w W) {p:Addr} {v:Value} (hp:p.block<n0.n) (hx:w.cell? p=some v):W.cell? p=some v:=by
 have hlt:p.block<w.heap.size:=Nat.lt_of_lt_of_le hp h.le;have hk:=h.bel.keep p.block (w.heap[p.block]) hlt (by rw[Array.getElem?_eq_getElem hlt]) (.inl hp);rw[←hx];exact World.cell?_of_block (w:=w) (hk.trans (Array.getElem?_eq_getElem hlt).symm)
theorem Row1.onJ {n0:Bs} {K:List (Int × Int)→World→Prop} {l:List (Int × Int)} {w w':World} {b:Nat} {x:Int} (h:Row1 w b x) (hJ:J n0 K l w w'):Row1 w' b x:=hJ.block h n0.u64
theorem Row2.onJ {n0:Bs} {K:List (Int × Int)→World→Prop} {l:List (Int × Int)} {w w':World} {b:Nat} {x y:Int} (h:Row2 w b x y) (hJ:J n0 K l w w'):Row2 w' b x y:=hJ.block h n0.u64
theorem PBox.onJ {n0:Bs} {K:List (Int × Int)→World→Prop} {l:List (Int × Int)} {w w':World} {b:Nat} {p:Pt} (h:PBox w b p) (hJ:J n0 K l w w'):PBox w' b p:=hJ.block h n0.ptr
theorem PBox2.onJ {n0:Bs} {K:List (Int × Int)→World→Prop} {l:List (Int × Int)} {w w':World} {b:Nat} {p q:Pt} (h:PBox2 w b p q) (hJ:J n0 K l w w'):PBox2 w' b p q:=hJ.block h n0.ptr
theorem OBox.onJ {n0:Bs} {K:List (Int × Int)→World→Prop} {l:List (Int × Int)} {w w':World} {b:Nat} {o:Ob} (h:OBox w b o) (hJ:J n0 K l w w'):OBox w' b o:=hJ.block h n0.obj
theorem VBox.onJ {n0:Bs} {K:List (Int × Int)→World→Prop} {l:List (Int × Int)} {w w':World} {b:Nat} {v:Va} (h:VBox w b v) (hJ:J n0 K l w w'):VBox w' b v:=hJ.block h n0.val
theorem Bx.onJ {n0:Bs} {K:List (Int × Int)→World→Prop} {l:List (Int × Int)} {w w':World} {b t:Nat} {v:Value} (h:Bx w b t v) (hJ:J n0 K l w w') (ht:¬n0.N t):Bx w' b t v:=hJ.block h ht
theorem Row1.ty {w:World} {b:Nat} {x:Int} (h:Row1 w b x):TyAt w b 44:=⟨_,h⟩
theorem Row2.ty {w:World} {b:Nat} {x y:Int} (h:Row2 w b x y):TyAt w b 44:=⟨_,h⟩
theorem PBox.ty {w:World} {b:Nat} {p:Pt} (h:PBox w b p):TyAt w b 70:=⟨_,h⟩
theorem PBox2.ty {w:World} {b:Nat} {p q:Pt} (h:PBox2 w b p q):TyAt w b 70:=⟨_,h⟩
theorem OBox.ty {w:World} {b:Nat} {o:Ob} (h:OBox w b o):TyAt w b 129:=⟨_,h⟩
theorem VBox.ty {w:World} {b:Nat} {v:Va} (h:VBox w b v):TyAt w b 54:=⟨_,h⟩
theorem Bx.ty {w:World} {b t:Nat} {v:Value} (h:Bx w b t v):TyAt w b t:=⟨_,h⟩
theorem jset8 {n0:Bs} {K:List (Int × Int)→World→Prop} {l:List (Int × Int)} {w W:World} {g:Nat} (h:J n0 K l w W) (hg:w.heap.size≤g) (hx:TyAt W g 70) (a0 a1 a2 a3 a4 a5 a6 a7:Value) :
  J n0 K l w ((((((((W.setCell ⟨g,0,none⟩ a0).setCell ⟨g,1,none⟩ a1).setCell ⟨g,2,none⟩ a2).setCell ⟨g,3,none⟩ a3).setCell ⟨g,4,none⟩ a4).setCell ⟨g,5,none⟩ a5).setCell ⟨g,6,none⟩ a6).setCell ⟨g,7,none⟩ a7) :=
 ((((((((h.setCell hg hx n0.ptr 0 a0).setCell hg (hx.set 0 a0) n0.ptr 1 a1).setCell hg ((hx.set 0 a0).set 1 a1) n0.ptr 2 a2).setCell hg (((hx.set 0 a0).set 1 a1).set 2 a2) n0.ptr 3 a3).setCell hg ((((hx.set 0 a0).set 1 a1).set 2 a2).set 3 a3) n0.ptr 4 a4).setCell hg (((((hx.set 0 a0).set 1 a1).set 2 a2).set 3 a3).set 4 a4) n0.ptr 5 a5).setCell hg ((((((hx.set 0 a0).set 1 a1).set 2 a2).set 3 a3).set 4 a4).set 5 a5) n0.ptr 6 a6).setCell hg (((((((hx.set 0 a0).set 1 a1).set 2 a2).set 3 a3).set 4 a4).set 5 a5).set 6 a6) n0.ptr 7 a7)
theorem jset8' {n0:Bs} {K:List (Int × Int)→World→Prop} {l:List (Int × Int)} {w W:World} {g:Nat} (h:J n0 K l w W) (hg:w.heap.size≤g) (hx:TyAt W g 70) (a0 a1 a2 a3 a4 a5 a6 a7:Value) :
  J n0 K l w ((((((((W.setCell ⟨g,8,none⟩ a0).setCell ⟨g,9,none⟩ a1).setCell ⟨g,10,none⟩ a2).setCell ⟨g,11,none⟩ a3).setCell ⟨g,12,none⟩ a4).setCell ⟨g,13,none⟩ a5).setCell ⟨g,14,none⟩ a6).setCell ⟨g,15,none⟩ a7) :=
 ((((((((h.setCell hg hx n0.ptr 8 a0).setCell hg (hx.set 8 a0) n0.ptr 9 a1).setCell hg ((hx.set 8 a0).set 9 a1) n0.ptr 10 a2).setCell hg (((hx.set 8 a0).set 9 a1).set 10 a2) n0.ptr 11 a3).setCell hg ((((hx.set 8 a0).set 9 a1).set 10 a2).set 11 a3) n0.ptr 12 a4).setCell hg (((((hx.set 8 a0).set 9 a1).set 10 a2).set 11 a3).set 12 a4) n0.ptr 13 a5).setCell hg ((((((hx.set 8 a0).set 9 a1).set 10 a2).set 11 a3).set 12 a4).set 13 a5) n0.ptr 14 a6).setCell hg (((((((hx.set 8 a0).set 9 a1).set 10 a2).set 11 a3).set 12 a4).set 13 a5).set 14 a6) n0.ptr 15 a7)
theorem jset7 {n0:Bs} {K:List (Int × Int)→World→Prop} {l:List (Int × Int)} {w W:World} {g:Nat} (h:J n0 K l w W) (hg:w.heap.size≤g) {o:Ob} (hO:OBox W g o) (a0 a1 a2 a3 a4 a5 a6:Value) :
  J n0 K l w (((((((W.setCell ⟨g,0,none⟩ a0).setCell ⟨g,1,none⟩ a1).setCell ⟨g,2,none⟩ a2).setCell ⟨g,3,none⟩ a3).setCell ⟨g,4,none⟩ a4).setCell ⟨g,5,none⟩ a5).setCell ⟨g,6,none⟩ a6) :=
 have hx:=hO.ty
 (((((((h.setCell hg hx n0.obj 0 a0).setCell hg (hx.set 0 a0) n0.obj 1 a1).setCell hg ((hx.set 0 a0).set 1 a1) n0.obj 2 a2).setCell hg (((hx.set 0 a0).set 1 a1).set 2 a2) n0.obj 3 a3).setCell hg ((((hx.set 0 a0).set 1 a1).set 2 a2).set 3 a3) n0.obj 4 a4).setCell hg (((((hx.set 0 a0).set 1 a1).set 2 a2).set 3 a3).set 4 a4) n0.obj 5 a5).setCell hg ((((((hx.set 0 a0).set 1 a1).set 2 a2).set 3 a3).set 4 a4).set 5 a5) n0.obj 6 a6)
theorem jset5 {n0:Bs} {K:List (Int × Int)→World→Prop} {l:List (Int × Int)} {w W:World} {g:Nat} (h:J n0 K l w W) (hg:w.heap.size≤g) {o:Va} (hO:VBox W g o) (a0 a1 a2 a3 a4:Value) :
  J n0 K l w (((((W.setCell ⟨g,0,none⟩ a0).setCell ⟨g,1,none⟩ a1).setCell ⟨g,2,none⟩ a2).setCell ⟨g,3,none⟩ a3).setCell ⟨g,4,none⟩ a4) :=
 have hx:=hO.ty
 (((((h.setCell hg hx n0.val 0 a0).setCell hg (hx.set 0 a0) n0.val 1 a1).setCell hg ((hx.set 0 a0).set 1 a1) n0.val 2 a2).setCell hg (((hx.set 0 a0).set 1 a1).set 2 a2) n0.val 3 a3).setCell hg ((((hx.set 0 a0).set 1 a1).set 2 a2).set 3 a3) n0.val 4 a4)
structure SrcN (n0:Bs) (K:List (Int × Int)→World→Prop) (s:Value) (sr:Sr):Prop where
 good:sr.Good
 on:∀{l:List (Int × Int)} {w w':World},K l w→Sil n0 w w'→K l w'
 le:∀{l:List (Int × Int)} {w:World},K l w→n0.n≤w.heap.size
 laid:∀{l:List (Int × Int)} {w:World},K l w→Laid w
 form:∃t v,s= .iface t v
 word:∀(l:List (Int × Int)) (g a:Int) (w:World),l.length<1000000→K l w→In64 g→In64 a→Calls Tryz.prog 102 #[s,.int .i64 g,.int .i64 a] w fun e w'=>∃l',e= .returned (.tuple #[.int .u64 (sr.wd g a),.int .u16 (sr.we g a)])∧(sr.we g a=0→l'=l ++ [(g,a)])∧J n0 K l' w w'
 sizes:∀(l:List (Int × Int)) (w:World),K l w→Calls Tryz.prog 131 #[s] w fun e w'=>∃u,e= .returned u∧NumS .i64 w' w'.heap.size u sr.sz∧Below w.heap.size w w'
theorem SrcN.at_ {n0:Bs} {K:List (Int × Int)→World→Prop} {s:Value} {sr:Sr} (H:SrcN n0 K s sr) {l:List (Int × Int)} {w:World} (hK:K l w):J n0 K l w w :=
 ⟨⟨rfl,rfl,rfl,Nat.le_refl _,fun _ _ _ h _=>h⟩,fun _ h=>H.on hK h,H.le hK⟩
def PtrsN (n0:Bs) (K:List (Int × Int)→World→Prop) (l R:List (Int × Int)) (x:Int) (Q:World→Value→Prop) (w:World) (e:Ending) (w':World):Prop :=
 ∃v l',e= .returned (.tuple #[v,.int .u16 x])∧(x=0→Q w' v∧l'=l ++ R)∧J n0 K l' w w'
def ObN (n0:Bs) (K:List (Int × Int)→World→Prop) (l R:List (Int × Int)) (t:Ob × Int) (w:World) (e:Ending) (w':World):Prop :=
 ∃l',e= .returned (.tuple #[.agg (cellsO t.1),.int .u16 t.2])∧(t.2=0→l'=l ++ R)∧J n0 K l' w w'
set_option maxHeartbeats 1000000 in
theorem pointers_1N {n0:Bs} {K:List (Int × Int)→World→Prop} {s:Value} {sr:Sr} (H:SrcN n0 K s sr) (l:List (Int × Int)) (hlb:l.length+2≤1000000) (g a:Int) (w:World) (hK:K l w) (hg:In64 g) (ha:In64 a) :
  Calls Tryz.prog 144 #[s,.int .i64 g,.int .i64 a,.int .i64 1] w (PtrsN n0 K l [(g,a)] (ptE sr g a) (One (ptS sr g a)) w):=by
 obtain ⟨t,v,rfl⟩:=H.form;have HH:=LH H;have hm1:=run_make_row' (P:=Tryz.prog) 31 44 (.int .u64 0) 8 Tryz.underlying31 Tryz.info44 rfl .i64 .i64 1 (by omega) (by omega);have hm2:=run_make_P 1 (by omega);rw[made_1] at hm2;rw[show ((1:Nat):Int)=1 from rfl] at hm1 hm2
 rw[made_u1] at hm1;have HK:=LH hK;have HG:=LH hg;have HA:=LH ha;have hwa:IntKind.i64.wrap a=a:=IntWalk.i64_in _ ha;obtain ⟨X,hX⟩:∃X,X=sr.wd g a:=⟨_,rfl⟩;obtain ⟨E,hE⟩:∃E,E=sr.we g a:=⟨_,rfl⟩;have HPt:Hid (ptS sr g a=decP X):=LH (by rw[hX];rfl);have HPe:Hid (ptE sr g a=if E=0 then decE X else E):=LH (by rw[hX,hE,←ite_err];rfl)
 have HW:=LH (fun Y (hY:K l Y)=>H.word l g a Y (by omega) hY hg ha)
 have HD:=LH (fun Y (hY:Laid Y)=>dec_any X Y hY (by rw[hX];exact (H.good.wd g a).1) (by rw[hX];exact (H.good.wd g a).2))
 rw[←hX,←hE] at HW;rw[HPt.out];obtain ⟨Z,hZ⟩:∃Z,Z=ptE sr g a:=⟨_,rfl⟩;have HZ:Hid (Z=if E=0 then decE X else E):=LH (hZ.trans HPe.out)
 rw[←hZ];clear hX hE hZ HPt HPe H hK hg ha hlb;go_enter Tryz.func144,Tryz.ntmps144;go_upto_region 1 with fail
 go_cut [10,11] (fun x y wx=>∃b1 b2,x= .slice (some ⟨b1,0,none⟩) 1 1∧y= .slice (some ⟨b2,0,none⟩) 1 1∧Row1 wx b1 0∧PBox wx b2 Pt.zero∧b1≠b2∧w.heap.size≤b1∧w.heap.size≤b2∧Below w.heap.size w wx)
 case first =>
  go_region
  ·go_wp2_with fail
   go_meet;obtain ⟨e1,e2,e3⟩:=two_new w #[.int .u64 0] (cellsP Pt.zero) 44 70;exact ⟨_,_,rfl,rfl,e1,e2,by omega,by omega,by omega,e3⟩
  ·go_wp2_with fail
   go_meet;obtain ⟨e1,e2,e3⟩:=two_new w (cellsP Pt.zero) #[.int .u64 0] 70 44;exact ⟨_,_,rfl,rfl,e2,e1,by omega,by omega,by omega,e3⟩
 case rest =>
  obtain ⟨b1,b2,rfl,rfl,hr1,hp1,hne,hb1,hb2,hB1⟩:=hcut;obtain ⟨c0,f0⟩:=hr1.cell;have HB1:=LH ((HH.out.at_ HK.out).pure hB1);have HP1:=LH hp1;have HR1:=LH hr1;have HW1:=HW.out wc HB1.out.kk;have HNe:=LH hne;have HLe:=LH (And.intro hb1 hb2);clear hm1 hm2 hr1 hp1 hne hb1 hb2 hB1
  go_wp2_with fail
  refine wp_loop_rounds 2 ?_
  rw[rounds_succ]
  go_wp2_with fail
  refine HW1.mono ?_
  rintro e w2 ⟨l2,rfl,hl2,hJ2⟩;have HR2:=LH (HR1.out.onJ hJ2);have HP2:=LH (HP1.out.onJ hJ2);have HB2:=LH (HB1.out.step hJ2);obtain ⟨c0',f0'⟩:=HR2.out.cell;have HR3:=LH (HR2.out.set X);have HP3:=LH (HP2.out.other HNe.out.symm 0 (.int .u64 X));have HB3:=LH (HB2.out.setCell HLe.out.1 HR2.out.ty n0.u64 0 (.int .u64 X));clear hJ2 c0 f0 HW1
  by_cases hE:E=0
  ·subst hE;have HL2:=LH (hl2 rfl);clear hl2;have HD3:=HD.out _ (HH.out.laid HB3.out.kk);obtain rfl:Z=decE X:=HZ.out.trans (if_pos rfl);clear HZ;generalize decE X=D at *
   generalize decP X=p at *
   obtain ⟨c0,f0⟩:=HR3.out.cell;have HLd:Hid (∀Y,Below (w2.setCell ⟨b1,0,none⟩ (.int .u64 X)).heap.size (w2.setCell ⟨b1,0,none⟩ (.int .u64 X)) Y→PBox Y b2 Pt.zero∧J n0 K l2 w Y):=LH (fun Y hY=>⟨HP3.out.on hY,HB3.out.pure hY⟩)
   go_wp2_with fail
   rw[rounds_succ]
   go_wp2_with fail
   refine wp_loop_rounds 2 ?_
   rw[rounds_succ]
   go_wp2_with fail
   refine HD3.mono ?_
   rintro e w3 ⟨rfl,hB4⟩;obtain ⟨hp4,hB5⟩:=HLd.out _ hB4;have HP4:=LH hp4;have HB5:=LH hB5;clear hB4 hp4 hB5 c0 f0 c0' f0' HLd HD3;obtain ⟨y0,y1,y2,y3,y4,y5,y6,y7⟩:=HP4.out.cells;obtain ⟨f0,f1,f2,f3,f4,f5,f6,f7⟩:=HP4.out.frozens;unfold Pt.zero at y0 y1 y2 y3 y4 y5 y6 y7;dsimp only at y0 y1 y2 y3 y4 y5 y6 y7;obtain ⟨q0,q1,q2,q3,q4,q5,q6,q7⟩:=p;have HP5:=LH (HP4.out.set8 q0 q1 q2 q3 q4 q5 q6 q7);have HB6:=LH (jset8 HB5.out HLe.out.2 HP4.out.ty (.int .i64 q0) (.int .i64 q1) (.int .i64 q2) (.int .i64 q3) (.int .i64 q4) (.int .i64 q5) (.int .i64 q6) (.bool q7));unfold cellsP;dsimp only
   by_cases hD:D=0
   ·subst hD
    go_wp2_with fail
    rw[rounds_succ]
    go_wp2_with fail
    go_ret2;exact ⟨_,_,rfl,fun _=>⟨⟨_,rfl,HP5.out⟩,HL2.out⟩,HB6.out⟩
   ·have hD1:(D != 0)=true:=by simp[hD]
    go_wp2_with fail
    go_ret2;exact ⟨_,_,rfl,fun h=>absurd h hD,HB6.out⟩
  ·clear hl2;have hE1:(E != 0)=true:=by simp[hE]
   obtain rfl:Z=E:=HZ.out.trans (if_neg hE);clear HZ
   go_wp2_with fail
   go_ret2;exact ⟨_,_,rfl,fun h=>absurd h hE,HB3.out⟩
set_option maxHeartbeats 2000000 in
theorem pointers_2N {n0:Bs} {K:List (Int × Int)→World→Prop} {s:Value} {sr:Sr} (H:SrcN n0 K s sr) (l:List (Int × Int)) (hlb:l.length+2≤1000000) (g a:Int) (w:World) (hK:K l w) (hg:In64 g) (ha:0≤a∧a<1000000000) :
  Calls Tryz.prog 144 #[s,.int .i64 g,.int .i64 a,.int .i64 2] w (PtrsN n0 K l [(g,a),(g,a+1)] (ptE2 sr g a) (TwoP (ptS sr g a) (ptS sr g (a+1))) w):=by
 obtain ⟨t,v,rfl⟩:=H.form;have HH:=LH H;have hm1:=run_make_row' (P:=Tryz.prog) 31 44 (.int .u64 0) 8 Tryz.underlying31 Tryz.info44 rfl .i64 .i64 2 (by omega) (by omega);have hm2:=run_make_P 2 (by omega);rw[made_2] at hm2;rw[show ((2:Nat):Int)=2 from rfl] at hm1 hm2
 rw[made_u2] at hm1;have HK:=LH hK;have ha0:In64 a:=⟨by omega,by omega⟩
 have ha1:In64 (a+1):=⟨by omega,by omega⟩
 have hwa:IntKind.i64.wrap a=a:=IntWalk.i64_in _ ha0;have hwb:IntKind.i64.wrap (a+1)=a+1:=IntWalk.i64_in _ ha1;obtain ⟨X,hX⟩:∃X,X=sr.wd g a:=⟨_,rfl⟩;obtain ⟨E,hE⟩:∃E,E=sr.we g a:=⟨_,rfl⟩;obtain ⟨Y,hY⟩:∃X,X=sr.wd g (a+1):=⟨_,rfl⟩;obtain ⟨F,hF⟩:∃E,E=sr.we g (a+1):=⟨_,rfl⟩;have HPt:Hid (ptS sr g a=decP X∧ptS sr g (a+1)=decP Y):=LH ⟨by rw[hX];rfl,by rw[hY];rfl⟩
 have HPe:Hid (ptE2 sr g a=if E=0 then (if F=0 then (if decE X=0 then decE Y else decE X) else F) else E):=LH (by rw[hX,hE,hY,hF,←ite_err,←ite_err,←ite_err];rfl)
 have HW:=LH (fun Y (hY:K l Y)=>H.word l g a Y (by omega) hY hg ha0)
 have HV:=LH (fun l (hl:l.length<1000000) Y (hY:K l Y)=>H.word l g (a+1) Y hl hY hg ha1)
 have HD:=LH (fun Y (hY:Laid Y)=>dec_any X Y hY (by rw[hX];exact (H.good.wd g a).1) (by rw[hX];exact (H.good.wd g a).2))
 have HC:=LH (fun Z (hZ:Laid Z)=>dec_any Y Z hZ (by rw[hY];exact (H.good.wd g (a+1)).1) (by rw[hY];exact (H.good.wd g (a+1)).2))
 rw[←hX,←hE] at HW;rw[←hY,←hF] at HV;rw[HPt.out.1,HPt.out.2];obtain ⟨Z,hZ⟩:∃Z,Z=ptE2 sr g a:=⟨_,rfl⟩;have HZ:Hid (Z=if E=0 then (if F=0 then (if decE X=0 then decE Y else decE X) else F) else E):=LH (hZ.trans HPe.out)
 rw[←hZ];clear hX hE hY hF hZ HPt HPe H hK hg ha ha0 ha1;have HLB:=LH hlb;clear hlb;go_enter Tryz.func144,Tryz.ntmps144;go_upto_region 1 with fail
 go_cut [10,11] (fun x y wx=>∃b1 b2,x= .slice (some ⟨b1,0,none⟩) 2 2∧y= .slice (some ⟨b2,0,none⟩) 2 2∧Row2 wx b1 0 0∧PBox2 wx b2 Pt.zero Pt.zero∧b1≠b2∧w.heap.size≤b1∧w.heap.size≤b2∧Below w.heap.size w wx)
 case first =>
  go_region
  ·go_wp2_with fail
   go_meet;obtain ⟨e1,e2,e3⟩:=two_new w #[.int .u64 0,.int .u64 0] (cellsP Pt.zero ++ cellsP Pt.zero) 44 70;exact ⟨_,_,rfl,rfl,e1,e2,by omega,by omega,by omega,e3⟩
  ·go_wp2_with fail
   go_meet;obtain ⟨e1,e2,e3⟩:=two_new w (cellsP Pt.zero ++ cellsP Pt.zero) #[.int .u64 0,.int .u64 0] 70 44;exact ⟨_,_,rfl,rfl,e2,e1,by omega,by omega,by omega,e3⟩
 case rest =>
  obtain ⟨b1,b2,rfl,rfl,hr1,hp1,hne,hb1,hb2,hB1⟩:=hcut;obtain ⟨c0,c1,f0,f1⟩:=hr1.cell;have HB1:=LH ((HH.out.at_ HK.out).pure hB1);have HP1:=LH hp1;have HR1:=LH hr1;have HW1:=HW.out wc HB1.out.kk;have HNe:=LH hne;have HLe:=LH (And.intro hb1 hb2);clear hm1 hm2 hr1 hp1 hne hb1 hb2 hB1
  go_wp2_with fail
  refine wp_loop_rounds 3 ?_
  rw[rounds_succ]
  go_wp2_with fail
  refine HW1.mono ?_
  rintro e w2 ⟨l2,rfl,hl2,hJ2⟩;have HR2:=LH (HR1.out.onJ hJ2);have HP2:=LH (HP1.out.onJ hJ2);have HB2:=LH (HB1.out.step hJ2);clear hJ2 c0 c1 f0 f1 HW1;obtain ⟨c0,c1,f0,f1⟩:=HR2.out.cell;have HR3:=LH (HR2.out.set1 X);have HP3:=LH (HP2.out.other HNe.out.symm 0 (.int .u64 X));have HB3:=LH (HB2.out.setCell HLe.out.1 HR2.out.ty n0.u64 0 (.int .u64 X))
  by_cases hE:E=0
  ·subst hE;have HL2:=LH (hl2 rfl);clear hl2;have HZ1:Hid (Z=if F=0 then (if decE X=0 then decE Y else decE X) else F):=LH (HZ.out.trans (if_pos rfl))
   clear HZ;have HV3:=HV.out _ (by rw[HL2.out,List.length_append,List.length_singleton];have:=HLB.out;omega) _ HB3.out.kk
   go_wp2_with fail
   rw[rounds_succ];generalize w2.setCell ⟨b1,0,none⟩ (.int .u64 X)=W3 at *
   clear c0 c1 f0 f1 HR2 HP2 HB2
   go_wp2_with fail
   refine HV3.mono ?_
   rintro e w4 ⟨l4,rfl,hl4,hJ4⟩;have HR4:=LH (HR3.out.onJ hJ4);have HP4:=LH (HP3.out.onJ hJ4);have HB4:=LH (HB3.out.step hJ4);clear hJ4 HV3;obtain ⟨c0,c1,f0,f1⟩:=HR4.out.cell;have HR5:=LH (HR4.out.set2 Y);have HP5:=LH (HP4.out.other HNe.out.symm 1 (.int .u64 Y));have HB5:=LH (HB4.out.setCell HLe.out.1 HR4.out.ty n0.u64 1 (.int .u64 Y))
   by_cases hF:F=0
   ·subst hF;have HL4:=LH (hl4 rfl);clear hl4;have HZ2:Hid (Z=if decE X=0 then decE Y else decE X):=LH (HZ1.out.trans (if_pos rfl))
    clear HZ1;have HL5:=LH (HH.out.laid HB5.out.kk);have HD5:=HD.out _ HL5.out
    go_wp2_with fail
    rw[rounds_succ];generalize w4.setCell ⟨b1,1,none⟩ (.int .u64 Y)=W5 at *
    clear c0 c1 f0 f1 HR4 HP4 HB4;obtain ⟨c0,c1,f0,f1⟩:=HR5.out.cell
    go_wp2_with fail
    refine wp_loop_rounds 3 ?_
    rw[rounds_succ]
    go_wp2_with fail
    refine HD5.mono ?_
    rintro e w6 ⟨rfl,hB6⟩;have HR6:=LH (HR5.out.on hB6);have HP6:=LH (HP5.out.on hB6);have HB6:=LH (HB5.out.pure hB6);clear hB6 HD5 c0 c1 f0 f1;obtain ⟨y0,y1,y2,y3,y4,y5,y6,y7⟩:=HP6.out.cells1;obtain ⟨f0,f1,f2,f3,f4,f5,f6,f7⟩:=HP6.out.frozens1;unfold Pt.zero at y0 y1 y2 y3 y4 y5 y6 y7;dsimp only at y0 y1 y2 y3 y4 y5 y6 y7;generalize decE X=D at *
    generalize decP X=p at *
    obtain ⟨q0,q1,q2,q3,q4,q5,q6,q7⟩:=p;have HP7:=LH (HP6.out.set1 q0 q1 q2 q3 q4 q5 q6 q7);have HB7:=LH (jset8 HB6.out HLe.out.2 HP6.out.ty (.int .i64 q0) (.int .i64 q1) (.int .i64 q2) (.int .i64 q3) (.int .i64 q4) (.int .i64 q5) (.int .i64 q6) (.bool q7));have HR7:=LH ((((((((HR6.out.other HNe.out 0 (.int .i64 q0)).other HNe.out 1 (.int .i64 q1)).other HNe.out 2 (.int .i64 q2)).other HNe.out 3 (.int .i64 q3)).other HNe.out 4 (.int .i64 q4)).other HNe.out 5 (.int .i64 q5)).other HNe.out 6 (.int .i64 q6)).other HNe.out 7 (.bool q7));unfold cellsP;dsimp only
    by_cases hD:D=0
    ·subst hD;obtain rfl:Z=decE Y:=HZ2.out.trans (if_pos rfl);clear HZ2;have HL7:=LH (HH.out.laid HB7.out.kk);have HC7:=HC.out _ HL7.out
     go_wp2_with fail
     rw[rounds_succ];generalize ((((((((w6.setCell ⟨b2,0,none⟩ (.int .i64 q0)).setCell ⟨b2,1,none⟩ (.int .i64 q1)).setCell ⟨b2,2,none⟩ (.int .i64 q2)).setCell ⟨b2,3,none⟩ (.int .i64 q3)).setCell ⟨b2,4,none⟩ (.int .i64 q4)).setCell ⟨b2,5,none⟩ (.int .i64 q5)).setCell ⟨b2,6,none⟩ (.int .i64 q6)).setCell ⟨b2,7,none⟩ (.bool q7))=W7 at *
     clear y0 y1 y2 y3 y4 y5 y6 y7 f0 f1 f2 f3 f4 f5 f6 f7 HR6 HP6 HB6;obtain ⟨c0,c1,f0,f1⟩:=HR7.out.cell
     go_wp2_with fail
     refine HC7.mono ?_
     rintro e w8 ⟨rfl,hB8⟩;have HP8:=LH (HP7.out.on hB8);have HB8:=LH (HB7.out.pure hB8);clear hB8 HC7 c0 c1 f0 f1;obtain ⟨y0,y1,y2,y3,y4,y5,y6,y7⟩:=HP8.out.cells2;obtain ⟨f0,f1,f2,f3,f4,f5,f6,f7⟩:=HP8.out.frozens2;unfold Pt.zero at y0 y1 y2 y3 y4 y5 y6 y7;dsimp only at y0 y1 y2 y3 y4 y5 y6 y7;generalize decE Y=G at *
     generalize decP Y=p at *
     obtain ⟨r0,r1,r2,r3,r4,r5,r6,r7⟩:=p;have HP9:=LH (HP8.out.set2 r0 r1 r2 r3 r4 r5 r6 r7);have HB9:=LH (jset8' HB8.out HLe.out.2 HP8.out.ty (.int .i64 r0) (.int .i64 r1) (.int .i64 r2) (.int .i64 r3) (.int .i64 r4) (.int .i64 r5) (.int .i64 r6) (.bool r7));unfold cellsP;dsimp only
     by_cases hG:G=0
     ·subst hG
      go_wp2_with fail
      rw[rounds_succ]
      go_wp2_with fail
      go_ret2;exact ⟨_,_,rfl,fun _=>⟨⟨_,rfl,HP9.out⟩,by rw[HL4.out,HL2.out,List.append_assoc];rfl⟩,HB9.out⟩
     ·have hG1:(G != 0)=true:=by simp[hG]
      go_wp2_with fail
      go_ret2;exact ⟨_,_,rfl,fun h=>absurd h hG,HB9.out⟩
    ·have hD1:(D != 0)=true:=by simp[hD]
     obtain rfl:Z=D:=HZ2.out.trans (if_neg hD);clear HZ2
     go_wp2_with fail
     go_ret2;exact ⟨_,_,rfl,fun h=>absurd h hD,HB7.out⟩
   ·clear hl4;have hF1:(F != 0)=true:=by simp[hF]
    obtain rfl:Z=F:=HZ1.out.trans (if_neg hF);clear HZ1
    go_wp2_with fail
    go_ret2;exact ⟨_,_,rfl,fun h=>absurd h hF,HB5.out⟩
  ·clear hl2;have hE1:(E != 0)=true:=by simp[hE]
   obtain rfl:Z=E:=HZ.out.trans (if_neg hE);clear HZ
   go_wp2_with fail
   go_ret2;exact ⟨_,_,rfl,fun h=>absurd h hE,HB3.out⟩
end Go.Proofs.YtmmlfnblodfjbaaGreatDoor
