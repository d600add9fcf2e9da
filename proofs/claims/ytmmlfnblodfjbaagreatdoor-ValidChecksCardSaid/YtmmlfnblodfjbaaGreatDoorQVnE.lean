/- Layer 11: the noter: its Word notes the place of each word that is there. -/
import Derived.Test.YtmmlfnblodfjbaaGreatDoorQVnD
import Derived.Test.YtmmlfnblodfjbaaGreatDoorQSpanB
set_option maxRecDepth 100000
namespace Go.Proofs.YtmmlfnblodfjbaaGreatDoor
open Go.RowKit Go.Deep
abbrev NtB (w0:World):Bs:=⟨w0.heap.size,fun t=>t=67∨t=89,by decide,by decide,by decide,by decide,by decide,by decide,by decide⟩
def NoBox (w:World) (nb:Nat) (s r:Value):Prop:=w.heap[nb]? = some (.cells #[s,r] 89 (0,0))
theorem NoBox.lt {w:World} {nb:Nat} {s r:Value} (h:NoBox w nb s r):nb<w.heap.size:=(Array.getElem?_eq_some_iff.1 h).1
theorem NoBox.on {w w':World} {nb:Nat} {s r:Value} (h:NoBox w nb s r) (hB:Below w.heap.size w w'):NoBox w' nb s r:=(hB.block nb h.lt).trans h
theorem NoBox.cells {w:World} {nb:Nat} {s r:Value} (h:NoBox w nb s r):w.cell? ⟨nb,0,none⟩=some s∧w.cell? ⟨nb,1,none⟩=some r∧w.frozen? ⟨nb,1,none⟩=false:=by
 unfold NoBox at h
 simp[World.cell?,World.frozen?,h]
theorem NoBox.set {w:World} {nb:Nat} {s r:Value} (h:NoBox w nb s r) (u:Value):NoBox (w.setCell ⟨nb,1,none⟩ u) nb s u:=by
 have:=heap_setCell_same _ nb 1 _ _ u h;unfold NoBox;rw[this]
 simp
theorem OwnS.block {w:World} {base:Nat} {v:Value} {l:List Sp} (h:OwnS w base v l) {g:Nat} (hg:v.ownBlock=some g):∃c r,w.heap[g]? = some (.cells c 67 r):=by
 obtain ⟨_,⟨rfl,_⟩ | ⟨g',cap,cur,rfl,_,hh,_⟩⟩:=h
 ·cases hg
 ·cases hg
  exact ⟨_,_,hh⟩
theorem OwnS.apart {w:World} {base:Nat} {v s r:Value} {l:List Sp} {nb:Nat} (h:OwnS w base v l) (hn:NoBox w nb s r):v.ownBlock≠some nb:=by
 intro e;obtain ⟨c,q,hh⟩:=h.block e;rw[show w.heap[nb]? = _ from hn] at hh
 injection hh with hh
 injection hh with _ h2 _
 exact absurd h2 (by decide)
theorem OwnS.other {w:World} {base:Nat} {v:Value} {l:List Sp} (h:OwnS w base v l) {nb:Nat} (hne:v.ownBlock≠some nb) (j:Nat) (u:Value):OwnS (w.setCell ⟨nb,j,none⟩ u) base v l:=by
 obtain ⟨h1,h2 | ⟨g,cap,cur,rfl,hb,hh,r⟩⟩:=h
 ·exact ⟨h1,.inl h2⟩
 ·exact ⟨h1,.inr ⟨g,cap,cur,rfl,hb,(blk_setCell_other _ _ _ _ (fun e=>hne (congrArg some e))).trans hh,r⟩⟩
theorem OwnS.sil {w0 w w':World} {base:Nat} {v:Value} {l:List Sp} (h:OwnS w base v l) (hS:Sil (NtB w0) w w'):OwnS w' base v l:=by
 obtain ⟨h1,h2 | ⟨g,cap,cur,rfl,hb,hh,r⟩⟩:=h
 ·exact ⟨h1,.inl h2⟩
 ·exact ⟨h1,.inr ⟨g,cap,cur,rfl,hb,hS.keep g _ hh (.inr ⟨_,_,_,rfl,.inl rfl⟩),r⟩⟩
theorem NoBox.sil {w0 w w':World} {nb:Nat} {s r:Value} (h:NoBox w nb s r) (hS:Sil (NtB w0) w w'):NoBox w' nb s r:=hS.keep nb _ h (.inr ⟨_,_,_,rfl,.inr rfl⟩)
structure NtS (w0:World) (b:Nat) (v:Value) (ls:List (List Int)):Prop where
 box:WhBox w0 b v
 ar:ArV w0 w0.heap.size v ls
 laid:Laid w0
 len:ls.length≤1000000000
 u:AllU ls
 s64:All64 (sizesL ls)
 fits:fitsL (sizesL ls)=true
structure NtK (w0:World) (nb b:Nat) (ls:List (List Int)) (l:List (Int × Int)) (W:World):Prop where
 low:Below w0.heap.size w0 W
 ge:w0.heap.size≤nb
 box:∃rv,NoBox W nb (.iface 122 (.pointer (some ⟨b,0,none⟩))) rv∧OwnS W w0.heap.size rv (spR (sizesL ls) l)
theorem NtK.sil {w0:World} {nb b:Nat} {ls:List (List Int)} {l:List (Int × Int)} {w w':World} (h:NtK w0 nb b ls l w) (hS:Sil (NtB w0) w w'):NtK w0 nb b ls l w':=by
 obtain ⟨rv,h1,h2⟩:=h.box;exact ⟨Below.sil h.low (Nat.le_refl _) hS,h.ge,rv,h1.sil hS,h2.sil hS⟩
theorem NtK.at_ {w0:World} {nb b:Nat} {ls:List (List Int)} {l:List (Int × Int)} {w:World} (h:NtK w0 nb b ls l w):J (NtB w0) (NtK w0 nb b ls) l w w :=
 ⟨⟨rfl,rfl,rfl,Nat.le_refl _,fun _ _ _ h _=>h⟩,fun _ hS=>h.sil hS,h.low.size⟩
theorem spR_length (sz:List Int) (l:List (Int × Int)):(spR sz l).length≤l.length:=by
 unfold spR;exact List.length_filterMap_le _ _
theorem spR_snoc {sz:List Int} {l:List (Int × Int)} {g a:Int} (h:0≤placeI sz g a):spR sz (l ++ [(g,a)])=spR sz l ++ [(placeI sz g a,placeI sz g a+1)]:=by
 unfold spR;rw[List.filterMap_append]
 congr 1
 rw[List.filterMap_cons];dsimp only;rw[if_neg (by omega)]
 rfl
theorem note_on {w0 w w4 W w5:World} {nb b:Nat} {ls:List (List Int)} {l:List (Int × Int)} {g a:Int} {s rv v':Value} {row:Obj}
  (hg:w0.heap.size≤nb) (hlow:Below w0.heap.size w0 w) (hlow4:Below w.heap.size w w4) (hW:W=w4.alloc row)
  (hn:NoBox w4 nb s rv) (hs:s= .iface 122 (.pointer (some ⟨b,0,none⟩))) (ho:OwnS w4 w0.heap.size rv (spR (sizesL ls) l))
  (ho5:OwnS w5 w0.heap.size v' (spR (sizesL ls) l ++ [(placeI (sizesL ls) g a,placeI (sizesL ls) g a+1)])) (hgr:W.grownBy w5 rv.ownBlock) (hp:0≤placeI (sizesL ls) g a) :
  J (NtB w0) (NtK w0 nb b ls) (l ++ [(g,a)]) w (w5.setCell ⟨nb,1,none⟩ v'):=by
 subst hW hs;have hap:=ho.apart hn;have hlt:=World.ownsRow.lt ho;have h04:Below w0.heap.size w0 w4:=hlow.trans (hlow4.mono hlow.size);have h4:Below w4.heap.size w4 (w4.alloc row):=(Below.refl _ _).alloc (Nat.le_refl _) _;have h0:Below w0.heap.size w0 (w4.alloc row):=h04.trans (h4.mono h04.size);have h5:Below w0.heap.size w0 w5:=h0.grown hgr h0.size (fun k e=>(hlt k e).1)
 have hn4:NoBox (w4.alloc row) nb _ rv:=hn.on h4;have hn5:NoBox w5 nb (.iface 122 (.pointer (some ⟨b,0,none⟩))) rv:=(hgr.block nb hn4.lt (fun e=>hap e.symm)).trans hn4
 have hK:NtK w0 nb b ls (l ++ [(g,a)]) (w5.setCell ⟨nb,1,none⟩ v'):=by
  refine ⟨h5.setCell (p:=⟨nb,1,none⟩) hg v',hg,v',hn5.set v',?_⟩;rw[spR_snoc hp];exact ho5.other (ho5.apart hn5) 1 v'
 refine ⟨⟨?_,?_,?_,?_,fun i o hi ho' hnt=> ?_⟩,fun _ hS=>hK.sil hS,hlow.size⟩
 ·show w5.os=w.os
  rw[hgr.os];exact h4.os.trans hlow4.os
 ·show w5.tape=w.tape
  rw[hgr.tape];exact h4.tape.trans hlow4.tape
 ·show w5.output=w.output
  rw[hgr.output];exact h4.output.trans hlow4.output
 ·have h1:=hlow4.size;have h2:=h4.size;have h3:=hgr.size;simp only[World.setCell,Array.size_modify]
  omega
 ·have hi4:w4.heap[i]? = some o:=(hlow4.block i hi).trans ho';have hi4':(w4.alloc row).heap[i]? = some o:=(h4.block i (lt_of_blk hi4)).trans hi4;have hne:nb≠i:=by
   rintro rfl;rw[show w4.heap[nb]? = _ from hn] at hi4
   injection hi4 with hi4
   subst hi4
   rcases hnt with h | h
   ·have h2:nb<w0.heap.size:=h
    omega
   ·exact h ⟨_,_,_,rfl,.inr rfl⟩
  have hne2:some i≠rv.ownBlock:=by
   intro e;obtain ⟨c,q,hh⟩:=ho.block e.symm;rw[hi4] at hh
   injection hh with hh
   subst hh
   rcases hnt with h | h
   ·have h2:i<w0.heap.size:=h;have:=(hlt i e.symm).1
    omega
   ·exact h ⟨_,_,_,rfl,.inl rfl⟩
  rw[Below.heap_setCell _ _ _ _ (fun e=>hne e.symm)]
  exact (hgr.block i (lt_of_blk hi4') hne2).trans hi4'
theorem wordE7_within {ls:List (List Int)} {g a:Int} (h:wordE7 ls g a=0):withinB (sizesL ls) g a 1=true:=by
 unfold wordE7 at h
 by_cases e:withinB (sizesL ls) g a 1=true
 ·exact e
 ·rw[if_neg e] at h;exact absurd h (by decide)
theorem sum_take_le {sz:List Int} (h:∀x∈sz,0≤x) (k:Nat):(sz.take k).sum≤sz.sum:=by
 have h1:=List.take_append_drop k sz;have h2:(sz.take k).sum+(sz.drop k).sum=sz.sum:=by rw[←List.sum_append,h1]
 have h3:=sum_nonneg (l:=sz.drop k) (fun x hx=>h x (List.mem_of_mem_drop hx))
 omega
theorem place_small {sz:List Int} {g a:Int}:placeI sz g a≤4096:=by
 unfold placeI
 by_cases e:fitsL sz=true∧withinB sz g a 1=true
 ·rw[if_pos e];obtain ⟨-,-,-,h4,h5⟩:=of_decide_eq_true e.1;obtain ⟨h1,h2,h3,h6,h7,h8⟩:=of_decide_eq_true e.2;have hlt:g.toNat<sz.length:=by omega
  have h9:=sum_take_succ hlt;have h10:=sum_take_le h4 (g.toNat+1)
  omega
 ·rw[if_neg e]
  decide
set_option maxHeartbeats 1000000 in
theorem nword_any {w0:World} {nb b:Nat} {v:Value} {ls:List (List Int)} (HS:NtS w0 b v ls) (l:List (Int × Int)) (g a:Int) (w:World) (hl:l.length<1000000) (hK:NtK w0 nb b ls l w) (ha:In64 a) :
  Calls Tryz.prog 197 #[.pointer (some ⟨nb,0,none⟩),.int .i64 g,.int .i64 a] w fun e w'=>∃l',e= .returned (.tuple #[.int .u64 (wordA ls g a),.int .u16 (wordE7 ls g a)])∧(wordE7 ls g a=0→l'=l ++ [(g,a)])∧J (NtB w0) (NtK w0 nb b ls) l' w w':=by
 have hm:=meth_word b;have hm2:=meth_sizes b;simp only[Tryz.types_size,Nat.reduceAdd] at hm hm2;have HJ0:=LH hK.at_;have HWd:=LH (fun X (hX:Below w0.heap.size w0 X)=>wword_any b v ls g a X (HS.box.on hX) (HS.ar.on hX))
 have HSz:=LH (fun X (hX:Below w0.heap.size w0 X)=>wsizes_any b v ls X (HS.box.on hX) (HS.ar.on hX) HS.len)
 have HPl:=LH (fun u B X (hX:NumS .i64 X B u (sizesL ls))=>aplace_any u (sizesL ls) g a B X hX HS.s64 ha)
 have HPp:Hid (wordE7 ls g a=0→0≤placeI (sizesL ls) g a):=LH (fun h=>within_place HS.fits (wordE7_within h))
 have HPm:Hid (placeI (sizesL ls) g a≤4096):=LH place_small;obtain ⟨rv,hn,ho⟩:=hK.box;obtain ⟨A0,q0,rfl,-⟩:=ho.spans.parts;obtain ⟨n0,hn0⟩:∃n,n=(spR (sizesL ls) l).length:=⟨_,rfl⟩;rw[←hn0] at hn ho;have HN:=LH hn;have HO:=LH ho;have HLow:=LH hK.low;have HGe:=LH hK.ge;have HLe:=LH hl;obtain ⟨c0,c1,f1⟩:=hn.cells;generalize wordA ls g a=x at *
 generalize wordE7 ls g a=y at *
 clear HS hK hn ho hl ha hn0;go_enter Tryz.func197,Tryz.ntmps197
 go_wp2_with fail
 refine (HWd.out w HLow.out).mono ?_
 rintro e w2 ⟨rfl,hB2⟩;have HN2:=LH (HN.out.on hB2);have HO2:=LH (HO.out.on hB2);have HB2:=LH hB2;clear hB2 c0 c1 f1;obtain ⟨c0,c1,f1⟩:=HN2.out.cells
 by_cases hy:y=0
 ·subst hy;have HPp2:=LH (HPp.out rfl);clear HPp
  go_wp2_with fail
  refine (HSz.out w2 (HLow.out.trans (HB2.out.mono HLow.out.size))).mono ?_
  rintro e w3 ⟨u,rfl,hO3,hB3⟩;have HN3:=LH (HN2.out.on hB3);have HO3:=LH (HO2.out.on hB3);have HB3:=LH (bseq' HB2.out hB3);have HPl3:=LH (HPl.out u _ w3 hO3.numS);obtain ⟨A,c,rfl,-⟩:=hO3.numS;clear hB3 c0 c1 f1 hO3
  go_wp2_with fail
  refine HPl3.out.mono ?_
  rintro e w4 ⟨rfl,rfl⟩;have HP5:=HPp2.out;have HP6:=HPm.out;obtain ⟨z,hz⟩:∃z,z=placeI (sizesL ls) g a:=⟨_,rfl⟩;rw[←hz] at HP5 HP6 ⊢;have HZ:=LH hz;have hw1:IntKind.i64.wrap (z+1)=z+1:=IntWalk.i64_in _ (by omega);obtain ⟨v',w',hrun,ho',hg'⟩:=append_span w3 w0.heap.size 49 (.slice A0 n0 q0) (spR (sizesL ls) l) z (z+1) HO3.out (by have h1:=spR_length (sizesL ls) l;have h2:=HLe.out;omega) (by have h1:=HLow.out.size;have h2:=HB3.out.size;omega);obtain ⟨g',q',hv',-,-⟩:=OwnS.form ho' (by simp);have HRun:=LH hrun;have HO':=LH ho';have HG:=LH hg';have hn':NoBox w' nb (.iface 122 (.pointer (some ⟨b,0,none⟩))) (.slice A0 n0 q0):=(hg'.block nb ((HN3.out.on ((Below.refl _ _).alloc (Nat.le_refl _) _)).lt) (fun e=>(HO3.out.apart HN3.out) e.symm)).trans (HN3.out.on ((Below.refl _ _).alloc (Nat.le_refl _) _))
  have HJ:Hid (J (NtB w0) (NtK w0 nb b ls) (l ++ [(g,a)]) w (w'.setCell ⟨nb,1,none⟩ v')):=LH (note_on HGe.out HLow.out HB3.out rfl HN3.out rfl HO3.out (by rw[←HZ.out];exact HO'.out) HG.out (by rw[←HZ.out];exact HP5));obtain ⟨c0,c1,f1⟩:=HN3.out.cells;obtain ⟨d0,d1,e1⟩:=hn'.cells;have HL3:Hid (∀o,(w3.alloc o).cell? ⟨nb,1,none⟩=some (.slice A0 n0 q0)):=LH (fun o=>(HN3.out.on ((Below.refl _ _).alloc (Nat.le_refl _) o)).cells.2.1)
  have hl3:=HL3.out;have HV:=LH hv';rw[HV.out] at HRun HJ;generalize (spR (sizesL ls) l ++ [(z,z+1)]).length=m at *
  clear hrun ho' hg' hn' hz hv' HV HO'
  go_wp2_with (at_builtin;refine Lib.wpList_append_run _ rfl _ _ _ _ rfl _ _ rfl rfl _ _ HRun.out ?_)
  go_ret2
  first | exact HJ.out | exact ⟨rfl,HJ.out⟩ | exact ⟨trivial,HJ.out⟩ | exact ⟨_,rfl,HJ.out⟩ | exact ⟨_,rfl,rfl,HJ.out⟩
 ·have hy1:(y == 0)=false:=by simp[hy]
  go_wp2_with fail
  go_ret2;exact ⟨l,rfl,fun h=>absurd h hy,HJ0.out.pure HB2.out⟩
theorem meth_nword (a:Nat) (W:World):Sem.run Tryz.prog (method (Tryz.prog.types.size+100) 84 (.pointer (some ⟨a,0,none⟩)) "Word") W= .ok (197,.pointer (some ⟨a,0,none⟩)) W:=by
 rw[Tryz.types_size];kernel_rfl
theorem meth_sizes' (a:Nat) (W:World):Sem.run Tryz.prog (method (Tryz.prog.types.size+99) 122 (.pointer (some ⟨a,0,none⟩)) "Sizes") W= .ok (200,.pointer (some ⟨a,0,none⟩)) W:=by
 rw[Tryz.types_size];kernel_rfl
theorem meth_nsizes {a b:Nat} {W:World} (h:W.cell? ⟨a,0,none⟩=some (.iface 122 (.pointer (some ⟨b,0,none⟩)))):Sem.run Tryz.prog (method (Tryz.prog.types.size+100) 84 (.pointer (some ⟨a,0,none⟩)) "Sizes") W= .ok (200,.pointer (some ⟨b,0,none⟩)) W:=by
 have hm:(Tryz.prog.info? 84).map (fun i=>(i.methods.find? (·.name == "Sizes")).map (fun m=>(m.func,m.path.toList)))=some (some (none,[⟨89,0,true⟩])):=by kernel_rfl
 cases hi:Tryz.prog.info? 84 with
 | none=>rw[hi] at hm;cases hm
 | some i =>
  rw[hi] at hm;simp only[Option.map_some,Option.some.injEq] at hm;cases hf:i.methods.find? (·.name == "Sizes") with
  | none=>rw[hf] at hm;cases hm
  | some m =>
   rw[hf] at hm;simp only[Option.map_some,Option.some.injEq,Prod.mk.injEq] at hm;rw[show Tryz.prog.types.size+100=(Tryz.prog.types.size+99)+1 from rfl]
   unfold method;have hu:=Tryz.underlying89
   simp[typeInfo,go_sem,hi,hf,hm.1,hm.2,follow,run_underlying hu,Place.get,asAddr,fieldPlace,h,loadVar]
   have hs:=meth_sizes' b W;simp only[Tryz.types_size,Nat.reduceAdd] at hs;exact hs
set_option maxHeartbeats 1000000 in
theorem word_noter {w0:World} {nb b:Nat} {v:Value} {ls:List (List Int)} (HS0:NtS w0 b v ls) (l:List (Int × Int)) (g a:Int) (w:World) (hl:l.length<1000000) (hK:NtK w0 nb b ls l w) (ha:In64 a) :
  Calls Tryz.prog 102 #[.iface 84 (.pointer (some ⟨nb,0,none⟩)),.int .i64 g,.int .i64 a] w fun e w'=>∃l',e= .returned (.tuple #[.int .u64 (wordA ls g a),.int .u16 (wordE7 ls g a)])∧(wordE7 ls g a=0→l'=l ++ [(g,a)])∧J (NtB w0) (NtK w0 nb b ls) l' w w':=by
 have hmf:∀(fn:Fn) (first cap:Array Value) (w:World),(Instr.makeFunc fn first cap).run Tryz.prog w= .ok (.func fn first cap) w:=fun _ _ _ _=>rfl
 have hm:=meth_nword nb;simp only[Tryz.types_size,Nat.reduceAdd] at hm;obtain ⟨e1,e2,-⟩:=two_new w #[.int .u64 0] #[.int .u16 0] 44 40;have hJ1:J (NtB w0) (NtK w0 nb b ls) l w ((w.alloc (.cells #[.int .u64 0] 44)).alloc (.cells #[.int .u16 0] 40)):=(hK.at_.alloc _).alloc _;have HJ1:=LH hJ1;have HS1:=nword_any HS0 l g a _ hl hJ1.kk ha;clear HS0 hK hl ha hJ1;generalize wordA ls g a=x at *
 generalize wordE7 ls g a=y at *
 go_enter_defers Tryz.func102,Tryz.ntmps102
 go_wp2_with fail
 refine HS1.mono ?_
 rintro e w2 ⟨l2,rfl,hl2,hJ2⟩;have HL2:=LH hl2;clear hl2;have h1:Bx w2 w.heap.size 44 (.int .u64 0):=Bx.onJ (w:=(w.alloc (.cells #[.int .u64 0] 44)).alloc (.cells #[.int .u16 0] 40)) e1 hJ2 (NtB w0).u64;have h2:Bx w2 (w.heap.size+1) 40 (.int .u16 0):=Bx.onJ (w:=(w.alloc (.cells #[.int .u64 0] 44)).alloc (.cells #[.int .u16 0] 40)) e2 hJ2 (NtB w0).errno;have hB3:J (NtB w0) (NtK w0 nb b ls) l2 w w2:=HJ1.out.step hJ2;have H1:=LH ((h1.set (.int .u64 x)).other (by omega:w.heap.size≠w.heap.size+1) 0 (.int .u16 y));have H2:=LH ((h2.other (by omega:w.heap.size+1≠w.heap.size) 0 (.int .u64 x)).set (.int .u16 y));have HB:=LH ((hB3.setCell (Nat.le_refl _) h1.ty (NtB w0).u64 0 (.int .u64 x)).setCell (Nat.le_succ _) (h2.other (by omega:w.heap.size+1≠w.heap.size) 0 (.int .u64 x)).ty (NtB w0).errno 0 (.int .u16 y));obtain ⟨c1,f1⟩:=h1.cell;obtain ⟨c2,f2⟩:=h2.cell;have c3:=((h2.other (by omega:w.heap.size+1≠w.heap.size) 0 (.int .u64 x))).cell;obtain ⟨c3,f3⟩:=c3;clear hJ2 hB3 e1 e2 h1 h2 hm
 go_wp2_with fail
 obtain ⟨d1,-⟩:=H1.out.cell;obtain ⟨d2,-⟩:=H2.out.cell;refine leaves_cons (f:=132) (args:=#[.pointer (some ⟨w.heap.size,0,none⟩),.pointer (some ⟨w.heap.size+1,0,none⟩)]) (by simp) (by simp[go_sem]) ?_
 refine (catch_word _ _ _).mono ?_
 rintro e u' w'' ⟨rfl,rfl,rfl⟩
 simp[Leaves,settle,results,Tryz.results102,go_sem,d1,d2]
 exact ⟨l2,HL2.out,HB.out⟩
set_option maxHeartbeats 1000000 in
theorem sizes_noter {w0:World} {nb b:Nat} {v:Value} {ls:List (List Int)} (HS0:NtS w0 b v ls) (l:List (Int × Int)) (w:World) (hK:NtK w0 nb b ls l w) :
  Calls Tryz.prog 131 #[.iface 84 (.pointer (some ⟨nb,0,none⟩))] w fun e w'=>∃u,e= .returned u∧NumS .i64 w' w'.heap.size u (sizesL ls)∧Below w.heap.size w w':=by
 have hmf:∀(fn:Fn) (first cap:Array Value) (w:World),(Instr.makeFunc fn first cap).run Tryz.prog w= .ok (.func fn first cap) w:=fun _ _ _ _=>rfl
 obtain ⟨rv,hn,-⟩:=hK.box;have hb:=HS0.box.on hK.low;have h:=HS0.ar.on hK.low;have hs:=HS0.len;have hB1:Below w.heap.size w (w.alloc (.cells #[.slice none 0 0] 45)):=(Below.refl _ _).alloc (Nat.le_refl _) _;have HB1:=LH hB1;have hm:=meth_nsizes (hn.on hB1).cells.1;simp only[Tryz.types_size,Nat.reduceAdd] at hm;have h0:Bx (w.alloc (.cells #[.slice none 0 0] 45)) w.heap.size 45 (.slice none 0 0):=by unfold Bx;rw[blk_alloc_new]
 have H0:=LH h0;have HS1:=wsizes_any b v ls _ (hb.on hB1) (h.on hB1) hs;clear hb h hs hB1 h0 hn hK HS0
 go_enter_defers Tryz.func131,Tryz.ntmps131
 go_wp2_with fail
 refine HS1.mono ?_
 rintro e w2 ⟨u,rfl,hO,hB2⟩;have h1:=H0.out.on hB2;have hB3:=bseq' HB1.out hB2;have hO2:=OwnI.setBelow hO (g:=w.heap.size) (by simp) 0 u;have HO:=LH hO2.numS;have H1:=LH (h1.set u);have HB:=LH (hB3.setCell (p:=⟨w.heap.size,0,none⟩) (Nat.le_refl _) u);obtain ⟨A,c,rfl,-⟩:=hO.numS;generalize (sizesL ls).length=n at *
 obtain ⟨c1,f1⟩:=h1.cell;clear hB2 hB3 h1 hO hO2 hm
 go_wp2_with fail
 obtain ⟨d1,-⟩:=H1.out.cell;refine leaves_cons (f:=150) (args:=#[.pointer (some ⟨w.heap.size,0,none⟩)]) (by simp) (by simp[go_sem]) ?_
 refine (catch_sizes _ _).mono ?_
 rintro e u' w'' ⟨rfl,rfl,rfl⟩
 simp[Leaves,settle,results,Tryz.results131,go_sem,d1]
 exact ⟨by simpa using HO.out,HB.out⟩
theorem noter_ok {w0:World} {nb b:Nat} {v:Value} {ls:List (List Int)} (HS:NtS w0 b v ls):SrcN (NtB w0) (NtK w0 nb b ls) (.iface 84 (.pointer (some ⟨nb,0,none⟩))) (srA ls) where
 good:=⟨fun g a=>wordA_bd HS.u g a,fun g a=>wordE9_bd ls g a,HS.s64,by show (sizesL ls).length≤_;rw[sizesL_length];exact HS.len⟩
 on:=fun h hS=>h.sil hS
 le:=fun h=>h.low.size
 laid:=fun h=>HS.laid.on h.low
 form:=⟨_,_,rfl⟩
 word:=fun l g a w hl hK _ ha=>word_noter HS l g a w hl hK ha
 sizes:=fun l w hK=>sizes_noter HS l w hK
end Go.Proofs.YtmmlfnblodfjbaaGreatDoor
