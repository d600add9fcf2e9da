/- Layer 10: the law's Bent: an arena of a tree of choices, of which some words are other ones: small things all. -/
import Derived.Test.YtmmlfnblodfjbaaGreatDoorQBuH
import Derived.Test.YtmmlfnblodfjbaaGreatDoorQGenZ
import Derived.Test.YtmmlfnblodfjbaaGreatDoorQRsA
import Derived.BigRegion
import Derived.Deep.DeepCutAuto
import Derived.Deep.CutBlock
set_option maxRecDepth 100000
namespace Go.Proofs.YtmmlfnblodfjbaaGreatDoor
open Go.RowKit Go.Deep
def BentR (w:World) (e:Ending) (w':World):Prop :=
 ∃v ls,e= .returned v∧ArV w' w'.heap.size v ls∧AllU10 ls∧AllW ls∧(∀l∈ls,l.length≤4096)∧ls.length≤16∧Below w.heap.size w w'
theorem bent_first {c:List Int} (hb:InB c) (z:Nat) (h1:1≤z) (h2:z≤4096) :
  ((buildT (treeC 6 c).1 (z:Int)).2=0∨(buildT (treeC 6 c).1 (z:Int)).2=24)∧AllU10 (buildT (treeC 6 c).1 (z:Int)).1∧AllW (buildT (treeC 6 c).1 (z:Int)).1∧(∀l∈(buildT (treeC 6 c).1 (z:Int)).1,l.length≤4096)∧(buildT (treeC 6 c).1 (z:Int)).1.length≤16∧((buildT (treeC 6 c).1 (z:Int)).2=0→0<(buildT (treeC 6 c).1 (z:Int)).1.length):=by
 have hr:rightT (treeC 6 c).1=true:=deepB_mono _ 6 32 (by omega) (treeC_fine 6 c).1;obtain ⟨s1,s2,s3,-⟩:=build_sizes (sz:=z) hr h1 h2;refine ⟨s1.elim (fun h=> .inl h.1) (fun h=> .inr h.1),(build_ub (treeC_ub 6 c hb).1 _),build_small (treeC_small 6 c hb).1 _,fun l hl=>Nat.le_trans (s2 l hl) h2,s3,fun he=>s1.elim (fun h=>h.2) (fun h=>by omega)⟩
theorem bent_whole {c:List Int} (hc:c.length≤200):(buildT (treeC 6 c).1 ((4096:Nat):Int)).2=0:=by
 have h:=(treeC_fine 6 c).2.2;have hr:rightT (treeC 6 c).1=true:=deepB_mono _ 6 32 (by omega) (treeC_fine 6 c).1;obtain ⟨l,h1,-⟩:=build_one (sz:=4096) hr (by omega) (by omega) (by omega);rw[h1]
theorem BenA.on {X Y:World} {P:Nat→Prop} {v:Value} {lens:List Nat} (h:BenA X P v lens) (hP:∀b,P b→b<X.heap.size) (hB:Below X.heap.size X Y):BenA Y P v lens:=h.keep (fun b hb=>hB.block b (hP b hb))
structure BentI (w X:World) (n c:Nat) (A:Option Addr) (lens:List Nat) (P:Nat→Prop):Prop where
 ar:BenA X P (.slice A n c) lens
 len:lens.length=n
 pos:0<n∧n≤16
 small:∀l∈lens,l≤4096
 inP:∀b,P b→w.heap.size≤b∧b<X.heap.size
 bl:Below w.heap.size w X
theorem BentI.on {w X Y:World} {n c:Nat} {A:Option Addr} {lens:List Nat} {P:Nat→Prop} (h:BentI w X n c A lens P) (hB:Below X.heap.size X Y):BentI w Y n c A lens P :=
 ⟨h.ar.on (fun b hb=>(h.inP b hb).2) hB,h.len,h.pos,h.small,fun b hb=>⟨(h.inP b hb).1,Nat.lt_of_lt_of_le (h.inP b hb).2 hB.size⟩,h.bl.trans (hB.mono h.bl.size)⟩
theorem bentI_new {w X Y:World} {n c:Nat} {A:Option Addr} {ls:List (List Int)} (h:ArP Y (fun b=>X.heap.size≤b∧b<Y.heap.size) (.slice A n c) ls) (hu:AllU10 ls) (hw:AllW ls) (hs:∀l∈ls,l.length≤4096) (hl:0<ls.length∧ls.length≤16) (hX:Below w.heap.size w X) (hY:Below X.heap.size X Y) :
  BentI w Y n c A (ls.map List.length) (fun b=>X.heap.size≤b∧b<Y.heap.size):=by
 have hn:n=ls.length:=by
  obtain ⟨A',c',e,-⟩:=h;cases e
  rfl
 refine ⟨⟨ls,h,rfl,hu,hw⟩,by rw[List.length_map,hn],by omega,fun l hl=> ?_,fun b hb=>⟨Nat.le_trans hX.size hb.1,hb.2⟩,hX.trans (hY.mono hX.size)⟩
 obtain ⟨s,hs1,rfl⟩:=List.mem_map.1 hl;exact hs s hs1
set_option maxHeartbeats 2000000 in
theorem bent_any (c d:List Int) (vc vd:Value) (k:Nat) (w:World) (hc:Bytes w w.heap.size vc c) (hd:Bytes w w.heap.size vd d) (hcb:AllB c) (hdb:AllB d) (hk:k≤255) :
  Calls Tryz.prog 11 #[vc,vd,.int .u8 k] w (BentR w):=by
 obtain ⟨Ac,cc,rfl⟩:=hc.form rfl;obtain ⟨Ad,cd,rfl⟩:=hd.form rfl;obtain ⟨M,hM⟩:∃M,M=min c.length 200:=⟨_,rfl⟩;have hcut:=hc.cut rfl (show M≤c.length by omega)
 have hmb:AllB (c.take M):=fun x hx=>hcb x (List.mem_of_mem_take hx)
 have hT:=tree_all 6 (by omega) (c.take M) _ w w.heap.size (Nat.le_refl _) hcut hmb;obtain ⟨z,hz⟩:∃z:Nat,z=3+k % 30:=⟨_,rfl⟩;obtain ⟨z1,z2,z3,z4,z5,z6⟩:=bent_first hmb z (by omega) (by omega);obtain ⟨-,y2,y3,y4,y5,y6⟩:=bent_first hmb 4096 (by omega) (by omega);have y1:=bent_whole (c:=c.take M) (by rw[List.length_take];omega);have y7:=y6 y1;have hfin:=treeC_fine 6 (c.take M);generalize (treeC 6 (c.take M)).1=t at *
 generalize (treeC 6 (c.take M)).2=rest at *
 have hBz:=fun X v (hv:TrV X X.heap.size t v)=>rbuildP_any t v (z:Int) X hv
 have hBy:=fun X v (hv:TrV X X.heap.size t v)=>rbuildP_any t v ((4096:Nat):Int) X hv
 rw[y1,show ((4096:Nat):Int)=4096 from rfl] at hBy
 rw[show ((4096:Nat):Int)=4096 from rfl] at y2 y3 y4 y5 y7
 generalize (buildT t (4096:Int)).1=ly at *
 generalize (buildT t (z:Int)).1=lz at *
 generalize (buildT t (z:Int)).2=ez at *
 have HT:=LH hT;have HBz:=LH hBz;have HBy:=LH hBy;have HY:=LH (And.intro y2 (And.intro y3 (And.intro y4 (And.intro y7 y5))));have HZ:=LH (And.intro z2 (And.intro z3 (And.intro z4 (And.intro z6 z5))));have HD:=LH hd;have HDb:=LH hdb;have hzr:(3:Int)+(k:Int) % 30=(z:Int):=by omega
 obtain ⟨lc,hlc⟩:∃lc,lc=c.length:=⟨_,rfl⟩;obtain ⟨ld,hld⟩:∃ld,ld=d.length:=⟨_,rfl⟩;rw[←hlc] at hM hc ⊢;have HM:=LH hM;rw[←hld] at HD ⊢;have HLd:=LH hld;have hlc2:lc≤cc:=by obtain ⟨_,_,e,h1,_⟩:=hc;cases e;omega
 clear hT hBz hBy hcut hmb z2 z3 z4 z5 z6 y1 y2 y3 y4 y5 y6 y7 hfin hd hdb hcb hz hlc hld hM;go_enter Tryz.func11,Tryz.ntmps11;go_upto_region 1 with fail
 go_cut [7] (fun s7 wx=>∃b k1 q1 A1 n1 c1 A2 n2 c2 A3 n3 c3,s7= .pointer (some ⟨b,0,none⟩)∧TBox wx b k1 q1 (.slice A1 n1 c1) (.slice A2 n2 c2) (.slice A3 n3 c3)∧TrV wx wx.heap.size t (.agg (cellsT k1 q1 (.slice A1 n1 c1) (.slice A2 n2 c2) (.slice A3 n3 c3)))∧Below w.heap.size w wx)
 case first=>as_aux_lemma =>
  have hfin:∀(e:Ending) (w2:World),(∃x y,e= .returned (.tuple #[x,y])∧TrP w2 (fun b=>w.heap.size≤b∧b<w2.heap.size) t x∧Bytes w2 w.heap.size y rest∧Below w.heap.size w w2)→∃k1 q1 A1 n1 c1 A2 n2 c2 A3 n3 c3 A4 n4 c4,e= .returned (.tuple #[.agg #[.int .i64 k1,.int .i64 q1,.slice A1 n1 c1,.slice A2 n2 c2,.slice A3 n3 c3],.slice A4 n4 c4])∧TBox (w2.alloc (.cells #[.int .i64 k1,.int .i64 q1,.slice A1 n1 c1,.slice A2 n2 c2,.slice A3 n3 c3] 34)) w2.heap.size k1 q1 (.slice A1 n1 c1) (.slice A2 n2 c2) (.slice A3 n3 c3)∧TrV (w2.alloc (.cells #[.int .i64 k1,.int .i64 q1,.slice A1 n1 c1,.slice A2 n2 c2,.slice A3 n3 c3] 34)) (w2.alloc (.cells #[.int .i64 k1,.int .i64 q1,.slice A1 n1 c1,.slice A2 n2 c2,.slice A3 n3 c3] 34)).heap.size t (.agg (cellsT k1 q1 (.slice A1 n1 c1) (.slice A2 n2 c2) (.slice A3 n3 c3)))∧Below w.heap.size w (w2.alloc (.cells #[.int .i64 k1,.int .i64 q1,.slice A1 n1 c1,.slice A2 n2 c2,.slice A3 n3 c3] 34)):=by
   rintro e w2 ⟨x,y,rfl,hx,hy,hB⟩;obtain ⟨k1,q1,A1,n1,c1,A2,n2,c2,A3,n3,c3,rfl⟩:=hx.parts;obtain ⟨A4,c4,rfl⟩:=hy.form rfl;have hb2:Below w2.heap.size w2 (w2.alloc (.cells #[.int .i64 k1,.int .i64 q1,.slice A1 n1 c1,.slice A2 n2 c2,.slice A3 n3 c3] 34)):=(Below.refl _ _).alloc (Nat.le_refl _) _;exact ⟨k1,q1,A1,n1,c1,A2,n2,c2,A3,n3,c3,A4,_,c4,rfl,TBox.new _ _ _ _ _ _,(TrP.trV (fun b hb=>hb.2) _ _ hx).on hb2,hB.trans (hb2.mono hB.size)⟩
  have HFin:=LH hfin;clear hfin HBz HBy HY HZ HD HDb
  by_cases hl:lc≤200
  ·have i1:(lc:Int)≤200:=by omega
   have i2:¬(200:Int)<(lc:Int):=by omega
   obtain rfl:M=lc:=by have:=HM.out;omega
   go_wp2_with fail
   refine (HT.out).mono ?_
   intro e w2 hR;obtain ⟨k1,q1,A1,n1,c1,A2,n2,c2,A3,n3,c3,A4,n4,c4,he,h1,h2,h3⟩:=HFin.out e w2 hR;subst he;have H1:=LH (And.intro h1 (And.intro h2 h3));clear h1 h2 h3 hR
   go_wp2_with fail
   go_meet;exact ⟨_,k1,q1,A1,n1,c1,A2,n2,c2,A3,n3,c3,rfl,H1.out⟩
  ·have i1:¬(lc:Int)≤200:=by omega
   have i2:(200:Int)<(lc:Int):=by omega
   obtain rfl:M=200:=by have:=HM.out;omega
   have i3:(200:Int)≤(lc:Int):=by omega
   have i4:(200:Int)≤(cc:Int):=by omega
   go_wp2_with fail
   refine (HT.out).mono ?_
   intro e w2 hR;obtain ⟨k1,q1,A1,n1,c1,A2,n2,c2,A3,n3,c3,A4,n4,c4,he,h1,h2,h3⟩:=HFin.out e w2 hR;subst he;have H1:=LH (And.intro h1 (And.intro h2 h3));clear h1 h2 h3 hR
   go_wp2_with fail
   go_meet;exact ⟨_,k1,q1,A1,n1,c1,A2,n2,c2,A3,n3,c3,rfl,H1.out⟩
 case rest =>
  obtain ⟨b,k1,q1,A1,n1,c1,A2,n2,c2,A3,n3,c3,rfl,hb,ht,hB⟩:=hcut;have HB1:=LH hB;have HT1:=LH ht;have HX1:=LH hb;obtain ⟨x0,x1,x2,x3,x4⟩:=hb.cells;have hC:=HBz.out wc _ ht;unfold cellsT at hC;have HC:=LH hC;clear hB hb ht hC
  go_wp2_with fail
  refine HC.out.mono ?_
  rintro e w2 ⟨Az,nz,cz,rfl,hAz,hB2⟩;have HAz:=LH hAz;have HB2:=LH (bseq8 HB1.out (hB2.mono (Nat.le_refl _)));have HB2a:=LH hB2;have HX2:=LH (HX1.out.on hB2);have ht2:=HT1.out.on hB2;have hC:=HBy.out w2 _ ht2;unfold cellsT at hC;have HC2:=LH hC;clear hB2 hAz ht2 hC x0 x1 x2 x3 x4 HC HBz HBy HT1 HX1 HT
  go_upto_if 38 with fail
  go_cut [9] (fun s9 wx=>∃A n cp lens P,s9= .slice A n cp∧BentI w wx n cp A lens P)
  case first=>as_aux_lemma =>
   by_cases he:ez=0
   ·subst he;obtain ⟨g1,g2,g3,g4,g5⟩:=HZ.out;have hI:=bentI_new HAz.out g1 g2 g3 ⟨g4 rfl,g5⟩ HB1.out HB2a.out;have HI:=LH hI;clear g1 g2 g3 g4 g5 hI
    go_wp2_with fail
    go_meet;exact ⟨Az,nz,cz,_,_,rfl,HI.out⟩
   ·have he1:(ez != 0)=true:=by simp[he]
    obtain ⟨x0,x1,x2,x3,x4⟩:=HX2.out.cells
    go_wp2_with fail
    refine HC2.out.mono ?_
    rintro e w3 ⟨Ay,ny,cy,rfl,hAy,hB3⟩;obtain ⟨g1,g2,g3,g4,g5⟩:=HY.out;have hI:=bentI_new hAy g1 g2 g3 ⟨g4,g5⟩ HB2.out hB3;have HI:=LH hI;clear g1 g2 g3 g4 g5 hI hAy hB3
    go_wp2_with fail
    go_meet;exact ⟨Ay,ny,cy,_,_,rfl,HI.out⟩
  case rest =>
   obtain ⟨A,n,cp,lens,P,rfl,hI⟩:=hcut;have HI:=LH hI;clear hI HC2 HX2 HB2 HB2a HAz HB1 HY HZ
   go_wp2_with fail
   go_loopw [13] (fun i wr=>∃t:Nat,t≤3∧(4*t≤ld+3)∧i= .int .i64 ((4*t:Nat):Int)∧BentI w wr n cp A lens P) (fun i _=>12 - (intOf i).toNat)
   case atStart=>exact ⟨0,by omega,by omega,rfl,HI.out⟩
   case round =>
    obtain ⟨t,ht3,htl,rfl,hI⟩:=hrel;generalize wr=w7 at *
    have HI7:=LH hI;clear hI HI;obtain ⟨i,hi⟩:∃i,i=4*t:=⟨_,rfl⟩;rw[←hi];have Hi:=LH hi
    by_cases hgo:i+3<ld∧i<12
    ·obtain ⟨hg1,hg2⟩:=hgo;have e1:(i:Int)+3<(ld:Int):=by omega
     have e2:(i:Int)<12:=by omega
     obtain ⟨Ad',cd',ed,hd1,hd2,hdc⟩:=HD.out.below HI7.out.bl (Nat.le_refl _);rw[←HLd.out] at ed hd1 hdc;cases ed
     obtain ⟨bd,od,rfl,hbd,hdc⟩:=hdc (by omega);have c0:=hdc i (by omega);have c1':=hdc (i+1) (by omega);have c2':=hdc (i+2) (by omega);have c3':=hdc (i+3) (by omega);obtain ⟨y0,hy0⟩:=Int.eq_ofNat_of_zero_le (byte_at HDb.out i).1;obtain ⟨y1,hy1⟩:=Int.eq_ofNat_of_zero_le (byte_at HDb.out (i+1)).1;obtain ⟨y2,hy2⟩:=Int.eq_ofNat_of_zero_le (byte_at HDb.out (i+2)).1;obtain ⟨y3,hy3⟩:=Int.eq_ofNat_of_zero_le (byte_at HDb.out (i+3)).1;have l0:=(byte_at HDb.out i).2;have l1:=(byte_at HDb.out (i+1)).2;have l2:=(byte_at HDb.out (i+2)).2;have l3:=(byte_at HDb.out (i+3)).2;rw[hy0] at c0 l0;rw[hy1] at c1' l1;rw[hy2] at c2' l2;rw[hy3] at c3' l3;have hpos:=HI7.out.pos.1;obtain ⟨s,hs⟩:∃s,s=y0 % n:=⟨_,rfl⟩;have hsl:s<n:=by rw[hs];exact Nat.mod_lt _ hpos
     obtain ⟨b,off,sA,q,rfl,hbP,hcell,hat⟩:=ben_at (by have:=HI7.out.ar;rw[←HI7.out.len] at this;exact this) (s:=s) (by rw[HI7.out.len];exact hsl);have HAt:=LH hat;have hsm:(y0:Int) % (n:Int)=(s:Int):=by rw[hs];exact (Int.natCast_emod _ _).symm
     have hsi:(s:Int)<(n:Int):=by omega
     have hn0:(n:Int)≠0:=by omega
     clear hat hdc hy0 hy1 hy2 hy3 hd1 hd2 hs hi;go_upto_region 10 with fail
     rw[hsm];obtain ⟨m,hm⟩:∃m,m=lens[s]?.getD 0:=⟨_,rfl⟩;have hm4:m≤4096:=by
      rw[hm,List.getElem?_eq_getElem (by rw[HI7.out.len];exact hsl)];exact HI7.out.small _ (List.getElem_mem _)
     rw[←hm] at hcell HAt;have HMs:=LH hm;clear hm
     by_cases hm0:m=0
     ·subst hm0;clear HAt
      go_wp2_with fail
      go_roundw
      case rel=>exact ⟨t+1,by have:=Hi.out;omega,by have:=Hi.out;omega,by have:=Hi.out;go_num,HI7.out⟩
      case measure=>simp[intOf];omega
     ·have hm1:((m:Int) == 0)=false:=by simpa using hm0
      have hm2:(m:Int)≠0:=by omega
      obtain ⟨at_,hat⟩:∃at_,at_=y1 % m:=⟨_,rfl⟩;have hatl:at_<m:=by rw[hat];exact Nat.mod_lt _ (by omega)
      have hatm:(y1:Int) % (m:Int)=(at_:Int):=by rw[hat];exact (Int.natCast_emod _ _).symm
      obtain ⟨g,o,yv,rfl,hgP,hgc,hgf,hst⟩:=HAt.out at_ hatl;have HSt:=LH hst;have HGc:=LH (And.intro hgc hgf);have HCe:=LH (fun X (hX:Below w7.heap.size w7 X)=>And.intro ((hX.cell (p:=⟨b,off+s,none⟩) (HI7.out.inP b hbP).2).trans hcell) (And.intro ((hX.cell (p:=⟨bd,od+(i+1),none⟩) (by have:=HI7.out.bl.size;show bd<_;omega)).trans c1') (And.intro ((hX.cell (p:=⟨bd,od+(i+2),none⟩) (by have:=HI7.out.bl.size;show bd<_;omega)).trans c2') ((hX.cell (p:=⟨bd,od+(i+3),none⟩) (by have:=HI7.out.bl.size;show bd<_;omega)).trans c3'))))
      have HGb:=LH ((HI7.out.inP g hgP).2);have HHt:=LH (And.intro hat hatm);clear hst hgc hgf hat HAt;go_upto_region 11 with fail
      go_cut [15] (fun s15 wx=>s15= .int .i64 (at_:Int)∧Below w7.heap.size w7 wx)
      case first=>as_aux_lemma =>
       have hB0:∀q,Below w7.heap.size w7 (w7.drewN q):=fun q=>below_drewN (Below.refl _ _) q
       go_quiet (fail)
       go_wp2_with fail
       go_meet;exact ⟨congrArg (Value.int .i64) HHt.out.2,hB0 _⟩
      case rest =>
       obtain ⟨rfl,hB8⟩:=hcut;have HB8:=LH hB8;clear hB8 c0 c1' c2' c3' hcell;obtain ⟨v0,v1,v2,v3⟩:=HCe.out wc HB8.out;have v4:=fun o=>(HCe.out (wc.alloc o) (HB8.out.alloc HB8.out.size o)).2.2.1
       have v5:=fun o=>(HCe.out (wc.alloc o) (HB8.out.alloc HB8.out.size o)).2.2.2
       have HPn:∀p,PZBox (wc.alloc (.cells (cellsP p) 70)) wc.heap.size p∧Below w7.heap.size w7 (wc.alloc (.cells (cellsP p) 70)):=fun p=>⟨PZBox.new wc p,HB8.out.alloc HB8.out.size _⟩
       have HPn':=LH (HPn ⟨1+(y2:Int) % 3,(y3:Int) % 16 - 4,0,0,0,0,0,false⟩);unfold cellsP at HPn';dsimp only at HPn';clear HPn;go_upto_region 12 with fail
       go_cut [16] (fun s16 wx=>∃pb,s16= .pointer (some ⟨pb,0,none⟩)∧w7.heap.size≤pb∧PZBox wx pb ⟨1+(y2:Int) % 3,(y3:Int) % 16 - 4,0,0,0,0,0,false⟩∧Below w7.heap.size w7 wx)
       case first=>as_aux_lemma =>
        go_region
        all_goals go_wp2_with fail
        all_goals go_meet
        all_goals exact ⟨_,rfl,HB8.out.size,by first | exact HPn'.out.1 | exact HPn'.out.1.on (below_drewN (Below.refl _ _) 1),by first | exact HPn'.out.2 | exact HPn'.out.2.drew⟩
       case rest =>
        obtain ⟨pb,rfl,hpb,hP9,hB9⟩:=hcut;have HP9:=LH hP9;have HB9:=LH hB9;have HPb:=LH hpb;obtain ⟨z0,z1,z2,z3,z4,z5,z6,z7⟩:=hP9.cells;dsimp only at z0 z1 z2 z3 z4 z5 z6 z7;clear v0 v1 v2 v3 v4 v5 hP9 hB9 hpb
        go_upto_block 2 with fail
        go_cut [] (fun wx=>PZBox wx pb (bentP y2 y3 n)∧Below w7.heap.size w7 wx)
        case first=>as_aux_lemma =>
         have hr3:(y2:Int) % 3=0∨(y2:Int) % 3=1∨(y2:Int) % 3=2:=by omega
         have HCs:=LH (fun X (hX:Below w7.heap.size w7 X)=>And.intro (HCe.out X hX).2.2.1 (HCe.out X hX).2.2.2)
         clear HCe HSt HGc HPn' HB8
         rcases hr3 with hr | hr | hr
         ·have hP:PZBox wc pb ⟨1,(y3:Int) % 16 - 4,0,0,0,0,0,false⟩:=by have:=HP9.out;rw[hr] at this;exact this
          have k1:(1+(y2:Int) % 3 == 1)=true:=by rw[hr];rfl
          clear z0 z1 z2 z3 z4 z5 z6 z7 HP9;obtain ⟨z0,z1,z2,z3,z4,z5,z6,z7⟩:=hP.cells;obtain ⟨f0,f1,f2,f3,f4,f5,f6,f7⟩:=hP.frozens;dsimp only at z0 z1 z2 z3 z4 z5 z6 z7;obtain ⟨v2,v3⟩:=HCs.out wc HB9.out;have hQ:=hP.setF2 ((y2:Int) % 4);have hQb:=HB9.out.setCell (p:=⟨pb,2,none⟩) HPb.out (.int .i64 ((y2:Int) % 4));have HQ:=LH (And.intro hQ hQb);clear hP hQ hQb;go_upto_region 19 with fail
          obtain ⟨wa,hwa⟩:∃wa,wa=wc.setCell ⟨pb,2,none⟩ (.int .i64 ((y2:Int) % 4)):=⟨_,rfl⟩;rw[←hwa] at HQ ⊢;clear z0 z1 z2 z3 z4 z5 z6 z7 f0 f1 f2 f3 f4 f5 f6 f7 v2 v3 hwa;obtain ⟨z0,z1,z2,z3,z4,z5,z6,z7⟩:=HQ.out.1.cells;obtain ⟨f0,f1,f2,f3,f4,f5,f6,f7⟩:=HQ.out.1.frozens;dsimp only at z0 z1 z2 z3 z4 z5 z6 z7;obtain ⟨v2,v3⟩:=HCs.out wa HQ.out.2;have HFin:=LH (And.intro (HQ.out.1.setF3 ((y2:Int) / 64)) (HQ.out.2.setCell (p:=⟨pb,3,none⟩) HPb.out (.int .i64 ((y2:Int) / 64))));have HBe:Hid (bentP y2 y3 n=⟨1,(y3:Int) % 16 - 4,(y2:Int) % 4,(y2:Int) / 64,0,0,0,false⟩):=LH (by unfold bentP;rw[if_pos hr]);clear hr
          go_wp2_with fail
          go_meet;rw[HBe.out];exact HFin.out
         ·have hP:PZBox wc pb ⟨2,(y3:Int) % 16 - 4,0,0,0,0,0,false⟩:=by have:=HP9.out;rw[hr] at this;exact this
          have k1:(1+(y2:Int) % 3 == 1)=false:=by rw[hr];rfl
          have k2:(1+(y2:Int) % 3 == 2)=true:=by rw[hr];rfl
          clear z0 z1 z2 z3 z4 z5 z6 z7 HP9;obtain ⟨V,hV⟩:∃V:Int,V=if (y2:Int) % 4=0 then 2 else if (y2:Int) % 4=1 then 5 else if (y2:Int) % 4=2 then 6 else 3:=⟨_,rfl⟩
          have ht4:(wc.alloc (.cells #[.int .i64 2,.int .i64 5,.int .i64 6,.int .i64 3] 3)).cell? ⟨wc.heap.size,y2 % 4,none⟩=some (.int .i64 V):=by
           have hb:(wc.alloc (.cells #[.int .i64 2,.int .i64 5,.int .i64 6,.int .i64 3] 3)).heap[wc.heap.size]? = some (.cells #[.int .i64 2,.int .i64 5,.int .i64 6,.int .i64 3] 3):=by rw[blk_alloc_new]
           have hc:(y2 % 4=0∧V=2)∨(y2 % 4=1∧V=5)∨(y2 % 4=2∧V=6)∨(y2 % 4=3∧V=3):=by
            have h4:y2 % 4<4:=Nat.mod_lt _ (by decide)
            rcases (show y2 % 4=0∨y2 % 4=1∨y2 % 4=2∨y2 % 4=3 by omega) with e | e | e | e
            ·exact .inl ⟨e,by rw[hV,if_pos (by omega)]⟩
            ·exact .inr (.inl ⟨e,by rw[hV,if_neg (by omega),if_pos (by omega)]⟩)
            ·exact .inr (.inr (.inl ⟨e,by rw[hV,if_neg (by omega),if_neg (by omega),if_pos (by omega)]⟩))
            ·exact .inr (.inr (.inr ⟨e,by rw[hV,if_neg (by omega),if_neg (by omega),if_neg (by omega)]⟩))
           unfold World.cell?;dsimp only;rw[hb]
           rcases hc with ⟨e,e'⟩ | ⟨e,e'⟩ | ⟨e,e'⟩ | ⟨e,e'⟩
           all_goals
            rw[e,e']
            rfl
          have HBe:Hid (bentP y2 y3 n=⟨2,(y3:Int) % 16 - 4,0,0,V,(y2:Int) / 16,0,false⟩):=LH (by unfold bentP;rw[if_neg (by omega),if_pos hr,←hV]);have HT4:=LH ht4;clear hV;obtain ⟨z0,z1,z2,z3,z4,z5,z6,z7⟩:=hP.cells;obtain ⟨f0,f1,f2,f3,f4,f5,f6,f7⟩:=hP.frozens;dsimp only at z0 z1 z2 z3 z4 z5 z6 z7;have v2:=fun o=>(HCs.out (wc.alloc o) (HB9.out.alloc HB9.out.size o)).1
          have hBa:∀o,Below wc.heap.size wc (wc.alloc o):=fun o=>(Below.refl _ _).alloc (Nat.le_refl _) _
          have za:=fun o=>((hP.on (hBa o)).cells).2.2.2.2.1
          have fa:=fun o=>(hP.on (hBa o)).frozen 4
          have HPc:=LH hP;dsimp only at za;clear hP hBa hr;go_upto_region 22 with fail
          have hQ:=(HPc.out.on ((Below.refl wc.heap.size wc).alloc (Nat.le_refl _) (.cells #[.int .i64 2,.int .i64 5,.int .i64 6,.int .i64 3] 3))).setF4 V;have hQb:=(HB9.out.alloc HB9.out.size (.cells #[.int .i64 2,.int .i64 5,.int .i64 6,.int .i64 3] 3)).setCell (p:=⟨pb,4,none⟩) HPb.out (.int .i64 V);have HQ:=LH (And.intro hQ hQb);obtain ⟨wa,hwa⟩:∃wa,wa=(wc.alloc (.cells #[.int .i64 2,.int .i64 5,.int .i64 6,.int .i64 3] 3)).setCell ⟨pb,4,none⟩ (.int .i64 V):=⟨_,rfl⟩;rw[←hwa] at HQ ⊢;clear z0 z1 z2 z3 z4 z5 z6 z7 f0 f1 f2 f3 f4 f5 f6 f7 v2 ht4 za fa hwa hQ hQb HPc HT4;obtain ⟨z0,z1,z2,z3,z4,z5,z6,z7⟩:=HQ.out.1.cells;obtain ⟨f0,f1,f2,f3,f4,f5,f6,f7⟩:=HQ.out.1.frozens;dsimp only at z0 z1 z2 z3 z4 z5 z6 z7;obtain ⟨v2,v3⟩:=HCs.out wa HQ.out.2;have HFin:=LH (And.intro (HQ.out.1.setF5 ((y2:Int) / 16)) (HQ.out.2.setCell (p:=⟨pb,5,none⟩) HPb.out (.int .i64 ((y2:Int) / 16))))
          go_wp2_with fail
          go_meet;rw[HBe.out];exact HFin.out
         ·have hP:PZBox wc pb ⟨3,(y3:Int) % 16 - 4,0,0,0,0,0,false⟩:=by have:=HP9.out;rw[hr] at this;exact this
          have k1:(1+(y2:Int) % 3 == 1)=false:=by rw[hr];rfl
          have k2:(1+(y2:Int) % 3 == 2)=false:=by rw[hr];rfl
          have hn1:(n:Int)+1≠0:=by omega
          have hn2:(n:Int)≤16:=by have:=HI7.out.pos.2;omega
          clear z0 z1 z2 z3 z4 z5 z6 z7 HP9;have HBe:Hid (bentP y2 y3 n=⟨3,(y3:Int) % 12,0,0,0,0,(y2:Int) / 3 % ((n:Int)+1),decide ((y2:Int) % 2=1)⟩):=LH (by unfold bentP;rw[if_neg (by omega),if_neg (by omega)]);obtain ⟨z0,z1,z2,z3,z4,z5,z6,z7⟩:=hP.cells;obtain ⟨f0,f1,f2,f3,f4,f5,f6,f7⟩:=hP.frozens;dsimp only at z0 z1 z2 z3 z4 z5 z6 z7;obtain ⟨v2,v3⟩:=HCs.out wc HB9.out;have HQ:=LH (And.intro (hP.setF1 ((y3:Int) % 12)) (HB9.out.setCell (p:=⟨pb,1,none⟩) HPb.out (.int .i64 ((y3:Int) % 12))));clear hP hr;go_upto_region 15 with fail
          obtain ⟨wa,hwa⟩:∃wa,wa=wc.setCell ⟨pb,1,none⟩ (.int .i64 ((y3:Int) % 12)):=⟨_,rfl⟩;rw[←hwa] at HQ ⊢;clear z0 z1 z2 z3 z4 z5 z6 z7 f0 f1 f2 f3 f4 f5 f6 f7 v2 v3 hwa;obtain ⟨z0,z1,z2,z3,z4,z5,z6,z7⟩:=HQ.out.1.cells;obtain ⟨f0,f1,f2,f3,f4,f5,f6,f7⟩:=HQ.out.1.frozens;dsimp only at z0 z1 z2 z3 z4 z5 z6 z7;obtain ⟨v2,v3⟩:=HCs.out wa HQ.out.2;obtain ⟨U,hU⟩:∃U:Int,U=(y2:Int) / 3 % ((n:Int)+1):=⟨_,rfl⟩;have HU:=LH hU;rw[←hU] at HBe;have HQ2:=LH (And.intro (HQ.out.1.setF6 ((y2:Int) / 3 % ((n:Int)+1))) (HQ.out.2.setCell (p:=⟨pb,6,none⟩) HPb.out (.int .i64 ((y2:Int) / 3 % ((n:Int)+1)))));clear hU;go_upto_region 16 with fail
          obtain ⟨wb,hwb⟩:∃wb,wb=wa.setCell ⟨pb,6,none⟩ (.int .i64 ((y2:Int) / 3 % ((n:Int)+1))):=⟨_,rfl⟩;rw[←hwb] at HQ2 ⊢;rw[←HU.out] at HQ2;clear z0 z1 z2 z3 z4 z5 z6 z7 f0 f1 f2 f3 f4 f5 f6 f7 v2 v3 hwb HQ;obtain ⟨z0,z1,z2,z3,z4,z5,z6,z7⟩:=HQ2.out.1.cells;obtain ⟨f0,f1,f2,f3,f4,f5,f6,f7⟩:=HQ2.out.1.frozens;dsimp only at z0 z1 z2 z3 z4 z5 z6 z7;obtain ⟨v2,v3⟩:=HCs.out wb HQ2.out.2;have HFin:Hid (∀D:Bool,D=decide ((y2:Int) % 2=1)→PZBox (wb.setCell ⟨pb,7,none⟩ (.bool D)) pb ⟨3,(y3:Int) % 12,0,0,0,0,U,decide ((y2:Int) % 2=1)⟩∧Below w7.heap.size w7 (wb.setCell ⟨pb,7,none⟩ (.bool D))):=LH (fun D hD=>by
           subst hD;exact And.intro (HQ2.out.1.setF7 _) (HQ2.out.2.setCell (p:=⟨pb,7,none⟩) HPb.out _))
          clear HQ2 HU
          go_wp2_with fail
          go_meet;rw[HBe.out];refine HFin.out _ ?_
          first | rfl | (by_cases h2:(y2:Int) % 2=1 <;> simp[h2])
        case rest =>
         obtain ⟨hP10,hB10⟩:=hcut;have HEn:=LH (fun X=>renc_any (bentP y2 y3 n) X)
         have HSx:=LH (sma_enc (bentP_small (x:=(y2:Int)) (by omega) l2 (y3:Int) n));have HUx:=LH (encW_in (bentP y2 y3 n));generalize bentP y2 y3 n=p at *
         generalize encW p=x at *
         generalize encE p=xe at *
         obtain ⟨p1,p2,p3,p4,p5,p6,p7,p8⟩:=p;unfold cellsP at HEn;dsimp only at HEn;clear z0 z1 z2 z3 z4 z5 z6 z7 HP9 HB9 HPn' HB8;obtain ⟨z0,z1,z2,z3,z4,z5,z6,z7⟩:=hP10.cells;dsimp only at z0 z1 z2 z3 z4 z5 z6 z7;have HB10:=LH hB10;clear hP10 hB10
         go_wp2_with fail
         refine (HEn.out _).mono ?_
         rintro e w11 ⟨rfl,hB11⟩;have hB711:=bseq8 HB10.out (hB11.mono (Nat.le_refl _));clear z0 z1 z2 z3 z4 z5 z6 z7;have hI11:=HI7.out.on hB711;obtain ⟨b2,off2,sA2,q2,eA,-,hcell2,hat2⟩:=ben_at (by have:=hI11.ar;rw[←hI11.len] at this;exact this) (s:=s) (by rw[hI11.len];exact hsl);rw[←HMs.out] at hcell2 hat2;cases eA
         have v0:=(HCe.out w11 hB711).1;rw[v0] at hcell2;cases hcell2
         obtain ⟨g2,o2,yv2,eg,hgP2,hgc2,hgf2,hst2⟩:=hat2 at_ hatl;cases eg
         have hI12:BentI w (w11.setCell ⟨g,o+at_,none⟩ (.int .u64 x)) n cp (some ⟨b,off,none⟩) lens P :=
          ⟨by have:=hst2 x HUx.out HSx.out;rw[hI11.len] at this;exact this,hI11.len,hI11.pos,hI11.small,fun b hb=>⟨(hI11.inP b hb).1,by rw[nblk_setCell];exact (hI11.inP b hb).2⟩,hI11.bl.setCell (p:=⟨g,o+at_,none⟩) (hI11.inP g hgP2).1 _⟩
         have HI12:=LH hI12;have hai:(at_:Int)<(m:Int):=by omega
         clear hI11 hat2 hst2 hI12 hB711 hB11
         go_wp2_with fail
         go_roundw
         case rel=>exact ⟨t+1,by have:=Hi.out;omega,by have:=Hi.out;omega,by have:=Hi.out;go_num,HI12.out⟩
         case measure=>simp[intOf];omega
    ·have HIf:Hid (BentR w (.returned (.slice A n cp)) w7):=LH (by
      obtain ⟨ls,h1,h2,h3,h4⟩:=HI7.out.ar;refine ⟨_,ls,rfl,h1.arV (fun b hb=>(HI7.out.inP b hb).2),h3,h4,fun l hl=>HI7.out.small _ (by rw[←h2];exact List.mem_map.2 ⟨l,hl,rfl⟩),?_,HI7.out.bl⟩
      have:=HI7.out.pos.2;have h5:=HI7.out.len;rw[←h2,List.length_map] at h5
      omega)
     by_cases hg1:i+3<ld
     ·have e1:(i:Int)+3<(ld:Int):=by omega
      have e2:¬(i:Int)<12:=by omega
      have e3:(i:Int)≤12:=by have:=Hi.out;omega
      go_wp2_with fail
      go_ret;exact HIf.out
     ·have e1:¬(i:Int)+3<(ld:Int):=by omega
      have e3:(i:Int)≤12:=by have:=Hi.out;omega
      go_wp2_with fail
      go_ret;exact HIf.out
end Go.Proofs.YtmmlfnblodfjbaaGreatDoor
