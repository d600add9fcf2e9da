/- Layer 10, the document: node: where the word leads to something. -/
import Derived.Test.YtmmlfnblodfjbaaGreatDoorQTnA
import Derived.Deep.RegionHeldLaw
import Derived.Deep.DeepCutAuto
import Derived.Deep.CutBlock
import Derived.BigRegion
set_option maxRecDepth 100000
namespace Go.Proofs.YtmmlfnblodfjbaaGreatDoor
open Go.RowKit Go.Deep
theorem good_sizes {ls:List (List Int)} {o:Ob} (hg:GoodO (sizesL ls) o) (hf:fitsL (sizesL ls)=true):nWords o≤65535∧nBytes o≤65535∧nKids o≤65535:=by
 have hb:=okq_bd hg.okq;obtain ⟨b1,b2,b3,b4,b5⟩:=hb;dsimp only [ptrO] at b1 b2 b3 b4 b5
 rcases hg with rfl | ⟨hk,hq,he,hw⟩
 ·exact ⟨by decide,by decide,by decide⟩
 ·obtain ⟨w1,w2,w3,w4,w5⟩:=within_at hw;have hsz:=fits_size hf o.seg.toNat;unfold nWords nBytes nKids;unfold wordsO wordN ptrO at w5;dsimp only at w5
  rcases hk with hk | hk
  ·rw[if_pos hk] at w5;have hz:o.size=0:=by
    rcases hq with (h0 | ⟨-,-,-,-,h5,h6,-⟩ | ⟨h1,-⟩ | ⟨h1,-⟩) | h0
    ·exact absurd ((congrArg Pt.kind h0).symm.trans hk) (by decide)
    ·exact h5
    ·exact absurd (h1.symm.trans hk) (by decide)
    ·exact absurd (h1.symm.trans hk) (by decide)
    ·exact congrArg Pt.size h0
   rw[if_neg (by omega),if_neg (by omega),if_neg (by omega)]
   omega
  ·rw[if_neg (by omega),if_pos hk] at w5;unfold wordE ptrO at he;dsimp only at he;rw[if_neg (by omega),if_neg (by omega),if_pos hk] at he
   by_cases z2:o.size=2
   ·rw[if_pos z2] at w5;rw[if_neg (by omega),if_pos z2,if_neg (by omega)]
    omega
   ·rw[if_neg z2] at w5;rw[if_neg z2]
    by_cases z5:o.size=5∨o.size=6
    ·rw[if_pos z5] at w5;refine ⟨?_,by omega,?_⟩
     ·split <;> omega
     ·split <;> omega
    ·exact absurd he (by rw[if_neg (by omega)];decide)
theorem good_at {ls:List (List Int)} {o:Ob} (hg:GoodO (sizesL ls) o) (hf:fitsL (sizesL ls)=true):0≤o.at_∧o.at_≤1000000:=by
 rcases hg with rfl | ⟨-,-,-,hw⟩
 ·decide
 ·obtain ⟨w1,w2,w3,w4,w5⟩:=within_at hw;have:=fits_size hf o.seg.toNat
  omega
theorem byte_nextN (X:Int) (q:Nat):X / 256 ^ q / 256=X / 256 ^ (q+1):=by
 rw[Int.ediv_ediv_of_nonneg (Int.le_of_lt (Int.pow_pos (by decide))),←Int.pow_succ]
theorem byte_powN (q:Nat):(256:Int) ^ q=2 ^ (8*q):=by
 rw[Int.pow_mul]
 rfl
def KidsI (w:World) (p tb:Nat) (o:Ob) (v VW VB:Value) (WF BF:List Int) (f:Int→Int→Int→Dn) (NK:Nat) (KA Q:Int) (t:Nat) (X:World):Prop :=
 ∃A3 n3 c3 pk E,StN w p tb o v X o.kind o.size VW VB (.slice A3 n3 c3) pk E∧(E=0→∃lk,n3=t∧lk.length=t∧(0≤pk∧pk≤8192)∧Left f NK o.seg KA Q t pk lk∧KRowN X (tb+1) (.slice A3 n3 c3) lk∧OwnN .u64 44 X (tb+1) VW WF∧OwnN .u8 5 X (tb+1) VB BF)∧(E≠0→E=(decKids f NK o.seg KA Q).1)
def KidsE (w:World) (p tb:Nat) (o:Ob) (v VW VB:Value) (WF BF:List Int) (f:Int→Int→Int→Dn) (NK:Nat) (KA Q:Int) (X:World):Prop :=
 ∃A3 n3 c3 pk E,StN w p tb o v X o.kind o.size VW VB (.slice A3 n3 c3) pk E∧(E=0→∃lk,decKids f NK o.seg KA Q=(0,pk,lk)∧lk.length≤NK∧KRowN X (tb+1) (.slice A3 n3 c3) lk∧OwnN .u64 44 X (tb+1) VW WF∧OwnN .u8 5 X (tb+1) VB BF)∧(E≠0→E=(decKids f NK o.seg KA Q).1)
def okDn (s:Sr) (f:Int→Int→Int→Dn) (o:Ob) (p:Int):Dn :=
 ⟨(decKids f (nKids o) o.seg (kidsA o) p).1,(decKids f (nKids o) o.seg (kidsA o) p).2.1,.mk o.kind o.size (wordsF s o) (bytesF s o) (decKids f (nKids o) o.seg (kidsA o) p).2.2⟩
theorem cells_drew {X:World} {b:Nat} {c0 c1 c2 c3 c4:Value} (h:X.cell? ⟨b,0,none⟩=some c0∧X.cell? ⟨b,1,none⟩=some c1∧X.cell? ⟨b,2,none⟩=some c2∧X.cell? ⟨b,3,none⟩=some c3∧X.cell? ⟨b,4,none⟩=some c4) :
  X.drew.cell? ⟨b,0,none⟩=some c0∧X.drew.cell? ⟨b,1,none⟩=some c1∧X.drew.cell? ⟨b,2,none⟩=some c2∧X.drew.cell? ⟨b,3,none⟩=some c3∧X.drew.cell? ⟨b,4,none⟩=some c4:=h
def FinN (w:World) (tb:Nat) (v:Value) (k z:Int) (vw vb vk:Value) (pd e:Int) (Y X:World):Prop :=
 NBox X (w.heap.size+1) v pd e∧TBox X (w.heap.size+1+1) k z vw vb vk∧Below w.heap.size w X∧(∀b,tb+1≤b→X.heap[b]? = Y.heap[b]?)∧X.heap.size=Y.heap.size
theorem FinN.drew {w:World} {tb:Nat} {v:Value} {k z:Int} {vw vb vk:Value} {pd e:Int} {Y X:World} (h:FinN w tb v k z vw vb vk pd e Y X):FinN w tb v k z vw vb vk pd e Y X.drew :=
 ⟨h.1,h.2.1,h.2.2.1.drew,h.2.2.2.1,h.2.2.2.2⟩
theorem StN.fin {w:World} {p tb:Nat} {o:Ob} {v:Value} {X:World} {k z:Int} {vw vb vk:Value} {pd e:Int} (h:StN w p tb o v X k z vw vb vk pd e) :
  (NBox (putN X (w.heap.size+1) v pd e) w.heap.size v pd e∧TBox (putN X (w.heap.size+1) v pd e) tb k z vw vb vk∧TBox (putN X (w.heap.size+1) v pd e) (w.heap.size+1+1) 0 0 (.slice none 0 0) (.slice none 0 0) (.slice none 0 0)) ∧
  (NBox (putT X (w.heap.size+1+1) k z vw vb vk) w.heap.size v pd e∧TBox (putT X (w.heap.size+1+1) k z vw vb vk) tb k z vw vb vk∧NBox (putT X (w.heap.size+1+1) k z vw vb vk) (w.heap.size+1) (.slice none 0 0) 0 0) ∧
  FinN w tb v k z vw vb vk pd e X (putT (putN X (w.heap.size+1) v pd e) (w.heap.size+1+1) k z vw vb vk) ∧
  FinN w tb v k z vw vb vk pd e X (putN (putT X (w.heap.size+1+1) k z vw vb vk) (w.heap.size+1) v pd e):=by
 have hl:=h.lo;have a1:NBox (putN X (w.heap.size+1) v pd e) w.heap.size v pd e:=h.dn.block (putN_other _ _ _ _ _ (by omega));have a2:TBox (putN X (w.heap.size+1) v pd e) tb k z vw vb vk:=h.tr.block (putN_other _ _ _ _ _ (by omega));have a3:TBox (putN X (w.heap.size+1) v pd e) (w.heap.size+1+1) 0 0 (.slice none 0 0) (.slice none 0 0) (.slice none 0 0):=h.r2.block (putN_other _ _ _ _ _ (by omega));have b1:NBox (putT X (w.heap.size+1+1) k z vw vb vk) w.heap.size v pd e:=h.dn.block (putT_other _ _ _ _ _ _ _ (by omega));have b2:TBox (putT X (w.heap.size+1+1) k z vw vb vk) tb k z vw vb vk:=h.tr.block (putT_other _ _ _ _ _ _ _ (by omega));have b3:NBox (putT X (w.heap.size+1+1) k z vw vb vk) (w.heap.size+1) (.slice none 0 0) 0 0:=h.r1.block (putT_other _ _ _ _ _ _ _ (by omega));refine ⟨⟨a1,a2,a3⟩,⟨b1,b2,b3⟩,⟨(h.r1.putN v pd e).block (putT_other _ _ _ _ _ _ _ (by omega)),a3.putT k z vw vb vk,below_putT (below_putN h.bl (by omega) v pd e) (by omega) k z vw vb vk,fun b hb=> ?_,by rw[putT_size,putN_size]⟩,⟨b3.putN v pd e,(h.r2.putT k z vw vb vk).block (putN_other _ _ _ _ _ (by omega)),below_putN (below_putT h.bl (by omega) k z vw vb vk) (by omega) v pd e,fun b hb=> ?_,by rw[putN_size,putT_size]⟩⟩
 ·rw[putT_other _ _ _ _ _ _ _ (by omega),putN_other _ _ _ _ _ (by omega)]
 ·rw[putN_other _ _ _ _ _ (by omega),putT_other _ _ _ _ _ _ _ (by omega)]
theorem node_end {w:World} {p tb:Nat} {o:Ob} {v:Value} {Y X:World} {AW AB A3:Option Addr} {NW cW NB cB n3 c3:Nat} {pk E:Int} {s:Sr} {f:Int→Int→Int→Dn} {Q:Int} (hst:StN w p tb o v Y o.kind o.size (.slice AW NW cW) (.slice AB NB cB) (.slice A3 n3 c3) pk E)
  (hE0:E=0→∃lk,decKids f (nKids o) o.seg (kidsA o) Q=(0,pk,lk)∧lk.length≤nKids o∧KRowN Y (tb+1) (.slice A3 n3 c3) lk∧OwnN .u64 44 Y (tb+1) (.slice AW NW cW) (wordsF s o)∧OwnN .u8 5 Y (tb+1) (.slice AB NB cB) (bytesF s o)) (hE1:E≠0→E=(decKids f (nKids o) o.seg (kidsA o) Q).1)
  (hg:∀m,m≤nKids o→Good1 o.kind o.size (wordsF s o) (bytesF s o) m)
  (hf:FinN w tb v o.kind o.size (.slice AW NW cW) (.slice AB NB cB) (.slice A3 n3 c3) pk E Y X) :
  NodeR v (okDn s f o Q) w (.returned (.tuple #[.agg #[v,.bool false,.slice none 0 0,.int .i64 pk,.int .i64 E],.agg (cellsT o.kind o.size (.slice AW NW cW) (.slice AB NB cB) (.slice A3 n3 c3))])) X:=by
 obtain ⟨h1,h2,h3,h4,h5⟩:=hf;have hl:=hst.lo;refine ⟨pk,E,o.kind,o.size,AW,NW,cW,AB,NB,cB,A3,n3,c3,rfl,h3,?_,fun hx=> ?_⟩
 ·unfold okDn;dsimp only
  by_cases hz:E=0
  ·obtain ⟨lk,hd,-⟩:=hE0 hz;rw[hd,hz]
  ·exact hE1 hz
 ·unfold okDn at hx ⊢;dsimp only at hx ⊢;have hz:E=0:=by
   by_cases hz:E=0
   ·exact hz
   ·rw[hE1 hz];exact hx
  obtain ⟨lk,hd,hll,hk,hw,hb⟩:=hE0 hz;rw[hd];dsimp only;refine ⟨rfl,?_⟩;have hP:TrP Y (fun b=>tb+1≤b∧b<Y.heap.size) (.mk o.kind o.size (wordsF s o) (bytesF s o) lk) (.agg (cellsT o.kind o.size (.slice AW NW cW) (.slice AB NB cB) (.slice A3 n3 c3))):=by
   obtain ⟨A7,c7,e7,k1,k2,k3⟩:=hk.kids;rw[e7];unfold TrP;exact ⟨_,_,A7,c7,rfl,hg _ hll,(OwnN.numP hw).mono (fun g e=>World.ownsRow.lt hw g e),(OwnN.numP hb).mono (fun g e=>World.ownsRow.lt hb g e),k1,k2,k3⟩
  exact TrP.mono (fun b hb=>⟨by omega,by omega⟩) _ _ (TrP.keep (fun b hb=>h4 b hb.1) _ _ hP)
set_option maxHeartbeats 4000000 in
theorem node_ok (v:Value) (ls:List (List Int)) (g a around paid:Int) (w:World) (h:ArV w w.heap.size v ls) (hs:ls.length≤1000000000) (hu:AllU ls) (h64:All64 (sizesL ls)) (hfit:fitsL (sizesL ls)=true) (ha: -1099511627776≤a∧a≤1099511627776) (hp:0≤paid∧paid≤8192) (har:0≤around∧around≤100) (hE2:(thingE (followO (srA ls) g a) around (8192 - paid)).2=0) (f:Int→Int→Int→Dn)
  (hfp:∀g a q,0≤q→q≤8192→(f g a q).err=0→q≤(f g a q).paid∧(f g a q).paid≤8192)
  (ih:(followO (srA ls) g a).1.kind≠0→∀X,Below w.heap.size w X→∀g a q,(-1099511627776≤a∧a≤1099511627776)→(0≤q∧q≤8192)→Calls Tryz.prog 44 #[.agg #[v,.bool false,.slice none 0 0,.int .i64 q,.int .i64 0],.int .i64 g,.int .i64 a,.int .i64 (around+1)] X (NodeR v (f g a q) X)) :
  Calls Tryz.prog 44 #[.agg #[v,.bool false,.slice none 0 0,.int .i64 paid,.int .i64 0],.int .i64 g,.int .i64 a,.int .i64 around] w (NodeR v (okDn (srA ls) f (followO (srA ls) g a).1 (paid+(1+wordsO (followO (srA ls) g a).1))) w):=by
 have HF:=LH (fun X (hX:Below w.heap.size w X)=>rsfollow_any v ls g a X (h.on hX) hs hu h64 ha)
 have HGd:=LH (follow_good (srA_good hs hu h64) g a);have HWd:=LH (fun X (hX:Below w.heap.size w X) (g' a':Int)=>rsword_any v ls g' a' X (h.on hX) (by omega))
 have HFit:=LH hfit;have HAu:=LH hu;have HIh:=LH ih;have HFp:=LH hfp;obtain ⟨F,hF⟩:∃F,F=followO (srA ls) g a:=⟨_,rfl⟩;rw[←hF] at HF HGd hE2 HIh ⊢;obtain ⟨A,qc,rfl⟩:=h.form rfl;obtain ⟨W1,hW1⟩:∃W1,W1=((w.alloc (.cells #[.slice A ls.length qc,.bool false,.slice none 0 0,.int .i64 paid,.int .i64 0] 98)).alloc (.cells #[.slice none 0 0,.bool false,.slice none 0 0,.int .i64 0,.int .i64 0] 98)).alloc (.cells (cellsT 0 0 (.slice none 0 0) (.slice none 0 0) (.slice none 0 0)) 34):=⟨_,rfl⟩;obtain ⟨b1,b2,b3,hB1,hz1⟩:=boxesNo w _ _ _ W1 hW1;have HN1:=LH b1;have HR1:=LH b2;have HT1:=LH b3;have HB1:=LH hB1;obtain ⟨s0,s1,s2,s3,s4⟩:=b1.cells;obtain ⟨o,E⟩:=F;dsimp only at HGd HIh ⊢;have hE0:E=0∧¬(o.kind≠0∧32≤around)∧¬(8192 - paid<1+wordsO o):=by
  unfold thingE at hE2;dsimp only at hE2
  by_cases c1:E≠0
  ·rw[if_pos c1] at hE2;exact absurd hE2 c1
  ·rw[if_neg c1] at hE2
   by_cases c2:o.kind≠0∧32≤around
   ·rw[if_pos c2] at hE2;exact absurd hE2 (by decide)
   ·rw[if_neg c2] at hE2
    by_cases c3:8192 - paid<1+wordsO o
    ·rw[if_pos c3] at hE2;exact absurd hE2 (by decide)
    ·exact ⟨by omega,c2,c3⟩
 obtain ⟨rfl,hdp,hcost⟩:=hE0;have hok:=HGd.out.okq;have hbd:=GoodO.bd (srA_good hs hu h64) HGd.out;have hsz:=good_sizes HGd.out hfit;have hqb:=okq_bd hok;have hk3:o.kind=0∨o.kind=1∨o.kind=2:=by
  rcases HGd.out with e | ⟨e,_⟩
  ·rw[e];exact .inl rfl
  ·omega
 have hat:0≤o.at_∧o.at_≤1000000:=good_at HGd.out hfit;obtain ⟨n,hn⟩:∃n,n=wordsO o:=⟨_,rfl⟩;have hbn:=wordN_bd hok;rw[show wordN (ptrO o)=n from hn.symm] at hbn
 have HW9:=LH (fun X=>rswords_any o X hok (by omega))
 rw[←hn] at HW9 hcost ⊢;obtain ⟨DN,hDN⟩:∃DN,DN=okDn (srA ls) f o (paid+(1+n)):=⟨_,rfl⟩;have HDN:=LH hDN;rw[←hDN];have HNw:Hid (nWords o=if o.kind=2∧o.size=5 then o.count.toNat else o.data.toNat):=LH rfl
 have HNk:Hid (nKids o=if o.kind=2∧o.size=6 then o.count.toNat else o.ptrs.toNat):=LH rfl
 have HNb:Hid (nBytes o=if o.size=2 then o.count.toNat else 0):=LH rfl
 have HKa:Hid (kidsA o=if o.kind=1 then o.at_+o.data else o.at_):=LH rfl
 have hwF:(wordsF (srA ls) o).length=nWords o:=by simp[wordsF]
 have hbF:(bytesF (srA ls) o).length=nBytes o:=by simp[bytesF]
 have HgF:Hid (∀t:Nat,t<nWords o→(wordsF (srA ls) o)[t]? = some (wordA ls o.seg (o.at_+(t:Int)))):=LH (fun t ht=>by
  unfold wordsF;rw[List.getElem?_map,List.getElem?_range ht]
  rfl)
 have HgB:Hid (∀t:Nat,t<nBytes o→(bytesF (srA ls) o)[t]? = some (wordA ls o.seg (o.at_+((t / 8:Nat):Int)) / 2 ^ (8*(t % 8)) % 256)):=LH (fun t ht=>by
  unfold bytesF;rw[List.getElem?_map,List.getElem?_range ht]
  rfl)
 have HG1:Hid (∀m,m≤nKids o→Good1 o.kind o.size (wordsF (srA ls) o) (bytesF (srA ls) o) m):=LH (fun m hm=>good_node hu HGd.out hfit hm)
 have HMw:Hid ((nWords o:Int)*(2 - o.kind)=kidsA o - o.at_∧0≤kidsA o - o.at_∧kidsA o - o.at_≤65535):=LH (by
  have hd:=hqb.1;have hw:=hsz.1;unfold ptrO at hd;dsimp only at hd;unfold kidsA;unfold nWords at hw ⊢
  rcases hk3 with k | k | k
  ·rw[good_zero HGd.out k];exact ⟨by decide,by decide,by decide⟩
  ·rw[if_pos k,if_neg (by omega),k]
   omega
  ·rw[if_neg (show ¬o.kind=1 by omega),k]
   omega)
 have HK0:Hid (nKids o≠0→o.kind≠0):=LH (fun hx hk=>hx (by rw[good_zero HGd.out hk];rfl))
 have HPd:Hid (0≤paid+(1+n)∧paid+(1+n)≤8192):=LH (by omega);have hw1:IntKind.i64.wrap (1+n)=1+n:=IntWalk.i64_in _ (by omega);have hw2:IntKind.i64.wrap (paid+(1+n))=paid+(1+n):=IntWalk.i64_in _ (by omega);have HWr:=LH (And.intro hw1 hw2);obtain ⟨WF,hWF⟩:∃WF,WF=wordsF (srA ls) o:=⟨_,rfl⟩;obtain ⟨BF,hBF⟩:∃BF,BF=bytesF (srA ls) o:=⟨_,rfl⟩;obtain ⟨NW,hNW⟩:∃NW,NW=nWords o:=⟨_,rfl⟩;obtain ⟨NB,hNB⟩:∃NB,NB=nBytes o:=⟨_,rfl⟩;obtain ⟨NK,hNK⟩:∃NK,NK=nKids o:=⟨_,rfl⟩;obtain ⟨KA,hKA⟩:∃KA,KA=kidsA o:=⟨_,rfl⟩;rw[←hWF,←hBF] at HG1;rw[←hWF] at HgF hwF;rw[←hBF] at HgB hbF;rw[←hNW] at HNw HMw HgF hwF hsz;rw[←hNB] at HNb HgB hbF hsz;rw[←hNK] at HNk HG1 HK0 hsz;rw[←hKA] at HKa HMw;have HEq:=LH (And.intro hWF (And.intro hBF (And.intro hNK hKA)));clear hWF hBF hNW hNB hNK hKA;obtain ⟨ok,og,oa,od,op,oz,oc⟩:=o;unfold ptrO at hqb;dsimp only at HF HIh HDN HNw HNk HNb HKa HMw HgF HgB HG1 HEq HK0 hdp hk3 hat hqb hbd HW9;unfold ObI srcV at HF;unfold srcV at HWd;unfold cellsO at HF HW9;dsimp only at HF HW9;unfold cellsT at hW1;have HAt:=LH hat;have HSz:=LH hsz;have HQb:=LH hqb;have HKd:=LH hk3;have HAr:=LH har;have HLen:=LH (And.intro hwF hbF);have hD2:(ok != 0 && decide (around≥32))=false:=by
  by_cases c1:ok=0
  ·simp[c1]
  ·have:¬around≥32:=fun e=>hdp ⟨c1,e⟩
   simp[this]
 have HD2:=LH hdp;clear hE2 h hs hu h64 hfit ha hp har ih hfp hF b1 b2 b3 hB1 hz1 hn hok hbd hsz hqb hk3 hat hbn hDN hwF hbF hw1 hw2 hdp hcost;generalize ls.length=m at *
 go_enter Tryz.func44,Tryz.ntmps44;go_upto_region 1 with fail
 rw[←hW1];clear hW1
 go_wp2_with fail
 refine (HF.out _ HB1.out).mono ?_
 rintro e w2 ⟨rfl,hB2⟩;obtain ⟨w3,hw3⟩:∃w3,w3=w2.alloc (.cells #[.int .i64 ok,.int .i64 og,.int .i64 oa,.int .i64 od,.int .i64 op,.int .i64 oz,.int .i64 oc] 129):=⟨_,rfl⟩;have hB3:Below w2.heap.size w2 w3:=by rw[hw3];exact (Below.refl _ _).alloc (Nat.le_refl _) _
 have hP3:OBox w3 w2.heap.size ⟨ok,og,oa,od,op,oz,oc⟩:=by rw[hw3];exact OBox.new w2 ⟨ok,og,oa,od,op,oz,oc⟩
 have HN3:=LH (HN1.out.on (bseqS hB2 hB3));have HR3:=LH (HR1.out.on (bseqS hB2 hB3));have HT3:=LH (HT1.out.on (bseqS hB2 hB3));have HB3:=LH (HB1.out.trans ((bseqS hB2 hB3).mono HB1.out.size));have HLt:Hid (w.heap.size+2<w2.heap.size):=LH (by have:=(HT1.out.on hB2).lt;omega);obtain ⟨p,hp⟩:∃p,p=w2.heap.size:=⟨_,rfl⟩;rw[←hp] at hP3 HLt;have HP3:=LH hP3;clear hB2 hB3 s0 s1 s2 s3 s4 hP3;go_upto_region 2 with fail
 rw[←hw3,←hp];clear hw3 hp;obtain ⟨x0,x1,x2,x3,x4,x5,x6⟩:=HP3.out.cells;dsimp only at x0 x1 x2 x3 x4 x5 x6
 go_cut [43] (fun x wx=>x= .bool false∧wx=w3)
 case first=>as_aux_lemma =>
  by_cases k1:ok=0
  ·subst k1
   go_wp2_with fail
   go_meet;exact ⟨rfl,rfl⟩
  ·have k2:(ok != 0)=true:=by simp[k1]
   have k3:¬around≥32:=fun e=>HD2.out ⟨k1,e⟩
   go_wp2_with fail
   go_meet
   first | exact ⟨rfl,rfl⟩ | exact ⟨congrArg Value.bool (decide_eq_false (by omega)),rfl⟩
 case rest =>
  obtain ⟨rfl,rfl⟩:=hcut;go_upto_region 4 with fail
  have HCel:Hid (∀X,Below wc.heap.size wc X→(X.cell? ⟨w.heap.size,3,none⟩=some (.int .i64 paid)∧X.frozen? ⟨w.heap.size,3,none⟩=false)∧X.cell? ⟨p,0,none⟩=some (.int .i64 ok)∧X.cell? ⟨p,1,none⟩=some (.int .i64 og)∧X.cell? ⟨p,2,none⟩=some (.int .i64 oa)∧X.cell? ⟨p,3,none⟩=some (.int .i64 od)∧X.cell? ⟨p,4,none⟩=some (.int .i64 op)∧X.cell? ⟨p,5,none⟩=some (.int .i64 oz)∧X.cell? ⟨p,6,none⟩=some (.int .i64 oc)):=LH (fun X hX=>⟨⟨((HN3.out.on hX).cells).2.2.2.1,(HN3.out.on hX).frozen 3⟩,(HP3.out.on hX).cells⟩)
  have HAft:Hid (∀X,Below wc.heap.size wc X→NBox (X.setCell ⟨w.heap.size,3,none⟩ (.int .i64 (paid+(1+n)))) w.heap.size (.slice A m qc) (paid+(1+n)) 0∧OBox (X.setCell ⟨w.heap.size,3,none⟩ (.int .i64 (paid+(1+n)))) p ⟨ok,og,oa,od,op,oz,oc⟩∧NBox (X.setCell ⟨w.heap.size,3,none⟩ (.int .i64 (paid+(1+n)))) (w.heap.size+1) (.slice none 0 0) 0 0∧TBox (X.setCell ⟨w.heap.size,3,none⟩ (.int .i64 (paid+(1+n)))) (w.heap.size+2) 0 0 (.slice none 0 0) (.slice none 0 0) (.slice none 0 0)∧Below w.heap.size w (X.setCell ⟨w.heap.size,3,none⟩ (.int .i64 (paid+(1+n))))):=LH (fun X hX =>
   ⟨(HN3.out.on hX).pay _,(HP3.out.on hX).apart (by have:=HLt.out;omega),(HR3.out.on hX).apart (by omega),(HT3.out.on hX).apart (by omega),(bseqS HB3.out hX).setCell (p:=⟨w.heap.size,3,none⟩) (Nat.le_refl _) _⟩)
  have hD0:Below wc.heap.size wc wc.drew:=(Below.refl _ _).drew;clear x0 x1 x2 x3 x4 x5 x6;obtain ⟨⟨d1,e1⟩,y0,y1,y2,y3,y4,y5,y6⟩:=HCel.out _ hD0;obtain ⟨wr1,wr2⟩:=HWr.out
  go_cut [] (fun wx=>NBox wx w.heap.size (.slice A m qc) (paid+(1+n)) 0∧OBox wx p ⟨ok,og,oa,od,op,oz,oc⟩∧NBox wx (w.heap.size+1) (.slice none 0 0) 0 0∧TBox wx (w.heap.size+2) 0 0 (.slice none 0 0) (.slice none 0 0) (.slice none 0 0)∧Below w.heap.size w wx)
  case first=>as_aux_lemma =>
   go_region_law (first
    | (go_simp;go_at_call 77;with_reducible refine (HW9.out _).mono ?_;rintro e w6 ⟨rfl,hB6⟩;have hD6:=bseqS hD0 hB6;clear d1 e1 y0 y1 y2 y3 y4 y5 y6;obtain ⟨⟨d1,e1⟩,y0,y1,y2,y3,y4,y5,y6⟩:=HCel.out _ hD6))
   all_goals go_wp2_with fail
   all_goals go_meet
   all_goals exact HAft.out _ hD6
  case rest =>
   obtain ⟨hn5,hp5,hr5,ht5,hb5⟩:=hcut;clear hD0 d1 e1 y0 y1 y2 y3 y4 y5 y6 HCel HAft wr1 wr2 HN3 HR3 HT3 HB3 HP3 HD2
   rename_i wa wz
   obtain ⟨Q,hQ⟩:∃Q,Q=paid+(1+n):=⟨_,rfl⟩;rw[←hQ] at hn5 HPd HDN;clear hQ HWr;have k8:¬Q>8192:=by have:=HPd.out.2;omega
   obtain ⟨d0,d1,d2,d3,d4⟩:=hn5.cells;go_upto_region 5 with fail
   go_cut [57] (fun x wx=>x= .bool false∧wx=wc)
   case first=>as_aux_lemma =>
    go_wp2_with fail
    go_meet
    first | exact ⟨rfl,rfl⟩ | exact ⟨congrArg Value.bool (decide_eq_false (by omega)),rfl⟩
   case rest =>
    obtain ⟨rfl,rfl⟩:=hcut;clear d0 d1 d2 d3 d4 k8;obtain ⟨x0,x1,x2,x3,x4,x5,x6⟩:=hp5.cells;dsimp only at x0 x1 x2 x3 x4 x5 x6;go_upto_region 11 with fail
    have hst0:StN w p wc.heap.size ⟨ok,og,oa,od,op,oz,oc⟩ (.slice A m qc) (wc.alloc (.cells (cellsT ok oz (.slice none 0 0) (.slice none 0 0) (.slice none 0 0)) 34)) ok oz (.slice none 0 0) (.slice none 0 0) (.slice none 0 0) Q 0:=by
     have hB:Below wc.heap.size wc (wc.alloc (.cells (cellsT ok oz (.slice none 0 0) (.slice none 0 0) (.slice none 0 0)) 34)):=(Below.refl _ _).alloc (Nat.le_refl _) _;exact ⟨hn5.on hB,hr5.on hB,ht5.on hB,hp5.on hB,TBox.new _ _ _ _ _ _,bseqS hb5 hB,⟨HLt.out,hp5.lt⟩,by rw[World.size_alloc];omega⟩
    obtain ⟨w6,hw6⟩:∃w6,w6=wc.alloc (.cells (cellsT ok oz (.slice none 0 0) (.slice none 0 0) (.slice none 0 0)) 34):=⟨_,rfl⟩;rw[←hw6] at hst0;have hbs6:wc.heap.size+1≤w6.heap.size:=by rw[hw6,World.size_alloc];omega
    obtain ⟨tb,htb⟩:∃tb,tb=wc.heap.size:=⟨_,rfl⟩;have hw6':=hw6;unfold cellsT at hw6';rw[←hw6',←htb];rw[←htb] at hst0 hbs6;clear hw6 hw6' htb hn5 hp5 hr5 ht5 hb5 x0 x1 x2 x3 x4 x5 x6;have HSt:=LH hst0;have HBs:=LH hbs6;clear hst0 hbs6;obtain ⟨x0,x1,x2,x3,x4,x5,x6⟩:=HSt.out.ob.cells;dsimp only at x0 x1 x2 x3 x4 x5 x6;obtain ⟨C1,hC1⟩:∃C:Bool,C=decide (ok=2∧oz=6):=⟨_,rfl⟩;obtain ⟨C2,hC2⟩:∃C:Bool,C=decide (ok=2∧oz=5):=⟨_,rfl⟩;have HC1:=LH hC1;have HC2:=LH hC2;clear hC1 hC2;have HNKi:Hid (C1=true→(NK:Int)=oc):=LH (fun hc=>by
     have hh:=of_decide_eq_true (HC1.out.symm.trans hc);have hq:=HQb.out;rw[HNk.out,if_pos hh]
     omega)
    have HNKj:Hid (C1=false→(NK:Int)=op):=LH (fun hc=>by
     have hh:=of_decide_eq_false (HC1.out.symm.trans hc);have hq:=HQb.out;rw[HNk.out,if_neg hh]
     omega)
    have HNWi:Hid (C2=true→(NW:Int)=oc):=LH (fun hc=>by
     have hh:=of_decide_eq_true (HC2.out.symm.trans hc);have hq:=HQb.out;rw[HNw.out,if_pos hh]
     omega)
    have HNWj:Hid (C2=false→(NW:Int)=od):=LH (fun hc=>by
     have hh:=of_decide_eq_false (HC2.out.symm.trans hc);have hq:=HQb.out;rw[HNw.out,if_neg hh]
     omega)
    go_upto_region 13 with fail
    go_cut [80] (fun x wx=>x= .bool C1∧wx=w6)
    case first=>as_aux_lemma =>
     by_cases k1:ok=2
     ·subst k1
      by_cases k2:oz=6
      ·subst k2
       go_wp2_with fail
       go_meet;exact ⟨congrArg Value.bool (HC1.out.trans (decide_eq_true (by simp))).symm,rfl⟩
      ·have k3:(oz == 6)=false:=by simpa using k2
       go_wp2_with fail
       go_meet;exact ⟨congrArg Value.bool (HC1.out.trans (decide_eq_false (by simp[k2]))).symm,rfl⟩
     ·have k3:(ok == 2)=false:=by simpa using k1
      go_wp2_with fail
      go_meet;exact ⟨congrArg Value.bool (HC1.out.trans (decide_eq_false (by simp[k1]))).symm,rfl⟩
    case rest =>
     obtain ⟨rfl,rfl⟩:=hcut
     go_upto_if 80 with fail
     go_cut [14] (fun x wx=>x= .int .i64 (NK:Int)∧wx=wc)
     case first=>as_aux_lemma =>
      cases C1 with
      | true =>
       have HE:=LH (HNKi.out rfl);clear HNKi HNKj HNWi HNWj
       go_wp2_with fail
       go_meet;exact ⟨congrArg (Value.int .i64) HE.out.symm,rfl⟩
      | false =>
       have HE:=LH (HNKj.out rfl);clear HNKi HNKj HNWi HNWj
       go_wp2_with fail
       go_meet;exact ⟨congrArg (Value.int .i64) HE.out.symm,rfl⟩
     case rest =>
      obtain ⟨rfl,rfl⟩:=hcut;go_upto_region 15 with fail
      go_cut [90] (fun x wx=>x= .bool C2∧wx=wc)
      case first=>as_aux_lemma =>
       by_cases k1:ok=2
       ·subst k1
        by_cases k2:oz=5
        ·subst k2
         go_wp2_with fail
         go_meet;exact ⟨congrArg Value.bool (HC2.out.trans (decide_eq_true (by simp))).symm,rfl⟩
        ·have k3:(oz == 5)=false:=by simpa using k2
         go_wp2_with fail
         go_meet;exact ⟨congrArg Value.bool (HC2.out.trans (decide_eq_false (by simp[k2]))).symm,rfl⟩
       ·have k3:(ok == 2)=false:=by simpa using k1
        go_wp2_with fail
        go_meet;exact ⟨congrArg Value.bool (HC2.out.trans (decide_eq_false (by simp[k1]))).symm,rfl⟩
      case rest =>
       obtain ⟨rfl,rfl⟩:=hcut
       go_upto_if 90 with fail
       go_cut [13] (fun x wx=>x= .int .i64 (NW:Int)∧wx=wc)
       case first=>as_aux_lemma =>
        cases C2 with
        | true =>
         have HE:=LH (HNWi.out rfl);clear HNKi HNKj HNWi HNWj
         go_wp2_with fail
         go_meet;exact ⟨congrArg (Value.int .i64) HE.out.symm,rfl⟩
        | false =>
         have HE:=LH (HNWj.out rfl);clear HNKi HNKj HNWi HNWj
         go_wp2_with fail
         go_meet;exact ⟨congrArg (Value.int .i64) HE.out.symm,rfl⟩
       case rest =>
        obtain ⟨rfl,rfl⟩:=hcut;clear x0 x1 x2 x3 x4 x5 x6 HC1 HC2 HNKi HNKj HNWi HNWj
        go_upto_block 0 with fail
        go_cut [15] (fun s15 wx=>(∃j:Int,s15= .int .i64 j)∧∃A1 c1,StN w p tb ⟨ok,og,oa,od,op,oz,oc⟩ (.slice A m qc) wx ok oz (.slice A1 NW c1) (.slice none 0 0) (.slice none 0 0) Q 0∧OwnN .u64 44 wx (tb+1) (.slice A1 NW c1) WF∧tb+1≤wx.heap.size)
        case first=>as_aux_lemma =>
         go_wp2_with fail
         go_loopw [15] (fun i wr=>∃t:Nat,t≤NW∧i= .int .i64 t∧∃A1 c1,StN w p tb ⟨ok,og,oa,od,op,oz,oc⟩ (.slice A m qc) wr ok oz (.slice A1 t c1) (.slice none 0 0) (.slice none 0 0) Q 0∧OwnN .u64 44 wr (tb+1) (.slice A1 t c1) (WF.take t)∧tb+1≤wr.heap.size) (fun i _=>NW - (intOf i).toNat)
         case atStart=>exact ⟨0,Nat.zero_le _,rfl,none,0,HSt.out,World.ownsRow_nil _ _ _ _,HBs.out⟩
         case round =>
          obtain ⟨t,ht,rfl,A1,c1,hst,how,hbs⟩:=hrel;generalize wr=w7 at *
          by_cases hlt:t<NW
          ·have d65:(t:Int)<(NW:Int):=by omega
           have hC:=HWd.out w7 hst.bl og (oa+(t:Int));have HC:=LH hC;have HS7:=LH hst;have HO7:=LH how;have HB7:=LH hbs;have ha0:=HAt.out.1;have ha1:=HAt.out.2;have hN1:=HSz.out.1;obtain ⟨d0,d1,d2,d3,d4⟩:=hst.dn.cells;obtain ⟨x0,x1,x2,x3,x4,x5,x6⟩:=hst.ob.cells;dsimp only at x0 x1 x2 x3 x4 x5 x6;have hG:=HgF.out t hlt;have HG:=LH hG;clear hC hst how hbs hG;generalize wordA ls og (oa+(t:Int))=X at *
           generalize wordE7 ls og (oa+(t:Int))=XE at *
           go_wp2_with fail
           refine HC.out.mono ?_
           rintro e w8 ⟨rfl,hB8⟩;obtain ⟨A2,c2,Z,hrun,htZ,hstZ,howZ,hbsZ⟩:=word_stepN HS7.out HO7.out hB8 HG.out (by rw[HLen.out.1];omega);have HRun:=LH hrun;have HFin:=LH (And.intro hstZ (And.intro howZ hbsZ));clear d0 d1 d2 d3 d4 x0 x1 x2 x3 x4 x5 x6;obtain ⟨t0,t1,t2,t3,t4⟩:=(HS7.out.on hB8).tr.cells;obtain ⟨u0,u1,u2,u3,u4⟩:=htZ.cells;have tf2:=htZ.frozen 2;clear hB8 hrun htZ hstZ howZ hbsZ
           go_wp2_with (at_builtin;refine Lib.wpList_append_run _ rfl _ _ _ _ rfl _ _ rfl rfl _ _ HRun.out ?_)
           go_roundw
           case rel=>exact ⟨t+1,by omega,by go_num,A2,c2,HFin.out⟩
           case measure=>simp[intOf];omega
          ·obtain rfl:t=NW:=by omega
           have d65:¬(t:Int)<(t:Int):=by omega
           rw[List.take_of_length_le (by rw[HLen.out.1];exact Nat.le_refl _)] at how;have HFin:=LH (And.intro hst (And.intro how hbs));clear hst how hbs
           go_wp2_with fail
           go_meet;exact ⟨⟨_,rfl⟩,_,_,HFin.out⟩
        case rest =>
         obtain ⟨⟨j1,rfl⟩,AW,cW,hst,how,hbs⟩:=hcut;have HSt:=LH hst;have HOw:=LH how;have HBs:=LH hbs;clear hst how hbs
         go_upto_block 2 with fail
         go_cut [18] (fun s18 wx=>(∃j:Int,s18= .int .i64 j)∧∃A2 c2,StN w p tb ⟨ok,og,oa,od,op,oz,oc⟩ (.slice A m qc) wx ok oz (.slice AW NW cW) (.slice A2 NB c2) (.slice none 0 0) Q 0∧OwnN .u64 44 wx (tb+1) (.slice AW NW cW) WF∧OwnN .u8 5 wx (tb+1) (.slice A2 NB c2) BF∧tb+1≤wx.heap.size)
         case first=>as_aux_lemma =>
          go_wp2_with fail
          go_loopw [18] (fun i wr=>∃t:Nat,t≤NB∧i= .int .i64 t∧∃A2 c2,StN w p tb ⟨ok,og,oa,od,op,oz,oc⟩ (.slice A m qc) wr ok oz (.slice AW NW cW) (.slice A2 t c2) (.slice none 0 0) Q 0∧OwnN .u64 44 wr (tb+1) (.slice AW NW cW) WF∧OwnN .u8 5 wr (tb+1) (.slice A2 t c2) (BF.take t)∧tb+1≤wr.heap.size) (fun i _=>NB - (intOf i).toNat)
          case atStart=>exact ⟨0,Nat.zero_le _,rfl,none,0,HSt.out,HOw.out,World.ownsRow_nil _ _ _ _,HBs.out⟩
          case round =>
           obtain ⟨t,ht,rfl,A1,c1,hst,how,hob,hbs⟩:=hrel;generalize wr=w7 at *
           have ha0:=HAt.out.1;have ha1:=HAt.out.2;have hN1:=HSz.out.2.1;obtain ⟨x0,x1,x2,x3,x4,x5,x6⟩:=hst.ob.cells;dsimp only at x0 x1 x2 x3 x4 x5 x6
           by_cases hlt:t<NB
           ·obtain ⟨hz2,hoc⟩:oz=2∧(t:Int)<oc:=by
             have h1:=HNb.out
             by_cases c1:oz=2
             ·rw[if_pos c1] at h1;exact ⟨c1,by omega⟩
             ·rw[if_neg c1] at h1
              omega
            have e8:((t / 8:Nat):Int)=(t:Int) / 8:=by omega
            have hC:=HWd.out w7 hst.bl og (oa+((t / 8:Nat):Int));have HC:=LH hC;have HS7:=LH hst;have HO7:=LH how;have HOb7:=LH hob;have HB7:=LH hbs;obtain ⟨d0,d1,d2,d3,d4⟩:=hst.dn.cells;have hG:=HgB.out t hlt;have HG:=LH hG;have hXin:=wordA_in HAu.out og (oa+((t / 8:Nat):Int));have HXin:=LH hXin;have k2:(oz == 2)=true:=by simp[hz2]
            clear hC hst how hob hbs hG hz2 hXin;rw[e8] at HC HG HXin;clear e8;generalize wordA ls og (oa+(t:Int) / 8)=X at *
            generalize wordE7 ls og (oa+(t:Int) / 8)=XE at *
            go_wp2_with fail
            refine HC.out.mono ?_
            rintro e w8 ⟨rfl,hB8⟩;have HB8:=LH hB8;clear hB8 d0 d1 d2 d3 d4 x0 x1 x2 x3 x4 x5 x6 HC
            go_wp2_with fail
            go_loopw [19,21] (fun s19 j wr=>∃q:Nat,q≤t % 8∧j= .int .i64 q∧(∃Y:Int,s19= .int .u64 Y∧Y=X / 256 ^ q)∧wr=w8) (fun _ j _=>8 - (intOf j).toNat)
            case atStart=>exact ⟨0,Nat.zero_le _,rfl,⟨X,rfl,by simp⟩,rfl⟩
            case round =>
             obtain ⟨q,hq,rfl,⟨Y,rfl,hY⟩,rfl⟩:=hrel;have HY:=LH hY;have hYin:0≤Y∧Y≤18446744073709551615:=by
              have h1:=HXin.out;rw[hY];have h2:(0:Int)<256 ^ q:=Int.pow_pos (by decide);exact ⟨Int.ediv_nonneg h1.1 (by omega),Int.le_trans (Int.ediv_le_self _ h1.1) h1.2⟩
             obtain ⟨hY0,hY1⟩:=hYin;clear hY
             by_cases hlq:q<t % 8
             ·have d66:(q:Int)<(t:Int) % 8:=by omega
              go_wp2_with fail
              exact ⟨⟨q+1,by omega,rfl,⟨_,rfl,by rw[HY.out,byte_nextN]⟩,trivial⟩,by simp[intOf];omega⟩
             ·obtain rfl:q=t % 8:=by omega
              have d66:¬((t % 8:Nat):Int)<(t:Int) % 8:=by omega
              have hg2:BF[t]? = some (Y % 256):=by rw[HG.out,HY.out,byte_powN]
              obtain ⟨A2,c2,Z,hrun,htZ,hstZ,howZ,hobZ,hbsZ⟩:=byte_stepN HS7.out HO7.out HOb7.out HB8.out hg2 (by rw[HLen.out.2];omega);have HRun:=LH hrun;have HFin:=LH (And.intro hstZ (And.intro howZ (And.intro hobZ hbsZ)));obtain ⟨t0,t1,t2,t3,t4⟩:=(HS7.out.on HB8.out).tr.cells;obtain ⟨u0,u1,u2,u3,u4⟩:=htZ.cells;have tf3:=htZ.frozen 3;clear hrun htZ hstZ howZ hobZ hbsZ hg2
              go_wp2_with (at_builtin;refine Lib.wpList_append_run _ rfl _ _ _ _ rfl _ _ rfl rfl _ _ HRun.out ?_)
              go_roundw
              case rel=>exact ⟨t+1,by omega,by go_num,A2,c2,HFin.out⟩
              case measure=>simp[intOf];omega
           ·obtain rfl:t=NB:=by omega
            rw[List.take_of_length_le (by rw[HLen.out.2];exact Nat.le_refl _)] at hob;have HFin:=LH (And.intro hst (And.intro how (And.intro hob hbs)));have HNb2:Hid (¬((t:Int)<oc∧oz=2)):=LH (fun hx=>by
             have h1:=HNb.out;rw[if_pos hx.2] at h1
             omega)
            clear hst how hob hbs
            by_cases c1:(t:Int)<oc
            ·have k2:(oz == 2)=false:=by
              have h2:=HNb2.out;simp only[beq_eq_false_iff_ne];exact fun e=>h2 ⟨c1,e⟩
             go_wp2_with fail
             go_meet;exact ⟨⟨_,rfl⟩,_,_,HFin.out⟩
            ·go_wp2_with fail
             go_meet;exact ⟨⟨_,rfl⟩,_,_,HFin.out⟩
         case rest =>
          obtain ⟨⟨j2,rfl⟩,AB,cB,hst,how,hob,hbs⟩:=hcut;have HSt:=LH hst;have HOw:=LH how;have HOb:=LH hob;have HBs:=LH hbs;clear hst how hob hbs
          go_upto_block 6 with fail
          go_cut [22] (fun s22 wx=>(∃j:Int,s22= .int .i64 j)∧KidsE w p tb ⟨ok,og,oa,od,op,oz,oc⟩ (.slice A m qc) (.slice AW NW cW) (.slice AB NB cB) WF BF f NK KA Q wx)
          case first =>
           go_wp2_with fail
           go_loopw [22] (fun i wr=>∃t:Nat,t≤NK∧i= .int .i64 t∧KidsI w p tb ⟨ok,og,oa,od,op,oz,oc⟩ (.slice A m qc) (.slice AW NW cW) (.slice AB NB cB) WF BF f NK KA Q t wr) (fun i _=>NK - (intOf i).toNat)
           case atStart=>exact ⟨0,Nat.zero_le _,rfl,none,0,0,Q,0,HSt.out,fun _=>⟨[],rfl,rfl,HPd.out,Left.first f NK og KA Q,KRow.nil _ _ _,HOw.out,HOb.out⟩,fun hx=>absurd rfl hx⟩
           case round =>
            obtain ⟨t,ht,rfl,hKi⟩:=hrel;obtain ⟨A3,n3,c3,pk,E,hst,hE0,hE1⟩:=hKi;dsimp only at hst hE0 hE1;generalize wr=w7 at *
            have HE0:=LH hE0;have HE1:=LH hE1;have HS7:=LH hst;obtain ⟨d0,d1,d2,d3,d4⟩:=hst.dn.cells;obtain ⟨x0,x1,x2,x3,x4,x5,x6⟩:=hst.ob.cells;dsimp only at x0 x1 x2 x3 x4 x5 x6;clear hst hE0 hE1
            by_cases hlt:t<NK
            ·have d65:(t:Int)<(NK:Int):=by omega
             by_cases hE:E=0
             ·subst hE;obtain ⟨lk,rfl,hll,hpk,hLf,hkr,how,hob⟩:=HE0.out rfl;have HLf:=LH hLf;have HKr:=LH hkr;have HOw7:=LH how;have HOb7:=LH hob;have HPk:=LH hpk;have HLl:=LH hll;have hk0:=HK0.out (by omega);obtain ⟨hm1,hm2,hm3⟩:=HMw.out;have ha0:=HAt.out.1;have ha1:=HAt.out.2;have hr0:=HAr.out.1;have hr1:=HAr.out.2;have hkd:=HKd.out;have hN1:=HSz.out.2.2;have hq1:0≤ok∧ok≤2:=by omega
              obtain ⟨hq2,hq3⟩:=hq1;obtain ⟨M,hM⟩:∃M,M=KA - oa:=⟨_,rfl⟩;rw[←hM] at hm1 hm2 hm3;have hC:=HIh.out hk0 w7 HS7.out.bl og (oa+M+(n3:Int)) pk (by omega) hpk;have HC:=LH hC;have HM:Hid (oa+M+(n3:Int)=KA+(n3:Int)):=LH (by omega);have hw3:IntKind.i64.wrap ((NW:Int)*(2 - ok))=M:=by rw[hm1];exact IntWalk.i64_in _ (by omega)
              clear hll hpk hLf hkr how hob hC hk0 hkd hm1 hM HE0
              go_wp2_with fail
              refine HC.out.mono ?_
              intro e w8 hR;obtain ⟨p8,E8,k8,z8,B1,m1,q1,B2,m2,q4,B3,m3,q5,he8,hB8,hE8,hT8⟩:=hR;subst he8;have HB8:=LH hB8;have HE8:=LH hE8;have HT8:=LH hT8;clear hB8 hE8 hT8 HC d0 d1 d2 d3 d4 x0 x1 x2 x3 x4 x5 x6 hw3 hq2 hq3 hm2 hm3;unfold cellsT;go_upto_region 35 with fail
              obtain ⟨w9,hw9⟩:∃w9,w9=(w8.alloc (.cells #[.slice A m qc,.bool false,.slice none 0 0,.int .i64 p8,.int .i64 E8] 98)).alloc (.cells #[.int .i64 k8,.int .i64 z8,.slice B1 m1 q1,.slice B2 m2 q4,.slice B3 m3 q5] 34):=⟨_,rfl⟩;have hB9:Below w8.heap.size w8 w9:=by rw[hw9];exact ((Below.refl _ _).alloc (Nat.le_refl _) _).alloc (by simp) _
              have hn9:NBox w9 w8.heap.size (.slice A m qc) p8 E8:=by rw[hw9];exact (NBox.new w8 (.slice A m qc) p8 E8).on ((Below.refl _ _).alloc (Nat.le_refl _) _)
              have ht9:TBox w9 (w8.heap.size+1) k8 z8 (.slice B1 m1 q1) (.slice B2 m2 q4) (.slice B3 m3 q5):=by
               rw[hw9,show w8.heap.size+1=(w8.alloc (.cells #[.slice A m qc,.bool false,.slice none 0 0,.int .i64 p8,.int .i64 E8] 98)).heap.size by rw[World.size_alloc]]
               exact TBox.new _ _ _ _ _ _
              rw[←hw9];clear hw9;have hB79:=bseqS HB8.out hB9;have hs9:=HS7.out.on hB79;have hszl:=Nat.lt_of_lt_of_le HS7.out.sz HB8.out.size;have hlo:=HS7.out.lo;obtain ⟨A2,c2,Z,hrun,htZ,hstZ,howZ,hobZ,hbsZ,hkZ⟩:=kid_stepN (k1:=k8) (z1:=z8) (B1:=B1) (B2:=B2) (B3:=B3) (m1:=m1) (m2:=m2) (m3:=m3) (q1:=q1) (q2:=q4) (q3:=q5) HS7.out HOw7.out HOb7.out HKr.out HLl.out (by omega) hB79 p8 E8;have hspn:=hs9.put p8 E8;have htpn:TBox (putN w9 w.heap.size (.slice A m qc) p8 E8) (w8.heap.size+1) k8 z8 (.slice B1 m1 q1) (.slice B2 m2 q4) (.slice B3 m3 q5):=ht9.block (putN_other _ _ _ _ _ (by omega));have HkZ:Hid (∀T,TrP w8 (fun b=>w7.heap.size≤b∧b<w8.heap.size) T (.agg (cellsT k8 z8 (.slice B1 m1 q1) (.slice B2 m2 q4) (.slice B3 m3 q5)))→KRowN (Z.setCell ⟨tb,4,none⟩ (.slice A2 (n3+1) c2)) (tb+1) (.slice A2 (n3+1) c2) (lk ++ [T])):=LH (fun T hT=>hkZ T (TrP.mono (fun b hb=>⟨hb.1,Nat.lt_of_lt_of_le hb.2 hB9.size⟩) _ _ (TrP.keep (fun b hb=>hB9.block b hb.2) _ _ hT)))
              have HFin:=LH (And.intro hstZ (And.intro howZ hobZ));have HRun:=LH hrun;obtain ⟨wp,hwp⟩:∃wp,wp=putN w9 w.heap.size (.slice A m qc) p8 E8:=⟨_,rfl⟩;rw[←hwp] at HRun hspn htpn;obtain ⟨d0,d1,d2,d3,d4⟩:=hs9.dn.cells;obtain ⟨df0,df1,df2,df3,df4⟩:=hs9.dn.frozens;obtain ⟨y0,y1,y2,y3,y4⟩:=hn9.cells;clear hB9 hn9 ht9 hB79 hs9 hszl hlo hrun hstZ howZ hobZ hbsZ hkZ;go_upto_region 36 with fail
              unfold putN at hwp;rw[←hwp];clear hwp d0 d1 d2 d3 d4 df0 df1 df2 df3 df4 y0 y1 y2 y3 y4;obtain ⟨t0,t1,t2,t3,t4⟩:=hspn.tr.cells;obtain ⟨y0,y1,y2,y3,y4⟩:=htpn.cells;obtain ⟨u0,u1,u2,u3,u4⟩:=htZ.cells;have tf4:=htZ.frozen 4;clear hspn htpn htZ
              go_wp2_with (at_builtin;refine Lib.wpList_append_run _ rfl _ _ _ _ rfl _ _ rfl rfl _ _ HRun.out ?_)
              go_roundw
              case rel =>
               refine ⟨n3+1,by omega,by go_num,?_⟩
               refine ⟨A2,n3+1,c2,p8,E8,HFin.out.1,fun hx=> ?_,fun hx=> ?_⟩
               ·have h8:=HE8.out;rw[HM.out] at h8;have h0:(f og (KA+(n3:Int)) pk).err=0:=by rw[←h8];exact hx
                have ht8:=HT8.out;rw[HM.out] at ht8;obtain ⟨hp8,hT⟩:=ht8 h0;have hfp:=HFp.out og (KA+(n3:Int)) pk HPk.out.1 HPk.out.2 h0;refine ⟨lk ++ [(f og (KA+(n3:Int)) pk).t],rfl,by rw[List.length_append,HLl.out];rfl,by rw[hp8];exact ⟨Int.le_trans HPk.out.1 hfp.1,hfp.2⟩,?_,HkZ.out _ hT,HFin.out.2.1,HFin.out.2.2⟩
                rw[hp8];exact HLf.out.next (by omega) h0
               ·have h8:=HE8.out;rw[HM.out] at h8;rw[HLf.out.err (by omega) (by rw[←h8];exact hx),←h8]
              case measure=>simp[intOf];omega
             ·have k2:(E == 0)=false:=by simpa using hE
              have HEr:=LH (HE1.out hE);have HEn:=LH hE;clear hE HE0 HE1
              go_wp2_with fail
              go_meet;exact ⟨⟨_,rfl⟩,A3,n3,c3,pk,E,HS7.out,fun hx=>absurd hx HEn.out,fun _=>HEr.out⟩
            ·obtain rfl:t=NK:=by omega
             have d65:¬(t:Int)<(t:Int):=by omega
             go_wp2_with fail
             go_meet;refine ⟨⟨_,rfl⟩,A3,n3,c3,pk,E,HS7.out,fun hx=> ?_,HE1.out⟩
             obtain ⟨lk,h1,h2,h3,h4,h5,h6,h7⟩:=HE0.out hx;exact ⟨lk,h4.last,Nat.le_of_eq h2,h5,h6,h7⟩
          case rest =>
           obtain ⟨⟨j3,rfl⟩,hKe⟩:=hcut;obtain ⟨A3,n3,c3,pk,E,hst,hE0,hE1⟩:=hKe;dsimp only at hst hE0 hE1;go_upto_region 37 with fail
           have HSt:=LH hst;have HE0:=LH hE0;have HE1:=LH hE1;obtain ⟨⟨a1,a2,a3⟩,⟨b1,b2,b3⟩,hf1,hf2⟩:=hst.fin;have HF1:=LH hf1.drew;have HF2:=LH hf2.drew;have HFc1:=LH (And.intro (cells_drew hf1.1.cells) (cells_drew hf1.2.1.cells));have HFc2:=LH (And.intro (cells_drew hf2.1.cells) (cells_drew hf2.2.1.cells));have HK1:=LH (And.intro hst.dn.cells hst.tr.cells);have HK2:=LH (And.intro a1.cells a2.cells);have HK3:=LH (And.intro b1.cells b2.cells);have HK4:=LH (And.intro ((a1.block (putT_other _ _ _ _ _ _ _ (by have:=hst.lo;omega):(putT (putN wc (w.heap.size+1) (.slice A m qc) pk E) (w.heap.size+1+1) ok oz (.slice AW NW cW) (.slice AB NB cB) (.slice A3 n3 c3)).heap[w.heap.size]? = _)).cells) ((a2.block (putT_other _ _ _ _ _ _ _ (by have:=hst.lo;omega):(putT (putN wc (w.heap.size+1) (.slice A m qc) pk E) (w.heap.size+1+1) ok oz (.slice AW NW cW) (.slice AB NB cB) (.slice A3 n3 c3)).heap[tb]? = _)).cells));have HK5:=LH (And.intro ((b1.block (putN_other _ _ _ _ _ (by have:=hst.lo;omega):(putN (putT wc (w.heap.size+1+1) ok oz (.slice AW NW cW) (.slice AB NB cB) (.slice A3 n3 c3)) (w.heap.size+1) (.slice A m qc) pk E).heap[w.heap.size]? = _)).cells) ((b2.block (putN_other _ _ _ _ _ (by have:=hst.lo;omega):(putN (putT wc (w.heap.size+1+1) ok oz (.slice AW NW cW) (.slice AB NB cB) (.slice A3 n3 c3)) (w.heap.size+1) (.slice A m qc) pk E).heap[tb]? = _)).cells));have HKd1:Hid ((wc.drew.cell? ⟨w.heap.size,0,none⟩=some (.slice A m qc)∧wc.drew.cell? ⟨w.heap.size,1,none⟩=some (.bool false)∧wc.drew.cell? ⟨w.heap.size,2,none⟩=some (.slice none 0 0)∧wc.drew.cell? ⟨w.heap.size,3,none⟩=some (.int .i64 pk)∧wc.drew.cell? ⟨w.heap.size,4,none⟩=some (.int .i64 E))∧(wc.drew.cell? ⟨tb,0,none⟩=some (.int .i64 ok)∧wc.drew.cell? ⟨tb,1,none⟩=some (.int .i64 oz)∧wc.drew.cell? ⟨tb,2,none⟩=some (.slice AW NW cW)∧wc.drew.cell? ⟨tb,3,none⟩=some (.slice AB NB cB)∧wc.drew.cell? ⟨tb,4,none⟩=some (.slice A3 n3 c3))):=LH (And.intro (cells_drew HK1.out.1) (cells_drew HK1.out.2));have HKd2:Hid (((putN wc (w.heap.size+1) (.slice A m qc) pk E).drew.cell? ⟨w.heap.size,0,none⟩=some (.slice A m qc)∧(putN wc (w.heap.size+1) (.slice A m qc) pk E).drew.cell? ⟨w.heap.size,1,none⟩=some (.bool false)∧(putN wc (w.heap.size+1) (.slice A m qc) pk E).drew.cell? ⟨w.heap.size,2,none⟩=some (.slice none 0 0)∧(putN wc (w.heap.size+1) (.slice A m qc) pk E).drew.cell? ⟨w.heap.size,3,none⟩=some (.int .i64 pk)∧(putN wc (w.heap.size+1) (.slice A m qc) pk E).drew.cell? ⟨w.heap.size,4,none⟩=some (.int .i64 E))∧((putN wc (w.heap.size+1) (.slice A m qc) pk E).drew.cell? ⟨tb,0,none⟩=some (.int .i64 ok)∧(putN wc (w.heap.size+1) (.slice A m qc) pk E).drew.cell? ⟨tb,1,none⟩=some (.int .i64 oz)∧(putN wc (w.heap.size+1) (.slice A m qc) pk E).drew.cell? ⟨tb,2,none⟩=some (.slice AW NW cW)∧(putN wc (w.heap.size+1) (.slice A m qc) pk E).drew.cell? ⟨tb,3,none⟩=some (.slice AB NB cB)∧(putN wc (w.heap.size+1) (.slice A m qc) pk E).drew.cell? ⟨tb,4,none⟩=some (.slice A3 n3 c3))):=LH (And.intro (cells_drew HK2.out.1) (cells_drew HK2.out.2))
           have HKd3:Hid (((putT wc (w.heap.size+1+1) ok oz (.slice AW NW cW) (.slice AB NB cB) (.slice A3 n3 c3)).drew.cell? ⟨w.heap.size,0,none⟩=some (.slice A m qc)∧(putT wc (w.heap.size+1+1) ok oz (.slice AW NW cW) (.slice AB NB cB) (.slice A3 n3 c3)).drew.cell? ⟨w.heap.size,1,none⟩=some (.bool false)∧(putT wc (w.heap.size+1+1) ok oz (.slice AW NW cW) (.slice AB NB cB) (.slice A3 n3 c3)).drew.cell? ⟨w.heap.size,2,none⟩=some (.slice none 0 0)∧(putT wc (w.heap.size+1+1) ok oz (.slice AW NW cW) (.slice AB NB cB) (.slice A3 n3 c3)).drew.cell? ⟨w.heap.size,3,none⟩=some (.int .i64 pk)∧(putT wc (w.heap.size+1+1) ok oz (.slice AW NW cW) (.slice AB NB cB) (.slice A3 n3 c3)).drew.cell? ⟨w.heap.size,4,none⟩=some (.int .i64 E))∧((putT wc (w.heap.size+1+1) ok oz (.slice AW NW cW) (.slice AB NB cB) (.slice A3 n3 c3)).drew.cell? ⟨tb,0,none⟩=some (.int .i64 ok)∧(putT wc (w.heap.size+1+1) ok oz (.slice AW NW cW) (.slice AB NB cB) (.slice A3 n3 c3)).drew.cell? ⟨tb,1,none⟩=some (.int .i64 oz)∧(putT wc (w.heap.size+1+1) ok oz (.slice AW NW cW) (.slice AB NB cB) (.slice A3 n3 c3)).drew.cell? ⟨tb,2,none⟩=some (.slice AW NW cW)∧(putT wc (w.heap.size+1+1) ok oz (.slice AW NW cW) (.slice AB NB cB) (.slice A3 n3 c3)).drew.cell? ⟨tb,3,none⟩=some (.slice AB NB cB)∧(putT wc (w.heap.size+1+1) ok oz (.slice AW NW cW) (.slice AB NB cB) (.slice A3 n3 c3)).drew.cell? ⟨tb,4,none⟩=some (.slice A3 n3 c3))):=LH (And.intro (cells_drew HK3.out.1) (cells_drew HK3.out.2));have HKd4:Hid (((putT (putN wc (w.heap.size+1) (.slice A m qc) pk E) (w.heap.size+1+1) ok oz (.slice AW NW cW) (.slice AB NB cB) (.slice A3 n3 c3)).drew.cell? ⟨w.heap.size,0,none⟩=some (.slice A m qc)∧(putT (putN wc (w.heap.size+1) (.slice A m qc) pk E) (w.heap.size+1+1) ok oz (.slice AW NW cW) (.slice AB NB cB) (.slice A3 n3 c3)).drew.cell? ⟨w.heap.size,1,none⟩=some (.bool false)∧(putT (putN wc (w.heap.size+1) (.slice A m qc) pk E) (w.heap.size+1+1) ok oz (.slice AW NW cW) (.slice AB NB cB) (.slice A3 n3 c3)).drew.cell? ⟨w.heap.size,2,none⟩=some (.slice none 0 0)∧(putT (putN wc (w.heap.size+1) (.slice A m qc) pk E) (w.heap.size+1+1) ok oz (.slice AW NW cW) (.slice AB NB cB) (.slice A3 n3 c3)).drew.cell? ⟨w.heap.size,3,none⟩=some (.int .i64 pk)∧(putT (putN wc (w.heap.size+1) (.slice A m qc) pk E) (w.heap.size+1+1) ok oz (.slice AW NW cW) (.slice AB NB cB) (.slice A3 n3 c3)).drew.cell? ⟨w.heap.size,4,none⟩=some (.int .i64 E))∧((putT (putN wc (w.heap.size+1) (.slice A m qc) pk E) (w.heap.size+1+1) ok oz (.slice AW NW cW) (.slice AB NB cB) (.slice A3 n3 c3)).drew.cell? ⟨tb,0,none⟩=some (.int .i64 ok)∧(putT (putN wc (w.heap.size+1) (.slice A m qc) pk E) (w.heap.size+1+1) ok oz (.slice AW NW cW) (.slice AB NB cB) (.slice A3 n3 c3)).drew.cell? ⟨tb,1,none⟩=some (.int .i64 oz)∧(putT (putN wc (w.heap.size+1) (.slice A m qc) pk E) (w.heap.size+1+1) ok oz (.slice AW NW cW) (.slice AB NB cB) (.slice A3 n3 c3)).drew.cell? ⟨tb,2,none⟩=some (.slice AW NW cW)∧(putT (putN wc (w.heap.size+1) (.slice A m qc) pk E) (w.heap.size+1+1) ok oz (.slice AW NW cW) (.slice AB NB cB) (.slice A3 n3 c3)).drew.cell? ⟨tb,3,none⟩=some (.slice AB NB cB)∧(putT (putN wc (w.heap.size+1) (.slice A m qc) pk E) (w.heap.size+1+1) ok oz (.slice AW NW cW) (.slice AB NB cB) (.slice A3 n3 c3)).drew.cell? ⟨tb,4,none⟩=some (.slice A3 n3 c3))):=LH (And.intro (cells_drew HK4.out.1) (cells_drew HK4.out.2))
           have HKd5:Hid (((putN (putT wc (w.heap.size+1+1) ok oz (.slice AW NW cW) (.slice AB NB cB) (.slice A3 n3 c3)) (w.heap.size+1) (.slice A m qc) pk E).drew.cell? ⟨w.heap.size,0,none⟩=some (.slice A m qc)∧(putN (putT wc (w.heap.size+1+1) ok oz (.slice AW NW cW) (.slice AB NB cB) (.slice A3 n3 c3)) (w.heap.size+1) (.slice A m qc) pk E).drew.cell? ⟨w.heap.size,1,none⟩=some (.bool false)∧(putN (putT wc (w.heap.size+1+1) ok oz (.slice AW NW cW) (.slice AB NB cB) (.slice A3 n3 c3)) (w.heap.size+1) (.slice A m qc) pk E).drew.cell? ⟨w.heap.size,2,none⟩=some (.slice none 0 0)∧(putN (putT wc (w.heap.size+1+1) ok oz (.slice AW NW cW) (.slice AB NB cB) (.slice A3 n3 c3)) (w.heap.size+1) (.slice A m qc) pk E).drew.cell? ⟨w.heap.size,3,none⟩=some (.int .i64 pk)∧(putN (putT wc (w.heap.size+1+1) ok oz (.slice AW NW cW) (.slice AB NB cB) (.slice A3 n3 c3)) (w.heap.size+1) (.slice A m qc) pk E).drew.cell? ⟨w.heap.size,4,none⟩=some (.int .i64 E))∧((putN (putT wc (w.heap.size+1+1) ok oz (.slice AW NW cW) (.slice AB NB cB) (.slice A3 n3 c3)) (w.heap.size+1) (.slice A m qc) pk E).drew.cell? ⟨tb,0,none⟩=some (.int .i64 ok)∧(putN (putT wc (w.heap.size+1+1) ok oz (.slice AW NW cW) (.slice AB NB cB) (.slice A3 n3 c3)) (w.heap.size+1) (.slice A m qc) pk E).drew.cell? ⟨tb,1,none⟩=some (.int .i64 oz)∧(putN (putT wc (w.heap.size+1+1) ok oz (.slice AW NW cW) (.slice AB NB cB) (.slice A3 n3 c3)) (w.heap.size+1) (.slice A m qc) pk E).drew.cell? ⟨tb,2,none⟩=some (.slice AW NW cW)∧(putN (putT wc (w.heap.size+1+1) ok oz (.slice AW NW cW) (.slice AB NB cB) (.slice A3 n3 c3)) (w.heap.size+1) (.slice A m qc) pk E).drew.cell? ⟨tb,3,none⟩=some (.slice AB NB cB)∧(putN (putT wc (w.heap.size+1+1) ok oz (.slice AW NW cW) (.slice AB NB cB) (.slice A3 n3 c3)) (w.heap.size+1) (.slice A m qc) pk E).drew.cell? ⟨tb,4,none⟩=some (.slice A3 n3 c3))):=LH (And.intro (cells_drew HK5.out.1) (cells_drew HK5.out.2));obtain ⟨r0,r1,r2,r3,r4⟩:=hst.r1.cells;obtain ⟨q0,q1,q2,q3,q4⟩:=hst.r2.cells;obtain ⟨rf0,rf1,rf2,rf3,rf4⟩:=hst.r1.frozens;obtain ⟨qf0,qf1,qf2,qf3,qf4⟩:=hst.r2.frozenD;obtain ⟨s0,s1,s2,s3,s4⟩:=b3.cells;obtain ⟨sf0,sf1,sf2,sf3,sf4⟩:=b3.frozens;obtain ⟨z0,z1,z2,z3,z4⟩:=a3.cells;obtain ⟨zf0,zf1,zf2,zf3,zf4⟩:=a3.frozenD;clear hst hE0 hE1 a1 a2 a3 b1 b2 b3 hf1 hf2;unfold putN putT at HFc1 HFc2 HF1 HF2 HK4 HK5 HKd4 HKd5;unfold putT at HK3 HKd3 s0 s1 s2 s3 s4 sf0 sf1 sf2 sf3 sf4;unfold putN at HK2 HKd2 z0 z1 z2 z3 z4 zf0 zf1 zf2 zf3 zf4
           go_region_held_law (fun X=>(X.cell? ⟨w.heap.size,0,none⟩=some (.slice A m qc)∧X.cell? ⟨w.heap.size,1,none⟩=some (.bool false)∧X.cell? ⟨w.heap.size,2,none⟩=some (.slice none 0 0)∧X.cell? ⟨w.heap.size,3,none⟩=some (.int .i64 pk)∧X.cell? ⟨w.heap.size,4,none⟩=some (.int .i64 E))∧(X.cell? ⟨tb,0,none⟩=some (.int .i64 ok)∧X.cell? ⟨tb,1,none⟩=some (.int .i64 oz)∧X.cell? ⟨tb,2,none⟩=some (.slice AW NW cW)∧X.cell? ⟨tb,3,none⟩=some (.slice AB NB cB)∧X.cell? ⟨tb,4,none⟩=some (.slice A3 n3 c3)))
            (with_reducible first | exact HK1.out | exact HK2.out | exact HK3.out | exact HK4.out | exact HK5.out | exact HKd1.out | exact HKd2.out | exact HKd3.out | exact HKd4.out | exact HKd5.out) (fail)
           all_goals clear HK1 HK2 HK3 HK4 HK5 HKd1 HKd2 HKd3 HKd4 HKd5 s0 s1 s2 s3 s4 sf0 sf1 sf2 sf3 sf4 z0 z1 z2 z3 z4 zf0 zf1 zf2 zf3 zf4 r0 r1 r2 r3 r4 q0 q1 q2 q3 q4 rf0 rf1 rf2 rf3 rf4 qf0 qf1 qf2 qf3 qf4
           all_goals rename_i hHe
           all_goals clear hHe
           all_goals go_wp2_with fail
           obtain ⟨⟨r0,r1,r2,r3,r4⟩,q0,q1,q2,q3,q4⟩:=HFc1.out;obtain ⟨hA,hB,hC,hD⟩:=HEq.out;rw[hA,hB,hC,hD] at HE0;rw[hC,hD] at HE1;rw[hA,hB,hC] at HG1;have hR:=node_end HSt.out HE0.out HE1.out HG1.out HF1.out;rw[←HDN.out] at hR;refine bodyPost_ret (v:= .tuple #[.agg #[.slice A m qc,.bool false,.slice none 0 0,.int .i64 pk,.int .i64 E],.agg (cellsT ok oz (.slice AW NW cW) (.slice AB NB cB) (.slice A3 n3 c3))]) ?_ rfl hR
           simp[results,Tryz.f44,go_sem,cellsT,r0,r1,r2,r3,r4,q0,q1,q2,q3,q4]
end Go.Proofs.YtmmlfnblodfjbaaGreatDoor
