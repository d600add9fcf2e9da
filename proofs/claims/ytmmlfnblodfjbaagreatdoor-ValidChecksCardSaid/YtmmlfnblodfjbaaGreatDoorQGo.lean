/- Layer 8, the landed package: lay. -/
import Derived.Test.YtmmlfnblodfjbaaGreatDoorQBuPoint
import Derived.Test.YtmmlfnblodfjbaaGreatDoorQPlain
import Derived.Deep.QuietTactic
import Derived.BigQuiet
set_option maxRecDepth 100000
namespace Go.Proofs.YtmmlfnblodfjbaaGreatDoor
open Go.RowKit Go.Deep
def LayC (sz:Nat) (w0:World) (bb:Nat) (t:Tr):Prop :=
 ∀(left:Nat) (v:Value) (W:World) (a:List (List Int)) (g c:Nat) (us:List Value) (s i:Nat),deepB t left=true→TrV w0 w0.heap.size t v→Below w0.heap.size w0 W→BuS W w0.heap.size bb sz a g c us→Has a s i 0→RoomA sz a→Pos a →
  Calls Tryz.prog 60 #[.pointer (some ⟨bb,0,none⟩),v,.int .i64 s,.int .i64 i] W fun e w'=>e= .returned (.bool (!(lay sz t ⟨a,false⟩ s i).full)) ∧
   ((lay sz t ⟨a,false⟩ s i).full=false→∃g' c' us',BuS w' w0.heap.size bb sz (lay sz t ⟨a,false⟩ s i).a g' c' us')∧KeepR w0.heap.size (some bb) W w'
theorem kind_of {t:Tr} {left:Nat} (h:deepB t left=true):t.kind=0∨t.kind=1∨t.kind=2:=by
 obtain ⟨k,z,w,b,ks⟩:=t
 by_cases hk:k=0
 ·exact .inl hk
 ·exact .inr (need_one h hk).1
theorem lay_zero {sz:Nat} {t:Tr} {a:List (List Int)} {s i:Nat} (hd:∃left,deepB t left=true) (hn:needT t=0) (h:Has a s i 0):lay sz t ⟨a,false⟩ s i=⟨setA a s i (nearW t (if t.kind=1 then -1 else 0)),false⟩:=by
 obtain ⟨k,z,w,b,ks⟩:=t
 by_cases hk:k=0
 ·subst hk;have h0:nearW (.mk 0 z w b ks) (if (Tr.mk 0 z w b ks).kind=1 then -1 else 0)=0:=near_no _ _ (by show (0:Int)≠1;decide) (by show (0:Int)≠2;decide) (by show (0:Int)≠3;decide)
  rw[h0,setA_has h];unfold lay;rw[if_pos (.inl rfl)]
 ·rw[lay_noth s i hk rfl hn]
  rfl
set_option maxHeartbeats 1000000 in
theorem blay_zero (sz:Nat) (w0:World) (L:Laid w0) (bb:Nat) (t:Tr) (hn:needT t=0):LayC sz w0 bb t:=by
 intro left v W a g c us s i hd hT hB hS hH hR hP;rw[lay_zero ⟨left,hd⟩ hn hH];dsimp only;obtain ⟨base,hbs⟩:∃base,base=w0.heap.size:=⟨_,rfl⟩;rw[←hbs] at hS ⊢;have hk:=kind_of hd;have hTo:∀X,Below base w0 X→TrV X X.heap.size t v:=fun X hX=>TrV.more (by rw[←hbs];have:=hX.size;omega) t v (TrV.below (B':=base) (by rw[hbs];rw[hbs] at hX;exact hX) (by omega) t v hT)
 have hLd:∀X,Below base w0 X→Laid X:=fun X hX=>L.on (by rw[←hbs];exact hX)
 have hbW:base≤W.heap.size:=by have:=hB.size;omega
 have hWX:∀X,Below W.heap.size W X→Below base w0 X:=fun X hX=>by rw[hbs];exact hB.trans (hX.mono (by omega))
 have HN:=LH (fun X (hX:Below W.heap.size W X)=>need_any t v X (hTo X (hWX X hX)))
 rw[hn] at HN;have HE:=LH (fun X (hX:Below W.heap.size W X)=>empty_any t v X (hLd X (hWX X hX)) (hTo X (hWX X hX)) hk)
 have HS:=LH (fun X (hX:Below W.heap.size W X)=>hS.on hX)
 obtain ⟨x,hx⟩:∃x,x=nearW t (if t.kind=1 then -1 else 0):=⟨_,rfl⟩
 rw[←hx] at HE ⊢;obtain ⟨hs,hi⟩:=hH.lt;obtain ⟨gs,q,hu,hgs⟩:∃gs q,us[s]?.getD undef= .slice (some ⟨gs,0,none⟩) (a[s]?.getD []).length q∧gs<W.heap.size:=by
  obtain ⟨gs,q,e,_,e2⟩:=(hS.segs s hs).out (by omega);exact ⟨gs,q,e,e2⟩
 have HU:=LH hu;have HLt:=LH (And.intro hs hi);have hsn:(s:Int)<(us.length:Int):=by have:=hS.len;omega
 have hcap:=hS.cap;have hin:(i:Int)<((a[s]?.getD []).length:Int):=by omega
 obtain ⟨k,z,ws,bs,ks⟩:=t;obtain ⟨A1,c1,A2,c2,A3,c3,rfl,-⟩:=hT.parts;generalize ws.length=nw at *
 generalize bs.length=nb at *
 generalize ks.length=nk at *
 clear hx hk hTo hLd hT hR hP hH hd hn hu hs hi;obtain ⟨W1,hW1⟩:∃W1,W1=W.alloc (.cells (cellsT k z (.slice A1 nw c1) (.slice A2 nb c2) (.slice A3 nk c3)) 34):=⟨_,rfl⟩;have hB0:Below W.heap.size W W1:=by rw[hW1];exact (Below.refl _ _).alloc (Nat.le_refl _) _
 have hTB:TBox W1 W.heap.size k z (.slice A1 nw c1) (.slice A2 nb c2) (.slice A3 nk c3):=by rw[hW1];exact TBox.new _ _ _ _ _ _
 have HTB:=LH hTB;unfold cellsT at HN HE hW1 ⊢;have HK:Hid (∀X,Below W1.heap.size W1 X→(X.cell? ⟨bb,0,none⟩=some (.slice (some ⟨g,0,none⟩) us.length c)∧X.cell? ⟨g,s,none⟩=some (.slice (some ⟨gs,0,none⟩) (a[s]?.getD []).length q)∧X.cell? ⟨W.heap.size,0,none⟩=some (.int .i64 k)∧X.cell? ⟨W.heap.size,1,none⟩=some (.int .i64 z)∧X.cell? ⟨W.heap.size,2,none⟩=some (.slice A1 nw c1)∧X.cell? ⟨W.heap.size,3,none⟩=some (.slice A2 nb c2)∧X.cell? ⟨W.heap.size,4,none⟩=some (.slice A3 nk c3))):=LH (fun X hX=>by
  have h1:=HS.out X (bseq8 hB0 hX);exact ⟨h1.cells.1,by rw[h1.at_ HLt.out.1,HU.out],(HTB.out.on hX).cells⟩)
 have HK2:Hid (∀X,Below W1.heap.size W1 X→((X.setCell ⟨gs,i,none⟩ (.int .u64 x)).cell? ⟨bb,0,none⟩=some (.slice (some ⟨g,0,none⟩) us.length c)∧(X.setCell ⟨gs,i,none⟩ (.int .u64 x)).cell? ⟨g,s,none⟩=some (.slice (some ⟨gs,0,none⟩) (a[s]?.getD []).length q)∧(X.setCell ⟨gs,i,none⟩ (.int .u64 x)).cell? ⟨W.heap.size,0,none⟩=some (.int .i64 k)∧(X.setCell ⟨gs,i,none⟩ (.int .u64 x)).cell? ⟨W.heap.size,1,none⟩=some (.int .i64 z)∧(X.setCell ⟨gs,i,none⟩ (.int .u64 x)).cell? ⟨W.heap.size,2,none⟩=some (.slice A1 nw c1)∧(X.setCell ⟨gs,i,none⟩ (.int .u64 x)).cell? ⟨W.heap.size,3,none⟩=some (.slice A2 nb c2)∧(X.setCell ⟨gs,i,none⟩ (.int .u64 x)).cell? ⟨W.heap.size,4,none⟩=some (.slice A3 nk c3))):=LH (fun X hX=>by
  have h1:=(HS.out X (bseq8 hB0 hX)).put (i:=i) HLt.out.1 HU.out x;exact ⟨h1.cells.1,by rw[h1.at_ (by rw[setA_len];exact HLt.out.1),HU.out],((HTB.out.on hX).other8 (Nat.ne_of_gt hgs)).cells⟩)
 have HSt:Hid (∀X,Below W1.heap.size W1 X→(∃y,X.cell? ⟨gs,i,none⟩=some y)∧X.frozen? ⟨gs,i,none⟩=false):=LH (fun X hX=>by
  have h1:=(HS.out X (bseq8 hB0 hX)).segs s HLt.out.1;rw[HU.out] at h1;unfold OwnU OwnN at h1;exact ⟨⟨_,own_cell h1 HLt.out.2⟩,own_frozen h1⟩)
 have HFin:Hid (∀X,Below W1.heap.size W1 X→BuS (X.setCell ⟨gs,i,none⟩ (.int .u64 x)) base bb sz (setA a s i x) g c us∧KeepR base (some bb) W (X.setCell ⟨gs,i,none⟩ (.int .u64 x))):=LH (fun X hX=>by
  have h1:=HS.out X (bseq8 hB0 hX);exact ⟨h1.put HLt.out.1 HU.out x,(keep_of_below (bseq8 hB0 hX) hbW).trans (h1.put_keep HLt.out.1 HU.out _)⟩)
 have HB0:=LH hB0;clear hB hS hB0 hTB HS HU hgs hWX;generalize setA a s i x=a' at *
 generalize (a[s]?.getD []).length=Ls at *
 generalize us.length=n at *
 have d0:=(HTB.out).cells;obtain ⟨d0,d1,d2,d3,d4⟩:=d0;go_enter Tryz.func60,Tryz.ntmps60;go_upto_region 1 with fail
 rw[←hW1];clear hW1
 go_wp2_with fail
 refine (HN.out _ HB0.out).mono ?_
 rintro e w2 ⟨rfl,hB2⟩;have HB2:=LH hB2;have hT0:Below W1.heap.size W1 w2.drew:=hB2.drew;have hW0:=bseq8 HB0.out hT0;have hK0:=HK.out _ hT0;clear d0 d1 d2 d3 d4 hB2
 go_wp2_with fail
 go_region_held3 (fun w'=>w'.cell? ⟨bb,0,none⟩=some (.slice (some ⟨g,0,none⟩) n c)∧w'.cell? ⟨g,s,none⟩=some (.slice (some ⟨gs,0,none⟩) Ls q)∧w'.cell? ⟨W.heap.size,0,none⟩=some (.int .i64 k)∧w'.cell? ⟨W.heap.size,1,none⟩=some (.int .i64 z)∧w'.cell? ⟨W.heap.size,2,none⟩=some (.slice A1 nw c1)∧w'.cell? ⟨W.heap.size,3,none⟩=some (.slice A2 nb c2)∧w'.cell? ⟨W.heap.size,4,none⟩=some (.slice A3 nk c3)) (first | exact HK.out _ hT0 | exact HK.out _ hT5 | exact HK2.out _ hT5) (first
  | (go_at_call 88;with_reducible refine (HE.out _ hW0).mono ?_;rintro e w5 ⟨rfl,hB5⟩;have hT5:=bseq8 hT0 hB5;obtain ⟨⟨y5,hy5⟩,hf5⟩:=HSt.out _ hT5))
 all_goals go_wp2_with fail
 all_goals go_ret
 all_goals exact ⟨rfl,fun _=>⟨g,c,us,(HFin.out _ hT5).1⟩,(HFin.out _ hT5).2⟩
theorem lay_eta {st:St} (h:st.full=false):st=⟨st.a,false⟩:=by
 obtain ⟨a,f⟩:=st;dsimp only at h;subst h
 rfl
set_option maxHeartbeats 2000000 in
theorem blay_some (sz:Nat) (hsz:sz≤4096) (w0:World) (L:Laid w0) (bb:Nat) (k z:Int) (ws bs:List Int) (ks:List Tr) (hn:needT (.mk k z ws bs ks)≠0) (ih:∀j,j<ks.length→LayC sz w0 bb (ks[j]?.getD Tr.nil)):LayC sz w0 bb (.mk k z ws bs ks):=by
 intro left v W a g c us s i hd hT hB hS hH hR hP;have hk:k≠0:=by
  rintro rfl;exact hn rfl
 obtain ⟨hk2,hcn,hks⟩:=need_one hd hk;have hda:=deepAll_of hd hk;obtain ⟨hs,hi⟩:=hH.lt;rw[lay_step hk hn hcn hs];obtain ⟨base,hbs⟩:∃base,base=w0.heap.size:=⟨_,rfl⟩;have hLd:∀X,Below base w0 X→Laid X:=fun X hX=>L.on (by rw[←hbs];exact hX)
 have HIH:=LH ih;clear ih;unfold LayC at HIH;rw[←hbs] at hS hT hB HIH ⊢;have hTo:∀X,Below base w0 X→TrV X base (.mk k z ws bs ks) v:=fun X hX=>TrV.below hX (Nat.le_refl _) _ v hT
 have hTx:∀X,Below base w0 X→TrV X X.heap.size (.mk k z ws bs ks) v:=fun X hX=>TrV.more (by have:=hX.size;omega) _ v (hTo X hX)
 have hbW:base≤W.heap.size:=by have:=hB.size;omega
 have hWX:∀X,Below W.heap.size W X→Below base w0 X:=fun X hX=>hB.trans (hX.mono hbW)
 have hnb:=need_bd hT;have HN:=LH (fun X (hX:Below W.heap.size W X)=>need_any _ v X (hTx X (hWX X hX)))
 have HPt:=LH (fun X (hX:Below W.heap.size W X)=>bpoint_any _ v (hS.on hX) (fun Y hY=>hLd Y ((hWX X hX).trans hY)) (hTo X (hWX X hX)) (kind_of hd) hs hi hR.2.1 (fun j=>Nat.le_trans (hR.at_ j) hsz))
 have HAs:=LH (fun X (hX:Below base w0 X) u xs (ho:OwnU X base u xs) (hx:xs.length≤1000000)=>appseq_any _ v base u xs X (hTo X hX) (by have:=hX.size;omega) ho hx)
 have HFull:=LH (fun (hf:fullA sz (laidA sz (.mk k z ws bs ks) a s i)=false)=>RoomA.laid hR hP.len hs hf)
 obtain ⟨b17,bl,b0⟩:=laid_bd (s:=s) (i:=i) (t:= .mk k z ws bs ks) hR hP hsz (by rw[hcn];exact hnb);have HPos:=LH (Pos.laid hP sz (.mk k z ws bs ks) s i);have HPp:=LH (Pos.point hP sz (.mk k z ws bs ks) s i);have HZ:=LH (fun j (hj:j<ks.length)=>kids_zero (sz:=sz) (k:=k) (z:=z) (w:=ws) (b:=bs) (ks:=ks) (a:=a) (s:=s) (i:=i) hs hj)
 have hPb:ks.length≤lastL (laidA sz (.mk k z ws bs ks) a s i):=by
  have h0:0<(pointA sz (.mk k z ws bs ks) a s i).length:=Nat.lt_of_lt_of_le (by omega) pointA_len;unfold laidA;rw[appA_lastL h0]
  omega
 have HLen:Hid ((laidA sz (.mk k z ws bs ks) a s i).length=(pointA sz (.mk k z ws bs ks) a s i).length∧laidA sz (.mk k z ws bs ks) a s i=(pointA sz (.mk k z ws bs ks) a s i).set ((pointA sz (.mk k z ws bs ks) a s i).length - 1) ((pointA sz (.mk k z ws bs ks) a s i)[(pointA sz (.mk k z ws bs ks) a s i).length - 1]?.getD [] ++ contentT (.mk k z ws bs ks))):=LH ⟨by unfold laidA;rw[appA_len],rfl⟩;have HPl:Hid ((pointA sz (.mk k z ws bs ks) a s i).length≤17∧lastL (pointA sz (.mk k z ws bs ks) a s i)≤1000000):=LH (by
  have h1:=HLen.out.1;refine ⟨by omega,?_⟩;have hl:lastL a≤sz:=hR.at_ _;have hgl:=growA_len sz (needT (.mk k z ws bs ks)+1) a;unfold pointA
  split
  ·rw[setA_lastL];omega
  ·rw[appA_lastL (by rw[setA_len];omega),setA_lastL];unfold growA
   split
   ·simp;omega
   ·rw[lastL_new];simp)
 have HCn:Hid (0<(contentT (.mk k z ws bs ks)).length):=LH (by omega);have hN0:((needT (.mk k z ws bs ks):Int) == 0)=false:=by rw[beq_eq_false_iff_ne];omega
 have HDA:=LH hda;obtain ⟨A1,c1,A2,c2,A3,c3,rfl,hgd,-,-,hkc,hkm,hkid⟩:=hT.parts;obtain ⟨nw,hnw⟩:∃n,n=ws.length:=⟨_,rfl⟩;obtain ⟨nb,hnb'⟩:∃n,n=bs.length:=⟨_,rfl⟩;obtain ⟨nk,hnk⟩:∃n,n=ks.length:=⟨_,rfl⟩;rw[←hnw,←hnb',←hnk] at HN HPt HAs ⊢;rw[←hnk] at HIH HZ hPb hks hgd hkc hkid;have HKid:=LH hkid;have HNk:=LH hnk;generalize needT (.mk k z ws bs ks)=N at *
 generalize contentT (.mk k z ws bs ks)=C at *
 generalize pointA sz (.mk k z ws bs ks) a s i=Pa at *
 generalize laidA sz (.mk k z ws bs ks) a s i=B at *
 have hnk6:nk≤1000000:=hgd.2.2.2.2.1;clear hgd hkid hnw hnb' hnk hT hTx hd hk hk2 hcn hda hH hR hP hks hn hnb hLd;obtain ⟨M,hM⟩:∃M,M=Pa.length - 1:=⟨_,rfl⟩;have HM:=LH hM;rw[←hM] at HLen;have hMP:M<Pa.length:=by have:=HPp.out.len;omega
 have hM17:M≤17:=by have:=HPl.out.1;omega
 have HMP:=LH hMP;have hBM:B.length - 1=M:=by rw[HLen.out.1,HM.out]
 have HBM:=LH hBM;rw[hBM] at HZ ⊢;obtain ⟨P,hP⟩:∃P,lastL B=P+nk:=⟨lastL B - nk,by omega⟩
 have HP:=LH hP;have eP:lastL B - nk=P:=by omega
 rw[eP] at HZ ⊢;have hP8:P≤4000000:=by omega
 clear eP hP hM hMP hBM;obtain ⟨W1,hW1⟩:∃W1,W1=W.alloc (.cells (cellsT k z (.slice A1 nw c1) (.slice A2 nb c2) (.slice A3 nk c3)) 34):=⟨_,rfl⟩;have hB0:Below W.heap.size W W1:=by rw[hW1];exact (Below.refl _ _).alloc (Nat.le_refl _) _
 have hTB:TBox W1 W.heap.size k z (.slice A1 nw c1) (.slice A2 nb c2) (.slice A3 nk c3):=by rw[hW1];exact TBox.new _ _ _ _ _ _
 have HTB:=LH hTB;have HB0:=LH hB0;have hbbW:=hS.lt;have HBX:=LH hWX;unfold cellsT at HN HPt HAs hW1 ⊢;obtain ⟨d0,d1,d2,d3,d4⟩:=HTB.out.cells;clear hS hB0 hTB hWX hTo;go_enter Tryz.func60,Tryz.ntmps60;go_upto_region 1 with fail
 rw[←hW1];clear hW1
 go_wp2_with fail
 refine (HN.out _ HB0.out).mono ?_
 rintro e w2 ⟨rfl,hB2⟩;have HB2:=LH (bseq8 HB0.out hB2);have HTB2:=LH (HTB.out.on hB2);clear d0 d1 d2 d3 d4 hB2;obtain ⟨d0,d1,d2,d3,d4⟩:=HTB2.out.cells
 go_wp2_with fail
 refine (HPt.out _ HB2.out).mono ?_
 rintro e w3 ⟨⟨x3,rfl⟩,g1,q1,us1,hS3,hK3⟩;have HK3:=LH ((keep_of_below (lp:=some bb) HB2.out hbW).trans hK3);have hTB3:TBox w3 W.heap.size k z (.slice A1 nw c1) (.slice A2 nb c2) (.slice A3 nk c3):=hK3.same _ _ (by simp;omega) HTB2.out rfl;have HTB3:=LH hTB3;have HS3:=LH hS3;have HLa:=LH (blast_any hS3 HPp.out.len (by have:=HPl.out.1;omega));rw[←HM.out] at HLa;clear hS3 hK3 hTB3 d0 d1 d2 d3 d4
 go_wp2_with fail
 refine HLa.out.mono ?_
 rintro e w4 ⟨rfl,rfl⟩;go_upto_region 6 with fail
 go_cut [] (fun wx=>(∃us2,BuS wx base bb sz B g1 q1 us2)∧KeepR base (some bb) W wx∧TBox wx W.heap.size k z (.slice A1 nw c1) (.slice A2 nb c2) (.slice A3 nk c3))
 case first =>
  obtain ⟨A9,q9,hu9⟩:=HS3.out.seg HMP.out;obtain ⟨d0,d1,d2,d3,d4⟩:=HTB3.out.cells;have e0:=HS3.out.cells.1;have e1:=HS3.out.at_ HMP.out;rw[hu9] at e1;have hl9:(Pa[M]?.getD []).length≤1000000:=by rw[HM.out];exact HPl.out.2
  have hzz:=HK3.out.below.size;have hDr:Below w3.heap.size w3 w3.drew:=(Below.refl _ _).drew;have hAp:=HAs.out w3.drew (hB.trans (HK3.out.below.drew)) _ _ ((HS3.out.on hDr).segs M HMP.out) hl9;have HAp:Hid (Calls Tryz.prog 91 #[.slice A9 (Pa[M]?.getD []).length q9,.func (.func 92) #[.agg #[.int .i64 k,.int .i64 z,.slice A1 nw c1,.slice A2 nb c2,.slice A3 nk c3]] #[]] w3.drew fun e w5=>∃g' n' c',e= .returned (.slice (some ⟨g',0,none⟩) n' c')∧w5.cell? ⟨g1,M,none⟩=some (.slice A9 (Pa[M]?.getD []).length q9)∧w5.frozen? ⟨g1,M,none⟩=false∧w5.cell? ⟨bb,0,none⟩=some (.slice (some ⟨g1,0,none⟩) us1.length q1) ∧
    ((∃us2,BuS (w5.setCell ⟨g1,M,none⟩ (.slice (some ⟨g',0,none⟩) n' c')) base bb sz B g1 q1 us2)∧KeepR base (some bb) W (w5.setCell ⟨g1,M,none⟩ (.slice (some ⟨g',0,none⟩) n' c'))∧TBox (w5.setCell ⟨g1,M,none⟩ (.slice (some ⟨g',0,none⟩) n' c')) W.heap.size k z (.slice A1 nw c1) (.slice A2 nb c2) (.slice A3 nk c3))):=LH (by
   rw[hu9] at hAp;refine hAp.mono ?_
   rintro e w5 ⟨v',rfl,ho',hg',hn'⟩;obtain ⟨g',c',rfl,-⟩:=ho'.out (by rw[List.length_append];have:=HCn.out;omega);obtain ⟨b1,b2,b3,b4,b5⟩:=(HS3.out.on hDr).swap HMP.out (by rw[hu9];exact hg') ho' (by rw[hu9];exact hn');rw[←HLen.out.2] at b1;rw[hu9] at b3;have hKw:=(HK3.out.drew).trans b2;exact ⟨g',_,c',rfl,b3,b4,b5,⟨_,b1⟩,hKw,b2.same _ _ (by simp;omega) (HTB3.out.on hDr) rfl⟩)
  have hmn:(M:Int)<(us1.length:Int):=by have:=HS3.out.len;have:=HMP.out;omega
  have hcap:=HS3.out.cap;clear hAp hu9 hzz hDr;generalize (Pa[M]?.getD []).length=L9 at *
  generalize us1.length=n1 at *
  go_region_law (first | (go_simp;go_at_call 91;with_reducible refine HAp.out.mono ?_;rintro e w5 ⟨g',n',c',rfl,y1,y2,y3,hfin⟩;have HFin:=LH hfin;clear hfin))
  all_goals go_wp2_with fail
  all_goals go_meet
  all_goals exact HFin.out
 case rest =>
  obtain ⟨⟨us2,hS4⟩,hK4,hT4⟩:=hcut;have HFu:=LH (bfull_any hS4 b0 (by omega) (by omega) HPos.out);have HS4:=LH hS4;have HK4:=LH hK4;have HT4:=LH hT4;clear hS4 hK4 hT4
  go_wp2_with fail
  refine HFu.out.mono ?_
  rintro e w5 ⟨rfl,hB5⟩;have HS5:=LH (HS4.out.on hB5);have HK5:=LH (HK4.out.trans (keep_of_below hB5 (by have:=HK4.out.below.size;omega)));have HT5:=LH (HT4.out.on hB5);clear hB5;cases hf:fullA sz B with
  | true =>
   go_wp2_with fail
   go_ret;have hff:(layAll sz ks ⟨B,fullA sz B⟩ M P).full=true:=by rw[hf,layAll_full ks M P rfl]
   exact ⟨by rw[hff];rfl,fun h=>absurd (hff.symm.trans h) (by decide),HK5.out⟩
  | false =>
   have HRo:=LH (HFull.out hf);obtain ⟨d0,d1,d2,d3,d4⟩:=HT5.out.cells;obtain ⟨e0,e1⟩:=HS5.out.cells;have hMB:M<B.length:=by have:=HBM.out;omega
   obtain ⟨A9,q9,hu9⟩:=HS5.out.seg hMB;have e2:=HS5.out.at_ hMB;rw[hu9] at e2;have hl9:(B[M]?.getD []).length=P+nk:=by rw[←HP.out,←HBM.out];rfl
   rw[hl9] at e2;have hmn:(M:Int)<(us2.length:Int):=by have:=HS5.out.len;omega
   have hcap:=HS5.out.cap;have hwP:IntKind.i64.wrap (((P+nk:Nat):Int) - (nk:Int))=(P:Int):=by rw[IntWalk.i64_in _ (by omega)];omega
   clear hu9 hl9;generalize us2.length=n2 at *
   go_wp2_with fail
   go_quiet (fail)
   have hB6:Below w5.heap.size w5 (w5.drewN nq):=below_drewN (Below.refl _ _) _;generalize w5.drewN nq=W6 at *
   have HS6:=LH (HS5.out.on hB6);have HK6:=LH (HK5.out.trans (keep_of_below hB6 (by have:=HK5.out.below.size;omega)));have HT6:=LH (HT5.out.on hB6);have HF0:=LH hf;clear hB6 HS5 HK5 HT5 d0 d1 d2 d3 d4 e0 e1 e2 hf;obtain ⟨d0,d1,d2,d3,d4⟩:=HT6.out.cells
   go_wp2_with fail
   clear d0 d1 d2 d3 d4
   go_loopw [67] (fun i wr=>∃q:Nat,q≤nk∧i= .int .i64 q∧(layAll sz (ks.take q) ⟨B,false⟩ M P).full=false∧(∃g' c' us',BuS wr base bb sz (layAll sz (ks.take q) ⟨B,false⟩ M P).a g' c' us')∧KeepR base (some bb) W wr) (fun i _=>nk - (intOf i).toNat)
   case atStart=>exact ⟨0,by omega,rfl,by simp[layAll],⟨g1,q1,us2,by simpa [layAll] using HS6.out⟩,HK6.out⟩
   case round =>
    obtain ⟨q,hq,rfl,hfq,⟨g',c',us',hSr⟩,hKr⟩:=hrel;have HFq:=LH hfq;have HSr:=LH hSr;have HKr:=LH hKr;clear hfq hSr hKr;generalize wr=w6 at *
    by_cases hlt:q<nk
    ·have hB6:=hB.trans HKr.out.below;obtain ⟨b,off,rfl,hbB,hkid⟩:=HKid.out (by omega);obtain ⟨kk,kz,kw,kb,kv,x0,x1,x2,x3,x4,hT⟩:=hkid q hlt;obtain ⟨A4,n4,c4',A5,n5,c5',A6,n6,c6',rfl,rfl,rfl⟩:=hT.three;have hc:=fun i=>hB6.cell (p:=⟨b,i,none⟩) (by show b<base;exact hbB)
     have c0:=(hc _).trans x0;have c1:=(hc _).trans x1;have c2:=(hc _).trans x2;have c3:=(hc _).trans x3;have c4:=(hc _).trans x4;have HT:=LH hT;have HB6:=LH hB6;clear hkid x0 x1 x2 x3 x4 hT hc hB6;have hMB:M<B.length:=by have:=HBM.out;omega
     have hHas:Has (layAll sz (ks.take q) ⟨B,false⟩ M P).a M (P+q) 0:=layAll_has (ks.take q) (left - 1) (deepAll_take ks q HDA.out) ⟨B,false⟩ M P M (P+q) 0 hMB (HZ.out q hlt) (fun j hj e=>by
      rw[List.length_take] at hj;have:=e.2
      omega)
     have hRm:RoomA sz (layAll sz (ks.take q) ⟨B,false⟩ M P).a:=RoomA.all HRo.out b0 HFq.out;have hPs:Pos (layAll sz (ks.take q) ⟨B,false⟩ M P).a:=layAll_pos (ks.take q) ⟨B,false⟩ M P hMB HPos.out;have HNext:Hid (layAll sz (ks.take (q+1)) ⟨B,false⟩ M P=lay sz (ks[q]?.getD Tr.nil) ⟨(layAll sz (ks.take q) ⟨B,false⟩ M P).a,false⟩ M (P+q)):=LH (by
      rw[layAll_next (by rw[←HNk.out];exact hlt),←lay_eta HFq.out])
     have HCall:=LH (fun X (hX:Below w6.heap.size w6 X)=>HIH.out q hlt (left - 1) _ X _ g' c' us' M (P+q) (deepAll_get ks q (by rw[←HNk.out];exact hlt) HDA.out) HT.out (HB6.out.trans (hX.mono (by have:=HB6.out.size;have:=HKr.out.below.size;omega))) (HSr.out.on hX) hHas hRm hPs)
     rw[←HNext.out] at HCall;have hpq:((P+q:Nat):Int)=(P:Int)+q:=Int.natCast_add P q;rw[hpq] at HCall;have hq6:(q:Int)<(nk:Int):=by omega
     have hwq:IntKind.i64.wrap ((P:Int)+q)=P+q:=IntWalk.i64_in _ (by omega);unfold cellsT at HCall;clear hHas hRm hPs hpq hMB
     go_wp2_with fail
     generalize hW:w6.alloc _=W7;have hB7:Below w6.heap.size w6 W7:=by rw[←hW];exact (Below.refl _ _).alloc (Nat.le_refl _) _
     clear hW;refine (HCall.out _ hB7).mono ?_
     rintro e w8 ⟨rfl,hS8,hK8⟩;have HS8:=LH hS8;have HK8:=LH ((HKr.out.trans (keep_of_below hB7 (by have:=HKr.out.below.size;omega))).trans hK8);clear hS8 hK8 hB7;cases hfk:(layAll sz (ks.take (q+1)) ⟨B,false⟩ M P).full with
     | false =>
      go_wp2_with fail
      go_round
      case rel=>exact ⟨q+1,by omega,by go_num,hfk,HS8.out hfk,HK8.out⟩
      case measure=>simp[intOf];omega
     | true =>
      have hff:(layAll sz ks ⟨B,fullA sz B⟩ M P).full=true:=by rw[HF0.out];exact layAll_over hfk
      go_wp2_with fail
      go_ret;exact ⟨by rw[hff];rfl,fun h=>absurd (hff.symm.trans h) (by decide),HK8.out⟩
    ·obtain rfl:q=nk:=by omega
     have ht:ks.take q=ks:=List.take_of_length_le (by rw[←HNk.out];exact Nat.le_refl _);have hff:(layAll sz ks ⟨B,fullA sz B⟩ M P).full=false:=by
      have h:=HFq.out;rw[ht] at h;rw[HF0.out];exact h
     have hSf:∃g' c' us',BuS w6 base bb sz (layAll sz ks ⟨B,fullA sz B⟩ M P).a g' c' us':=⟨g',c',us',by have:=HSr.out;rw[ht] at this;rw[HF0.out];exact this⟩
     have HSf:=LH hSf;have HFf:=LH hff;clear hff hSf ht
     go_wp2_with fail
     go_ret;exact ⟨by rw[HFf.out];rfl,fun _=>HSf.out,HKr.out⟩
theorem blay_any (sz:Nat) (hsz:sz≤4096) (w0:World) (L:Laid w0) (bb:Nat):(n:Nat)→(t:Tr)→SizeOf.sizeOf t≤n→LayC sz w0 bb t
 | 0,.mk k z ws bs ks,hn=>by simp at hn
 | n+1,.mk k z ws bs ks,hn=>by
  by_cases h:needT (.mk k z ws bs ks)=0
  ·exact blay_zero sz w0 L bb _ h
  ·exact blay_some sz hsz w0 L bb k z ws bs ks h (fun j hj=>blay_any sz hsz w0 L bb n _ (deep_kids hn hj))
theorem BuS.first {X:World} {base n1 n2 bb:Nat} {sz:Int} (h1:base≤n1) (h2:base≤n2) (h3:base≤bb) (e1:X.heap[n1]? = some (.cells #[.int .u64 0] 44 (0,0))) (e2:X.heap[n2]? = some (.cells #[.slice (some ⟨n1,0,none⟩) 1 1] 31 (0,0)))
  (e3:X.heap[bb]? = some (.cells #[.slice (some ⟨n2,0,none⟩) 1 1,.int .i64 sz] 115 (0,0))):BuS X base bb sz [[0]] n2 1 [.slice (some ⟨n1,0,none⟩) 1 1]:=by
 refine ⟨e3,h3,⟨rfl,.inr ⟨n2,1,_,rfl,h2,e2,Nat.le_refl _,by decide,rfl,rfl⟩⟩,rfl,fun j hj=> ?_,fun i j b hi hj hij=> ?_⟩
 ·obtain rfl:j=0:=by simp at hj;omega
  exact ⟨rfl,.inr ⟨n1,1,_,rfl,h1,e1,Nat.le_refl _,by decide,rfl,rfl⟩⟩
 ·simp at hi hj
  omega
theorem buildT_arg {t:Tr} {z:Int} (h:z<1∨4096<z∨rightT t=false):buildT t z=([],1):=by
 unfold buildT;rw[if_pos h]
set_option maxHeartbeats 1000000 in
theorem build_any (t:Tr) (v:Value) (z:Int) (w:World) (L:Laid w) (h:TrV w w.heap.size t v) :
  Calls Tryz.prog 36 #[v,.int .i64 z] w fun e w'=>∃x,e= .returned (.tuple #[x,.int .u16 (buildT t z).2])∧OwnA w' w.heap.size x (buildT t z).1∧Below w.heap.size w w':=by
 have HR:=LH (fun X (hX:Below w.heap.size w X)=>right8_any t v X (h.on hX))
 have HLay:=LH (fun (sz:Nat) (hs:sz≤4096) bb=>blay_any sz hs w L bb _ t (Nat.le_refl _))
 have HT:=LH h;obtain ⟨k,y,ws,bs,ks⟩:=t;obtain ⟨A1,c1,A2,c2,A3,c3,rfl,-⟩:=h.parts;clear h;generalize ws.length=nw at *
 generalize bs.length=nb at *
 generalize ks.length=nk at *
 generalize (Tr.mk k y ws bs ks)=t at *
 have HTB:=LH (TBox.new w k y (.slice A1 nw c1) (.slice A2 nb c2) (.slice A3 nk c3));have HB0:Hid (Below w.heap.size w (w.alloc (.cells (cellsT k y (.slice A1 nw c1) (.slice A2 nb c2) (.slice A3 nk c3)) 34))):=LH ((Below.refl _ _).alloc (Nat.le_refl _) _);unfold LayC at HLay;obtain ⟨W1,hW1⟩:∃W1,W1=w.alloc (.cells (cellsT k y (.slice A1 nw c1) (.slice A2 nb c2) (.slice A3 nk c3)) 34):=⟨_,rfl⟩;rw[←hW1] at HTB HB0;unfold cellsT at hW1 HR HT ⊢;have HE:Hid (z<1∨4096<z∨rightT t=false→buildT t z=([],1)):=LH buildT_arg
 by_cases h1:z<1
 ·rw[HE.out (.inl h1)];go_enter Tryz.func36,Tryz.ntmps36
  go_wp2_with fail
  go_ret2;rw[←hW1];exact ⟨_,rfl,OwnA.nil _ _,HB0.out⟩
 ·by_cases h2:4096<z
  ·rw[HE.out (.inr (.inl h2))];go_enter Tryz.func36,Tryz.ntmps36
   go_wp2_with fail
   go_ret2;rw[←hW1];exact ⟨_,rfl,OwnA.nil _ _,HB0.out⟩
  ·cases hr:rightT t with
   | false =>
    rw[HE.out (.inr (.inr hr))];rw[hr] at HR;obtain ⟨d0,d1,d2,d3,d4⟩:=HTB.out.cells;go_enter Tryz.func36,Tryz.ntmps36;go_upto_region 1 with fail
    rw[←hW1];clear hW1
    go_wp2_with fail
    refine (HR.out _ HB0.out).mono ?_
    rintro e w2 ⟨rfl,hB2⟩;have HB2:=LH (bseq8 HB0.out hB2);clear hB2
    go_wp2_with fail
    go_ret2;exact ⟨_,rfl,OwnA.nil _ _,HB2.out⟩
   | true =>
    obtain ⟨sz,rfl⟩:∃sz:Nat,z=(sz:Int):=⟨z.toNat,by omega⟩
    have hd:deepB t 32=true:=hr;have hz1:1≤sz:=by omega
    have hz2':sz≤4096:=by omega
    have HBu:=LH (build_of hr rfl hz1 hz2' rfl:buildT t (sz:Int)=_);obtain ⟨bt,hbt⟩:∃bt,bt=buildT t (sz:Int):=⟨_,rfl⟩;rw[←hbt] at HBu ⊢;clear hbt;rw[hr] at HR;obtain ⟨st,hst⟩:∃st,st=lay sz t ⟨[[0]],false⟩ 0 0:=⟨_,rfl⟩;rw[←hst] at HBu;have HSt:=LH hst;clear hst;have HD:=LH hd;obtain ⟨d0,d1,d2,d3,d4⟩:=HTB.out.cells;clear HE hr hd;go_enter Tryz.func36,Tryz.ntmps36;go_upto_region 1 with fail
    rw[←hW1];clear hW1
    go_wp2_with fail
    refine (HR.out _ HB0.out).mono ?_
    rintro e w2 ⟨rfl,hB2⟩;have HTB2:=LH (HTB.out.on hB2);have HB2:=LH (bseq8 HB0.out hB2);clear hB2 d0 d1 d2 d3 d4;obtain ⟨d0,d1,d2,d3,d4⟩:=HTB2.out.cells;obtain ⟨W5,hW5⟩:∃W5,W5=(((w2.alloc (.cells #[.int .u64 0] 44)).alloc (.cells #[.slice (some ⟨w2.heap.size,0,none⟩) 1 1] 31)).alloc (.cells #[.slice (some ⟨w2.heap.size+1,0,none⟩) 1 1,.int .i64 sz] 115)):=⟨_,rfl⟩;have hz2:w.heap.size≤w2.heap.size:=HB2.out.size;have hB5:Below w2.heap.size w2 W5:=by rw[hW5];exact (((Below.refl _ w2).alloc (Nat.le_refl _) _).alloc (by simp) _).alloc (by simp;omega) _
    have hS5:BuS W5 w.heap.size (w2.heap.size+1+1) sz [[0]] (w2.heap.size+1) 1 [.slice (some ⟨w2.heap.size,0,none⟩) 1 1]:=by
     refine BuS.first (n1:=w2.heap.size) hz2 (by omega) (by omega) ?_ ?_ ?_
     ·rw[hW5];exact ((Below.heap_alloc _ _ _ (by simp;omega)).trans (Below.heap_alloc _ _ _ (by simp))).trans (World.alloc_heap_new w2 _)
     ·rw[hW5];refine (Below.heap_alloc _ _ _ (by simp)).trans ?_
      have:=World.alloc_heap_new (w2.alloc (.cells #[.int .u64 0] 44)) (.cells #[.slice (some ⟨w2.heap.size,0,none⟩) 1 1] 31)
      rwa [World.size_alloc] at this
     ·rw[hW5];have:=World.alloc_heap_new ((w2.alloc (.cells #[.int .u64 0] 44)).alloc (.cells #[.slice (some ⟨w2.heap.size,0,none⟩) 1 1] 31)) (.cells #[.slice (some ⟨w2.heap.size+1,0,none⟩) 1 1,.int .i64 sz] 115)
      rwa [World.size_alloc,World.size_alloc] at this
    have HC:=LH (HLay.out sz hz2' (w2.heap.size+1+1) 32 _ W5 [[0]] (w2.heap.size+1) 1 [.slice (some ⟨w2.heap.size,0,none⟩) 1 1] 0 0 HD.out HT.out (HB2.out.trans (hB5.mono hz2)) hS5 rfl ⟨by simpa using hz1,by simp,by simp[lenS]⟩ (by simp[Pos]))
    have HTB5:=LH (HTB2.out.on hB5);have HB5:=LH (HB2.out.trans (hB5.mono hz2));clear hS5 hB5 HLay HT;go_upto_region 4 with fail
    rw[←hW5];clear d0 d1 d2 d3 d4 hW5;obtain ⟨d0,d1,d2,d3,d4⟩:=HTB5.out.cells;generalize w2.heap.size+1+1=bb at *
    rw[←HSt.out] at HC
    go_wp2_with fail
    refine HC.out.mono ?_
    rintro e w6 ⟨rfl,hS6,hK6⟩;have HK6:=LH (HB5.out.trans hK6.below);clear hK6 d0 d1 d2 d3 d4;cases hf:st.full with
    | true =>
     go_wp2_with fail
     obtain rfl:bt=([],24):=by rw[HBu.out,if_pos hf]
     go_ret2;exact ⟨_,rfl,OwnA.nil _ _,HK6.out⟩
    | false =>
     obtain ⟨g',c',us',hS7⟩:=hS6 hf;have HS7:=LH hS7;obtain ⟨e0,e1⟩:=hS7.cells;clear hS6 hS7
     go_wp2_with fail
     obtain rfl:bt=(st.a,0):=by rw[HBu.out,if_neg (by rw[hf];decide)]
     go_ret2;exact ⟨_,rfl,⟨us',HS7.out.len,by rw[←HS7.out.len];exact HS7.out.row,HS7.out.segs⟩,HK6.out⟩
end Go.Proofs.YtmmlfnblodfjbaaGreatDoor
