/- Layer 8: the law's Tree: kids. -/
import Derived.Test.YtmmlfnblodfjbaaGreatDoorQGenA
import Derived.Laws.Bits64
set_option maxRecDepth 100000
namespace Go.Proofs.YtmmlfnblodfjbaaGreatDoor
open Go.RowKit Go.Deep
theorem kidsC_snoc (f:List Int→Tr × List Int):(n:Nat)→(c:List Int)→kidsC f (n+1) c=((kidsC f n c).1 ++ [(f (kidsC f n c).2).1],(f (kidsC f n c).2).2)
 | 0,c=>rfl
 | n+1,c=>by
  rw[kidsC,kidsC_snoc f n (f c).2,kidsC]
  rfl
theorem kidsC_len (f:List Int→Tr × List Int):(n:Nat)→(c:List Int)→(kidsC f n c).1.length=n
 | 0,_=>rfl
 | n+1,c=>by
  rw[kidsC]
  show ((f c).1 :: (kidsC f n (f c).2).1).length=n+1
  rw[List.length_cons,kidsC_len f n]
theorem treeC_bytes:(d:Nat)→(c:List Int)→AllB c→AllB (treeC d c).2
 | 0,c,h=>h
 | d+1,[],h=>h
 | d+1,k :: c,h=>by
  have hc:AllB c:=fun x hx=>h x (List.mem_cons_of_mem _ hx)
  have hk:∀n,AllB (kidsC (treeC d) n c).2:=by
   intro n
   induction n with
   | zero=>exact hc
   | succ n ih =>
    rw[kidsC_snoc];exact treeC_bytes d _ ih
  rw[treeC_eq]
  split
  ·exact hc
  ·split
   ·exact hc
   ·split
    ·exact hc
    ·split
     ·exact hk _
     ·exact hk _
theorem own_type5 {w:World} {base base' e e' m n n' g:Nat} {v v':Value} {xs xs':List Value} (h:w.ownsRow base e 1 v n xs) (h':w.ownsRow base' e' m v' n' xs') (hne:e≠e') (hg:v.ownBlock=some g):v'.ownBlock≠some g:=by
 intro e2;obtain ⟨_,⟨rfl,_⟩ | ⟨g1,c1,cur1,rfl,_,hh1,_⟩⟩:=h
 ·simp[Value.ownBlock] at hg
 ·obtain ⟨_,⟨rfl,_⟩ | ⟨g2,c2,cur2,rfl,_,hh2,_⟩⟩:=h'
  ·simp[Value.ownBlock] at e2
  ·simp only[Value.ownBlock,Option.some.injEq] at hg e2;subst hg;subst e2;rw[hh1] at hh2
   simp at hh2
   exact hne hh2.2
theorem kidsC_bytes (d n:Nat) {c:List Int} (h:AllB c):AllB (kidsC (treeC d) n c).2:=by
 induction n with
 | zero=>exact h
 | succ n ih =>
  rw[kidsC_snoc];exact treeC_bytes d _ ih
set_option maxHeartbeats 1000000 in
theorem tree_list (d:Nat) (hd:d≤1000) (ih:TreeS d) (K:Nat) (hK:K≤255) (r:List Int) (v:Value) (w:World) (B:Nat) (hBw:B≤w.heap.size) (h:Bytes w B v ((K:Int) :: r)) (hr:AllB r) (hq:(K:Int) % 8=7) :
  Calls Tryz.prog 14 #[v,.int .i64 ((d:Int)+1)] w fun e w'=>∃x y,e= .returned (.tuple #[x,y])∧TrP w' (fun b=>w.heap.size≤b∧b<w'.heap.size) (treeC (d+1) ((K:Int) :: r)).1 x∧Bytes w' B y (treeC (d+1) ((K:Int) :: r)).2∧Below w.heap.size w w':=by
 obtain ⟨W1,hW1⟩:∃W1,W1=w.alloc (.cells (cellsT 0 0 (.slice none 0 0) (.slice none 0 0) (.slice none 0 0)) 34):=⟨_,rfl⟩;have hB:Below w.heap.size w W1:=by rw[hW1];exact (Below.refl _ _).alloc (Nat.le_refl _) _
 have hT:TBox W1 w.heap.size 0 0 (.slice none 0 0) (.slice none 0 0) (.slice none 0 0):=by rw[hW1];exact TBox.new _ _ _ _ _ _
 obtain ⟨A,n,e0,hcn,hnm,hcell⟩:=h;obtain ⟨b,off,rfl,hbB,hcell⟩:=hcell (by simp);have x0:=(hB.cell (p:=⟨b,off,none⟩) (by show b<w.heap.size;omega)).trans (hcell 0 (by simp))
 simp only[List.getElem?_cons_zero,Option.getD_some] at x0;have h':Bytes w B (.slice (some ⟨b,off,none⟩) (r.length+1) n) ((K:Int) :: r):=⟨_,n,rfl,hcn,hnm,fun _=>⟨b,off,rfl,hbB,hcell⟩⟩
 have hP:=h'.past1 (by simp) (by omega);rw[List.drop_one,List.tail_cons,Nat.add_sub_cancel] at hP;rw[List.length_cons] at e0 hcn;subst e0;have HP:=LH hP;have HB:=LH hB;have HT:=LH hT;have HR:=LH hr;obtain ⟨T,hTt⟩:∃T,T=treeC (d+1) ((K:Int) :: r):=⟨_,rfl⟩;have HTr:Hid (T=if K % 8=0 then (Tr.nil,r)
   else if K % 8=1∨K % 8=2 then (.mk 2 2 [] (bytesC K) [],r)
   else if K % 8=3 then (.mk 2 5 (wordsC K) [] [],r)
   else if K % 8=7 then (.mk 2 6 [] [] (kidsC (treeC d) (K / 8 % 5) r).1,(kidsC (treeC d) (K / 8 % 5) r).2)
   else (.mk 1 0 (wordsD K) [] (kidsC (treeC d) (K / 8 % 5) r).1,(kidsC (treeC d) (K / 8 % 5) r).2)):=LH (by rw[hTt,treeC_eq,Int.toNat_natCast])
 rw[←hTt];have q0:(((r.length+1:Nat):Int) == 0)=false:=by rw[beq_eq_false_iff_ne];omega
 have q1:(((d:Int)+1) == 0)=false:=by rw[beq_eq_false_iff_ne];omega
 obtain ⟨m,hm⟩:∃m,m=r.length:=⟨_,rfl⟩;rw[←hm] at HP hcn q0 ⊢;have hz1:W1.heap.size=w.heap.size+1:=by rw[hW1];simp
 clear hP hT hB hcell h' hr hm hTt;unfold cellsT at hW1;have i1:(0:Int)<((m+1:Nat):Int):=by omega
 have i2:(1:Int)≤((m+1:Nat):Int):=by omega
 go_enter Tryz.func14,Tryz.ntmps14;go_upto_region 1 with fail
 rw[←hW1];clear hW1;go_upto_region 4 with fail
 go_cut [0] (fun s0 wx=>(∃A' n',s0= .slice A' m n'∧Bytes w B s0 r)∧W1=wx)
 case first =>
  by_cases hn:n=1
  ·subst hn;obtain rfl:m=0:=by omega
   rw[if_pos rfl] at HP
   go_wp2_with fail
   go_meet;exact ⟨⟨_,_,rfl,HP.out⟩,rfl⟩
  ·rw[if_neg hn] at HP
   go_wp2_with fail
   go_meet;exact ⟨⟨_,_,rfl,HP.out⟩,rfl⟩
 case rest =>
  obtain ⟨⟨A',n',rfl,hY⟩,rfl⟩:=hcut;have HY:=LH hY;clear hY HP x0 hcell hnm hbB q0 hcn i1 i2;go_upto_region 22 with fail
  obtain ⟨W2,hW2⟩:∃W2,W2=W1.alloc (.cells (cellsT 0 0 (.slice none 0 0) (.slice none 0 0) (.slice none 0 0)) 34):=⟨_,rfl⟩;have hB2:Below w.heap.size w W2:=by rw[hW2];exact HB.out.alloc (by omega) _
  have hT2:TBox W2 (w.heap.size+1) 0 0 (.slice none 0 0) (.slice none 0 0) (.slice none 0 0):=by rw[hW2,←hz1];exact TBox.new _ _ _ _ _ _
  have hT1:TBox W2 w.heap.size 0 0 (.slice none 0 0) (.slice none 0 0) (.slice none 0 0):=by rw[hW2];exact HT.out.on ((Below.refl _ _).alloc (Nat.le_refl _) _)
  have hz2:W2.heap.size=w.heap.size+2:=by rw[hW2];simp;omega
  have HB2:=LH hB2;have HT2:=LH hT2;have HT1:=LH hT1;have hW2':=hW2;unfold cellsT at hW2';rw[←hW2'];clear hW2' hW2 hB2 hT2 hT1 HT HB;clear hz1;obtain ⟨N5,hN5⟩:∃N5:Nat,(K:Int) / 8 % 5=N5:=⟨K / 8 % 5,by omega⟩
  have HN5:Hid (N5=K / 8 % 5):=LH (by omega);rw[hN5];clear hN5;have HTe:T=(.mk 2 6 [] [] (kidsC (treeC d) (K / 8 % 5) r).1,(kidsC (treeC d) (K / 8 % 5) r).2):=by rw[HTr.out,if_neg (by omega),if_neg (by omega),if_neg (by omega),if_pos (by omega)]
  rw[←HN5.out] at HTe;subst HTe;have hz0:(w.heap.size+1)≠w.heap.size:=by omega
  obtain ⟨W3,hW3⟩:∃W3,W3=((W2.setCell ⟨w.heap.size+1,0,none⟩ (.int .i64 1)).setCell ⟨w.heap.size+1,0,none⟩ (.int .i64 2)).setCell ⟨w.heap.size+1,1,none⟩ (.int .i64 6):=⟨_,rfl⟩;have h3:TBox W3 (w.heap.size+1) 2 6 (.slice none 0 0) (.slice none 0 0) (.slice none 0 0):=by rw[hW3];exact ((HT2.out.set0 1).set0 2).set1 6
  have h4:TBox W3 w.heap.size 0 0 (.slice none 0 0) (.slice none 0 0) (.slice none 0 0):=by rw[hW3];exact ((HT1.out.apart hz0.symm).apart hz0.symm).apart hz0.symm
  have h5:Below w.heap.size w W3:=by
   rw[hW3];exact ((HB2.out.setCell (p:=⟨w.heap.size+1,0,none⟩) (by show w.heap.size≤w.heap.size+1;omega) _).setCell (p:=⟨w.heap.size+1,0,none⟩) (by show w.heap.size≤w.heap.size+1;omega) _).setCell (p:=⟨w.heap.size+1,1,none⟩) (by show w.heap.size≤w.heap.size+1;omega) _
  have h6:W3.heap.size=w.heap.size+2:=by rw[hW3,nblk_setCell,nblk_setCell,nblk_setCell];exact hz2
  have f0:=HT2.out.frozen 0;have f1:=HT2.out.frozen 1;obtain ⟨d0,d1,d2,d3,d4⟩:=HT2.out.cells;have HT3:=LH h3;have HT4:=LH h4;have HB5:=LH h5;have HZ5:=LH (Nat.le_of_eq h6.symm);have HY0:=LH (HY.out.below h5 hBw);have HWS:Hid (OwnN .u64 44 W3 (w.heap.size+2) (.slice none 0 0) []):=LH (World.ownsRow_nil _ _ _ _);have hN2:N5≤4:=by have:=HN5.out;omega
  have hd1:IntKind.i64.wrap ((d:Int)+1 - 1)=(d:Int):=by rw[IntWalk.i64_in _ (by omega)];omega
  have HIH:=LH ih;unfold TreeS at HIH;clear h3 h4 h5 ih;rw[hq];have q6:decide ((6:Int)<(K:Int) % 8)=true:=decide_eq_true (by omega)
  go_upto_block 1 with fail
  rw[←hW3];clear hW3 f0 f1 d0 d1 d2 d3 d4 q6 hq
  go_cut [11] (fun s11 wx=>(∃j:Int,s11= .int .i64 j)∧W3=wx)
  case first =>
   obtain ⟨d0,d1,d2,d3,d4⟩:=HT3.out.cells
   go_wp2_with fail
   go_loopw [11] (fun i wr=>i= .int .i64 0∧W3=wr) (fun _ _=>0)
   case atStart=>exact ⟨rfl,rfl⟩
   case round =>
    obtain ⟨rfl,rfl⟩:=hrel
    by_cases h64:(0:Int)<(K:Int) / 64
    ·have d64:decide ((0:Int)<(K:Int) / 64)=true:=decide_eq_true h64
     go_wp2_with fail
     go_meet;exact ⟨⟨_,rfl⟩,rfl⟩
    ·have d64:decide ((0:Int)<(K:Int) / 64)=false:=decide_eq_false h64
     go_wp2_with fail
     go_meet;exact ⟨⟨_,rfl⟩,rfl⟩
  case rest =>
   obtain ⟨⟨j,rfl⟩,rfl⟩:=hcut
   go_wp2_with fail
   go_loopw [0,12] (fun s0 i wr=>∃t:Nat,t≤N5∧i= .int .i64 t∧(∃A m n,s0= .slice A m n∧Bytes wr B s0 (kidsC (treeC d) t r).2)∧∃A n,TBox wr (w.heap.size+1) 2 6 (.slice none 0 0) (.slice none 0 0) (.slice A t n)∧TBox wr w.heap.size 0 0 (.slice none 0 0) (.slice none 0 0) (.slice none 0 0)∧OwnN .u64 44 wr (w.heap.size+2) (.slice none 0 0) []∧KRowN wr (w.heap.size+2) (.slice A t n) (kidsC (treeC d) t r).1∧Below w.heap.size w wr∧w.heap.size+2≤wr.heap.size) (fun _ i _=>N5 - (intOf i).toNat)
   case atStart=>exact ⟨0,by omega,rfl,⟨_,_,_,rfl,HY0.out⟩,none,0,HT3.out,HT4.out,HWS.out,KRow.nil _ _ _,HB5.out,HZ5.out⟩
   case round =>
    obtain ⟨t,ht,rfl,⟨A9,m9,n9,rfl,hy9⟩,A,n,hT3,hT4,hws,hkr,hBr,hzr⟩:=hrel;generalize wr=w3 at *
    by_cases hlt:t<N5
    ·have i1:(t:Int)<(N5:Int):=by omega
     have hCall:=HIH.out _ _ w3 B (by omega) hy9 (kidsC_bytes d t HR.out);have HCall:=LH hCall;have HT3:=LH hT3;have HT4:=LH hT4;have HWs:=LH hws;have HKr:=LH hkr;have HBr:=LH hBr;clear hCall hT3 hT4 hws hkr hBr hy9
     go_wp2_with fail
     refine HCall.out.mono ?_
     rintro e w4 ⟨x,y,rfl,hTx,hYy,hB4⟩;obtain ⟨k1,z1,A1,n1,c1,A2,n2,c2,A3,n3,c3,rfl⟩:=hTx.parts;obtain ⟨A10,n10,ey⟩:=hYy.form rfl;subst ey;obtain ⟨w5,hw5⟩:∃w5,w5=w4.alloc (.cells #[.int .i64 k1,.int .i64 z1,.slice A1 n1 c1,.slice A2 n2 c2,.slice A3 n3 c3] 34):=⟨_,rfl⟩;have hB45:Below w4.heap.size w4 w5:=by rw[hw5];exact (Below.refl _ _).alloc (Nat.le_refl _) _
     have hT13:TBox w5 w4.heap.size k1 z1 (.slice A1 n1 c1) (.slice A2 n2 c2) (.slice A3 n3 c3):=by rw[hw5];exact TBox.new _ _ _ _ _ _
     have hB35:Below w3.heap.size w3 w5:=hB4.trans (hB45.mono hB4.size);have hz35:=hB35.size;have hz34:=hB4.size;have hz45:=hB45.size;have hKr5:KRowN w5 (w.heap.size+2) (.slice A t n) (kidsC (treeC d) t r).1:=KRow.keep HKr.out hz35 (fun b _ hb=>hB35.block b hb)
     have hub:∀g,(Value.slice A t n).ownBlock=some g→w.heap.size+2≤g∧g<w3.heap.size:=fun g e=>by
      obtain ⟨xs,ho,-⟩:=HKr.out;exact World.ownsRow.lt ho g e
     have hTx5:TrP w5 (fun b=>w.heap.size+2≤b∧b<w5.heap.size∧(Value.slice A t n).ownBlock≠some b) (treeC d (kidsC (treeC d) t r).2).1 (.agg (cellsT k1 z1 (.slice A1 n1 c1) (.slice A2 n2 c2) (.slice A3 n3 c3))) :=
      TrP.mono (fun b hb=>⟨by omega,by omega,fun e=>by have:=(hub b e).2;omega⟩) _ _ (TrP.keep (fun b hb=>hB45.block b hb.2) _ _ hTx)
     obtain ⟨v',w6,hrun,hk6,hg6,hv6⟩:=append_node w5 (w.heap.size+2) 32 _ _ _ k1 z1 A1 A2 A3 n1 n2 n3 c1 c2 c3 hKr5 hTx5 (by rw[kidsC_len];omega) (by omega);have hks:(kidsC (treeC d) t r).1 ++ [(treeC d (kidsC (treeC d) t r).2).1]=(kidsC (treeC d) (t+1) r).1:=by rw[kidsC_snoc]
     have hrs:(treeC d (kidsC (treeC d) t r).2).2=(kidsC (treeC d) (t+1) r).2:=by rw[kidsC_snoc]
     rw[hks] at hk6;obtain ⟨A6,c6,rfl,-⟩:=hk6.form;rw[kidsC_len] at hk6 hrun hv6;have hg5:w5.grownBy w6 (Value.slice A t n).ownBlock:=grown_trans (World.grownBy_alloc w5 _ _) hg6;have hP1:(Value.slice A t n).ownBlock≠some (w.heap.size+1):=fun e=>by have:=(hub _ e).1;omega
     have hP0:(Value.slice A t n).ownBlock≠some w.heap.size:=fun e=>by have:=(hub _ e).1;omega
     have hT5:TBox w5 (w.heap.size+1) 2 6 (.slice none 0 0) (.slice none 0 0) (.slice A t n):=HT3.out.on hB35;have hT6:=hT5.kept hg5 hP1;have hU6:TBox w6 w.heap.size 0 0 (.slice none 0 0) (.slice none 0 0) (.slice none 0 0):=(HT4.out.on hB35).kept hg5 hP0;have hz6:=hg5.size;have hB6:Below w.heap.size w w6:=((HBr.out.trans (hB35.mono (by omega))).grown hg5 (by omega) (fun k e=>by have:=(hub _ e).1;omega))
     have hW6:OwnN .u64 44 w6 (w.heap.size+2) (.slice none 0 0) []:=own_kept2 (own_on HWs.out hB35) hg5 (fun g e1 e2=>by
      obtain ⟨xs,ho,-⟩:=hKr5;exact own_type5 (own_on HWs.out hB35) ho (by decide) e1 e2)
     have hY6:Bytes w6 B (.slice A10 (treeC d (kidsC (treeC d) t r).2).2.length n10) (kidsC (treeC d) (t+1) r).2:=by
      rw[←hrs];have hbb:Below B w4 w6:=(hB45.mono (by omega)).grown hg5 (by omega) (fun k e=>by have:=(hub _ e).1;omega)
      exact hYy.below hbb (Nat.le_refl _)
     have hcs:Below w.heap.size w6 (w6.setCell ⟨w.heap.size+1,4,none⟩ (.slice A6 (t+1) c6)):=(Below.refl _ _).setCell (p:=⟨w.heap.size+1,4,none⟩) (by show w.heap.size≤w.heap.size+1;omega) _
     have HFin:Hid ((∃A m n,Value.slice A10 (treeC d (kidsC (treeC d) t r).2).2.length n10= .slice A m n∧Bytes (w6.setCell ⟨w.heap.size+1,4,none⟩ (.slice A6 (t+1) c6)) B (.slice A10 (treeC d (kidsC (treeC d) t r).2).2.length n10) (kidsC (treeC d) (t+1) r).2)∧∃A n,TBox (w6.setCell ⟨w.heap.size+1,4,none⟩ (.slice A6 (t+1) c6)) (w.heap.size+1) 2 6 (.slice none 0 0) (.slice none 0 0) (.slice A (t+1) n)∧TBox (w6.setCell ⟨w.heap.size+1,4,none⟩ (.slice A6 (t+1) c6)) w.heap.size 0 0 (.slice none 0 0) (.slice none 0 0) (.slice none 0 0)∧OwnN .u64 44 (w6.setCell ⟨w.heap.size+1,4,none⟩ (.slice A6 (t+1) c6)) (w.heap.size+2) (.slice none 0 0) []∧KRowN (w6.setCell ⟨w.heap.size+1,4,none⟩ (.slice A6 (t+1) c6)) (w.heap.size+2) (.slice A (t+1) n) (kidsC (treeC d) (t+1) r).1∧Below w.heap.size w (w6.setCell ⟨w.heap.size+1,4,none⟩ (.slice A6 (t+1) c6))∧w.heap.size+2≤(w6.setCell ⟨w.heap.size+1,4,none⟩ (.slice A6 (t+1) c6)).heap.size):=LH ⟨⟨_,_,_,rfl,hY6.below (hcs.mono hBw) (Nat.le_refl _)⟩,A6,c6,hT6.set4 _,hU6.apart (by omega),own_kept2 hW6 (grown_set _ _ _ _) (fun g e1 e2=>by
       cases e2
       have:=(World.ownsRow.lt hW6 _ e1).1
       omega),KRow.keep hk6 (by rw[nblk_setCell];exact Nat.le_refl _) (fun b hb1 _=>blk_setCell_other _ _ _ _ (by show b≠w.heap.size+1;omega)),hB6.trans hcs,by rw[nblk_setCell];omega⟩
     have HRun:=LH hrun;obtain ⟨x0,x1,x2,x3,x4⟩:=hT5.cells;obtain ⟨u0,u1,u2,u3,u4⟩:=hT13.cells;obtain ⟨y0,y1,y2,y3,y4⟩:=hT6.cells;have y5:=hT6.frozen 4;clear hcs hY6 hW6 hB6 hz6 hU6 hT6 hT5 hP0 hP1 hg5 hv6 hk6 hg6 hrun hrs hks hTx5 hub hKr5 hz45 hz34 hz35 hB35 hT13 hB45 hYy hTx hB4;subst hw5;rw[World.size_alloc] at HRun;generalize (treeC d (kidsC (treeC d) t r).2).2.length=m10 at *
     unfold cellsT
     go_wp2_with (at_builtin;refine Lib.wpList_append_run _ rfl _ _ _ _ rfl _ _ rfl rfl _ _ HRun.out ?_)
     go_roundw
     case rel=>exact ⟨t+1,by omega,by go_num,HFin.out⟩
     case measure=>simp[intOf];omega
    ·obtain rfl:t=N5:=by omega
     have i1:¬(t:Int)<(t:Int):=by omega
     have hkl:=kidsC_len (treeC d) t r;have hTP:TrP w3 (fun b=>w.heap.size+2≤b∧b<w3.heap.size) (.mk 2 6 [] [] (kidsC (treeC d) t r).1) (.agg (cellsT 2 6 (.slice none 0 0) (.slice none 0 0) (.slice A t n))):=by
      obtain ⟨A7,c7,e7,k1,k2,k3⟩:=hkr.kids;rw[e7];unfold TrP;exact ⟨_,_,A7,c7,rfl,⟨⟨by decide,by decide⟩,⟨by decide,by decide⟩,by simp,by simp,by rw[hkl];omega,by simp,by simp⟩,NumP.nil _ _ _,NumP.nil _ _ _,k1,k2,k3⟩
     obtain ⟨hE,hF⟩:=tree_end hBw hBr hT4 hTP hy9;unfold cellsT at hF;have HE:=LH hE;have HF:=LH hF;obtain ⟨x0,x1,x2,x3,x4⟩:=hT3.cells;obtain ⟨c0,c1,c2,c3,c4⟩:=hT4.cells;have f0:=hT4.frozen 0;have f1:=hT4.frozen 1;have f2:=hT4.frozen 2;have f3:=hT4.frozen 3;have f4:=hT4.frozen 4;clear hE hF hTP hkl hws hkr hT3 hT4 hBr hy9
     go_wp2_with fail
     clear x0 x1 x2 x3 x4 c0 c1 c2 c3 c4;obtain ⟨e0,e1,e2,e3,e4⟩:=HE.out.cells;refine bodyPost_ret (v:= .tuple #[.agg #[.int .i64 2,.int .i64 6,.slice none 0 0,.slice none 0 0,.slice A t n],.slice A9 m9 n9]) ?_ rfl HF.out
     simp[results,Tryz.f14,go_sem,e0,e1,e2,e3,e4]
theorem wordsD_len (k:Nat):(wordsD k).length=k / 64 % 4:=by simp[wordsD]
theorem wordsD_get (k:Nat) {t:Nat} (h:t<k / 64 % 4):(wordsD k)[t]? = some ((k*256 ^ t+t:Nat):Int):=by
 unfold wordsD;rw[List.getElem?_map,List.getElem?_range h]
 rfl
theorem wordsD_wrap {k t:Nat} (hk:k≤255) (ht:t≤2):((k*256 ^ t+t:Nat):Int)=IntKind.u64.wrap (IntKind.u64.wrap ((k:Int)*2 ^ (8*t))+t):=by
 rw[IntKind.wrap_u64,IntKind.wrap_u64]
 rcases (show t=0∨t=1∨t=2 by omega) with rfl | rfl | rfl
 ·simp;omega
 ·have:((k:Int)*2 ^ (8*1))=k*256:=rfl;rw[this];omega
 ·have:((k:Int)*2 ^ (8*2))=k*65536:=rfl;rw[this];omega
theorem wordsD_bd {k:Nat} (hk:k≤255):∀x∈wordsD k,0≤x∧x≤18446744073709551615:=by
 intro x hx;obtain ⟨i,hi,rfl⟩:=List.mem_map.1 hx;have hi2:=List.mem_range.1 hi
 rcases (show i=0∨i=1∨i=2 by omega) with rfl | rfl | rfl <;> omega
set_option maxHeartbeats 1000000 in
theorem tree_struct (d:Nat) (hd:d≤1000) (ih:TreeS d) (K:Nat) (hK:K≤255) (r:List Int) (v:Value) (w:World) (B:Nat) (hBw:B≤w.heap.size) (h:Bytes w B v ((K:Int) :: r)) (hr:AllB r) (hq:(K:Int) % 8=4∨(K:Int) % 8=5∨(K:Int) % 8=6) :
  Calls Tryz.prog 14 #[v,.int .i64 ((d:Int)+1)] w fun e w'=>∃x y,e= .returned (.tuple #[x,y])∧TrP w' (fun b=>w.heap.size≤b∧b<w'.heap.size) (treeC (d+1) ((K:Int) :: r)).1 x∧Bytes w' B y (treeC (d+1) ((K:Int) :: r)).2∧Below w.heap.size w w':=by
 obtain ⟨W1,hW1⟩:∃W1,W1=w.alloc (.cells (cellsT 0 0 (.slice none 0 0) (.slice none 0 0) (.slice none 0 0)) 34):=⟨_,rfl⟩;have hB:Below w.heap.size w W1:=by rw[hW1];exact (Below.refl _ _).alloc (Nat.le_refl _) _
 have hT:TBox W1 w.heap.size 0 0 (.slice none 0 0) (.slice none 0 0) (.slice none 0 0):=by rw[hW1];exact TBox.new _ _ _ _ _ _
 obtain ⟨A,n,e0,hcn,hnm,hcell⟩:=h;obtain ⟨b,off,rfl,hbB,hcell⟩:=hcell (by simp);have x0:=(hB.cell (p:=⟨b,off,none⟩) (by show b<w.heap.size;omega)).trans (hcell 0 (by simp))
 simp only[List.getElem?_cons_zero,Option.getD_some] at x0;have h':Bytes w B (.slice (some ⟨b,off,none⟩) (r.length+1) n) ((K:Int) :: r):=⟨_,n,rfl,hcn,hnm,fun _=>⟨b,off,rfl,hbB,hcell⟩⟩
 have hP:=h'.past1 (by simp) (by omega);rw[List.drop_one,List.tail_cons,Nat.add_sub_cancel] at hP;rw[List.length_cons] at e0 hcn;subst e0;have HP:=LH hP;have HB:=LH hB;have HT:=LH hT;have HR:=LH hr;obtain ⟨T,hTt⟩:∃T,T=treeC (d+1) ((K:Int) :: r):=⟨_,rfl⟩;have HTr:Hid (T=if K % 8=0 then (Tr.nil,r)
   else if K % 8=1∨K % 8=2 then (.mk 2 2 [] (bytesC K) [],r)
   else if K % 8=3 then (.mk 2 5 (wordsC K) [] [],r)
   else if K % 8=7 then (.mk 2 6 [] [] (kidsC (treeC d) (K / 8 % 5) r).1,(kidsC (treeC d) (K / 8 % 5) r).2)
   else (.mk 1 0 (wordsD K) [] (kidsC (treeC d) (K / 8 % 5) r).1,(kidsC (treeC d) (K / 8 % 5) r).2)):=LH (by rw[hTt,treeC_eq,Int.toNat_natCast])
 rw[←hTt];have q0:(((r.length+1:Nat):Int) == 0)=false:=by rw[beq_eq_false_iff_ne];omega
 have q1:(((d:Int)+1) == 0)=false:=by rw[beq_eq_false_iff_ne];omega
 obtain ⟨m,hm⟩:∃m,m=r.length:=⟨_,rfl⟩;rw[←hm] at HP hcn q0 ⊢;have hz1:W1.heap.size=w.heap.size+1:=by rw[hW1];simp
 clear hP hT hB hcell h' hr hm hTt;unfold cellsT at hW1;have i1:(0:Int)<((m+1:Nat):Int):=by omega
 have i2:(1:Int)≤((m+1:Nat):Int):=by omega
 go_enter Tryz.func14,Tryz.ntmps14;go_upto_region 1 with fail
 rw[←hW1];clear hW1;go_upto_region 4 with fail
 go_cut [0] (fun s0 wx=>(∃A' n',s0= .slice A' m n'∧Bytes w B s0 r)∧W1=wx)
 case first =>
  by_cases hn:n=1
  ·subst hn;obtain rfl:m=0:=by omega
   rw[if_pos rfl] at HP
   go_wp2_with fail
   go_meet;exact ⟨⟨_,_,rfl,HP.out⟩,rfl⟩
  ·rw[if_neg hn] at HP
   go_wp2_with fail
   go_meet;exact ⟨⟨_,_,rfl,HP.out⟩,rfl⟩
 case rest =>
  obtain ⟨⟨A',n',rfl,hY⟩,rfl⟩:=hcut;have HY:=LH hY;clear hY HP x0 hcell hnm hbB q0 hcn i1 i2;go_upto_region 22 with fail
  obtain ⟨W2,hW2⟩:∃W2,W2=W1.alloc (.cells (cellsT 0 0 (.slice none 0 0) (.slice none 0 0) (.slice none 0 0)) 34):=⟨_,rfl⟩;have hB2:Below w.heap.size w W2:=by rw[hW2];exact HB.out.alloc (by omega) _
  have hT2:TBox W2 (w.heap.size+1) 0 0 (.slice none 0 0) (.slice none 0 0) (.slice none 0 0):=by rw[hW2,←hz1];exact TBox.new _ _ _ _ _ _
  have hT1:TBox W2 w.heap.size 0 0 (.slice none 0 0) (.slice none 0 0) (.slice none 0 0):=by rw[hW2];exact HT.out.on ((Below.refl _ _).alloc (Nat.le_refl _) _)
  have hz2:W2.heap.size=w.heap.size+2:=by rw[hW2];simp;omega
  have HB2:=LH hB2;have HT2:=LH hT2;have HT1:=LH hT1;have hW2':=hW2;unfold cellsT at hW2';rw[←hW2'];clear hW2' hW2 hB2 hT2 hT1 HT HB;clear hz1;obtain ⟨N5,hN5⟩:∃N5:Nat,(K:Int) / 8 % 5=N5:=⟨K / 8 % 5,by omega⟩
  have HN5:Hid (N5=K / 8 % 5):=LH (by omega);rw[hN5];clear hN5;have HTe:T=(.mk 1 0 (wordsD K) [] (kidsC (treeC d) (K / 8 % 5) r).1,(kidsC (treeC d) (K / 8 % 5) r).2):=by rw[HTr.out,if_neg (by omega),if_neg (by omega),if_neg (by omega),if_neg (by omega)]
  rw[←HN5.out] at HTe;subst HTe;have hz0:(w.heap.size+1)≠w.heap.size:=by omega
  obtain ⟨W3,hW3⟩:∃W3,W3=W2.setCell ⟨w.heap.size+1,0,none⟩ (.int .i64 1):=⟨_,rfl⟩;have h3:TBox W3 (w.heap.size+1) 1 0 (.slice none 0 0) (.slice none 0 0) (.slice none 0 0):=by rw[hW3];exact HT2.out.set0 1
  have h4:TBox W3 w.heap.size 0 0 (.slice none 0 0) (.slice none 0 0) (.slice none 0 0):=by rw[hW3];exact HT1.out.apart hz0.symm
  have h5:Below w.heap.size w W3:=by
   rw[hW3];exact HB2.out.setCell (p:=⟨w.heap.size+1,0,none⟩) (by show w.heap.size≤w.heap.size+1;omega) _
  have h6:W3.heap.size=w.heap.size+2:=by rw[hW3,nblk_setCell];exact hz2
  have f0:=HT2.out.frozen 0;obtain ⟨d0,d1,d2,d3,d4⟩:=HT2.out.cells;have HT3a:=LH h3;have HT4a:=LH h4;have HB5a:=LH h5;have HZ5a:=LH (Nat.le_of_eq h6.symm);have hN2:N5≤4:=by have:=HN5.out;omega
  have hd1:IntKind.i64.wrap ((d:Int)+1 - 1)=(d:Int):=by rw[IntWalk.i64_in _ (by omega)];omega
  have HIH:=LH ih;unfold TreeS at HIH;clear h3 h4 h5 ih h6;have q0:((K:Int) % 8 == 0)=false:=by rw[beq_eq_false_iff_ne];omega
  have q1:((K:Int) % 8 == 1)=false:=by rw[beq_eq_false_iff_ne];omega
  have q2:((K:Int) % 8 == 2)=false:=by rw[beq_eq_false_iff_ne];omega
  have q3:((K:Int) % 8 == 3)=false:=by rw[beq_eq_false_iff_ne];omega
  have q6:decide ((6:Int)<(K:Int) % 8)=false:=decide_eq_false (by omega);clear hq;obtain ⟨MW,hMW⟩:∃MW:Nat,(K:Int) / 64=MW:=⟨K / 64,by omega⟩
  have HMW:Hid (MW=K / 64 % 4):=LH (by omega);have hm3:MW≤3:=by omega
  have HKK:Hid (K≤255):=LH hK
  go_upto_block 1 with fail
  rw[←hW3];clear hW3 f0 d0 d1 d2 d3 d4 q6 q0 q1 q2 q3
  go_cut [11] (fun s11 wx=>(∃j:Int,s11= .int .i64 j)∧∃A n,TBox wx (w.heap.size+1) 1 0 (.slice A MW n) (.slice none 0 0) (.slice none 0 0)∧TBox wx w.heap.size 0 0 (.slice none 0 0) (.slice none 0 0) (.slice none 0 0)∧OwnN .u64 44 wx (w.heap.size+2) (.slice A MW n) (wordsD K)∧Below w.heap.size w wx∧w.heap.size+2≤wx.heap.size)
  case first =>
   obtain ⟨d0,d1,d2,d3,d4⟩:=HT3a.out.cells
   go_wp2_with fail
   clear d0 d1 d2 d3 d4
   go_loopw [11] (fun i wr=>∃t:Nat,t≤MW∧i= .int .i64 t∧∃A n,TBox wr (w.heap.size+1) 1 0 (.slice A t n) (.slice none 0 0) (.slice none 0 0)∧TBox wr w.heap.size 0 0 (.slice none 0 0) (.slice none 0 0) (.slice none 0 0)∧OwnN .u64 44 wr (w.heap.size+2) (.slice A t n) ((wordsD K).take t)∧Below w.heap.size w wr∧w.heap.size+2≤wr.heap.size) (fun i _=>MW - (intOf i).toNat)
   case atStart=>exact ⟨0,by omega,rfl,none,0,HT3a.out,HT4a.out,World.ownsRow_nil _ _ _ _,HB5a.out,HZ5a.out⟩
   case round =>
    obtain ⟨t,ht,rfl,A,n,hT3,hT4,ho,hBr,hzr⟩:=hrel;generalize wr=w3 at *
    obtain ⟨x0,x1,x2,x3,x4⟩:=hT3.cells
    by_cases hlt:t<MW
    ·have d64:decide ((t:Int)<(MW:Int))=true:=decide_eq_true (by omega);have d65:(t:Int)<(MW:Int):=by omega
     have hl0:((wordsD K).take t).length=t:=by rw[List.length_take,wordsD_len];have:=HMW.out;omega
     obtain ⟨A2,n2,v',w4,hv',hrun,ho',hg⟩:=append_u1 w3 (w.heap.size+2) 31 _ _ ((K*256 ^ t+t:Nat):Int) ho (by rw[hl0];omega) hzr;rw[hl0] at hv';subst hv';have hP1:(Value.slice A t n).ownBlock≠some (w.heap.size+1):=fun e=>by
      have:=(World.ownsRow.lt ho _ e).1
      omega
     have hP0:(Value.slice A t n).ownBlock≠some w.heap.size:=fun e=>by
      have:=(World.ownsRow.lt ho _ e).1
      omega
     have hT5:=hT3.kept hg hP1;have hT6:=hT4.kept hg hP0;have hB6:=hBr.grown hg (by omega) (fun k e=>by have:=(World.ownsRow.lt ho _ e).1;omega)
     have hz6:w.heap.size+2≤w4.heap.size:=by have:=hg.size;omega
     have HFin:Hid (TBox (w4.setCell ⟨w.heap.size+1,2,none⟩ (.slice A2 (t+1) n2)) (w.heap.size+1) 1 0 (.slice A2 (t+1) n2) (.slice none 0 0) (.slice none 0 0)∧TBox (w4.setCell ⟨w.heap.size+1,2,none⟩ (.slice A2 (t+1) n2)) w.heap.size 0 0 (.slice none 0 0) (.slice none 0 0) (.slice none 0 0)∧OwnN .u64 44 (w4.setCell ⟨w.heap.size+1,2,none⟩ (.slice A2 (t+1) n2)) (w.heap.size+2) (.slice A2 (t+1) n2) ((wordsD K).take (t+1))∧Below w.heap.size w (w4.setCell ⟨w.heap.size+1,2,none⟩ (.slice A2 (t+1) n2))∧w.heap.size+2≤(w4.setCell ⟨w.heap.size+1,2,none⟩ (.slice A2 (t+1) n2)).heap.size):=LH ⟨hT5.set2 _,(hT6.apart (by omega)),by
      have e:(wordsD K).take (t+1)=(wordsD K).take t ++ [((K*256 ^ t+t:Nat):Int)]:=by
       rw[List.take_add_one]
       congr 1
       rw[wordsD_get K (by have:=HMW.out;omega)]
       rfl
      rw[e];exact own_kept2 ho' (grown_set _ _ _ _) (fun g e1 e2=>by
       cases e2
       have:=(World.ownsRow.lt ho' _ e1).1
       omega),hB6.setCell (p:=⟨w.heap.size+1,2,none⟩) (by show w.heap.size≤w.heap.size+1;omega) _,by rw[nblk_setCell];exact hz6⟩
     have HRun:=LH hrun;have ht2:t≤2:=by omega
     have ex:=wordsD_wrap HKK.out ht2;rw[ex] at HRun;obtain ⟨y0,y1,y2,y3,y4⟩:=hT5.cells;have y5:=hT5.frozen 2;clear ex hl0 hrun ho' hg hP1 hP0 hT5 hT6 hB6 hz6 hT3 hT4 ho hBr
     go_wp2_with (at_builtin;refine Lib.wpList_append_run _ rfl _ _ _ _ rfl _ _ rfl rfl _ _ HRun.out ?_)
     go_roundw
     case rel=>exact ⟨t+1,by omega,by go_num,A2,n2,HFin.out⟩
     case measure=>simp[intOf];omega
    ·obtain rfl:t=MW:=by omega
     have d64:decide ((t:Int)<(t:Int))=false:=decide_eq_false (by omega);have d65:¬(t:Int)<(t:Int):=by omega
     have hl0:(wordsD K).take t=wordsD K:=List.take_of_length_le (by rw[wordsD_len,HMW.out];exact Nat.le_refl _);rw[hl0] at ho;have HFin:=LH (And.intro hT3 (And.intro hT4 (And.intro ho (And.intro hBr hzr))));clear hl0 hT3 hT4 ho hBr
     go_wp2_with fail
     go_meet;exact ⟨⟨_,rfl⟩,_,_,HFin.out⟩
  case rest =>
   obtain ⟨⟨j,rfl⟩,AW,nW,hT3,hT4,hws,hBc,hzc⟩:=hcut;have HT3:=LH hT3;have HT4:=LH hT4;have HWS:=LH hws;have HB5:=LH hBc;have HZ5:=LH hzc;have HY0:=LH (HY.out.below hBc hBw);clear hT3 hT4 hws hBc hMW
   go_wp2_with fail
   go_loopw [0,12] (fun s0 i wr=>∃t:Nat,t≤N5∧i= .int .i64 t∧(∃A m n,s0= .slice A m n∧Bytes wr B s0 (kidsC (treeC d) t r).2)∧∃A n,TBox wr (w.heap.size+1) 1 0 (.slice AW MW nW) (.slice none 0 0) (.slice A t n)∧TBox wr w.heap.size 0 0 (.slice none 0 0) (.slice none 0 0) (.slice none 0 0)∧OwnN .u64 44 wr (w.heap.size+2) (.slice AW MW nW) (wordsD K)∧KRowN wr (w.heap.size+2) (.slice A t n) (kidsC (treeC d) t r).1∧Below w.heap.size w wr∧w.heap.size+2≤wr.heap.size) (fun _ i _=>N5 - (intOf i).toNat)
   case atStart=>exact ⟨0,by omega,rfl,⟨_,_,_,rfl,HY0.out⟩,none,0,HT3.out,HT4.out,HWS.out,KRow.nil _ _ _,HB5.out,HZ5.out⟩
   case round =>
    obtain ⟨t,ht,rfl,⟨A9,m9,n9,rfl,hy9⟩,A,n,hT3,hT4,hws,hkr,hBr,hzr⟩:=hrel;generalize wr=w3 at *
    by_cases hlt:t<N5
    ·have i1:(t:Int)<(N5:Int):=by omega
     have hCall:=HIH.out _ _ w3 B (by omega) hy9 (kidsC_bytes d t HR.out);have HCall:=LH hCall;have HT3:=LH hT3;have HT4:=LH hT4;have HWs:=LH hws;have HKr:=LH hkr;have HBr:=LH hBr;clear hCall hT3 hT4 hws hkr hBr hy9
     go_wp2_with fail
     refine HCall.out.mono ?_
     rintro e w4 ⟨x,y,rfl,hTx,hYy,hB4⟩;obtain ⟨k1,z1,A1,n1,c1,A2,n2,c2,A3,n3,c3,rfl⟩:=hTx.parts;obtain ⟨A10,n10,ey⟩:=hYy.form rfl;subst ey;obtain ⟨w5,hw5⟩:∃w5,w5=w4.alloc (.cells #[.int .i64 k1,.int .i64 z1,.slice A1 n1 c1,.slice A2 n2 c2,.slice A3 n3 c3] 34):=⟨_,rfl⟩;have hB45:Below w4.heap.size w4 w5:=by rw[hw5];exact (Below.refl _ _).alloc (Nat.le_refl _) _
     have hT13:TBox w5 w4.heap.size k1 z1 (.slice A1 n1 c1) (.slice A2 n2 c2) (.slice A3 n3 c3):=by rw[hw5];exact TBox.new _ _ _ _ _ _
     have hB35:Below w3.heap.size w3 w5:=hB4.trans (hB45.mono hB4.size);have hz35:=hB35.size;have hz34:=hB4.size;have hz45:=hB45.size;have hKr5:KRowN w5 (w.heap.size+2) (.slice A t n) (kidsC (treeC d) t r).1:=KRow.keep HKr.out hz35 (fun b _ hb=>hB35.block b hb)
     have hub:∀g,(Value.slice A t n).ownBlock=some g→w.heap.size+2≤g∧g<w3.heap.size:=fun g e=>by
      obtain ⟨xs,ho,-⟩:=HKr.out;exact World.ownsRow.lt ho g e
     have hTx5:TrP w5 (fun b=>w.heap.size+2≤b∧b<w5.heap.size∧(Value.slice A t n).ownBlock≠some b) (treeC d (kidsC (treeC d) t r).2).1 (.agg (cellsT k1 z1 (.slice A1 n1 c1) (.slice A2 n2 c2) (.slice A3 n3 c3))) :=
      TrP.mono (fun b hb=>⟨by omega,by omega,fun e=>by have:=(hub b e).2;omega⟩) _ _ (TrP.keep (fun b hb=>hB45.block b hb.2) _ _ hTx)
     obtain ⟨v',w6,hrun,hk6,hg6,hv6⟩:=append_node w5 (w.heap.size+2) 32 _ _ _ k1 z1 A1 A2 A3 n1 n2 n3 c1 c2 c3 hKr5 hTx5 (by rw[kidsC_len];omega) (by omega);have hks:(kidsC (treeC d) t r).1 ++ [(treeC d (kidsC (treeC d) t r).2).1]=(kidsC (treeC d) (t+1) r).1:=by rw[kidsC_snoc]
     have hrs:(treeC d (kidsC (treeC d) t r).2).2=(kidsC (treeC d) (t+1) r).2:=by rw[kidsC_snoc]
     rw[hks] at hk6;obtain ⟨A6,c6,rfl,-⟩:=hk6.form;rw[kidsC_len] at hk6 hrun hv6;have hg5:w5.grownBy w6 (Value.slice A t n).ownBlock:=grown_trans (World.grownBy_alloc w5 _ _) hg6;have hP1:(Value.slice A t n).ownBlock≠some (w.heap.size+1):=fun e=>by have:=(hub _ e).1;omega
     have hP0:(Value.slice A t n).ownBlock≠some w.heap.size:=fun e=>by have:=(hub _ e).1;omega
     have hT5:TBox w5 (w.heap.size+1) 1 0 (.slice AW MW nW) (.slice none 0 0) (.slice A t n):=HT3.out.on hB35;have hT6:=hT5.kept hg5 hP1;have hU6:TBox w6 w.heap.size 0 0 (.slice none 0 0) (.slice none 0 0) (.slice none 0 0):=(HT4.out.on hB35).kept hg5 hP0;have hz6:=hg5.size;have hB6:Below w.heap.size w w6:=((HBr.out.trans (hB35.mono (by omega))).grown hg5 (by omega) (fun k e=>by have:=(hub _ e).1;omega))
     have hW6:OwnN .u64 44 w6 (w.heap.size+2) (.slice AW MW nW) (wordsD K):=own_kept2 (own_on HWs.out hB35) hg5 (fun g e1 e2=>by
      obtain ⟨xs,ho,-⟩:=hKr5;exact own_type5 (own_on HWs.out hB35) ho (by decide) e1 e2)
     have hY6:Bytes w6 B (.slice A10 (treeC d (kidsC (treeC d) t r).2).2.length n10) (kidsC (treeC d) (t+1) r).2:=by
      rw[←hrs];have hbb:Below B w4 w6:=(hB45.mono (by omega)).grown hg5 (by omega) (fun k e=>by have:=(hub _ e).1;omega)
      exact hYy.below hbb (Nat.le_refl _)
     have hcs:Below w.heap.size w6 (w6.setCell ⟨w.heap.size+1,4,none⟩ (.slice A6 (t+1) c6)):=(Below.refl _ _).setCell (p:=⟨w.heap.size+1,4,none⟩) (by show w.heap.size≤w.heap.size+1;omega) _
     have HFin:Hid ((∃A m n,Value.slice A10 (treeC d (kidsC (treeC d) t r).2).2.length n10= .slice A m n∧Bytes (w6.setCell ⟨w.heap.size+1,4,none⟩ (.slice A6 (t+1) c6)) B (.slice A10 (treeC d (kidsC (treeC d) t r).2).2.length n10) (kidsC (treeC d) (t+1) r).2)∧∃A n,TBox (w6.setCell ⟨w.heap.size+1,4,none⟩ (.slice A6 (t+1) c6)) (w.heap.size+1) 1 0 (.slice AW MW nW) (.slice none 0 0) (.slice A (t+1) n)∧TBox (w6.setCell ⟨w.heap.size+1,4,none⟩ (.slice A6 (t+1) c6)) w.heap.size 0 0 (.slice none 0 0) (.slice none 0 0) (.slice none 0 0)∧OwnN .u64 44 (w6.setCell ⟨w.heap.size+1,4,none⟩ (.slice A6 (t+1) c6)) (w.heap.size+2) (.slice AW MW nW) (wordsD K)∧KRowN (w6.setCell ⟨w.heap.size+1,4,none⟩ (.slice A6 (t+1) c6)) (w.heap.size+2) (.slice A (t+1) n) (kidsC (treeC d) (t+1) r).1∧Below w.heap.size w (w6.setCell ⟨w.heap.size+1,4,none⟩ (.slice A6 (t+1) c6))∧w.heap.size+2≤(w6.setCell ⟨w.heap.size+1,4,none⟩ (.slice A6 (t+1) c6)).heap.size):=LH ⟨⟨_,_,_,rfl,hY6.below (hcs.mono hBw) (Nat.le_refl _)⟩,A6,c6,hT6.set4 _,hU6.apart (by omega),own_kept2 hW6 (grown_set _ _ _ _) (fun g e1 e2=>by
       cases e2
       have:=(World.ownsRow.lt hW6 _ e1).1
       omega),KRow.keep hk6 (by rw[nblk_setCell];exact Nat.le_refl _) (fun b hb1 _=>blk_setCell_other _ _ _ _ (by show b≠w.heap.size+1;omega)),hB6.trans hcs,by rw[nblk_setCell];omega⟩
     have HRun:=LH hrun;obtain ⟨x0,x1,x2,x3,x4⟩:=hT5.cells;obtain ⟨u0,u1,u2,u3,u4⟩:=hT13.cells;obtain ⟨y0,y1,y2,y3,y4⟩:=hT6.cells;have y5:=hT6.frozen 4;clear hcs hY6 hW6 hB6 hz6 hU6 hT6 hT5 hP0 hP1 hg5 hv6 hk6 hg6 hrun hrs hks hTx5 hub hKr5 hz45 hz34 hz35 hB35 hT13 hB45 hYy hTx hB4;subst hw5;rw[World.size_alloc] at HRun;generalize (treeC d (kidsC (treeC d) t r).2).2.length=m10 at *
     unfold cellsT
     go_wp2_with (at_builtin;refine Lib.wpList_append_run _ rfl _ _ _ _ rfl _ _ rfl rfl _ _ HRun.out ?_)
     go_roundw
     case rel=>exact ⟨t+1,by omega,by go_num,HFin.out⟩
     case measure=>simp[intOf];omega
    ·obtain rfl:t=N5:=by omega
     have i1:¬(t:Int)<(t:Int):=by omega
     have hkl:=kidsC_len (treeC d) t r;have hTP:TrP w3 (fun b=>w.heap.size+2≤b∧b<w3.heap.size) (.mk 1 0 (wordsD K) [] (kidsC (treeC d) t r).1) (.agg (cellsT 1 0 (.slice AW MW nW) (.slice none 0 0) (.slice A t n))):=by
      obtain ⟨A7,c7,e7,k1,k2,k3⟩:=hkr.kids;rw[e7];unfold TrP;have hwl:=wordsD_len K;exact ⟨_,_,A7,c7,rfl,⟨⟨by decide,by decide⟩,⟨by decide,by decide⟩,by omega,by simp,by rw[hkl];omega,wordsD_bd HKK.out,by simp⟩,(OwnN.numP hws).mono (fun g e=>World.ownsRow.lt hws g e),NumP.nil _ _ _,k1,k2,k3⟩
     obtain ⟨hE,hF⟩:=tree_end hBw hBr hT4 hTP hy9;unfold cellsT at hF;have HE:=LH hE;have HF:=LH hF;obtain ⟨x0,x1,x2,x3,x4⟩:=hT3.cells;obtain ⟨c0,c1,c2,c3,c4⟩:=hT4.cells;have f0:=hT4.frozen 0;have f1:=hT4.frozen 1;have f2:=hT4.frozen 2;have f3:=hT4.frozen 3;have f4:=hT4.frozen 4;clear hE hF hTP hkl hws hkr hT3 hT4 hBr hy9
     go_wp2_with fail
     clear x0 x1 x2 x3 x4 c0 c1 c2 c3 c4;obtain ⟨e0,e1,e2,e3,e4⟩:=HE.out.cells;refine bodyPost_ret (v:= .tuple #[.agg #[.int .i64 1,.int .i64 0,.slice AW MW nW,.slice none 0 0,.slice A t n],.slice A9 m9 n9]) ?_ rfl HF.out
     simp[results,Tryz.f14,go_sem,e0,e1,e2,e3,e4]
end Go.Proofs.YtmmlfnblodfjbaaGreatDoor
