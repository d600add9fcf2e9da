/- Layer 8: the law's Tree: what choices say. -/
import Derived.Test.YtmmlfnblodfjbaaGreatDoorQMem
import Derived.Test.YtmmlfnblodfjbaaGreatDoorQAr
import Derived.Test.YtmmlfnblodfjbaaGreatDoorQWord
import Derived.WalkMore
import Derived.Deep.CutBlock
import Derived.RangeFuncBox
import Derived.Deep.DeepCutAuto
import Derived.Laws.Bits64
set_option maxRecDepth 100000
namespace Go.Proofs.YtmmlfnblodfjbaaGreatDoor
open Go.RowKit Go.Deep
theorem Bytes.past1 {w:World} {B b off len cap:Nat} {l:List Int} (h:Bytes w B (.slice (some ⟨b,off,none⟩) len cap) l) (hlen:l.length=len) (hp:1≤len):Bytes w B (.slice (if cap=1 then some ⟨b,off,none⟩ else some ⟨b,off+1,none⟩) (len - 1) (cap - 1)) (l.drop 1):=by
 obtain ⟨A,c,e,hc,hm,hr⟩:=h;rw[hlen] at e hc;cases e
 have hl:(l.drop 1).length=len - 1:=by rw[List.length_drop,hlen]
 refine ⟨_,_,by rw[hl],by omega,by omega,fun h1=> ?_⟩
 rw[hl] at h1;obtain ⟨b',off',ea,hlt,hcell⟩:=hr (by omega);cases ea
 rw[if_neg (by omega)];refine ⟨b,off+1,rfl,hlt,fun j hj=> ?_⟩
 rw[hl] at hj;have:=hcell (1+j) (by omega);rw[Nat.add_assoc,this,List.getElem?_drop]
def TreeS (d:Nat):Prop :=
 ∀(c:List Int) (v:Value) (w:World) (B:Nat),B≤w.heap.size→Bytes w B v c→AllB c →
  Calls Tryz.prog 14 #[v,.int .i64 d] w fun e w'=>∃x y,e= .returned (.tuple #[x,y])∧TrP w' (fun b=>w.heap.size≤b∧b<w'.heap.size) (treeC d c).1 x∧Bytes w' B y (treeC d c).2∧Below w.heap.size w w'
theorem nil_P (w:World) (P:Nat→Prop):TrP w P Tr.nil (.agg (cellsT 0 0 (.slice none 0 0) (.slice none 0 0) (.slice none 0 0))):=by
 unfold Tr.nil TrP;exact ⟨_,_,none,0,rfl,⟨⟨by decide,by decide⟩,⟨by decide,by decide⟩,by simp,by simp,by simp,by simp,by simp⟩,NumP.nil _ _ _,NumP.nil _ _ _,by simp,by omega,fun h=>by simp at h⟩
theorem TBox.set5 {w:World} {g:Nat} {k z:Int} {vw vb vk:Value} (h:TBox w g k z vw vb vk) (k' z':Int) (a b c:Value):TBox (((((w.setCell ⟨g,0,none⟩ (.int .i64 k')).setCell ⟨g,1,none⟩ (.int .i64 z')).setCell ⟨g,2,none⟩ a).setCell ⟨g,3,none⟩ b).setCell ⟨g,4,none⟩ c) g k' z' a b c:=((((h.set0 k').set1 z').set2 a).set3 b).set4 c
theorem set5_other (w:World) (g:Nat) (a0 a1 a2 a3 a4:Value) {b:Nat} (h:b≠g):(((((w.setCell ⟨g,0,none⟩ a0).setCell ⟨g,1,none⟩ a1).setCell ⟨g,2,none⟩ a2).setCell ⟨g,3,none⟩ a3).setCell ⟨g,4,none⟩ a4).heap[b]? = w.heap[b]? := by
 rw[blk_setCell_other _ _ _ _ h,blk_setCell_other _ _ _ _ h,blk_setCell_other _ _ _ _ h,blk_setCell_other _ _ _ _ h,blk_setCell_other _ _ _ _ h]
theorem below_set5 {B:Nat} {a w:World} (h:Below B a w) {g:Nat} (hg:B≤g) (a0 a1 a2 a3 a4:Value):Below B a (((((w.setCell ⟨g,0,none⟩ a0).setCell ⟨g,1,none⟩ a1).setCell ⟨g,2,none⟩ a2).setCell ⟨g,3,none⟩ a3).setCell ⟨g,4,none⟩ a4) :=
 ((((h.setCell (p:=⟨g,0,none⟩) hg _).setCell (p:=⟨g,1,none⟩) hg _).setCell (p:=⟨g,2,none⟩) hg _).setCell (p:=⟨g,3,none⟩) hg _).setCell (p:=⟨g,4,none⟩) hg _
theorem tree_end {w X:World} {B:Nat} (hBw:B≤w.heap.size) {t:Tr} {k z k0 z0:Int} {vw vb vk w0 b0 n0 y:Value} {r:List Int} (hX:Below w.heap.size w X) (h0:TBox X w.heap.size k0 z0 w0 b0 n0) (ht:TrP X (fun b=>w.heap.size+2≤b∧b<X.heap.size) t (.agg (cellsT k z vw vb vk))) (hy:Bytes X B y r) :
  TBox (((((X.setCell ⟨w.heap.size,0,none⟩ (.int .i64 k)).setCell ⟨w.heap.size,1,none⟩ (.int .i64 z)).setCell ⟨w.heap.size,2,none⟩ vw).setCell ⟨w.heap.size,3,none⟩ vb).setCell ⟨w.heap.size,4,none⟩ vk) w.heap.size k z vw vb vk ∧
  ∃x y',Ending.returned (.tuple #[.agg (cellsT k z vw vb vk),y])=Ending.returned (.tuple #[x,y'])∧TrP (((((X.setCell ⟨w.heap.size,0,none⟩ (.int .i64 k)).setCell ⟨w.heap.size,1,none⟩ (.int .i64 z)).setCell ⟨w.heap.size,2,none⟩ vw).setCell ⟨w.heap.size,3,none⟩ vb).setCell ⟨w.heap.size,4,none⟩ vk) (fun b=>w.heap.size≤b∧b<(((((X.setCell ⟨w.heap.size,0,none⟩ (.int .i64 k)).setCell ⟨w.heap.size,1,none⟩ (.int .i64 z)).setCell ⟨w.heap.size,2,none⟩ vw).setCell ⟨w.heap.size,3,none⟩ vb).setCell ⟨w.heap.size,4,none⟩ vk).heap.size) t x ∧
   Bytes (((((X.setCell ⟨w.heap.size,0,none⟩ (.int .i64 k)).setCell ⟨w.heap.size,1,none⟩ (.int .i64 z)).setCell ⟨w.heap.size,2,none⟩ vw).setCell ⟨w.heap.size,3,none⟩ vb).setCell ⟨w.heap.size,4,none⟩ vk) B y' r ∧
   Below w.heap.size w (((((X.setCell ⟨w.heap.size,0,none⟩ (.int .i64 k)).setCell ⟨w.heap.size,1,none⟩ (.int .i64 z)).setCell ⟨w.heap.size,2,none⟩ vw).setCell ⟨w.heap.size,3,none⟩ vb).setCell ⟨w.heap.size,4,none⟩ vk):=by
 have hb:=below_set5 hX (Nat.le_refl _) (.int .i64 k) (.int .i64 z) vw vb vk;refine ⟨h0.set5 k z vw vb vk,_,_,rfl,?_,hy.below (below_set5 (Below.refl B X) hBw _ _ _ _ _) (Nat.le_refl _),hb⟩;refine TrP.mono (fun b h=>⟨by omega,?_⟩) _ _ (TrP.keep (fun b h=>set5_other X w.heap.size _ _ _ _ _ (by omega)) _ _ ht)
 rw[nblk_setCell,nblk_setCell,nblk_setCell,nblk_setCell,nblk_setCell];exact h.2
set_option maxHeartbeats 1000000 in
theorem tree_none (d:Nat) (c:List Int) (v:Value) (w:World) (B:Nat) (hBw:B≤w.heap.size) (h:Bytes w B v c) (h0:c=[]∨d=0) :
  Calls Tryz.prog 14 #[v,.int .i64 d] w fun e w'=>∃x y,e= .returned (.tuple #[x,y])∧TrP w' (fun b=>w.heap.size≤b∧b<w'.heap.size) (treeC d c).1 x∧Bytes w' B y (treeC d c).2∧Below w.heap.size w w':=by
 have ht:treeC d c=(Tr.nil,c):=by
  cases d with
  | zero=>rfl
  | succ d =>
   rcases h0 with rfl | e
   ·rfl
   ·omega
 rw[ht];dsimp only;obtain ⟨W1,hW1⟩:∃W1,W1=w.alloc (.cells (cellsT 0 0 (.slice none 0 0) (.slice none 0 0) (.slice none 0 0)) 34):=⟨_,rfl⟩;have hB:Below w.heap.size w W1:=by rw[hW1];exact (Below.refl _ _).alloc (Nat.le_refl _) _
 have hT:TBox W1 w.heap.size 0 0 (.slice none 0 0) (.slice none 0 0) (.slice none 0 0):=by rw[hW1];exact TBox.new _ _ _ _ _ _
 obtain ⟨hE,hF⟩:=tree_end hBw (t:=Tr.nil) (k:=0) (z:=0) (vw:= .slice none 0 0) (vb:= .slice none 0 0) (vk:= .slice none 0 0) hB hT (nil_P _ _) (h.below hB hBw);have HE:=LH hE;have HF:=LH hF;obtain ⟨A,n,rfl⟩:=h.form rfl;have hn0:c=[]↔c.length=0:=List.length_eq_zero_iff.symm;obtain ⟨m,hm⟩:∃m,m=c.length:=⟨_,rfl⟩;rw[←hm] at HF hn0 ⊢;rw[hn0] at h0;clear hm h ht hE hF hn0 hB;unfold cellsT at hW1 HF;obtain ⟨d0,d1,d2,d3,d4⟩:=hT.cells;have f0:=hT.frozen 0;have f1:=hT.frozen 1;have f2:=hT.frozen 2;have f3:=hT.frozen 3;have f4:=hT.frozen 4;clear hT
 by_cases hl:m=0
 ·subst hl;clear h0;go_enter Tryz.func14,Tryz.ntmps14;go_upto_region 1 with fail
  rw[←hW1];clear hW1
  go_wp2_with fail
  obtain ⟨e0,e1,e2,e3,e4⟩:=HE.out.cells;refine bodyPost_ret (v:= .tuple #[.agg #[.int .i64 0,.int .i64 0,.slice none 0 0,.slice none 0 0,.slice none 0 0],.slice A 0 n]) ?_ rfl HF.out
  simp[results,Tryz.f14,go_sem,e0,e1,e2,e3,e4]
 ·obtain rfl:d=0:=h0.resolve_left hl;have q0:((m:Int) == 0)=false:=by rw[beq_eq_false_iff_ne];omega
  go_enter Tryz.func14,Tryz.ntmps14;go_upto_region 1 with fail
  rw[←hW1];clear hW1
  go_wp2_with fail
  obtain ⟨e0,e1,e2,e3,e4⟩:=HE.out.cells;refine bodyPost_ret (v:= .tuple #[.agg #[.int .i64 0,.int .i64 0,.slice none 0 0,.slice none 0 0,.slice none 0 0],.slice A m n]) ?_ rfl HF.out
  simp[results,Tryz.f14,go_sem,e0,e1,e2,e3,e4]
theorem bytesC_len (k:Nat):(bytesC k).length=3*(k / 8 % 5)+k % 2:=by simp[bytesC]
theorem bytesC_get (k:Nat) {t:Nat} (h:t<3*(k / 8 % 5)+k % 2):(bytesC k)[t]? = some (((k+t) % 256:Nat):Int):=by
 unfold bytesC;rw[List.getElem?_map,List.getElem?_range h]
 rfl
theorem append_b1 (w:World) (base ty:Nat) (v:Value) (xs:List Int) (x:Int) (hown:OwnN .u8 5 w base v xs) (hk:xs.length≤1000000000000) (hbase:base≤w.heap.size) :
  ∃A n v' w',v'= .slice A (xs.length+1) n∧(Builtin.append_ #[24,24] ty #[v,.slice (some ⟨w.heap.size,0,none⟩) 1 1]).run Tryz.prog (w.alloc (.cells #[.int .u8 x] 5))= .ok v' w'∧OwnN .u8 5 w' base v' (xs ++ [x])∧w.grownBy w' v.ownBlock:=by
 obtain ⟨i0,hi,hz0,hz1,hz2⟩:=info_parts Tryz.info5;obtain ⟨v',w',hrun,ho,hg,_,hl⟩:=run_append_own_at (P:=Tryz.prog) (w:=w.alloc (.cells #[.int .u8 x] 5)) base 24 ty 5 i0 _ 1 1 Tryz.underlying24 hi hz0 hz1 hz2 rfl (by decide) v xs.length (xs.map (Value.int .u8)) (World.ownsRow.alloc hown _) ⟨w.heap.size,0,none⟩ 1 1 [.int .u8 x] rfl (cell_one_new _ _ _) (fun u hu=>by simp at hu;subst hu;rfl) (by unfold maxLen;omega) (by omega) (by simp;omega)
 obtain ⟨g',c',rfl⟩:=ownsRow_succ ho;refine ⟨_,_,_,w',rfl,hrun,?_,grown_trans (World.grownBy_alloc w _ _) hg⟩;unfold OwnN;rw[List.length_append,List.map_append];exact ho
theorem append_u1 (w:World) (base ty:Nat) (v:Value) (xs:List Int) (x:Int) (hown:OwnN .u64 44 w base v xs) (hk:xs.length≤1000000000000) (hbase:base≤w.heap.size) :
  ∃A n v' w',v'= .slice A (xs.length+1) n∧(Builtin.append_ #[31,31] ty #[v,.slice (some ⟨w.heap.size,0,none⟩) 1 1]).run Tryz.prog (w.alloc (.cells #[.int .u64 x] 44))= .ok v' w'∧OwnN .u64 44 w' base v' (xs ++ [x])∧w.grownBy w' v.ownBlock:=by
 obtain ⟨i0,hi,hz0,hz1,hz2⟩:=info_parts Tryz.info44;obtain ⟨v',w',hrun,ho,hg,_,hl⟩:=run_append_own_at (P:=Tryz.prog) (w:=w.alloc (.cells #[.int .u64 x] 44)) base 31 ty 44 i0 _ 1 8 Tryz.underlying31 hi hz0 hz1 hz2 rfl (by decide) v xs.length (xs.map (Value.int .u64)) (World.ownsRow.alloc hown _) ⟨w.heap.size,0,none⟩ 1 1 [.int .u64 x] rfl (cell_one_new _ _ _) (fun u hu=>by simp at hu;subst hu;rfl) (by unfold maxLen;omega) (by omega) (by simp;omega)
 obtain ⟨g',c',rfl⟩:=ownsRow_succ ho;refine ⟨_,_,_,w',rfl,hrun,?_,grown_trans (World.grownBy_alloc w _ _) hg⟩;unfold OwnN;rw[List.length_append,List.map_append];exact ho
theorem wordsC_len (k:Nat):(wordsC k).length=k / 8 % 5:=by simp[wordsC]
theorem wordsC_get (k:Nat) {t:Nat} (h:t<k / 8 % 5):(wordsC k)[t]? = some (((k*0x123456789abcdef+t) % 2 ^ 64:Nat):Int):=by
 unfold wordsC;rw[List.getElem?_map,List.getElem?_range h]
 rfl
set_option maxHeartbeats 1000000 in
theorem tree_words (d:Nat) (hd:d≤1000) (K:Nat) (hK:K≤255) (r:List Int) (v:Value) (w:World) (B:Nat) (hBw:B≤w.heap.size) (h:Bytes w B v ((K:Int) :: r)) (hr:AllB r) (hq:(K:Int) % 8=3) :
  Calls Tryz.prog 14 #[v,.int .i64 ((d:Int)+1)] w fun e w'=>∃x y,e= .returned (.tuple #[x,y])∧TrP w' (fun b=>w.heap.size≤b∧b<w'.heap.size) (treeC (d+1) ((K:Int) :: r)).1 x∧Bytes w' B y (treeC (d+1) ((K:Int) :: r)).2∧Below w.heap.size w w':=by
 obtain ⟨W1,hW1⟩:∃W1,W1=w.alloc (.cells (cellsT 0 0 (.slice none 0 0) (.slice none 0 0) (.slice none 0 0)) 34):=⟨_,rfl⟩;have hB:Below w.heap.size w W1:=by rw[hW1];exact (Below.refl _ _).alloc (Nat.le_refl _) _
 have hT:TBox W1 w.heap.size 0 0 (.slice none 0 0) (.slice none 0 0) (.slice none 0 0):=by rw[hW1];exact TBox.new _ _ _ _ _ _
 obtain ⟨A,n,e0,hcn,hnm,hcell⟩:=h;obtain ⟨b,off,rfl,hbB,hcell⟩:=hcell (by simp);have x0:=(hB.cell (p:=⟨b,off,none⟩) (by show b<w.heap.size;omega)).trans (hcell 0 (by simp))
 simp only[List.getElem?_cons_zero,Option.getD_some] at x0;have h':Bytes w B (.slice (some ⟨b,off,none⟩) (r.length+1) n) ((K:Int) :: r):=⟨_,n,rfl,hcn,hnm,fun _=>⟨b,off,rfl,hbB,hcell⟩⟩
 have hP:=h'.past1 (by simp) (by omega);rw[List.drop_one,List.tail_cons,Nat.add_sub_cancel] at hP;rw[List.length_cons] at e0 hcn;subst e0;have HP:=LH hP;have HB:=LH hB;have HT:=LH hT;have HR:=LH hr;obtain ⟨T,hTt⟩:∃T,T=treeC (d+1) ((K:Int) :: r):=⟨_,rfl⟩;have HTr:Hid (T=if K % 8=0 then (Tr.nil,r)
   else if K % 8=1∨K % 8=2 then (.mk 2 2 [] (bytesC K) [],r)
   else if K % 8=3 then (.mk 2 5 (wordsC K) [] [],r)
   else if K % 8=7 then (.mk 2 6 [] [] (kidsC (treeC d) (K / 8 % 5) r).1,(kidsC (treeC d) (K / 8 % 5) r).2)
   else (.mk 1 0 (wordsD K) [] (kidsC (treeC d) (K / 8 % 5) r).1,(kidsC (treeC d) (K / 8 % 5) r).2)):=LH (by rw[hTt,treeC_eq,Int.toNat_natCast])
 rw[←hTt];have q0:(((r.length+1:Nat):Int) == 0)=false:=by rw[beq_eq_false_iff_ne];omega
 have q1:(((d:Int)+1) == 0)=false:=by rw[beq_eq_false_iff_ne];omega
 obtain ⟨m,hm⟩:∃m,m=r.length:=⟨_,rfl⟩;rw[←hm] at HP hcn q0 ⊢;have hz1:W1.heap.size=w.heap.size+1:=by rw[hW1];simp
 clear hP hT hB hcell h' hr hm hTt;unfold cellsT at hW1;have i1:(0:Int)<((m+1:Nat):Int):=by omega
 have i2:(1:Int)≤((m+1:Nat):Int):=by omega
 go_enter Tryz.func14,Tryz.ntmps14;go_upto_region 1 with fail
 rw[←hW1];clear hW1;go_upto_region 4 with fail
 go_cut [0] (fun s0 wx=>(∃A' n',s0= .slice A' m n'∧Bytes w B s0 r)∧W1=wx)
 case first =>
  by_cases hn:n=1
  ·subst hn;obtain rfl:m=0:=by omega
   rw[if_pos rfl] at HP
   go_wp2_with fail
   go_meet;exact ⟨⟨_,_,rfl,HP.out⟩,rfl⟩
  ·rw[if_neg hn] at HP
   go_wp2_with fail
   go_meet;exact ⟨⟨_,_,rfl,HP.out⟩,rfl⟩
 case rest =>
  obtain ⟨⟨A',n',rfl,hY⟩,rfl⟩:=hcut;have HY:=LH hY;clear hY HP x0 hcell hnm hbB q0 hcn i1 i2;go_upto_region 22 with fail
  obtain ⟨W2,hW2⟩:∃W2,W2=W1.alloc (.cells (cellsT 0 0 (.slice none 0 0) (.slice none 0 0) (.slice none 0 0)) 34):=⟨_,rfl⟩;have hB2:Below w.heap.size w W2:=by rw[hW2];exact HB.out.alloc (by omega) _
  have hT2:TBox W2 (w.heap.size+1) 0 0 (.slice none 0 0) (.slice none 0 0) (.slice none 0 0):=by rw[hW2,←hz1];exact TBox.new _ _ _ _ _ _
  have hT1:TBox W2 w.heap.size 0 0 (.slice none 0 0) (.slice none 0 0) (.slice none 0 0):=by rw[hW2];exact HT.out.on ((Below.refl _ _).alloc (Nat.le_refl _) _)
  have hz2:W2.heap.size=w.heap.size+2:=by rw[hW2];simp;omega
  have HB2:=LH hB2;have HT2:=LH hT2;have HT1:=LH hT1;have hW2':=hW2;unfold cellsT at hW2';rw[←hW2'];clear hW2' hW2 hB2 hT2 hT1 HT HB;clear hz1;obtain ⟨N5,hN5⟩:∃N5:Nat,(K:Int) / 8 % 5=N5:=⟨K / 8 % 5,by omega⟩
  have HN5:Hid (N5=K / 8 % 5):=LH (by omega);rw[hN5];clear hN5;have HTe:T=(.mk 2 5 (wordsC K) [] [],r):=by rw[HTr.out,if_neg (by omega),if_neg (by omega),if_pos (by omega)]
  subst HTe;have hz0:(w.heap.size+1)≠w.heap.size:=by omega
  have h3:=(HT2.out.set0 2).set1 5;have h4:TBox ((W2.setCell ⟨w.heap.size+1,0,none⟩ (.int .i64 2)).setCell ⟨w.heap.size+1,1,none⟩ (.int .i64 5)) w.heap.size 0 0 (.slice none 0 0) (.slice none 0 0) (.slice none 0 0):=((blk_setCell_other _ _ _ _ hz0.symm).trans (blk_setCell_other _ _ _ _ hz0.symm)).trans HT1.out;have h5:Below w.heap.size w ((W2.setCell ⟨w.heap.size+1,0,none⟩ (.int .i64 2)).setCell ⟨w.heap.size+1,1,none⟩ (.int .i64 5)):=(HB2.out.setCell (p:=⟨w.heap.size+1,0,none⟩) (by show w.heap.size≤w.heap.size+1;omega) _).setCell (p:=⟨w.heap.size+1,1,none⟩) (by show w.heap.size≤w.heap.size+1;omega) _
  have h6:((W2.setCell ⟨w.heap.size+1,0,none⟩ (.int .i64 2)).setCell ⟨w.heap.size+1,1,none⟩ (.int .i64 5)).heap.size=w.heap.size+2:=by rw[nblk_setCell,nblk_setCell];exact hz2
  have f0:=HT2.out.frozen 0;have f1:=HT2.out.frozen 1;obtain ⟨d0,d1,d2,d3,d4⟩:=HT2.out.cells;have hM2:N5≤4:=by have:=HN5.out;omega
  rw[hq];clear hq;go_upto_region 35 with fail
  generalize (W2.setCell ⟨w.heap.size+1,0,none⟩ (.int .i64 2)).setCell ⟨w.heap.size+1,1,none⟩ (.int .i64 5)=W3 at *
  clear f0 f1 d0 d1 d2 d3 d4;have HT3:=LH h3;have HT4:=LH h4;have HB5:=LH h5;clear h3 h4 h5
  go_wp2_with fail
  go_loopw [10] (fun i wr=>∃t:Nat,t≤N5∧i= .int .i64 t∧∃A n,TBox wr (w.heap.size+1) 2 5 (.slice A t n) (.slice none 0 0) (.slice none 0 0)∧TBox wr w.heap.size 0 0 (.slice none 0 0) (.slice none 0 0) (.slice none 0 0)∧OwnN .u64 44 wr (w.heap.size+2) (.slice A t n) ((wordsC K).take t)∧Below w.heap.size w wr∧w.heap.size+2≤wr.heap.size) (fun i _=>N5 - (intOf i).toNat)
  case atStart=>exact ⟨0,by omega,rfl,none,0,HT3.out,HT4.out,World.ownsRow_nil _ _ _ _,HB5.out,by omega⟩
  case round =>
   obtain ⟨t,ht,rfl,A,n,hT3,hT4,ho,hBr,hzr⟩:=hrel;generalize wr=w3 at *
   by_cases hlt:t<N5
   ·have i1:(t:Int)<(N5:Int):=by omega
    obtain ⟨x0,x1,x2,x3,x4⟩:=hT3.cells;have ht13:t≤4:=by omega
    have hl0:((wordsC K).take t).length=t:=by rw[List.length_take,wordsC_len];have:=HN5.out;omega
    obtain ⟨A2,n2,v',w4,hv',hrun,ho',hg⟩:=append_u1 w3 (w.heap.size+2) 31 _ _ (((K*0x123456789abcdef+t) % 2 ^ 64:Nat):Int) ho (by rw[hl0];omega) hzr;rw[hl0] at hv';subst hv';have hP1:(Value.slice A t n).ownBlock≠some (w.heap.size+1):=fun e=>by
     have:=(World.ownsRow.lt ho _ e).1
     omega
    have hP0:(Value.slice A t n).ownBlock≠some w.heap.size:=fun e=>by
     have:=(World.ownsRow.lt ho _ e).1
     omega
    have hT5:=hT3.kept hg hP1;have hT6:=hT4.kept hg hP0;have hB6:=hBr.grown hg (by omega) (fun k e=>by have:=(World.ownsRow.lt ho _ e).1;omega)
    have hz6:w.heap.size+2≤w4.heap.size:=by have:=hg.size;omega
    have HFin:Hid (TBox (w4.setCell ⟨w.heap.size+1,2,none⟩ (.slice A2 (t+1) n2)) (w.heap.size+1) 2 5 (.slice A2 (t+1) n2) (.slice none 0 0) (.slice none 0 0)∧TBox (w4.setCell ⟨w.heap.size+1,2,none⟩ (.slice A2 (t+1) n2)) w.heap.size 0 0 (.slice none 0 0) (.slice none 0 0) (.slice none 0 0)∧OwnN .u64 44 (w4.setCell ⟨w.heap.size+1,2,none⟩ (.slice A2 (t+1) n2)) (w.heap.size+2) (.slice A2 (t+1) n2) ((wordsC K).take (t+1))∧Below w.heap.size w (w4.setCell ⟨w.heap.size+1,2,none⟩ (.slice A2 (t+1) n2))∧w.heap.size+2≤(w4.setCell ⟨w.heap.size+1,2,none⟩ (.slice A2 (t+1) n2)).heap.size):=LH ⟨hT5.set2 _,(hT6.apart (by omega)),by
     have e:(wordsC K).take (t+1)=(wordsC K).take t ++ [(((K*0x123456789abcdef+t) % 2 ^ 64:Nat):Int)]:=by
      rw[List.take_add_one]
      congr 1
      rw[wordsC_get K (by have:=HN5.out;omega)]
      rfl
     rw[e];exact own_kept2 ho' (grown_set _ _ _ _) (fun g e1 e2=>by
      cases e2
      have:=(World.ownsRow.lt ho' _ e1).1
      omega),hB6.setCell (p:=⟨w.heap.size+1,2,none⟩) (by show w.heap.size≤w.heap.size+1;omega) _,by rw[nblk_setCell];exact hz6⟩
    have HRun:=LH hrun;obtain ⟨y0,y1,y2,y3,y4⟩:=hT5.cells;have y5:=hT5.frozen 2;have ex:(((K*0x123456789abcdef+t) % 2 ^ 64:Nat):Int)=IntKind.u64.wrap (IntKind.u64.wrap ((K:Int)*81985529216486895)+t):=by rw[IntKind.wrap_u64,IntKind.wrap_u64];omega
    rw[ex] at HRun;clear hl0 hrun ho' hg hP1 hP0 hT5 hT6 hB6 hz6 hT3 hT4 ho hBr
    go_wp2_with (at_builtin;refine Lib.wpList_append_run _ rfl _ _ _ _ rfl _ _ rfl rfl _ _ HRun.out ?_)
    go_roundw
    case rel=>exact ⟨t+1,by omega,by go_num,A2,n2,HFin.out⟩
    case measure=>simp[intOf];omega
   ·obtain rfl:t=N5:=by omega
    have i1:¬(t:Int)<(t:Int):=by omega
    have hl0:(wordsC K).take t=wordsC K:=List.take_of_length_le (by rw[wordsC_len,HN5.out];exact Nat.le_refl _);rw[hl0] at ho;have hlen:t=(wordsC K).length:=by rw[wordsC_len,HN5.out]
    have hTP:TrP w3 (fun b=>w.heap.size+2≤b∧b<w3.heap.size) (.mk 2 5 (wordsC K) [] []) (.agg (cellsT 2 5 (.slice A t n) (.slice none 0 0) (.slice none 0 0))):=by
     unfold TrP;refine ⟨_,_,none,0,rfl,⟨⟨by decide,by decide⟩,⟨by decide,by decide⟩,by omega,by simp,by simp,fun x hx=> ?_,by simp⟩,(OwnN.numP ho).mono (fun g e=>World.ownsRow.lt ho g e),NumP.nil _ _ _,by simp,by omega,fun h=>by simp at h⟩
     obtain ⟨i,_,rfl⟩:=List.mem_map.1 hx
     omega
    obtain ⟨hE,hF⟩:=tree_end hBw hBr hT4 hTP (HY.out.below hBr hBw);unfold cellsT at hF;have HE:=LH hE;have HF:=LH hF;obtain ⟨x0,x1,x2,x3,x4⟩:=hT3.cells;obtain ⟨c0,c1,c2,c3,c4⟩:=hT4.cells;have f0:=hT4.frozen 0;have f1:=hT4.frozen 1;have f2:=hT4.frozen 2;have f3:=hT4.frozen 3;have f4:=hT4.frozen 4;clear hE hF hTP hlen hl0 ho hT3 hT4 hBr
    go_wp2_with fail
    clear x0 x1 x2 x3 x4 c0 c1 c2 c3 c4;obtain ⟨e0,e1,e2,e3,e4⟩:=HE.out.cells;refine bodyPost_ret (v:= .tuple #[.agg #[.int .i64 2,.int .i64 5,.slice A t n,.slice none 0 0,.slice none 0 0],.slice A' m n']) ?_ rfl HF.out
    simp[results,Tryz.f14,go_sem,e0,e1,e2,e3,e4]
set_option maxHeartbeats 1000000 in
theorem tree_null (d:Nat) (hd:d≤1000) (K:Nat) (hK:K≤255) (r:List Int) (v:Value) (w:World) (B:Nat) (hBw:B≤w.heap.size) (h:Bytes w B v ((K:Int) :: r)) (hr:AllB r) (hq:(K:Int) % 8=0) :
  Calls Tryz.prog 14 #[v,.int .i64 ((d:Int)+1)] w fun e w'=>∃x y,e= .returned (.tuple #[x,y])∧TrP w' (fun b=>w.heap.size≤b∧b<w'.heap.size) (treeC (d+1) ((K:Int) :: r)).1 x∧Bytes w' B y (treeC (d+1) ((K:Int) :: r)).2∧Below w.heap.size w w':=by
 obtain ⟨W1,hW1⟩:∃W1,W1=w.alloc (.cells (cellsT 0 0 (.slice none 0 0) (.slice none 0 0) (.slice none 0 0)) 34):=⟨_,rfl⟩;have hB:Below w.heap.size w W1:=by rw[hW1];exact (Below.refl _ _).alloc (Nat.le_refl _) _
 have hT:TBox W1 w.heap.size 0 0 (.slice none 0 0) (.slice none 0 0) (.slice none 0 0):=by rw[hW1];exact TBox.new _ _ _ _ _ _
 obtain ⟨A,n,e0,hcn,hnm,hcell⟩:=h;obtain ⟨b,off,rfl,hbB,hcell⟩:=hcell (by simp);have x0:=(hB.cell (p:=⟨b,off,none⟩) (by show b<w.heap.size;omega)).trans (hcell 0 (by simp))
 simp only[List.getElem?_cons_zero,Option.getD_some] at x0;have h':Bytes w B (.slice (some ⟨b,off,none⟩) (r.length+1) n) ((K:Int) :: r):=⟨_,n,rfl,hcn,hnm,fun _=>⟨b,off,rfl,hbB,hcell⟩⟩
 have hP:=h'.past1 (by simp) (by omega);rw[List.drop_one,List.tail_cons,Nat.add_sub_cancel] at hP;rw[List.length_cons] at e0 hcn;subst e0;have HP:=LH hP;have HB:=LH hB;have HT:=LH hT;have HR:=LH hr;obtain ⟨T,hTt⟩:∃T,T=treeC (d+1) ((K:Int) :: r):=⟨_,rfl⟩;have HTr:Hid (T=if K % 8=0 then (Tr.nil,r)
   else if K % 8=1∨K % 8=2 then (.mk 2 2 [] (bytesC K) [],r)
   else if K % 8=3 then (.mk 2 5 (wordsC K) [] [],r)
   else if K % 8=7 then (.mk 2 6 [] [] (kidsC (treeC d) (K / 8 % 5) r).1,(kidsC (treeC d) (K / 8 % 5) r).2)
   else (.mk 1 0 (wordsD K) [] (kidsC (treeC d) (K / 8 % 5) r).1,(kidsC (treeC d) (K / 8 % 5) r).2)):=LH (by rw[hTt,treeC_eq,Int.toNat_natCast])
 rw[←hTt];have q0:(((r.length+1:Nat):Int) == 0)=false:=by rw[beq_eq_false_iff_ne];omega
 have q1:(((d:Int)+1) == 0)=false:=by rw[beq_eq_false_iff_ne];omega
 obtain ⟨m,hm⟩:∃m,m=r.length:=⟨_,rfl⟩;rw[←hm] at HP hcn q0 ⊢;have hz1:W1.heap.size=w.heap.size+1:=by rw[hW1];simp
 clear hP hT hB hcell h' hr hm hTt;unfold cellsT at hW1;have i1:(0:Int)<((m+1:Nat):Int):=by omega
 have i2:(1:Int)≤((m+1:Nat):Int):=by omega
 go_enter Tryz.func14,Tryz.ntmps14;go_upto_region 1 with fail
 rw[←hW1];clear hW1;go_upto_region 4 with fail
 go_cut [0] (fun s0 wx=>(∃A' n',s0= .slice A' m n'∧Bytes w B s0 r)∧W1=wx)
 case first =>
  by_cases hn:n=1
  ·subst hn;obtain rfl:m=0:=by omega
   rw[if_pos rfl] at HP
   go_wp2_with fail
   go_meet;exact ⟨⟨_,_,rfl,HP.out⟩,rfl⟩
  ·rw[if_neg hn] at HP
   go_wp2_with fail
   go_meet;exact ⟨⟨_,_,rfl,HP.out⟩,rfl⟩
 case rest =>
  obtain ⟨⟨A',n',rfl,hY⟩,rfl⟩:=hcut;have HY:=LH hY;clear hY HP x0 hcell hnm hbB q0 hcn i1 i2;go_upto_region 22 with fail
  obtain ⟨W2,hW2⟩:∃W2,W2=W1.alloc (.cells (cellsT 0 0 (.slice none 0 0) (.slice none 0 0) (.slice none 0 0)) 34):=⟨_,rfl⟩;have hB2:Below w.heap.size w W2:=by rw[hW2];exact HB.out.alloc (by omega) _
  have hT2:TBox W2 (w.heap.size+1) 0 0 (.slice none 0 0) (.slice none 0 0) (.slice none 0 0):=by rw[hW2,←hz1];exact TBox.new _ _ _ _ _ _
  have hT1:TBox W2 w.heap.size 0 0 (.slice none 0 0) (.slice none 0 0) (.slice none 0 0):=by rw[hW2];exact HT.out.on ((Below.refl _ _).alloc (Nat.le_refl _) _)
  have hz2:W2.heap.size=w.heap.size+2:=by rw[hW2];simp;omega
  have HB2:=LH hB2;have HT2:=LH hT2;have HT1:=LH hT1;have hW2':=hW2;unfold cellsT at hW2';rw[←hW2'];clear hW2' hW2 hB2 hT2 hT1 HT HB;clear hz1;obtain ⟨N5,hN5⟩:∃N5:Nat,(K:Int) / 8 % 5=N5:=⟨K / 8 % 5,by omega⟩
  have HN5:Hid (N5=K / 8 % 5):=LH (by omega);rw[hN5];clear hN5;have HTe:T=(Tr.nil,r):=by rw[HTr.out,if_pos (by omega)]
  subst HTe;rw[hq];clear hq;obtain ⟨hE,hF⟩:=tree_end hBw (t:=Tr.nil) HB2.out HT1.out (nil_P _ _) (HY.out.below HB2.out hBw);unfold cellsT at hF;have HE:=LH hE;have HF:=LH hF;clear hE hF;obtain ⟨d0,d1,d2,d3,d4⟩:=HT2.out.cells;obtain ⟨c0,c1,c2,c3,c4⟩:=HT1.out.cells;have f0:=HT1.out.frozen 0;have f1:=HT1.out.frozen 1;have f2:=HT1.out.frozen 2;have f3:=HT1.out.frozen 3;have f4:=HT1.out.frozen 4
  go_wp2_with fail
  clear d0 d1 d2 d3 d4 c0 c1 c2 c3 c4;obtain ⟨e0,e1,e2,e3,e4⟩:=HE.out.cells;refine bodyPost_ret (v:= .tuple #[.agg #[.int .i64 0,.int .i64 0,.slice none 0 0,.slice none 0 0,.slice none 0 0],.slice A' m n']) ?_ rfl HF.out
  simp[results,Tryz.f14,go_sem,e0,e1,e2,e3,e4]
set_option maxHeartbeats 1000000 in
theorem tree_bytes (d:Nat) (hd:d≤1000) (K:Nat) (hK:K≤255) (r:List Int) (v:Value) (w:World) (B:Nat) (hBw:B≤w.heap.size) (h:Bytes w B v ((K:Int) :: r)) (hr:AllB r) (hq:(K:Int) % 8=1∨(K:Int) % 8=2) :
  Calls Tryz.prog 14 #[v,.int .i64 ((d:Int)+1)] w fun e w'=>∃x y,e= .returned (.tuple #[x,y])∧TrP w' (fun b=>w.heap.size≤b∧b<w'.heap.size) (treeC (d+1) ((K:Int) :: r)).1 x∧Bytes w' B y (treeC (d+1) ((K:Int) :: r)).2∧Below w.heap.size w w':=by
 obtain ⟨W1,hW1⟩:∃W1,W1=w.alloc (.cells (cellsT 0 0 (.slice none 0 0) (.slice none 0 0) (.slice none 0 0)) 34):=⟨_,rfl⟩;have hB:Below w.heap.size w W1:=by rw[hW1];exact (Below.refl _ _).alloc (Nat.le_refl _) _
 have hT:TBox W1 w.heap.size 0 0 (.slice none 0 0) (.slice none 0 0) (.slice none 0 0):=by rw[hW1];exact TBox.new _ _ _ _ _ _
 obtain ⟨A,n,e0,hcn,hnm,hcell⟩:=h;obtain ⟨b,off,rfl,hbB,hcell⟩:=hcell (by simp);have x0:=(hB.cell (p:=⟨b,off,none⟩) (by show b<w.heap.size;omega)).trans (hcell 0 (by simp))
 simp only[List.getElem?_cons_zero,Option.getD_some] at x0;have h':Bytes w B (.slice (some ⟨b,off,none⟩) (r.length+1) n) ((K:Int) :: r):=⟨_,n,rfl,hcn,hnm,fun _=>⟨b,off,rfl,hbB,hcell⟩⟩
 have hP:=h'.past1 (by simp) (by omega);rw[List.drop_one,List.tail_cons,Nat.add_sub_cancel] at hP;rw[List.length_cons] at e0 hcn;subst e0;have HP:=LH hP;have HB:=LH hB;have HT:=LH hT;have HR:=LH hr;obtain ⟨T,hTt⟩:∃T,T=treeC (d+1) ((K:Int) :: r):=⟨_,rfl⟩;have HTr:Hid (T=if K % 8=0 then (Tr.nil,r)
   else if K % 8=1∨K % 8=2 then (.mk 2 2 [] (bytesC K) [],r)
   else if K % 8=3 then (.mk 2 5 (wordsC K) [] [],r)
   else if K % 8=7 then (.mk 2 6 [] [] (kidsC (treeC d) (K / 8 % 5) r).1,(kidsC (treeC d) (K / 8 % 5) r).2)
   else (.mk 1 0 (wordsD K) [] (kidsC (treeC d) (K / 8 % 5) r).1,(kidsC (treeC d) (K / 8 % 5) r).2)):=LH (by rw[hTt,treeC_eq,Int.toNat_natCast])
 rw[←hTt];have q0:(((r.length+1:Nat):Int) == 0)=false:=by rw[beq_eq_false_iff_ne];omega
 have q1:(((d:Int)+1) == 0)=false:=by rw[beq_eq_false_iff_ne];omega
 obtain ⟨m,hm⟩:∃m,m=r.length:=⟨_,rfl⟩;rw[←hm] at HP hcn q0 ⊢;have hz1:W1.heap.size=w.heap.size+1:=by rw[hW1];simp
 clear hP hT hB hcell h' hr hm hTt;unfold cellsT at hW1;have i1:(0:Int)<((m+1:Nat):Int):=by omega
 have i2:(1:Int)≤((m+1:Nat):Int):=by omega
 go_enter Tryz.func14,Tryz.ntmps14;go_upto_region 1 with fail
 rw[←hW1];clear hW1;go_upto_region 4 with fail
 go_cut [0] (fun s0 wx=>(∃A' n',s0= .slice A' m n'∧Bytes w B s0 r)∧W1=wx)
 case first =>
  by_cases hn:n=1
  ·subst hn;obtain rfl:m=0:=by omega
   rw[if_pos rfl] at HP
   go_wp2_with fail
   go_meet;exact ⟨⟨_,_,rfl,HP.out⟩,rfl⟩
  ·rw[if_neg hn] at HP
   go_wp2_with fail
   go_meet;exact ⟨⟨_,_,rfl,HP.out⟩,rfl⟩
 case rest =>
  obtain ⟨⟨A',n',rfl,hY⟩,rfl⟩:=hcut;have HY:=LH hY;clear hY HP x0 hcell hnm hbB q0 hcn i1 i2;go_upto_region 22 with fail
  obtain ⟨W2,hW2⟩:∃W2,W2=W1.alloc (.cells (cellsT 0 0 (.slice none 0 0) (.slice none 0 0) (.slice none 0 0)) 34):=⟨_,rfl⟩;have hB2:Below w.heap.size w W2:=by rw[hW2];exact HB.out.alloc (by omega) _
  have hT2:TBox W2 (w.heap.size+1) 0 0 (.slice none 0 0) (.slice none 0 0) (.slice none 0 0):=by rw[hW2,←hz1];exact TBox.new _ _ _ _ _ _
  have hT1:TBox W2 w.heap.size 0 0 (.slice none 0 0) (.slice none 0 0) (.slice none 0 0):=by rw[hW2];exact HT.out.on ((Below.refl _ _).alloc (Nat.le_refl _) _)
  have hz2:W2.heap.size=w.heap.size+2:=by rw[hW2];simp;omega
  have HB2:=LH hB2;have HT2:=LH hT2;have HT1:=LH hT1;have hW2':=hW2;unfold cellsT at hW2';rw[←hW2'];clear hW2' hW2 hB2 hT2 hT1 HT HB;clear hz1;obtain ⟨N5,hN5⟩:∃N5:Nat,(K:Int) / 8 % 5=N5:=⟨K / 8 % 5,by omega⟩
  have HN5:Hid (N5=K / 8 % 5):=LH (by omega);rw[hN5];clear hN5;have HTe:T=(.mk 2 2 [] (bytesC K) [],r):=by rw[HTr.out,if_neg (by omega),if_pos (by omega)]
  subst HTe;have hz0:(w.heap.size+1)≠w.heap.size:=by omega
  have h3:=(HT2.out.set0 2).set1 2;have h4:TBox ((W2.setCell ⟨w.heap.size+1,0,none⟩ (.int .i64 2)).setCell ⟨w.heap.size+1,1,none⟩ (.int .i64 2)) w.heap.size 0 0 (.slice none 0 0) (.slice none 0 0) (.slice none 0 0):=((blk_setCell_other _ _ _ _ hz0.symm).trans (blk_setCell_other _ _ _ _ hz0.symm)).trans HT1.out;have h5:Below w.heap.size w ((W2.setCell ⟨w.heap.size+1,0,none⟩ (.int .i64 2)).setCell ⟨w.heap.size+1,1,none⟩ (.int .i64 2)):=(HB2.out.setCell (p:=⟨w.heap.size+1,0,none⟩) (by show w.heap.size≤w.heap.size+1;omega) _).setCell (p:=⟨w.heap.size+1,1,none⟩) (by show w.heap.size≤w.heap.size+1;omega) _
  have h6:((W2.setCell ⟨w.heap.size+1,0,none⟩ (.int .i64 2)).setCell ⟨w.heap.size+1,1,none⟩ (.int .i64 2)).heap.size=w.heap.size+2:=by rw[nblk_setCell,nblk_setCell];exact hz2
  have f0:=HT2.out.frozen 0;have f1:=HT2.out.frozen 1;obtain ⟨d0,d1,d2,d3,d4⟩:=HT2.out.cells;obtain ⟨M,hM⟩:∃M,M=3*N5+K % 2:=⟨_,rfl⟩;have HM:Hid (M=3*(K / 8 % 5)+K % 2):=LH (by rw[hM,HN5.out]);have hwM:IntKind.i64.wrap ((3:Int)*N5+(K:Int) % 2)=M:=by rw[IntWalk.i64_in _ (by have:=HN5.out;omega)];omega
  have hM2:M≤13:=by have:=HN5.out;omega
  have hN2:N5≤4:=by have:=HN5.out;omega
  clear hM
  rcases hq with hq | hq
  all_goals
   rw[hq];clear hq;go_upto_region 28 with fail
   generalize (W2.setCell ⟨w.heap.size+1,0,none⟩ (.int .i64 2)).setCell ⟨w.heap.size+1,1,none⟩ (.int .i64 2)=W3 at *
   clear f0 f1 d0 d1 d2 d3 d4;have HT3:=LH h3;have HT4:=LH h4;have HB5:=LH h5;clear h3 h4 h5
   go_wp2_with fail
   go_loopw [9] (fun i wr=>∃t:Nat,t≤M∧i= .int .i64 t∧∃A n,TBox wr (w.heap.size+1) 2 2 (.slice none 0 0) (.slice A t n) (.slice none 0 0)∧TBox wr w.heap.size 0 0 (.slice none 0 0) (.slice none 0 0) (.slice none 0 0)∧OwnN .u8 5 wr (w.heap.size+2) (.slice A t n) ((bytesC K).take t)∧Below w.heap.size w wr∧w.heap.size+2≤wr.heap.size) (fun i _=>M - (intOf i).toNat)
   case atStart=>exact ⟨0,by omega,rfl,none,0,HT3.out,HT4.out,World.ownsRow_nil _ _ _ _,HB5.out,by omega⟩
   case round =>
    obtain ⟨t,ht,rfl,A,n,hT3,hT4,ho,hBr,hzr⟩:=hrel;generalize wr=w3 at *
    by_cases hlt:t<M
    ·have i1:(t:Int)<(M:Int):=by omega
     obtain ⟨x0,x1,x2,x3,x4⟩:=hT3.cells;have ht13:t≤13:=by omega
     have hl0:((bytesC K).take t).length=t:=by rw[List.length_take,bytesC_len];have:=HM.out;omega
     obtain ⟨A2,n2,v',w4,hv',hrun,ho',hg⟩:=append_b1 w3 (w.heap.size+2) 24 _ _ (((K+t) % 256:Nat):Int) ho (by rw[hl0];omega) hzr;rw[hl0] at hv';subst hv';have hP1:(Value.slice A t n).ownBlock≠some (w.heap.size+1):=fun e=>by
      have:=(World.ownsRow.lt ho _ e).1
      omega
     have hP0:(Value.slice A t n).ownBlock≠some w.heap.size:=fun e=>by
      have:=(World.ownsRow.lt ho _ e).1
      omega
     have hT5:=hT3.kept hg hP1;have hT6:=hT4.kept hg hP0;have hB6:=hBr.grown hg (by omega) (fun k e=>by have:=(World.ownsRow.lt ho _ e).1;omega)
     have hz6:w.heap.size+2≤w4.heap.size:=by have:=hg.size;omega
     have HFin:Hid (TBox (w4.setCell ⟨w.heap.size+1,3,none⟩ (.slice A2 (t+1) n2)) (w.heap.size+1) 2 2 (.slice none 0 0) (.slice A2 (t+1) n2) (.slice none 0 0)∧TBox (w4.setCell ⟨w.heap.size+1,3,none⟩ (.slice A2 (t+1) n2)) w.heap.size 0 0 (.slice none 0 0) (.slice none 0 0) (.slice none 0 0)∧OwnN .u8 5 (w4.setCell ⟨w.heap.size+1,3,none⟩ (.slice A2 (t+1) n2)) (w.heap.size+2) (.slice A2 (t+1) n2) ((bytesC K).take (t+1))∧Below w.heap.size w (w4.setCell ⟨w.heap.size+1,3,none⟩ (.slice A2 (t+1) n2))∧w.heap.size+2≤(w4.setCell ⟨w.heap.size+1,3,none⟩ (.slice A2 (t+1) n2)).heap.size):=LH ⟨hT5.set3 _,(hT6.apart (by omega)),by
      have e:(bytesC K).take (t+1)=(bytesC K).take t ++ [(((K+t) % 256:Nat):Int)]:=by
       rw[List.take_add_one]
       congr 1
       rw[bytesC_get K (by have:=HM.out;omega)]
       rfl
      rw[e];exact own_kept2 ho' (grown_set _ _ _ _) (fun g e1 e2=>by
       cases e2
       have:=(World.ownsRow.lt ho' _ e1).1
       omega),hB6.setCell (p:=⟨w.heap.size+1,3,none⟩) (by show w.heap.size≤w.heap.size+1;omega) _,by rw[nblk_setCell];exact hz6⟩
     have HRun:=LH hrun;obtain ⟨y0,y1,y2,y3,y4⟩:=hT5.cells;have y5:=hT5.frozen 3;have ex:(((K+t) % 256:Nat):Int)=((K:Int)+t) % 256:=by omega
     rw[ex] at HRun;clear hl0 hrun ho' hg hP1 hP0 hT5 hT6 hB6 hz6 hT3 hT4 ho hBr
     go_wp2_with (at_builtin;refine Lib.wpList_append_run _ rfl _ _ _ _ rfl _ _ rfl rfl _ _ HRun.out ?_)
     go_roundw
     case rel=>exact ⟨t+1,by omega,by go_num,A2,n2,HFin.out⟩
     case measure=>simp[intOf];omega
    ·obtain rfl:t=M:=by omega
     have i1:¬(t:Int)<(t:Int):=by omega
     have hl0:(bytesC K).take t=bytesC K:=List.take_of_length_le (by rw[bytesC_len,HM.out];exact Nat.le_refl _);rw[hl0] at ho;have hlen:t=(bytesC K).length:=by rw[bytesC_len,HM.out]
     have hTP:TrP w3 (fun b=>w.heap.size+2≤b∧b<w3.heap.size) (.mk 2 2 [] (bytesC K) []) (.agg (cellsT 2 2 (.slice none 0 0) (.slice A t n) (.slice none 0 0))):=by
      unfold TrP;refine ⟨_,_,none,0,rfl,⟨⟨by decide,by decide⟩,⟨by decide,by decide⟩,by simp,by omega,by simp,by simp,fun x hx=> ?_⟩,NumP.nil _ _ _,(OwnN.numP ho).mono (fun g e=>World.ownsRow.lt ho g e),by simp,by omega,fun h=>by simp at h⟩
      obtain ⟨i,_,rfl⟩:=List.mem_map.1 hx
      omega
     obtain ⟨hE,hF⟩:=tree_end hBw hBr hT4 hTP (HY.out.below hBr hBw);unfold cellsT at hF;have HE:=LH hE;have HF:=LH hF;obtain ⟨x0,x1,x2,x3,x4⟩:=hT3.cells;obtain ⟨c0,c1,c2,c3,c4⟩:=hT4.cells;have f0:=hT4.frozen 0;have f1:=hT4.frozen 1;have f2:=hT4.frozen 2;have f3:=hT4.frozen 3;have f4:=hT4.frozen 4;clear hE hF hTP hlen hl0 ho hT3 hT4 hBr
     go_wp2_with fail
     clear x0 x1 x2 x3 x4 c0 c1 c2 c3 c4;obtain ⟨e0,e1,e2,e3,e4⟩:=HE.out.cells;refine bodyPost_ret (v:= .tuple #[.agg #[.int .i64 2,.int .i64 2,.slice none 0 0,.slice A t n,.slice none 0 0],.slice A' m n']) ?_ rfl HF.out
     simp[results,Tryz.f14,go_sem,e0,e1,e2,e3,e4]
end Go.Proofs.YtmmlfnblodfjbaaGreatDoor
