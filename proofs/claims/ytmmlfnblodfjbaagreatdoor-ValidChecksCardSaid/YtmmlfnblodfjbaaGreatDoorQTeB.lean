/- Layer 10, the landed package: own, of a struct. -/
import Derived.Test.YtmmlfnblodfjbaaGreatDoorQTeA
import Derived.Deep.DeepCutAuto
import Derived.Deep.CutBlock
import Derived.Test.YtmmlfnblodfjbaaGreatDoorQRdA
set_option maxRecDepth 100000
namespace Go.Proofs.YtmmlfnblodfjbaaGreatDoor
open Go.RowKit Go.Deep
def Own1 (w X:World) (z:Int) (D R:Nat) (l:List Int):Prop:=∃gw gk,TBox X (w.heap.size+1+1) 1 z (.slice (some ⟨gw,0,none⟩) D D) (.slice none 0 0) (.slice (some ⟨gk,0,none⟩) R R)∧w.heap.size+3≤gw∧gw≠gk∧RowU X gw l∧NRow X (w.heap.size+3) gk (List.replicate R Tr.nil)∧TBox X (w.heap.size+1) 0 0 (.slice none 0 0) (.slice none 0 0) (.slice none 0 0)∧Below w.heap.size w X
theorem own1_end {w W:World} {z:Int} {D R gw gk:Nat} {l:List Int} (hT:TBox W (w.heap.size+1+1) 1 z (.slice none 0 0) (.slice none 0 0) (.slice none 0 0)) (hN:TBox W (w.heap.size+1) 0 0 (.slice none 0 0) (.slice none 0 0) (.slice none 0 0)) (hr:RowU W gw l) (hg:w.heap.size+3≤gw) (hk:NRow W (w.heap.size+3) gk (List.replicate R Tr.nil)) (hne:gw≠gk) (hB:Below w.heap.size w W) :
  Own1 w ((W.setCell ⟨w.heap.size+1+1,2,none⟩ (.slice (some ⟨gw,0,none⟩) D D)).setCell ⟨w.heap.size+1+1,4,none⟩ (.slice (some ⟨gk,0,none⟩) R R)) z D R l:=by
 have ho:∀x,x≠w.heap.size+1+1→((W.setCell ⟨w.heap.size+1+1,2,none⟩ (.slice (some ⟨gw,0,none⟩) D D)).setCell ⟨w.heap.size+1+1,4,none⟩ (.slice (some ⟨gk,0,none⟩) R R)).heap[x]? = W.heap[x]? := fun x hx=>by
  rw[blk_setCell_other _ _ _ _ hx,blk_setCell_other _ _ _ _ hx]
 refine ⟨gw,gk,(hT.setW _).setK _,hg,hne,hr.of_block (ho _ (by omega)),hk.keep (by rw[nblk_setCell,nblk_setCell];exact Nat.le_refl _) (fun b hb _=>ho b (by omega)),hN.of_block (ho _ (by omega)),(hB.setCell (p:=⟨w.heap.size+1+1,2,none⟩) (by show w.heap.size≤w.heap.size+1+1;omega) _).setCell (p:=⟨w.heap.size+1+1,4,none⟩) (by show w.heap.size≤w.heap.size+1+1;omega) _⟩
theorem own1_B {w W:World} {z:Int} {D R gw:Nat} {l:List Int} (hT:TBox W (w.heap.size+1+1) 1 z (.slice none 0 0) (.slice none 0 0) (.slice none 0 0)) (hN:TBox W (w.heap.size+1) 0 0 (.slice none 0 0) (.slice none 0 0) (.slice none 0 0)) (hr:RowU W gw l) (hg:w.heap.size+3≤gw) (hs:w.heap.size+3≤W.heap.size) (hR:R≤1000000) (hB:Below w.heap.size w W) :
  Own1 w (((W.alloc (.cells (madeCells #[.int .i64 0,.int .i64 0,.slice none 0 0,.slice none 0 0,.slice none 0 0] (R*5)) 34)).setCell ⟨w.heap.size+1+1,2,none⟩ (.slice (some ⟨gw,0,none⟩) D D)).setCell ⟨w.heap.size+1+1,4,none⟩ (.slice (some ⟨W.heap.size,0,none⟩) R R)) z D R l:=by
 have hb:Below W.heap.size W (W.alloc (.cells (madeCells #[.int .i64 0,.int .i64 0,.slice none 0 0,.slice none 0 0,.slice none 0 0] (R*5)) 34)):=(Below.refl _ _).alloc (Nat.le_refl _) _;exact own1_end (hT.on hb) (hN.on hb) (hr.on hb) hg (NRow.made W _ R hs hR) (Nat.ne_of_lt hr.lt) (hB.alloc hB.size _)
theorem own1_A {w W:World} {z:Int} {D R gw:Nat} {l:List Int} (hT:TBox W (w.heap.size+1+1) 1 z (.slice none 0 0) (.slice none 0 0) (.slice none 0 0)) (hN:TBox W (w.heap.size+1) 0 0 (.slice none 0 0) (.slice none 0 0) (.slice none 0 0)) (hr:RowU W gw l) (hg:w.heap.size+3≤gw) (hs:w.heap.size+3≤W.heap.size) (hR:R≤1000000) (hB:Below w.heap.size w W) :
  Own1 w (((W.setCell ⟨w.heap.size+1+1,2,none⟩ (.slice (some ⟨gw,0,none⟩) D D)).alloc (.cells (madeCells #[.int .i64 0,.int .i64 0,.slice none 0 0,.slice none 0 0,.slice none 0 0] (R*5)) 34)).setCell ⟨w.heap.size+1+1,4,none⟩ (.slice (some ⟨W.heap.size,0,none⟩) R R)) z D R l:=by
 have:=own1_B (D:=D) hT hN hr hg hs hR hB
 rwa [World.setCell_alloc_past _ _ _ _ (by omega)] at this
theorem own1_C {w W W':World} {z:Int} {D R gw:Nat} {l:List Int} (hT:TBox W' (w.heap.size+1+1) 1 z (.slice none 0 0) (.slice none 0 0) (.slice none 0 0)) (hN:TBox W' (w.heap.size+1) 0 0 (.slice none 0 0) (.slice none 0 0) (.slice none 0 0)) (hs:w.heap.size+3≤W.heap.size) (hR:R≤1000000) (hb:Below (W.alloc (.cells (madeCells #[.int .i64 0,.int .i64 0,.slice none 0 0,.slice none 0 0,.slice none 0 0] (R*5)) 34)).drew.heap.size (W.alloc (.cells (madeCells #[.int .i64 0,.int .i64 0,.slice none 0 0,.slice none 0 0,.slice none 0 0] (R*5)) 34)).drew W') (hg:(W.alloc (.cells (madeCells #[.int .i64 0,.int .i64 0,.slice none 0 0,.slice none 0 0,.slice none 0 0] (R*5)) 34)).drew.heap.size≤gw) (hr:RowU W' gw l) (hB:Below w.heap.size w W') :
  Own1 w ((W'.setCell ⟨w.heap.size+1+1,2,none⟩ (.slice (some ⟨gw,0,none⟩) D D)).setCell ⟨w.heap.size+1+1,4,none⟩ (.slice (some ⟨W.heap.size,0,none⟩) R R)) z D R l:=by
 have hk:=NRow.made W (w.heap.size+3) R hs hR;have hsz:(W.alloc (.cells (madeCells #[.int .i64 0,.int .i64 0,.slice none 0 0,.slice none 0 0,.slice none 0 0] (R*5)) 34)).drew.heap.size=W.heap.size+1:=World.size_alloc _ _;rw[hsz] at hg hb;exact own1_end hT hN hr (by omega) (hk.keep (by have:=hb.size;rw[hsz] at this;rw[World.size_alloc];exact this) (fun b _ h2=>by rw[World.size_alloc] at h2;exact hb.block b h2)) (by omega) hB
set_option maxHeartbeats 4000000 in
theorem own_1 (db b:Nat) (v:Value) (ls:List (List Int)) (g a z q:Int) (D R:Nat) (c:Int) (w:World) (hd:DBox w db b c) (hb:WhBox w b v) (h:ArV w w.heap.size v ls) (hD:D≤65535) (hR:R≤65535) (ha:0≤a∧a+D≤9223372036854775807) :
  Calls Tryz.prog 119 #[.pointer (some ⟨db,0,none⟩),.agg (cellsO ⟨1,g,a,D,R,z,q⟩)] w fun e w'=>∃gw gk,e= .returned (.agg (cellsT 1 z (.slice (some ⟨gw,0,none⟩) D D) (.slice none 0 0) (.slice (some ⟨gk,0,none⟩) R R)))∧w.heap.size≤gw∧gw≠gk∧RowU w' gw (wordsN ls g a D)∧NRow w' (w.heap.size+3) gk (List.replicate R Tr.nil)∧Below w.heap.size w w':=by
 have HW:=LH (fun X (hX:Below w.heap.size w X)=>dwords_any db b v ls ⟨1,g,a,D,R,z,q⟩ D c X (hd.on hX) (hb.on hX) (h.on hX) (by omega) ha)
 have hmk:=run_make_T R (by omega);obtain ⟨hb1,hb2,hb3,hB0,hs0⟩:=three_new w (cellsO ⟨1,g,a,D,R,z,q⟩) (cellsT 0 0 (.slice none 0 0) (.slice none 0 0) (.slice none 0 0)) (cellsT 1 z (.slice none 0 0) (.slice none 0 0) (.slice none 0 0)) 129 34 34 _ rfl;obtain ⟨W1,hW1⟩:∃W1,W1=((w.alloc (.cells (cellsO ⟨1,g,a,D,R,z,q⟩) 129)).alloc (.cells (cellsT 0 0 (.slice none 0 0) (.slice none 0 0) (.slice none 0 0)) 34)).alloc (.cells (cellsT 1 z (.slice none 0 0) (.slice none 0 0) (.slice none 0 0)) 34):=⟨_,rfl⟩;rw[←hW1] at hb1 hb2 hb3 hB0 hs0;have HO1:Hid (OBox W1 w.heap.size ⟨1,g,a,D,R,z,q⟩):=LH hb1;have HN1:Hid (TBox W1 (w.heap.size+1) 0 0 (.slice none 0 0) (.slice none 0 0) (.slice none 0 0)):=LH hb2;have HT1:Hid (TBox W1 (w.heap.size+1+1) 1 z (.slice none 0 0) (.slice none 0 0) (.slice none 0 0)):=LH hb3;have HB1:=LH hB0;have HS1:=LH hs0;unfold cellsO cellsT at hW1;unfold cellsO at HW ⊢;unfold cellsT at hmk;dsimp only at hW1 HW ⊢;clear hd hb h ha hb1 hb2 hb3 hB0 hs0;go_enter Tryz.func119,Tryz.ntmps119
 go_upto_block 0 with fail
 rw[←hW1];clear hW1;have HCel:Hid (∀X,Below W1.heap.size W1 X→(X.cell? ⟨w.heap.size,0,none⟩=some (.int .i64 1)∧X.cell? ⟨w.heap.size,1,none⟩=some (.int .i64 g)∧X.cell? ⟨w.heap.size,2,none⟩=some (.int .i64 a)∧X.cell? ⟨w.heap.size,3,none⟩=some (.int .i64 D)∧X.cell? ⟨w.heap.size,4,none⟩=some (.int .i64 R)∧X.cell? ⟨w.heap.size,5,none⟩=some (.int .i64 z)∧X.cell? ⟨w.heap.size,6,none⟩=some (.int .i64 q))∧X.cell? ⟨w.heap.size+1+1,2,none⟩=some (.slice none 0 0)∧X.cell? ⟨w.heap.size+1+1,4,none⟩=some (.slice none 0 0)∧X.frozen? ⟨w.heap.size+1+1,2,none⟩=false∧X.frozen? ⟨w.heap.size+1+1,4,none⟩=false):=LH (fun X hX=>⟨(HO1.out.on hX).cells,(HT1.out.on hX).cells.2.2.1,(HT1.out.on hX).cells.2.2.2.2,(HT1.out.on hX).frozen _,(HT1.out.on hX).frozen _⟩)
 have HCs:Hid (∀X,Below W1.heap.size W1 X→∀u o,((X.setCell ⟨w.heap.size+1+1,2,none⟩ u).alloc o).cell? ⟨w.heap.size+1+1,4,none⟩=some (.slice none 0 0)∧((X.setCell ⟨w.heap.size+1+1,2,none⟩ u).alloc o).frozen? ⟨w.heap.size+1+1,4,none⟩=false):=LH (fun X hX u o=>by
  have h:=((HT1.out.on hX).setW u).on ((Below.refl _ _).alloc (Nat.le_refl _) o);exact ⟨h.cells.2.2.2.2,h.frozen _⟩)
 have HWr:=LH (fun X (hX:Below W1.heap.size W1 X)=>HW.out X (HB1.out.trans (hX.mono HB1.out.size)))
 have HEndA:Hid (∀X gw,Below W1.heap.size W1 X→W1.heap.size≤gw→RowU X gw (wordsN ls g a D)→Own1 w (((X.setCell ⟨w.heap.size+1+1,2,none⟩ (.slice (some ⟨gw,0,none⟩) D D)).alloc (.cells (madeCells #[.int .i64 0,.int .i64 0,.slice none 0 0,.slice none 0 0,.slice none 0 0] (R*5)) 34)).setCell ⟨w.heap.size+1+1,4,none⟩ (.slice (some ⟨X.heap.size,0,none⟩) R R)) z D R (wordsN ls g a D)∧Own1 w (((X.alloc (.cells (madeCells #[.int .i64 0,.int .i64 0,.slice none 0 0,.slice none 0 0,.slice none 0 0] (R*5)) 34)).setCell ⟨w.heap.size+1+1,2,none⟩ (.slice (some ⟨gw,0,none⟩) D D)).setCell ⟨w.heap.size+1+1,4,none⟩ (.slice (some ⟨X.heap.size,0,none⟩) R R)) z D R (wordsN ls g a D)):=LH (fun X gw hX hgw hr=>by
  have h1:=HS1.out;have h2:=hX.size;exact ⟨own1_A (HT1.out.on hX) (HN1.out.on hX) hr (by omega) (by omega) (by omega) (HB1.out.trans (hX.mono HB1.out.size)),own1_B (HT1.out.on hX) (HN1.out.on hX) hr (by omega) (by omega) (by omega) (HB1.out.trans (hX.mono HB1.out.size))⟩)
 have HEndC:Hid (∀X gw,Below W1.heap.size W1 X→Below (W1.alloc (.cells (madeCells #[.int .i64 0,.int .i64 0,.slice none 0 0,.slice none 0 0,.slice none 0 0] (R*5)) 34)).drew.heap.size (W1.alloc (.cells (madeCells #[.int .i64 0,.int .i64 0,.slice none 0 0,.slice none 0 0,.slice none 0 0] (R*5)) 34)).drew X→(W1.alloc (.cells (madeCells #[.int .i64 0,.int .i64 0,.slice none 0 0,.slice none 0 0,.slice none 0 0] (R*5)) 34)).drew.heap.size≤gw→RowU X gw (wordsN ls g a D)→Own1 w ((X.setCell ⟨w.heap.size+1+1,2,none⟩ (.slice (some ⟨gw,0,none⟩) D D)).setCell ⟨w.heap.size+1+1,4,none⟩ (.slice (some ⟨W1.heap.size,0,none⟩) R R)) z D R (wordsN ls g a D)):=LH (fun X gw hX hb hgw hr=>by
  have h1:=HS1.out;exact own1_C (HT1.out.on hX) (HN1.out.on hX) (by omega) (by omega) hb hgw hr (HB1.out.trans (hX.mono HB1.out.size)))
 go_cut [] (fun wx=>Own1 w wx z D R (wordsN ls g a D))
 case first =>
  obtain ⟨x0,x1,x2,x3,x4,x5,x6⟩:=HO1.out.cells;dsimp only at x0 x1 x2 x3 x4 x5 x6;go_upto_region 3 with fail
  clear x0 x1 x2 x3 x4 x5 x6;have hD0:Below W1.heap.size W1 W1.drew:=(Below.refl _ _).drew;have hDa0:Below W1.heap.size W1 (W1.alloc (.cells (madeCells #[.int .i64 0,.int .i64 0,.slice none 0 0,.slice none 0 0,.slice none 0 0] (R*5)) 34)).drew:=((Below.refl _ _).alloc (Nat.le_refl _) _).drew;obtain ⟨⟨x0,x1,x2,x3,x4,x5,x6⟩,y2,y4,f2,f4⟩:=HCel.out _ hD0;obtain ⟨⟨xa0,xa1,xa2,xa3,xa4,xa5,xa6⟩,ya2,ya4,fa2,fa4⟩:=HCel.out _ hDa0
  go_region_law (first
   | (go_simp;go_at_call 137;with_reducible refine (HWr.out _ hD0).mono ?_;rintro e w6 ⟨gw,rfl,hgw,hrw,hB6⟩;have hD6:=bseq8 hD0 hB6;have HEA:=LH (HEndA.out _ _ hD6 hgw hrw);have hDa6:=hD6.alloc hD6.size (.cells (madeCells #[.int .i64 0,.int .i64 0,.slice none 0 0,.slice none 0 0,.slice none 0 0] (R*5)) 34);clear x0 x1 x2 x3 x4 x5 x6 y2 y4 f2 f4;obtain ⟨⟨x0,x1,x2,x3,x4,x5,x6⟩,y2,y4,f2,f4⟩:=HCel.out _ hD6;obtain ⟨s4,t4⟩:=HCs.out _ hD6 (.slice (some ⟨gw,0,none⟩) D D) (.cells (madeCells #[.int .i64 0,.int .i64 0,.slice none 0 0,.slice none 0 0,.slice none 0 0] (R*5)) 34);obtain ⟨⟨xa0,xa1,xa2,xa3,xa4,xa5,xa6⟩,ya2,ya4,fa2,fa4⟩:=HCel.out _ hDa6)
   | (go_simp;go_at_call 137;with_reducible refine (HWr.out _ hDa0).mono ?_;rintro e w6 ⟨gw,rfl,hgw,hrw,hB6⟩;have hD6:=bseq8 hDa0 hB6;have HEC:=LH (HEndC.out _ _ hD6 hB6 hgw hrw);clear x0 x1 x2 x3 x4 x5 x6 y2 y4 f2 f4;obtain ⟨⟨x0,x1,x2,x3,x4,x5,x6⟩,y2,y4,f2,f4⟩:=HCel.out _ hD6))
  all_goals go_wp2_with fail
  all_goals go_meet
  all_goals first | exact HEA.out.1 | exact HEA.out.2 | exact HEC.out
 case rest =>
  obtain ⟨gw,gk,hT,hgw,hne,hr,hk,hN,hB⟩:=hcut;have HT:=LH hT;have HN:=LH hN;have HE:=LH (And.intro hgw (And.intro hne (And.intro hr (And.intro hk hB))));obtain ⟨x0,x1,x2,x3,x4⟩:=HT.out.cells;obtain ⟨y0,y1,y2,y3,y4⟩:=HN.out.cells;obtain ⟨f0,f1,f2,f3,f4⟩:=HN.out.frozens;have HX:=LH (HN.out.put 1 z (.slice (some ⟨gw,0,none⟩) D D) (.slice none 0 0) (.slice (some ⟨gk,0,none⟩) R R));have HF:Hid (RowU (put5 wc (w.heap.size+1) 0 1 z (.slice (some ⟨gw,0,none⟩) D D) (.slice none 0 0) (.slice (some ⟨gk,0,none⟩) R R)) gw (wordsN ls g a D)∧NRow (put5 wc (w.heap.size+1) 0 1 z (.slice (some ⟨gw,0,none⟩) D D) (.slice none 0 0) (.slice (some ⟨gk,0,none⟩) R R)) (w.heap.size+3) gk (List.replicate R Tr.nil)∧Below w.heap.size w (put5 wc (w.heap.size+1) 0 1 z (.slice (some ⟨gw,0,none⟩) D D) (.slice none 0 0) (.slice (some ⟨gk,0,none⟩) R R))):=LH (by
   have ho:=fun x (hx:x≠w.heap.size+1)=>put5_other wc (w.heap.size+1) 0 1 z (.slice (some ⟨gw,0,none⟩) D D) (.slice none 0 0) (.slice (some ⟨gk,0,none⟩) R R) x hx
   exact ⟨hr.of_block (ho _ (by omega)),hk.keep (by rw[put5_size];exact Nat.le_refl _) (fun b hb _=>ho b (by omega)),below_put5 hB (Nat.le_succ _) _ _ _ _ _ _⟩)
  clear hT hgw hne hr hk hN hB
  go_wp2_with fail
  unfold put5 at HX HF;simp only[Nat.zero_add] at HX HF;clear y0 y1 y2 y3 y4;obtain ⟨y0,y1,y2,y3,y4⟩:=HX.out.cells;refine bodyPost_ret (v:= .agg (cellsT 1 z (.slice (some ⟨gw,0,none⟩) D D) (.slice none 0 0) (.slice (some ⟨gk,0,none⟩) R R))) ?_ rfl ⟨gw,gk,rfl,by have:=HE.out.1;omega,HE.out.2.1,HF.out.1,HF.out.2.1,HF.out.2.2⟩
  simp[results,Tryz.f119,go_sem,cellsT,y0,y1,y2,y3,y4]
def OwnX (w X:World) (k z:Int) (vw vb vk:Value) (E:World→Prop):Prop:=TBox X (w.heap.size+1+1) k z vw vb vk∧E X∧TBox X (w.heap.size+1) 0 0 (.slice none 0 0) (.slice none 0 0) (.slice none 0 0)∧Below w.heap.size w X
def Else (w:World) (E:World→Prop):Prop:=∀A B:World,E A→(∀b,b≠w.heap.size+1→b≠w.heap.size+1+1→B.heap[b]? = A.heap[b]?)→A.heap.size=B.heap.size→E B
theorem own_set {w X:World} {k z:Int} {vw vb vk:Value} {E:World→Prop} (hE:Else w E) (h:OwnX w X k z vw vb vk E):(∀u,OwnX w (X.setCell ⟨w.heap.size+1+1,2,none⟩ u) k z u vb vk E)∧(∀u,OwnX w (X.setCell ⟨w.heap.size+1+1,3,none⟩ u) k z vw u vk E)∧(∀u,OwnX w (X.setCell ⟨w.heap.size+1+1,4,none⟩ u) k z vw vb u E):=by
 obtain ⟨h1,h2,h3,h4⟩:=h;have ho:∀j u x,x≠w.heap.size+1+1→(X.setCell ⟨w.heap.size+1+1,j,none⟩ u).heap[x]? = X.heap[x]? := fun j u x hx=>blk_setCell_other _ _ _ _ hx
 have hs:∀j u,X.heap.size=(X.setCell ⟨w.heap.size+1+1,j,none⟩ u).heap.size:=fun j u=>(nblk_setCell _ _ _).symm
 have hB:∀j u,Below w.heap.size w (X.setCell ⟨w.heap.size+1+1,j,none⟩ u):=fun j u=>h4.setCell (p:=⟨w.heap.size+1+1,j,none⟩) (by show w.heap.size≤w.heap.size+1+1;omega) u
 exact ⟨fun u=>⟨h1.setW u,hE _ _ h2 (fun b _ hb=>ho 2 u b hb) (hs _ _),h3.of_block (ho 2 u _ (by omega)),hB _ _⟩,fun u=>⟨h1.setB u,hE _ _ h2 (fun b _ hb=>ho 3 u b hb) (hs _ _),h3.of_block (ho 3 u _ (by omega)),hB _ _⟩,fun u=>⟨h1.setK u,hE _ _ h2 (fun b _ hb=>ho 4 u b hb) (hs _ _),h3.of_block (ho 4 u _ (by omega)),hB _ _⟩⟩
theorem else_rowU (w:World) {g:Nat} (hg:w.heap.size+3≤g) (l:List Int):Else w (fun X=>RowU X g l):=fun A B h hs _=>h.of_block (hs g (by omega) (by omega))
theorem else_rowB (w:World) {g:Nat} (hg:w.heap.size+3≤g) (l:List Int):Else w (fun X=>RowB X g l):=fun A B h hs _=>h.of_block (hs g (by omega) (by omega))
theorem else_nrow (w:World) (g:Nat) (ks:List Tr):Else w (fun X=>NRow X (w.heap.size+3) g ks):=fun A B h hs hz=>h.keep (by omega) (fun b hb _=>hs b (by omega) (by omega))
set_option maxHeartbeats 2000000 in
theorem own_6 (db b:Nat) (v:Value) (ls:List (List Int)) (g a:Int) (C:Nat) (c:Int) (w:World) (_hd:DBox w db b c) (_hb:WhBox w b v) (_h:ArV w w.heap.size v ls) (hC:C≤4096) :
  Calls Tryz.prog 119 #[.pointer (some ⟨db,0,none⟩),.agg (cellsO ⟨2,g,a,0,0,6,C⟩)] w fun e w'=>∃gk,e= .returned (.agg (cellsT 2 6 (.slice none 0 0) (.slice none 0 0) (.slice (some ⟨gk,0,none⟩) C C)))∧NRow w' (w.heap.size+3) gk (List.replicate C Tr.nil)∧Below w.heap.size w w':=by
 have hmk:=run_make_T C (by omega);unfold cellsT at hmk;obtain ⟨hb1,hb2,hb3,hB0,hs0⟩:=three_new w (cellsO ⟨2,g,a,0,0,6,C⟩) (cellsT 0 0 (.slice none 0 0) (.slice none 0 0) (.slice none 0 0)) (cellsT 2 6 (.slice none 0 0) (.slice none 0 0) (.slice none 0 0)) 129 34 34 _ rfl;obtain ⟨W1,hW1⟩:∃W1,W1=((w.alloc (.cells (cellsO ⟨2,g,a,0,0,6,C⟩) 129)).alloc (.cells (cellsT 0 0 (.slice none 0 0) (.slice none 0 0) (.slice none 0 0)) 34)).alloc (.cells (cellsT 2 6 (.slice none 0 0) (.slice none 0 0) (.slice none 0 0)) 34):=⟨_,rfl⟩;rw[←hW1] at hb1 hb2 hb3 hB0 hs0;have HO1:Hid (OBox W1 w.heap.size ⟨2,g,a,0,0,6,C⟩):=LH hb1;have HN1:Hid (TBox W1 (w.heap.size+1) 0 0 (.slice none 0 0) (.slice none 0 0) (.slice none 0 0)):=LH hb2;have HT1:Hid (TBox W1 (w.heap.size+1+1) 2 6 (.slice none 0 0) (.slice none 0 0) (.slice none 0 0)):=LH hb3;have HB1:=LH hB0;have HS1:=LH hs0;unfold cellsO cellsT at hW1
 (try unfold cellsO at HW)
 (try unfold cellsO at HWd)
 unfold cellsO
 (try dsimp only at HW)
 (try dsimp only at HWd)
 dsimp only at hW1 ⊢;clear _hd _hb _h hb1 hb2 hb3 hB0 hs0;go_enter Tryz.func119,Tryz.ntmps119
 go_upto_block 0 with fail
 rw[←hW1];clear hW1
 go_cut [] (fun wx=>∃gk,OwnX w wx 2 6 (.slice none 0 0) (.slice none 0 0) (.slice (some ⟨gk,0,none⟩) C C) (fun X=>NRow X (w.heap.size+3) gk (List.replicate C Tr.nil)))
 case first =>
  obtain ⟨x0,x1,x2,x3,x4,x5,x6⟩:=HO1.out.cells;dsimp only at x0 x1 x2 x3 x4 x5 x6;have hb:Below W1.heap.size W1 (W1.alloc (.cells (madeCells #[.int .i64 0,.int .i64 0,.slice none 0 0,.slice none 0 0,.slice none 0 0] (C*5)) 34)):=(Below.refl _ _).alloc (Nat.le_refl _) _;have hT2:=HT1.out.on hb;have HO:=LH (show OwnX w (W1.alloc (.cells (madeCells #[.int .i64 0,.int .i64 0,.slice none 0 0,.slice none 0 0,.slice none 0 0] (C*5)) 34)) 2 6 (.slice none 0 0) (.slice none 0 0) (.slice none 0 0) (fun X=>NRow X (w.heap.size+3) W1.heap.size (List.replicate C Tr.nil)) from ⟨hT2,NRow.made W1 _ C (by have:=HS1.out;omega) (by omega),HN1.out.on hb,HB1.out.alloc HB1.out.size _⟩)
  have z4:=hT2.cells.2.2.2.2;have f4:=hT2.frozen 4;have HE:=LH ((own_set (else_nrow w _ _) HO.out).2.2 (.slice (some ⟨W1.heap.size,0,none⟩) C C));have HL:Hid (w.heap.size+1+1<W1.heap.size):=LH (by have:=HS1.out;omega);clear hb hT2
  go_wp2_with fail
  go_meet;exact ⟨_,by first | exact HE.out | exact (World.setCell_alloc_past _ _ _ _ HL.out) ▸ HE.out⟩
 case rest =>
  obtain ⟨gk,hT,hE,hN,hB⟩:=hcut;have HT:=LH hT;have HN:=LH hN;obtain ⟨x0,x1,x2,x3,x4⟩:=HT.out.cells;obtain ⟨y0,y1,y2,y3,y4⟩:=HN.out.cells;obtain ⟨f0,f1,f2,f3,f4⟩:=HN.out.frozens;have HX:=LH (HN.out.put 2 6 (.slice none 0 0) (.slice none 0 0) (.slice (some ⟨gk,0,none⟩) C C));have HF:Hid ((NRow (put5 wc (w.heap.size+1) 0 2 6 (.slice none 0 0) (.slice none 0 0) (.slice (some ⟨gk,0,none⟩) C C)) (w.heap.size+3) gk (List.replicate C Tr.nil))∧Below w.heap.size w (put5 wc (w.heap.size+1) 0 2 6 (.slice none 0 0) (.slice none 0 0) (.slice (some ⟨gk,0,none⟩) C C))):=LH (by
   have ho:=fun x (hx:x≠w.heap.size+1)=>put5_other wc (w.heap.size+1) 0 2 6 (.slice none 0 0) (.slice none 0 0) (.slice (some ⟨gk,0,none⟩) C C) x hx
   exact ⟨hE.keep (by rw[put5_size];exact Nat.le_refl _) (fun b hb _=>ho b (by omega)),below_put5 hB (Nat.le_succ _) _ _ _ _ _ _⟩)
  clear hT hN hB hE
  go_wp2_with fail
  unfold put5 at HX HF;simp only[Nat.zero_add] at HX HF;clear y0 y1 y2 y3 y4;obtain ⟨y0,y1,y2,y3,y4⟩:=HX.out.cells;refine bodyPost_ret (v:= .agg (cellsT 2 6 (.slice none 0 0) (.slice none 0 0) (.slice (some ⟨gk,0,none⟩) C C))) ?_ rfl ⟨gk,rfl,HF.out.1,HF.out.2⟩
  simp[results,Tryz.f119,go_sem,cellsT,y0,y1,y2,y3,y4]
set_option maxHeartbeats 2000000 in
theorem own_5 (db b:Nat) (v:Value) (ls:List (List Int)) (g a:Int) (C:Nat) (c:Int) (w:World) (hd:DBox w db b c) (hb:WhBox w b v) (h:ArV w w.heap.size v ls) (hC:C≤4096) (ha:0≤a∧a+C≤9223372036854775807) :
  Calls Tryz.prog 119 #[.pointer (some ⟨db,0,none⟩),.agg (cellsO ⟨2,g,a,0,0,5,C⟩)] w fun e w'=>∃gw,e= .returned (.agg (cellsT 2 5 (.slice (some ⟨gw,0,none⟩) C C) (.slice none 0 0) (.slice none 0 0)))∧w.heap.size+3≤gw∧RowU w' gw (wordsN ls g a C)∧Below w.heap.size w w':=by
 have HW:=LH (fun X (hX:Below w.heap.size w X)=>dwords_any db b v ls ⟨2,g,a,0,0,5,C⟩ C c X (hd.on hX) (hb.on hX) (h.on hX) (by omega) ha)
 clear ha;obtain ⟨hb1,hb2,hb3,hB0,hs0⟩:=three_new w (cellsO ⟨2,g,a,0,0,5,C⟩) (cellsT 0 0 (.slice none 0 0) (.slice none 0 0) (.slice none 0 0)) (cellsT 2 5 (.slice none 0 0) (.slice none 0 0) (.slice none 0 0)) 129 34 34 _ rfl;obtain ⟨W1,hW1⟩:∃W1,W1=((w.alloc (.cells (cellsO ⟨2,g,a,0,0,5,C⟩) 129)).alloc (.cells (cellsT 0 0 (.slice none 0 0) (.slice none 0 0) (.slice none 0 0)) 34)).alloc (.cells (cellsT 2 5 (.slice none 0 0) (.slice none 0 0) (.slice none 0 0)) 34):=⟨_,rfl⟩;rw[←hW1] at hb1 hb2 hb3 hB0 hs0;have HO1:Hid (OBox W1 w.heap.size ⟨2,g,a,0,0,5,C⟩):=LH hb1;have HN1:Hid (TBox W1 (w.heap.size+1) 0 0 (.slice none 0 0) (.slice none 0 0) (.slice none 0 0)):=LH hb2;have HT1:Hid (TBox W1 (w.heap.size+1+1) 2 5 (.slice none 0 0) (.slice none 0 0) (.slice none 0 0)):=LH hb3;have HB1:=LH hB0;have HS1:=LH hs0;unfold cellsO cellsT at hW1
 (try unfold cellsO at HW)
 (try unfold cellsO at HWd)
 unfold cellsO
 (try dsimp only at HW)
 (try dsimp only at HWd)
 dsimp only at hW1 ⊢;clear hd hb h hb1 hb2 hb3 hB0 hs0;go_enter Tryz.func119,Tryz.ntmps119
 go_upto_block 0 with fail
 rw[←hW1];clear hW1
 go_cut [] (fun wx=>∃gw,OwnX w wx 2 5 (.slice (some ⟨gw,0,none⟩) C C) (.slice none 0 0) (.slice none 0 0) (fun X=>w.heap.size+3≤gw∧RowU X gw (wordsN ls g a C)))
 case first =>
  obtain ⟨x0,x1,x2,x3,x4,x5,x6⟩:=HO1.out.cells;dsimp only at x0 x1 x2 x3 x4 x5 x6;have HWr:=LH (HW.out W1 HB1.out)
  go_wp2_with fail
  refine HWr.out.mono ?_
  rintro e w6 ⟨gw,rfl,hgw,hrw,hB6⟩;have hT2:=HT1.out.on hB6;have HO:=LH (show OwnX w w6 2 5 (.slice none 0 0) (.slice none 0 0) (.slice none 0 0) (fun X=>w.heap.size+3≤gw∧RowU X gw (wordsN ls g a C)) from ⟨hT2,⟨by have:=HS1.out;omega,hrw⟩,HN1.out.on hB6,HB1.out.trans (hB6.mono HB1.out.size)⟩)
  have z2:=hT2.cells.2.2.1;have f2:=hT2.frozen 2;have HE:=LH ((own_set (fun A B hx hs hz=>⟨hx.1,(else_rowU w hx.1 _) A B hx.2 hs hz⟩) HO.out).1 (.slice (some ⟨gw,0,none⟩) C C))
  clear hT2 hrw hB6
  go_wp2_with fail
  go_meet;exact ⟨_,HE.out⟩
 case rest =>
  obtain ⟨gw,hT,⟨hgw,hE⟩,hN,hB⟩:=hcut;have HT:=LH hT;have HN:=LH hN;obtain ⟨x0,x1,x2,x3,x4⟩:=HT.out.cells;obtain ⟨y0,y1,y2,y3,y4⟩:=HN.out.cells;obtain ⟨f0,f1,f2,f3,f4⟩:=HN.out.frozens;have HX:=LH (HN.out.put 2 5 (.slice (some ⟨gw,0,none⟩) C C) (.slice none 0 0) (.slice none 0 0));have HF:Hid ((w.heap.size+3≤gw∧RowU (put5 wc (w.heap.size+1) 0 2 5 (.slice (some ⟨gw,0,none⟩) C C) (.slice none 0 0) (.slice none 0 0)) gw (wordsN ls g a C))∧Below w.heap.size w (put5 wc (w.heap.size+1) 0 2 5 (.slice (some ⟨gw,0,none⟩) C C) (.slice none 0 0) (.slice none 0 0))):=LH (by
   have ho:=fun x (hx:x≠w.heap.size+1)=>put5_other wc (w.heap.size+1) 0 2 5 (.slice (some ⟨gw,0,none⟩) C C) (.slice none 0 0) (.slice none 0 0) x hx
   exact ⟨⟨hgw,hE.of_block (ho _ (by omega))⟩,below_put5 hB (Nat.le_succ _) _ _ _ _ _ _⟩)
  clear hT hN hB hE
  go_wp2_with fail
  unfold put5 at HX HF;simp only[Nat.zero_add] at HX HF;clear y0 y1 y2 y3 y4;obtain ⟨y0,y1,y2,y3,y4⟩:=HX.out.cells;refine bodyPost_ret (v:= .agg (cellsT 2 5 (.slice (some ⟨gw,0,none⟩) C C) (.slice none 0 0) (.slice none 0 0))) ?_ rfl ⟨gw,rfl,HF.out.1.1,HF.out.1.2,HF.out.2⟩
  simp[results,Tryz.f119,go_sem,cellsT,y0,y1,y2,y3,y4]
set_option maxHeartbeats 2000000 in
theorem own_2 (db b:Nat) (v:Value) (ls:List (List Int)) (g a:Int) (C:Nat) (c:Int) (w:World) (hd:DBox w db b c) (hb:WhBox w b v) (h:ArV w w.heap.size v ls) (hC:C≤40000) (ha:0≤a∧a+((C+7) / 8:Nat)≤9223372036854775807) :
  Calls Tryz.prog 119 #[.pointer (some ⟨db,0,none⟩),.agg (cellsO ⟨2,g,a,0,0,2,C⟩)] w fun e w'=>∃gb,e= .returned (.agg (cellsT 2 2 (.slice none 0 0) (.slice (some ⟨gb,0,none⟩) C C) (.slice none 0 0)))∧w.heap.size+3≤gb∧RowB w' gb (cutB (wordsN ls g a ((C+7) / 8)) C ((C+7) / 8))∧Below w.heap.size w w':=by
 have HW:=LH (fun X (hX:Below w.heap.size w X)=>dwords_any db b v ls ⟨2,g,a,0,0,2,C⟩ ((C+7) / 8) c X (hd.on hX) (hb.on hX) (h.on hX) (by omega) ha)
 have hwo:wordsO ⟨2,g,a,0,0,2,C⟩=(((C+7) / 8:Nat):Int):=by
  unfold wordsO wordN ptrO;dsimp only;rw[if_neg (by decide),if_pos rfl,if_pos rfl]
  omega
 have HWd:=LH (fun X=>words9_any ⟨2,g,a,0,0,2,C⟩ X (.inl (.inr (.inr (.inl ⟨rfl,by show (-536870912:Int)≤0∧(0:Int)<536870912;decide,rfl,rfl,by show (0:Int)≤2∧(2:Int)<8;decide,by show (0:Int)≤C∧(C:Int)<536870912;omega,rfl,rfl⟩)))))
 rw[hwo] at HWd;have HC:=LH (fun l X g' m (hr:RowU X g' l) (hl:l.length=m) (hm:m=(C+7) / 8)=>dcut_any (.slice (some ⟨g',0,none⟩) m m) l C X (by subst hl;exact (hr.numP (by omega)).numS (fun b hb=>by subst hb;exact hr.lt)) (by omega) (by omega))
 have HLn:Hid ((wordsN ls g a ((C+7) / 8)).length=(C+7) / 8):=LH (wordsN_length _ _ _ _);generalize wordsN ls g a ((C+7) / 8)=L at *
 obtain ⟨m,hm⟩:∃m,m=(C+7) / 8:=⟨_,rfl⟩;rw[←hm] at HW HWd HLn ⊢;have HM:=LH hm;clear ha hwo hm;obtain ⟨hb1,hb2,hb3,hB0,hs0⟩:=three_new w (cellsO ⟨2,g,a,0,0,2,C⟩) (cellsT 0 0 (.slice none 0 0) (.slice none 0 0) (.slice none 0 0)) (cellsT 2 2 (.slice none 0 0) (.slice none 0 0) (.slice none 0 0)) 129 34 34 _ rfl;obtain ⟨W1,hW1⟩:∃W1,W1=((w.alloc (.cells (cellsO ⟨2,g,a,0,0,2,C⟩) 129)).alloc (.cells (cellsT 0 0 (.slice none 0 0) (.slice none 0 0) (.slice none 0 0)) 34)).alloc (.cells (cellsT 2 2 (.slice none 0 0) (.slice none 0 0) (.slice none 0 0)) 34):=⟨_,rfl⟩;rw[←hW1] at hb1 hb2 hb3 hB0 hs0;have HO1:Hid (OBox W1 w.heap.size ⟨2,g,a,0,0,2,C⟩):=LH hb1;have HN1:Hid (TBox W1 (w.heap.size+1) 0 0 (.slice none 0 0) (.slice none 0 0) (.slice none 0 0)):=LH hb2;have HT1:Hid (TBox W1 (w.heap.size+1+1) 2 2 (.slice none 0 0) (.slice none 0 0) (.slice none 0 0)):=LH hb3;have HB1:=LH hB0;have HS1:=LH hs0;unfold cellsO cellsT at hW1
 (try unfold cellsO at HW)
 (try unfold cellsO at HWd)
 unfold cellsO
 (try dsimp only at HW)
 (try dsimp only at HWd)
 dsimp only at hW1 ⊢;clear hd hb h hb1 hb2 hb3 hB0 hs0;go_enter Tryz.func119,Tryz.ntmps119
 go_upto_block 0 with fail
 rw[←hW1];clear hW1
 go_cut [] (fun wx=>∃gb,OwnX w wx 2 2 (.slice none 0 0) (.slice (some ⟨gb,0,none⟩) C C) (.slice none 0 0) (fun X=>w.heap.size+3≤gb∧RowB X gb (cutB L C m)))
 case first =>
  obtain ⟨x0,x1,x2,x3,x4,x5,x6⟩:=HO1.out.cells;dsimp only at x0 x1 x2 x3 x4 x5 x6;go_upto_region 9 with fail
  clear x0 x1 x2 x3 x4 x5 x6;have HCel:Hid (∀X,Below W1.heap.size W1 X→(X.cell? ⟨w.heap.size,0,none⟩=some (.int .i64 2)∧X.cell? ⟨w.heap.size,1,none⟩=some (.int .i64 g)∧X.cell? ⟨w.heap.size,2,none⟩=some (.int .i64 a)∧X.cell? ⟨w.heap.size,3,none⟩=some (.int .i64 0)∧X.cell? ⟨w.heap.size,4,none⟩=some (.int .i64 0)∧X.cell? ⟨w.heap.size,5,none⟩=some (.int .i64 2)∧X.cell? ⟨w.heap.size,6,none⟩=some (.int .i64 C))∧X.cell? ⟨w.heap.size+1+1,3,none⟩=some (.slice none 0 0)∧X.frozen? ⟨w.heap.size+1+1,3,none⟩=false):=LH (fun X hX=>⟨(HO1.out.on hX).cells,(HT1.out.on hX).cells.2.2.2.1,(HT1.out.on hX).frozen _⟩)
  have HEnd:Hid (∀X gb,Below W1.heap.size W1 X→W1.heap.size≤gb→RowB X gb (cutB L C m)→OwnX w (X.setCell ⟨w.heap.size+1+1,3,none⟩ (.slice (some ⟨gb,0,none⟩) C C)) 2 2 (.slice none 0 0) (.slice (some ⟨gb,0,none⟩) C C) (.slice none 0 0) (fun X=>w.heap.size+3≤gb∧RowB X gb (cutB L C m))):=LH (fun X gb hX hgb hr=>(own_set (fun A B hx hs hz=>⟨hx.1,(else_rowB w hx.1 _) A B hx.2 hs hz⟩) ⟨HT1.out.on hX,⟨by have:=HS1.out;omega,hr⟩,HN1.out.on hX,HB1.out.trans (hX.mono HB1.out.size)⟩).2.1 _)
  have HWr:=LH (fun X (hX:Below W1.heap.size W1 X)=>HW.out X (HB1.out.trans (hX.mono HB1.out.size)))
  have hD0:Below W1.heap.size W1 W1.drew:=(Below.refl _ _).drew;obtain ⟨⟨x0,x1,x2,x3,x4,x5,x6⟩,y3,f3⟩:=HCel.out _ hD0
  go_region_law (first
   | (go_simp;go_at_call 101;with_reducible refine (HWd.out _).mono ?_;rintro e w6 ⟨rfl,hB6⟩;have hD6:=bseq8 hD0 hB6;clear x0 x1 x2 x3 x4 x5 x6 y3 f3;obtain ⟨⟨x0,x1,x2,x3,x4,x5,x6⟩,y3,f3⟩:=HCel.out _ hD6)
   | (go_simp;go_at_call 137;with_reducible refine (HWr.out _ hD6).mono ?_;rintro e w7 ⟨gw,rfl,hgw,hrw,hB7⟩;have hD7:=bseq8 hD6 hB7;have HCc:=LH (HC.out _ _ _ _ hrw HLn.out HM.out);clear x0 x1 x2 x3 x4 x5 x6 y3 f3;obtain ⟨⟨x0,x1,x2,x3,x4,x5,x6⟩,y3,f3⟩:=HCel.out _ hD7)
   | (go_simp;go_at_call 138;with_reducible refine HCc.out.mono ?_;rintro e w8 ⟨gb,rfl,hgb,hrb,hB8⟩;have hD8:=bseq8 hD7 hB8;have HEE:=LH (HEnd.out _ _ hD8 (Nat.le_trans hD7.size hgb) (by rw[HLn.out] at hrb;exact hrb));clear x0 x1 x2 x3 x4 x5 x6 y3 f3;obtain ⟨⟨x0,x1,x2,x3,x4,x5,x6⟩,y3,f3⟩:=HCel.out _ hD8))
  all_goals go_wp2_with fail
  all_goals go_meet
  all_goals exact ⟨_,HEE.out⟩
 case rest =>
  obtain ⟨gb,hT,⟨hgw,hE⟩,hN,hB⟩:=hcut;have HT:=LH hT;have HN:=LH hN;obtain ⟨x0,x1,x2,x3,x4⟩:=HT.out.cells;obtain ⟨y0,y1,y2,y3,y4⟩:=HN.out.cells;obtain ⟨f0,f1,f2,f3,f4⟩:=HN.out.frozens;have HX:=LH (HN.out.put 2 2 (.slice none 0 0) (.slice (some ⟨gb,0,none⟩) C C) (.slice none 0 0));have HF:Hid ((w.heap.size+3≤gb∧RowB (put5 wc (w.heap.size+1) 0 2 2 (.slice none 0 0) (.slice (some ⟨gb,0,none⟩) C C) (.slice none 0 0)) gb (cutB L C m))∧Below w.heap.size w (put5 wc (w.heap.size+1) 0 2 2 (.slice none 0 0) (.slice (some ⟨gb,0,none⟩) C C) (.slice none 0 0))):=LH (by
   have ho:=fun x (hx:x≠w.heap.size+1)=>put5_other wc (w.heap.size+1) 0 2 2 (.slice none 0 0) (.slice (some ⟨gb,0,none⟩) C C) (.slice none 0 0) x hx
   exact ⟨⟨hgw,hE.of_block (ho _ (by omega))⟩,below_put5 hB (Nat.le_succ _) _ _ _ _ _ _⟩)
  clear hT hN hB hE
  go_wp2_with fail
  unfold put5 at HX HF;simp only[Nat.zero_add] at HX HF;clear y0 y1 y2 y3 y4;obtain ⟨y0,y1,y2,y3,y4⟩:=HX.out.cells;refine bodyPost_ret (v:= .agg (cellsT 2 2 (.slice none 0 0) (.slice (some ⟨gb,0,none⟩) C C) (.slice none 0 0))) ?_ rfl ⟨gb,rfl,HF.out.1.1,HF.out.1.2,HF.out.2⟩
  simp[results,Tryz.f119,go_sem,cellsT,y0,y1,y2,y3,y4]
set_option maxHeartbeats 2000000 in
theorem own_0 (db:Nat) (w:World) :
  Calls Tryz.prog 119 #[.pointer (some ⟨db,0,none⟩),.agg (cellsO Ob.zero)] w fun e w'=>e= .returned (.agg (cellsT 0 0 (.slice none 0 0) (.slice none 0 0) (.slice none 0 0)))∧Below w.heap.size w w':=by
 obtain ⟨hb1,hb2,hb3,hB0,hs0⟩:=three_new w (cellsO Ob.zero) (cellsT 0 0 (.slice none 0 0) (.slice none 0 0) (.slice none 0 0)) (cellsT 0 0 (.slice none 0 0) (.slice none 0 0) (.slice none 0 0)) 129 34 34 _ rfl;obtain ⟨W1,hW1⟩:∃W1,W1=((w.alloc (.cells (cellsO Ob.zero) 129)).alloc (.cells (cellsT 0 0 (.slice none 0 0) (.slice none 0 0) (.slice none 0 0)) 34)).alloc (.cells (cellsT 0 0 (.slice none 0 0) (.slice none 0 0) (.slice none 0 0)) 34):=⟨_,rfl⟩;rw[←hW1] at hb1 hb2 hb3 hB0 hs0;have HO1:Hid (OBox W1 w.heap.size Ob.zero):=LH hb1;have HN1:Hid (TBox W1 (w.heap.size+1) 0 0 (.slice none 0 0) (.slice none 0 0) (.slice none 0 0)):=LH hb2;have HT1:Hid (TBox W1 (w.heap.size+1+1) 0 0 (.slice none 0 0) (.slice none 0 0) (.slice none 0 0)):=LH hb3;have HB1:=LH hB0;unfold cellsO Ob.zero cellsT at hW1;unfold cellsO Ob.zero;dsimp only at hW1 ⊢;clear hb1 hb2 hb3 hB0 hs0;go_enter Tryz.func119,Tryz.ntmps119
 go_upto_block 0 with fail
 rw[←hW1];clear hW1;obtain ⟨x0,x1,x2,x3,x4,x5,x6⟩:=HO1.out.cells;unfold Ob.zero at x0 x1 x2 x3 x4 x5 x6;dsimp only at x0 x1 x2 x3 x4 x5 x6;obtain ⟨z0,z1,z2,z3,z4⟩:=HT1.out.cells;obtain ⟨y0,y1,y2,y3,y4⟩:=HN1.out.cells;obtain ⟨f0,f1,f2,f3,f4⟩:=HN1.out.frozens;have HX:=LH (HN1.out.put 0 0 (.slice none 0 0) (.slice none 0 0) (.slice none 0 0));have HF:=LH (below_put5 (g:=w.heap.size+1) HB1.out (Nat.le_succ _) 0 0 0 (.slice none 0 0) (.slice none 0 0) (.slice none 0 0))
 go_wp2_with fail
 unfold put5 at HX HF;simp only[Nat.zero_add] at HX HF;clear y0 y1 y2 y3 y4;obtain ⟨y0,y1,y2,y3,y4⟩:=HX.out.cells;refine bodyPost_ret (v:= .agg (cellsT 0 0 (.slice none 0 0) (.slice none 0 0) (.slice none 0 0))) ?_ rfl ⟨rfl,HF.out⟩
 simp[results,Tryz.f119,go_sem,cellsT,y0,y1,y2,y3,y4]
theorem NRow.base {w:World} {base base' g:Nat} {ks:List Tr} (h:NRow w base g ks) (hb:base'≤base):NRow w base' g ks:=by
 obtain ⟨h1,h2,cur,hh,hz,hc⟩:=h;refine ⟨Nat.le_trans hb h1,h2,cur,hh,hz,fun j hj=> ?_⟩
 obtain ⟨k,z,vw,vb,vk,e0,e1,e2,e3,e4,ht⟩:=hc j hj;exact ⟨k,z,vw,vb,vk,e0,e1,e2,e3,e4,TrP.mono (fun b hb'=>⟨Nat.le_trans hb hb'.1,hb'.2⟩) _ _ ht⟩
def KidR (w:World) (base:Nat) (vk:Value) (ks:List Tr):Prop:=(ks=[]∧vk= .slice none 0 0)∨∃g,vk= .slice (some ⟨g,0,none⟩) ks.length ks.length∧NRow w base g ks
theorem RowB.numP {w:World} {g:Nat} {l:List Int} (h:RowB w g l) (hm:l.length≤1000000):NumP .u8 w (fun b=>b=g) (.slice (some ⟨g,0,none⟩) l.length l.length) l :=
 ⟨_,_,rfl,Nat.le_refl _,by omega,fun _=>⟨g,0,rfl,rfl,fun j hj=>by rw[Nat.zero_add];exact h.cell hj⟩⟩
def OwnR (s:Sr) (o:Ob) (w:World) (e:Ending) (w':World):Prop :=
 ∃vw vb vk,e= .returned (.agg (cellsT o.kind o.size vw vb vk))∧NumP .u64 w' (fun b=>w.heap.size≤b∧b<w'.heap.size∧vk.ownBlock≠some b) vw (wordsF s o)∧NumP .u8 w' (fun b=>w.heap.size≤b∧b<w'.heap.size∧vk.ownBlock≠some b) vb (bytesF s o)∧KidR w' w.heap.size vk (List.replicate (nKids o) Tr.nil)∧Below w.heap.size w w'
theorem cut_bytes (ls:List (List Int)) (g a:Int) (C:Nat):cutB (wordsN ls g a ((C+7) / 8)) C ((C+7) / 8)=bytesF (srA ls) ⟨2,g,a,0,0,2,C⟩:=by
 unfold cutB bytesF nBytes;dsimp only;rw[if_pos rfl,Int.toNat_natCast];refine List.map_congr_left (fun i hi=> ?_)
 rw[List.mem_range] at hi;rw[if_pos (by omega),wordsN_get _ _ _ (by omega)]
 rfl
theorem fits_size {l:List Int} (h:fitsL l=true) (g:Nat):l[g]?.getD 0≤4096:=by
 unfold fitsL at h;obtain ⟨-,-,-,h4,h5⟩:=of_decide_eq_true h
 by_cases hg:g<l.length
 ·have hs:∀(m:List Int),(∀s∈m,0≤s)→∀j,j<m.length→m[j]?.getD 0≤m.sum:=by
   intro m
   induction m with
   | nil=>intro _ j hj;simp at hj
   | cons x r ih =>
    intro hp j hj;have hr:0≤r.sum:=sum_nonneg (fun s hs=>hp s (List.mem_cons_of_mem _ hs))
    rw[List.sum_cons];cases j with
    | zero=>simp;omega
    | succ j =>
     rw[List.getElem?_cons_succ];have h1:=ih (fun s hs=>hp s (List.mem_cons_of_mem _ hs)) j (by simpa using hj)
     have h2:=hp x (List.mem_cons_self ..)
     omega
  have:=hs l h4 g hg
  omega
 ·rw[List.getElem?_eq_none (by omega)];decide
theorem own_any (db b:Nat) (v:Value) (ls:List (List Int)) (o:Ob) (c:Int) (w:World) (hd:DBox w db b c) (hb:WhBox w b v) (h:ArV w w.heap.size v ls) (hg:GoodO (sizesL ls) o) (hf:fitsL (sizesL ls)=true) :
  Calls Tryz.prog 119 #[.pointer (some ⟨db,0,none⟩),.agg (cellsO o)] w (OwnR (srA ls) o w):=by
 rcases hg with rfl | ⟨hk,hq,he,hw⟩
 ·refine (own_0 db w).mono ?_
  rintro e w' ⟨rfl,hB⟩;exact ⟨_,_,_,rfl,NumP.nil _ _ _,NumP.nil _ _ _,.inl ⟨rfl,rfl⟩,hB⟩
 obtain ⟨k,g,a,d,r,z,n⟩:=o;dsimp only at hk;obtain ⟨b1,b2,b3,b4,-⟩:=okq_bd hq;obtain ⟨w1,w2,w3,w4,w5⟩:=within_at hw;dsimp only [ptrO] at b1 b2 b3 b4 w3 w5;have hsz:=fits_size hf g.toNat
 rcases hk with rfl | rfl
 ·-- a struct
  have hz:z=0∧n=0:=by
   rcases hq with (h0 | ⟨-,-,-,-,h5,h6,-⟩ | ⟨h1,-⟩ | ⟨h1,-⟩) | h0
   ·exact absurd (congrArg Pt.kind h0) (by show ¬(1:Int)=0;decide)
   ·exact ⟨h5,h6⟩
   ·exact absurd h1 (by show ¬(1:Int)=2;decide)
   ·exact absurd h1 (by show ¬(1:Int)=3;decide)
   ·exact ⟨congrArg Pt.size h0,congrArg Pt.count h0⟩
  obtain ⟨rfl,rfl⟩:=hz;obtain ⟨D,rfl⟩:∃D:Nat,d=D:=⟨d.toNat,by omega⟩
  obtain ⟨R,rfl⟩:∃R:Nat,r=R:=⟨r.toNat,by omega⟩
  have hn:wordsO ⟨1,g,a,D,R,0,0⟩=(D:Int)+R:=by unfold wordsO wordN ptrO;dsimp only;rw[if_pos rfl]
  rw[hn] at w5;refine (own_1 db b v ls g a 0 0 D R c w hd hb h (by omega) (by omega) ⟨w3,by omega⟩).mono ?_
  rintro e w' ⟨gw,gk,rfl,h1,h2,h3,h4,hB⟩;have e1:wordsF (srA ls) ⟨1,g,a,D,R,0,0⟩=wordsN ls g a D:=by
   unfold wordsF nWords;dsimp only;rw[if_neg (by decide),Int.toNat_natCast]
   rfl
  have e2:bytesF (srA ls) ⟨1,g,a,D,R,0,0⟩=[]:=by
   unfold bytesF nBytes;dsimp only;rw[if_neg (by decide)]
   rfl
  have e3:nKids ⟨1,g,a,D,R,0,0⟩=R:=by
   unfold nKids;dsimp only;rw[if_neg (by decide),Int.toNat_natCast]
  have hn1:=h3.numP (by rw[wordsN_length];omega);rw[wordsN_length] at hn1;refine ⟨_,_,_,rfl,?_,by rw[e2];exact NumP.nil _ _ _,.inr ⟨gk,by rw[e3,List.length_replicate],by rw[e3];exact h4.base (by omega)⟩,hB⟩
  rw[e1];refine hn1.mono (fun b hb=> ?_)
  subst hb;exact ⟨h1,h3.lt,fun e=>h2 (by injection e with e;exact e.symm)⟩
 ·-- a list
  have hz:d=0∧r=0:=by
   rcases hq with (h0 | ⟨h1,-⟩ | ⟨-,-,h3,h4,-⟩ | ⟨h1,-⟩) | h0
   ·exact absurd (congrArg Pt.kind h0) (by show ¬(2:Int)=0;decide)
   ·exact absurd h1 (by show ¬(2:Int)=1;decide)
   ·exact ⟨h3,h4⟩
   ·exact absurd h1 (by show ¬(2:Int)=3;decide)
   ·exact absurd (congrArg Pt.kind h0) (by show ¬(2:Int)=1;decide)
  obtain ⟨rfl,rfl⟩:=hz;obtain ⟨C,rfl⟩:∃C:Nat,n=C:=⟨n.toNat,by omega⟩
  have hs:z=2∨z=5∨z=6:=by
   unfold wordE ptrO at he;dsimp only at he;rw[if_neg (by decide),if_neg (by decide),if_pos rfl] at he
   by_cases hh:z=2∨z=5∨z=6
   ·exact hh
   ·rw[if_neg hh] at he;exact absurd he (by decide)
  have hn:wordsO ⟨2,g,a,0,0,z,C⟩=if z=2 then ((C:Int)+7) / 8 else C:=by
   unfold wordsO wordN ptrO;dsimp only;rw[if_neg (by decide),if_pos rfl]
   rcases hs with rfl | rfl | rfl
   ·rfl
   ·rfl
   ·rfl
  rw[hn] at w5
  rcases hs with rfl | rfl | rfl
  ·rw[if_pos rfl] at w5;refine (own_2 db b v ls g a C c w hd hb h (by omega) ⟨w3,by omega⟩).mono ?_
   rintro e w' ⟨gb,rfl,h1,h2,hB⟩;rw[cut_bytes] at h2;have hl:(bytesF (srA ls) ⟨2,g,a,0,0,2,C⟩).length=C:=by rw[←cut_bytes,cutB_length]
   have hn1:=h2.numP (by rw[hl];omega);rw[hl] at hn1;refine ⟨_,_,_,rfl,NumP.nil _ _ _,?_,.inl ⟨rfl,rfl⟩,hB⟩;refine hn1.mono (fun b hb=> ?_)
   subst hb;exact ⟨by omega,h2.lt,fun e=>by cases e⟩
  ·rw[if_neg (by decide)] at w5;refine (own_5 db b v ls g a C c w hd hb h (by omega) ⟨w3,by omega⟩).mono ?_
   rintro e w' ⟨gw,rfl,h1,h2,hB⟩;have hn1:=h2.numP (by rw[wordsN_length];omega);rw[wordsN_length] at hn1;refine ⟨_,_,_,rfl,?_,NumP.nil _ _ _,.inl ⟨rfl,rfl⟩,hB⟩;refine (show NumP .u64 w' (fun b=>b=gw) _ (wordsF (srA ls) ⟨2,g,a,0,0,5,C⟩) from hn1).mono (fun b hb=> ?_)
   subst hb;exact ⟨by omega,h2.lt,fun e=>by cases e⟩
  ·rw[if_neg (by decide)] at w5;refine (own_6 db b v ls g a C c w hd hb h (by omega)).mono ?_
   rintro e w' ⟨gk,rfl,h4,hB⟩;exact ⟨_,_,_,rfl,NumP.nil _ _ _,NumP.nil _ _ _,.inr ⟨gk,by rw[show nKids ⟨2,g,a,0,0,6,C⟩=C from rfl,List.length_replicate],h4.base (by omega)⟩,hB⟩
end Go.Proofs.YtmmlfnblodfjbaaGreatDoor
