/- Layer 8: the builder in memory: its box, its row of segments, each segment's row of words. -/
import Derived.Test.YtmmlfnblodfjbaaGreatDoorQPlain
import Derived.Test.YtmmlfnblodfjbaaGreatDoorQSeq
import Derived.Test.YtmmlfnblodfjbaaGreatDoorQCut
import Derived.Test.YtmmlfnblodfjbaaGreatDoorQMem
import Derived.Test.YtmmlfnblodfjbaaGreatDoorQPtr
import Derived.Test.YtmmlfnblodfjbaaGreatDoorQWord
import Derived.Lib.AppendZerosOnto
import Derived.Test.YtmmlfnblodfjbaaGreatDoorQAr
set_option maxRecDepth 100000
namespace Go.Proofs.YtmmlfnblodfjbaaGreatDoor
open Go.RowKit Go.Deep
theorem getD_set {α : Type} {l:List α} {i j:Nat} {x d: α} (h:i<l.length):(l.set i x)[j]?.getD d=if i=j then x else l[j]?.getD d:=by
 rw[List.getElem?_set]
 split
 ·rename_i e
  subst e
  rfl
 ·rfl
theorem own_setV {w:World} {base e n g i cap:Nat} {xs:List Value} (h:w.ownsRow base e 1 (.slice (some ⟨g,0,none⟩) n cap) n xs) (u:Value):(w.setCell ⟨g,i,none⟩ u).ownsRow base e 1 (.slice (some ⟨g,0,none⟩) n cap) n (xs.set i u):=by
 obtain ⟨h1,⟨e0,_⟩ | ⟨g',c,cur,e0,hb,hh,hc,hm,hs,ht⟩⟩:=h
 ·cases e0
 ·injection e0 with e1 e2 e3
  injection e1 with e1
  injection e1 with e1 _ _
  subst e1 e3;refine ⟨by rw[List.length_set];exact h1,.inr ⟨g,cap,cur.setIfInBounds i u,rfl,hb,?_,hc,hm,by rw[Array.size_setIfInBounds];exact hs,?_⟩⟩
  ·simp[World.setCell,Array.getElem?_modify,hh]
  ·rw[←ht,Array.toList_setIfInBounds,List.take_set]
theorem own_frozen {w:World} {base e n g i cap:Nat} {xs:List Value} (h:w.ownsRow base e 1 (.slice (some ⟨g,0,none⟩) n cap) n xs):w.frozen? ⟨g,i,none⟩=false:=by
 obtain ⟨cur,hh,_⟩:=own_cells h rfl
 simp[World.frozen?,hh]
theorem own_cell {w:World} {base e n g i cap:Nat} {xs:List Value} (h:w.ownsRow base e 1 (.slice (some ⟨g,0,none⟩) n cap) n xs) (hi:i<n):w.cell? ⟨g,i,none⟩=some (xs[i]?.getD undef):=by
 have h1:=h.1;have:=World.ownsRow.cellAt h i (by omega);rw[this,List.getElem?_eq_getElem (by omega)]
 rfl
theorem OwnU.out {w:World} {base:Nat} {v:Value} {xs:List Int} (h:OwnU w base v xs) (hp:0<xs.length):∃g cap,v= .slice (some ⟨g,0,none⟩) xs.length cap∧base≤g∧g<w.heap.size:=by
 have h0:=h;obtain ⟨_,⟨_,hn⟩ | ⟨g,cap,cur,rfl,hb,_⟩⟩:=h
 ·omega
 ·exact ⟨g,cap,rfl,hb,(World.ownsRow.lt h0 g rfl).2⟩
theorem OwnU.set {w:World} {base g i n cap:Nat} {xs:List Int} (h:OwnU w base (.slice (some ⟨g,0,none⟩) n cap) xs) (hn:n=xs.length) (x:Int):OwnU (w.setCell ⟨g,i,none⟩ (.int .u64 x)) base (.slice (some ⟨g,0,none⟩) n cap) (xs.set i x):=by
 subst hn;have:=own_setV (i:=i) h (.int .u64 x);unfold OwnU OwnN;rw[List.length_set,List.map_set];exact this
structure BuS (W:World) (base bb:Nat) (sz:Int) (a:List (List Int)) (g c:Nat) (us:List Value):Prop where
 box:W.heap[bb]? = some (.cells #[.slice (some ⟨g,0,none⟩) us.length c,.int .i64 sz] 115 (0,0))
 hbb:base≤bb
 row:W.ownsRow base 31 1 (.slice (some ⟨g,0,none⟩) us.length c) us.length us
 len:us.length=a.length
 segs:∀j,j<a.length→OwnU W base (us[j]?.getD undef) (a[j]?.getD [])
 apart:∀i j b,i<a.length→j<a.length→i≠j→(us[i]?.getD undef).ownBlock=some b→(us[j]?.getD undef).ownBlock≠some b
theorem BuS.lt {W:World} {base bb:Nat} {sz:Int} {a:List (List Int)} {g c:Nat} {us:List Value} (h:BuS W base bb sz a g c us):bb<W.heap.size:=(Array.getElem?_eq_some_iff.1 h.box).1
theorem BuS.cells {W:World} {base bb:Nat} {sz:Int} {a:List (List Int)} {g c:Nat} {us:List Value} (h:BuS W base bb sz a g c us):W.cell? ⟨bb,0,none⟩=some (.slice (some ⟨g,0,none⟩) us.length c)∧W.cell? ⟨bb,1,none⟩=some (.int .i64 sz):=by
 have:=h.box
 simp[World.cell?,this]
theorem BuS.grow {W:World} {base bb:Nat} {sz:Int} {a:List (List Int)} {g c:Nat} {us:List Value} (h:BuS W base bb sz a g c us):g<W.heap.size∧base≤g:=by
 have:=World.ownsRow.lt h.row g rfl;exact ⟨this.2,this.1⟩
theorem BuS.cap {W:World} {base bb:Nat} {sz:Int} {a:List (List Int)} {g c:Nat} {us:List Value} (h:BuS W base bb sz a g c us):us.length≤c∧c≤9223372036854775807:=by
 obtain ⟨_,⟨e0,_⟩ | ⟨g',c',cur,e0,hb,hh,hc,hm,_⟩⟩:=h.row
 ·cases e0
 ·injection e0 with _ _ e3
  subst e3;unfold maxLen at hm;exact ⟨hc,by omega⟩
theorem BuS.at_ {W:World} {base bb:Nat} {sz:Int} {a:List (List Int)} {g c:Nat} {us:List Value} (h:BuS W base bb sz a g c us) {j:Nat} (hj:j<a.length):W.cell? ⟨g,j,none⟩=some (us[j]?.getD undef):=own_cell h.row (by rw[h.len];exact hj)
theorem BuS.on {W W':World} {base bb:Nat} {sz:Int} {a:List (List Int)} {g c:Nat} {us:List Value} (h:BuS W base bb sz a g c us) (hB:Below W.heap.size W W'):BuS W' base bb sz a g c us :=
 ⟨(hB.block bb h.lt).trans h.box,h.hbb,own_on h.row hB,h.len,fun j hj=>(h.segs j hj).on hB,h.apart⟩
theorem BuS.arV {W:World} {base bb:Nat} {sz:Int} {a:List (List Int)} {g c:Nat} {us:List Value} (h:BuS W base bb sz a g c us):ArV W W.heap.size (.slice (some ⟨g,0,none⟩) us.length c) a :=
 OwnA.arV (base:=base) ⟨us,h.len,by rw[←h.len];exact h.row,h.segs⟩
theorem BuS.seg {W:World} {base bb:Nat} {sz:Int} {a:List (List Int)} {g c:Nat} {us:List Value} (h:BuS W base bb sz a g c us) {j:Nat} (hj:j<a.length):∃A k,us[j]?.getD undef= .slice A (a[j]?.getD []).length k:=by
 obtain ⟨A,k,e,_⟩:=OwnN.numS (q:= .u64) (t:=44) (h.segs j hj);exact ⟨A,k,e⟩
theorem BuS.blocks {W:World} {base bb:Nat} {sz:Int} {a:List (List Int)} {g c:Nat} {us:List Value} (h:BuS W base bb sz a g c us) {j b:Nat} (hj:j<a.length) (hb:(us[j]?.getD undef).ownBlock=some b):b≠g∧b≠bb∧base≤b∧b<W.heap.size:=by
 obtain ⟨cur,e1,e2⟩:=own_cells (h.segs j hj) hb;refine ⟨fun e=> ?_,fun e=> ?_,e2,(World.ownsRow.lt (h.segs j hj) b hb).2⟩
 ·subst e;exact own_type h.row (h.segs j hj) (by decide) rfl hb
 ·subst e;rw[h.box] at e1
  simp at e1
theorem BuS.row_box {W:World} {base bb:Nat} {sz:Int} {a:List (List Int)} {g c:Nat} {us:List Value} (h:BuS W base bb sz a g c us):g≠bb:=by
 intro e;obtain ⟨cur,e1,e2⟩:=own_cells h.row rfl;rw[e,h.box] at e1
 simp at e1
theorem BuS.put {W:World} {base bb:Nat} {sz:Int} {a:List (List Int)} {g c:Nat} {us:List Value} (h:BuS W base bb sz a g c us) {s i gs k:Nat} (hs:s<a.length) (hu:us[s]?.getD undef= .slice (some ⟨gs,0,none⟩) (a[s]?.getD []).length k) (x:Int) :
  BuS (W.setCell ⟨gs,i,none⟩ (.int .u64 x)) base bb sz (setA a s i x) g c us:=by
 have hb:=h.blocks hs (b:=gs) (by rw[hu];rfl);have hg:=grown_set W gs i (.int .u64 x);refine ⟨?_,h.hbb,own_kept2 h.row hg (fun b e1 e2=> ?_),by rw[setA_len];exact h.len,fun j hj=> ?_,fun i' j b hi' hj=>h.apart i' j b (by rw[setA_len] at hi';exact hi') (by rw[setA_len] at hj;exact hj)⟩
 ·rw[blk_setCell_other _ _ _ _ (by exact fun e=>hb.2.1 e.symm)]
  exact h.box
 ·cases e1
  cases e2
  exact hb.1 rfl
 ·rw[setA_len] at hj;unfold setA;rw[getD_set hs]
  split
  ·rename_i e
   subst e;rw[hu];have:=h.segs s hs;rw[hu] at this;exact this.set rfl x
  ·rename_i e
   exact own_kept2 (h.segs j hj) hg (fun b e1 e2=>by
    cases e2
    exact h.apart s j gs hs hj e (by rw[hu];rfl) e1)
theorem KeepR.cell {base bb:Nat} {W X:World} (h:KeepR base (some bb) W X) {g i:Nat} {v:Value} (hb:base≤g) (hx:base≤X.heap.size) (hp:∀o,X.heap[g]? = some o→plainO o=false):KeepR base (some bb) W (X.setCell ⟨g,i,none⟩ v) :=
 h.grown (grown_set X g i v) hx (fun r e=>by cases e;exact ⟨hb,.inr hp⟩)
theorem KeepR.box {base bb:Nat} {W X:World} (h:KeepR base (some bb) W X) {i:Nat} {v:Value} (hb:base≤bb) (hx:base≤X.heap.size):KeepR base (some bb) W (X.setCell ⟨bb,i,none⟩ v) :=
 h.grown (grown_set X bb i v) hx (fun r e=>by cases e;exact ⟨hb,.inl rfl⟩)
theorem plain_u {W:World} {base:Nat} {v:Value} {xs:List Int} {b:Nat} (h:OwnU W base v xs) (hb:v.ownBlock=some b):∀o,W.heap[b]? = some o→plainO o=false:=by
 intro o ho;obtain ⟨cur,e1,_⟩:=own_cells h hb;rw[e1] at ho;cases ho
 rfl
theorem plain_row {W:World} {base bb:Nat} {sz:Int} {a:List (List Int)} {g c:Nat} {us:List Value} (h:BuS W base bb sz a g c us):∀o,W.heap[g]? = some o→plainO o=false:=by
 intro o ho;obtain ⟨cur,e1,_⟩:=own_cells h.row rfl;rw[e1] at ho;cases ho
 rfl
theorem BuS.put_keep {W:World} {base bb:Nat} {sz:Int} {a:List (List Int)} {g c:Nat} {us:List Value} (h:BuS W base bb sz a g c us) {s i gs k:Nat} (hs:s<a.length) (hu:us[s]?.getD undef= .slice (some ⟨gs,0,none⟩) (a[s]?.getD []).length k) (v:Value):KeepR base (some bb) W (W.setCell ⟨gs,i,none⟩ v):=by
 have hb:=h.blocks hs (b:=gs) (by rw[hu];rfl);exact (KeepR.refl _ _ _).cell hb.2.2.1 (by omega) (plain_u (h.segs s hs) (by rw[hu];rfl))
theorem BuS.swap {W W1:World} {base bb:Nat} {sz:Int} {a:List (List Int)} {g c:Nat} {us:List Value} (h:BuS W base bb sz a g c us) {s:Nat} (hs:s<a.length) {v':Value} {l':List Int} (hg:W.grownBy W1 (us[s]?.getD undef).ownBlock) (ho:OwnU W1 base v' l')
  (hn:v'.ownBlock=(us[s]?.getD undef).ownBlock∨∀b,v'.ownBlock=some b→W.heap.size≤b) :
  BuS (W1.setCell ⟨g,s,none⟩ v') base bb sz (a.set s l') g c (us.set s v')∧KeepR base (some bb) W (W1.setCell ⟨g,s,none⟩ v')∧W1.cell? ⟨g,s,none⟩=some (us[s]?.getD undef)∧W1.frozen? ⟨g,s,none⟩=false∧W1.cell? ⟨bb,0,none⟩=some (.slice (some ⟨g,0,none⟩) us.length c):=by
 have hz:=hg.size;have hlt:=h.lt;have hbb:=h.hbb;have hrow:W1.ownsRow base 31 1 (.slice (some ⟨g,0,none⟩) us.length c) us.length us:=own_kept2 h.row hg (fun b e1 e2=>by
  cases e1
  exact (h.blocks hs e2).1 rfl)
 have hbox:W1.heap[bb]? = some (.cells #[.slice (some ⟨g,0,none⟩) us.length c,.int .i64 sz] 115 (0,0)):=(hg.block bb hlt (fun e=>(h.blocks hs e.symm).2.1 rfl)).trans h.box
 have hseg:∀j,j<a.length→s≠j→OwnU W1 base (us[j]?.getD undef) (a[j]?.getD []):=fun j hj hne=>own_kept2 (h.segs j hj) hg (fun b e1 e2=>h.apart s j b hs hj hne e2 e1)
 have hgs:=grown_set W1 g s v';have hne:=h.row_box;have hlen:s<us.length:=by rw[h.len];exact hs
 have e0:us.length=(us.set s v').length:=by rw[List.length_set]
 have hp:∀o,W1.heap[g]? = some o→plainO o=false:=fun o ho=>by
  obtain ⟨cur,e1,_⟩:=own_cells hrow rfl;rw[e1] at ho;cases ho
  rfl
 refine ⟨⟨?_,hbb,?_,by rw[List.length_set,List.length_set];exact h.len,fun j hj=> ?_,fun i j b hi hj hij=> ?_⟩,?_,own_cell hrow hlen,own_frozen hrow,by simp[World.cell?,hbox]⟩
 ·rw[blk_setCell_other _ _ _ _ (by exact fun e=>hne e.symm),←e0]
  exact hbox
 ·rw[←e0];exact own_setV hrow v'
 ·rw[List.length_set] at hj;rw[getD_set hlen,getD_set hs]
  split
  ·exact own_kept2 ho hgs (fun b e1 e2=>by
    cases e2
    exact own_type hrow ho (by decide) rfl e1)
  ·rename_i e
   exact own_kept2 (hseg j hj e) hgs (fun b e1 e2=>by
    cases e2
    exact own_type hrow (hseg j hj e) (by decide) rfl e1)
 ·rw[List.length_set] at hi hj;rw[getD_set hlen,getD_set hlen];have new:∀k b,k<a.length→s≠k→v'.ownBlock=some b→(us[k]?.getD undef).ownBlock≠some b:=fun k b hk hsk e1 e2=>by
   rcases hn with e | e
   ·exact h.apart s k b hs hk hsk (by rw[←e];exact e1) e2
   ·have:=e b e1;have:=(h.blocks hk e2).2.2.2
    omega
  split
  ·rename_i e
   subst e;rw[if_neg hij];exact new j b hj hij
  ·rename_i e
   split
   ·rename_i e2
    subst e2;intro e1 e3;exact new i b hi e e3 e1
   ·exact h.apart i j b hi hj hij
 ·refine ((KeepR.refl base (some bb) W).grown hg (by omega) (fun r e=> ?_)).cell h.grow.2 (by omega) hp
  exact ⟨(h.blocks hs e).2.2.1,.inr (plain_u (h.segs s hs) e)⟩
theorem BuS.more {W:World} {base bb:Nat} {sz:Int} {a:List (List Int)} {g c:Nat} {us:List Value} (h:BuS W base bb sz a g c us) (ty:Nat) (hsm:a.length≤1000000) :
  ∃g' c' W2,(Builtin.append_ #[23,23] ty #[.slice (some ⟨g,0,none⟩) us.length c,.slice (some ⟨W.heap.size,0,none⟩) 1 1]).run Tryz.prog (W.alloc (.cells #[.slice none 0 0] 31))= .ok (.slice (some ⟨g',0,none⟩) (us.length+1) c') W2 ∧
   BuS (W2.setCell ⟨bb,0,none⟩ (.slice (some ⟨g',0,none⟩) (us.length+1) c')) base bb sz (a ++ [[]]) g' c' (us ++ [.slice none 0 0])∧KeepR base (some bb) W (W2.setCell ⟨bb,0,none⟩ (.slice (some ⟨g',0,none⟩) (us.length+1) c'))∧W2.cell? ⟨bb,0,none⟩=some (.slice (some ⟨g,0,none⟩) us.length c)∧W2.frozen? ⟨bb,0,none⟩=false:=by
 obtain ⟨i0,hi,hz0,hz1,hz2⟩:=info_parts Tryz.info31;have hlt:=h.lt;have hbb:=h.hbb;have hul:us.length≤1000000:=by rw[h.len];exact hsm
 obtain ⟨v',W2,hrun,ho,hg,_,hl⟩:=run_append_own_at (P:=Tryz.prog) (w:=W.alloc (.cells #[.slice none 0 0] 31)) base 23 ty 31 i0 _ 1 24 Tryz.underlying23 hi hz0 hz1 hz2 rfl (by decide) _ us.length us (World.ownsRow.alloc h.row _) ⟨W.heap.size,0,none⟩ 1 1 [.slice none 0 0] rfl (cell_one_new _ _ _) (fun u hu=>by simp at hu;subst hu;rfl) (by unfold maxLen;omega) (by omega) (by simp;omega)
 obtain ⟨g',c',rfl⟩:=ownsRow_succ ho;have hz:W.heap.size+1≤W2.heap.size:=by have:=hg.size;rwa [World.size_alloc] at this
 have hB:Below W.heap.size W (W.alloc (.cells #[.slice none 0 0] 31)):=(Below.refl _ _).alloc (Nat.le_refl _) _;have h1:=h.on hB;have hbox:W2.heap[bb]? = some (.cells #[.slice (some ⟨g,0,none⟩) us.length c,.int .i64 sz] 115 (0,0)):=(hg.block bb h1.lt (fun e=>by cases e;exact h.row_box rfl)).trans h1.box
 have hseg:∀j,j<a.length→OwnU W2 base (us[j]?.getD undef) (a[j]?.getD []):=fun j hj=>own_kept2 (h1.segs j hj) hg (fun b e1 e2=>by
  cases e2
  exact (h.blocks hj e1).1 rfl)
 have hgs:=grown_set W2 bb 0 (.slice (some ⟨g',0,none⟩) (us.length+1) c');have e0:(us ++ [Value.slice none 0 0]).length=us.length+1:=by simp
 have hne2:∀{e n:Nat} {v:Value} {xs:List Value},e≠115→W2.ownsRow base e 1 v n xs→∀b,v.ownBlock=some b→some bb≠some b:=fun he hr b e1 e2=>by
  cases e2
  obtain ⟨cur,e3,_⟩:=own_cells hr e1;rw[hbox] at e3
  simp at e3
  exact he e3.2.symm
 refine ⟨g',c',W2,hrun,⟨?_,hbb,?_,by rw[e0,List.length_append,h.len];rfl,fun j hj=> ?_,fun i j b hi hj hij=> ?_⟩,?_,by simp[World.cell?,hbox],by simp[World.frozen?,hbox]⟩
 ·rw[e0]
  simp[World.setCell,Array.getElem?_modify,hbox]
 ·rw[e0];exact own_kept2 ho hgs (fun b e1=>hne2 (by decide) ho b e1)
 ·rw[List.length_append] at hj;simp only[List.length_cons,List.length_nil] at hj
  by_cases e:j<a.length
  ·rw[List.getElem?_append_left (by rw[h.len];exact e),List.getElem?_append_left e];exact own_kept2 (hseg j e) hgs (fun b e1=>hne2 (by decide) (hseg j e) b e1)
  ·obtain rfl:j=a.length:=by omega
   rw[List.getElem?_append_right (by rw[h.len];exact Nat.le_refl _),List.getElem?_append_right (Nat.le_refl _),h.len,Nat.sub_self];exact OwnU.nil _ _
 ·rw[List.length_append] at hi hj;simp only[List.length_cons,List.length_nil] at hi hj
  by_cases ei:i<a.length
  ·rw[List.getElem?_append_left (by rw[h.len];exact ei)]
   by_cases ej:j<a.length
   ·rw[List.getElem?_append_left (by rw[h.len];exact ej)];exact h.apart i j b ei ej hij
   ·obtain rfl:j=a.length:=by omega
    rw[List.getElem?_append_right (by rw[h.len];exact Nat.le_refl _),h.len,Nat.sub_self]
    simp[Value.ownBlock]
  ·obtain rfl:i=a.length:=by omega
   rw[List.getElem?_append_right (by rw[h.len];exact Nat.le_refl _),h.len,Nat.sub_self]
   simp[Value.ownBlock]
 ·refine (((KeepR.refl base (some bb) W).alloc (by omega) _).grown hg (by simp;omega) (fun r e=> ?_)).box hbb (by omega)
  cases e
  exact ⟨h.grow.2,.inr (plain_row h1)⟩
def CellsT (w:World) (T b:Nat):Prop:=∃cur,w.heap[b]? = some (.cells cur T (0,0))
theorem CellsT.same {w w':World} {T b:Nat} (h:CellsT w T b) (hk:w'.heap[b]? = w.heap[b]?):CellsT w' T b:=by
 obtain ⟨cur,hc⟩:=h;exact ⟨cur,hk.trans hc⟩
def NumT (w:World) (P:Nat→Prop) (v:Value) (l:List Int):Prop :=
 NumP .u64 w P v l∧(0<l.length→∃g off n c,v= .slice (some ⟨g,off,none⟩) n c∧P g∧CellsT w 44 g)
theorem NumT.mono {w:World} {P Q:Nat→Prop} {v:Value} {l:List Int} (h:NumT w P v l) (hPQ:∀b,P b→Q b):NumT w Q v l:=by
 refine ⟨h.1.mono hPQ,fun hp=> ?_⟩
 obtain ⟨g,off,n,c,e,hg,hc⟩:=h.2 hp;exact ⟨g,off,n,c,e,hPQ g hg,hc⟩
theorem NumT.keep {w w':World} {P:Nat→Prop} {v:Value} {l:List Int} (h:NumT w P v l) (hk:∀b,P b→w'.heap[b]? = w.heap[b]?):NumT w' P v l:=by
 refine ⟨h.1.keep hk,fun hp=> ?_⟩
 obtain ⟨g,off,n,c,e,hg,hc⟩:=h.2 hp;exact ⟨g,off,n,c,e,hg,hc.same (hk g hg)⟩
theorem NumT.numS {w:World} {P:Nat→Prop} {v:Value} {l:List Int} {B:Nat} (h:NumT w P v l) (hB:∀b,P b→b<B):NumS .u64 w B v l:=h.1.numS hB
theorem NumT.nil (w:World) (P:Nat→Prop):NumT w P (.slice none 0 0) []:=⟨NumP.nil _ _ _,fun h=>by simp at h⟩
theorem own_numT {w:World} {base:Nat} {v:Value} {l:List Int} (h:OwnN .u64 44 w base v l):NumT w (fun b=>v.ownBlock=some b) v l:=by
 refine ⟨OwnN.numP h,fun hp=> ?_⟩
 obtain ⟨_,⟨_,e⟩ | ⟨g,cap,cur,e,_,hh,_⟩⟩:=h
 ·omega
 ·subst e;exact ⟨g,0,_,_,rfl,rfl,cur,hh⟩
def ArP (w:World) (P:Nat→Prop) (v:Value) (ls:List (List Int)):Prop :=
 ∃A c,v= .slice A ls.length c∧ls.length≤c∧c≤9223372036854775807∧(0<ls.length→∃b off,A=some ⟨b,off,none⟩∧(P b∧CellsT w 31 b)∧∀j,j<ls.length→∃s,w.cell? ⟨b,off+j,none⟩=some s∧NumT w P s (ls[j]?.getD []))
theorem ArP.keep {w w':World} {P:Nat→Prop} {v:Value} {ls:List (List Int)} (h:ArP w P v ls) (hk:∀b,P b→w'.heap[b]? = w.heap[b]?):ArP w' P v ls:=by
 obtain ⟨A,c,e,hc,hm,hr⟩:=h;refine ⟨A,c,e,hc,hm,fun hl=> ?_⟩
 obtain ⟨b,off,ea,hb,hcell⟩:=hr hl;refine ⟨b,off,ea,⟨hb.1,hb.2.same (hk b hb.1)⟩,fun j hj=> ?_⟩
 obtain ⟨s,h1,h2⟩:=hcell j hj;exact ⟨s,(cell_same (hk b hb.1) _).trans h1,h2.keep hk⟩
theorem ArP.mono {w:World} {P Q:Nat→Prop} {v:Value} {ls:List (List Int)} (h:ArP w P v ls) (hPQ:∀b,P b→Q b):ArP w Q v ls:=by
 obtain ⟨A,c,e,hc,hm,hr⟩:=h;refine ⟨A,c,e,hc,hm,fun hl=> ?_⟩
 obtain ⟨b,off,ea,hb,hcell⟩:=hr hl;refine ⟨b,off,ea,⟨hPQ b hb.1,hb.2⟩,fun j hj=> ?_⟩
 obtain ⟨s,h1,h2⟩:=hcell j hj;exact ⟨s,h1,h2.mono hPQ⟩
theorem ArP.arV {w:World} {P:Nat→Prop} {B:Nat} {v:Value} {ls:List (List Int)} (h:ArP w P v ls) (hB:∀b,P b→b<B):ArV w B v ls:=by
 obtain ⟨A,c,e,hc,hm,hr⟩:=h;refine ⟨A,c,e,hc,hm,fun hl=> ?_⟩
 obtain ⟨b,off,ea,hb,hcell⟩:=hr hl;refine ⟨b,off,ea,hB b hb.1,fun j hj=> ?_⟩
 obtain ⟨s,h1,h2⟩:=hcell j hj;exact ⟨s,h1,h2.numS hB⟩
theorem append_words (w:World) (base B ty:Nat) (v:Value) (xs:List Int) (y:Value) (l:List Int) (hown:OwnU w base v xs) (hb:NumS .u64 w B y l) (hk:xs.length+l.length≤1000000000) (hbase:base≤w.heap.size) :
  ∃v' w',(Builtin.append_ #[31,31] ty #[v,y]).run Tryz.prog w= .ok v' w'∧OwnU w' base v' (xs ++ l)∧w.grownBy w' v.ownBlock:=by
 obtain ⟨i0,hi,hz0,hz1,hz2⟩:=info_parts Tryz.info44;have ht:=Tryz.underlying31;obtain ⟨A,c,rfl,h1,h2,hr⟩:=hb
 rcases A with _ | ad
 ·have h0:l.length=0:=by
   rcases Nat.eq_zero_or_pos l.length with h | h
   ·exact h
   ·obtain ⟨b,off,e,_⟩:=hr (by omega);cases e
  have hl:l=[]:=List.eq_nil_of_length_eq_zero h0;subst hl;refine ⟨v,w,?_,by rwa [List.append_nil],⟨rfl,rfl,rfl,Nat.le_refl _,fun _ _ _=>rfl⟩⟩
  rcases hown.2 with ⟨rfl,e⟩ | ⟨g,cap,cur,rfl,hbg,hg,hnc,hcm,hcs,htake⟩
  ·simp[Builtin.append_,run_underlying ht,sizeOf,typeInfo,hi,Builtin.lenOf,Builtin.firstCells]
  ·simp[Builtin.append_,run_underlying ht,sizeOf,typeInfo,hi,Builtin.lenOf,Builtin.firstCells,hnc,storeCells]
 ·obtain ⟨v',w',hrun,ho,hg,_⟩:=run_append_own (P:=Tryz.prog) w base 31 ty 44 i0 (.int .u64 0) 1 8 ht hi hz0 hz1 hz2 rfl (by decide) v xs.length (xs.map (Value.int .u64)) hown ad l.length c (l.map (Value.int .u64)) (by simp)
   (fun j u hu=>by
    rw[List.getElem?_map,Option.map_eq_some_iff] at hu;obtain ⟨x,hx,rfl⟩:=hu;have hj:j<l.length:=(List.getElem?_eq_some_iff.1 hx).1;obtain ⟨b,off,e,_,hc⟩:=hr (by omega)
    injection e with e
    subst e;have:=hc j hj;rw[hx,Option.getD_some] at this;rw[Addr.add_lit];exact this)
   (fun u hu=>by obtain ⟨x,_,rfl⟩:=List.mem_map.1 hu;rfl) (by unfold maxLen;omega) (by omega) hbase
  refine ⟨v',w',hrun,?_,hg⟩;unfold OwnU OwnN;rw[List.length_append,List.map_append];exact ho
theorem append_rows (w:World) (P:Nat→Prop) (ty n:Nat) (A:Option Addr) (c:Nat) (ls:List (List Int)) (h:ArP w P (.slice A n c) ls) (hn:n=ls.length) (hp:0<n) (hk:n≤1000000) :
  ∃g c' w' us,us.length=n∧(Builtin.append_ #[23,23] ty #[.slice none 0 0,.slice A n c]).run Tryz.prog w= .ok (.slice (some ⟨g,0,none⟩) n c') w'∧w'.ownsRow w.heap.size 31 1 (.slice (some ⟨g,0,none⟩) n c') n us∧Below w.heap.size w w' ∧
   ∀j,j<n→NumT w P (us[j]?.getD undef) (ls[j]?.getD []):=by
 obtain ⟨i0,hi,hz0,hz1,hz2⟩:=info_parts Tryz.info31;obtain ⟨A',c'',e,h1,h2,hr⟩:=h;rw[←hn] at e h1 hr;cases e
 obtain ⟨b,off,rfl,hb,hcell⟩:=hr (by omega);have hus:∀j,j<n→((List.range n).map (fun j=>(w.cell? ⟨b,off+j,none⟩).getD undef))[j]? = some ((w.cell? ⟨b,off+j,none⟩).getD undef):=fun j hj=>by
  rw[List.getElem?_map,List.getElem?_range hj]
  rfl
 obtain ⟨v',w',hrun,ho,hg,-⟩:=run_append_own (P:=Tryz.prog) w w.heap.size 23 ty 31 i0 (.slice none 0 0) 1 24 Tryz.underlying23 hi hz0 hz1 hz2 rfl (by decide) (.slice none 0 0) 0 [] (World.ownsRow_nil _ _ _ _) ⟨b,off,none⟩ n c ((List.range n).map (fun j=>(w.cell? ⟨b,off+j,none⟩).getD undef)) (by simp)
  (fun j u hu=>by
   have hj:j<n:=by have:=(List.getElem?_eq_some_iff.1 hu).1;simpa using this
   rw[hus j hj] at hu;obtain ⟨s,e1,_⟩:=hcell j (by omega);rw[e1] at hu;rw[Addr.add_lit,e1]
   simpa using hu)
  (fun u hu=>by
   obtain ⟨j,hj,rfl⟩:=List.mem_map.1 hu;obtain ⟨s,e1,e2⟩:=hcell j (by have:=List.mem_range.1 hj;omega);obtain ⟨⟨A9,c9,rfl,_⟩,-⟩:=e2;rw[e1]
   rfl) (by unfold maxLen;omega) (by omega) (Nat.le_refl _)
 rw[Nat.zero_add,List.nil_append] at ho;obtain ⟨n',rfl⟩:∃n',n=n'+1:=⟨n - 1,by omega⟩
 obtain ⟨g',c3,rfl⟩:=ownsRow_succ ho;refine ⟨g',c3,w',_,by simp,hrun,ho,(Below.refl _ _).grown hg (Nat.le_refl _) (fun k e=>by cases e),fun j hj=> ?_⟩
 rw[hus j hj];obtain ⟨s,e1,e2⟩:=hcell j (by omega);rw[e1];exact e2
theorem ar_of {w:World} {base n:Nat} {P:Nat→Prop} {v:Value} {vs:List Value} {ls:List (List Int)} (h:w.ownsRow base 31 1 v n vs) (hn:n=ls.length) (hs:∀j,j<n→NumT w P (vs[j]?.getD undef) (ls[j]?.getD [])) (hB:∀g,v.ownBlock=some g→P g):ArP w P v ls:=by
 subst hn;have h0:=h;obtain ⟨h1,⟨rfl,hn⟩ | ⟨g,cap,cur,rfl,hb,hh,hc,hm,_,ht⟩⟩:=h
 ·exact ⟨none,0,by rw[hn],by omega,by omega,fun hp=>by omega⟩
 ·refine ⟨_,cap,rfl,hc,by unfold maxLen at hm;omega,fun hp=>⟨g,0,rfl,⟨hB g rfl,cur,hh⟩,fun j hj=>⟨vs[j]?.getD undef,?_,hs j hj⟩⟩⟩
  rw[Nat.zero_add,World.ownsRow.cellAt h0 j (by omega),List.getElem?_eq_getElem (by omega)]
  rfl
def SBox (w:World) (g:Nat) (va:Value) (sz:Int) (f:Bool):Prop:=w.heap[g]? = some (.cells #[va,.int .i64 sz,.bool f] 77)
theorem SBox.new (w:World) (va:Value) (sz:Int) (f:Bool):SBox (w.alloc (.cells #[va,.int .i64 sz,.bool f] 77)) w.heap.size va sz f:=by unfold SBox;rw[blk_alloc_new]
theorem SBox.lt {w:World} {g:Nat} {va:Value} {sz:Int} {f:Bool} (h:SBox w g va sz f):g<w.heap.size:=(Array.getElem?_eq_some_iff.1 h).1
theorem SBox.on {w w':World} {g:Nat} {va:Value} {sz:Int} {f:Bool} (h:SBox w g va sz f) (hB:Below w.heap.size w w'):SBox w' g va sz f:=(hB.block g h.lt).trans h
theorem SBox.cells {w:World} {g:Nat} {va:Value} {sz:Int} {f:Bool} (h:SBox w g va sz f):w.cell? ⟨g,0,none⟩=some va∧w.cell? ⟨g,1,none⟩=some (.int .i64 sz)∧w.cell? ⟨g,2,none⟩=some (.bool f):=by
 unfold SBox at h
 simp[World.cell?,h]
theorem SBox.frozen {w:World} {g:Nat} {va:Value} {sz:Int} {f:Bool} (h:SBox w g va sz f) (i:Nat):w.frozen? ⟨g,i,none⟩=false:=by
 unfold SBox at h
 simp[World.frozen?,h]
theorem SBox.set0 {w:World} {g:Nat} {va:Value} {sz:Int} {f:Bool} (h:SBox w g va sz f) (x:Value):SBox (w.setCell ⟨g,0,none⟩ x) g x sz f:=by
 unfold SBox at *
 simp[World.setCell,Array.getElem?_modify,h]
theorem SBox.set1 {w:World} {g:Nat} {va:Value} {sz:Int} {f:Bool} (h:SBox w g va sz f) (x:Int):SBox (w.setCell ⟨g,1,none⟩ (.int .i64 x)) g va x f:=by
 unfold SBox at *
 simp[World.setCell,Array.getElem?_modify,h]
theorem SBox.set2 {w:World} {g:Nat} {va:Value} {sz:Int} {f:Bool} (h:SBox w g va sz f) (x:Bool):SBox (w.setCell ⟨g,2,none⟩ (.bool x)) g va sz x:=by
 unfold SBox at *
 simp[World.setCell,Array.getElem?_modify,h]
theorem SBox.set3 {w:World} {g:Nat} {va:Value} {sz:Int} {f:Bool} (h:SBox w g va sz f) (va':Value) (sz':Int) (f':Bool):SBox (((w.setCell ⟨g,0,none⟩ va').setCell ⟨g,1,none⟩ (.int .i64 sz')).setCell ⟨g,2,none⟩ (.bool f')) g va' sz' f':=((h.set0 va').set1 sz').set2 f'
theorem set3_other (w:World) (g:Nat) (a0 a1 a2:Value) {b:Nat} (h:b≠g):(((w.setCell ⟨g,0,none⟩ a0).setCell ⟨g,1,none⟩ a1).setCell ⟨g,2,none⟩ a2).heap[b]? = w.heap[b]? := by
 rw[blk_setCell_other _ _ _ _ h,blk_setCell_other _ _ _ _ h,blk_setCell_other _ _ _ _ h]
theorem below_set3 {B:Nat} {a w:World} (h:Below B a w) {g:Nat} (hg:B≤g) (a0 a1 a2:Value):Below B a (((w.setCell ⟨g,0,none⟩ a0).setCell ⟨g,1,none⟩ a1).setCell ⟨g,2,none⟩ a2) :=
 ((h.setCell (p:=⟨g,0,none⟩) hg _).setCell (p:=⟨g,1,none⟩) hg _).setCell (p:=⟨g,2,none⟩) hg _
theorem SBox.apart {w:World} {g:Nat} {va:Value} {sz:Int} {f:Bool} (h:SBox w g va sz f) {g' i:Nat} {v:Value} (hne:g≠g'):SBox (w.setCell ⟨g',i,none⟩ v) g va sz f:=(blk_setCell_other _ _ _ _ hne).trans h
theorem own_same {w w':World} {base e n:Nat} {v:Value} {xs:List Value} (h:w.ownsRow base e 1 v n xs) (hk:∀g,v.ownBlock=some g→w'.heap[g]? = w.heap[g]?):w'.ownsRow base e 1 v n xs:=by
 obtain ⟨h1,h2 | ⟨g,c,cur,rfl,hb,hh,r⟩⟩:=h
 ·exact ⟨h1,.inl h2⟩
 ·exact ⟨h1,.inr ⟨g,c,cur,rfl,hb,(hk g rfl).trans hh,r⟩⟩
set_option maxHeartbeats 1000000 in
theorem rset_any (n:Nat) (A:Option Addr) (c:Nat) (ls:List (List Int)) (sz:Int) (f:Bool) (s i:Nat) (x:Int) (w:World) (P:Nat→Prop) (hPw:∀b,P b→b<w.heap.size) (h:ArP w P (.slice A n c) ls) (hn:n=ls.length) (hs:s<n) (hi:i<(ls[s]?.getD []).length) (hk:n≤1000000) (hl:(ls[s]?.getD []).length≤1000000) :
  Calls Tryz.prog 53 #[.agg #[.slice A n c,.int .i64 sz,.bool f],.int .i64 s,.int .i64 i,.int .u64 x] w fun e w'=>∃A' c',e= .returned (.agg #[.slice A' n c',.int .i64 sz,.bool f])∧ArP w' (fun b=>P b∨(w.heap.size≤b∧b<w'.heap.size)) (.slice A' n c') (setA ls s i x)∧Below w.heap.size w w':=by
 obtain ⟨W1,hW1⟩:∃W1,W1=w.alloc (.cells #[.slice A n c,.int .i64 sz,.bool f] 77):=⟨_,rfl⟩;obtain ⟨W2,hW2⟩:∃W2,W2=W1.alloc (.cells #[.slice none 0 0,.int .i64 0,.bool false] 77):=⟨_,rfl⟩;have hz1:W1.heap.size=w.heap.size+1:=by rw[hW1];simp
 have hz2:W2.heap.size=w.heap.size+2:=by rw[hW2];simp;omega
 have hB12:Below W1.heap.size W1 W2:=by rw[hW2];exact (Below.refl _ _).alloc (Nat.le_refl _) _
 have hS2:SBox W2 w.heap.size (.slice A n c) sz f:=by rw[hW1] at hB12 hW2;exact (SBox.new w _ _ _).on hB12
 have hR2:SBox W2 (w.heap.size+1) (.slice none 0 0) 0 false:=by rw[hW2,←hz1];exact SBox.new W1 _ _ _
 have hB2:Below w.heap.size w W2:=by rw[hW2,hW1];exact ((Below.refl _ _).alloc (Nat.le_refl _) _).alloc (by simp) _
 obtain ⟨g3,c3,w3,us,hul,hrun3,ho3,hB3,hus⟩:=append_rows W2 P 23 n A c ls (h.keep (fun b hb=>hB2.block b (hPw b hb))) hn (by omega) hk
 have hg3:=World.ownsRow.lt ho3 g3 rfl;have hg3a:w.heap.size+2≤g3:=by omega
 have hcell3:=own_cell ho3 hs;have hus3:=((hus s hs).keep (fun b hb=>hB3.block b (by have:=hPw b hb;omega))).numS hPw
 obtain ⟨v4,w4,hrun4,ho4,hg4⟩:=append_words w3 w3.heap.size w.heap.size 31 (.slice none 0 0) [] (us[s]?.getD undef) (ls[s]?.getD []) (OwnU.nil _ _) hus3 (by simp;omega) (Nat.le_refl _);rw[List.nil_append] at ho4;obtain ⟨g4,k4,rfl,hg4a,hg4b⟩:=ho4.out (by omega);obtain ⟨As,cs,hes,-⟩:=hus3;have hlz:(ls[s]?.getD []).length≤k4∧k4≤9223372036854775807:=by
  obtain ⟨A9,c9,e9,q1,q2,_⟩:=OwnN.numS ho4;cases e9
  exact ⟨q1,q2⟩
 have hcz:n≤c3∧c3≤9223372036854775807:=by
  obtain ⟨_,⟨e,_⟩ | ⟨g',c',cur,e,_,_,q1,q2,_⟩⟩:=ho3
  ·cases e
  ·cases e
   exact ⟨q1,by unfold maxLen at q2;omega⟩
 have hB34:Below w3.heap.size w3 w4:=(Below.refl _ _).grown hg4 (Nat.le_refl _) (fun k e=>by cases e)
 have hn43:g4≠g3:=by omega
 have hs3:=hB3.size;have hs34:=hB34.size;obtain ⟨W5,hW5⟩:∃W5,W5=w4.setCell ⟨g4,i,none⟩ (.int .u64 x):=⟨_,rfl⟩;obtain ⟨W6,hW6⟩:∃W6,W6=W5.setCell ⟨g3,s,none⟩ (.slice (some ⟨g4,0,none⟩) (ls[s]?.getD []).length k4):=⟨_,rfl⟩;obtain ⟨W7,hW7⟩:∃W7,W7=W6.setCell ⟨w.heap.size,0,none⟩ (.slice (some ⟨g3,0,none⟩) n c3):=⟨_,rfl⟩;obtain ⟨W8,hW8⟩:∃W8,W8=((W7.setCell ⟨w.heap.size+1,0,none⟩ (.slice (some ⟨g3,0,none⟩) n c3)).setCell ⟨w.heap.size+1,1,none⟩ (.int .i64 sz)).setCell ⟨w.heap.size+1,2,none⟩ (.bool f):=⟨_,rfl⟩;have ho5:=ho4.set (i:=i) rfl x;rw[←hW5] at ho5;have hr4:=own_on ho3 hB34;have hr5:W5.ownsRow W2.heap.size 31 1 (.slice (some ⟨g3,0,none⟩) n c3) n us:=own_same hr4 (fun g e=>by cases e;rw[hW5];exact blk_setCell_other _ _ _ _ hn43.symm)
 have hr6:=own_setV (i:=s) hr5 (.slice (some ⟨g4,0,none⟩) (ls[s]?.getD []).length k4);rw[←hW6] at hr6;have hk8:∀g,w.heap.size+2≤g→W8.heap[g]? = W6.heap[g]? := fun g hg=>by
  rw[hW8,set3_other _ _ _ _ _ (by omega),hW7,blk_setCell_other _ _ _ _ (by show g≠w.heap.size;omega)]
 have hr8:=own_same (w':=W8) hr6 (fun g e=>by
  obtain rfl:g3=g:=by simpa [Value.ownBlock] using e
  exact hk8 _ hg3a)
 have ho8:OwnU W8 w3.heap.size (.slice (some ⟨g4,0,none⟩) (ls[s]?.getD []).length k4) ((ls[s]?.getD []).set i x):=own_same ho5 (fun g e=>by
  obtain rfl:g4=g:=by simpa [Value.ownBlock] using e
  rw[hk8 _ (by omega),hW6];exact blk_setCell_other _ _ _ _ hn43)
 have hB4:Below w.heap.size W2 w4:=(hB3.mono (by omega)).trans (hB34.mono (by omega));have hB6:Below w.heap.size W2 W6:=by
  rw[hW6,hW5];exact (hB4.setCell (p:=⟨g4,i,none⟩) (by show w.heap.size≤g4;omega) _).setCell (p:=⟨g3,s,none⟩) (by show w.heap.size≤g3;omega) _
 have hB8:Below w.heap.size W2 W8:=by
  rw[hW8,hW7];exact below_set3 (hB6.setCell (p:=⟨w.heap.size,0,none⟩) (Nat.le_refl _) _) (by omega) _ _ _
 have hS6:SBox W6 w.heap.size (.slice A n c) sz f:=by
  rw[hW6,hW5];exact (((hS2.on (hB3.trans (hB34.mono (by omega)))).apart (by omega)).apart (by omega))
 have hS7:SBox W7 w.heap.size (.slice (some ⟨g3,0,none⟩) n c3) sz f:=by rw[hW7];exact hS6.set0 _
 have hR7:SBox W7 (w.heap.size+1) (.slice none 0 0) 0 false:=by
  rw[hW7,hW6,hW5];exact ((((hR2.on (hB3.trans (hB34.mono (by omega)))).apart (by omega)).apart (by omega)).apart (by omega))
 have hR8:SBox W8 (w.heap.size+1) (.slice (some ⟨g3,0,none⟩) n c3) sz f:=by rw[hW8];exact hR7.set3 _ _ _
 have hz8:W8.heap.size=w4.heap.size:=by rw[hW8,nblk_setCell,nblk_setCell,nblk_setCell,hW7,nblk_setCell,hW6,nblk_setCell,hW5,nblk_setCell]
 have hFin:ArP W8 (fun b=>P b∨(w.heap.size≤b∧b<W8.heap.size)) (.slice (some ⟨g3,0,none⟩) n c3) (setA ls s i x):=by
  refine ar_of hr8 (by rw[setA_len];exact hn) (fun j hj=> ?_) (fun g e=>by
   obtain rfl:g3=g:=by simpa [Value.ownBlock] using e
   exact .inr ⟨by omega,by omega⟩)
  unfold setA;rw[getD_set (by omega),getD_set (by omega)]
  by_cases e:s=j
  ·rw[if_pos e,if_pos e];exact (own_numT ho8).mono (fun b e=>by
    obtain rfl:g4=b:=by simpa [Value.ownBlock] using e
    exact .inr ⟨by omega,by omega⟩)
  ·rw[if_neg e,if_neg e];exact ((hus j hj).keep (fun b hb=>hB8.block b (hPw b hb))).mono (fun b hb=> .inl hb)
 have HFin:=LH (And.intro hFin (hB2.trans hB8));have HRun3:=LH hrun3;have HRun4:=LH hrun4;have HR8:=LH hR8;have f4:=own_frozen (i:=i) ho4;have f5:=own_frozen (i:=s) hr5;have c4:=own_cell ho4 hi;have c5:=own_cell hr5 hs;have c6:=hS6.cells.1;generalize (List.map (Value.int .u64) (ls[s]?.getD []))[i]?.getD undef=u4 at c4;have f6:=hS6.frozen 0;have f70:=hR7.frozen 0;have f71:=hR7.frozen 1;have f72:=hR7.frozen 2;obtain ⟨x0,x1,x2⟩:=hS2.cells;obtain ⟨y0,y1,y2⟩:=hS7.cells;obtain ⟨z0,z1,z2⟩:=hR7.cells;generalize (ls[s]?.getD []).length=m at *
 generalize us[s]?.getD undef=us' at *
 subst hes;have i1:(i:Int)<(m:Int):=by omega
 have i2:(s:Int)<(n:Int):=by omega
 clear hFin hB2 hB8 hrun3 hrun4 hR8 hr8 ho8 hr6 hr5 hr4 ho5 ho4 ho3 hS2 hR2 hS6 hS7 hR7 hk8 hz8 hB6 hB4 hB34 hB3 hB12 hus h hg4 hul hn hi hs;go_enter Tryz.func53,Tryz.ntmps53;go_upto_region 2 with fail
 rw[←hW1,←hW2];clear hW1 hW2;go_upto_region 6 with (at_builtin;first | refine Lib.wpList_append_run _ rfl _ _ _ _ rfl _ _ rfl rfl _ _ HRun3.out ?_ | refine Lib.wpList_append_run _ rfl _ _ _ _ rfl _ _ rfl rfl _ _ HRun4.out ?_)
 rw[←hW5];clear hW5;go_upto_region 7 with fail
 rw[←hW6];clear hW6;go_upto_region 8 with fail
 rw[←hW7];clear hW7
 go_wp2_with fail
 rw[←hW8];obtain ⟨e0,e1,e2⟩:=HR8.out.cells;refine bodyPost_ret (v:= .agg #[.slice (some ⟨g3,0,none⟩) n c3,.int .i64 sz,.bool f]) ?_ rfl ⟨_,_,rfl,HFin.out⟩
 simp[results,Tryz.f53,go_sem,e0,e1,e2]
set_option maxHeartbeats 1000000 in
theorem rnear_any (k z:Int) (ws bs:List Int) (ks:List Tr) (v:Value) (off:Int) (w:World) (h:TrV w w.heap.size (.mk k z ws bs ks) v) :
  Calls Tryz.prog 54 #[v,.int .i64 off] w fun e w'=>e= .returned (.int .u64 (nearW (.mk k z ws bs ks) off))∧Below w.heap.size w w':=by
 obtain ⟨A1,c1,A2,c2,A3,c3,rfl,hg,-,-,hk3,-⟩:=h.parts;obtain ⟨g1,g2,g3,g4,g5,-⟩:=hg;clear h;have hn:nearW (.mk k z ws bs ks) off=encW (if k=2 then ⟨2,off,0,0,z,(ws.length:Int)+ks.length+bs.length,0,false⟩ else ⟨k,off,ws.length,ks.length,0,0,0,false⟩):=rfl
 generalize nearW (.mk k z ws bs ks) off=N at *
 generalize ws.length=nw at *
 generalize bs.length=nb at *
 generalize ks.length=nk at *
 have HEnc:=LH (fun p X=>renc_any p X)
 obtain ⟨W1,hW1⟩:∃W1,W1=w.alloc (.cells (cellsT k z (.slice A1 nw c1) (.slice A2 nb c2) (.slice A3 nk c3)) 34):=⟨_,rfl⟩;obtain ⟨W2,hW2⟩:∃W2,W2=W1.alloc (.cells (cellsP ⟨k,off,nw,nk,0,0,0,false⟩) 70):=⟨_,rfl⟩;have hz1:W1.heap.size=w.heap.size+1:=by rw[hW1];simp
 have hB1:Below w.heap.size w W1:=by rw[hW1];exact (Below.refl _ _).alloc (Nat.le_refl _) _
 have hB2:Below w.heap.size w W2:=by rw[hW2];exact hB1.alloc (by omega) _
 have hT1:TBox W1 w.heap.size k z (.slice A1 nw c1) (.slice A2 nb c2) (.slice A3 nk c3):=by rw[hW1];exact TBox.new _ _ _ _ _ _
 have hT2:=hT1.on (show Below W1.heap.size W1 W2 by rw[hW2];exact (Below.refl _ _).alloc (Nat.le_refl _) _)
 have hP2:PBox W2 (w.heap.size+1) ⟨k,off,nw,nk,0,0,0,false⟩:=by rw[hW2,←hz1];exact PBox.new _ _
 have HB2:=LH hB2;have HP2:=LH hP2;obtain ⟨d0,d1,d2,d3,d4⟩:=hT2.cells;unfold cellsT at hW1 ⊢;unfold cellsP at hW2;rw[hW1] at hW2;clear hT1 hT2 hB1 hB2 hP2 hz1 hW1 W1
 by_cases hk:k=2
 ·subst hk;rw[if_pos rfl] at hn;obtain ⟨p0,p1,p2,p3,p4,p5,p6,p7⟩:=HP2.out.cells;obtain ⟨f0,f1,f2,f3,f4,f5,f6,f7⟩:=HP2.out.frozens;obtain ⟨W3,hW3⟩:∃W3,W3=(((((((W2.setCell ⟨w.heap.size+1,0,none⟩ (.int .i64 2)).setCell ⟨w.heap.size+1,1,none⟩ (.int .i64 off)).setCell ⟨w.heap.size+1,2,none⟩ (.int .i64 0)).setCell ⟨w.heap.size+1,3,none⟩ (.int .i64 0)).setCell ⟨w.heap.size+1,4,none⟩ (.int .i64 z)).setCell ⟨w.heap.size+1,5,none⟩ (.int .i64 ((nw:Int)+nk+nb))).setCell ⟨w.heap.size+1,6,none⟩ (.int .i64 0)).setCell ⟨w.heap.size+1,7,none⟩ (.bool false):=⟨_,rfl⟩;have hP3:PBox W3 (w.heap.size+1) ⟨2,off,0,0,z,(nw:Int)+nk+nb,0,false⟩:=by rw[hW3];exact HP2.out.set8 _ _ _ _ _ _ _ _
  have hB3:Below w.heap.size w W3:=by
   rw[hW3];refine Below.setCell (p:=⟨w.heap.size+1,7,none⟩) ?_ (by show w.heap.size≤w.heap.size+1;omega) _
   refine Below.setCell (p:=⟨w.heap.size+1,6,none⟩) ?_ (by show w.heap.size≤w.heap.size+1;omega) _
   refine Below.setCell (p:=⟨w.heap.size+1,5,none⟩) ?_ (by show w.heap.size≤w.heap.size+1;omega) _
   refine Below.setCell (p:=⟨w.heap.size+1,4,none⟩) ?_ (by show w.heap.size≤w.heap.size+1;omega) _
   refine Below.setCell (p:=⟨w.heap.size+1,3,none⟩) ?_ (by show w.heap.size≤w.heap.size+1;omega) _
   refine Below.setCell (p:=⟨w.heap.size+1,2,none⟩) ?_ (by show w.heap.size≤w.heap.size+1;omega) _
   refine Below.setCell (p:=⟨w.heap.size+1,1,none⟩) ?_ (by show w.heap.size≤w.heap.size+1;omega) _
   exact Below.setCell (p:=⟨w.heap.size+1,0,none⟩) HB2.out (by show w.heap.size≤w.heap.size+1;omega) _
  have HP3:=LH hP3;have HB3:=LH hB3;have HE:=LH (HEnc.out ⟨2,off,0,0,z,(nw:Int)+nk+nb,0,false⟩ W3);rw[←hn] at HE;unfold cellsP at HE;clear hP3 hB3 hn;go_enter Tryz.func54,Tryz.ntmps54;go_upto_region 2 with fail
  rw[←hW2];clear hW2;go_upto_region 4 with fail
  rw[←hW3];clear hW3 p0 p1 p2 p3 p4 p5 p6 p7 f0 f1 f2 f3 f4 f5 f6 f7 d0 d1 d2 d3 d4;obtain ⟨p0,p1,p2,p3,p4,p5,p6,p7⟩:=HP3.out.cells
  go_wp2_with fail
  refine HE.out.mono ?_
  rintro e w4 ⟨rfl,hB4⟩;have HB4:=LH (HB3.out.trans (hB4.mono (by have:=HB3.out.size;omega)));clear hB4
  go_wp2_with fail
  go_ret;exact ⟨rfl,HB4.out⟩
 ·rw[if_neg hk] at hn;have hk2:(k == 2)=false:=beq_eq_false_iff_ne.2 hk;have HE:=LH (HEnc.out ⟨k,off,nw,nk,0,0,0,false⟩ W2);rw[←hn] at HE;unfold cellsP at HE;clear hn hk;go_enter Tryz.func54,Tryz.ntmps54;go_upto_region 2 with fail
  rw[←hW2];clear hW2;obtain ⟨p0,p1,p2,p3,p4,p5,p6,p7⟩:=HP2.out.cells
  go_wp2_with fail
  refine HE.out.mono ?_
  rintro e w4 ⟨rfl,hB4⟩;have HB4:=LH (HB2.out.trans (hB4.mono (by have:=HB2.out.size;omega)));clear hB4
  go_wp2_with fail
  go_ret;exact ⟨rfl,HB4.out⟩
theorem rfar_any (seg at_:Nat) (w:World) :
  Calls Tryz.prog 56 #[.int .i64 seg,.int .i64 at_] w fun e w'=>e= .returned (.int .u64 (farW seg at_))∧Below w.heap.size w w':=by
 have HE:=LH (renc_any ⟨3,at_,0,0,0,0,seg,false⟩ w);have hf:encW ⟨3,at_,0,0,0,0,seg,false⟩=farW seg at_:=rfl;rw[hf] at HE;generalize farW seg at_=N at *
 unfold cellsP at HE;clear hf;go_enter Tryz.func56,Tryz.ntmps56
 go_wp2_with fail
 refine HE.out.mono ?_
 rintro e w4 ⟨rfl,hB4⟩;have HB4:=LH hB4;clear hB4
 go_wp2_with fail
 go_ret;exact ⟨rfl,HB4.out⟩
end Go.Proofs.YtmmlfnblodfjbaaGreatDoor
namespace Go.Proofs.YtmmlfnblodfjbaaGreatDoor
open Go.RowKit
theorem zeroCells_listU (k:Nat):(Builtin.zeroCells #[Value.int .u64 0] k).toList=List.replicate k (Value.int .u64 0):=by
 apply List.ext_getElem
 ·simp[Builtin.zeroCells]
 ·intro i h1 h2
  simp[Builtin.zeroCells,Nat.mod_one]
theorem zeros_newU (w:World) (base n k C:Nat) (xs:List Value) (hx:xs.length=n) (hC:n+k≤C) (hm:C≤maxLen) (hbase:base≤w.heap.size) (row:Option Nat) :
  (w.drew.alloc (.cells (xs.toArray ++ Builtin.zeroCells #[Value.int .u64 0] k ++ Builtin.zeroCells #[Value.int .u64 0] (C - (n+k))) 44)).ownsRow base 44 1 (.slice (some ⟨w.heap.size,0,none⟩) (n+k) C) (n+k) (xs ++ List.replicate k (.int .u64 0)) ∧
  w.grownBy (w.drew.alloc (.cells (xs.toArray ++ Builtin.zeroCells #[Value.int .u64 0] k ++ Builtin.zeroCells #[Value.int .u64 0] (C - (n+k))) 44)) row:=by
 have hlen:(xs ++ List.replicate k (Value.int .u64 0)).length=n+k:=by rw[List.length_append,hx,List.length_replicate]
 refine ⟨⟨by omega,.inr ⟨w.heap.size,_,_,rfl,hbase,heap_alloc_new w.drew _,hC,hm,?_,?_⟩⟩,⟨rfl,rfl,rfl,by simp,fun _ hj _=>heap_alloc_old w.drew _ hj⟩⟩
 ·simp only[Array.size_append,List.size_toArray,size_zeroCells]
  simp
  omega
 ·simp only[Array.toList_append,zeroCells_listU];rw[Nat.mul_one,←hlen];exact List.take_left
theorem az_noneU (w:World) (base ty:Nat) (v:Value) (n:Nat) (xs:List Value) (hown:w.ownsRow base 44 1 v n xs) :
  (Builtin.append_ #[31,3] ty #[v,.int .i64 0]).run Tryz.prog w= .ok v w:=by
 obtain ⟨i0,hi,hz0,hz1,hz2⟩:=info_parts Tryz.info44;have ht:=Tryz.underlying31;have htn:=Tryz.underlying3
 rcases hown.2 with ⟨rfl,rfl⟩ | ⟨g,cap,cur,rfl,hbg,hg,hnc,hcm,hcs,htake⟩
 ·simp[Builtin.append_,run_underlying ht,run_underlying htn,sizeOf,typeInfo,hi,asInt,asIntOf,IntKind.wrap_i64]
 ·simp[Builtin.append_,run_underlying ht,run_underlying htn,sizeOf,typeInfo,hi,asInt,asIntOf,IntKind.wrap_i64,hnc,storeCells]
theorem az_roomU (w:World) (ty g n k cap:Nat) (cur:Array Value) (hg:w.heap[g]? = some (.cells cur 44 (0,0))) (hcs:cur.size=cap) (k0:0<k) (hk:k≤100000000) (hroom:n+k≤cap) :
  (Builtin.append_ #[31,3] ty #[.slice (some ⟨g,0,none⟩) n cap,.int .i64 k]).run Tryz.prog w= .ok (.slice (some ⟨g,0,none⟩) (n+k) cap) (w.setRow g (cur.toList.take n ++ List.replicate k (Value.int .u64 0) ++ cur.toList.drop (n+k)).toArray):=by
 obtain ⟨i0,hi,hz0,hz1,hz2⟩:=info_parts Tryz.info44;have ht:=Tryz.underlying31;have htn:=Tryz.underlying3;have hst:=run_storeCells_at Tryz.prog g n 44 (List.replicate k (Value.int .u64 0)) 0 cur w hg (by rw[List.length_replicate,hcs];omega) (by intro u hu;rw[List.eq_of_mem_replicate hu];rfl);simp only[Nat.add_zero,List.length_replicate] at hst;have hw:IntKind.i64.wrap (k:Int)=k:=by rw[IntKind.wrap_i64];omega
 have hneg:¬((k:Int)<0):=by omega
 have hl:(Builtin.zeroCells #[Value.int .u64 0] k).toList=List.replicate k (Value.int .u64 0):=zeroCells_listU k;have h48j:¬(281474976710656<(k:Int)*8):=by omega
 have kn:¬(k=0):=by omega
 have hz1':(Value.int IntKind.u64 0).cells=#[Value.int .u64 0]:=rfl
 simp[Builtin.append_,run_underlying ht,run_underlying htn,sizeOf,typeInfo,zeroValue,hi,hz0,hz1,hz2,hz1',asInt,asIntOf,hw,hneg,h48j,kn,hroom,Addr.add_lit,hl,hst]
theorem az_growU (w:World) (ty g n k cap:Nat) (xs:List Value) (hx:xs.length=n) (hold:∀j u,xs[j]? = some u→w.cell? ((⟨g,0,none⟩:Addr).add j)=some u) (k0:0<k) (hk:n+k≤100000000) (hroom:cap<n+k) :
  (Builtin.append_ #[31,3] ty #[.slice (some ⟨g,0,none⟩) n cap,.int .i64 k]).run Tryz.prog w= .ok (.slice (some ⟨w.heap.size,0,none⟩) (n+k) (grownCap w (n+k) cap 44)) (w.drew.alloc (.cells (xs.toArray ++ Builtin.zeroCells #[Value.int .u64 0] k ++ Builtin.zeroCells #[Value.int .u64 0] (grownCap w (n+k) cap 44 - (n+k))) 44)):=by
 obtain ⟨i0,hi,hz0,hz1,hz2⟩:=info_parts Tryz.info44;refine Lib.run_append_grow_zeros (P:=Tryz.prog) w 31 3 ty 44 i0 (.int .u64 0) .i64 .i64 Tryz.underlying31 Tryz.underlying3 hi hz0 (some ⟨g,0,none⟩) n cap xs ?_ k k0 (by omega) hroom (by omega) (by rw[hz2];omega) (growslice_fits hroom (by rw[hz2];omega));exact run_firstCells_some w.drew i0.size n ⟨g,0,none⟩ n cap xs (by rw[hz1];omega) hold
theorem az_nilU (w:World) (ty k:Nat) (k0:0<k) (hk:k≤100000000) :
  (Builtin.append_ #[31,3] ty #[.slice none 0 0,.int .i64 k]).run Tryz.prog w= .ok (.slice (some ⟨w.heap.size,0,none⟩) k (grownCap w k 0 44)) (w.drew.alloc (.cells (Builtin.zeroCells #[Value.int .u64 0] k ++ Builtin.zeroCells #[Value.int .u64 0] (grownCap w k 0 44 - k)) 44)):=by
 obtain ⟨i0,hi,hz0,hz1,hz2⟩:=info_parts Tryz.info44;exact Lib.run_append_nil_zeros (P:=Tryz.prog) w 31 3 ty 44 i0 (.int .u64 0) .i64 .i64 Tryz.underlying31 Tryz.underlying3 hi hz0 k k0 (by omega) (by omega) (by rw[hz2];omega)
theorem append_zerosU (w:World) (base ty:Nat) (v:Value) (n k:Nat) (xs:List Value) (hown:w.ownsRow base 44 1 v n xs) (hk:n+k≤100000000) (hbase:base≤w.heap.size) :
  ∃v' w',(Builtin.append_ #[31,3] ty #[v,.int .i64 k]).run Tryz.prog w= .ok v' w'∧w'.ownsRow base 44 1 v' (n+k) (xs ++ List.replicate k (.int .u64 0))∧w.grownBy w' v.ownBlock:=by
 by_cases k0:k=0
 ·subst k0;exact ⟨v,w,az_noneU w base ty v n xs hown,by simpa using hown,⟨rfl,rfl,rfl,Nat.le_refl _,fun _ _ _=>rfl⟩⟩
 ·have hlen:(xs ++ List.replicate k (Value.int .u64 0)).length=n+k:=by rw[List.length_append,hown.1,List.length_replicate];omega
  have hown0:=hown
  rcases hown.2 with ⟨rfl,rfl⟩ | ⟨g,cap,cur,rfl,hbg,hg,hnc,hcm,hcs,htake⟩
  ·have hx:xs=[]:=List.eq_nil_of_length_eq_zero (by simpa using hown.1);subst hx;have hgr:=zeros_newU w base 0 k (grownCap w k 0 44) [] rfl (by have:=grownCap_ge w k 0 44;omega) (grownCap_le_maxLen w k 0 44 (by unfold maxLen;omega)) hbase (Value.ownBlock (.slice none 0 0));simp only[Nat.zero_add,List.nil_append,Array.empty_append] at hgr ⊢;exact ⟨_,_,az_nilU w ty k (by omega) (by omega),hgr.1,hgr.2⟩
  ·rw[Nat.mul_one] at hcs htake
   by_cases hroom:n+k≤cap
   ·refine ⟨_,_,az_roomU w ty g n k cap cur hg hcs (by omega) (by omega) hroom,⟨by omega,.inr ⟨g,cap,_,rfl,hbg,setRow_heap w g cur _ 44 _ hg,hroom,hcm,?_,?_⟩⟩,⟨rfl,rfl,rfl,by simp,fun j _ hj=>setRow_other w g j _ (fun e=>hj (by simp[Value.ownBlock,e]))⟩⟩
    ·simp only[List.size_toArray,List.length_append,List.length_take,List.length_drop,Array.length_toList,List.length_replicate]
     omega
    ·rw[htake,Nat.mul_one,←hlen];exact List.take_left
   ·have hgr:=zeros_newU w base n k (grownCap w (n+k) cap 44) xs (by have:=hown.1;omega) (grownCap_ge _ _ _ _) (grownCap_le_maxLen w (n+k) cap 44 (by unfold maxLen;omega)) hbase (Value.ownBlock (.slice (some ⟨g,0,none⟩) n cap));exact ⟨_,_,az_growU w ty g n k cap xs (by have:=hown.1;omega) (hown0.cells (g:=g) rfl) (by omega) hk (by omega),hgr.1,hgr.2⟩
end Go.Proofs.YtmmlfnblodfjbaaGreatDoor
namespace Go.Proofs.YtmmlfnblodfjbaaGreatDoor
open Go.RowKit Go.Deep
theorem Bytes.part {w:World} {B b off len cap p m:Nat} {l:List Int} (h:Bytes w B (.slice (some ⟨b,off,none⟩) len cap) l) (hlen:l.length=len) (hp:p+m≤len) (h0:0<m):Bytes w B (.slice (some ⟨b,off+p,none⟩) m (cap - p)) ((l.drop p).take m):=by
 obtain ⟨A,c,e,hc,hm,hr⟩:=h;rw[hlen] at e;cases e
 have hl:((l.drop p).take m).length=m:=by rw[List.length_take,List.length_drop];omega
 refine ⟨_,_,by rw[hl],by omega,by omega,fun _=> ?_⟩
 obtain ⟨b',off',ea,hlt,hcell⟩:=hr (by omega);cases ea
 refine ⟨b,off+p,rfl,hlt,fun j hj=> ?_⟩
 rw[hl] at hj;have:=hcell (p+j) (by omega);rw[Nat.add_assoc,this,List.getElem?_take_of_lt hj,List.getElem?_drop]
theorem wordsB_len (bs:List Int):(wordsB bs).length=(bs.length+7) / 8:=by simp[wordsB]
theorem wordsB_take {bs:List Int} {q:Nat} (h:q<(bs.length+7) / 8):(wordsB bs).take (q+1)=(wordsB bs).take q ++ [wordB bs q]:=by
 rw[List.take_add_one]
 congr 1
 rw[wordsB_eq,List.getElem?_map,List.getElem?_range h]
 rfl
set_option maxHeartbeats 1000000 in
theorem rcontent_any (k z:Int) (ws bs:List Int) (ks:List Tr) (v:Value) (w:World) (h:TrV w w.heap.size (.mk k z ws bs ks) v) :
  Calls Tryz.prog 57 #[v] w fun e w'=>∃A n c,e= .returned (.slice A n c)∧NumS .u64 w' w'.heap.size (.slice A n c) (contentT (.mk k z ws bs ks))∧Below w.heap.size w w':=by
 obtain ⟨A1,c1,A2,c2,A3,c3,rfl,hg,h1,h2,hk3,hk4,-⟩:=h.parts;obtain ⟨g1,g2,g3,g4,g5,-,hbb⟩:=hg;clear h;have hct:contentT (.mk k z ws bs ks)=ws ++ wordsB bs ++ List.replicate ks.length 0:=rfl;rw[hct];clear hct;obtain ⟨nk,hnk⟩:∃nk,nk=ks.length:=⟨_,rfl⟩;obtain ⟨nw,hnw⟩:∃nw,nw=ws.length:=⟨_,rfl⟩;obtain ⟨nb,hnb⟩:∃nb,nb=bs.length:=⟨_,rfl⟩;obtain ⟨nq,hnq⟩:∃nq,nq=(nb+7) / 8:=⟨_,rfl⟩;rw[←hnk] at g5 hk3 ⊢;obtain ⟨W1,hW1⟩:∃W1,W1=w.alloc (.cells (cellsT k z (.slice A1 ws.length c1) (.slice A2 bs.length c2) (.slice A3 nk c3)) 34):=⟨_,rfl⟩;have hB1:Below w.heap.size w W1:=by rw[hW1];exact (Below.refl _ _).alloc (Nat.le_refl _) _
 have hT1:TBox W1 w.heap.size k z (.slice A1 ws.length c1) (.slice A2 bs.length c2) (.slice A3 nk c3):=by rw[hW1];exact TBox.new _ _ _ _ _ _
 obtain ⟨v2,w2,hrun,ho2,hg2⟩:=append_words W1 W1.heap.size w.heap.size 31 (.slice none 0 0) [] (.slice A1 ws.length c1) ws (OwnU.nil _ _) (h1.below hB1 (Nat.le_refl _)) (by simp;omega) (Nat.le_refl _);rw[List.nil_append] at ho2;have hB12:Below W1.heap.size W1 w2:=(Below.refl _ _).grown hg2 (Nat.le_refl _) (fun k e=>by cases e)
 have hzz:w.heap.size+1≤W1.heap.size:=by rw[hW1];simp
 have HO2:=LH ho2;have HB12:=LH hB12;have HB1:=LH hB1;have HT:=LH hT1;have HRun2:=LH hrun;have HBy:=LH (fun X (hX:Below W1.heap.size W1 X)=>(h2.below hB1 (Nat.le_refl _)).below (hX.mono (by omega)) (Nat.le_refl w.heap.size))
 have HAll:=LH hbb;have HNw:=LH hnw;have HNb:=LH hnb;have HNq:=LH hnq;rw[←hnw] at hW1 HT HRun2 g3 ⊢;rw[←hnb] at hW1 HT HBy g4 ⊢;have hv2:∃A c,v2= .slice A nw c:=by
  obtain ⟨A,c,e,_⟩:=OwnN.numS ho2;exact ⟨A,c,by rw[e,hnw]⟩
 obtain ⟨Av,cv,rfl⟩:=hv2;obtain ⟨x0,x1,x2,x3,x4⟩:=HT.out.cells;have hN8:nq≤125001:=by omega
 clear hT1 hB1 hB12 hg2 ho2 hrun h1 h2 hnk hnw hbb hnb;unfold cellsT at hW1 ⊢;go_enter Tryz.func57,Tryz.ntmps57;go_upto_region 1 with fail
 rw[←hW1];clear hW1 hnq
 go_wp2_with (at_builtin;refine Lib.wpList_append_run _ rfl _ _ _ _ rfl _ _ rfl rfl _ _ HRun2.out ?_)
 clear x0 x1 x2 x3 x4
 go_loopw [3,4] (fun s3 i wr=>∃q:Nat,q≤nq∧i= .int .i64 ((8*q:Nat):Int)∧(∃A c,s3= .slice A (nw+q) c∧OwnU wr W1.heap.size s3 (ws ++ (wordsB bs).take q))∧Below W1.heap.size W1 wr) (fun _ i _=>8*nq - (intOf i).toNat)
 case atStart=>exact ⟨0,by omega,rfl,⟨Av,cv,rfl,by simpa using HO2.out⟩,HB12.out⟩
 case round =>
  obtain ⟨q,hq,rfl,⟨A,c,rfl,ho⟩,hBr⟩:=hrel;generalize wr=w3 at *
  have HO:=LH ho;have HBr:=LH hBr;obtain ⟨x0,x1,x2,x3,x4⟩:=(HT.out.on hBr).cells;have hnq2:=HNq.out;clear ho hBr
  by_cases hlt:q<nq
  ·have i1:((8*q:Nat):Int)<(nb:Int):=by omega
   obtain ⟨M,hM⟩:∃M:Nat,M=if 8*q+8≤nb then 8 else nb - 8*q:=⟨_,rfl⟩
   have hM2:8*q+M≤nb∧0<M∧M≤8:=by rw[hM];split <;> omega
   have hy:=HBy.out _ HBr.out;obtain ⟨A5,c5,e5,hc5,hm5,hr5⟩:=hy;rw[←HNb.out] at e5 hc5 hr5;obtain ⟨b,off,ea,hb,hcell⟩:=hr5 (by omega);subst ea;cases e5
   have hPart:=(HBy.out _ HBr.out).part (p:=8*q) (m:=M) HNb.out.symm (by omega) (by omega);have hwd:getV (((bs.drop (8*q)).take M).take 8)=wordB bs q:=by
    unfold wordB
    congr 1
    rw[List.take_take,hM]
    by_cases e:8*q+8≤nb
    ·rw[if_pos e];rfl
    ·rw[if_neg e,show min 8 (nb - 8*q)=nb - 8*q by omega]
     rw[List.take_of_length_le (by rw[List.length_drop,←HNb.out];exact Nat.le_refl _),List.take_of_length_le (by rw[List.length_drop,←HNb.out];omega)]
   have hGet:=getr_any _ _ _ w3 hPart (fun x hx=>HAll.out x (List.mem_of_mem_drop (List.mem_of_mem_take hx)))
   rw[hwd] at hGet;have HGet:=LH hGet;have hql:(ws ++ (wordsB bs).take q).length=nw+q:=by rw[List.length_append,←HNw.out,List.length_take,wordsB_len,←HNb.out,←hnq2];omega
   obtain ⟨v',w',hrun,ho',hg'⟩:=append_u w3 W1.heap.size 31 (.slice A (nw+q) c) (ws ++ (wordsB bs).take q) (wordB bs q) HO.out (by rw[hql];omega) HBr.out.size;rw[List.append_assoc,←wordsB_take (by rw[←HNb.out,←hnq2];exact hlt)] at ho';have hsl:∃A c,v'= .slice A (nw+(q+1)) c:=by
    obtain ⟨A,c,e,_⟩:=OwnN.numS ho';exact ⟨A,c,by rw[e,List.length_append,←HNw.out,List.length_take,wordsB_len,←HNb.out,←hnq2,show min (q+1) nq=q+1 by omega]⟩
   obtain ⟨A',c',rfl⟩:=hsl;have HR:Hid (OwnU w' W1.heap.size (.slice A' (nw+(q+1)) c') (ws ++ (wordsB bs).take (q+1))∧Below W1.heap.size W1 w'):=LH ⟨ho',(HBr.out.alloc HBr.out.size _).grown hg' (by have:=HBr.out.size;simp;omega) (fun k e=>(World.ownsRow.lt HO.out k e).1)⟩
   have HRun:=LH hrun;clear hrun ho' hg' hGet hPart hwd hql hcell hr5 hnq2;generalize wordB bs q=wd at *
   by_cases e8:8*q+8≤nb
   ·rw[if_pos e8] at hM;subst hM;have j1:((8*q:Nat):Int)+8≤(nb:Int):=by omega
    have j2:¬(nb:Int)<((8*q:Nat):Int)+8:=by omega
    clear hM2
    go_wp2_with fail
    refine HGet.out.mono ?_
    rintro e w5 ⟨rfl,rfl⟩
    go_wp2_with (at_builtin;refine Lib.wpList_append_run _ rfl _ _ _ _ rfl _ _ rfl rfl _ _ HRun.out ?_)
    go_roundw
    case rel=>exact ⟨q+1,by omega,by go_num,⟨_,_,rfl,HR.out.1⟩,HR.out.2⟩
    case measure=>simp[intOf];omega
   ·rw[if_neg e8] at hM;subst hM;have j1:¬((8*q:Nat):Int)+8≤(nb:Int):=by omega
    have j2:(nb:Int)<((8*q:Nat):Int)+8:=by omega
    clear hM2
    go_wp2_with fail
    refine HGet.out.mono ?_
    rintro e w5 ⟨rfl,rfl⟩
    go_wp2_with (at_builtin;refine Lib.wpList_append_run _ rfl _ _ _ _ rfl _ _ rfl rfl _ _ HRun.out ?_)
    go_roundw
    case rel=>exact ⟨q+1,by omega,by go_num,⟨_,_,rfl,HR.out.1⟩,HR.out.2⟩
    case measure=>simp[intOf];omega
  ·obtain rfl:q=nq:=by omega
   have i1:¬((8*q:Nat):Int)<(nb:Int):=by omega
   have hqb:(wordsB bs).take q=wordsB bs:=List.take_of_length_le (by rw[wordsB_len,←HNb.out,←hnq2];exact Nat.le_refl _);have ho:=HO.out;rw[hqb] at ho;have hwl:(ws ++ wordsB bs).length=nw+q:=by rw[List.length_append,←HNw.out,wordsB_len,←HNb.out,←hnq2]
   unfold OwnU OwnN at ho;obtain ⟨v',w',hrun,ho',hg'⟩:=append_zerosU w3 W1.heap.size 31 (.slice A (nw+q) c) _ nk _ ho (by rw[hwl];omega) HBr.out.size;have hN:OwnU w' W1.heap.size v' (ws ++ wordsB bs ++ List.replicate nk 0):=by
    unfold OwnU OwnN;rw[List.length_append,List.length_replicate,List.map_append,List.map_replicate];exact ho'
   obtain ⟨A',c',rfl⟩:∃A c,v'= .slice A (nw+q+nk) c:=by
    obtain ⟨A,c,e,_⟩:=OwnN.numS hN;exact ⟨A,c,by rw[e,List.length_append,List.length_replicate,hwl]⟩
   have hN2:=OwnN.numS hN;rw[List.append_assoc] at hN2;have HFin:=LH (And.intro hN2 (HB1.out.trans ((HBr.out.grown hg' HBr.out.size (fun k e=>(World.ownsRow.lt ho k e).1)).mono (by omega))))
   have HRun:=LH hrun;clear hN hN2 hrun ho' hg' ho hwl hqb hnq2
   go_wp2_with (at_builtin;refine Lib.wpList_append_run _ rfl _ _ _ _ rfl _ _ rfl rfl _ _ HRun.out ?_)
   go_ret;exact ⟨_,_,_,rfl,HFin.out⟩
end Go.Proofs.YtmmlfnblodfjbaaGreatDoor
