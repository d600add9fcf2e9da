/- Layer 6: what the laws ask of the program's Decode, Encode and Words (PtrOK: paid by the program's own walks), given what its variables hold (Laid); boxes of pointers. -/
import Derived.Test.YtmmlfnblodfjbaaGreatDoorQLaid
import Derived.Deep.RegionHeld3
import Derived.Deep.DeepCutAuto
import Derived.Deep.CutBlock
set_option maxRecDepth 100000
namespace Go.Proofs.YtmmlfnblodfjbaaGreatDoor
open Go.RowKit Go.Deep
theorem bseq' {a b c:World} (h:Below a.heap.size a b) (k:Below b.heap.size b c):Below a.heap.size a c:=h.trans (k.mono h.size)
def PBox (w:World) (g:Nat) (p:Pt):Prop:=w.heap[g]? = some (.cells (cellsP p) 70 (0,0))
theorem PBox.new (w:World) (p:Pt):PBox (w.alloc (.cells (cellsP p) 70)) w.heap.size p:=by unfold PBox;rw[blk_alloc_new]
theorem PBox.lt {w:World} {g:Nat} {p:Pt} (h:PBox w g p):g<w.heap.size:=(Array.getElem?_eq_some_iff.1 h).1
theorem PBox.on {w w':World} {g:Nat} {p:Pt} (h:PBox w g p) (hB:Below w.heap.size w w'):PBox w' g p:=(hB.block g h.lt).trans h
theorem PBox.cells {w:World} {g:Nat} {p:Pt} (h:PBox w g p):w.cell? ⟨g,0,none⟩=some (.int .i64 p.kind)∧w.cell? ⟨g,1,none⟩=some (.int .i64 p.off)∧w.cell? ⟨g,2,none⟩=some (.int .i64 p.data)∧w.cell? ⟨g,3,none⟩=some (.int .i64 p.ptrs)∧w.cell? ⟨g,4,none⟩=some (.int .i64 p.size)∧w.cell? ⟨g,5,none⟩=some (.int .i64 p.count)∧w.cell? ⟨g,6,none⟩=some (.int .i64 p.seg)∧w.cell? ⟨g,7,none⟩=some (.bool p.dbl):=by
 unfold PBox at h
 simp[World.cell?,h,cellsP]
theorem or_add {x y:Int} (i:Nat) (h0:0≤x) (h1:x<2 ^ i) (h2:0≤y) (h3:y % 2 ^ i=0) (h4:y<18446744073709551616) (h5:x<18446744073709551616):bits BinOp.or IntKind.u64 x y=x+y:=by
 obtain ⟨a,rfl⟩:=Int.eq_ofNat_of_zero_le h0;obtain ⟨b,rfl⟩:=Int.eq_ofNat_of_zero_le h2;rw[bits_or_u64_nat a b (by omega) (by omega),Nat.or_comm,nat_join i b a (by exact_mod_cast h3) (by exact_mod_cast h1)]
 simp;omega
def orL (l:List Int):Int:=l.foldl (fun a x=>bits BinOp.or IntKind.u64 a x) 0
theorem orL_step (l:List Int) (t:Nat) (h:t<l.length):orL (l.take (t+1))=bits BinOp.or IntKind.u64 (orL (l.take t)) (l.getD t 0):=by
 unfold orL;rw[List.take_add_one,List.foldl_append]
 simp[List.getElem?_eq_getElem h]
theorem zero_or {y:Int} (h2:0≤y) (h4:y<18446744073709551616):bits BinOp.or IntKind.u64 0 y=y:=by
 have:=or_add (x:=0) (y:=y) 0 (by omega) (by decide) h2 (by omega) h4 (by decide)
 omega
theorem orL4 (x0 x1 x2 x3:Int) (i1 i2 i3:Nat) (a0:0≤x0) (a1:0≤x1) (a2:0≤x2) (a3:0≤x3) (b0:x0<2 ^ i1) (b1:x0+x1<2 ^ i2) (b2:x0+x1+x2<2 ^ i3) (c1:x1 % 2 ^ i1=0) (c2:x2 % 2 ^ i2=0) (c3:x3 % 2 ^ i3=0) (d:x0+x1+x2+x3<18446744073709551616) :
  orL [x0,x1,x2,x3]=x0+x1+x2+x3:=by
 show bits BinOp.or IntKind.u64 (bits BinOp.or IntKind.u64 (bits BinOp.or IntKind.u64 (bits BinOp.or IntKind.u64 0 x0) x1) x2) x3=_
 rw[zero_or a0 (by omega),or_add i1 a0 b0 a1 c1 (by omega) (by omega),or_add i2 (by omega) b1 a2 c2 (by omega) (by omega),or_add i3 (by omega) b2 a3 c3 (by omega) (by omega)]
set_option maxHeartbeats 400000 in
theorem bit_any (b:Bool) (w:World) :
  Calls Tryz.prog 148 #[.bool b] w fun e w'=>e= .returned (.int .i64 (if b then 1 else 0))∧w=w':=by
 cases b
 ·go_enter Tryz.func148,Tryz.ntmps148
  go_wp2_with fail
  go_ret;exact ⟨rfl,rfl⟩
 ·go_enter Tryz.func148,Tryz.ntmps148
  go_wp2_with fail
  go_ret;exact ⟨rfl,rfl⟩
theorem bits_bd (k:BinOp) (x y:Int):0≤bits k IntKind.u64 x y∧bits k IntKind.u64 x y≤18446744073709551615:=by
 have h:∀z:Int,0≤IntKind.u64.wrap z∧IntKind.u64.wrap z≤18446744073709551615:=fun z=>by rw[IntKind.wrap_u64];omega
 cases k <;> exact h _
theorem orL_bd (l:List Int) (t:Nat):0≤orL (l.take t)∧orL (l.take t)≤18446744073709551615:=by
 induction t with
 | zero=>simp[orL]
 | succ t ih =>
  by_cases h:t<l.length
  ·rw[orL_step l t h];exact bits_bd _ _ _
  ·rw[List.take_of_length_le (by omega)];rwa [List.take_of_length_le (by omega)] at ih
set_option maxHeartbeats 1000000 in
theorem joined_any (g n:Nat) (l:List Int) (w:World) (hn:l.length=n) (hlen:n≤1000) (h:∀i,i<n→w.cell? ⟨g,i,none⟩=some (.int .u64 (l.getD i 0))) :
  Calls Tryz.prog 177 #[.slice (some ⟨g,0,none⟩) n n] w fun e w'=>e= .returned (.int .u64 (orL l))∧w=w':=by
 have H:=LH h;clear h;go_enter Tryz.func177,Tryz.ntmps177
 go_wp2_with fail
 go_loopw [3,8] (fun s i wr=>∃t:Nat,t≤n∧i= .int .i64 t∧s= .int .u64 (orL (l.take t))∧w=wr) (fun _ i _=>n - (intOf i).toNat)
 case atStart=>exact ⟨0,by omega,rfl,rfl,rfl⟩
 case round =>
  obtain ⟨t,ht,rfl,rfl,rfl⟩:=hrel
  by_cases hlt:t<n
  ·have hcell:=H.out t hlt;have HE:=LH (orL_step l t (by omega));have hb:=orL_bd l t;generalize orL (l.take t)=S at *
   generalize l.getD t 0=x at *
   go_wp2_with fail
   go_roundw
   case rel=>exact ⟨t+1,by omega,by go_num,by rw[HE.out],trivial⟩
   case measure=>simp[intOf];omega
  ·obtain rfl:t=n:=by omega
   have HE:Hid (orL (l.take t)=orL l):=LH (by rw[←hn,List.take_length]);generalize orL (l.take t)=S at *
   go_wp2_with fail
   go_ret;exact ⟨by rw[←HE.out];rfl,rfl⟩
theorem box_cells {w w':World} {p:Pt} (h:Below (w.heap.size+1) (w.alloc (.cells (cellsP p) 70)) w'):w'.cell? ⟨w.heap.size,0,none⟩=some (.int .i64 p.kind)∧w'.cell? ⟨w.heap.size,1,none⟩=some (.int .i64 p.off)∧w'.cell? ⟨w.heap.size,2,none⟩=some (.int .i64 p.data)∧w'.cell? ⟨w.heap.size,3,none⟩=some (.int .i64 p.ptrs)∧w'.cell? ⟨w.heap.size,4,none⟩=some (.int .i64 p.size)∧w'.cell? ⟨w.heap.size,5,none⟩=some (.int .i64 p.count)∧w'.cell? ⟨w.heap.size,6,none⟩=some (.int .i64 p.seg)∧w'.cell? ⟨w.heap.size,7,none⟩=some (.bool p.dbl) :=
 PBox.cells ((h.block w.heap.size (by omega)).trans (PBox.new w p))
theorem box_below {w w':World} {p:Pt} (h:Below (w.heap.size+1) (w.alloc (.cells (cellsP p) 70)) w'):Below w.heap.size w w' :=
 ((Below.refl _ _).alloc (Nat.le_refl _) _).trans (h.mono (by omega))
theorem row4_cells (w:World) (a b c d:Int):∀i,i<4→(w.alloc (.cells #[.int .u64 a,.int .u64 b,.int .u64 c,.int .u64 d] 44)).cell? ⟨w.heap.size,i,none⟩=some (.int .u64 (([a,b,c,d]:List Int).getD i 0)):=by
 intro i hi;unfold World.cell?;dsimp only;rw[blk_alloc_new]
 rcases (show i=0∨i=1∨i=2∨i=3 by omega) with rfl | rfl | rfl | rfl <;> rfl
set_option maxHeartbeats 1000000 in
theorem laid_1 (o d r s c g:Int) (b:Bool) (w:World) (L:Laid w) :
  Calls Tryz.prog 172 #[.agg (cellsP ⟨1,o,d,r,s,c,g,b⟩)] w fun e w'=>e= .returned (.int .u64 (4*(o % 1073741824)+d % 65536*4294967296+r % 65536*281474976710656))∧Below w.heap.size w w':=by
 have HPC:=LH (fun w' h=>box_cells (w:=w) (p:=⟨1,o,d,r,s,c,g,b⟩) (w':=w') h)
 have HPB:=LH (fun w' h=>box_below (w:=w) (p:=⟨1,o,d,r,s,c,g,b⟩) (w':=w') h)
 have HLL:=LH (fun w' h=>L.on (w':=w') h)
 obtain ⟨A,hA⟩:∃X,(o:Int) % 1073741824*4=X:=⟨_,rfl⟩;obtain ⟨D,hD⟩:∃X,(d:Int) % 65536*4294967296=X:=⟨_,rfl⟩;obtain ⟨R,hR⟩:∃X,(r:Int) % 65536*281474976710656=X:=⟨_,rfl⟩;have HK:=LH (fun w=>with_kind 0 w)
 have HA:=LH (fun w=>with_off o w)
 rw[hA] at HA;have HD:=LH (fun w=>with_data d w)
 rw[hD] at HD;have HR:=LH (fun w=>with_ptrs r w)
 rw[hR] at HR;have HO:Hid (orL [0,A,D,R]=4*(o % 1073741824)+d % 65536*4294967296+r % 65536*281474976710656):=LH (by
  rw[orL4 0 A D R 2 32 48 (by omega) (by omega) (by omega) (by omega) (by decide) (by omega) (by omega) (by omega) (by omega) (by omega) (by omega)]
  omega)
 generalize 4*(o % 1073741824)+d % 65536*4294967296+r % 65536*281474976710656=V at *
 clear hA hD hR L;unfold cellsP at HPC HPB ⊢;dsimp only at HPC HPB ⊢;have HKeep0:∀w',Below (w.heap.size+1) (w.alloc (.cells #[.int .i64 1,.int .i64 o,.int .i64 d,.int .i64 r,.int .i64 s,.int .i64 c,.int .i64 g,.bool b] 70)) w'→w'.cell? ⟨1,0,none⟩=some (.int .i64 2)∧w'.cell? ⟨1,1,none⟩=some (.int .i64 31)∧w'.cell? ⟨2,0,none⟩=some (.int .i64 32)∧w'.cell? ⟨2,1,none⟩=some (.int .i64 47)∧w'.cell? ⟨3,0,none⟩=some (.int .i64 48)∧w'.cell? ⟨3,1,none⟩=some (.int .i64 63)∧w'.cell? ⟨w.heap.size,1,none⟩=some (.int .i64 o)∧w'.cell? ⟨w.heap.size,2,none⟩=some (.int .i64 d)∧w'.cell? ⟨w.heap.size,3,none⟩=some (.int .i64 r):=fun w' h=>by
  obtain ⟨_,y1,y2,y3,_,_,_,_⟩:=HPC.out _ h;have hl:=HLL.out _ (HPB.out _ h);exact ⟨hl.off.1,hl.off.2,hl.data.1,hl.data.2,hl.ptrs.1,hl.ptrs.2,y1,y2,y3⟩
 have HKeep:=LH HKeep0;clear HKeep0;obtain ⟨W,hW⟩:∃W,w.alloc (.cells #[.int .i64 1,.int .i64 o,.int .i64 d,.int .i64 r,.int .i64 s,.int .i64 c,.int .i64 g,.bool b] 70)=W:=⟨_,rfl⟩;have HS:Hid (w.heap.size+1≤W.heap.size):=LH (by rw[←hW];simp);rw[hW] at HPC HPB HKeep;have HLW:=LH (HLL.out W (HPB.out W (Below.refl _ _)));obtain ⟨q0,q1⟩:=HLW.out.kind;obtain ⟨z0,z1,z2,z3,z4,z5,z6,z7⟩:=HPC.out W (Below.refl _ _);go_enter Tryz.func172,Tryz.ntmps172
 go_wp2_with fail
 refine (HK.out _).mono ?_
 rintro e w1 ⟨rfl,hB1⟩;have hQ1:=place_seq (Below.refl (w.heap.size+1) W) HS.out hB1;clear z0 z1 z2 z3 z4 z5 z6 z7 q0 q1 hW;obtain ⟨z0,z1,z2,z3,z4,z5,z6,z7⟩:=HPC.out w1 hQ1;clear z4 z5 z6 z7
 go_wp2_with fail
 have hR0:Below (w.heap.size+1) W w1.drew:=hQ1.drew;clear z0 z1 z2 z3;have hK0:=HKeep.out _ hR0
 go_region_held3 (fun w'=>w'.cell? ⟨1,0,none⟩=some (.int .i64 2)∧w'.cell? ⟨1,1,none⟩=some (.int .i64 31)∧w'.cell? ⟨2,0,none⟩=some (.int .i64 32)∧w'.cell? ⟨2,1,none⟩=some (.int .i64 47)∧w'.cell? ⟨3,0,none⟩=some (.int .i64 48)∧w'.cell? ⟨3,1,none⟩=some (.int .i64 63)∧w'.cell? ⟨w.heap.size,1,none⟩=some (.int .i64 o)∧w'.cell? ⟨w.heap.size,2,none⟩=some (.int .i64 d)∧w'.cell? ⟨w.heap.size,3,none⟩=some (.int .i64 r)) (first | exact HKeep.out _ hR0 | exact HKeep.out _ hR1 | exact HKeep.out _ hR2 | exact HKeep.out _ hR3 | exact HKeep.out _ hR4) (first
  | (go_at_call 176;with_reducible refine (HA.out _).mono ?_;rintro e w2 ⟨rfl,hB2⟩;have hR1:=place_seq hR0 (by have:=HS.out;have:=hR0.size;omega) hB2)
  | (go_at_call 176;with_reducible refine (HD.out _).mono ?_;rintro e w3 ⟨rfl,hB3⟩;have hR2:=place_seq hR1 (by have:=HS.out;have:=hR1.size;omega) hB3)
  | (go_at_call 176;with_reducible refine (HR.out _).mono ?_;rintro e w4 ⟨rfl,hB4⟩;have hR3:=place_seq hR2 (by have:=HS.out;have:=hR2.size;omega) hB4;have hR4:=hR3.alloc (by have:=HS.out;have:=hR3.size;omega) (.cells #[.int .u64 0,.int .u64 A,.int .u64 D,.int .u64 R] 44);have hJ:=row4_cells w4 0 A D R)
  | (go_at_call 177;with_reducible refine (joined_any w4.heap.size 4 [0,A,D,R] _ rfl (by decide) hJ).mono ?_;rintro e w5 ⟨rfl,rfl⟩))
 all_goals
  go_wp2_with fail
  go_ret;exact ⟨ret_int HO.out,HPB.out _ hR4⟩
set_option maxHeartbeats 1000000 in
theorem laid_2 (o d r s c g:Int) (b:Bool) (w:World) (L:Laid w) :
  Calls Tryz.prog 172 #[.agg (cellsP ⟨2,o,d,r,s,c,g,b⟩)] w fun e w'=>e= .returned (.int .u64 (1+4*(o % 1073741824)+s % 8*4294967296+c % 536870912*34359738368))∧Below w.heap.size w w':=by
 have HPC:=LH (fun w' h=>box_cells (w:=w) (p:=⟨2,o,d,r,s,c,g,b⟩) (w':=w') h)
 have HPB:=LH (fun w' h=>box_below (w:=w) (p:=⟨2,o,d,r,s,c,g,b⟩) (w':=w') h)
 have HLL:=LH (fun w' h=>L.on (w':=w') h)
 obtain ⟨A,hA⟩:∃X,(o:Int) % 1073741824*4=X:=⟨_,rfl⟩;obtain ⟨D,hD⟩:∃X,(s:Int) % 8*4294967296=X:=⟨_,rfl⟩;obtain ⟨R,hR⟩:∃X,(c:Int) % 536870912*34359738368=X:=⟨_,rfl⟩;have HK:=LH (fun w=>with_kind 1 w)
 have HA:=LH (fun w=>with_off o w)
 rw[hA] at HA;have HD:=LH (fun w=>with_size s w)
 rw[hD] at HD;have HR:=LH (fun w=>with_count c w)
 rw[hR] at HR;have HO:Hid (orL [1,A,D,R]=1+4*(o % 1073741824)+s % 8*4294967296+c % 536870912*34359738368):=LH (by
  rw[orL4 1 A D R 2 32 35 (by omega) (by omega) (by omega) (by omega) (by decide) (by omega) (by omega) (by omega) (by omega) (by omega) (by omega)]
  omega)
 generalize 1+4*(o % 1073741824)+s % 8*4294967296+c % 536870912*34359738368=V at *
 clear hA hD hR L;unfold cellsP at HPC HPB ⊢;dsimp only at HPC HPB ⊢;have HKeep0:∀w',Below (w.heap.size+1) (w.alloc (.cells #[.int .i64 2,.int .i64 o,.int .i64 d,.int .i64 r,.int .i64 s,.int .i64 c,.int .i64 g,.bool b] 70)) w'→w'.cell? ⟨1,0,none⟩=some (.int .i64 2)∧w'.cell? ⟨1,1,none⟩=some (.int .i64 31)∧w'.cell? ⟨4,0,none⟩=some (.int .i64 32)∧w'.cell? ⟨4,1,none⟩=some (.int .i64 34)∧w'.cell? ⟨5,0,none⟩=some (.int .i64 35)∧w'.cell? ⟨5,1,none⟩=some (.int .i64 63)∧w'.cell? ⟨w.heap.size,1,none⟩=some (.int .i64 o)∧w'.cell? ⟨w.heap.size,4,none⟩=some (.int .i64 s)∧w'.cell? ⟨w.heap.size,5,none⟩=some (.int .i64 c):=fun w' h=>by
  obtain ⟨_,y1,_,_,y4,y5,_,_⟩:=HPC.out _ h;have hl:=HLL.out _ (HPB.out _ h);exact ⟨hl.off.1,hl.off.2,hl.size.1,hl.size.2,hl.count.1,hl.count.2,y1,y4,y5⟩
 have HKeep:=LH HKeep0;clear HKeep0;obtain ⟨W,hW⟩:∃W,w.alloc (.cells #[.int .i64 2,.int .i64 o,.int .i64 d,.int .i64 r,.int .i64 s,.int .i64 c,.int .i64 g,.bool b] 70)=W:=⟨_,rfl⟩;have HS:Hid (w.heap.size+1≤W.heap.size):=LH (by rw[←hW];simp);rw[hW] at HPC HPB HKeep;have HLW:=LH (HLL.out W (HPB.out W (Below.refl _ _)));obtain ⟨q0,q1⟩:=HLW.out.kind;obtain ⟨z0,z1,z2,z3,z4,z5,z6,z7⟩:=HPC.out W (Below.refl _ _);go_enter Tryz.func172,Tryz.ntmps172
 go_wp2_with fail
 refine (HK.out _).mono ?_
 rintro e w1 ⟨rfl,hB1⟩;have hQ1:=place_seq (Below.refl (w.heap.size+1) W) HS.out hB1;clear z0 z1 z2 z3 z4 z5 z6 z7 q0 q1 hW;obtain ⟨z0,z1,z2,z3,z4,z5,z6,z7⟩:=HPC.out w1 hQ1;clear z4 z5 z6 z7
 go_wp2_with fail
 have hR0:Below (w.heap.size+1) W w1.drew:=hQ1.drew;clear z0 z1 z2 z3;have hK0:=HKeep.out _ hR0
 go_region_held3 (fun w'=>w'.cell? ⟨1,0,none⟩=some (.int .i64 2)∧w'.cell? ⟨1,1,none⟩=some (.int .i64 31)∧w'.cell? ⟨4,0,none⟩=some (.int .i64 32)∧w'.cell? ⟨4,1,none⟩=some (.int .i64 34)∧w'.cell? ⟨5,0,none⟩=some (.int .i64 35)∧w'.cell? ⟨5,1,none⟩=some (.int .i64 63)∧w'.cell? ⟨w.heap.size,1,none⟩=some (.int .i64 o)∧w'.cell? ⟨w.heap.size,4,none⟩=some (.int .i64 s)∧w'.cell? ⟨w.heap.size,5,none⟩=some (.int .i64 c)) (first | exact HKeep.out _ hR0 | exact HKeep.out _ hR1 | exact HKeep.out _ hR2 | exact HKeep.out _ hR3 | exact HKeep.out _ hR4) (first
  | (go_at_call 176;with_reducible refine (HA.out _).mono ?_;rintro e w2 ⟨rfl,hB2⟩;have hR1:=place_seq hR0 (by have:=HS.out;have:=hR0.size;omega) hB2)
  | (go_at_call 176;with_reducible refine (HD.out _).mono ?_;rintro e w3 ⟨rfl,hB3⟩;have hR2:=place_seq hR1 (by have:=HS.out;have:=hR1.size;omega) hB3)
  | (go_at_call 176;with_reducible refine (HR.out _).mono ?_;rintro e w4 ⟨rfl,hB4⟩;have hR3:=place_seq hR2 (by have:=HS.out;have:=hR2.size;omega) hB4;have hR4:=hR3.alloc (by have:=HS.out;have:=hR3.size;omega) (.cells #[.int .u64 1,.int .u64 A,.int .u64 D,.int .u64 R] 44);have hJ:=row4_cells w4 1 A D R)
  | (go_at_call 177;with_reducible refine (joined_any w4.heap.size 4 [1,A,D,R] _ rfl (by decide) hJ).mono ?_;rintro e w5 ⟨rfl,rfl⟩))
 all_goals
  go_wp2_with fail
  go_ret;exact ⟨ret_int HO.out,HPB.out _ hR4⟩
set_option maxHeartbeats 1000000 in
theorem laid_3t (o d r s c g:Int) (w:World) (L:Laid w) :
  Calls Tryz.prog 172 #[.agg (cellsP ⟨3,o,d,r,s,c,g,true⟩)] w fun e w'=>e= .returned (.int .u64 (2+8*(o % 536870912)+g % 4294967296*4294967296+4))∧Below w.heap.size w w':=by
 have HPC:=LH (fun w' h=>box_cells (w:=w) (p:=⟨3,o,d,r,s,c,g,true⟩) (w':=w') h)
 have HPB:=LH (fun w' h=>box_below (w:=w) (p:=⟨3,o,d,r,s,c,g,true⟩) (w':=w') h)
 have HLL:=LH (fun w' h=>L.on (w':=w') h)
 obtain ⟨A,hA⟩:∃X,(1:Int) % 2*4=X:=⟨_,rfl⟩;obtain ⟨D,hD⟩:∃X,(o:Int) % 536870912*8=X:=⟨_,rfl⟩;obtain ⟨R,hR⟩:∃X,(g:Int) % 4294967296*4294967296=X:=⟨_,rfl⟩;have HK:=LH (fun w=>with_kind 2 w)
 have HA:=LH (fun w=>with_dbl 1 w)
 rw[hA] at HA;have HD:=LH (fun w=>with_far o w)
 rw[hD] at HD;have HR:=LH (fun w=>with_seg g w)
 rw[hR] at HR;have HO:Hid (orL [2,A,D,R]=2+8*(o % 536870912)+g % 4294967296*4294967296+4):=LH (by
  rw[orL4 2 A D R 2 3 32 (by omega) (by omega) (by omega) (by omega) (by decide) (by omega) (by omega) (by omega) (by omega) (by omega) (by omega)]
  omega)
 generalize 2+8*(o % 536870912)+g % 4294967296*4294967296+4=V at *
 clear hA hD hR L;unfold cellsP at HPC HPB ⊢;dsimp only at HPC HPB ⊢;have HKeep0:∀w',Below (w.heap.size+1) (w.alloc (.cells #[.int .i64 3,.int .i64 o,.int .i64 d,.int .i64 r,.int .i64 s,.int .i64 c,.int .i64 g,.bool true] 70)) w'→w'.cell? ⟨6,0,none⟩=some (.int .i64 2)∧w'.cell? ⟨6,1,none⟩=some (.int .i64 2)∧w'.cell? ⟨7,0,none⟩=some (.int .i64 3)∧w'.cell? ⟨7,1,none⟩=some (.int .i64 31)∧w'.cell? ⟨8,0,none⟩=some (.int .i64 32)∧w'.cell? ⟨8,1,none⟩=some (.int .i64 63)∧w'.cell? ⟨w.heap.size,7,none⟩=some (.bool true)∧w'.cell? ⟨w.heap.size,1,none⟩=some (.int .i64 o)∧w'.cell? ⟨w.heap.size,6,none⟩=some (.int .i64 g):=fun w' h=>by
  obtain ⟨_,y1,_,_,_,_,y6,y7⟩:=HPC.out _ h;have hl:=HLL.out _ (HPB.out _ h);exact ⟨hl.dbl.1,hl.dbl.2,hl.far.1,hl.far.2,hl.seg.1,hl.seg.2,y7,y1,y6⟩
 have HKeep:=LH HKeep0;clear HKeep0;obtain ⟨W,hW⟩:∃W,w.alloc (.cells #[.int .i64 3,.int .i64 o,.int .i64 d,.int .i64 r,.int .i64 s,.int .i64 c,.int .i64 g,.bool true] 70)=W:=⟨_,rfl⟩;have HS:Hid (w.heap.size+1≤W.heap.size):=LH (by rw[←hW];simp);rw[hW] at HPC HPB HKeep;have HLW:=LH (HLL.out W (HPB.out W (Below.refl _ _)));obtain ⟨q0,q1⟩:=HLW.out.kind;obtain ⟨z0,z1,z2,z3,z4,z5,z6,z7⟩:=HPC.out W (Below.refl _ _);go_enter Tryz.func172,Tryz.ntmps172
 go_wp2_with fail
 refine (HK.out _).mono ?_
 rintro e w1 ⟨rfl,hB1⟩;have hQ1:=place_seq (Below.refl (w.heap.size+1) W) HS.out hB1;clear z0 z1 z2 z3 z4 z5 z6 z7 q0 q1 hW;obtain ⟨z0,z1,z2,z3,z4,z5,z6,z7⟩:=HPC.out w1 hQ1;clear z4 z5 z6 z7
 go_wp2_with fail
 have hR0:Below (w.heap.size+1) W w1.drew:=hQ1.drew;clear z0 z1 z2 z3;have hK0:=HKeep.out _ hR0
 go_region_held3 (fun w'=>w'.cell? ⟨6,0,none⟩=some (.int .i64 2)∧w'.cell? ⟨6,1,none⟩=some (.int .i64 2)∧w'.cell? ⟨7,0,none⟩=some (.int .i64 3)∧w'.cell? ⟨7,1,none⟩=some (.int .i64 31)∧w'.cell? ⟨8,0,none⟩=some (.int .i64 32)∧w'.cell? ⟨8,1,none⟩=some (.int .i64 63)∧w'.cell? ⟨w.heap.size,7,none⟩=some (.bool true)∧w'.cell? ⟨w.heap.size,1,none⟩=some (.int .i64 o)∧w'.cell? ⟨w.heap.size,6,none⟩=some (.int .i64 g)) (first | exact HKeep.out _ hR0 | exact HKeep.out _ hR1 | exact HKeep.out _ hR2 | exact HKeep.out _ hR3 | exact HKeep.out _ hR4) (first
  | (go_at_call 148;with_reducible refine (bit_any true _).mono ?_;rintro e w' ⟨rfl,rfl⟩)
  | (go_at_call 176;with_reducible refine (HA.out _).mono ?_;rintro e w2 ⟨rfl,hB2⟩;have hR1:=place_seq hR0 (by have:=HS.out;have:=hR0.size;omega) hB2)
  | (go_at_call 176;with_reducible refine (HD.out _).mono ?_;rintro e w3 ⟨rfl,hB3⟩;have hR2:=place_seq hR1 (by have:=HS.out;have:=hR1.size;omega) hB3)
  | (go_at_call 176;with_reducible refine (HR.out _).mono ?_;rintro e w4 ⟨rfl,hB4⟩;have hR3:=place_seq hR2 (by have:=HS.out;have:=hR2.size;omega) hB4;have hR4:=hR3.alloc (by have:=HS.out;have:=hR3.size;omega) (.cells #[.int .u64 2,.int .u64 A,.int .u64 D,.int .u64 R] 44);have hJ:=row4_cells w4 2 A D R)
  | (go_at_call 177;with_reducible refine (joined_any w4.heap.size 4 [2,A,D,R] _ rfl (by decide) hJ).mono ?_;rintro e w5 ⟨rfl,rfl⟩))
 all_goals
  go_wp2_with fail
  go_ret;exact ⟨ret_int HO.out,HPB.out _ hR4⟩
set_option maxHeartbeats 1000000 in
theorem laid_3f (o d r s c g:Int) (w:World) (L:Laid w) :
  Calls Tryz.prog 172 #[.agg (cellsP ⟨3,o,d,r,s,c,g,false⟩)] w fun e w'=>e= .returned (.int .u64 (2+8*(o % 536870912)+g % 4294967296*4294967296+0))∧Below w.heap.size w w':=by
 have HPC:=LH (fun w' h=>box_cells (w:=w) (p:=⟨3,o,d,r,s,c,g,false⟩) (w':=w') h)
 have HPB:=LH (fun w' h=>box_below (w:=w) (p:=⟨3,o,d,r,s,c,g,false⟩) (w':=w') h)
 have HLL:=LH (fun w' h=>L.on (w':=w') h)
 obtain ⟨A,hA⟩:∃X,(0:Int) % 2*4=X:=⟨_,rfl⟩;obtain ⟨D,hD⟩:∃X,(o:Int) % 536870912*8=X:=⟨_,rfl⟩;obtain ⟨R,hR⟩:∃X,(g:Int) % 4294967296*4294967296=X:=⟨_,rfl⟩;have HK:=LH (fun w=>with_kind 2 w)
 have HA:=LH (fun w=>with_dbl 0 w)
 rw[hA] at HA;have HD:=LH (fun w=>with_far o w)
 rw[hD] at HD;have HR:=LH (fun w=>with_seg g w)
 rw[hR] at HR;have HO:Hid (orL [2,A,D,R]=2+8*(o % 536870912)+g % 4294967296*4294967296+0):=LH (by
  rw[orL4 2 A D R 2 3 32 (by omega) (by omega) (by omega) (by omega) (by decide) (by omega) (by omega) (by omega) (by omega) (by omega) (by omega)]
  omega)
 generalize 2+8*(o % 536870912)+g % 4294967296*4294967296+0=V at *
 clear hA hD hR L;unfold cellsP at HPC HPB ⊢;dsimp only at HPC HPB ⊢;have HKeep0:∀w',Below (w.heap.size+1) (w.alloc (.cells #[.int .i64 3,.int .i64 o,.int .i64 d,.int .i64 r,.int .i64 s,.int .i64 c,.int .i64 g,.bool false] 70)) w'→w'.cell? ⟨6,0,none⟩=some (.int .i64 2)∧w'.cell? ⟨6,1,none⟩=some (.int .i64 2)∧w'.cell? ⟨7,0,none⟩=some (.int .i64 3)∧w'.cell? ⟨7,1,none⟩=some (.int .i64 31)∧w'.cell? ⟨8,0,none⟩=some (.int .i64 32)∧w'.cell? ⟨8,1,none⟩=some (.int .i64 63)∧w'.cell? ⟨w.heap.size,7,none⟩=some (.bool false)∧w'.cell? ⟨w.heap.size,1,none⟩=some (.int .i64 o)∧w'.cell? ⟨w.heap.size,6,none⟩=some (.int .i64 g):=fun w' h=>by
  obtain ⟨_,y1,_,_,_,_,y6,y7⟩:=HPC.out _ h;have hl:=HLL.out _ (HPB.out _ h);exact ⟨hl.dbl.1,hl.dbl.2,hl.far.1,hl.far.2,hl.seg.1,hl.seg.2,y7,y1,y6⟩
 have HKeep:=LH HKeep0;clear HKeep0;obtain ⟨W,hW⟩:∃W,w.alloc (.cells #[.int .i64 3,.int .i64 o,.int .i64 d,.int .i64 r,.int .i64 s,.int .i64 c,.int .i64 g,.bool false] 70)=W:=⟨_,rfl⟩;have HS:Hid (w.heap.size+1≤W.heap.size):=LH (by rw[←hW];simp);rw[hW] at HPC HPB HKeep;have HLW:=LH (HLL.out W (HPB.out W (Below.refl _ _)));obtain ⟨q0,q1⟩:=HLW.out.kind;obtain ⟨z0,z1,z2,z3,z4,z5,z6,z7⟩:=HPC.out W (Below.refl _ _);go_enter Tryz.func172,Tryz.ntmps172
 go_wp2_with fail
 refine (HK.out _).mono ?_
 rintro e w1 ⟨rfl,hB1⟩;have hQ1:=place_seq (Below.refl (w.heap.size+1) W) HS.out hB1;clear z0 z1 z2 z3 z4 z5 z6 z7 q0 q1 hW;obtain ⟨z0,z1,z2,z3,z4,z5,z6,z7⟩:=HPC.out w1 hQ1;clear z4 z5 z6 z7
 go_wp2_with fail
 have hR0:Below (w.heap.size+1) W w1.drew:=hQ1.drew;clear z0 z1 z2 z3;have hK0:=HKeep.out _ hR0
 go_region_held3 (fun w'=>w'.cell? ⟨6,0,none⟩=some (.int .i64 2)∧w'.cell? ⟨6,1,none⟩=some (.int .i64 2)∧w'.cell? ⟨7,0,none⟩=some (.int .i64 3)∧w'.cell? ⟨7,1,none⟩=some (.int .i64 31)∧w'.cell? ⟨8,0,none⟩=some (.int .i64 32)∧w'.cell? ⟨8,1,none⟩=some (.int .i64 63)∧w'.cell? ⟨w.heap.size,7,none⟩=some (.bool false)∧w'.cell? ⟨w.heap.size,1,none⟩=some (.int .i64 o)∧w'.cell? ⟨w.heap.size,6,none⟩=some (.int .i64 g)) (first | exact HKeep.out _ hR0 | exact HKeep.out _ hR1 | exact HKeep.out _ hR2 | exact HKeep.out _ hR3 | exact HKeep.out _ hR4) (first
  | (go_at_call 148;with_reducible refine (bit_any false _).mono ?_;rintro e w' ⟨rfl,rfl⟩)
  | (go_at_call 176;with_reducible refine (HA.out _).mono ?_;rintro e w2 ⟨rfl,hB2⟩;have hR1:=place_seq hR0 (by have:=HS.out;have:=hR0.size;omega) hB2)
  | (go_at_call 176;with_reducible refine (HD.out _).mono ?_;rintro e w3 ⟨rfl,hB3⟩;have hR2:=place_seq hR1 (by have:=HS.out;have:=hR1.size;omega) hB3)
  | (go_at_call 176;with_reducible refine (HR.out _).mono ?_;rintro e w4 ⟨rfl,hB4⟩;have hR3:=place_seq hR2 (by have:=HS.out;have:=hR2.size;omega) hB4;have hR4:=hR3.alloc (by have:=HS.out;have:=hR3.size;omega) (.cells #[.int .u64 2,.int .u64 A,.int .u64 D,.int .u64 R] 44);have hJ:=row4_cells w4 2 A D R)
  | (go_at_call 177;with_reducible refine (joined_any w4.heap.size 4 [2,A,D,R] _ rfl (by decide) hJ).mono ?_;rintro e w5 ⟨rfl,rfl⟩))
 all_goals
  go_wp2_with fail
  go_ret;exact ⟨ret_int HO.out,HPB.out _ hR4⟩
set_option maxHeartbeats 1000000 in
theorem laid_0 (k o d r s c g:Int) (b:Bool) (w:World) (L:Laid w) (hk:¬(k=1∨k=2∨k=3)) :
  Calls Tryz.prog 172 #[.agg (cellsP ⟨k,o,d,r,s,c,g,b⟩)] w fun e w'=>e= .returned (.int .u64 0)∧Below w.heap.size w w':=by
 have HPC:=LH (fun w' h=>box_cells (w:=w) (p:=⟨k,o,d,r,s,c,g,b⟩) (w':=w') h)
 have HPB:=LH (fun w' h=>box_below (w:=w) (p:=⟨k,o,d,r,s,c,g,b⟩) (w':=w') h)
 have HLL:=LH (fun w' h=>L.on (w':=w') h)
 have HK:=LH (fun n w=>with_kind n w)
 clear L;unfold cellsP at HPC HPB ⊢;dsimp only at HPC HPB ⊢;obtain ⟨W,hW⟩:∃W,w.alloc (.cells #[.int .i64 k,.int .i64 o,.int .i64 d,.int .i64 r,.int .i64 s,.int .i64 c,.int .i64 g,.bool b] 70)=W:=⟨_,rfl⟩;have HS:Hid (w.heap.size+1≤W.heap.size):=LH (by rw[←hW];simp);rw[hW] at HPC HPB;have HLW:=LH (HLL.out W (HPB.out W (Below.refl _ _)));obtain ⟨q0,q1⟩:=HLW.out.kind;obtain ⟨z0,z1,z2,z3,z4,z5,z6,z7⟩:=HPC.out W (Below.refl _ _);have d1:(k == 1)=false:=by rw[beq_eq_false_iff_ne];omega
 have d2:(k == 2)=false:=by rw[beq_eq_false_iff_ne];omega
 have d3:(k == 3)=false:=by rw[beq_eq_false_iff_ne];omega
 clear hk;go_enter Tryz.func172,Tryz.ntmps172
 go_wp2_with fail
 refine (HK.out _ _).mono ?_
 rintro e w1 ⟨rfl,hB1⟩;have hQ1:=place_seq (Below.refl (w.heap.size+1) W) HS.out hB1;clear z0 z1 z2 z3 z4 z5 z6 z7 q0 q1 hW;obtain ⟨z0,z1,z2,z3,z4,z5,z6,z7⟩:=HPC.out w1 hQ1;clear z4 z5 z6 z7
 go_wp2_with fail
 go_ret;exact ⟨rfl,HPB.out _ hQ1⟩
theorem laid_any (p:Pt) (w:World) (L:Laid w) :
  Calls Tryz.prog 172 #[.agg (cellsP p)] w fun e w'=>e= .returned (.int .u64 (rawW p))∧Below w.heap.size w w':=by
 obtain ⟨k,o,d,r,s,c,g,b⟩:=p
 by_cases h1:k=1
 ·subst h1;exact laid_1 o d r s c g b w L
 by_cases h2:k=2
 ·subst h2;exact laid_2 o d r s c g b w L
 by_cases h3:k=3
 ·subst h3;cases b
  ·exact laid_3f o d r s c g w L
  ·exact laid_3t o d r s c g w L
 rw[show rawW ⟨k,o,d,r,s,c,g,b⟩=0 by simp[rawW,h1,h2,h3]]
 exact laid_0 k o d r s c g b w L (by omega)
theorem two_boxes {w:World} (cs ds:Array Value) (t:TypeId) {w':World} (h:Below (w.heap.size+1) (w.alloc (.cells cs t)) w') (w2:World) (k:Below (w'.heap.size+1) (w'.alloc (.cells ds t)) w2) :
  w2.heap[w.heap.size]? = some (.cells cs t (0,0))∧w2.heap[w'.heap.size]? = some (.cells ds t (0,0))∧w.heap.size<w'.heap.size∧Below w.heap.size w w2:=by
 have hs:w.heap.size+1≤w'.heap.size:=by have:=h.size;simpa using this
 refine ⟨?_,?_,by omega,?_⟩
 ·rw[k.block w.heap.size (by omega),blk_alloc_lt _ _ _ (by omega),h.block w.heap.size (by omega),blk_alloc_new]
 ·rw[k.block w'.heap.size (by omega),blk_alloc_new]
 ·exact (((Below.refl _ _).alloc (Nat.le_refl _) _).trans (h.mono (by omega))).trans ((((Below.refl _ _).alloc (Nat.le_refl _) _).trans (k.mono (by omega))).mono (by omega))
theorem PBox.set8 {w:World} {g:Nat} {p:Pt} (h:PBox w g p) (k o d r s c e:Int) (b:Bool) :
  PBox ((((((((w.setCell ⟨g,0,none⟩ (.int .i64 k)).setCell ⟨g,1,none⟩ (.int .i64 o)).setCell ⟨g,2,none⟩ (.int .i64 d)).setCell ⟨g,3,none⟩ (.int .i64 r)).setCell ⟨g,4,none⟩ (.int .i64 s)).setCell ⟨g,5,none⟩ (.int .i64 c)).setCell ⟨g,6,none⟩ (.int .i64 e)).setCell ⟨g,7,none⟩ (.bool b)) g ⟨k,o,d,r,s,c,e,b⟩:=by
 have h0:w.heap[g]? = some (.cells (cellsP p) 70 (0,0)):=h;have h1:=heap_setCell_same _ g 0 _ _ (.int .i64 k) h0;have h2:=heap_setCell_same _ g 1 _ _ (.int .i64 o) h1;have h3:=heap_setCell_same _ g 2 _ _ (.int .i64 d) h2;have h4:=heap_setCell_same _ g 3 _ _ (.int .i64 r) h3;have h5:=heap_setCell_same _ g 4 _ _ (.int .i64 s) h4;have h6:=heap_setCell_same _ g 5 _ _ (.int .i64 c) h5;have h7:=heap_setCell_same _ g 6 _ _ (.int .i64 e) h6;have h8:=heap_setCell_same _ g 7 _ _ (.bool b) h7;unfold PBox;rw[h8]
 simp[cellsP]
theorem below_set8 {w W:World} {g:Nat} (h:Below w.heap.size w W) (hg:w.heap.size≤g) (a0 a1 a2 a3 a4 a5 a6 a7:Value) :
  Below w.heap.size w ((((((((W.setCell ⟨g,0,none⟩ a0).setCell ⟨g,1,none⟩ a1).setCell ⟨g,2,none⟩ a2).setCell ⟨g,3,none⟩ a3).setCell ⟨g,4,none⟩ a4).setCell ⟨g,5,none⟩ a5).setCell ⟨g,6,none⟩ a6).setCell ⟨g,7,none⟩ a7) :=
 (((((((h.setCell (p:=⟨g,0,none⟩) hg a0).setCell (p:=⟨g,1,none⟩) hg a1).setCell (p:=⟨g,2,none⟩) hg a2).setCell (p:=⟨g,3,none⟩) hg a3).setCell (p:=⟨g,4,none⟩) hg a4).setCell (p:=⟨g,5,none⟩) hg a5).setCell (p:=⟨g,6,none⟩) hg a6).setCell (p:=⟨g,7,none⟩) hg a7
theorem PBox.frozen {w:World} {g:Nat} {p:Pt} (h:PBox w g p) (j:Nat):w.frozen? ⟨g,j,none⟩=false:=by
 unfold PBox at h
 simp[World.frozen?,h]
theorem PBox.frozens {w:World} {g:Nat} {p:Pt} (h:PBox w g p):w.frozen? ⟨g,0,none⟩=false∧w.frozen? ⟨g,1,none⟩=false∧w.frozen? ⟨g,2,none⟩=false∧w.frozen? ⟨g,3,none⟩=false∧w.frozen? ⟨g,4,none⟩=false∧w.frozen? ⟨g,5,none⟩=false∧w.frozen? ⟨g,6,none⟩=false∧w.frozen? ⟨g,7,none⟩=false :=
 ⟨h.frozen 0,h.frozen 1,h.frozen 2,h.frozen 3,h.frozen 4,h.frozen 5,h.frozen 6,h.frozen 7⟩
set_option maxHeartbeats 1000000 in
theorem dec_0 (w:World):Calls Tryz.prog 164 #[.int .u64 0] w fun e w'=>e= .returned (.tuple #[.agg (cellsP (decP 0)),.int .u16 (decE 0)])∧Below w.heap.size w w':=by
 rw[show decP 0=Pt.zero from rfl,show decE 0=0 by decide]
 go_enter Tryz.func164,Tryz.ntmps164
 go_wp2_with fail
 refine bodyPost_ret (v:= .tuple #[.agg (cellsP Pt.zero),.int .u16 0]) ?_ rfl ⟨rfl,(Below.refl _ _).alloc (Nat.le_refl _) _⟩
 simp[results,Tryz.f164,go_sem,cellsP,Pt.zero]
set_option maxHeartbeats 1000000 in
theorem dec_3 (n:Int) (w:World) (L:Laid w) (h0:0≤n) (h1:n≤18446744073709551615) (m4:n % 4=3):Calls Tryz.prog 164 #[.int .u64 n] w fun e w'=>e= .returned (.tuple #[.agg (cellsP Pt.zero),.int .u16 23])∧Below w.heap.size w w':=by
 have d0:(n == 0)=false:=by rw[beq_eq_false_iff_ne];omega
 have HN:=LH (fun w=>num_kind n w h0 h1)
 rw[m4] at HN;have HLW:=LH (L.on ((Below.refl _ _).alloc (Nat.le_refl _) (.cells (cellsP Pt.zero) 70)));clear h0 h1 m4 L;obtain ⟨q0,q1⟩:=HLW.out.kind;unfold cellsP Pt.zero at q0 q1;dsimp only at q0 q1;go_enter Tryz.func164,Tryz.ntmps164
 go_wp2_with fail
 refine (HN.out _).mono ?_
 rintro e w1 ⟨rfl,hB1⟩;have HQ:Below (w.heap.size+1) (w.alloc (.cells (cellsP Pt.zero) 70)) w1:=by rw[World.size_alloc] at hB1;exact hB1
 obtain ⟨h1,h2,h3,h4⟩:=two_boxes (cellsP Pt.zero) (cellsP ⟨4,0,0,0,0,0,0,false⟩) 70 HQ _ (Below.refl _ _);have HB4:=LH h4;have hp1:PBox _ w.heap.size ⟨0,0,0,0,0,0,0,false⟩:=h1;obtain ⟨x0,x1,x2,x3,x4,x5,x6,x7⟩:=hp1.cells;obtain ⟨f0,f1,f2,f3,f4,f5,f6,f7⟩:=hp1.frozens;unfold cellsP at x0 x1 x2 x3 x4 x5 x6 x7 f0 f1 f2 f3 f4 f5 f6 f7;dsimp only at x0 x1 x2 x3 x4 x5 x6 x7 f0 f1 f2 f3 f4 f5 f6 f7;have hpx:=hp1;clear h1 h2 h3 h4 hp1 q0 q1 hB1 HQ;have HPX:=LH (hpx.set8 0 0 0 0 0 0 0 false);have HBX:=LH (below_set8 HB4.out (Nat.le_refl _) (.int .i64 0) (.int .i64 0) (.int .i64 0) (.int .i64 0) (.int .i64 0) (.int .i64 0) (.int .i64 0) (.bool false));clear hpx
 go_wp2_with fail
 unfold cellsP at HPX HBX;dsimp only at HPX HBX;obtain ⟨x0,x1,x2,x3,x4,x5,x6,x7⟩:=HPX.out.cells;dsimp only at x0 x1 x2 x3 x4 x5 x6 x7;refine bodyPost_ret (v:= .tuple #[.agg (cellsP Pt.zero),.int .u16 23]) ?_ rfl ⟨rfl,HBX.out⟩
 simp[results,Tryz.f164,go_sem,cellsP,Pt.zero,x0,x1,x2,x3,x4,x5,x6,x7]
theorem PBox.set_off {w:World} {g:Nat} {p:Pt} (h:PBox w g p) (x:Int):PBox (w.setCell ⟨g,1,none⟩ (.int .i64 x)) g {p with off:=x}:=by
 have h1:=heap_setCell_same _ g 1 _ _ (.int .i64 x) h;unfold PBox;rw[h1]
 simp[cellsP]
theorem PBox.set_data {w:World} {g:Nat} {p:Pt} (h:PBox w g p) (x:Int):PBox (w.setCell ⟨g,2,none⟩ (.int .i64 x)) g {p with data:=x}:=by
 have h1:=heap_setCell_same _ g 2 _ _ (.int .i64 x) h;unfold PBox;rw[h1]
 simp[cellsP]
theorem PBox.set_ptrs {w:World} {g:Nat} {p:Pt} (h:PBox w g p) (x:Int):PBox (w.setCell ⟨g,3,none⟩ (.int .i64 x)) g {p with ptrs:=x}:=by
 have h1:=heap_setCell_same _ g 3 _ _ (.int .i64 x) h;unfold PBox;rw[h1]
 simp[cellsP]
theorem PBox.set_size {w:World} {g:Nat} {p:Pt} (h:PBox w g p) (x:Int):PBox (w.setCell ⟨g,4,none⟩ (.int .i64 x)) g {p with size:=x}:=by
 have h1:=heap_setCell_same _ g 4 _ _ (.int .i64 x) h;unfold PBox;rw[h1]
 simp[cellsP]
theorem PBox.set_count {w:World} {g:Nat} {p:Pt} (h:PBox w g p) (x:Int):PBox (w.setCell ⟨g,5,none⟩ (.int .i64 x)) g {p with count:=x}:=by
 have h1:=heap_setCell_same _ g 5 _ _ (.int .i64 x) h;unfold PBox;rw[h1]
 simp[cellsP]
theorem PBox.set_seg {w:World} {g:Nat} {p:Pt} (h:PBox w g p) (x:Int):PBox (w.setCell ⟨g,6,none⟩ (.int .i64 x)) g {p with seg:=x}:=by
 have h1:=heap_setCell_same _ g 6 _ _ (.int .i64 x) h;unfold PBox;rw[h1]
 simp[cellsP]
theorem PBox.set_dbl {w:World} {g:Nat} {p:Pt} (h:PBox w g p) (x:Bool):PBox (w.setCell ⟨g,7,none⟩ (.bool x)) g {p with dbl:=x}:=by
 have h1:=heap_setCell_same _ g 7 _ _ (.bool x) h;unfold PBox;rw[h1]
 simp[cellsP]
theorem PBox.other {w:World} {g a:Nat} {p:Pt} (h:PBox w g p) (hg:g≠a) (j:Nat) (v:Value):PBox (w.setCell ⟨a,j,none⟩ v) g p:=(blk_setCell_other w ⟨a,j,none⟩ v g hg).trans h
set_option maxHeartbeats 2000000 in
theorem dec_k1 (n:Int) (w:World) (L:Laid w) (h0:0≤n) (h1:n≤18446744073709551615) (hz:n≠0) (m4:n % 4=0):Calls Tryz.prog 164 #[.int .u64 n] w fun e w'=>e= .returned (.tuple #[.agg (cellsP ⟨1,sgn30 (n / 4 % 1073741824),n / 4294967296 % 65536,n / 281474976710656 % 65536,0,0,0,false⟩),.int .u16 0])∧Below w.heap.size w w':=by
 have d0:(n == 0)=false:=by rw[beq_eq_false_iff_ne];exact hz
 have HN:=LH (fun w=>num_kind n w h0 h1)
 rw[m4] at HN;have HA:=LH (fun w=>sgn_off n w)
 have HD:=LH (fun w=>num_data n w h0 h1)
 have HR:=LH (fun w=>num_ptrs n w h0 h1)
 generalize sgn30 (n / 4 % 1073741824)=A at *
 generalize n / 4294967296 % 65536=D at *
 generalize n / 281474976710656 % 65536=R at *
 have HLL:=LH (fun w' h=>L.on (w':=w') h)
 have HLW:=LH (L.on ((Below.refl _ _).alloc (Nat.le_refl _) (.cells (cellsP Pt.zero) 70)));clear h0 h1 m4 L hz;obtain ⟨q0,q1⟩:=HLW.out.kind;unfold cellsP Pt.zero at q0 q1;dsimp only at q0 q1;go_enter Tryz.func164,Tryz.ntmps164
 go_wp2_with fail
 refine (HN.out _).mono ?_
 rintro e w1 ⟨rfl,hB1⟩;have HQ:Below (w.heap.size+1) (w.alloc (.cells (cellsP Pt.zero) 70)) w1:=by rw[World.size_alloc] at hB1;exact hB1
 have HTw:=LH (two_boxes (cellsP Pt.zero) (cellsP ⟨1,0,0,0,0,0,0,false⟩) 70 HQ);clear q0 q1 hB1 HQ;have hz0:=(show PBox (w1.alloc (.cells (cellsP ⟨1,0,0,0,0,0,0,false⟩) 70)) w1.heap.size ⟨1,0,0,0,0,0,0,false⟩ from PBox.new w1 _).cells.1
 unfold cellsP at hz0 HTw;dsimp only at hz0 HTw
 go_wp2_with fail
 clear hz0;generalize w1.alloc (.cells #[.int .i64 1,.int .i64 0,.int .i64 0,.int .i64 0,.int .i64 0,.int .i64 0,.int .i64 0,.bool false] 70)=W at *
 generalize w1.heap.size=g at *
 obtain ⟨hr,hp,hlt,hB⟩:=HTw.out W (Below.refl _ _);have HR0:Hid (PBox W w.heap.size Pt.zero):=LH hr;have HP0:Hid (PBox W g ⟨1,0,0,0,0,0,0,false⟩):=LH hp;have HLt:=LH hlt;have HB:=LH hB;clear hr hp hlt hB HTw;have hQ0:Below W.heap.size W W.drew:=(Below.refl _ _).drew;have hL0:=HLL.out _ (HB.out.trans (hQ0.mono HB.out.size));have HKeep:Hid (∀w',Below w.heap.size w w'→w'.cell? ⟨1,0,none⟩=some (.int .i64 2)∧w'.cell? ⟨1,1,none⟩=some (.int .i64 31)∧w'.cell? ⟨2,0,none⟩=some (.int .i64 32)∧w'.cell? ⟨2,1,none⟩=some (.int .i64 47)∧w'.cell? ⟨3,0,none⟩=some (.int .i64 48)∧w'.cell? ⟨3,1,none⟩=some (.int .i64 63)):=LH (fun w' h=>by
  have hl:=HLL.out _ h;exact ⟨hl.off.1,hl.off.2,hl.data.1,hl.data.2,hl.ptrs.1,hl.ptrs.2⟩)
 have hK0:=HKeep.out _ (HB.out.trans (hQ0.mono HB.out.size));have HGe:Hid (w.heap.size≤g):=LH (Nat.le_of_lt HLt.out);have hT0:Below w.heap.size w W.drew:=HB.out.trans (hQ0.mono HB.out.size)
 go_region_held3 (fun w'=>w'.cell? ⟨1,0,none⟩=some (.int .i64 2)∧w'.cell? ⟨1,1,none⟩=some (.int .i64 31)∧w'.cell? ⟨2,0,none⟩=some (.int .i64 32)∧w'.cell? ⟨2,1,none⟩=some (.int .i64 47)∧w'.cell? ⟨3,0,none⟩=some (.int .i64 48)∧w'.cell? ⟨3,1,none⟩=some (.int .i64 63)) (first | exact HKeep.out _ hT0 | exact HKeep.out _ hT1 | exact HKeep.out _ hT2 | exact HKeep.out _ hT3 | exact HKeep.out _ (Below.setCell (hT3) (p:=⟨g,1,none⟩) HGe.out (.int .i64 A)) | exact HKeep.out _ (Below.setCell (Below.setCell (hT3) (p:=⟨g,1,none⟩) HGe.out (.int .i64 A)) (p:=⟨g,2,none⟩) HGe.out (.int .i64 D)) | exact HKeep.out _ (Below.setCell (Below.setCell (Below.setCell (hT3) (p:=⟨g,1,none⟩) HGe.out (.int .i64 A)) (p:=⟨g,2,none⟩) HGe.out (.int .i64 D)) (p:=⟨g,3,none⟩) HGe.out (.int .i64 R))) (first
  | (go_at_call 174;with_reducible refine (HA.out _).mono ?_;rintro e w2 ⟨rfl,hB2⟩;have hQ1:=bseq' hQ0 hB2;have hT1:=bseq' hT0 hB2)
  | (go_at_call 173;with_reducible refine (HD.out _).mono ?_;rintro e w3 ⟨rfl,hB3⟩;have hQ2:=bseq' hQ1 hB3;have hT2:=bseq' hT1 hB3)
  | (go_at_call 173;with_reducible refine (HR.out _).mono ?_;rintro e w4 ⟨rfl,hB4⟩;have hQ3:=bseq' hQ2 hB4;have hT3:=bseq' hT2 hB4;have hP4:=HP0.out.on hQ3;have hR4:=HR0.out.on hQ3;obtain ⟨y0,y1,y2,y3,y4,y5,y6,y7⟩:=hP4.cells;obtain ⟨f0,f1,f2,f3,f4,f5,f6,f7⟩:=hP4.frozens;have HP4:=LH hP4;have HR4:=LH hR4;clear hP4 hR4))
 all_goals
  clear y0 y1 y2 y3 y4 y5 y6 y7 f0 f1 f2 f3 f4 f5 f6 f7;have hP5:=(((HP4.out.set_off A).set_data D).set_ptrs R);have hR5:=(((HR4.out.other (Nat.ne_of_lt HLt.out) 1 (.int .i64 A)).other (Nat.ne_of_lt HLt.out) 2 (.int .i64 D)).other (Nat.ne_of_lt HLt.out) 3 (.int .i64 R));have hB5:=Below.setCell (Below.setCell (Below.setCell (hT3) (p:=⟨g,1,none⟩) HGe.out (.int .i64 A)) (p:=⟨g,2,none⟩) HGe.out (.int .i64 D)) (p:=⟨g,3,none⟩) HGe.out (.int .i64 R);generalize (((w4.setCell ⟨g,1,none⟩ (.int .i64 A)).setCell ⟨g,2,none⟩ (.int .i64 D)).setCell ⟨g,3,none⟩ (.int .i64 R))=W5 at *
  obtain ⟨z0,z1,z2,z3,z4,z5,z6,z7⟩:=hP5.cells;obtain ⟨x0,x1,x2,x3,x4,x5,x6,x7⟩:=hR5.cells;obtain ⟨f0,f1,f2,f3,f4,f5,f6,f7⟩:=hR5.frozens;unfold Pt.zero at x0 x1 x2 x3 x4 x5 x6 x7;dsimp only at x0 x1 x2 x3 x4 x5 x6 x7 z0 z1 z2 z3 z4 z5 z6 z7;have HPX:=LH (hR5.set8 1 A D R 0 0 0 false);have HBX:=LH (below_set8 hB5 (Nat.le_refl _) (.int .i64 1) (.int .i64 A) (.int .i64 D) (.int .i64 R) (.int .i64 0) (.int .i64 0) (.int .i64 0) (.bool false));clear hP5 hR5 hB5
  go_wp2_with fail
  clear x0 x1 x2 x3 x4 x5 x6 x7;obtain ⟨x0,x1,x2,x3,x4,x5,x6,x7⟩:=HPX.out.cells;dsimp only at x0 x1 x2 x3 x4 x5 x6 x7;refine bodyPost_ret (v:= .tuple #[.agg (cellsP ⟨1,A,D,R,0,0,0,false⟩),.int .u16 0]) ?_ rfl ⟨rfl,HBX.out⟩
  simp[results,Tryz.f164,go_sem,cellsP,x0,x1,x2,x3,x4,x5,x6,x7]
set_option maxHeartbeats 2000000 in
theorem dec_k2 (n:Int) (w:World) (L:Laid w) (h0:0≤n) (h1:n≤18446744073709551615) (hz:n≠0) (m4:n % 4=1):Calls Tryz.prog 164 #[.int .u64 n] w fun e w'=>e= .returned (.tuple #[.agg (cellsP ⟨2,sgn30 (n / 4 % 1073741824),0,0,n / 4294967296 % 8,n / 34359738368 % 536870912,0,false⟩),.int .u16 0])∧Below w.heap.size w w':=by
 have d0:(n == 0)=false:=by rw[beq_eq_false_iff_ne];exact hz
 have HN:=LH (fun w=>num_kind n w h0 h1)
 rw[m4] at HN;have HA:=LH (fun w=>sgn_off n w)
 have HD:=LH (fun w=>num_size n w h0 h1)
 have HR:=LH (fun w=>num_count n w h0 h1)
 generalize sgn30 (n / 4 % 1073741824)=A at *
 generalize n / 4294967296 % 8=D at *
 generalize n / 34359738368 % 536870912=R at *
 have HLL:=LH (fun w' h=>L.on (w':=w') h)
 have HLW:=LH (L.on ((Below.refl _ _).alloc (Nat.le_refl _) (.cells (cellsP Pt.zero) 70)));clear h0 h1 m4 L hz;obtain ⟨q0,q1⟩:=HLW.out.kind;unfold cellsP Pt.zero at q0 q1;dsimp only at q0 q1;go_enter Tryz.func164,Tryz.ntmps164
 go_wp2_with fail
 refine (HN.out _).mono ?_
 rintro e w1 ⟨rfl,hB1⟩;have HQ:Below (w.heap.size+1) (w.alloc (.cells (cellsP Pt.zero) 70)) w1:=by rw[World.size_alloc] at hB1;exact hB1
 have HTw:=LH (two_boxes (cellsP Pt.zero) (cellsP ⟨2,0,0,0,0,0,0,false⟩) 70 HQ);clear q0 q1 hB1 HQ;have hz0:=(show PBox (w1.alloc (.cells (cellsP ⟨2,0,0,0,0,0,0,false⟩) 70)) w1.heap.size ⟨2,0,0,0,0,0,0,false⟩ from PBox.new w1 _).cells.1
 unfold cellsP at hz0 HTw;dsimp only at hz0 HTw
 go_wp2_with fail
 clear hz0;generalize w1.alloc (.cells #[.int .i64 2,.int .i64 0,.int .i64 0,.int .i64 0,.int .i64 0,.int .i64 0,.int .i64 0,.bool false] 70)=W at *
 generalize w1.heap.size=g at *
 obtain ⟨hr,hp,hlt,hB⟩:=HTw.out W (Below.refl _ _);have HR0:Hid (PBox W w.heap.size Pt.zero):=LH hr;have HP0:Hid (PBox W g ⟨2,0,0,0,0,0,0,false⟩):=LH hp;have HLt:=LH hlt;have HB:=LH hB;clear hr hp hlt hB HTw;have hQ0:Below W.heap.size W W.drew:=(Below.refl _ _).drew;have hL0:=HLL.out _ (HB.out.trans (hQ0.mono HB.out.size));have HKeep:Hid (∀w',Below w.heap.size w w'→w'.cell? ⟨1,0,none⟩=some (.int .i64 2)∧w'.cell? ⟨1,1,none⟩=some (.int .i64 31)∧w'.cell? ⟨4,0,none⟩=some (.int .i64 32)∧w'.cell? ⟨4,1,none⟩=some (.int .i64 34)∧w'.cell? ⟨5,0,none⟩=some (.int .i64 35)∧w'.cell? ⟨5,1,none⟩=some (.int .i64 63)):=LH (fun w' h=>by
  have hl:=HLL.out _ h;exact ⟨hl.off.1,hl.off.2,hl.size.1,hl.size.2,hl.count.1,hl.count.2⟩)
 have hK0:=HKeep.out _ (HB.out.trans (hQ0.mono HB.out.size));have HGe:Hid (w.heap.size≤g):=LH (Nat.le_of_lt HLt.out);have hT0:Below w.heap.size w W.drew:=HB.out.trans (hQ0.mono HB.out.size)
 go_region_held3 (fun w'=>w'.cell? ⟨1,0,none⟩=some (.int .i64 2)∧w'.cell? ⟨1,1,none⟩=some (.int .i64 31)∧w'.cell? ⟨4,0,none⟩=some (.int .i64 32)∧w'.cell? ⟨4,1,none⟩=some (.int .i64 34)∧w'.cell? ⟨5,0,none⟩=some (.int .i64 35)∧w'.cell? ⟨5,1,none⟩=some (.int .i64 63)) (first | exact HKeep.out _ hT0 | exact HKeep.out _ hT1 | exact HKeep.out _ hT2 | exact HKeep.out _ hT3 | exact HKeep.out _ (Below.setCell (hT3) (p:=⟨g,1,none⟩) HGe.out (.int .i64 A)) | exact HKeep.out _ (Below.setCell (Below.setCell (hT3) (p:=⟨g,1,none⟩) HGe.out (.int .i64 A)) (p:=⟨g,4,none⟩) HGe.out (.int .i64 D)) | exact HKeep.out _ (Below.setCell (Below.setCell (Below.setCell (hT3) (p:=⟨g,1,none⟩) HGe.out (.int .i64 A)) (p:=⟨g,4,none⟩) HGe.out (.int .i64 D)) (p:=⟨g,5,none⟩) HGe.out (.int .i64 R))) (first
  | (go_at_call 174;with_reducible refine (HA.out _).mono ?_;rintro e w2 ⟨rfl,hB2⟩;have hQ1:=bseq' hQ0 hB2;have hT1:=bseq' hT0 hB2)
  | (go_at_call 173;with_reducible refine (HD.out _).mono ?_;rintro e w3 ⟨rfl,hB3⟩;have hQ2:=bseq' hQ1 hB3;have hT2:=bseq' hT1 hB3)
  | (go_at_call 173;with_reducible refine (HR.out _).mono ?_;rintro e w4 ⟨rfl,hB4⟩;have hQ3:=bseq' hQ2 hB4;have hT3:=bseq' hT2 hB4;have hP4:=HP0.out.on hQ3;have hR4:=HR0.out.on hQ3;obtain ⟨y0,y1,y2,y3,y4,y5,y6,y7⟩:=hP4.cells;obtain ⟨f0,f1,f2,f3,f4,f5,f6,f7⟩:=hP4.frozens;have HP4:=LH hP4;have HR4:=LH hR4;clear hP4 hR4))
 all_goals
  clear y0 y1 y2 y3 y4 y5 y6 y7 f0 f1 f2 f3 f4 f5 f6 f7;have hP5:=(((HP4.out.set_off A).set_size D).set_count R);have hR5:=(((HR4.out.other (Nat.ne_of_lt HLt.out) 1 (.int .i64 A)).other (Nat.ne_of_lt HLt.out) 4 (.int .i64 D)).other (Nat.ne_of_lt HLt.out) 5 (.int .i64 R));have hB5:=Below.setCell (Below.setCell (Below.setCell (hT3) (p:=⟨g,1,none⟩) HGe.out (.int .i64 A)) (p:=⟨g,4,none⟩) HGe.out (.int .i64 D)) (p:=⟨g,5,none⟩) HGe.out (.int .i64 R);generalize (((w4.setCell ⟨g,1,none⟩ (.int .i64 A)).setCell ⟨g,4,none⟩ (.int .i64 D)).setCell ⟨g,5,none⟩ (.int .i64 R))=W5 at *
  obtain ⟨z0,z1,z2,z3,z4,z5,z6,z7⟩:=hP5.cells;obtain ⟨x0,x1,x2,x3,x4,x5,x6,x7⟩:=hR5.cells;obtain ⟨f0,f1,f2,f3,f4,f5,f6,f7⟩:=hR5.frozens;unfold Pt.zero at x0 x1 x2 x3 x4 x5 x6 x7;dsimp only at x0 x1 x2 x3 x4 x5 x6 x7 z0 z1 z2 z3 z4 z5 z6 z7;have HPX:=LH (hR5.set8 2 A 0 0 D R 0 false);have HBX:=LH (below_set8 hB5 (Nat.le_refl _) (.int .i64 2) (.int .i64 A) (.int .i64 0) (.int .i64 0) (.int .i64 D) (.int .i64 R) (.int .i64 0) (.bool false));clear hP5 hR5 hB5
  go_wp2_with fail
  clear x0 x1 x2 x3 x4 x5 x6 x7;obtain ⟨x0,x1,x2,x3,x4,x5,x6,x7⟩:=HPX.out.cells;dsimp only at x0 x1 x2 x3 x4 x5 x6 x7;refine bodyPost_ret (v:= .tuple #[.agg (cellsP ⟨2,A,0,0,D,R,0,false⟩),.int .u16 0]) ?_ rfl ⟨rfl,HBX.out⟩
  simp[results,Tryz.f164,go_sem,cellsP,x0,x1,x2,x3,x4,x5,x6,x7]
set_option maxHeartbeats 2000000 in
theorem dec_k3 (n:Int) (w:World) (L:Laid w) (h0:0≤n) (h1:n≤18446744073709551615) (hz:n≠0) (m4:n % 4=2):Calls Tryz.prog 164 #[.int .u64 n] w fun e w'=>e= .returned (.tuple #[.agg (cellsP ⟨3,n / 8 % 536870912,0,0,0,0,n / 4294967296 % 4294967296,n / 4 % 2 == 1⟩),.int .u16 0])∧Below w.heap.size w w':=by
 have d0:(n == 0)=false:=by rw[beq_eq_false_iff_ne];exact hz
 have HN:=LH (fun w=>num_kind n w h0 h1)
 rw[m4] at HN;have HD:=LH (fun w=>num_dbl n w h0 h1)
 have HA:=LH (fun w=>num_far n w h0 h1)
 have HR:=LH (fun w=>num_seg n w h0 h1)
 generalize n / 4 % 2=D at *
 generalize n / 8 % 536870912=A at *
 generalize n / 4294967296 % 4294967296=R at *
 have HLL:=LH (fun w' h=>L.on (w':=w') h)
 have HLW:=LH (L.on ((Below.refl _ _).alloc (Nat.le_refl _) (.cells (cellsP Pt.zero) 70)));clear h0 h1 m4 L hz;obtain ⟨q0,q1⟩:=HLW.out.kind;unfold cellsP Pt.zero at q0 q1;dsimp only at q0 q1;go_enter Tryz.func164,Tryz.ntmps164
 go_wp2_with fail
 refine (HN.out _).mono ?_
 rintro e w1 ⟨rfl,hB1⟩;have HQ:Below (w.heap.size+1) (w.alloc (.cells (cellsP Pt.zero) 70)) w1:=by rw[World.size_alloc] at hB1;exact hB1
 have HTw:=LH (two_boxes (cellsP Pt.zero) (cellsP ⟨3,0,0,0,0,0,0,false⟩) 70 HQ);clear q0 q1 hB1 HQ;have hz0:=(show PBox (w1.alloc (.cells (cellsP ⟨3,0,0,0,0,0,0,false⟩) 70)) w1.heap.size ⟨3,0,0,0,0,0,0,false⟩ from PBox.new w1 _).cells.1
 unfold cellsP at hz0 HTw;dsimp only at hz0 HTw
 go_wp2_with fail
 clear hz0;generalize w1.alloc (.cells #[.int .i64 3,.int .i64 0,.int .i64 0,.int .i64 0,.int .i64 0,.int .i64 0,.int .i64 0,.bool false] 70)=W at *
 generalize w1.heap.size=g at *
 obtain ⟨hr,hp,hlt,hB⟩:=HTw.out W (Below.refl _ _);have HR0:Hid (PBox W w.heap.size Pt.zero):=LH hr;have HP0:Hid (PBox W g ⟨3,0,0,0,0,0,0,false⟩):=LH hp;have HLt:=LH hlt;have HB:=LH hB;clear hr hp hlt hB HTw;have hQ0:Below W.heap.size W W.drew:=(Below.refl _ _).drew;have hL0:=HLL.out _ (HB.out.trans (hQ0.mono HB.out.size));have HKeep:Hid (∀w',Below w.heap.size w w'→w'.cell? ⟨6,0,none⟩=some (.int .i64 2)∧w'.cell? ⟨6,1,none⟩=some (.int .i64 2)∧w'.cell? ⟨7,0,none⟩=some (.int .i64 3)∧w'.cell? ⟨7,1,none⟩=some (.int .i64 31)∧w'.cell? ⟨8,0,none⟩=some (.int .i64 32)∧w'.cell? ⟨8,1,none⟩=some (.int .i64 63)):=LH (fun w' h=>by
  have hl:=HLL.out _ h;exact ⟨hl.dbl.1,hl.dbl.2,hl.far.1,hl.far.2,hl.seg.1,hl.seg.2⟩)
 have hK0:=HKeep.out _ (HB.out.trans (hQ0.mono HB.out.size));have HGe:Hid (w.heap.size≤g):=LH (Nat.le_of_lt HLt.out);have hT0:Below w.heap.size w W.drew:=HB.out.trans (hQ0.mono HB.out.size)
 go_region_held3 (fun w'=>w'.cell? ⟨6,0,none⟩=some (.int .i64 2)∧w'.cell? ⟨6,1,none⟩=some (.int .i64 2)∧w'.cell? ⟨7,0,none⟩=some (.int .i64 3)∧w'.cell? ⟨7,1,none⟩=some (.int .i64 31)∧w'.cell? ⟨8,0,none⟩=some (.int .i64 32)∧w'.cell? ⟨8,1,none⟩=some (.int .i64 63)) (first | exact HKeep.out _ hT0 | exact HKeep.out _ hT1 | exact HKeep.out _ hT2 | exact HKeep.out _ hT3 | exact HKeep.out _ (Below.setCell (hT3) (p:=⟨g,7,none⟩) HGe.out (.bool (D == 1))) | exact HKeep.out _ (Below.setCell (Below.setCell (hT3) (p:=⟨g,7,none⟩) HGe.out (.bool (D == 1))) (p:=⟨g,1,none⟩) HGe.out (.int .i64 A)) | exact HKeep.out _ (Below.setCell (Below.setCell (Below.setCell (hT3) (p:=⟨g,7,none⟩) HGe.out (.bool (D == 1))) (p:=⟨g,1,none⟩) HGe.out (.int .i64 A)) (p:=⟨g,6,none⟩) HGe.out (.int .i64 R))) (first
  | (go_at_call 173;with_reducible refine (HD.out _).mono ?_;rintro e w2 ⟨rfl,hB2⟩;have hQ1:=bseq' hQ0 hB2;have hT1:=bseq' hT0 hB2)
  | (go_at_call 173;with_reducible refine (HA.out _).mono ?_;rintro e w3 ⟨rfl,hB3⟩;have hQ2:=bseq' hQ1 hB3;have hT2:=bseq' hT1 hB3)
  | (go_at_call 173;with_reducible refine (HR.out _).mono ?_;rintro e w4 ⟨rfl,hB4⟩;have hQ3:=bseq' hQ2 hB4;have hT3:=bseq' hT2 hB4;have hP4:=HP0.out.on hQ3;have hR4:=HR0.out.on hQ3;obtain ⟨y0,y1,y2,y3,y4,y5,y6,y7⟩:=hP4.cells;obtain ⟨f0,f1,f2,f3,f4,f5,f6,f7⟩:=hP4.frozens;have HP4:=LH hP4;have HR4:=LH hR4;clear hP4 hR4))
 all_goals
  clear y0 y1 y2 y3 y4 y5 y6 y7 f0 f1 f2 f3 f4 f5 f6 f7;have hP5:=(((HP4.out.set_dbl (D == 1)).set_off A).set_seg R);have hR5:=(((HR4.out.other (Nat.ne_of_lt HLt.out) 7 (.bool (D == 1))).other (Nat.ne_of_lt HLt.out) 1 (.int .i64 A)).other (Nat.ne_of_lt HLt.out) 6 (.int .i64 R));have hB5:=Below.setCell (Below.setCell (Below.setCell (hT3) (p:=⟨g,7,none⟩) HGe.out (.bool (D == 1))) (p:=⟨g,1,none⟩) HGe.out (.int .i64 A)) (p:=⟨g,6,none⟩) HGe.out (.int .i64 R);generalize (((w4.setCell ⟨g,7,none⟩ (.bool (D == 1))).setCell ⟨g,1,none⟩ (.int .i64 A)).setCell ⟨g,6,none⟩ (.int .i64 R))=W5 at *
  obtain ⟨z0,z1,z2,z3,z4,z5,z6,z7⟩:=hP5.cells;obtain ⟨x0,x1,x2,x3,x4,x5,x6,x7⟩:=hR5.cells;obtain ⟨f0,f1,f2,f3,f4,f5,f6,f7⟩:=hR5.frozens;unfold Pt.zero at x0 x1 x2 x3 x4 x5 x6 x7;dsimp only at x0 x1 x2 x3 x4 x5 x6 x7 z0 z1 z2 z3 z4 z5 z6 z7;have HPX:=LH (hR5.set8 3 A 0 0 0 0 R (D == 1));have HBX:=LH (below_set8 hB5 (Nat.le_refl _) (.int .i64 3) (.int .i64 A) (.int .i64 0) (.int .i64 0) (.int .i64 0) (.int .i64 0) (.int .i64 R) (.bool (D == 1)));clear hP5 hR5 hB5
  go_wp2_with fail
  clear x0 x1 x2 x3 x4 x5 x6 x7;obtain ⟨x0,x1,x2,x3,x4,x5,x6,x7⟩:=HPX.out.cells;dsimp only at x0 x1 x2 x3 x4 x5 x6 x7;refine bodyPost_ret (v:= .tuple #[.agg (cellsP ⟨3,A,0,0,0,0,R,D == 1⟩),.int .u16 0]) ?_ rfl ⟨rfl,HBX.out⟩
  simp[results,Tryz.f164,go_sem,cellsP,x0,x1,x2,x3,x4,x5,x6,x7]
theorem dec_any (n:Int) (w:World) (L:Laid w) (h0:0≤n) (h1:n≤18446744073709551615):Calls Tryz.prog 164 #[.int .u64 n] w fun e w'=>e= .returned (.tuple #[.agg (cellsP (decP n)),.int .u16 (decE n)])∧Below w.heap.size w w':=by
 by_cases hz:n=0
 ·subst hz;exact dec_0 w
 rcases (show n % 4=0∨n % 4=1∨n % 4=2∨n % 4=3 by omega) with m4 | m4 | m4 | m4
 ·have:=dec_k1 n w L h0 h1 hz m4
  rwa [show decE n=0 by unfold decE;rw[if_neg (by omega)],show decP n=_ by unfold decP;rw[if_neg hz,if_pos m4]]
 ·have:=dec_k2 n w L h0 h1 hz m4
  rwa [show decE n=0 by unfold decE;rw[if_neg (by omega)],show decP n=_ by unfold decP;rw[if_neg hz,if_neg (by omega),if_pos m4]]
 ·have:=dec_k3 n w L h0 h1 hz m4
  rwa [show decE n=0 by unfold decE;rw[if_neg (by omega)],show decP n=_ by unfold decP;rw[if_neg hz,if_neg (by omega),if_neg (by omega),if_pos m4]]
 ·have:=dec_3 n w L h0 h1 m4
  rwa [show decE n=23 by unfold decE;rw[if_pos m4],show decP n=Pt.zero by unfold decP;rw[if_neg hz,if_neg (by omega),if_neg (by omega),if_neg (by omega)]]
set_option maxHeartbeats 2000000 in
theorem enc_any (p:Pt) (w:World) (L:Laid w) :
  Calls Tryz.prog 162 #[.agg (cellsP p)] w fun e w'=>e= .returned (.tuple #[.int .u64 (encW p),.int .u16 (encE p)])∧Below w.heap.size w w':=by
 have HRaw:Hid (0≤rawW p∧rawW p≤18446744073709551615):=LH (by have:=rawW_bd p;omega);have HLd:=LH (fun w L=>laid_any p w L)
 obtain ⟨N,hN⟩:∃N,rawW p=N:=⟨_,rfl⟩;rw[hN] at HRaw HLd;have hDc:=fun w L=>dec_any N w L HRaw.out.1 HRaw.out.2
 rw[show decE N=0 by rw[←hN];exact raw_e p] at hDc
 have HDc:=LH hDc;obtain ⟨q,hq⟩:∃q,decP N=q:=⟨_,rfl⟩;rw[hq] at HDc;have hE1:eqP q p=true→encW p=N∧encE p=0:=fun hb=>by
  have:encB p=true:=by unfold encB;rw[raw_e,hN,hq,hb];rfl
  unfold encW encE;rw[this,hN];exact ⟨rfl,rfl⟩
 have hE2:eqP q p=false→encW p=0∧encE p=1:=fun hb=>by
  have:encB p=false:=by unfold encB;rw[raw_e,hN,hq,hb];rfl
  unfold encW encE;rw[this];exact ⟨rfl,rfl⟩
 have HL:=LH L;have HP0:=LH (PBox.new w p);have HC0:Hid (Below w.heap.size w (w.alloc (.cells (cellsP p) 70))):=LH ((Below.refl _ _).alloc (Nat.le_refl _) _);have hne:=fun w=>run_neq_P w q p
 have hgd:=fun w op x y xs ys=>run_eqGuard_agg (P:=Tryz.prog) w op 70 x y xs ys (by kernel_rfl)
 unfold cellsP at hne;have hl0:Hid (PBox (w.alloc (.cells #[.int .i64 p.kind,.int .i64 p.off,.int .i64 p.data,.int .i64 p.ptrs,.int .i64 p.size,.int .i64 p.count,.int .i64 p.seg,.bool p.dbl] 70)) w.heap.size p):=HP0;obtain ⟨z0,z1,z2,z3,z4,z5,z6,z7⟩:=hl0.out.cells;clear hl0 hN hq hDc L;unfold cellsP;cases hb:eqP q p
 all_goals
  rw[hb] at hne
  first | rw[(hE1 hb).1,(hE1 hb).2] | rw[(hE2 hb).1,(hE2 hb).2]
  clear hE1 hE2 hb;go_enter Tryz.func162,Tryz.ntmps162
  go_wp2_with fail
  refine (HLd.out _ (HL.out.on HC0.out)).mono ?_
  rintro e w1 ⟨rfl,hB1⟩;have HP1:=LH (HP0.out.on hB1);have HC1:=LH (bseq' HC0.out hB1);clear z0 z1 z2 z3 z4 z5 z6 z7
  go_wp2_with fail
  refine (HDc.out _ (HL.out.on HC1.out)).mono ?_
  rintro e w2 ⟨rfl,hB2⟩;have HP2:=LH ((HP1.out.on hB2).on ((Below.refl _ _).alloc (Nat.le_refl _) (.cells (cellsP q) 70)));have HC2:=LH (bseq' (bseq' HC1.out hB2) ((Below.refl _ _).alloc (Nat.le_refl _) (.cells (cellsP q) 70)));obtain ⟨z0,z1,z2,z3,z4,z5,z6,z7⟩:=HP2.out.cells;unfold cellsP at z0 z1 z2 z3 z4 z5 z6 z7 ⊢
  go_wp2_with fail
  go_ret2;exact ⟨rfl,HC2.out⟩
set_option maxHeartbeats 1000000 in
theorem inlist_any (s c:Int) (w:World) (s0:0≤s) (s1:s<8) (c0:0≤c) (c1:c<536870912) :
  Calls Tryz.prog 147 #[.int .i64 s,.int .i64 c] w fun e w'=>e= .returned (.tuple #[.int .i64 (if s=2 then (c+7) / 8 else if s=5∨s=6 then c else 0),.int .u16 (if s=2∨s=5∨s=6 then 0 else 23)])∧Below w.heap.size w w':=by
 by_cases s2:s=2
 ·subst s2;have hc:ceilV c 8=(c+7) / 8:=by
   unfold ceilV;rw[if_pos (by omega)]
   split <;> omega
  have HCe:=LH (fun w=>ceil_any c 8 w)
  rw[hc] at HCe;have HV:Hid ((if (2:Int)=2 then (c+7) / 8 else if (2:Int)=5∨(2:Int)=6 then c else 0)=(c+7) / 8∧(if (2:Int)=2∨(2:Int)=5∨(2:Int)=6 then (0:Int) else 23)=0):=LH (by simp)
  rw[HV.out.1,HV.out.2];clear HV hc;generalize (c+7) / 8=V at *
  go_enter Tryz.func147,Tryz.ntmps147
  go_wp2_with fail
  refine (HCe.out _).mono ?_
  rintro e w1 ⟨rfl,rfl⟩
  go_wp2_with fail
  go_ret2;exact ⟨rfl,Below.refl _ _⟩
 have d2:(s == 2)=false:=by simpa using s2
 by_cases s5:s=5
 ·subst s5;have HV:Hid ((if (5:Int)=2 then (c+7) / 8 else if (5:Int)=5∨(5:Int)=6 then c else 0)=c∧(if (5:Int)=2∨(5:Int)=5∨(5:Int)=6 then (0:Int) else 23)=0):=LH (by simp)
  rw[HV.out.1,HV.out.2];go_enter Tryz.func147,Tryz.ntmps147
  go_wp2_with fail
  go_ret2;exact ⟨rfl,Below.refl _ _⟩
 have d5:(s == 5)=false:=by simpa using s5
 by_cases s6:s=6
 ·subst s6;have HV:Hid ((if (6:Int)=2 then (c+7) / 8 else if (6:Int)=5∨(6:Int)=6 then c else 0)=c∧(if (6:Int)=2∨(6:Int)=5∨(6:Int)=6 then (0:Int) else 23)=0):=LH (by simp)
  rw[HV.out.1,HV.out.2];go_enter Tryz.func147,Tryz.ntmps147
  go_wp2_with fail
  go_ret2;exact ⟨rfl,Below.refl _ _⟩
 have d6:(s == 6)=false:=by simpa using s6
 have HV:Hid ((if s=2 then (c+7) / 8 else if s=5∨s=6 then c else 0)=0∧(if s=2∨s=5∨s=6 then (0:Int) else 23)=23):=LH (by simp[s2,s5,s6])
 rw[HV.out.1,HV.out.2];clear HV s2 s5 s6;go_enter Tryz.func147,Tryz.ntmps147
 go_wp2_with fail
 go_ret2;exact ⟨rfl,Below.refl _ _⟩
set_option maxHeartbeats 2000000 in
theorem pwords_any (p:Pt) (w:World) (hp:OkP p) :
  Calls Tryz.prog 128 #[.agg (cellsP p)] w fun e w'=>e= .returned (.tuple #[.int .i64 (wordN p),.int .u16 (wordE p)])∧Below w.heap.size w w':=by
 obtain ⟨k,o,d,r,s,c,g,b⟩:=p;have HB:∀cs,Below w.heap.size w (w.alloc (.cells cs 70)):=fun cs=>(Below.refl _ _).alloc (Nat.le_refl _) _
 rcases hp with e | ⟨e,h1,h2,h3,h4,h5,h6,h7,h8⟩ | ⟨e,h1,h2,h3,h4,h5,h6,h7⟩ | ⟨e,h1,h2,h3,h4,h5,h6⟩
 ·cases e
  unfold cellsP;dsimp only;go_enter Tryz.func128,Tryz.ntmps128
  go_wp2_with fail
  go_ret2;exact ⟨rfl,HB _⟩
 ·dsimp only at e h1 h2 h3 h4 h5 h6 h7 h8;subst e h4 h5 h6 h7;have HE:Hid (wordN ⟨1,o,d,r,0,0,0,false⟩=d+r∧wordE ⟨1,o,d,r,0,0,0,false⟩=0):=LH (by simp[wordN,wordE]);have hw:IntKind.i64.wrap (d+r)=d+r:=IntWalk.i64_in _ (by omega);rw[HE.out.1,HE.out.2];clear h8 HE;unfold cellsP;dsimp only;go_enter Tryz.func128,Tryz.ntmps128
  go_wp2_with fail
  go_ret2;exact ⟨rfl,HB _⟩
 ·dsimp only at e h1 h2 h3 h4 h5 h6 h7;subst e h2 h3 h6 h7;have HE:Hid (wordN ⟨2,o,0,0,s,c,0,false⟩=(if s=2 then (c+7) / 8 else if s=5∨s=6 then c else 0)∧wordE ⟨2,o,0,0,s,c,0,false⟩=(if s=2∨s=5∨s=6 then 0 else 23)):=LH (by simp[wordN,wordE])
  have HI:=LH (fun w=>inlist_any s c w h4.1 h4.2 h5.1 h5.2)
  rw[HE.out.1,HE.out.2];generalize (if s=2 then (c+7) / 8 else if s=5∨s=6 then c else 0)=x at *
  generalize (if s=2∨s=5∨s=6 then (0:Int) else 23)=y at *
  clear HE h1 h4 h5;unfold cellsP;dsimp only;go_enter Tryz.func128,Tryz.ntmps128
  go_wp2_with fail
  refine (HI.out _).mono ?_
  rintro e w1 ⟨rfl,hB1⟩;have hC1:=bseq' (HB _) hB1
  go_wp2_with fail
  go_ret2;exact ⟨rfl,hC1⟩
 ·dsimp only at e h1 h2 h3 h4 h5 h6;subst e h2 h3 h4 h5;cases b
  all_goals
   have HE:Hid (wordE ⟨3,o,0,0,0,0,g,false⟩=0∧wordE ⟨3,o,0,0,0,0,g,true⟩=0∧wordN ⟨3,o,0,0,0,0,g,false⟩=1∧wordN ⟨3,o,0,0,0,0,g,true⟩=2):=LH (by simp[wordN,wordE])
   first | rw[HE.out.1,HE.out.2.2.1] | rw[HE.out.2.1,HE.out.2.2.2]
   clear HE;unfold cellsP;dsimp only;go_enter Tryz.func128,Tryz.ntmps128
   go_wp2_with fail
   refine (bit_any _ _).mono ?_
   rintro e w1 ⟨rfl,rfl⟩
   go_wp2_with fail
   go_ret2;exact ⟨rfl,HB _⟩
/- asks for Words:128,Encode:162 -/
end Go.Proofs.YtmmlfnblodfjbaaGreatDoor
