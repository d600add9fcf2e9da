/- Plain facts for layer 9 (read): what a word leads to, and a path, in whatever source. No program is named here. -/
import Derived.Test.YtmmlfnblodfjbaaGreatDoorQPlain
import Derived.Test.YtmmlfnblodfjbaaGreatDoorQAr
import Derived.Test.YtmmlfnblodfjbaaGreatDoorQWord
namespace Go.Proofs.YtmmlfnblodfjbaaGreatDoor
structure Ob where
 kind:Int
 seg:Int
 at_:Int
 data:Int
 ptrs:Int
 size:Int
 count:Int
def Ob.zero:Ob:=⟨0,0,0,0,0,0,0⟩
def ptrO (o:Ob):Pt:=⟨o.kind,0,o.data,o.ptrs,o.size,o.count,0,false⟩
def thingO (p:Pt) (g a:Int):Ob:=⟨p.kind,g,a,p.data,p.ptrs,p.size,p.count⟩
def wordsO (o:Ob):Int:=wordN (ptrO o)
structure Sr where
 wd:Int→Int→Int
 we:Int→Int→Int
 sz:List Int
structure Sr.Good (s:Sr):Prop where
 wd:∀g a,0≤s.wd g a∧s.wd g a≤18446744073709551615
 we:∀g a,0≤s.we g a∧s.we g a≤65535
 sz:All64 s.sz
 len:s.sz.length≤1000000000
def ptS (s:Sr) (g a:Int):Pt:=decP (s.wd g a)
def ptE (s:Sr) (g a:Int):Int:=if s.we g a≠0 then s.we g a else decE (s.wd g a)
def ptE2 (s:Sr) (g a:Int):Int:=if s.we g a≠0 then s.we g a else if s.we g (a+1)≠0 then s.we g (a+1) else if decE (s.wd g a)≠0 then decE (s.wd g a) else decE (s.wd g (a+1))
def nearA (p:Pt) (a:Int):Int:=if -9223372036854775808≤a+(p.off+1)∧a+(p.off+1)≤9223372036854775807 then a+(p.off+1) else -1
def nearO (p:Pt) (g a:Int):Ob:=thingO p g (nearA p a)
def landed1 (s:Sr) (f:Pt):Ob × Int :=
 if ptE s f.seg f.off≠0 then (Ob.zero,ptE s f.seg f.off)
 else if (ptS s f.seg f.off).kind≠1∧(ptS s f.seg f.off).kind≠2 then (Ob.zero,23)
 else (nearO (ptS s f.seg f.off) f.seg f.off,0)
def landed2 (s:Sr) (f:Pt):Ob × Int :=
 if ptE2 s f.seg f.off≠0 then (Ob.zero,ptE2 s f.seg f.off)
 else if (ptS s f.seg (f.off+1)).kind≠1∧(ptS s f.seg (f.off+1)).kind≠2 then (Ob.zero,23)
 else if (ptS s f.seg f.off).kind≠3∨(ptS s f.seg f.off).dbl=true∨(ptS s f.seg (f.off+1)).off≠0 then (Ob.zero,23)
 else (thingO (ptS s f.seg (f.off+1)) (ptS s f.seg f.off).seg (ptS s f.seg f.off).off,0)
def landedO (s:Sr) (f:Pt):Ob × Int:=if f.dbl=true then landed2 s f else landed1 s f
def targetO (s:Sr) (g a:Int):Ob × Int :=
 if ptE s g a≠0 then (Ob.zero,ptE s g a)
 else if (ptS s g a).kind=0 then (Ob.zero,0)
 else if (ptS s g a).kind=3 then landedO s (ptS s g a)
 else (nearO (ptS s g a) g a,0)
def checkO (s:Sr) (t:Ob × Int):Ob × Int :=
 if t.2≠0∨t.1.kind=0 then (Ob.zero,t.2)
 else if wordE (ptrO t.1)≠0 then (Ob.zero,wordE (ptrO t.1))
 else if withinB s.sz t.1.seg t.1.at_ (wordsO t.1)=true then (t.1,0)
 else (Ob.zero,20)
def followO (s:Sr) (g a:Int):Ob × Int:=checkO s (targetO s g a)
def nextO (s:Sr) (o:Ob) (k:Int):Ob × Int :=
 if o.kind=0∨(o.kind=1∧o.ptrs≤k) then (Ob.zero,0)
 else if o.kind=1 then followO s o.seg (o.at_+o.data+k)
 else if o.size≠6 then (Ob.zero,23)
 else if o.count≤k then (Ob.zero,20)
 else followO s o.seg (o.at_+k)
def goalO (s:Sr):List Int→Int→Ob × Int→Ob × Int
 | [],c,t=>if t.2≠0 then (Ob.zero,t.2) else if c<1+wordsO t.1 then (Ob.zero,22) else (t.1,0)
 | k :: r,c,t=>if t.2≠0 then (Ob.zero,t.2) else if c<1+wordsO t.1 then (Ob.zero,22) else goalO s r (c - (1+wordsO t.1)) (nextO s t.1 k)
structure Va where
 kind:Int
 size:Int
 words:Int
 kids:Int
 word:Int
def Va.zero:Va:=⟨0,0,0,0,0⟩
def shapeV (o:Ob):Va:=if o.kind=1 then ⟨o.kind,o.size,o.data,o.ptrs,0⟩ else if o.size=6 then ⟨o.kind,o.size,0,o.count,0⟩ else ⟨o.kind,o.size,o.count,0,0⟩
def numW (s:Sr) (o:Ob) (i:Int):Int × Int :=
 if o.kind=0∨(o.kind=1∧o.data≤i) then (0,0)
 else if o.kind=1 then (s.wd o.seg (o.at_+i),s.we o.seg (o.at_+i))
 else if o.size=6 then (0,23)
 else if o.count≤i then (0,20)
 else if o.size=5 then (s.wd o.seg (o.at_+i),s.we o.seg (o.at_+i))
 else (s.wd o.seg (o.at_+i / 8) / 2 ^ (8*(i % 8).toNat) % 256,s.we o.seg (o.at_+i / 8))
def endV (s:Sr) (o:Ob) (i:Int):Va × Int :=
 if i<0 then (shapeV o,0) else if (numW s o i).2≠0 then (Va.zero,(numW s o i).2) else (⟨o.kind,0,0,0,(numW s o i).1⟩,0)
def walkV (s:Sr) (ks:List Int) (i c:Int):Va × Int :=
 if ks.any (fun k=>decide (k<0))=true then (Va.zero,1)
 else if 32<ks.length then (Va.zero,3)
 else if (goalO s ks c (followO s 0 0)).2≠0 then (Va.zero,(goalO s ks c (followO s 0 0)).2)
 else endV s (goalO s ks c (followO s 0 0)).1 i
def OkQ (p:Pt):Prop:=OkP p∨p=⟨1,0,0,0,0,0,0,false⟩
def NearK (p:Pt):Prop:=p.kind=1∨p.kind=2
theorem okq_dec {p:Pt} (h:OkP p) (hk:NearK p) (g a:Int):OkQ (ptrO (thingO p g a)):=by
 obtain ⟨k,o,d,r,s,c,sg,b⟩:=p;unfold thingO ptrO;dsimp only
 rcases h with e | ⟨e,h1,h2,h3,h4,h5,h6,h7,h8⟩ | ⟨e,h1,h2,h3,h4,h5,h6,h7⟩ | ⟨e,h1,h2,h3,h4,h5,h6⟩
 ·cases e
  rcases hk with hk | hk <;> exact absurd hk (by decide)
 ·dsimp only at e h2 h3 h4 h5;subst e h4 h5
  by_cases hz:d=0∧r=0
  ·obtain ⟨rfl,rfl⟩:=hz;exact .inr rfl
  ·refine .inl (.inr (.inl ⟨rfl,by dsimp only;omega,h2,h3,rfl,rfl,rfl,rfl,?_⟩))
   dsimp only
   omega
 ·dsimp only at e h2 h3 h4 h5;subst e h2 h3;exact .inl (.inr (.inr (.inl ⟨rfl,by dsimp only;omega,rfl,rfl,h4,h5,rfl,rfl⟩)))
 ·dsimp only at e;subst e
  rcases hk with hk | hk <;> exact absurd hk (by simp)
def GoodO (sz:List Int) (o:Ob):Prop:=o=Ob.zero∨((o.kind=1∨o.kind=2)∧OkQ (ptrO o)∧wordE (ptrO o)=0∧withinB sz o.seg o.at_ (wordsO o)=true)
theorem okq_zero:OkQ (ptrO Ob.zero):= .inl (.inl rfl)
theorem GoodO.okq {sz:List Int} {o:Ob} (h:GoodO sz o):OkQ (ptrO o):=by
 rcases h with rfl | ⟨-,h,-⟩
 ·exact okq_zero
 ·exact h
theorem okq_bd {p:Pt} (h:OkQ p):(0≤p.data∧p.data≤65535)∧(0≤p.ptrs∧p.ptrs≤65535)∧(0≤p.size∧p.size≤7)∧(0≤p.count∧p.count≤536870911)∧(p.kind=0∨p.kind=1∨p.kind=2∨p.kind=3):=by
 rcases h with (rfl | ⟨h1,h2,h3,h4,h5,h6,h7,h8,-⟩ | ⟨h1,h2,h3,h4,h5,h6,h7,h8⟩ | ⟨h1,h2,h3,h4,h5,h6,h7⟩) | rfl
 ·decide
 ·omega
 ·omega
 ·omega
 ·decide
theorem wordN_bd {p:Pt} (h:OkQ p):0≤wordN p∧wordN p≤536870911:=by
 obtain ⟨a,b,c,d,-⟩:=okq_bd h;unfold wordN
 repeat' split
 all_goals omega
theorem within_at {sz:List Int} {g a n:Int} (h:withinB sz g a n=true):0≤g∧g<sz.length∧0≤a∧0≤n∧a+n≤sz[g.toNat]?.getD 0:=by
 unfold withinB at h;have h:=of_decide_eq_true h;obtain ⟨h1,h2,h3,h4,h5,h6⟩:=h;exact ⟨h1,h2,h3,h4,by omega⟩
theorem GoodO.bd {s:Sr} (hs:s.Good) {o:Ob} (h:GoodO s.sz o):In64 o.seg∧0≤o.at_∧o.at_+wordsO o≤9223372036854775807:=by
 rcases h with rfl | ⟨-,-,-,h⟩
 ·exact ⟨⟨by decide,by decide⟩,by decide,by decide⟩
 ·obtain ⟨h1,h2,h3,h4,h5⟩:=within_at h;have hb:=hs.sz.at_ o.seg.toNat;have hl:=hs.len;exact ⟨⟨by omega,by omega⟩,h3,by have:=hb.2;omega⟩
theorem check_good {s:Sr} {t:Ob × Int} (hk:t.2=0→t.1.kind≠0→OkQ (ptrO t.1)∧(t.1.kind=1∨t.1.kind=2)):GoodO s.sz (checkO s t).1:=by
 unfold checkO
 by_cases h1:t.2≠0∨t.1.kind=0
 ·rw[if_pos h1];exact .inl rfl
 rw[if_neg h1]
 by_cases h2:wordE (ptrO t.1)≠0
 ·rw[if_pos h2];exact .inl rfl
 rw[if_neg h2]
 by_cases h3:withinB s.sz t.1.seg t.1.at_ (wordsO t.1)=true
 ·rw[if_pos h3];obtain ⟨a,b⟩:=hk (Decidable.of_not_not fun e=>h1 (.inl e)) (fun e=>h1 (.inr e))
  exact .inr ⟨b,a,Decidable.of_not_not h2,h3⟩
 ·rw[if_neg h3];exact .inl rfl
theorem ptS_ok {s:Sr} (hs:s.Good) (g a:Int):OkP (ptS s g a):=dec_ok (hs.wd g a).1 (by have:=(hs.wd g a).2;omega)
theorem target_ok {s:Sr} (hs:s.Good) (g a:Int) (_h0:(targetO s g a).2=0) (hk:(targetO s g a).1.kind≠0):OkQ (ptrO (targetO s g a).1)∧((targetO s g a).1.kind=1∨(targetO s g a).1.kind=2):=by
 have hp:=ptS_ok hs;have hd:=fun x y=>(okq_bd (.inl (hp x y))).2.2.2.2
 unfold targetO at hk ⊢
 by_cases e1:ptE s g a≠0
 ·rw[if_pos e1] at hk;exact absurd rfl hk
 rw[if_neg e1] at hk ⊢
 by_cases e2:(ptS s g a).kind=0
 ·rw[if_pos e2] at hk;exact absurd rfl hk
 rw[if_neg e2] at hk ⊢
 by_cases e3:(ptS s g a).kind=3
 ·rw[if_pos e3] at hk ⊢;generalize ptS s g a=f at *
  unfold landedO at hk ⊢
  by_cases e4:f.dbl=true
  ·rw[if_pos e4] at hk ⊢;unfold landed2 at hk ⊢
   by_cases e5:ptE2 s f.seg f.off≠0
   ·rw[if_pos e5] at hk;exact absurd rfl hk
   rw[if_neg e5] at hk ⊢
   by_cases e6:(ptS s f.seg (f.off+1)).kind≠1∧(ptS s f.seg (f.off+1)).kind≠2
   ·rw[if_pos e6] at hk;exact absurd rfl hk
   rw[if_neg e6] at hk ⊢
   by_cases e7:(ptS s f.seg f.off).kind≠3∨(ptS s f.seg f.off).dbl=true∨(ptS s f.seg (f.off+1)).off≠0
   ·rw[if_pos e7] at hk;exact absurd rfl hk
   rw[if_neg e7] at hk ⊢;have hn:NearK (ptS s f.seg (f.off+1)):=by unfold NearK;omega
   exact ⟨okq_dec (hp _ _) hn _ _,hn⟩
  ·rw[if_neg e4] at hk ⊢;unfold landed1 at hk ⊢
   by_cases e5:ptE s f.seg f.off≠0
   ·rw[if_pos e5] at hk;exact absurd rfl hk
   rw[if_neg e5] at hk ⊢
   by_cases e6:(ptS s f.seg f.off).kind≠1∧(ptS s f.seg f.off).kind≠2
   ·rw[if_pos e6] at hk;exact absurd rfl hk
   rw[if_neg e6] at hk ⊢;have hn:NearK (ptS s f.seg f.off):=by unfold NearK;omega
   exact ⟨okq_dec (hp _ _) hn _ _,hn⟩
 ·rw[if_neg e3] at hk ⊢;have hn:NearK (ptS s g a):=by have:=hd g a;unfold NearK;omega
  exact ⟨okq_dec (hp _ _) hn _ _,hn⟩
theorem follow_good {s:Sr} (hs:s.Good) (g a:Int):GoodO s.sz (followO s g a).1:=check_good (target_ok hs g a)
theorem next_good {s:Sr} (hs:s.Good) (o:Ob) (k:Int):GoodO s.sz (nextO s o k).1:=by
 unfold nextO
 repeat' split
 all_goals first | exact .inl rfl | exact follow_good hs _ _
def srA (ls:List (List Int)):Sr:=⟨wordA ls,wordE7 ls,sizesL ls⟩
def negs (l:List Int):Bool:=l.any (fun k=>decide (k<0))
def ofV (ls:List (List Int)) (ks:List Int) (i c:Int):Va × Int:=if fitsL (sizesL ls)=true then walkV (srA ls) ks i c else (Va.zero,1)
theorem within9_yes {ls:List (List Int)} {g:Nat} {a n:Int} (hg:g<ls.length) (ha:0≤a) (hn:0≤n) (h:a+n≤((ls[g]?.getD []).length:Int)):withinB (sizesL ls) g a n=true:=by
 have e:=sizesL_get hg;unfold withinB;rw[sizesL_length,Int.toNat_natCast,e];exact decide_eq_true ⟨by omega,by omega,ha,hn,by omega,by omega⟩
theorem word9_at {ls:List (List Int)} {g a:Nat} (hg:g<ls.length) (ha:a<(ls[g]?.getD []).length):wordA ls g a=(ls[g]?.getD [])[a]?.getD 0∧wordE7 ls g a=0:=by
 have h:=within9_yes (n:=1) hg (Int.natCast_nonneg a) (by decide) (by omega);unfold wordA wordE7;rw[if_pos h,if_pos h,Int.toNat_natCast,Int.toNat_natCast];exact ⟨rfl,rfl⟩
theorem enc_dec {p:Pt} (hp:OkP p):decP (encW p)=p∧decE (encW p)=0:=by
 have hb:=ok_enc hp;have h:=encB_iff.1 hb;unfold encW;rw[if_pos hb];exact ⟨h.2,h.1⟩
theorem ptS_enc {s:Sr} {g a:Int} {p:Pt} (he:s.we g a=0) (hw:s.wd g a=encW p) (hp:OkP p):ptS s g a=p∧ptE s g a=0:=by
 obtain ⟨h1,h2⟩:=enc_dec hp;unfold ptS ptE;rw[he,if_neg (by simp),hw];exact ⟨h1,h2⟩
theorem target_near {s:Sr} {g a:Int} {p:Pt} (he:s.we g a=0) (hw:s.wd g a=encW p) (hp:OkP p) (hn:NearK p):targetO s g a=(nearO p g a,0):=by
 obtain ⟨h1,h2⟩:=ptS_enc he hw hp;unfold NearK at hn;unfold targetO;rw[h1,h2,if_neg (by simp),if_neg (by omega),if_neg (by omega)]
theorem near_at {p:Pt} {a:Int} (h1:0≤a+(p.off+1)) (h2:a+(p.off+1)≤1000000000):nearA p a=a+(p.off+1):=by
 unfold nearA;rw[if_pos ⟨by omega,by omega⟩]
theorem check_yes {s:Sr} {o:Ob} (hk:o.kind≠0) (he:wordE (ptrO o)=0) (hw:withinB s.sz o.seg o.at_ (wordsO o)=true):checkO s (o,0)=(o,0):=by
 unfold checkO;rw[if_neg (by simp[hk]),if_neg (by simp[he]),if_pos hw]
def nearF (k:Nat):Pt:=⟨1,k,1,0,0,0,0,false⟩
theorem getV_byte:(l:List Int)→(∀x∈l,0≤x∧x≤255)→(j:Nat)→getV l / 2 ^ (8*j) % 256=l[j]?.getD 0
 | [],_,j=>by simp[getV]
 | x :: l,h,0=>by
  have h1:=h x List.mem_cons_self;rw[getV_cons,Nat.mul_zero,Int.pow_zero,Int.ediv_one]
  show _=x
  omega
 | x :: l,h,j+1=>by
  have h1:=h x List.mem_cons_self;have ih:=getV_byte l (fun y hy=>h y (List.mem_cons_of_mem _ hy)) j
  have e:(2:Int) ^ (8*(j+1))=256*2 ^ (8*j):=by
   rw[Nat.mul_add,Int.pow_add,Int.mul_comm]
   rfl
  have d:(256*getV l+x) / 256=getV l:=by omega
  rw[getV_cons,e,←Int.ediv_ediv_of_nonneg (by decide),d,ih,List.getElem?_cons_succ]
theorem wordsB_byte {c:List Int} (h:∀x∈c,0≤x∧x≤255) {i:Nat} (hi:i<c.length):(wordsB c)[i / 8]?.getD 0 / 2 ^ (8*(i % 8)) % 256=c[i]?.getD 0:=by
 unfold wordsB;rw[List.getElem?_map,List.getElem?_range (by omega)]
 show getV ((c.drop (8*(i / 8))).take 8) / _ % _=_
 rw[getV_byte _ (fun x hx=>h x (List.mem_of_mem_drop (List.mem_of_mem_take hx))),List.getElem?_take_of_lt (by omega),List.getElem?_drop,show 8*(i / 8)+i % 8=i by omega]
end Go.Proofs.YtmmlfnblodfjbaaGreatDoor
