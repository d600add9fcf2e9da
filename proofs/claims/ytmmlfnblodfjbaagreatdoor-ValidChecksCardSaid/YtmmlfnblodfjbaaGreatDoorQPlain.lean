/- Plain facts on numbers for layer 1 (word): what Add, Mul, Ceil and Signed come to, as plain functions, and the arithmetic that the walks need. No program is named here. -/
import Derived.WalkKit
namespace Go.Proofs.YtmmlfnblodfjbaaGreatDoor
open Go.RowKit
def addB (a b m:Int):Bool:=decide (0≤a∧0≤b∧a+b≤m)
def addV (a b m:Int):Int:=if addB a b m then a+b else 0
theorem add_yes {a b m:Int} (h:0≤a∧0≤b∧a+b≤m):Ending.returned (.tuple #[.int .i64 (a+b),.bool true])= .returned (.tuple #[.int .i64 (addV a b m),.bool (addB a b m)]):=by
 simp[addV,addB,h]
theorem add_no {a b m:Int} (h:¬(0≤a∧0≤b∧a+b≤m)):Ending.returned (.tuple #[.int .i64 0,.bool false])= .returned (.tuple #[.int .i64 (addV a b m),.bool (addB a b m)]):=by
 simp[addV,addB,h]
theorem addB_of {a b m:Int} (h:0≤a∧0≤b∧a+b≤m):addB a b m=true:=by simp[addB,h]
theorem addB_not {a b m:Int} (h:¬(0≤a∧0≤b∧a+b≤m)):addB a b m=false:=by simp[addB,h]
theorem addV_of {a b m:Int} (h:0≤a∧0≤b∧a+b≤m):addV a b m=a+b:=by simp[addV,addB_of h]
theorem addV_not {a b m:Int} (h:¬(0≤a∧0≤b∧a+b≤m)):addV a b m=0:=by simp[addV,addB_not h]
def ceilV (n d:Int):Int:=if 0≤n∧n≤9007199254740992∧1≤d∧d≤9007199254740992 then (if 0<n % d then n / d+1 else n / d) else 0
theorem ret_int {k:IntKind} {a b:Int} (h:a=b):Ending.returned (.int k a)= .returned (.int k b):=by rw[h]
theorem ceil_up {n d:Int} (h:0≤n∧n≤9007199254740992∧1≤d∧d≤9007199254740992) (h2:0<n % d):n / d+1=ceilV n d:=by simp[ceilV,h,h2]
theorem ceil_even {n d:Int} (h:0≤n∧n≤9007199254740992∧1≤d∧d≤9007199254740992) (h2:¬0<n % d):n / d=ceilV n d:=by simp[ceilV,h,h2]
theorem ceil_no {n d:Int} (h:¬(0≤n∧n≤9007199254740992∧1≤d∧d≤9007199254740992)):0=ceilV n d:=by simp[ceilV,h]
theorem div_bds {n d:Int} (hn:0≤n) (hd:1≤d):0≤n / d∧n / d≤n∧0≤n / d*d∧n / d*d≤n∧0≤n % d∧n % d<d∧n / d*d+n % d=n:=by
 have h1:=Int.ediv_nonneg hn (by omega:(0:Int)≤d);have h2:=Int.ediv_le_self d hn;have h3:=Int.emod_nonneg n (by omega:d≠0);have h4:=Int.emod_lt_of_pos n (by omega:0<d);have h5:=Int.mul_ediv_add_emod n d;rw[Int.mul_comm] at h5;have h6:=Int.mul_nonneg h1 (by omega:(0:Int)≤d);exact ⟨h1,h2,h6,by omega,h3,h4,h5⟩
def clipK (k:Int):Nat:=(min (max k 1) 63).toNat
theorem clipK_bd (k:Int):1≤clipK k∧clipK k≤63:=by unfold clipK;omega
def sgnV (n:Int) (k:Nat):Int:=if 2 ^ (k - 1)≤n % 2 ^ k then n % 2 ^ k - 2 ^ k else n % 2 ^ k
theorem pow_pos (k:Nat):(0:Int)<2 ^ k:=Int.pow_pos (by omega)
theorem pow_mono {a b:Nat} (h:a≤b):(2:Int) ^ a≤2 ^ b:=by
 have:=Nat.pow_le_pow_right (n:=2) (by omega) h
 exact_mod_cast this
theorem pow_succ' (k:Nat):(2:Int) ^ (k+1)=2*2 ^ k:=by rw[Int.pow_succ,Int.mul_comm]
theorem pow_pred {k:Nat} (h:1≤k):(2:Int) ^ k=2*2 ^ (k - 1):=by
 obtain ⟨j,rfl⟩:∃j,k=j+1:=⟨k - 1,by omega⟩
 simp[pow_succ']
theorem pow_le61 {k:Nat} (h:k≤61):(2:Int) ^ k≤2305843009213693952:=by
 have:=pow_mono h
 simpa using this
theorem pow_le62 {k:Nat} (h:k≤62):(2:Int) ^ k≤4611686018427387904:=by
 have:=pow_mono h
 simpa using this
theorem sgn_of_mod {n m:Int} {k:Nat} (h:n % 2 ^ k=m % 2 ^ k):sgnV n k=sgnV m k:=by
 unfold sgnV;rw[h]
theorem shifted (n:Int) {k:Nat} (h1:1≤k) (h2:k≤63):wrap64 (IntKind.u64.wrap (n*2 ^ (64 - k))) / 2 ^ (64 - k)=sgnV n k:=by
 have e:(18446744073709551616:Int)=2 ^ k*2 ^ (64 - k):=by
  rw[←Int.pow_add];rw[show k+(64 - k)=64 by omega];rfl
 have e2:(9223372036854775808:Int)=2 ^ (k - 1)*2 ^ (64 - k):=by
  rw[←Int.pow_add];rw[show k - 1+(64 - k)=63 by omega];rfl
 have hs:=pow_pos (64 - k);have hk:=pow_pos k;have u:IntKind.u64.wrap (n*2 ^ (64 - k))=(n % 2 ^ k)*2 ^ (64 - k):=by
  rw[IntKind.wrap_u64,e,Int.mul_comm n,Int.mul_comm (2 ^ k),Int.mul_emod_mul_of_pos _ _ hs,Int.mul_comm]
 rw[u];have r0:=Int.emod_nonneg n (b:=2 ^ k) (by omega);have r1:=Int.emod_lt_of_pos n hk;unfold sgnV;generalize n % 2 ^ k=r at *
 have x0:=Int.mul_nonneg r0 (Int.le_of_lt hs);have x1:r*2 ^ (64 - k)<18446744073709551616:=by rw[e];exact Int.mul_lt_mul_of_pos_right r1 hs
 have key:9223372036854775808≤r*2 ^ (64 - k)↔2 ^ (k - 1)≤r:=by
  rw[e2];exact ⟨fun h=>Int.le_of_mul_le_mul_right h hs,fun h=>Int.mul_le_mul_of_nonneg_right h (Int.le_of_lt hs)⟩
 by_cases c:2 ^ (k - 1)≤r
 ·rw[if_pos c];have c':=key.2 c;have:wrap64 (r*2 ^ (64 - k))=(r - 2 ^ k)*2 ^ (64 - k):=by
   rw[Int.sub_mul,←e];unfold wrap64;omega
  rw[this,Int.mul_ediv_cancel _ (by omega)]
 ·rw[if_neg c];have c':¬9223372036854775808≤r*2 ^ (64 - k):=fun h=>c (key.1 h)
  have:wrap64 (r*2 ^ (64 - k))=r*2 ^ (64 - k):=by unfold wrap64;omega
  rw[this,Int.mul_ediv_cancel _ (by omega)]
end Go.Proofs.YtmmlfnblodfjbaaGreatDoor
namespace Go.Proofs.YtmmlfnblodfjbaaGreatDoor
structure Pt where
 kind:Int
 off:Int
 data:Int
 ptrs:Int
 size:Int
 count:Int
 seg:Int
 dbl:Bool
def Pt.zero:Pt:=⟨0,0,0,0,0,0,0,false⟩
def eqP (p q:Pt):Bool:=p.kind == q.kind && (p.off == q.off && (p.data == q.data && (p.ptrs == q.ptrs && (p.size == q.size && (p.count == q.count && (p.seg == q.seg && p.dbl == q.dbl))))))
theorem eqP_iff {p q:Pt}:eqP p q=true↔p=q:=by
 obtain ⟨a,b,c,d,e,f,g,h⟩:=p;obtain ⟨a',b',c',d',e',f',g',h'⟩:=q
 simp[eqP]
def sgn30 (m:Int):Int:=if 536870912≤m then m - 1073741824 else m
theorem sgn30_is (m:Int) (h0:0≤m) (h1:m<1073741824):sgnV m 30=sgn30 m:=by
 have e1:(2:Int) ^ 30=1073741824:=by decide
 have e2:(2:Int) ^ (30 - 1)=536870912:=by decide
 unfold sgnV sgn30;rw[e1,e2,Int.emod_eq_of_lt h0 h1]
def decP (n:Int):Pt :=
 if n=0 then Pt.zero
 else if n % 4=0 then ⟨1,sgn30 (n / 4 % 1073741824),n / 4294967296 % 65536,n / 281474976710656 % 65536,0,0,0,false⟩
 else if n % 4=1 then ⟨2,sgn30 (n / 4 % 1073741824),0,0,n / 4294967296 % 8,n / 34359738368 % 536870912,0,false⟩
 else if n % 4=2 then ⟨3,n / 8 % 536870912,0,0,0,0,n / 4294967296 % 4294967296,decide (n / 4 % 2=1)⟩
 else Pt.zero
def decE (n:Int):Int:=if n % 4=3 then 23 else 0
def rawW (p:Pt):Int :=
 if p.kind=1 then 4*(p.off % 1073741824)+p.data % 65536*4294967296+p.ptrs % 65536*281474976710656
 else if p.kind=2 then 1+4*(p.off % 1073741824)+p.size % 8*4294967296+p.count % 536870912*34359738368
 else if p.kind=3 then 2+8*(p.off % 536870912)+p.seg % 4294967296*4294967296+(if p.dbl then 4 else 0)
 else 0
theorem rawW_bd (p:Pt):0≤rawW p∧rawW p<18446744073709551616:=by
 unfold rawW
 split
 ·omega
 ·split
  ·omega
  ·split
   ·split <;> omega
   ·omega
theorem raw_e (p:Pt):decE (rawW p)=0:=by
 have h:rawW p % 4≠3:=by
  unfold rawW
  split
  ·omega
  ·split
   ·omega
   ·split
    ·split <;> omega
    ·omega
 unfold decE;rw[if_neg h]
def encB (p:Pt):Bool:=decide (decE (rawW p)=0) && eqP (decP (rawW p)) p
def encW (p:Pt):Int:=if encB p then rawW p else 0
def encE (p:Pt):Int:=if encB p then 0 else 1
theorem encB_iff {p:Pt}:encB p=true↔decE (rawW p)=0∧decP (rawW p)=p:=by simp[encB,eqP_iff]
def wordN (p:Pt):Int :=
 if p.kind=1 then p.data+p.ptrs else if p.kind=2 then (if p.size=2 then (p.count+7) / 8 else if p.size=5∨p.size=6 then p.count else 0) else if p.kind=3 then (if p.dbl then 2 else 1) else 0
def wordE (p:Pt):Int :=
 if p.kind=0 then 0 else if p.kind=1 then 0 else if p.kind=2 then (if p.size=2∨p.size=5∨p.size=6 then 0 else 23) else if p.kind=3 then 0 else 23
def OkP (p:Pt):Prop :=
 p=Pt.zero ∨
 (p.kind=1∧(-536870912≤p.off∧p.off<536870912)∧(0≤p.data∧p.data<65536)∧(0≤p.ptrs∧p.ptrs<65536)∧p.size=0∧p.count=0∧p.seg=0∧p.dbl=false∧¬(p.off=0∧p.data=0∧p.ptrs=0)) ∨
 (p.kind=2∧(-536870912≤p.off∧p.off<536870912)∧p.data=0∧p.ptrs=0∧(0≤p.size∧p.size<8)∧(0≤p.count∧p.count<536870912)∧p.seg=0∧p.dbl=false) ∨
 (p.kind=3∧(0≤p.off∧p.off<536870912)∧p.data=0∧p.ptrs=0∧p.size=0∧p.count=0∧(0≤p.seg∧p.seg<4294967296))
theorem dec_ok {n:Int} (h0:0≤n) (h1:n<18446744073709551616):OkP (decP n):=by
 unfold decP
 by_cases z:n=0
 ·rw[if_pos z];exact .inl rfl
 rw[if_neg z]
 by_cases a0:n % 4=0
 ·rw[if_pos a0];refine .inr (.inl ⟨rfl,?_,?_,?_,rfl,rfl,rfl,rfl,?_⟩)
  ·simp only[sgn30];split <;> omega
  ·dsimp only;omega
  ·dsimp only;omega
  ·simp only[sgn30];split <;> omega
 rw[if_neg a0]
 by_cases a1:n % 4=1
 ·rw[if_pos a1];refine .inr (.inr (.inl ⟨rfl,?_,rfl,rfl,by dsimp only;omega,by dsimp only;omega,rfl,rfl⟩))
  simp only[sgn30];split <;> omega
 rw[if_neg a1]
 by_cases a2:n % 4=2
 ·rw[if_pos a2];exact .inr (.inr (.inr ⟨rfl,by dsimp only;omega,rfl,rfl,rfl,rfl,by dsimp only;omega⟩))
 ·rw[if_neg a2];exact .inl rfl
theorem ok_enc {p:Pt} (h:OkP p):encB p=true:=by
 rw[encB_iff];obtain ⟨k,o,d,r,s,c,g,b⟩:=p
 rcases h with e | ⟨e,h1,h2,h3,h4,h5,h6,h7,h8⟩ | ⟨e,h1,h2,h3,h4,h5,h6,h7⟩ | ⟨e,h1,h2,h3,h4,h5,h6⟩
 ·rw[e];exact ⟨by decide,rfl⟩
 ·simp only at e h1 h2 h3 h4 h5 h6 h7 h8;subst e h4 h5 h6 h7;simp only[rawW,if_true];generalize hn:4*(o % 1073741824)+d % 65536*4294967296+r % 65536*281474976710656=n;have z:n≠0:=by omega
  have a0:n % 4=0:=by omega
  unfold decE decP;rw[if_neg (by omega),if_neg z,if_pos a0];refine ⟨rfl,?_⟩
  congr 1
  ·unfold sgn30;split <;> omega
  ·omega
  ·omega
 ·simp only at e h1 h2 h3 h4 h5 h6 h7;subst e h2 h3 h6 h7;simp only[rawW,if_true,if_neg (show ¬(2:Int)=1 by decide)]
  generalize hn:1+4*(o % 1073741824)+s % 8*4294967296+c % 536870912*34359738368=n;have a0:n % 4=1:=by omega
  unfold decE decP;rw[if_neg (by omega),if_neg (by omega),if_neg (by omega),if_pos a0];refine ⟨rfl,?_⟩
  congr 1
  ·unfold sgn30;split <;> omega
  ·omega
  ·omega
 ·simp only at e h1 h2 h3 h4 h5 h6;subst e h2 h3 h4 h5;simp only[rawW,if_true,if_neg (show ¬(3:Int)=1 by decide),if_neg (show ¬(3:Int)=2 by decide)]
  generalize hn:2+8*(o % 536870912)+g % 4294967296*4294967296+(if b=true then 4 else 0)=n
  have hb:(b=true∧n=2+8*(o % 536870912)+g % 4294967296*4294967296+4)∨(b=false∧n=2+8*(o % 536870912)+g % 4294967296*4294967296):=by
   cases b
   ·exact .inr ⟨rfl,by rw[←hn];simp⟩
   ·exact .inl ⟨rfl,by rw[←hn];simp⟩
  have a0:n % 4=2:=by omega
  unfold decE decP;rw[if_neg (by omega),if_neg (by omega),if_neg (by omega),if_neg (by omega),if_pos a0];refine ⟨rfl,?_⟩
  congr 1
  ·omega
  ·omega
  ·rcases hb with ⟨rfl,e⟩ | ⟨rfl,e⟩
   ·exact decide_eq_true (by omega)
   ·exact decide_eq_false (by omega)
end Go.Proofs.YtmmlfnblodfjbaaGreatDoor
namespace Go.Proofs.YtmmlfnblodfjbaaGreatDoor
open Go.RowKit
def getV (l:List Int):Int:=l.foldr (fun b acc=>256*acc+b) 0
def AllB (l:List Int):Prop:=∀x∈l,0≤x∧x≤255
theorem AllB.at_ {l:List Int} (h:AllB l) (j:Nat):0≤l[j]?.getD 0∧l[j]?.getD 0≤255:=by
 rcases hj:l[j]? with _ | x
 ·simp
 ·simpa using h x (List.mem_of_getElem? hj)
theorem AllB.take {l:List Int} (h:AllB l) (k:Nat):AllB (l.take k):=fun x hx=>h x (List.mem_of_mem_take hx)
theorem AllB.drop {l:List Int} (h:AllB l) (k:Nat):AllB (l.drop k):=fun x hx=>h x (List.mem_of_mem_drop hx)
theorem getV_cons (x:Int) (l:List Int):getV (x :: l)=256*getV l+x:=rfl
theorem getV_nonneg {l:List Int} (h:AllB l):0≤getV l:=by
 induction l with
 | nil=>simp[getV]
 | cons x l ih =>
  rw[getV_cons];have:=ih (fun y hy=>h y (List.mem_cons_of_mem _ hy))
  have:=h x (List.mem_cons_self)
  omega
theorem getV_lt {l:List Int} (h:AllB l):getV l<256 ^ l.length:=by
 induction l with
 | nil=>simp[getV]
 | cons x l ih =>
  rw[getV_cons,List.length_cons,Int.pow_succ];have:=ih (fun y hy=>h y (List.mem_cons_of_mem _ hy))
  have:=h x (List.mem_cons_self)
  omega
theorem pow256_mono {a b:Nat} (h:a≤b):(256:Int) ^ a≤256 ^ b:=by
 have h1:((256 ^ a:Nat):Int)≤((256 ^ b:Nat):Int):=Int.ofNat_le.2 (Nat.pow_le_pow_right (by omega) h);rw[Int.natCast_pow,Int.natCast_pow] at h1;exact h1
theorem getV_lt7 {l:List Int} (h:AllB l) (hl:l.length≤7):getV l<72057594037927936:=by
 have h1:=getV_lt h;have h2:=pow256_mono hl;rw[show (256:Int) ^ 7=72057594037927936 from rfl] at h2
 omega
theorem drop_at {l:List Int} {k:Nat} (h:k<l.length):l.drop k=l[k]?.getD 0 :: l.drop (k+1):=by
 rw[List.drop_eq_getElem_cons h];simp[h]
theorem getV_drop {l:List Int} {k:Nat} (h:k<l.length):getV (l.drop k)=256*getV (l.drop (k+1))+l[k]?.getD 0:=by
 rw[drop_at h,getV_cons]
end Go.Proofs.YtmmlfnblodfjbaaGreatDoor
namespace Go.Proofs.YtmmlfnblodfjbaaGreatDoor
inductive Tr where
 | mk (kind size:Int) (words bytes:List Int) (kids:List Tr)
def Tr.kind:Tr→Int | .mk k _ _ _ _=>k
def Tr.size:Tr→Int | .mk _ s _ _ _=>s
def Tr.words:Tr→List Int | .mk _ _ w _ _=>w
def Tr.bytes:Tr→List Int | .mk _ _ _ b _=>b
def Tr.kids:Tr→List Tr | .mk _ _ _ _ ks=>ks
def Tr.nil:Tr:= .mk 0 0 [] [] []
def oneB (k s:Int) (w b n:Nat):Bool :=
 if k=2 then decide ((s=2∧w=0∧n=0∧b≤4096)∨(s=5∧b=0∧n=0∧w≤4096)∨(s=6∧b=0∧w=0∧n≤4096))
 else decide (k=1∧s=0∧w≤100∧b=0∧n≤100)
mutual
def deepB:Tr→Nat→Bool
 | .mk k s w b ks,left =>
  if k=0 then decide (s=0∧w.length+b.length+ks.length=0)
  else oneB k s w.length b.length ks.length && (decide (left≠0) && deepAll ks (left - 1))
def deepAll:List Tr→Nat→Bool
 | [],_=>true
 | t :: r,left=>deepB t left && deepAll r left
end
def rightT (t:Tr):Bool:=deepB t 32
def needT (t:Tr):Nat:=if t.kind=1 then t.words.length+t.kids.length else if t.kind=2 then t.words.length+t.kids.length+(t.bytes.length+7) / 8 else 0
def nearP (t:Tr) (off:Int):Pt:=if t.kind=2 then ⟨2,off,0,0,t.size,t.words.length+t.kids.length+t.bytes.length,0,false⟩ else ⟨t.kind,off,t.words.length,t.kids.length,0,0,0,false⟩
def nearW (t:Tr) (off:Int):Int:=encW (nearP t off)
def farW (seg at_:Nat):Int:=encW ⟨3,at_,0,0,0,0,seg,false⟩
def wordsB (b:List Int):List Int:=(List.range ((b.length+7) / 8)).map (fun i=>getV ((b.drop (8*i)).take 8))
def contentT (t:Tr):List Int:=t.words ++ wordsB t.bytes ++ List.replicate t.kids.length 0
structure St where
 a:List (List Int)
 full:Bool
def setW (st:St) (s i:Nat) (w:Int):St:=⟨st.a.set s ((st.a[s]?.getD []).set i w),st.full⟩
def lenS (a:List (List Int)):Nat:=(a.map List.length).sum
def moreA (a:List (List Int)) (seg:Nat) (l:List Int):List (List Int) :=
 let a':=if seg=a.length then a ++ [[]] else a
 a'.set seg ((a'[seg]?.getD []) ++ l)
def moreW (sz:Nat) (st:St) (seg:Nat) (l:List Int):St :=
 let a:=moreA st.a seg l
 ⟨a,st.full || decide (sz<(a[seg]?.getD []).length) || decide (16<a.length) || decide (4096<lenS a)⟩
def laySt (sz:Nat) (t:Tr) (st:St) (s i:Nat):St × Nat × Nat :=
 let n:=needT t
 let last:=st.a.length - 1
 let at_:=(st.a[last]?.getD []).length
 if s=last∧at_+n≤sz then (moreW sz (setW st s i (nearW t ((at_:Int) - i - 1))) last (contentT t),last,at_)
 else
  let seg:=if s=last∨sz<at_+n+1 then last+1 else last
  let p:=if s=last∨sz<at_+n+1 then 0 else at_
  (moreW sz (moreW sz (setW st s i (farW seg p)) seg [nearW t 0]) seg (contentT t),seg,p+1)
mutual
def lay (sz:Nat):Tr→St→Nat→Nat→St
 | .mk k z w b ks,st,s,i =>
  if k=0∨st.full=true then st
  else if needT (.mk k z w b ks)=0 then setW st s i (nearW (.mk k z w b ks) (if k=1 then -1 else 0))
  else layAll sz ks (laySt sz (.mk k z w b ks) st s i).1 (laySt sz (.mk k z w b ks) st s i).2.1 ((laySt sz (.mk k z w b ks) st s i).2.2+needT (.mk k z w b ks) - ks.length)
def layAll (sz:Nat):List Tr→St→Nat→Nat→St
 | [],st,_,_=>st
 | t :: r,st,seg,p=>layAll sz r (lay sz t st seg p) seg (p+1)
end
def buildT (t:Tr) (sz:Int):List (List Int) × Int :=
 if sz<1∨4096<sz∨rightT t=false then ([],1)
 else if (lay sz.toNat t ⟨[[0]],false⟩ 0 0).full=true then ([],24) else ((lay sz.toNat t ⟨[[0]],false⟩ 0 0).a,0)
mutual
def needs:Tr→Nat
 | .mk k z w b ks=>needT (.mk k z w b ks)+needsAll ks
def needsAll:List Tr→Nat
 | []=>0
 | t :: r=>needs t+needsAll r
end
mutual
def sameT:Tr→Tr→Bool
 | .mk k z w b ks,.mk k' z' w' b' ks'=>decide (k=k'∧z=z'∧b=b'∧w=w') && sameAll ks ks'
def sameAll:List Tr→List Tr→Bool
 | [],[]=>true
 | t :: r,u :: q=>sameT t u && sameAll r q
 | _,_=>false
end
theorem setW_len (st:St) (s i:Nat) (w:Int):(setW st s i w).a.map List.length=st.a.map List.length:=by
 unfold setW;refine List.ext_getElem (by simp) (fun j h1 h2=> ?_)
 simp only[List.length_map,List.length_set] at h1;rw[List.getElem_map,List.getElem_map,List.getElem_set]
 split
 ·rename_i e
  subst e;rw[List.length_set,List.getElem?_eq_getElem h1]
  rfl
 ·rfl
def Room (sz:Nat) (st:St):Prop:=st.full=true∨((∀n∈st.a.map List.length,n≤sz)∧st.a.length≤16∧lenS st.a≤4096)
theorem Room.set {sz:Nat} {st:St} (h:Room sz st) (s i:Nat) (w:Int):Room sz (setW st s i w):=by
 rcases h with h | ⟨h1,h2,h3⟩
 ·exact .inl h
 ·refine .inr ⟨by rw[setW_len];exact h1,?_,?_⟩
  ·have:=congrArg List.length (setW_len st s i w);rw[List.length_map,List.length_map] at this
   omega
  ·unfold lenS;rw[setW_len];exact h3
theorem Room.more {sz:Nat} {st:St} (h:Room sz st) (seg:Nat) (l:List Int) (hs:seg≤st.a.length):Room sz (moreW sz st seg l):=by
 rcases h with h | ⟨h1,_,_⟩
 ·left
  unfold moreW
  simp[h]
 ·by_cases hf:(moreW sz st seg l).full=true
  ·exact .inl hf
  ·right
   rw[Bool.not_eq_true] at hf;unfold moreW at hf ⊢;simp only[Bool.or_eq_false_iff,decide_eq_false_iff_not,Nat.not_lt] at hf;obtain ⟨⟨⟨_,g1⟩,g2⟩,g3⟩:=hf;refine ⟨fun n hn=> ?_,g2,g3⟩
   obtain ⟨x,hx,rfl⟩:=List.mem_map.1 hn;obtain ⟨j,hj,rfl⟩:=List.getElem_of_mem hx
   by_cases e:j=seg
   ·subst e;rw[List.getElem?_eq_getElem hj] at g1;exact g1
   ·have hj0:=hj;unfold moreA at hj ⊢;dsimp only at hj ⊢;rw[List.getElem_set_ne (fun e2=>e e2.symm)]
    split at hj
    ·rename_i e2
     rw[List.length_set,List.length_append] at hj;simp only[List.length_singleton] at hj;have hj2:j<st.a.length:=by omega
     simp only[if_pos e2];rw[List.getElem_append_left hj2];exact h1 _ (List.mem_map.2 ⟨_,List.getElem_mem hj2,rfl⟩)
    ·rename_i e2
     rw[List.length_set] at hj;simp only[if_neg e2];exact h1 _ (List.mem_map.2 ⟨_,List.getElem_mem hj,rfl⟩)
theorem moreA_length (a:List (List Int)) (seg:Nat) (l:List Int):(moreA a seg l).length=if seg=a.length then a.length+1 else a.length:=by
 unfold moreA;dsimp only
 split <;> simp[*]
theorem setW_length (st:St) (s i:Nat) (w:Int):(setW st s i w).a.length=st.a.length:=by unfold setW;simp
theorem laySt_room {sz:Nat} {t:Tr} {st:St} {s i:Nat} (h:Room sz st) (hp:0<st.a.length):Room sz (laySt sz t st s i).1∧st.a.length≤(laySt sz t st s i).1.a.length:=by
 unfold laySt;dsimp only
 split
 ·refine ⟨(h.set _ _ _).more _ _ (by rw[setW_length];omega),?_⟩
  show _≤(moreA _ _ _).length
  rw[moreA_length,setW_length]
  split <;> omega
 ·have hseg:(if s=st.a.length - 1∨sz<(st.a[st.a.length - 1]?.getD []).length+needT t+1 then st.a.length - 1+1 else st.a.length - 1)≤st.a.length:=by split <;> omega
  generalize (if s=st.a.length - 1∨sz<(st.a[st.a.length - 1]?.getD []).length+needT t+1 then st.a.length - 1+1 else st.a.length - 1)=seg at *
  generalize (if s=st.a.length - 1∨sz<(st.a[st.a.length - 1]?.getD []).length+needT t+1 then 0 else (st.a[st.a.length - 1]?.getD []).length)=p at *
  have h1:=(h.set s i (farW seg p)).more seg [nearW t 0] (by rw[setW_length];exact hseg);have l1:∀x l,st.a.length≤(moreW sz (setW st s i x) seg l).a.length∧seg≤(moreW sz (setW st s i x) seg l).a.length:=fun x l=>by
   show _≤(moreA _ _ _).length∧_≤(moreA _ _ _).length
   rw[moreA_length,setW_length]
   split <;> omega
  refine ⟨h1.more seg _ (l1 _ _).2,?_⟩
  show _≤(moreA _ _ _).length
  rw[moreA_length];have:=(l1 (farW seg p) [nearW t 0]).1
  split <;> omega
mutual
theorem lay_room {sz:Nat}:(t:Tr)→(st:St)→(s i:Nat)→Room sz st→0<st.a.length→Room sz (lay sz t st s i)∧0<(lay sz t st s i).a.length
 | .mk k z w b ks,st,s,i,h,hp=>by
  unfold lay
  split
  ·exact ⟨h,hp⟩
  ·split
   ·exact ⟨h.set _ _ _,by rw[setW_length];exact hp⟩
   ·obtain ⟨h1,h2⟩:=laySt_room (t:= .mk k z w b ks) (s:=s) (i:=i) h hp;exact layAll_room ks _ _ _ h1 (by omega)
theorem layAll_room {sz:Nat}:(l:List Tr)→(st:St)→(seg p:Nat)→Room sz st→0<st.a.length→Room sz (layAll sz l st seg p)∧0<(layAll sz l st seg p).a.length
 | [],st,_,_,h,hp=>by
  unfold layAll;exact ⟨h,hp⟩
 | t :: r,st,seg,p,h,hp=>by
  unfold layAll;obtain ⟨h1,h2⟩:=lay_room t st seg p h hp;exact layAll_room r _ _ _ h1 h2
end
theorem need_one {k z:Int} {w b:List Int} {ks:List Tr} {left:Nat} (h:deepB (.mk k z w b ks) left=true) (hk:k≠0) :
  (k=1∨k=2)∧(contentT (.mk k z w b ks)).length=needT (.mk k z w b ks)∧ks.length≤needT (.mk k z w b ks):=by
 unfold deepB at h;rw[if_neg hk] at h;simp only[Bool.and_eq_true] at h;have h1:=h.1;have hk2:k=1∨k=2:=by
  unfold oneB at h1
  split at h1
  ·rename_i e;exact .inr e
  ·exact .inl (of_decide_eq_true h1).1
 have hb:k=1→b.length=0:=fun e=>by
  unfold oneB at h1;rw[if_neg (by omega)] at h1;exact (of_decide_eq_true h1).2.2.2.1
 have hw:(wordsB b).length=(b.length+7) / 8:=by simp[wordsB]
 refine ⟨hk2,?_,?_⟩
 ·unfold contentT needT;simp only[Tr.kind,Tr.words,Tr.bytes,Tr.kids,List.length_append,List.length_replicate,hw]
  rcases hk2 with rfl | rfl
  ·have:=hb rfl
   simp
   omega
  ·simp
   omega
 ·unfold needT;simp only[Tr.kind,Tr.words,Tr.bytes,Tr.kids]
  rcases hk2 with rfl | rfl
  ·simp
  ·simp
   omega
mutual
theorem lay_one {sz:Nat} (hsz:sz≤4096):(t:Tr)→(left:Nat)→(l:List Int)→(i:Nat)→deepB t left=true→l.length+needs t≤sz→∃l',lay sz t ⟨[l],false⟩ 0 i=⟨[l'],false⟩∧l'.length=l.length+needs t
 | .mk k z w b ks,left,l,i,h,hl=>by
  by_cases hk:k=0
  ·subst hk;have hn:ks=[]:=by
    unfold deepB at h;rw[if_pos rfl] at h;have:=(of_decide_eq_true h).2;exact List.eq_nil_of_length_eq_zero (by omega)
   subst hn;refine ⟨l,by unfold lay;rw[if_pos (.inl rfl)],?_⟩
   unfold needs needsAll needT
   simp[Tr.kind]
  ·obtain ⟨hk2,hc,hks⟩:=need_one h hk;have hd:deepAll ks (left - 1)=true:=by
    unfold deepB at h;rw[if_neg hk] at h;simp only[Bool.and_eq_true] at h;exact h.2.2
   unfold needs at hl ⊢;unfold lay;rw[if_neg (by simp[hk])]
   by_cases hn:needT (.mk k z w b ks)=0
   ·rw[if_pos hn];have hk0:ks=[]:=List.eq_nil_of_length_eq_zero (by omega);refine ⟨l.set i (nearW (.mk k z w b ks) (if k=1 then -1 else 0)),by simp[setW],?_⟩
    rw[List.length_set,hn,hk0];unfold needsAll
    omega
   ·rw[if_neg hn];have hst:laySt sz (.mk k z w b ks) ⟨[l],false⟩ 0 i=(⟨[l.set i (nearW (.mk k z w b ks) ((l.length:Int) - i - 1)) ++ contentT (.mk k z w b ks)],false⟩,0,l.length):=by
     unfold laySt;simp only[List.length_singleton,Nat.sub_self,List.getElem?_cons_zero,Option.getD_some];rw[if_pos ⟨by simp,by omega⟩]
     unfold moreW moreA setW lenS
     simp[hc]
     omega
    rw[hst];obtain ⟨l',e,e2⟩:=layAll_one hsz ks (left - 1) (l.set i (nearW (.mk k z w b ks) ((l.length:Int) - i - 1)) ++ contentT (.mk k z w b ks)) (l.length+needT (.mk k z w b ks) - ks.length) hd (by rw[List.length_append,List.length_set,hc];omega);refine ⟨l',e,?_⟩;rw[e2,List.length_append,List.length_set,hc]
    omega
theorem layAll_one {sz:Nat} (hsz:sz≤4096):(r:List Tr)→(left:Nat)→(l:List Int)→(p:Nat)→deepAll r left=true→l.length+needsAll r≤sz→∃l',layAll sz r ⟨[l],false⟩ 0 p=⟨[l'],false⟩∧l'.length=l.length+needsAll r
 | [],_,l,_,_,_=>by
  unfold layAll needsAll;exact ⟨l,rfl,rfl⟩
 | t :: r,left,l,p,h,hl=>by
  unfold deepAll at h;simp only[Bool.and_eq_true] at h;unfold needsAll at hl ⊢;unfold layAll;obtain ⟨l1,e1,e2⟩:=lay_one hsz t left l p h.1 (by omega);rw[e1];obtain ⟨l2,e3,e4⟩:=layAll_one hsz r left l1 (p+1) h.2 (by omega);exact ⟨l2,e3,by omega⟩
end
theorem deepAll_of {k z:Int} {w b:List Int} {ks:List Tr} {left:Nat} (h:deepB (.mk k z w b ks) left=true) (hk:k≠0):deepAll ks (left - 1)=true:=by
 unfold deepB at h;rw[if_neg hk] at h;simp only[Bool.and_eq_true] at h;exact h.2.2
theorem deep_null {z:Int} {w b:List Int} {ks:List Tr} {left:Nat} (h:deepB (.mk 0 z w b ks) left=true):ks=[]:=by
 unfold deepB at h;rw[if_pos rfl] at h;have:=(of_decide_eq_true h).2;exact List.eq_nil_of_length_eq_zero (by omega)
theorem lay_noth {sz:Nat} {k z:Int} {w b:List Int} {ks:List Tr} {st:St} (s i:Nat) (hk:k≠0) (hf:st.full=false) (hn:needT (.mk k z w b ks)=0) :
  lay sz (.mk k z w b ks) st s i=setW st s i (nearW (.mk k z w b ks) (if k=1 then -1 else 0)):=by
 unfold lay;rw[if_neg (by simp[hk,hf]),if_pos hn]
theorem lay_some {sz:Nat} {k z:Int} {w b:List Int} {ks:List Tr} {st:St} (s i:Nat) (hk:k≠0) (hf:st.full=false) (hn:needT (.mk k z w b ks)≠0) :
  lay sz (.mk k z w b ks) st s i=layAll sz ks (laySt sz (.mk k z w b ks) st s i).1 (laySt sz (.mk k z w b ks) st s i).2.1 ((laySt sz (.mk k z w b ks) st s i).2.2+needT (.mk k z w b ks) - ks.length):=by
 rw[lay,if_neg (by simp[hk,hf]),if_neg hn]
theorem build_of {t:Tr} {z:Int} {sz:Nat} (h:rightT t=true) (hz:z=(sz:Int)) (h1:1≤sz) (h2:sz≤4096) {st:St} (e:lay sz t ⟨[[0]],false⟩ 0 0=st) :
  buildT t z=if st.full=true then ([],24) else (st.a,0):=by
 subst hz;unfold buildT;rw[if_neg (by rw[h];simp;omega),Int.toNat_natCast,e]
theorem build_one {t:Tr} {sz:Nat} (h:rightT t=true) (h1:1≤sz) (h2:sz≤4096) (hn:1+needs t≤sz) :
  ∃l:List Int,buildT t sz=([l],0)∧l.length=1+needs t:=by
 obtain ⟨l,a1,a2⟩:=lay_one h2 t 32 [0] 0 h (by simp only[List.length_cons,List.length_nil];omega);refine ⟨l,?_,by rw[a2];simp only[List.length_cons,List.length_nil]⟩
 rw[build_of h rfl h1 h2 a1]
 rfl
theorem build_sizes {t:Tr} {sz:Nat} (h:rightT t=true) (h1:1≤sz) (h2:sz≤4096) :
  ((buildT t sz).2=0∧0<(buildT t sz).1.length∨(buildT t sz).2=24∧(buildT t sz).1=[])∧(∀x∈(buildT t sz).1,x.length≤sz)∧(buildT t sz).1.length≤16∧lenS (buildT t sz).1≤4096:=by
 have hr:Room sz ⟨[[0]],false⟩:= .inr ⟨by simpa using h1,by simp,by simp[lenS]⟩
 obtain ⟨g1,g2⟩:=lay_room t ⟨[[0]],false⟩ 0 0 hr (by simp);rw[build_of h rfl h1 h2 rfl]
 by_cases hf:(lay sz t ⟨[[0]],false⟩ 0 0).full=true
 ·rw[if_pos hf]
  simp[lenS]
 ·rw[if_neg hf]
  rcases g1 with g | ⟨b1,b2,b3⟩
  ·exact absurd g hf
  ·exact ⟨.inl ⟨rfl,g2⟩,fun x hx=>b1 _ (List.mem_map.2 ⟨x,hx,rfl⟩),b2,b3⟩
def kidsC (f:List Int→Tr × List Int):Nat→List Int→List Tr × List Int
 | 0,c=>([],c)
 | n+1,c=>((f c).1 :: (kidsC f n (f c).2).1,(kidsC f n (f c).2).2)
def bytesC (k:Nat):List Int:=(List.range (3*(k / 8 % 5)+k % 2)).map (fun i=>(((k+i) % 256:Nat):Int))
def wordsC (k:Nat):List Int:=(List.range (k / 8 % 5)).map (fun i=>(((k*0x123456789abcdef+i) % 2 ^ 64:Nat):Int))
def wordsD (k:Nat):List Int:=(List.range (k / 64 % 4)).map (fun i=>((k*256 ^ i+i:Nat):Int))
def treeC:Nat→List Int→Tr × List Int
 | 0,c=>(Tr.nil,c)
 | _+1,[]=>(Tr.nil,[])
 | d+1,k :: c =>
  if k.toNat % 8=0 then (Tr.nil,c)
  else if k.toNat % 8=1∨k.toNat % 8=2 then (.mk 2 2 [] (bytesC k.toNat) [],c)
  else if k.toNat % 8=3 then (.mk 2 5 (wordsC k.toNat) [] [],c)
  else if k.toNat % 8=7 then (.mk 2 6 [] [] (kidsC (treeC d) (k.toNat / 8 % 5) c).1,(kidsC (treeC d) (k.toNat / 8 % 5) c).2)
  else (.mk 1 0 (wordsD k.toNat) [] (kidsC (treeC d) (k.toNat / 8 % 5) c).1,(kidsC (treeC d) (k.toNat / 8 % 5) c).2)
def FineC (d:Nat) (c:List Int) (p:Tr × List Int):Prop :=
 deepB p.1 d=true∧p.2.length≤c.length∧needs p.1+7*p.2.length≤7*c.length
theorem kidsC_fine {d:Nat} {f:List Int→Tr × List Int} (hf:∀c,FineC d c (f c)):(n:Nat)→(c:List Int) →
  deepAll (kidsC f n c).1 d=true∧(kidsC f n c).2.length≤c.length∧needsAll (kidsC f n c).1+7*(kidsC f n c).2.length≤7*c.length∧(kidsC f n c).1.length=n
 | 0,c=>by
  unfold kidsC deepAll needsAll
  simp
 | n+1,c=>by
  obtain ⟨a1,a2,a3⟩:=hf c;obtain ⟨b1,b2,b3,b4⟩:=kidsC_fine hf n (f c).2;unfold kidsC deepAll needsAll;dsimp only;refine ⟨by rw[a1,b1];rfl,by omega,by omega,by rw[List.length_cons,b4]⟩
theorem nil_fine (d:Nat) (c r:List Int) (h:r.length≤c.length):FineC d c (Tr.nil,r):=by
 refine ⟨?_,h,?_⟩
 ·unfold Tr.nil deepB
  simp
 ·show needs Tr.nil+_≤_
  unfold Tr.nil needs needsAll needT
  simp[Tr.kind]
  omega
theorem need2 (z:Int) (w b:List Int) (ks:List Tr):needT (.mk 2 z w b ks)=w.length+ks.length+(b.length+7) / 8:=rfl
theorem need1 (z:Int) (w b:List Int) (ks:List Tr):needT (.mk 1 z w b ks)=w.length+ks.length:=rfl
theorem treeC_eq (d:Nat) (k:Int) (c:List Int):treeC (d+1) (k :: c)=if k.toNat % 8=0 then (Tr.nil,c)
   else if k.toNat % 8=1∨k.toNat % 8=2 then (.mk 2 2 [] (bytesC k.toNat) [],c)
   else if k.toNat % 8=3 then (.mk 2 5 (wordsC k.toNat) [] [],c)
   else if k.toNat % 8=7 then (.mk 2 6 [] [] (kidsC (treeC d) (k.toNat / 8 % 5) c).1,(kidsC (treeC d) (k.toNat / 8 % 5) c).2)
   else (.mk 1 0 (wordsD k.toNat) [] (kidsC (treeC d) (k.toNat / 8 % 5) c).1,(kidsC (treeC d) (k.toNat / 8 % 5) c).2):=by
 rw[treeC]
theorem leaf_fine {d:Nat} {c r:List Int} {k z:Int} {w b:List Int} (hk:k≠0) (ho:oneB k z w.length b.length 0=true) (hn:needT (.mk k z w b [])≤7) (h:r.length+1≤c.length):FineC (d+1) c (.mk k z w b [],r):=by
 refine ⟨?_,by show r.length≤_;omega,?_⟩
 ·unfold deepB deepAll;rw[if_neg hk]
  simp[ho]
 ·show needs _+7*r.length≤_
  unfold needs needsAll
  omega
theorem treeC_fine:(d:Nat)→(c:List Int)→FineC d c (treeC d c)
 | 0,c=>nil_fine 0 c c (Nat.le_refl _)
 | d+1,[]=>nil_fine (d+1) [] [] (Nat.le_refl _)
 | d+1,k :: c=>by
  have lb:(bytesC k.toNat).length=3*(k.toNat / 8 % 5)+k.toNat % 2:=by simp[bytesC]
  have lw:(wordsC k.toNat).length=k.toNat / 8 % 5:=by simp[wordsC]
  have lx:(wordsD k.toNat).length=k.toNat / 64 % 4:=by simp[wordsD]
  obtain ⟨a1,a2,a3,a4⟩:=kidsC_fine (treeC_fine d) (k.toNat / 8 % 5) c;rw[treeC_eq];generalize kidsC (treeC d) (k.toNat / 8 % 5) c=q at *
  split
  ·exact nil_fine _ _ _ (by simp)
  ·split
   ·refine leaf_fine (by decide) ?_ ?_ (by simp)
    ·unfold oneB;rw[if_pos rfl,lb]
     simp
     omega
    ·rw[need2,lb,List.length_nil,List.length_nil]
     omega
   ·split
    ·refine leaf_fine (by decide) ?_ ?_ (by simp)
     ·unfold oneB;rw[if_pos rfl,lw]
      simp
      omega
     ·rw[need2,lw,List.length_nil,List.length_nil]
      omega
    ·split
     ·refine ⟨?_,?_,?_⟩
      ·unfold deepB oneB;rw[if_neg (by decide),if_pos rfl,a4]
       simp[a1]
       omega
      ·show q.2.length≤_
       rw[List.length_cons]
       omega
      ·show needs _+7*q.2.length≤_
       unfold needs;rw[need2,List.length_cons,List.length_nil,a4]
       omega
     ·refine ⟨?_,?_,?_⟩
      ·unfold deepB oneB;rw[if_neg (by decide),if_neg (by decide),a4,lx]
       simp[a1]
       omega
      ·show q.2.length≤_
       rw[List.length_cons]
       omega
      ·show needs _+7*q.2.length≤_
       unfold needs;rw[need1,List.length_cons,a4,lx]
       omega
mutual
theorem deepB_mono:(t:Tr)→(d e:Nat)→d≤e→deepB t d=true→deepB t e=true
 | .mk k z w b ks,d,e,hd,h=>by
  unfold deepB at h ⊢
  by_cases hk:k=0
  ·rw[if_pos hk] at h ⊢;exact h
  ·rw[if_neg hk] at h ⊢;simp only[Bool.and_eq_true,decide_eq_true_eq] at h ⊢;exact ⟨h.1,by omega,deepAll_mono ks (d - 1) (e - 1) (by omega) h.2.2⟩
theorem deepAll_mono:(r:List Tr)→(d e:Nat)→d≤e→deepAll r d=true→deepAll r e=true
 | [],_,_,_,_=>by
  unfold deepAll
  rfl
 | t :: r,d,e,hd,h=>by
  unfold deepAll at h ⊢;simp only[Bool.and_eq_true] at h ⊢;exact ⟨deepB_mono t d e hd h.1,deepAll_mono r d e hd h.2⟩
end
def setA (a:List (List Int)) (s i:Nat) (w:Int):List (List Int):=a.set s ((a[s]?.getD []).set i w)
def appA (a:List (List Int)) (l:List Int):List (List Int):=a.set (a.length - 1) ((a[a.length - 1]?.getD []) ++ l)
def lastL (a:List (List Int)):Nat:=(a[a.length - 1]?.getD []).length
def fullA (sz:Nat) (a:List (List Int)):Bool:=decide (sz<lastL a∨16<a.length∨4096<lenS a)
def growA (sz n:Nat) (a:List (List Int)):List (List Int):=if lastL a+n≤sz then a else a ++ [[]]
def pointA (sz:Nat) (t:Tr) (a:List (List Int)) (s i:Nat):List (List Int) :=
 if s=a.length - 1∧lastL a+needT t≤sz then setA a s i (nearW t ((lastL a:Int) - (i+1)))
 else appA (setA (growA sz (needT t+1) a) s i (farW ((growA sz (needT t+1) a).length - 1) (lastL (growA sz (needT t+1) a)))) [nearW t 0]
def laidA (sz:Nat) (t:Tr) (a:List (List Int)) (s i:Nat):List (List Int):=appA (pointA sz t a s i) (contentT t)
theorem setA_len (a:List (List Int)) (s i:Nat) (w:Int):(setA a s i w).length=a.length:=by simp[setA]
theorem setA_lens (a:List (List Int)) (s i:Nat) (w:Int):(setA a s i w).map List.length=a.map List.length:=setW_len ⟨a,false⟩ s i w
theorem setA_lenS (a:List (List Int)) (s i:Nat) (w:Int):lenS (setA a s i w)=lenS a:=by unfold lenS;rw[setA_lens]
theorem len_at (a:List (List Int)) (j:Nat):(a[j]?.getD []).length=(a.map List.length)[j]?.getD 0:=by
 rw[List.getElem?_map];cases a[j]? <;> rfl
theorem setA_at (a:List (List Int)) (s i j:Nat) (w:Int):((setA a s i w)[j]?.getD []).length=(a[j]?.getD []).length:=by rw[len_at,len_at,setA_lens]
theorem setA_lastL (a:List (List Int)) (s i:Nat) (w:Int):lastL (setA a s i w)=lastL a:=by
 unfold lastL;rw[setA_at,setA_len]
theorem appA_len (a:List (List Int)) (l:List Int):(appA a l).length=a.length:=by simp[appA]
theorem appA_last {a:List (List Int)} (h:0<a.length) (l:List Int):(appA a l)[a.length - 1]?.getD []=a[a.length - 1]?.getD [] ++ l:=by
 unfold appA;rw[List.getElem?_set_self (by omega)]
 rfl
theorem appA_lastL {a:List (List Int)} (h:0<a.length) (l:List Int):lastL (appA a l)=lastL a+l.length:=by
 unfold lastL;rw[appA_len,appA_last h,List.length_append]
theorem appA_ne {a:List (List Int)} {l:List Int} {j:Nat} (h:j≠a.length - 1):(appA a l)[j]? = a[j]? := by
 unfold appA;rw[List.getElem?_set_ne (fun e=>h e.symm)]
theorem snoc_of {a:List (List Int)} (h:0<a.length):∃p z,a=p ++ [z]:=by
 have hne:a≠[]:=by intro e;subst e;simp at h
 exact ⟨a.dropLast,a.getLast hne,(List.dropLast_concat_getLast hne).symm⟩
theorem appA_snoc (p:List (List Int)) (z l:List Int):appA (p ++ [z]) l=p ++ [z ++ l]:=by
 unfold appA
 simp
theorem appA_lenS {a:List (List Int)} (h:0<a.length) (l:List Int):lenS (appA a l)=lenS a+l.length:=by
 obtain ⟨p,z,rfl⟩:=snoc_of h;rw[appA_snoc]
 simp[lenS]
 omega
theorem moreA_last {a:List (List Int)} (h:0<a.length) (l:List Int):moreA a (a.length - 1) l=appA a l:=by
 unfold moreA appA;rw[if_neg (by omega)]
theorem moreA_new (a:List (List Int)) (l:List Int):moreA a a.length l=appA (a ++ [[]]) l:=by
 rw[appA_snoc];unfold moreA
 simp
theorem setA_new {a:List (List Int)} {s:Nat} (h:s<a.length) (i:Nat) (w:Int):setA (a ++ [[]]) s i w=setA a s i w ++ [[]]:=by
 unfold setA;rw[List.getElem?_append_left h,List.set_append_left _ _ h]
theorem lastL_new (a:List (List Int)):lastL (a ++ [[]])=0:=by simp[lastL]
theorem growA_len (sz n:Nat) (a:List (List Int)):a.length≤(growA sz n a).length:=by
 unfold growA
 split <;> simp
theorem pointA_len {sz:Nat} {t:Tr} {a:List (List Int)} {s i:Nat}:a.length≤(pointA sz t a s i).length:=by
 unfold pointA
 split
 ·rw[setA_len];exact Nat.le_refl _
 ·rw[appA_len,setA_len];exact growA_len _ _ _
theorem laySt_go {sz:Nat} {t:Tr} {a:List (List Int)} {s i:Nat} (h:0<a.length) (hs:s<a.length) :
  laySt sz t ⟨a,false⟩ s i=(⟨laidA sz t a s i,fullA sz (laidA sz t a s i)⟩,(laidA sz t a s i).length - 1,lastL (pointA sz t a s i)):=by
 unfold laySt laidA pointA;dsimp only;have e0:(a[a.length - 1]?.getD []).length=lastL a:=rfl;rw[e0]
 by_cases hc:s=a.length - 1∧lastL a+needT t≤sz
 ·rw[if_pos hc,if_pos hc];have e1:(lastL a:Int) - i - 1=lastL a - (i+1):=by omega
  rw[e1];have e2:(setW ⟨a,false⟩ s i (nearW t (lastL a - (i+1))))=⟨setA a s i (nearW t (lastL a - (i+1))),false⟩:=rfl;rw[e2,setA_lastL,appA_len];unfold moreW;dsimp only;have e3:moreA (setA a s i (nearW t (lastL a - (i+1)))) (a.length - 1) (contentT t)=appA (setA a s i (nearW t (lastL a - (i+1)))) (contentT t):=by
   rw[←moreA_last (by rw[setA_len];exact h),setA_len]
  rw[e3,setA_len];refine Prod.ext ?_ rfl;simp only
  congr 1
  unfold fullA lastL;rw[appA_len,setA_len]
  simp[Bool.or_assoc,Bool.decide_or]
 ·rw[if_neg hc,if_neg hc];have hcc:(s=a.length - 1∨sz<lastL a+needT t+1)↔¬(lastL a+(needT t+1)≤sz):=by omega
  have fin:∀(B:List (List Int)) (seg:Nat),0<B.length→seg=B.length - 1→∀f,(f=true→fullA sz B=true)→∀l,moreW sz ⟨B,f⟩ seg l=⟨appA B l,fullA sz (appA B l)⟩:=by
   intro B seg hB hseg f hf l;subst hseg;unfold moreW;dsimp only;rw[moreA_last hB]
   congr 1
   have hlen:((appA B l)[B.length - 1]?.getD []).length=lastL (appA B l):=by unfold lastL;rw[appA_len]
   rw[hlen];cases f with
   | false =>
    unfold fullA
    simp[Bool.or_assoc,Bool.decide_or]
   | true =>
    have h1:=of_decide_eq_true (hf rfl);unfold fullA;rw[appA_lastL hB,appA_lenS hB,appA_len]
    simp
    omega
  unfold growA
  by_cases hg:lastL a+(needT t+1)≤sz
  ·have hn:¬(s=a.length - 1∨sz<lastL a+needT t+1):=fun e=>hcc.1 e hg
   simp only[if_neg hn,if_pos hg];have e2:(setW ⟨a,false⟩ s i (farW (a.length - 1) (lastL a)))=⟨setA a s i (farW (a.length - 1) (lastL a)),false⟩:=rfl;rw[e2,fin _ _ (by rw[setA_len];exact h) (by rw[setA_len]) false (by simp),fin _ _ (by rw[appA_len,setA_len];exact h) (by rw[appA_len,setA_len]) _ id];refine Prod.ext rfl (Prod.ext ?_ ?_)
   ·show a.length - 1=_
    rw[appA_len,appA_len,setA_len]
   ·show lastL a+1=_
    rw[appA_lastL (by rw[setA_len];exact h),setA_lastL]
    rfl
  ·have hn:s=a.length - 1∨sz<lastL a+needT t+1:=hcc.2 hg;simp only[if_pos hn,if_neg hg];have el:a.length - 1+1=a.length:=by omega
   have e4:(a ++ [[]]:List (List Int)).length - 1=a.length:=by simp
   rw[el,e4,lastL_new,setA_new hs];have e2:(setW ⟨a,false⟩ s i (farW a.length 0))=⟨setA a s i (farW a.length 0),false⟩:=rfl;rw[e2];have e5:moreW sz ⟨setA a s i (farW a.length 0),false⟩ a.length [nearW t 0]=⟨appA (setA a s i (farW a.length 0) ++ [[]]) [nearW t 0],fullA sz (appA (setA a s i (farW a.length 0) ++ [[]]) [nearW t 0])⟩:=by
    have h0:0<(setA a s i (farW a.length 0) ++ [[]]).length:=by simp
    have h1:=fin (setA a s i (farW a.length 0) ++ [[]]) a.length h0 (by simp[setA_len]) false (by simp) [nearW t 0];rw[←h1];unfold moreW;have e6:moreA (setA a s i (farW a.length 0)) a.length [nearW t 0]=moreA (setA a s i (farW a.length 0) ++ [[]]) a.length [nearW t 0]:=by
     have:=moreA_new (setA a s i (farW a.length 0)) [nearW t 0];rw[setA_len] at this;rw[this,←moreA_last h0]
     congr 1
     simp[setA_len]
    dsimp only;rw[e6]
   rw[e5,fin _ _ (by rw[appA_len];simp) (by rw[appA_len];simp[setA_len]) _ id];refine Prod.ext rfl (Prod.ext ?_ ?_)
   ·show a.length=_
    rw[appA_len,appA_len]
    simp[setA_len]
   ·show 0+1=_
    rw[appA_lastL (by simp),lastL_new]
    rfl
theorem lay_full {sz:Nat} {t:Tr} {st:St} (s i:Nat) (h:st.full=true):lay sz t st s i=st:=by
 obtain ⟨k,z,w,b,ks⟩:=t;unfold lay;rw[if_pos (.inr h)]
theorem layAll_full {sz:Nat}:(l:List Tr)→{st:St}→(s p:Nat)→st.full=true→layAll sz l st s p=st
 | [],st,_,_,_=>by unfold layAll;rfl
 | t :: r,st,s,p,h=>by
  unfold layAll;rw[lay_full s p h,layAll_full r s (p+1) h]
theorem lay_step {sz:Nat} {k z:Int} {w b:List Int} {ks:List Tr} {a:List (List Int)} {s i:Nat} (hk:k≠0) (hn:needT (.mk k z w b ks)≠0) (hc:(contentT (.mk k z w b ks)).length=needT (.mk k z w b ks)) (hs:s<a.length) :
  lay sz (.mk k z w b ks) ⟨a,false⟩ s i=layAll sz ks ⟨laidA sz (.mk k z w b ks) a s i,fullA sz (laidA sz (.mk k z w b ks) a s i)⟩ ((laidA sz (.mk k z w b ks) a s i).length - 1) (lastL (laidA sz (.mk k z w b ks) a s i) - ks.length):=by
 rw[lay_some s i hk rfl hn,laySt_go (by omega) hs];dsimp only;have h0:0<(pointA sz (.mk k z w b ks) a s i).length:=Nat.lt_of_lt_of_le (by omega) pointA_len;have:lastL (laidA sz (.mk k z w b ks) a s i)=lastL (pointA sz (.mk k z w b ks) a s i)+needT (.mk k z w b ks):=by
  unfold laidA;rw[appA_lastL h0,hc]
 rw[this]
def Has (a:List (List Int)) (s i:Nat) (x:Int):Prop:=(a[s]?.getD [])[i]? = some x
theorem Has.lt {a:List (List Int)} {s i:Nat} {x:Int} (h:Has a s i x):s<a.length∧i<(a[s]?.getD []).length:=by
 unfold Has at h;have h2:=(List.getElem?_eq_some_iff.1 h).1;refine ⟨?_,h2⟩
 by_cases hs:s<a.length
 ·exact hs
 ·rw[List.getElem?_eq_none (by omega)] at h2
  simp at h2
theorem Has.set {a:List (List Int)} {s i s' i':Nat} {x:Int} (h:Has a s' i' x) (hne:¬(s'=s∧i'=i)) (w:Int):Has (setA a s i w) s' i' x:=by
 obtain ⟨h1,h2⟩:=h.lt;unfold Has setA at *
 by_cases e:s'=s
 ·subst e;rw[List.getElem?_set_self h1,Option.getD_some,List.getElem?_set_ne (fun e2=>hne ⟨rfl,e2.symm⟩)]
  exact h
 ·rw[List.getElem?_set_ne (fun e2=>e e2.symm)]
  exact h
theorem Has.app {a:List (List Int)} {s i:Nat} {x:Int} (h:Has a s i x) (l:List Int):Has (appA a l) s i x:=by
 obtain ⟨h1,h2⟩:=h.lt
 by_cases e:s=a.length - 1
 ·subst e;unfold Has;rw[appA_last (by omega),List.getElem?_append_left h2];exact h
 ·unfold Has;rw[appA_ne e];exact h
theorem Has.grow {a:List (List Int)} {s i:Nat} {x:Int} (h:Has a s i x) (sz n:Nat):Has (growA sz n a) s i x:=by
 unfold growA
 split
 ·exact h
 ·unfold Has;rw[List.getElem?_append_left h.lt.1];exact h
theorem Has.point {sz:Nat} {t:Tr} {a:List (List Int)} {s i s' i':Nat} {x:Int} (h:Has a s' i' x) (hne:¬(s'=s∧i'=i)):Has (pointA sz t a s i) s' i' x:=by
 unfold pointA
 split
 ·exact h.set hne _
 ·exact (((h.grow _ _).set hne _).app _)
theorem Has.laid {sz:Nat} {t:Tr} {a:List (List Int)} {s i s' i':Nat} {x:Int} (h:Has a s' i' x) (hne:¬(s'=s∧i'=i)):Has (laidA sz t a s i) s' i' x:=(h.point hne).app _
theorem Has.ahead {sz:Nat} {t:Tr} {a:List (List Int)} {s i s' i':Nat} {x:Int} (h:Has a s' i' x):s'=(laidA sz t a s i).length - 1→i'<lastL (pointA sz t a s i):=by
 intro e;unfold laidA at e;rw[appA_len] at e;obtain ⟨h1,h2⟩:=h.lt;have hp:((pointA sz t a s i)[s']?.getD []).length=lastL (pointA sz t a s i):=by unfold lastL;rw[e]
 rw[←hp];refine Nat.lt_of_lt_of_le h2 ?_
 unfold pointA
 split
 ·rw[setA_at];exact Nat.le_refl _
 ·have hg:(a[s']?.getD []).length≤((setA (growA sz (needT t+1) a) s i (farW ((growA sz (needT t+1) a).length - 1) (lastL (growA sz (needT t+1) a))))[s']?.getD []).length:=by
   rw[setA_at];unfold growA
   split
   ·exact Nat.le_refl _
   ·rw[List.getElem?_append_left h1];exact Nat.le_refl _
  refine Nat.le_trans hg ?_
  generalize setA (growA sz (needT t+1) a) s i (farW ((growA sz (needT t+1) a).length - 1) (lastL (growA sz (needT t+1) a)))=B
  by_cases e2:s'=B.length - 1
  ·by_cases hB:0<B.length
   ·rw[e2,appA_last hB,List.length_append]
    omega
   ·have:B=[]:=List.eq_nil_of_length_eq_zero (by omega);subst this
    simp
  ·rw[appA_ne e2];exact Nat.le_refl _
mutual
theorem lay_has {sz:Nat}:(t:Tr)→(left:Nat)→deepB t left=true→(st:St)→(s i s' i':Nat)→(x:Int)→s<st.a.length→Has st.a s' i' x→¬(s'=s∧i'=i)→Has (lay sz t st s i).a s' i' x
 | .mk k z w b ks,left,hd,st,s,i,s',i',x,hs,h,hne=>by
  obtain ⟨a,f⟩:=st;cases f with
  | true=>rw[lay_full s i rfl];exact h
  | false =>
   by_cases hk:k=0
   ·unfold lay;rw[if_pos (.inl hk)];exact h
   ·obtain ⟨hk2,hc,hks⟩:=need_one hd hk
    by_cases hn:needT (.mk k z w b ks)=0
    ·rw[lay_noth s i hk rfl hn];exact h.set hne _
    ·rw[lay_step hk hn hc hs];have h0:0<(pointA sz (.mk k z w b ks) a s i).length:=Nat.lt_of_lt_of_le (by exact Nat.lt_of_le_of_lt (Nat.zero_le _) hs) pointA_len;have hl:lastL (laidA sz (.mk k z w b ks) a s i)=lastL (pointA sz (.mk k z w b ks) a s i)+needT (.mk k z w b ks):=by
      unfold laidA;rw[appA_lastL h0,hc]
     have hln:0<(laidA sz (.mk k z w b ks) a s i).length:=by unfold laidA;rw[appA_len];exact h0
     have hlt:(laidA sz (.mk k z w b ks) a s i).length - 1<(laidA sz (.mk k z w b ks) a s i).length:=by omega
     refine layAll_has ks (left - 1) (deepAll_of hd hk) ⟨laidA sz (.mk k z w b ks) a s i,fullA sz (laidA sz (.mk k z w b ks) a s i)⟩ ((laidA sz (.mk k z w b ks) a s i).length - 1) (lastL (laidA sz (.mk k z w b ks) a s i) - ks.length) s' i' x hlt (h.laid hne) (fun j hj e=> ?_)
     have h9:=Has.ahead (a:=a) (sz:=sz) (t:= .mk k z w b ks) (s:=s) (i:=i) h e.1;have h8:=e.2
     omega
theorem layAll_has {sz:Nat}:(l:List Tr)→(left:Nat)→deepAll l left=true→(st:St)→(s p s' i':Nat)→(x:Int)→s<st.a.length→Has st.a s' i' x→(∀j,j<l.length→¬(s'=s∧i'=p+j))→Has (layAll sz l st s p).a s' i' x
 | [],_,_,st,s,p,s',i',x,_,h,_=>by unfold layAll;exact h
 | t :: r,left,hd,st,s,p,s',i',x,hs,h,hne=>by
  unfold deepAll at hd;simp only[Bool.and_eq_true] at hd;unfold layAll;refine layAll_has r left hd.2 _ s (p+1) s' i' x ?_ (lay_has t left hd.1 st s p s' i' x hs h (by have:=hne 0 (by simp);simpa using this)) (fun j hj e=>hne (j+1) (by simpa using hj) ⟨e.1,by omega⟩)
  exact Nat.lt_of_lt_of_le hs (lay_more t st s p hs)
theorem lay_more {sz:Nat}:(t:Tr)→(st:St)→(s i:Nat)→s<st.a.length→st.a.length≤(lay sz t st s i).a.length
 | .mk k z w b ks,st,s,i,hs=>by
  obtain ⟨a,f⟩:=st;cases f with
  | true=>rw[lay_full s i rfl];exact Nat.le_refl _
  | false =>
   by_cases hk:k=0
   ·unfold lay;rw[if_pos (.inl hk)];exact Nat.le_refl _
   ·by_cases hn:needT (.mk k z w b ks)=0
    ·rw[lay_noth s i hk rfl hn,setW_length];exact Nat.le_refl _
    ·rw[lay_some s i hk rfl hn,laySt_go (a:=a) (Nat.lt_of_le_of_lt (Nat.zero_le _) hs) hs];dsimp only;have h1:a.length≤(laidA sz (.mk k z w b ks) a s i).length:=by unfold laidA;rw[appA_len];exact pointA_len
     dsimp only at hs;have hlt:(laidA sz (.mk k z w b ks) a s i).length - 1<(laidA sz (.mk k z w b ks) a s i).length:=by omega
     exact Nat.le_trans h1 (layAll_more ks ⟨laidA sz (.mk k z w b ks) a s i,fullA sz (laidA sz (.mk k z w b ks) a s i)⟩ _ _ hlt)
theorem layAll_more {sz:Nat}:(l:List Tr)→(st:St)→(s p:Nat)→s<st.a.length→st.a.length≤(layAll sz l st s p).a.length
 | [],st,s,p,_=>by unfold layAll;exact Nat.le_refl _
 | t :: r,st,s,p,hs=>by
  unfold layAll;have h1:=lay_more t st s p (sz:=sz) hs;exact Nat.le_trans h1 (layAll_more r _ s (p+1) (by omega))
end
theorem kids_zero {sz:Nat} {k z:Int} {w b:List Int} {ks:List Tr} {a:List (List Int)} {s i:Nat} (hs:s<a.length) {j:Nat} (hj:j<ks.length) :
  Has (laidA sz (.mk k z w b ks) a s i) ((laidA sz (.mk k z w b ks) a s i).length - 1) (lastL (laidA sz (.mk k z w b ks) a s i) - ks.length+j) 0:=by
 have h0:0<(pointA sz (.mk k z w b ks) a s i).length:=Nat.lt_of_lt_of_le (by omega) pointA_len;obtain ⟨X,hX⟩:∃X,contentT (.mk k z w b ks)=X ++ List.replicate ks.length 0:=⟨w ++ wordsB b,rfl⟩;unfold laidA;rw[appA_len,appA_lastL h0];unfold Has;rw[appA_last h0,hX];have e1:((pointA sz (.mk k z w b ks) a s i)[(pointA sz (.mk k z w b ks) a s i).length - 1]?.getD []).length=lastL (pointA sz (.mk k z w b ks) a s i):=rfl;have e2:(X ++ List.replicate ks.length (0:Int)).length=X.length+ks.length:=by simp
 rw[List.getElem?_append_right (by rw[e1,e2];omega),e1,e2,List.getElem?_append_right (by omega),List.getElem?_replicate,if_pos (by omega)]
theorem layAll_append {sz:Nat}:(l r:List Tr)→(st:St)→(s p:Nat)→layAll sz (l ++ r) st s p=layAll sz r (layAll sz l st s p) s (p+l.length)
 | [],r,st,s,p=>by
  rw[List.nil_append,layAll]
  rfl
 | t :: l,r,st,s,p=>by
  rw[List.cons_append,layAll,layAll,layAll_append l r]
  congr 1
  rw[List.length_cons]
  omega
theorem layAll_next {sz:Nat} {ks:List Tr} {q:Nat} (h:q<ks.length) (st:St) (s p:Nat):layAll sz (ks.take (q+1)) st s p=lay sz (ks[q]?.getD Tr.nil) (layAll sz (ks.take q) st s p) s (p+q):=by
 rw[List.take_add_one,List.getElem?_eq_getElem h,Option.toList_some,layAll_append,layAll,layAll,List.length_take,Nat.min_eq_left (by omega)]
 rfl
theorem layAll_over {sz:Nat} {ks:List Tr} {q:Nat} {st:St} {s p:Nat} (h:(layAll sz (ks.take q) st s p).full=true):(layAll sz ks st s p).full=true:=by
 have:ks=ks.take q ++ ks.drop q:=(List.take_append_drop q ks).symm;rw[this,layAll_append,layAll_full _ _ _ h];exact h
theorem deepAll_take {left:Nat}:(l:List Tr)→(q:Nat)→deepAll l left=true→deepAll (l.take q) left=true
 | [],_,_=>by simp[deepAll]
 | t :: r,0,_=>by simp[deepAll]
 | t :: r,q+1,h=>by
  rw[List.take_succ_cons];unfold deepAll at h ⊢;simp only[Bool.and_eq_true] at h ⊢;exact ⟨h.1,deepAll_take r q h.2⟩
theorem deepAll_get {left:Nat}:(l:List Tr)→(q:Nat)→q<l.length→deepAll l left=true→deepB (l[q]?.getD Tr.nil) left=true
 | [],q,h,_=>by simp at h
 | t :: r,0,_,h=>by
  unfold deepAll at h;simp only[Bool.and_eq_true] at h;exact h.1
 | t :: r,q+1,hq,h=>by
  unfold deepAll at h;simp only[Bool.and_eq_true] at h;rw[List.getElem?_cons_succ];exact deepAll_get r q (by simpa using hq) h.2
theorem setA_has {a:List (List Int)} {s i:Nat} {x:Int} (h:Has a s i x):setA a s i x=a:=by
 obtain ⟨h1,h2⟩:=h.lt;unfold Has at h;unfold setA;rw[List.getElem?_eq_getElem h1,Option.getD_some] at h ⊢;obtain ⟨h3,h4⟩:=List.getElem?_eq_some_iff.1 h;have e1:a[s].set i x=a[s]:=by
  rw[←h4];exact List.set_getElem_self h3
 rw[e1];exact List.set_getElem_self h1
def RoomA (sz:Nat) (a:List (List Int)):Prop:=(∀n∈a.map List.length,n≤sz)∧a.length≤16∧lenS a≤4096
theorem RoomA.at_ {sz:Nat} {a:List (List Int)} (h:RoomA sz a) (j:Nat):(a[j]?.getD []).length≤sz:=by
 by_cases hj:j<a.length
 ·rw[List.getElem?_eq_getElem hj];exact h.1 _ (List.mem_map.2 ⟨_,List.getElem_mem hj,rfl⟩)
 ·rw[List.getElem?_eq_none (by omega)]
  simp
def Pos (a:List (List Int)):Prop:=0<(a[0]?.getD []).length
theorem Pos.len {a:List (List Int)} (h:Pos a):0<a.length:=by
 rcases Nat.eq_zero_or_pos a.length with e | e
 ·unfold Pos at h;rw[List.getElem?_eq_none (by omega)] at h
  simp at h
 ·exact e
theorem Pos.set {a:List (List Int)} (h:Pos a) (s i:Nat) (w:Int):Pos (setA a s i w):=by
 unfold Pos;rw[setA_at];exact h
theorem Pos.app {a:List (List Int)} (h:Pos a) (l:List Int):Pos (appA a l):=by
 unfold Pos
 by_cases e:0=a.length - 1
 ·have:=appA_last h.len l;rw[←e] at this;rw[this,List.length_append];have:0<(a[0]?.getD []).length:=h
  omega
 ·rw[appA_ne e];exact h
theorem Pos.grow {a:List (List Int)} (h:Pos a) (sz n:Nat):Pos (growA sz n a):=by
 unfold growA
 split
 ·exact h
 ·unfold Pos;rw[List.getElem?_append_left h.len];exact h
theorem Pos.point {a:List (List Int)} (h:Pos a) (sz:Nat) (t:Tr) (s i:Nat):Pos (pointA sz t a s i):=by
 unfold pointA
 split
 ·exact h.set _ _ _
 ·exact ((h.grow _ _).set _ _ _).app _
theorem Pos.laid {a:List (List Int)} (h:Pos a) (sz:Nat) (t:Tr) (s i:Nat):Pos (laidA sz t a s i):=(h.point _ _ _ _).app _
mutual
theorem lay_pos {sz:Nat}:(t:Tr)→(st:St)→(s i:Nat)→s<st.a.length→Pos st.a→Pos (lay sz t st s i).a
 | .mk k z w b ks,st,s,i,hs,h=>by
  obtain ⟨a,f⟩:=st;cases f with
  | true=>rw[lay_full s i rfl];exact h
  | false =>
   by_cases hk:k=0
   ·unfold lay;rw[if_pos (.inl hk)];exact h
   ·by_cases hn:needT (.mk k z w b ks)=0
    ·rw[lay_noth s i hk rfl hn];exact h.set _ _ _
    ·rw[lay_some s i hk rfl hn,laySt_go (a:=a) (Nat.lt_of_le_of_lt (Nat.zero_le _) hs) hs];have h1:a.length≤(laidA sz (.mk k z w b ks) a s i).length:=by unfold laidA;rw[appA_len];exact pointA_len
     dsimp only at hs;have hlt:(laidA sz (.mk k z w b ks) a s i).length - 1<(laidA sz (.mk k z w b ks) a s i).length:=by omega
     exact layAll_pos ks ⟨laidA sz (.mk k z w b ks) a s i,fullA sz (laidA sz (.mk k z w b ks) a s i)⟩ _ _ hlt (Pos.laid h _ _ _ _)
theorem layAll_pos {sz:Nat}:(l:List Tr)→(st:St)→(s p:Nat)→s<st.a.length→Pos st.a→Pos (layAll sz l st s p).a
 | [],st,s,p,_,h=>by unfold layAll;exact h
 | t :: r,st,s,p,hs,h=>by
  unfold layAll;have h1:=lay_more t st s p (sz:=sz) hs;exact layAll_pos r _ s (p+1) (by omega) (lay_pos t st s p hs h)
end
theorem laid_bd {sz:Nat} {t:Tr} {a:List (List Int)} {s i:Nat} (h:RoomA sz a) (hp:Pos a) (hsz:sz≤4096) (hc:(contentT t).length≤3000000):(laidA sz t a s i).length≤17∧lastL (laidA sz t a s i)≤3010000∧0<(laidA sz t a s i).length:=by
 have hl:lastL a≤sz:=h.at_ _;have hlen:=h.2.1;have hpp:=Pos.len (hp.point sz t s i);have hg:(growA sz (needT t+1) a).length≤17∧lastL (growA sz (needT t+1) a)≤sz:=by
  unfold growA
  split
  ·omega
  ·rw[lastL_new,List.length_append]
   simp
   omega
 have hpt:(pointA sz t a s i).length≤17∧lastL (pointA sz t a s i)≤sz+1:=by
  unfold pointA
  split
  ·rw[setA_len,setA_lastL]
   omega
  ·have hgl:=growA_len sz (needT t+1) a;have:=hp.len;rw[appA_len,setA_len,appA_lastL (by rw[setA_len];omega),setA_lastL]
   simp
   omega
 unfold laidA;rw[appA_len,appA_lastL hpp]
 omega
theorem RoomA.all {sz:Nat} {ks:List Tr} {a:List (List Int)} {s p:Nat} (h:RoomA sz a) (hp:0<a.length) (hf:(layAll sz ks ⟨a,false⟩ s p).full=false):RoomA sz (layAll sz ks ⟨a,false⟩ s p).a:=by
 rcases (layAll_room ks ⟨a,false⟩ s p (.inr h) hp).1 with e | e
 ·rw[hf] at e;cases e
 ·exact e
theorem RoomA.lay {sz:Nat} {t:Tr} {a:List (List Int)} {s i:Nat} (h:RoomA sz a) (hp:0<a.length) (hf:(lay sz t ⟨a,false⟩ s i).full=false):RoomA sz (lay sz t ⟨a,false⟩ s i).a:=by
 rcases (lay_room t ⟨a,false⟩ s i (.inr h) hp).1 with e | e
 ·rw[hf] at e;cases e
 ·exact e
theorem RoomA.laid {sz:Nat} {k z:Int} {w b:List Int} {ks:List Tr} {a:List (List Int)} {s i:Nat} (h:RoomA sz a) (hp:0<a.length) (hs:s<a.length) (hf:fullA sz (laidA sz (.mk k z w b ks) a s i)=false):RoomA sz (laidA sz (.mk k z w b ks) a s i):=by
 have:=(laySt_room (sz:=sz) (t:= .mk k z w b ks) (st:=⟨a,false⟩) (s:=s) (i:=i) (.inr h) hp).1;rw[laySt_go hp hs] at this
 rcases this with e | e
 ·dsimp only at e;rw[hf] at e;cases e
 ·exact e
end Go.Proofs.YtmmlfnblodfjbaaGreatDoor
