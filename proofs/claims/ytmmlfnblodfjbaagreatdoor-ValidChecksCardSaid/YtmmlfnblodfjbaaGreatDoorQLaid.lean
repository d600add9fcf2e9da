/- Layer 6: the document's own functions (bits, low, Decode, Encode, Words). -/
import Derived.Test.YtmmlfnblodfjbaaGreatDoorQPlain
import Derived.Test.YtmmlfnblodfjbaaGreatDoorQWord
import Derived.Deep.QuietTactic
import Derived.BigQuiet
import Derived.Laws.StructEq
import Derived.IntWalk
import Derived.Below
import Derived.Deep.OwnRows
import Derived.Laws.BitsAllLaws
import Derived.WalkSmall
import Derived.Deep.RegionHeld3
import Derived.Deep.DeepCutAuto
import Derived.Deep.CutBlock
set_option maxRecDepth 100000
namespace Go.Proofs.YtmmlfnblodfjbaaGreatDoor
open Go.RowKit Go.Deep
theorem half_step (n:Int) (t:Nat):n / 2 ^ (t+1)=n / 2 ^ t / 2:=by
 have hp:=pow_pos t;rw[Int.pow_succ,Int.ediv_ediv,if_neg (by omega)];omega
set_option maxHeartbeats 400000 in
theorem bits_any (n:Int) (f k:Nat) (w:World) (h0:0≤n) (h1:n≤18446744073709551615) (hf:f≤63) (hk:k≤62) :
  Calls Tryz.prog 81 #[.int .u64 n,.int .i64 f,.int .i64 k] w fun e w'=>e= .returned (.int .u64 (n / 2 ^ f % 2 ^ k))∧w=w':=by
 go_enter Tryz.func81,Tryz.ntmps81
 go_wp2
 go_loop [0,7] (fun m i=>∃t:Nat,t≤f∧i= .int .i64 t∧m= .int .u64 (n / 2 ^ t)) (fun _ i=>f - (intOf i).toNat)
 case atStart=>exact ⟨0,by omega,rfl,by simp⟩
 case round =>
  obtain ⟨t,t1,rfl,rfl⟩:=hrel;have HS:=LH (half_step n t);have q0:0≤n / 2 ^ t:=Int.ediv_nonneg h0 (by have:=pow_pos t;omega);have q1:n / 2 ^ t≤18446744073709551615:=Int.le_trans (Int.ediv_le_self _ h0) h1;obtain ⟨m,hm⟩:∃m,m=n / 2 ^ t:=⟨_,rfl⟩;have HM:=LH hm;rw[←hm] at HS q0 q1 ⊢;clear hm
  by_cases hlt:t<f
  ·have hw:IntKind.u64.wrap (m / 2)=m / 2:=by rw[IntKind.wrap_u64];omega
   go_wp2
   go_round
   case rel=>exact ⟨t+1,by omega,by go_num,by rw[HS.out]⟩
   case measure=>simp[intOf];omega
  ·obtain rfl:t=f:=by omega
   clear HS
   go_wp2
   go_loop [8,9] (fun p i=>∃u:Nat,u≤k∧i= .int .i64 u∧p= .int .u64 (2 ^ u)) (fun _ i=>k - (intOf i).toNat)
   case atStart=>exact ⟨0,by omega,rfl,by simp⟩
   case round =>
    obtain ⟨u,u1,rfl,rfl⟩:=hrel;have HS:=LH (pow_succ' u);have p0:=pow_pos u;have p2:=pow_le62 (k:=u) (by omega)
    by_cases hlu:u<k
    ·have p1:=pow_le61 (k:=u) (by omega);generalize (2:Int) ^ u=p at *
     go_wp2
     go_round
     case rel=>exact ⟨u+1,by omega,by go_num,by rw[HS.out]⟩
     case measure=>simp[intOf];omega
    ·obtain rfl:u=k:=by omega
     obtain ⟨p,hp⟩:∃p,p=(2:Int) ^ u:=⟨_,rfl⟩;have HP:=LH hp;rw[←hp] at HS p0 p2 ⊢;clear hp;have hp:p≠0:=by omega
     go_wp2
     go_ret;exact ⟨by rw[←HM.out,←HP.out];simp,rfl⟩
theorem bits_c (n F K A B:Int) (w:World) (h0:0≤n) (h1:n≤18446744073709551615) (h:∃f k:Nat,f≤63∧k≤62∧F=f∧K=k∧(2:Int) ^ f=A∧(2:Int) ^ k=B) :
  Calls Tryz.prog 81 #[.int .u64 n,.int .i64 F,.int .i64 K] w fun e w'=>e= .returned (.int .u64 (n / A % B))∧w=w':=by
 obtain ⟨f,k,hf,hk,rfl,rfl,rfl,rfl⟩:=h;exact bits_any n f k w h0 h1 hf hk
def cellsP (p:Pt):Array Value:=#[.int .i64 p.kind,.int .i64 p.off,.int .i64 p.data,.int .i64 p.ptrs,.int .i64 p.size,.int .i64 p.count,.int .i64 p.seg,.bool p.dbl]
theorem run_eql_P (w:World) (p q:Pt):(binOp .eql 70 (.agg (cellsP p)) (.agg (cellsP q))).run Tryz.prog w= .ok (.bool (eqP p q)) w:=by
 rw[run_eql_struct,show (10000:Nat)=9999+1 from rfl,run_equalIn_struct _ _ _ _ _ (by kernel_rfl) (by kernel_rfl)]
 have u3:=Tryz.underlying3;have u4:=Tryz.underlying4;have e3:∀(a b:Int) (w:World),(Op.equalIn 9999 3 (.int .i64 a) (.int .i64 b)).run Tryz.prog w= .ok (a == b) w:=fun a b w=>run_equalIn_int w 9998 _ _ _ a b u3
 have e4:∀(a b:Bool) (w:World),(Op.equalIn 9999 4 (.bool a) (.bool b)).run Tryz.prog w= .ok (a == b) w:=fun a b w=>run_equalIn_bool' w 9998 _ a b u4
 simp[Program.fieldsOf,Tryz.underlying70,Op.eqFields,part,isAgg,run_underlying u3,run_underlying u4,cellsP,e3,e4]
 unfold eqP;obtain ⟨a,b,c,d,e,f,g,h⟩:=p;obtain ⟨a',b',c',d',e',f',g',h'⟩:=q
 by_cases k1:a=a' <;> by_cases k2:b=b' <;> by_cases k3:c=c' <;> by_cases k4:d=d' <;> simp[k1,k2,k3,k4]
 by_cases k5:e=e' <;> by_cases k6:f=f' <;> by_cases k7:g=g' <;> by_cases k8:h=h' <;> simp[k5,k6,k7,k8]
theorem run_neq_P (w:World) (p q:Pt):(binOp .neq 70 (.agg (cellsP p)) (.agg (cellsP q))).run Tryz.prog w= .ok (.bool (!(eqP p q))) w:=by
 have h:=run_eql_P w p q;rw[run_eql_struct] at h;rw[run_neq_struct];cases hr:(Op.equalIn 10000 70 (.agg (cellsP p)) (.agg (cellsP q))).run Tryz.prog w with
 | ok b w' =>
  rw[hr] at h;simp only[Result.andThen_ok,Result.ok.injEq,Value.bool.injEq] at h;simp only[Result.andThen_ok,Result.ok.injEq,Value.bool.injEq];exact ⟨by rw[h.1],h.2⟩
 | halt e w' =>
  rw[hr] at h;cases h
set_option maxHeartbeats 1000000 in
theorem rdec_any (n:Int) (w:World) (h0:0≤n) (h1:n≤18446744073709551615) :
  Calls Tryz.prog 49 #[.int .u64 n] w fun e w'=>e= .returned (.tuple #[.agg (cellsP (decP n)),.int .i64 (decE n)])∧Below w.heap.size w w':=by
 by_cases z:n=0
 ·have HE:Hid (decP n=Pt.zero∧decE n=0):=LH (by rw[z];exact ⟨rfl,rfl⟩);rw[HE.out.1,HE.out.2];subst z;clear HE h0 h1;go_enter Tryz.func49,Tryz.ntmps49
  go_wp2_with fail
  refine bodyPost_ret (v:= .tuple #[.agg (cellsP Pt.zero),.int .i64 0]) ?_ rfl ⟨rfl,(Below.refl _ _).alloc (Nat.le_refl _) _⟩
  simp[results,Tryz.f49,go_sem,cellsP,Pt.zero]
 ·have d0:(n == 0)=false:=by simpa using z
  have o0:0≤n / 4 % 1073741824:=by omega
  have o1:n / 4 % 1073741824≤18446744073709551615:=by omega
  have HO:=LH (sgn30_is (n / 4 % 1073741824) (by omega) (by omega))
  rcases (show n % 4=0∨n % 4=1∨n % 4=2∨n % 4=3 by omega) with m4 | m4 | m4 | m4
  ·have HE:Hid (decP n=⟨1,sgn30 (n / 4 % 1073741824),n / 4294967296 % 65536,n / 281474976710656 % 65536,0,0,0,false⟩∧decE n=0):=LH (by
    unfold decP decE;rw[if_neg z,m4];exact ⟨by simp,by simp⟩)
   rw[HE.out.1,HE.out.2];clear HE;go_enter Tryz.func49,Tryz.ntmps49
   go_wp2_with fail
   refine (bits_c n 2 30 4 1073741824 _ h0 h1 ⟨2,30,by decide,by decide,rfl,rfl,by decide,by decide⟩).mono ?_
   rintro e w' ⟨rfl,rfl⟩
   go_wp2_with fail
   refine (signedr_any _ 30 _ o0 o1).mono ?_
   rintro e w' ⟨rfl,rfl⟩;rw[show clipK 30=30 by decide,HO.out]
   go_wp2_with fail
   refine (bits_c n 32 16 4294967296 65536 _ h0 h1 ⟨32,16,by decide,by decide,rfl,rfl,by decide,by decide⟩).mono ?_
   rintro e w' ⟨rfl,rfl⟩
   go_wp2_with fail
   refine (bits_c n 48 16 281474976710656 65536 _ h0 h1 ⟨48,16,by decide,by decide,rfl,rfl,by decide,by decide⟩).mono ?_
   rintro e w' ⟨rfl,rfl⟩
   go_wp2_with fail
   refine bodyPost_ret (v:= .tuple #[.agg (cellsP ⟨1,sgn30 (n / 4 % 1073741824),n / 4294967296 % 65536,n / 281474976710656 % 65536,0,0,0,false⟩),.int .i64 0]) ?_ rfl ⟨rfl,(Below.refl _ _).alloc (Nat.le_refl _) _⟩
   simp[results,Tryz.f49,go_sem,cellsP]
  ·have HE:Hid (decP n=⟨2,sgn30 (n / 4 % 1073741824),0,0,n / 4294967296 % 8,n / 34359738368 % 536870912,0,false⟩∧decE n=0):=LH (by
    unfold decP decE;rw[if_neg z,m4];exact ⟨by simp,by simp⟩)
   rw[HE.out.1,HE.out.2];clear HE;go_enter Tryz.func49,Tryz.ntmps49
   go_wp2_with fail
   refine (bits_c n 2 30 4 1073741824 _ h0 h1 ⟨2,30,by decide,by decide,rfl,rfl,by decide,by decide⟩).mono ?_
   rintro e w' ⟨rfl,rfl⟩
   go_wp2_with fail
   refine (signedr_any _ 30 _ o0 o1).mono ?_
   rintro e w' ⟨rfl,rfl⟩;rw[show clipK 30=30 by decide,HO.out]
   go_wp2_with fail
   refine (bits_c n 32 3 4294967296 8 _ h0 h1 ⟨32,3,by decide,by decide,rfl,rfl,by decide,by decide⟩).mono ?_
   rintro e w' ⟨rfl,rfl⟩
   go_wp2_with fail
   refine (bits_c n 35 29 34359738368 536870912 _ h0 h1 ⟨35,29,by decide,by decide,rfl,rfl,by decide,by decide⟩).mono ?_
   rintro e w' ⟨rfl,rfl⟩
   go_wp2_with fail
   refine bodyPost_ret (v:= .tuple #[.agg (cellsP ⟨2,sgn30 (n / 4 % 1073741824),0,0,n / 4294967296 % 8,n / 34359738368 % 536870912,0,false⟩),.int .i64 0]) ?_ rfl ⟨rfl,(Below.refl _ _).alloc (Nat.le_refl _) _⟩
   simp[results,Tryz.f49,go_sem,cellsP]
  ·have HE:Hid (decP n=⟨3,n / 8 % 536870912,0,0,0,0,n / 4294967296 % 4294967296,decide (n / 4 % 2=1)⟩∧decE n=0):=LH (by
    unfold decP decE;rw[if_neg z,m4];exact ⟨by simp,by simp⟩)
   rw[HE.out.1,HE.out.2];clear HE;go_enter Tryz.func49,Tryz.ntmps49
   go_wp2_with fail
   refine (bits_c n 2 30 4 1073741824 _ h0 h1 ⟨2,30,by decide,by decide,rfl,rfl,by decide,by decide⟩).mono ?_
   rintro e w' ⟨rfl,rfl⟩
   go_wp2_with fail
   refine (signedr_any _ 30 _ o0 o1).mono ?_
   rintro e w' ⟨rfl,rfl⟩;rw[show clipK 30=30 by decide,HO.out]
   go_wp2_with fail
   refine (bits_c n 3 29 8 536870912 _ h0 h1 ⟨3,29,by decide,by decide,rfl,rfl,by decide,by decide⟩).mono ?_
   rintro e w' ⟨rfl,rfl⟩
   go_wp2_with fail
   refine (bits_c n 32 32 4294967296 4294967296 _ h0 h1 ⟨32,32,by decide,by decide,rfl,rfl,by decide,by decide⟩).mono ?_
   rintro e w' ⟨rfl,rfl⟩
   go_wp2_with fail
   refine (bits_c n 2 1 4 2 _ h0 h1 ⟨2,1,by decide,by decide,rfl,rfl,by decide,by decide⟩).mono ?_
   rintro e w' ⟨rfl,rfl⟩
   go_wp2_with fail
   refine bodyPost_ret (v:= .tuple #[.agg (cellsP ⟨3,n / 8 % 536870912,0,0,0,0,n / 4294967296 % 4294967296,n / 4 % 2 == 1⟩),.int .i64 0]) ?_ rfl ⟨rfl,(Below.refl _ _).alloc (Nat.le_refl _) _⟩
   simp[results,Tryz.f49,go_sem,cellsP]
  ·have HE:Hid (decP n=Pt.zero∧decE n=23):=LH (by
    unfold decP decE;rw[if_neg z,m4];exact ⟨by simp,by simp⟩)
   rw[HE.out.1,HE.out.2];clear HE;go_enter Tryz.func49,Tryz.ntmps49
   go_wp2_with fail
   refine (bits_c n 2 30 4 1073741824 _ h0 h1 ⟨2,30,by decide,by decide,rfl,rfl,by decide,by decide⟩).mono ?_
   rintro e w' ⟨rfl,rfl⟩
   go_wp2_with fail
   refine (signedr_any _ 30 _ o0 o1).mono ?_
   rintro e w' ⟨rfl,rfl⟩;rw[show clipK 30=30 by decide,HO.out]
   go_wp2_with fail
   refine bodyPost_ret (v:= .tuple #[.agg (cellsP Pt.zero),.int .i64 23]) ?_ rfl ⟨rfl,(Below.refl _ _).alloc (Nat.le_refl _) _⟩
   simp[results,Tryz.f49,go_sem,cellsP,Pt.zero]
def G2 (w:World) (g:Nat) (a b:Int):Prop:=w.cell? ⟨g,0,none⟩=some (.int .i64 a)∧w.cell? ⟨g,1,none⟩=some (.int .i64 b)
theorem G2.on {w w':World} {g:Nat} {a b:Int} (h:G2 w g a b) (hB:Below w.heap.size w w'):G2 w' g a b :=
 ⟨(hB.cell (World.block_lt_of_cell? _ _ h.1)).trans h.1,(hB.cell (World.block_lt_of_cell? _ _ h.2)).trans h.2⟩
structure Laid (w:World):Prop where
 kind:G2 w 0 0 1
 off:G2 w 1 2 31
 data:G2 w 2 32 47
 ptrs:G2 w 3 48 63
 size:G2 w 4 32 34
 count:G2 w 5 35 63
 dbl:G2 w 6 2 2
 far:G2 w 7 3 31
 seg:G2 w 8 32 63
theorem Laid.on {w w':World} (h:Laid w) (hB:Below w.heap.size w w'):Laid w' :=
 ⟨h.kind.on hB,h.off.on hB,h.data.on hB,h.ptrs.on hB,h.size.on hB,h.count.on hB,h.dbl.on hB,h.far.on hB,h.seg.on hB⟩
def IsPlace (a b K A B M:Int):Prop :=
 (a=0∧b=1∧K=2∧A=1∧B=4∧M=3)∨(a=2∧b=31∧K=30∧A=4∧B=1073741824∧M=1073741823)∨(a=32∧b=47∧K=16∧A=4294967296∧B=65536∧M=65535)∨(a=48∧b=63∧K=16∧A=281474976710656∧B=65536∧M=65535)∨(a=32∧b=34∧K=3∧A=4294967296∧B=8∧M=7)∨(a=35∧b=63∧K=29∧A=34359738368∧B=536870912∧M=536870911)∨(a=2∧b=2∧K=1∧A=4∧B=2∧M=1)∨(a=3∧b=31∧K=29∧A=8∧B=536870912∧M=536870911)∨(a=32∧b=63∧K=32∧A=4294967296∧B=4294967296∧M=4294967295)
theorem and_low (n:Int) (k:Nat) (hk:k≤63) (h0:0≤n) (h1:n≤18446744073709551615):bits BinOp.and IntKind.u64 n (2 ^ k - 1)=n % 2 ^ k:=by
 have h:=bits_and_u64_nat n.toNat (2 ^ k - 1) (by omega) (by have:2 ^ k≤2 ^ 63:=Nat.pow_le_pow_right (by omega) hk;omega);rw[Nat.and_two_pow_sub_one_eq_mod,Int.toNat_of_nonneg h0] at h;have hp:0<2 ^ k:=Nat.pow_pos (by omega);have e1:((2 ^ k - 1:Nat):Int)=2 ^ k - 1:=by rw[Int.ofNat_sub (by omega)];simp
 rw[e1] at h;rw[h];have e2:((n.toNat % 2 ^ k:Nat):Int)=(n.toNat:Int) % ((2 ^ k:Nat):Int):=Int.natCast_emod _ _;rw[e2,Int.toNat_of_nonneg h0]
 simp
theorem and_lowC (n M B:Int) (h0:0≤n) (h1:n≤18446744073709551615) (h:∃k:Nat,k≤63∧(2:Int) ^ k=B∧M=B - 1):bits BinOp.and IntKind.u64 n M=n % B:=by
 obtain ⟨k,hk,rfl,rfl⟩:=h;exact and_low n k hk h0 h1
set_option maxHeartbeats 400000 in
theorem wide_any (a b K:Int) (w:World) (h:0≤a∧b≤63∧b - a+1=K∧0≤K) :
  Calls Tryz.prog 180 #[.agg #[.int .i64 a,.int .i64 b]] w fun e w'=>e= .returned (.int .i64 K)∧Below w.heap.size w w':=by
 obtain ⟨h1,h2,rfl,h4⟩:=h;have HB:∀cs t,Below w.heap.size w (w.alloc (.cells cs t)):=fun cs t=>(Below.refl _ _).alloc (Nat.le_refl _) _
 go_enter Tryz.func180,Tryz.ntmps180
 go_wp2_with fail
 go_ret;exact ⟨rfl,HB _ _⟩
theorem pl_kind:IsPlace 0 1 2 1 4 3:=by simp[IsPlace]
theorem pl_off:IsPlace 2 31 30 4 1073741824 1073741823:=by simp[IsPlace]
theorem pl_data:IsPlace 32 47 16 4294967296 65536 65535:=by simp[IsPlace]
theorem pl_ptrs:IsPlace 48 63 16 281474976710656 65536 65535:=by simp[IsPlace]
theorem pl_size:IsPlace 32 34 3 4294967296 8 7:=by simp[IsPlace]
theorem pl_count:IsPlace 35 63 29 34359738368 536870912 536870911:=by simp[IsPlace]
theorem pl_dbl:IsPlace 2 2 1 4 2 1:=by simp[IsPlace]
theorem pl_far:IsPlace 3 31 29 8 536870912 536870911:=by simp[IsPlace]
theorem pl_seg:IsPlace 32 63 32 4294967296 4294967296 4294967295:=by simp[IsPlace]
set_option maxHeartbeats 1000000 in
theorem most_any (a b K A B M:Int) (w:World) (h:IsPlace a b K A B M) :
  Calls Tryz.prog 178 #[.agg #[.int .i64 a,.int .i64 b]] w fun e w'=>e= .returned (.int .u64 M)∧Below w.heap.size w w':=by
 have HB:∀cs t,Below w.heap.size w (w.alloc (.cells cs t)):=fun cs t=>(Below.refl _ _).alloc (Nat.le_refl _) _
 rcases h with ⟨rfl,rfl,rfl,rfl,rfl,rfl⟩ | ⟨rfl,rfl,rfl,rfl,rfl,rfl⟩ | ⟨rfl,rfl,rfl,rfl,rfl,rfl⟩ | ⟨rfl,rfl,rfl,rfl,rfl,rfl⟩ | ⟨rfl,rfl,rfl,rfl,rfl,rfl⟩ | ⟨rfl,rfl,rfl,rfl,rfl,rfl⟩ | ⟨rfl,rfl,rfl,rfl,rfl,rfl⟩ | ⟨rfl,rfl,rfl,rfl,rfl,rfl⟩ | ⟨rfl,rfl,rfl,rfl,rfl,rfl⟩
 all_goals
  go_enter Tryz.func178,Tryz.ntmps178
  go_wp2_with fail
  refine (wide_any _ _ _ _ ⟨by decide,by decide,rfl,by decide⟩).mono ?_
  rintro e w1 ⟨rfl,hB1⟩
  go_wp2_with fail
  go_ret;exact ⟨rfl,(HB _ _).trans (hB1.mono (by simp))⟩
theorem place_cells (w:World) (a b:Int) {w':World} (h:Below (w.heap.size+1) (w.alloc (.cells #[.int .i64 a,.int .i64 b] 236)) w'):w'.cell? ⟨w.heap.size,0,none⟩=some (.int .i64 a)∧w'.cell? ⟨w.heap.size,1,none⟩=some (.int .i64 b):=by
 have h0:∀j v,(#[Value.int .i64 a,.int .i64 b])[j]? = some v→w'.cell? ⟨w.heap.size,j,none⟩=some v:=fun j v hv=>by
  rw[h.cell (p:=⟨w.heap.size,j,none⟩) (by show w.heap.size<w.heap.size+1;omega)]
  unfold World.cell?;dsimp only;rw[blk_alloc_new];exact hv
 exact ⟨h0 0 _ rfl,h0 1 _ rfl⟩
theorem place_below (w:World) (a b:Int) {w':World} (h:Below (w.heap.size+1) (w.alloc (.cells #[.int .i64 a,.int .i64 b] 236)) w'):Below w.heap.size w w' :=
 ((Below.refl _ _).alloc (Nat.le_refl _) _).trans (h.mono (by omega))
theorem place_seq {a b c:World} {n:Nat} (h:Below n a b) (hn:n≤a.heap.size) (k:Below b.heap.size b c):Below n a c:=h.trans (k.mono (Nat.le_trans hn h.size))
set_option maxHeartbeats 1000000 in
theorem num_kind (n:Int) (w:World) (h0:0≤n) (h1:n≤18446744073709551615) :
  Calls Tryz.prog 173 #[.agg #[.int .i64 0,.int .i64 1],.int .u64 n] w fun e w'=>e= .returned (.int .i64 (n % 4))∧Below w.heap.size w w':=by
 have HPC:=LH (fun w' h=>place_cells w 0 1 (w':=w') h)
 have HPB:=LH (fun w' h=>place_below w 0 1 (w':=w') h)
 have HM:=LH (fun w=>most_any 0 1 2 1 4 3 w pl_kind)
 obtain ⟨W,hW⟩:∃W,w.alloc (.cells #[.int .i64 0,.int .i64 1] 236)=W:=⟨_,rfl⟩;have HS:Hid (w.heap.size+1≤W.heap.size):=LH (by rw[←hW];simp);rw[hW] at HPC HPB;have hd:bits BinOp.and IntKind.u64 (n) 3=n % 4:=and_lowC _ _ _ (by omega) (by omega) ⟨2,by decide,by decide,by decide⟩
 obtain ⟨R,hR⟩:∃R,n % 4=R:=⟨_,rfl⟩;have hb:0≤R∧R≤4294967295:=by omega
 have HWr:Hid (IntKind.i64.wrap R=R):=LH (IntWalk.i64_in _ (by omega));rw[hR] at hd ⊢;have HD:=LH hd;clear hd hR hb;go_enter Tryz.func173,Tryz.ntmps173
 go_wp2_with fail
 have HW:=LH hW;clear hW;have hQ0:Below (w.heap.size+1) W W.drew:=(Below.refl _ _).drew;obtain ⟨x0,y0⟩:=HPC.out _ hQ0;have hdd:=HD.out
 go_region_held3 (fun w'=>w'.cell? ⟨w.heap.size,0,none⟩=some (.int .i64 0)∧w'.cell? ⟨w.heap.size,1,none⟩=some (.int .i64 1)) (first | exact ⟨by assumption,by assumption⟩) (first
  | (go_at_call 178;with_reducible refine (HM.out _).mono ?_;rintro e w1 ⟨rfl,hB1⟩;have hQ1:=place_seq hQ0 HS.out hB1;obtain ⟨x1,y1⟩:=HPC.out _ hQ1))
 all_goals
  go_wp2_with fail
  go_ret;exact ⟨ret_int HWr.out,HPB.out _ hQ1⟩
set_option maxHeartbeats 1000000 in
theorem with_kind (n:Int) (w:World) :
  Calls Tryz.prog 176 #[.agg #[.int .i64 0,.int .i64 1],.int .i64 n] w fun e w'=>e= .returned (.int .u64 (n % 4))∧Below w.heap.size w w':=by
 have HPC:=LH (fun w' h=>place_cells w 0 1 (w':=w') h)
 have HPB:=LH (fun w' h=>place_below w 0 1 (w':=w') h)
 have HM:=LH (fun w=>most_any 0 1 2 1 4 3 w pl_kind)
 obtain ⟨W,hW⟩:∃W,w.alloc (.cells #[.int .i64 0,.int .i64 1] 236)=W:=⟨_,rfl⟩;have HS:Hid (w.heap.size+1≤W.heap.size):=LH (by rw[←hW];simp);rw[hW] at HPC HPB;have hd:bits BinOp.and IntKind.u64 (IntKind.u64.wrap n) 3=n % 4:=by
  rw[IntKind.wrap_u64,and_lowC _ _ 4 (by omega) (by omega) ⟨2,by decide,by decide,by decide⟩]
  omega
 obtain ⟨R,hR⟩:∃R,n % 4=R:=⟨_,rfl⟩;have hb:0≤R∧R<4:=by omega
 have HWr:Hid (IntKind.u64.wrap (R)=R):=LH (by rw[IntKind.wrap_u64];omega);rw[hR] at hd ⊢;have HD:=LH hd;clear hd hR hb;go_enter Tryz.func176,Tryz.ntmps176
 go_wp2_with fail
 have HW:=LH hW;clear hW;have hQ0:Below (w.heap.size+1) W W.drew:=(Below.refl _ _).drew;obtain ⟨x0,y0⟩:=HPC.out _ hQ0;have hdd:=HD.out
 go_region_held3 (fun w'=>w'.cell? ⟨w.heap.size,0,none⟩=some (.int .i64 0)∧w'.cell? ⟨w.heap.size,1,none⟩=some (.int .i64 1)) (first | exact ⟨by assumption,by assumption⟩) (first
  | (go_at_call 178;with_reducible refine (HM.out _).mono ?_;rintro e w1 ⟨rfl,hB1⟩;have hQ1:=place_seq hQ0 HS.out hB1;obtain ⟨x1,y1⟩:=HPC.out _ hQ1))
 all_goals
  go_wp2_with fail
  go_ret;exact ⟨ret_int HWr.out,HPB.out _ hQ1⟩
set_option maxHeartbeats 1000000 in
theorem with_off (n:Int) (w:World) :
  Calls Tryz.prog 176 #[.agg #[.int .i64 2,.int .i64 31],.int .i64 n] w fun e w'=>e= .returned (.int .u64 (n % 1073741824*4))∧Below w.heap.size w w':=by
 have HPC:=LH (fun w' h=>place_cells w 2 31 (w':=w') h)
 have HPB:=LH (fun w' h=>place_below w 2 31 (w':=w') h)
 have HM:=LH (fun w=>most_any 2 31 30 4 1073741824 1073741823 w pl_off)
 obtain ⟨W,hW⟩:∃W,w.alloc (.cells #[.int .i64 2,.int .i64 31] 236)=W:=⟨_,rfl⟩;have HS:Hid (w.heap.size+1≤W.heap.size):=LH (by rw[←hW];simp);rw[hW] at HPC HPB;have hd:bits BinOp.and IntKind.u64 (IntKind.u64.wrap n) 1073741823=n % 1073741824:=by
  rw[IntKind.wrap_u64,and_lowC _ _ 1073741824 (by omega) (by omega) ⟨30,by decide,by decide,by decide⟩]
  omega
 obtain ⟨R,hR⟩:∃R,n % 1073741824=R:=⟨_,rfl⟩;have hb:0≤R∧R<1073741824:=by omega
 have HWr:Hid (IntKind.u64.wrap (R*4)=R*4):=LH (by rw[IntKind.wrap_u64];omega);rw[hR] at hd ⊢;have HD:=LH hd;clear hd hR hb;go_enter Tryz.func176,Tryz.ntmps176
 go_wp2_with fail
 have HW:=LH hW;clear hW;have hQ0:Below (w.heap.size+1) W W.drew:=(Below.refl _ _).drew;obtain ⟨x0,y0⟩:=HPC.out _ hQ0;have hdd:=HD.out
 go_region_held3 (fun w'=>w'.cell? ⟨w.heap.size,0,none⟩=some (.int .i64 2)∧w'.cell? ⟨w.heap.size,1,none⟩=some (.int .i64 31)) (first | exact ⟨by assumption,by assumption⟩) (first
  | (go_at_call 178;with_reducible refine (HM.out _).mono ?_;rintro e w1 ⟨rfl,hB1⟩;have hQ1:=place_seq hQ0 HS.out hB1;obtain ⟨x1,y1⟩:=HPC.out _ hQ1))
 all_goals
  go_wp2_with fail
  go_ret;exact ⟨ret_int HWr.out,HPB.out _ hQ1⟩
set_option maxHeartbeats 1000000 in
theorem sgn_off (n:Int) (w:World) :
  Calls Tryz.prog 174 #[.agg #[.int .i64 2,.int .i64 31],.int .u64 n] w fun e w'=>e= .returned (.int .i64 (sgn30 (n / 4 % 1073741824)))∧Below w.heap.size w w':=by
 have HPC:=LH (fun w' h=>place_cells w 2 31 (w':=w') h)
 have HPB:=LH (fun w' h=>place_below w 2 31 (w':=w') h)
 have HM:=LH (fun w=>wide_any 2 31 30 w (by decide))
 obtain ⟨W,hW⟩:∃W,w.alloc (.cells #[.int .i64 2,.int .i64 31] 236)=W:=⟨_,rfl⟩;have HS:Hid (w.heap.size+1≤W.heap.size):=LH (by rw[←hW];simp);rw[hW] at HPC HPB;have HV:=LH (fun w=>signed_any (n / 4) 30 w)
 have he:sgnV (n / 4) (clipK 30)=sgn30 (n / 4 % 1073741824):=by
  rw[show clipK 30=30 by decide,←sgn30_is _ (by omega) (by omega)]
  exact (sgn_of_mod (by rw[show (2:Int) ^ 30=1073741824 by decide];omega))
 rw[he] at HV;clear he;generalize sgn30 (n / 4 % 1073741824)=R at *
 go_enter Tryz.func174,Tryz.ntmps174
 go_wp2_with fail
 have HW:=LH hW;clear hW;have hQ0:Below (w.heap.size+1) W W.drew:=(Below.refl _ _).drew;obtain ⟨x0,y0⟩:=HPC.out _ hQ0
 go_region_held3 (fun w'=>w'.cell? ⟨w.heap.size,0,none⟩=some (.int .i64 2)∧w'.cell? ⟨w.heap.size,1,none⟩=some (.int .i64 31)) (first | exact ⟨by assumption,by assumption⟩) (first
  | (go_at_call 180;with_reducible refine (HM.out _).mono ?_;rintro e w1 ⟨rfl,hB1⟩;have hQ1:=place_seq hQ0 HS.out hB1;obtain ⟨x1,y1⟩:=HPC.out _ hQ1)
  | (go_at_call 179;with_reducible refine (HV.out _).mono ?_;rintro e w2 ⟨rfl,rfl⟩))
 all_goals
  go_wp2_with fail
  go_ret;exact ⟨rfl,HPB.out _ hQ1⟩
set_option maxHeartbeats 1000000 in
theorem num_data (n:Int) (w:World) (h0:0≤n) (h1:n≤18446744073709551615) :
  Calls Tryz.prog 173 #[.agg #[.int .i64 32,.int .i64 47],.int .u64 n] w fun e w'=>e= .returned (.int .i64 (n / 4294967296 % 65536))∧Below w.heap.size w w':=by
 have HPC:=LH (fun w' h=>place_cells w 32 47 (w':=w') h)
 have HPB:=LH (fun w' h=>place_below w 32 47 (w':=w') h)
 have HM:=LH (fun w=>most_any 32 47 16 4294967296 65536 65535 w pl_data)
 obtain ⟨W,hW⟩:∃W,w.alloc (.cells #[.int .i64 32,.int .i64 47] 236)=W:=⟨_,rfl⟩;have HS:Hid (w.heap.size+1≤W.heap.size):=LH (by rw[←hW];simp);rw[hW] at HPC HPB;have hd:bits BinOp.and IntKind.u64 (n / 4294967296) 65535=n / 4294967296 % 65536:=and_lowC _ _ _ (by omega) (by omega) ⟨16,by decide,by decide,by decide⟩
 obtain ⟨R,hR⟩:∃R,n / 4294967296 % 65536=R:=⟨_,rfl⟩;have hb:0≤R∧R≤4294967295:=by omega
 have HWr:Hid (IntKind.i64.wrap R=R):=LH (IntWalk.i64_in _ (by omega));rw[hR] at hd ⊢;have HD:=LH hd;clear hd hR hb;go_enter Tryz.func173,Tryz.ntmps173
 go_wp2_with fail
 have HW:=LH hW;clear hW;have hQ0:Below (w.heap.size+1) W W.drew:=(Below.refl _ _).drew;obtain ⟨x0,y0⟩:=HPC.out _ hQ0;have hdd:=HD.out
 go_region_held3 (fun w'=>w'.cell? ⟨w.heap.size,0,none⟩=some (.int .i64 32)∧w'.cell? ⟨w.heap.size,1,none⟩=some (.int .i64 47)) (first | exact ⟨by assumption,by assumption⟩) (first
  | (go_at_call 178;with_reducible refine (HM.out _).mono ?_;rintro e w1 ⟨rfl,hB1⟩;have hQ1:=place_seq hQ0 HS.out hB1;obtain ⟨x1,y1⟩:=HPC.out _ hQ1))
 all_goals
  go_wp2_with fail
  go_ret;exact ⟨ret_int HWr.out,HPB.out _ hQ1⟩
set_option maxHeartbeats 1000000 in
theorem with_data (n:Int) (w:World) :
  Calls Tryz.prog 176 #[.agg #[.int .i64 32,.int .i64 47],.int .i64 n] w fun e w'=>e= .returned (.int .u64 (n % 65536*4294967296))∧Below w.heap.size w w':=by
 have HPC:=LH (fun w' h=>place_cells w 32 47 (w':=w') h)
 have HPB:=LH (fun w' h=>place_below w 32 47 (w':=w') h)
 have HM:=LH (fun w=>most_any 32 47 16 4294967296 65536 65535 w pl_data)
 obtain ⟨W,hW⟩:∃W,w.alloc (.cells #[.int .i64 32,.int .i64 47] 236)=W:=⟨_,rfl⟩;have HS:Hid (w.heap.size+1≤W.heap.size):=LH (by rw[←hW];simp);rw[hW] at HPC HPB;have hd:bits BinOp.and IntKind.u64 (IntKind.u64.wrap n) 65535=n % 65536:=by
  rw[IntKind.wrap_u64,and_lowC _ _ 65536 (by omega) (by omega) ⟨16,by decide,by decide,by decide⟩]
  omega
 obtain ⟨R,hR⟩:∃R,n % 65536=R:=⟨_,rfl⟩;have hb:0≤R∧R<65536:=by omega
 have HWr:Hid (IntKind.u64.wrap (R*4294967296)=R*4294967296):=LH (by rw[IntKind.wrap_u64];omega);rw[hR] at hd ⊢;have HD:=LH hd;clear hd hR hb;go_enter Tryz.func176,Tryz.ntmps176
 go_wp2_with fail
 have HW:=LH hW;clear hW;have hQ0:Below (w.heap.size+1) W W.drew:=(Below.refl _ _).drew;obtain ⟨x0,y0⟩:=HPC.out _ hQ0;have hdd:=HD.out
 go_region_held3 (fun w'=>w'.cell? ⟨w.heap.size,0,none⟩=some (.int .i64 32)∧w'.cell? ⟨w.heap.size,1,none⟩=some (.int .i64 47)) (first | exact ⟨by assumption,by assumption⟩) (first
  | (go_at_call 178;with_reducible refine (HM.out _).mono ?_;rintro e w1 ⟨rfl,hB1⟩;have hQ1:=place_seq hQ0 HS.out hB1;obtain ⟨x1,y1⟩:=HPC.out _ hQ1))
 all_goals
  go_wp2_with fail
  go_ret;exact ⟨ret_int HWr.out,HPB.out _ hQ1⟩
set_option maxHeartbeats 1000000 in
theorem num_ptrs (n:Int) (w:World) (h0:0≤n) (h1:n≤18446744073709551615) :
  Calls Tryz.prog 173 #[.agg #[.int .i64 48,.int .i64 63],.int .u64 n] w fun e w'=>e= .returned (.int .i64 (n / 281474976710656 % 65536))∧Below w.heap.size w w':=by
 have HPC:=LH (fun w' h=>place_cells w 48 63 (w':=w') h)
 have HPB:=LH (fun w' h=>place_below w 48 63 (w':=w') h)
 have HM:=LH (fun w=>most_any 48 63 16 281474976710656 65536 65535 w pl_ptrs)
 obtain ⟨W,hW⟩:∃W,w.alloc (.cells #[.int .i64 48,.int .i64 63] 236)=W:=⟨_,rfl⟩;have HS:Hid (w.heap.size+1≤W.heap.size):=LH (by rw[←hW];simp);rw[hW] at HPC HPB;have hd:bits BinOp.and IntKind.u64 (n / 281474976710656) 65535=n / 281474976710656 % 65536:=and_lowC _ _ _ (by omega) (by omega) ⟨16,by decide,by decide,by decide⟩
 obtain ⟨R,hR⟩:∃R,n / 281474976710656 % 65536=R:=⟨_,rfl⟩;have hb:0≤R∧R≤4294967295:=by omega
 have HWr:Hid (IntKind.i64.wrap R=R):=LH (IntWalk.i64_in _ (by omega));rw[hR] at hd ⊢;have HD:=LH hd;clear hd hR hb;go_enter Tryz.func173,Tryz.ntmps173
 go_wp2_with fail
 have HW:=LH hW;clear hW;have hQ0:Below (w.heap.size+1) W W.drew:=(Below.refl _ _).drew;obtain ⟨x0,y0⟩:=HPC.out _ hQ0;have hdd:=HD.out
 go_region_held3 (fun w'=>w'.cell? ⟨w.heap.size,0,none⟩=some (.int .i64 48)∧w'.cell? ⟨w.heap.size,1,none⟩=some (.int .i64 63)) (first | exact ⟨by assumption,by assumption⟩) (first
  | (go_at_call 178;with_reducible refine (HM.out _).mono ?_;rintro e w1 ⟨rfl,hB1⟩;have hQ1:=place_seq hQ0 HS.out hB1;obtain ⟨x1,y1⟩:=HPC.out _ hQ1))
 all_goals
  go_wp2_with fail
  go_ret;exact ⟨ret_int HWr.out,HPB.out _ hQ1⟩
set_option maxHeartbeats 1000000 in
theorem with_ptrs (n:Int) (w:World) :
  Calls Tryz.prog 176 #[.agg #[.int .i64 48,.int .i64 63],.int .i64 n] w fun e w'=>e= .returned (.int .u64 (n % 65536*281474976710656))∧Below w.heap.size w w':=by
 have HPC:=LH (fun w' h=>place_cells w 48 63 (w':=w') h)
 have HPB:=LH (fun w' h=>place_below w 48 63 (w':=w') h)
 have HM:=LH (fun w=>most_any 48 63 16 281474976710656 65536 65535 w pl_ptrs)
 obtain ⟨W,hW⟩:∃W,w.alloc (.cells #[.int .i64 48,.int .i64 63] 236)=W:=⟨_,rfl⟩;have HS:Hid (w.heap.size+1≤W.heap.size):=LH (by rw[←hW];simp);rw[hW] at HPC HPB;have hd:bits BinOp.and IntKind.u64 (IntKind.u64.wrap n) 65535=n % 65536:=by
  rw[IntKind.wrap_u64,and_lowC _ _ 65536 (by omega) (by omega) ⟨16,by decide,by decide,by decide⟩]
  omega
 obtain ⟨R,hR⟩:∃R,n % 65536=R:=⟨_,rfl⟩;have hb:0≤R∧R<65536:=by omega
 have HWr:Hid (IntKind.u64.wrap (R*281474976710656)=R*281474976710656):=LH (by rw[IntKind.wrap_u64];omega);rw[hR] at hd ⊢;have HD:=LH hd;clear hd hR hb;go_enter Tryz.func176,Tryz.ntmps176
 go_wp2_with fail
 have HW:=LH hW;clear hW;have hQ0:Below (w.heap.size+1) W W.drew:=(Below.refl _ _).drew;obtain ⟨x0,y0⟩:=HPC.out _ hQ0;have hdd:=HD.out
 go_region_held3 (fun w'=>w'.cell? ⟨w.heap.size,0,none⟩=some (.int .i64 48)∧w'.cell? ⟨w.heap.size,1,none⟩=some (.int .i64 63)) (first | exact ⟨by assumption,by assumption⟩) (first
  | (go_at_call 178;with_reducible refine (HM.out _).mono ?_;rintro e w1 ⟨rfl,hB1⟩;have hQ1:=place_seq hQ0 HS.out hB1;obtain ⟨x1,y1⟩:=HPC.out _ hQ1))
 all_goals
  go_wp2_with fail
  go_ret;exact ⟨ret_int HWr.out,HPB.out _ hQ1⟩
set_option maxHeartbeats 1000000 in
theorem num_size (n:Int) (w:World) (h0:0≤n) (h1:n≤18446744073709551615) :
  Calls Tryz.prog 173 #[.agg #[.int .i64 32,.int .i64 34],.int .u64 n] w fun e w'=>e= .returned (.int .i64 (n / 4294967296 % 8))∧Below w.heap.size w w':=by
 have HPC:=LH (fun w' h=>place_cells w 32 34 (w':=w') h)
 have HPB:=LH (fun w' h=>place_below w 32 34 (w':=w') h)
 have HM:=LH (fun w=>most_any 32 34 3 4294967296 8 7 w pl_size)
 obtain ⟨W,hW⟩:∃W,w.alloc (.cells #[.int .i64 32,.int .i64 34] 236)=W:=⟨_,rfl⟩;have HS:Hid (w.heap.size+1≤W.heap.size):=LH (by rw[←hW];simp);rw[hW] at HPC HPB;have hd:bits BinOp.and IntKind.u64 (n / 4294967296) 7=n / 4294967296 % 8:=and_lowC _ _ _ (by omega) (by omega) ⟨3,by decide,by decide,by decide⟩
 obtain ⟨R,hR⟩:∃R,n / 4294967296 % 8=R:=⟨_,rfl⟩;have hb:0≤R∧R≤4294967295:=by omega
 have HWr:Hid (IntKind.i64.wrap R=R):=LH (IntWalk.i64_in _ (by omega));rw[hR] at hd ⊢;have HD:=LH hd;clear hd hR hb;go_enter Tryz.func173,Tryz.ntmps173
 go_wp2_with fail
 have HW:=LH hW;clear hW;have hQ0:Below (w.heap.size+1) W W.drew:=(Below.refl _ _).drew;obtain ⟨x0,y0⟩:=HPC.out _ hQ0;have hdd:=HD.out
 go_region_held3 (fun w'=>w'.cell? ⟨w.heap.size,0,none⟩=some (.int .i64 32)∧w'.cell? ⟨w.heap.size,1,none⟩=some (.int .i64 34)) (first | exact ⟨by assumption,by assumption⟩) (first
  | (go_at_call 178;with_reducible refine (HM.out _).mono ?_;rintro e w1 ⟨rfl,hB1⟩;have hQ1:=place_seq hQ0 HS.out hB1;obtain ⟨x1,y1⟩:=HPC.out _ hQ1))
 all_goals
  go_wp2_with fail
  go_ret;exact ⟨ret_int HWr.out,HPB.out _ hQ1⟩
set_option maxHeartbeats 1000000 in
theorem with_size (n:Int) (w:World) :
  Calls Tryz.prog 176 #[.agg #[.int .i64 32,.int .i64 34],.int .i64 n] w fun e w'=>e= .returned (.int .u64 (n % 8*4294967296))∧Below w.heap.size w w':=by
 have HPC:=LH (fun w' h=>place_cells w 32 34 (w':=w') h)
 have HPB:=LH (fun w' h=>place_below w 32 34 (w':=w') h)
 have HM:=LH (fun w=>most_any 32 34 3 4294967296 8 7 w pl_size)
 obtain ⟨W,hW⟩:∃W,w.alloc (.cells #[.int .i64 32,.int .i64 34] 236)=W:=⟨_,rfl⟩;have HS:Hid (w.heap.size+1≤W.heap.size):=LH (by rw[←hW];simp);rw[hW] at HPC HPB;have hd:bits BinOp.and IntKind.u64 (IntKind.u64.wrap n) 7=n % 8:=by
  rw[IntKind.wrap_u64,and_lowC _ _ 8 (by omega) (by omega) ⟨3,by decide,by decide,by decide⟩]
  omega
 obtain ⟨R,hR⟩:∃R,n % 8=R:=⟨_,rfl⟩;have hb:0≤R∧R<8:=by omega
 have HWr:Hid (IntKind.u64.wrap (R*4294967296)=R*4294967296):=LH (by rw[IntKind.wrap_u64];omega);rw[hR] at hd ⊢;have HD:=LH hd;clear hd hR hb;go_enter Tryz.func176,Tryz.ntmps176
 go_wp2_with fail
 have HW:=LH hW;clear hW;have hQ0:Below (w.heap.size+1) W W.drew:=(Below.refl _ _).drew;obtain ⟨x0,y0⟩:=HPC.out _ hQ0;have hdd:=HD.out
 go_region_held3 (fun w'=>w'.cell? ⟨w.heap.size,0,none⟩=some (.int .i64 32)∧w'.cell? ⟨w.heap.size,1,none⟩=some (.int .i64 34)) (first | exact ⟨by assumption,by assumption⟩) (first
  | (go_at_call 178;with_reducible refine (HM.out _).mono ?_;rintro e w1 ⟨rfl,hB1⟩;have hQ1:=place_seq hQ0 HS.out hB1;obtain ⟨x1,y1⟩:=HPC.out _ hQ1))
 all_goals
  go_wp2_with fail
  go_ret;exact ⟨ret_int HWr.out,HPB.out _ hQ1⟩
set_option maxHeartbeats 1000000 in
theorem num_count (n:Int) (w:World) (h0:0≤n) (h1:n≤18446744073709551615) :
  Calls Tryz.prog 173 #[.agg #[.int .i64 35,.int .i64 63],.int .u64 n] w fun e w'=>e= .returned (.int .i64 (n / 34359738368 % 536870912))∧Below w.heap.size w w':=by
 have HPC:=LH (fun w' h=>place_cells w 35 63 (w':=w') h)
 have HPB:=LH (fun w' h=>place_below w 35 63 (w':=w') h)
 have HM:=LH (fun w=>most_any 35 63 29 34359738368 536870912 536870911 w pl_count)
 obtain ⟨W,hW⟩:∃W,w.alloc (.cells #[.int .i64 35,.int .i64 63] 236)=W:=⟨_,rfl⟩;have HS:Hid (w.heap.size+1≤W.heap.size):=LH (by rw[←hW];simp);rw[hW] at HPC HPB;have hd:bits BinOp.and IntKind.u64 (n / 34359738368) 536870911=n / 34359738368 % 536870912:=and_lowC _ _ _ (by omega) (by omega) ⟨29,by decide,by decide,by decide⟩
 obtain ⟨R,hR⟩:∃R,n / 34359738368 % 536870912=R:=⟨_,rfl⟩;have hb:0≤R∧R≤4294967295:=by omega
 have HWr:Hid (IntKind.i64.wrap R=R):=LH (IntWalk.i64_in _ (by omega));rw[hR] at hd ⊢;have HD:=LH hd;clear hd hR hb;go_enter Tryz.func173,Tryz.ntmps173
 go_wp2_with fail
 have HW:=LH hW;clear hW;have hQ0:Below (w.heap.size+1) W W.drew:=(Below.refl _ _).drew;obtain ⟨x0,y0⟩:=HPC.out _ hQ0;have hdd:=HD.out
 go_region_held3 (fun w'=>w'.cell? ⟨w.heap.size,0,none⟩=some (.int .i64 35)∧w'.cell? ⟨w.heap.size,1,none⟩=some (.int .i64 63)) (first | exact ⟨by assumption,by assumption⟩) (first
  | (go_at_call 178;with_reducible refine (HM.out _).mono ?_;rintro e w1 ⟨rfl,hB1⟩;have hQ1:=place_seq hQ0 HS.out hB1;obtain ⟨x1,y1⟩:=HPC.out _ hQ1))
 all_goals
  go_wp2_with fail
  go_ret;exact ⟨ret_int HWr.out,HPB.out _ hQ1⟩
set_option maxHeartbeats 1000000 in
theorem with_count (n:Int) (w:World) :
  Calls Tryz.prog 176 #[.agg #[.int .i64 35,.int .i64 63],.int .i64 n] w fun e w'=>e= .returned (.int .u64 (n % 536870912*34359738368))∧Below w.heap.size w w':=by
 have HPC:=LH (fun w' h=>place_cells w 35 63 (w':=w') h)
 have HPB:=LH (fun w' h=>place_below w 35 63 (w':=w') h)
 have HM:=LH (fun w=>most_any 35 63 29 34359738368 536870912 536870911 w pl_count)
 obtain ⟨W,hW⟩:∃W,w.alloc (.cells #[.int .i64 35,.int .i64 63] 236)=W:=⟨_,rfl⟩;have HS:Hid (w.heap.size+1≤W.heap.size):=LH (by rw[←hW];simp);rw[hW] at HPC HPB;have hd:bits BinOp.and IntKind.u64 (IntKind.u64.wrap n) 536870911=n % 536870912:=by
  rw[IntKind.wrap_u64,and_lowC _ _ 536870912 (by omega) (by omega) ⟨29,by decide,by decide,by decide⟩]
  omega
 obtain ⟨R,hR⟩:∃R,n % 536870912=R:=⟨_,rfl⟩;have hb:0≤R∧R<536870912:=by omega
 have HWr:Hid (IntKind.u64.wrap (R*34359738368)=R*34359738368):=LH (by rw[IntKind.wrap_u64];omega);rw[hR] at hd ⊢;have HD:=LH hd;clear hd hR hb;go_enter Tryz.func176,Tryz.ntmps176
 go_wp2_with fail
 have HW:=LH hW;clear hW;have hQ0:Below (w.heap.size+1) W W.drew:=(Below.refl _ _).drew;obtain ⟨x0,y0⟩:=HPC.out _ hQ0;have hdd:=HD.out
 go_region_held3 (fun w'=>w'.cell? ⟨w.heap.size,0,none⟩=some (.int .i64 35)∧w'.cell? ⟨w.heap.size,1,none⟩=some (.int .i64 63)) (first | exact ⟨by assumption,by assumption⟩) (first
  | (go_at_call 178;with_reducible refine (HM.out _).mono ?_;rintro e w1 ⟨rfl,hB1⟩;have hQ1:=place_seq hQ0 HS.out hB1;obtain ⟨x1,y1⟩:=HPC.out _ hQ1))
 all_goals
  go_wp2_with fail
  go_ret;exact ⟨ret_int HWr.out,HPB.out _ hQ1⟩
set_option maxHeartbeats 1000000 in
theorem num_dbl (n:Int) (w:World) (h0:0≤n) (h1:n≤18446744073709551615) :
  Calls Tryz.prog 173 #[.agg #[.int .i64 2,.int .i64 2],.int .u64 n] w fun e w'=>e= .returned (.int .i64 (n / 4 % 2))∧Below w.heap.size w w':=by
 have HPC:=LH (fun w' h=>place_cells w 2 2 (w':=w') h)
 have HPB:=LH (fun w' h=>place_below w 2 2 (w':=w') h)
 have HM:=LH (fun w=>most_any 2 2 1 4 2 1 w pl_dbl)
 obtain ⟨W,hW⟩:∃W,w.alloc (.cells #[.int .i64 2,.int .i64 2] 236)=W:=⟨_,rfl⟩;have HS:Hid (w.heap.size+1≤W.heap.size):=LH (by rw[←hW];simp);rw[hW] at HPC HPB;have hd:bits BinOp.and IntKind.u64 (n / 4) 1=n / 4 % 2:=and_lowC _ _ _ (by omega) (by omega) ⟨1,by decide,by decide,by decide⟩
 obtain ⟨R,hR⟩:∃R,n / 4 % 2=R:=⟨_,rfl⟩;have hb:0≤R∧R≤4294967295:=by omega
 have HWr:Hid (IntKind.i64.wrap R=R):=LH (IntWalk.i64_in _ (by omega));rw[hR] at hd ⊢;have HD:=LH hd;clear hd hR hb;go_enter Tryz.func173,Tryz.ntmps173
 go_wp2_with fail
 have HW:=LH hW;clear hW;have hQ0:Below (w.heap.size+1) W W.drew:=(Below.refl _ _).drew;obtain ⟨x0,y0⟩:=HPC.out _ hQ0;have hdd:=HD.out
 go_region_held3 (fun w'=>w'.cell? ⟨w.heap.size,0,none⟩=some (.int .i64 2)∧w'.cell? ⟨w.heap.size,1,none⟩=some (.int .i64 2)) (first | exact ⟨by assumption,by assumption⟩) (first
  | (go_at_call 178;with_reducible refine (HM.out _).mono ?_;rintro e w1 ⟨rfl,hB1⟩;have hQ1:=place_seq hQ0 HS.out hB1;obtain ⟨x1,y1⟩:=HPC.out _ hQ1))
 all_goals
  go_wp2_with fail
  go_ret;exact ⟨ret_int HWr.out,HPB.out _ hQ1⟩
set_option maxHeartbeats 1000000 in
theorem with_dbl (n:Int) (w:World) :
  Calls Tryz.prog 176 #[.agg #[.int .i64 2,.int .i64 2],.int .i64 n] w fun e w'=>e= .returned (.int .u64 (n % 2*4))∧Below w.heap.size w w':=by
 have HPC:=LH (fun w' h=>place_cells w 2 2 (w':=w') h)
 have HPB:=LH (fun w' h=>place_below w 2 2 (w':=w') h)
 have HM:=LH (fun w=>most_any 2 2 1 4 2 1 w pl_dbl)
 obtain ⟨W,hW⟩:∃W,w.alloc (.cells #[.int .i64 2,.int .i64 2] 236)=W:=⟨_,rfl⟩;have HS:Hid (w.heap.size+1≤W.heap.size):=LH (by rw[←hW];simp);rw[hW] at HPC HPB;have hd:bits BinOp.and IntKind.u64 (IntKind.u64.wrap n) 1=n % 2:=by
  rw[IntKind.wrap_u64,and_lowC _ _ 2 (by omega) (by omega) ⟨1,by decide,by decide,by decide⟩]
  omega
 obtain ⟨R,hR⟩:∃R,n % 2=R:=⟨_,rfl⟩;have hb:0≤R∧R<2:=by omega
 have HWr:Hid (IntKind.u64.wrap (R*4)=R*4):=LH (by rw[IntKind.wrap_u64];omega);rw[hR] at hd ⊢;have HD:=LH hd;clear hd hR hb;go_enter Tryz.func176,Tryz.ntmps176
 go_wp2_with fail
 have HW:=LH hW;clear hW;have hQ0:Below (w.heap.size+1) W W.drew:=(Below.refl _ _).drew;obtain ⟨x0,y0⟩:=HPC.out _ hQ0;have hdd:=HD.out
 go_region_held3 (fun w'=>w'.cell? ⟨w.heap.size,0,none⟩=some (.int .i64 2)∧w'.cell? ⟨w.heap.size,1,none⟩=some (.int .i64 2)) (first | exact ⟨by assumption,by assumption⟩) (first
  | (go_at_call 178;with_reducible refine (HM.out _).mono ?_;rintro e w1 ⟨rfl,hB1⟩;have hQ1:=place_seq hQ0 HS.out hB1;obtain ⟨x1,y1⟩:=HPC.out _ hQ1))
 all_goals
  go_wp2_with fail
  go_ret;exact ⟨ret_int HWr.out,HPB.out _ hQ1⟩
set_option maxHeartbeats 1000000 in
theorem num_far (n:Int) (w:World) (h0:0≤n) (h1:n≤18446744073709551615) :
  Calls Tryz.prog 173 #[.agg #[.int .i64 3,.int .i64 31],.int .u64 n] w fun e w'=>e= .returned (.int .i64 (n / 8 % 536870912))∧Below w.heap.size w w':=by
 have HPC:=LH (fun w' h=>place_cells w 3 31 (w':=w') h)
 have HPB:=LH (fun w' h=>place_below w 3 31 (w':=w') h)
 have HM:=LH (fun w=>most_any 3 31 29 8 536870912 536870911 w pl_far)
 obtain ⟨W,hW⟩:∃W,w.alloc (.cells #[.int .i64 3,.int .i64 31] 236)=W:=⟨_,rfl⟩;have HS:Hid (w.heap.size+1≤W.heap.size):=LH (by rw[←hW];simp);rw[hW] at HPC HPB;have hd:bits BinOp.and IntKind.u64 (n / 8) 536870911=n / 8 % 536870912:=and_lowC _ _ _ (by omega) (by omega) ⟨29,by decide,by decide,by decide⟩
 obtain ⟨R,hR⟩:∃R,n / 8 % 536870912=R:=⟨_,rfl⟩;have hb:0≤R∧R≤4294967295:=by omega
 have HWr:Hid (IntKind.i64.wrap R=R):=LH (IntWalk.i64_in _ (by omega));rw[hR] at hd ⊢;have HD:=LH hd;clear hd hR hb;go_enter Tryz.func173,Tryz.ntmps173
 go_wp2_with fail
 have HW:=LH hW;clear hW;have hQ0:Below (w.heap.size+1) W W.drew:=(Below.refl _ _).drew;obtain ⟨x0,y0⟩:=HPC.out _ hQ0;have hdd:=HD.out
 go_region_held3 (fun w'=>w'.cell? ⟨w.heap.size,0,none⟩=some (.int .i64 3)∧w'.cell? ⟨w.heap.size,1,none⟩=some (.int .i64 31)) (first | exact ⟨by assumption,by assumption⟩) (first
  | (go_at_call 178;with_reducible refine (HM.out _).mono ?_;rintro e w1 ⟨rfl,hB1⟩;have hQ1:=place_seq hQ0 HS.out hB1;obtain ⟨x1,y1⟩:=HPC.out _ hQ1))
 all_goals
  go_wp2_with fail
  go_ret;exact ⟨ret_int HWr.out,HPB.out _ hQ1⟩
set_option maxHeartbeats 1000000 in
theorem with_far (n:Int) (w:World) :
  Calls Tryz.prog 176 #[.agg #[.int .i64 3,.int .i64 31],.int .i64 n] w fun e w'=>e= .returned (.int .u64 (n % 536870912*8))∧Below w.heap.size w w':=by
 have HPC:=LH (fun w' h=>place_cells w 3 31 (w':=w') h)
 have HPB:=LH (fun w' h=>place_below w 3 31 (w':=w') h)
 have HM:=LH (fun w=>most_any 3 31 29 8 536870912 536870911 w pl_far)
 obtain ⟨W,hW⟩:∃W,w.alloc (.cells #[.int .i64 3,.int .i64 31] 236)=W:=⟨_,rfl⟩;have HS:Hid (w.heap.size+1≤W.heap.size):=LH (by rw[←hW];simp);rw[hW] at HPC HPB;have hd:bits BinOp.and IntKind.u64 (IntKind.u64.wrap n) 536870911=n % 536870912:=by
  rw[IntKind.wrap_u64,and_lowC _ _ 536870912 (by omega) (by omega) ⟨29,by decide,by decide,by decide⟩]
  omega
 obtain ⟨R,hR⟩:∃R,n % 536870912=R:=⟨_,rfl⟩;have hb:0≤R∧R<536870912:=by omega
 have HWr:Hid (IntKind.u64.wrap (R*8)=R*8):=LH (by rw[IntKind.wrap_u64];omega);rw[hR] at hd ⊢;have HD:=LH hd;clear hd hR hb;go_enter Tryz.func176,Tryz.ntmps176
 go_wp2_with fail
 have HW:=LH hW;clear hW;have hQ0:Below (w.heap.size+1) W W.drew:=(Below.refl _ _).drew;obtain ⟨x0,y0⟩:=HPC.out _ hQ0;have hdd:=HD.out
 go_region_held3 (fun w'=>w'.cell? ⟨w.heap.size,0,none⟩=some (.int .i64 3)∧w'.cell? ⟨w.heap.size,1,none⟩=some (.int .i64 31)) (first | exact ⟨by assumption,by assumption⟩) (first
  | (go_at_call 178;with_reducible refine (HM.out _).mono ?_;rintro e w1 ⟨rfl,hB1⟩;have hQ1:=place_seq hQ0 HS.out hB1;obtain ⟨x1,y1⟩:=HPC.out _ hQ1))
 all_goals
  go_wp2_with fail
  go_ret;exact ⟨ret_int HWr.out,HPB.out _ hQ1⟩
set_option maxHeartbeats 1000000 in
theorem num_seg (n:Int) (w:World) (h0:0≤n) (h1:n≤18446744073709551615) :
  Calls Tryz.prog 173 #[.agg #[.int .i64 32,.int .i64 63],.int .u64 n] w fun e w'=>e= .returned (.int .i64 (n / 4294967296 % 4294967296))∧Below w.heap.size w w':=by
 have HPC:=LH (fun w' h=>place_cells w 32 63 (w':=w') h)
 have HPB:=LH (fun w' h=>place_below w 32 63 (w':=w') h)
 have HM:=LH (fun w=>most_any 32 63 32 4294967296 4294967296 4294967295 w pl_seg)
 obtain ⟨W,hW⟩:∃W,w.alloc (.cells #[.int .i64 32,.int .i64 63] 236)=W:=⟨_,rfl⟩;have HS:Hid (w.heap.size+1≤W.heap.size):=LH (by rw[←hW];simp);rw[hW] at HPC HPB;have hd:bits BinOp.and IntKind.u64 (n / 4294967296) 4294967295=n / 4294967296 % 4294967296:=and_lowC _ _ _ (by omega) (by omega) ⟨32,by decide,by decide,by decide⟩
 obtain ⟨R,hR⟩:∃R,n / 4294967296 % 4294967296=R:=⟨_,rfl⟩;have hb:0≤R∧R≤4294967295:=by omega
 have HWr:Hid (IntKind.i64.wrap R=R):=LH (IntWalk.i64_in _ (by omega));rw[hR] at hd ⊢;have HD:=LH hd;clear hd hR hb;go_enter Tryz.func173,Tryz.ntmps173
 go_wp2_with fail
 have HW:=LH hW;clear hW;have hQ0:Below (w.heap.size+1) W W.drew:=(Below.refl _ _).drew;obtain ⟨x0,y0⟩:=HPC.out _ hQ0;have hdd:=HD.out
 go_region_held3 (fun w'=>w'.cell? ⟨w.heap.size,0,none⟩=some (.int .i64 32)∧w'.cell? ⟨w.heap.size,1,none⟩=some (.int .i64 63)) (first | exact ⟨by assumption,by assumption⟩) (first
  | (go_at_call 178;with_reducible refine (HM.out _).mono ?_;rintro e w1 ⟨rfl,hB1⟩;have hQ1:=place_seq hQ0 HS.out hB1;obtain ⟨x1,y1⟩:=HPC.out _ hQ1))
 all_goals
  go_wp2_with fail
  go_ret;exact ⟨ret_int HWr.out,HPB.out _ hQ1⟩
set_option maxHeartbeats 1000000 in
theorem with_seg (n:Int) (w:World) :
  Calls Tryz.prog 176 #[.agg #[.int .i64 32,.int .i64 63],.int .i64 n] w fun e w'=>e= .returned (.int .u64 (n % 4294967296*4294967296))∧Below w.heap.size w w':=by
 have HPC:=LH (fun w' h=>place_cells w 32 63 (w':=w') h)
 have HPB:=LH (fun w' h=>place_below w 32 63 (w':=w') h)
 have HM:=LH (fun w=>most_any 32 63 32 4294967296 4294967296 4294967295 w pl_seg)
 obtain ⟨W,hW⟩:∃W,w.alloc (.cells #[.int .i64 32,.int .i64 63] 236)=W:=⟨_,rfl⟩;have HS:Hid (w.heap.size+1≤W.heap.size):=LH (by rw[←hW];simp);rw[hW] at HPC HPB;have hd:bits BinOp.and IntKind.u64 (IntKind.u64.wrap n) 4294967295=n % 4294967296:=by
  rw[IntKind.wrap_u64,and_lowC _ _ 4294967296 (by omega) (by omega) ⟨32,by decide,by decide,by decide⟩]
  omega
 obtain ⟨R,hR⟩:∃R,n % 4294967296=R:=⟨_,rfl⟩;have hb:0≤R∧R<4294967296:=by omega
 have HWr:Hid (IntKind.u64.wrap (R*4294967296)=R*4294967296):=LH (by rw[IntKind.wrap_u64];omega);rw[hR] at hd ⊢;have HD:=LH hd;clear hd hR hb;go_enter Tryz.func176,Tryz.ntmps176
 go_wp2_with fail
 have HW:=LH hW;clear hW;have hQ0:Below (w.heap.size+1) W W.drew:=(Below.refl _ _).drew;obtain ⟨x0,y0⟩:=HPC.out _ hQ0;have hdd:=HD.out
 go_region_held3 (fun w'=>w'.cell? ⟨w.heap.size,0,none⟩=some (.int .i64 32)∧w'.cell? ⟨w.heap.size,1,none⟩=some (.int .i64 63)) (first | exact ⟨by assumption,by assumption⟩) (first
  | (go_at_call 178;with_reducible refine (HM.out _).mono ?_;rintro e w1 ⟨rfl,hB1⟩;have hQ1:=place_seq hQ0 HS.out hB1;obtain ⟨x1,y1⟩:=HPC.out _ hQ1))
 all_goals
  go_wp2_with fail
  go_ret;exact ⟨ret_int HWr.out,HPB.out _ hQ1⟩
set_option maxHeartbeats 2000000 in
theorem rwords_any (p:Pt) (hp:OkP p) (w:World) :
  Calls Tryz.prog 114 #[.agg (cellsP p)] w fun e w'=>e= .returned (.tuple #[.int .i64 (wordN p),.int .i64 (wordE p)])∧Below w.heap.size w w':=by
 obtain ⟨k,o,d,r,s,c,g,b⟩:=p;have HB:∀cs,Below w.heap.size w (w.alloc (.cells cs 70)):=fun cs=>(Below.refl _ _).alloc (Nat.le_refl _) _
 unfold cellsP;dsimp only
 rcases hp with e | ⟨e,h1,h2,h3,h4,h5,h6,h7,h8⟩ | ⟨e,h1,h2,h3,h4,h5,h6,h7⟩ | ⟨e,h1,h2,h3,h4,h5,h6⟩
 ·cases e
  go_enter Tryz.func114,Tryz.ntmps114
  go_wp2_with fail
  go_ret2;exact ⟨rfl,HB _⟩
 ·dsimp only at e h1 h2 h3 h4 h5 h6 h7 h8;subst e h4 h5 h6 h7;have HE:Hid (wordN ⟨1,o,d,r,0,0,0,false⟩=d+r∧wordE ⟨1,o,d,r,0,0,0,false⟩=0):=LH (by simp[wordN,wordE]);have hw:IntKind.i64.wrap (d+r)=d+r:=IntWalk.i64_in _ (by omega);rw[HE.out.1,HE.out.2];clear h8 HE;go_enter Tryz.func114,Tryz.ntmps114
  go_wp2_with fail
  go_ret2;exact ⟨rfl,HB _⟩
 ·dsimp only at e h1 h2 h3 h4 h5 h6 h7;subst e h2 h3 h6 h7
  by_cases s2:s=2
  ·subst s2;have HE:Hid (wordN ⟨2,o,0,0,2,c,0,false⟩=(c+7) / 8∧wordE ⟨2,o,0,0,2,c,0,false⟩=0):=LH (by simp[wordN,wordE]);have hw:IntKind.i64.wrap (c+7)=c+7:=IntWalk.i64_in _ (by omega);have hd:(c+7).tdiv 8=(c+7) / 8:=Int.tdiv_eq_ediv_of_nonneg (by omega);rw[HE.out.1,HE.out.2];clear HE;go_enter Tryz.func114,Tryz.ntmps114
   go_wp2_with fail
   go_ret2;exact ⟨rfl,HB _⟩
  ·have d2:(s == 2)=false:=by simpa using s2
   by_cases s5:s=5
   ·subst s5;have HE:Hid (wordN ⟨2,o,0,0,5,c,0,false⟩=c∧wordE ⟨2,o,0,0,5,c,0,false⟩=0):=LH (by simp[wordN,wordE]);rw[HE.out.1,HE.out.2];clear HE;go_enter Tryz.func114,Tryz.ntmps114
    go_wp2_with fail
    go_ret2;exact ⟨rfl,HB _⟩
   ·have d5:(s == 5)=false:=by simpa using s5
    by_cases s6:s=6
    ·subst s6;have HE:Hid (wordN ⟨2,o,0,0,6,c,0,false⟩=c∧wordE ⟨2,o,0,0,6,c,0,false⟩=0):=LH (by simp[wordN,wordE]);rw[HE.out.1,HE.out.2];clear HE;go_enter Tryz.func114,Tryz.ntmps114
     go_wp2_with fail
     go_ret2;exact ⟨rfl,HB _⟩
    ·have d6:(s == 6)=false:=by simpa using s6
     have HE:Hid (wordN ⟨2,o,0,0,s,c,0,false⟩=0∧wordE ⟨2,o,0,0,s,c,0,false⟩=23):=LH (by simp[wordN,wordE,s2,s5,s6]);rw[HE.out.1,HE.out.2];clear HE s2 s5 s6;go_enter Tryz.func114,Tryz.ntmps114
     go_wp2_with fail
     go_ret2;exact ⟨rfl,HB _⟩
 ·dsimp only at e h1 h2 h3 h4 h5 h6;subst e h2 h3 h4 h5;cases b
  ·have HE:Hid (wordN ⟨3,o,0,0,0,0,g,false⟩=1∧wordE ⟨3,o,0,0,0,0,g,false⟩=0):=LH (by simp[wordN,wordE]);rw[HE.out.1,HE.out.2];clear HE;go_enter Tryz.func114,Tryz.ntmps114
   go_wp2_with fail
   go_ret2;exact ⟨rfl,HB _⟩
  ·have HE:Hid (wordN ⟨3,o,0,0,0,0,g,true⟩=2∧wordE ⟨3,o,0,0,0,0,g,true⟩=0):=LH (by simp[wordN,wordE]);rw[HE.out.1,HE.out.2];clear HE;go_enter Tryz.func114,Tryz.ntmps114
   go_wp2_with fail
   go_ret2;exact ⟨rfl,HB _⟩
theorem low_c (x K B:Int) (w:World) (h:∃k:Nat,k≤62∧K=k∧(2:Int) ^ k=B) :
  Calls Tryz.prog 48 #[.int .i64 x,.int .i64 K] w fun e w'=>e= .returned (.int .u64 (x % B))∧w=w':=by
 obtain ⟨k,hk,rfl,rfl⟩:=h;have h0:0≤IntKind.u64.wrap x∧IntKind.u64.wrap x≤18446744073709551615:=by rw[IntKind.wrap_u64];omega
 have HE:Hid (IntKind.u64.wrap x / 2 ^ 0 % 2 ^ k=x % 2 ^ k):=LH (by
  rw[IntKind.wrap_u64,Int.pow_zero,Int.ediv_one];refine Int.emod_emod_of_dvd x ⟨2 ^ (64 - k),?_⟩;rw[←Int.pow_add,show k+(64 - k)=64 by omega];rfl)
 have HB:=LH (bits_any (IntKind.u64.wrap x) 0 k w h0.1 h0.2 (by omega) hk);rw[HE.out] at HB;clear h0 HE;go_enter Tryz.func48,Tryz.ntmps48
 go_wp2_with fail
 refine HB.out.mono ?_
 rintro e w' ⟨rfl,rfl⟩
 go_wp2_with fail
 go_ret;exact ⟨rfl,rfl⟩
theorem q_low (x K B A:Int) (h:∃k:Nat,k≤62∧K=k∧(2:Int) ^ k=B) (hA:x % B=A) (w:World) (k:Nat):Calls Tryz.prog 48 #[.int .i64 x,.int .i64 K] (w.drewN k) fun e w'=>e= .returned (.int .u64 A)∧∃m,w'=w.drewN m :=
 Calls.quiet_of_same ((low_c x K B _ h).mono fun _ _ ⟨h1,h2⟩=>⟨by rw[h1,hA],h2.symm⟩)
set_option maxHeartbeats 8000000 in
theorem renc_any (p:Pt) (w:World) :
  Calls Tryz.prog 29 #[.agg (cellsP p)] w fun e w'=>e= .returned (.tuple #[.int .u64 (encW p),.int .i64 (encE p)])∧Below w.heap.size w w':=by
 obtain ⟨k,o,d,r,s,c,g,b⟩:=p;have HRaw:Hid (0≤rawW ⟨k,o,d,r,s,c,g,b⟩∧rawW ⟨k,o,d,r,s,c,g,b⟩<18446744073709551616):=LH (rawW_bd _);obtain ⟨N,hN⟩:∃N,rawW ⟨k,o,d,r,s,c,g,b⟩=N:=⟨_,rfl⟩;have HN:=LH hN;rw[hN] at HRaw;clear hN;unfold cellsP;dsimp only;obtain ⟨W0,hW0⟩:∃W0,W0=w.alloc (.cells #[.int .i64 k,.int .i64 o,.int .i64 d,.int .i64 r,.int .i64 s,.int .i64 c,.int .i64 g,.bool b] 70):=⟨_,rfl⟩;have HW0:=LH hW0;clear hW0;go_enter Tryz.func29,Tryz.ntmps29
 go_upto_block 0 with fail
 go_cut [4] (fun s4 wx=>s4= .int .u64 N∧∃m,wx=W0.drewN m)
 case rest =>
  obtain ⟨rfl,m,rfl⟩:=hcut;have hcell:∀w2:World,Below (W0.drewN m).heap.size (W0.drewN m) w2→w2.heap[w.heap.size]? = some (.cells #[.int .i64 k,.int .i64 o,.int .i64 d,.int .i64 r,.int .i64 s,.int .i64 c,.int .i64 g,.bool b] 70 (0,0)):=fun w2 h=>by
   have hs:(W0.drewN m).heap.size=w.heap.size+1:=by rw[HW0.out];simp[World.drewN]
   rw[h.block w.heap.size (by omega)]
   show W0.heap[w.heap.size]? = _
   rw[HW0.out,blk_alloc_new]
  have HC:=LH hcell;clear hcell
  go_wp2_with fail
  refine (rdec_any N _ HRaw.out.1 (by have:=HRaw.out.2;omega)).mono ?_
  rintro e w2 ⟨rfl,hB2⟩;rw[show decE N=0 by rw[←HN.out];exact raw_e _]
  have hc:=HC.out w2 hB2;have HB2:Hid (Below w.heap.size w w2):=LH (by
   have h1:Below w.heap.size w (W0.drewN m):=by rw[HW0.out];exact ⟨rfl,rfl,rfl,by simp[World.drewN],fun k hk=>blk_alloc_lt _ _ _ hk⟩
   exact h1.trans (hB2.mono h1.size))
  have hlt:w.heap.size<w2.heap.size:=(Array.getElem?_eq_some_iff.1 hc).1;obtain ⟨q,hq⟩:∃q,decP N=q:=⟨_,rfl⟩;rw[hq];have HQ:=LH hq;clear hq hB2;have hcw:(w2.alloc (.cells (cellsP q) 70)).heap[w.heap.size]? = some (.cells #[.int .i64 k,.int .i64 o,.int .i64 d,.int .i64 r,.int .i64 s,.int .i64 c,.int .i64 g,.bool b] 70 (0,0)):=(blk_alloc_lt _ _ _ hlt).trans hc;have HBw:Hid (Below w.heap.size w (w2.alloc (.cells (cellsP q) 70))):=LH (HB2.out.alloc HB2.out.size _);have hne:=fun w=>run_neq_P w q ⟨k,o,d,r,s,c,g,b⟩
  have hgd:=fun w op x y xs ys=>run_eqGuard_agg (P:=Tryz.prog) w op 70 x y xs ys (by kernel_rfl)
  unfold cellsP at hcw hne ⊢;dsimp only at hcw hne ⊢;have y0:∀j v,(#[Value.int .i64 k,.int .i64 o,.int .i64 d,.int .i64 r,.int .i64 s,.int .i64 c,.int .i64 g,.bool b])[j]? = some v→(w2.alloc (.cells #[.int .i64 q.kind,.int .i64 q.off,.int .i64 q.data,.int .i64 q.ptrs,.int .i64 q.size,.int .i64 q.count,.int .i64 q.seg,.bool q.dbl] 70)).cell? ⟨w.heap.size,j,none⟩=some v:=fun j v hv=>by simp[World.cell?,hcw,hv]
  have z0:=y0 0 _ rfl;have z1:=y0 1 _ rfl;have z2:=y0 2 _ rfl;have z3:=y0 3 _ rfl;have z4:=y0 4 _ rfl;have z5:=y0 5 _ rfl;have z6:=y0 6 _ rfl;have z7:=y0 7 _ rfl;clear hcw y0 hc hlt;cases hb:eqP q ⟨k,o,d,r,s,c,g,b⟩ with
  | true =>
   rw[hb] at hne;have HE:Hid (encW ⟨k,o,d,r,s,c,g,b⟩=N∧encE ⟨k,o,d,r,s,c,g,b⟩=0):=LH (by
    have:encB ⟨k,o,d,r,s,c,g,b⟩=true:=by unfold encB;rw[raw_e,HN.out,HQ.out,hb];rfl
    unfold encW encE;rw[this,HN.out];exact ⟨rfl,rfl⟩)
   clear hb
   go_wp2_with fail
   go_ret2;exact ⟨by rw[HE.out.1,HE.out.2];rfl,HBw.out⟩
  | false =>
   rw[hb] at hne;have HE:Hid (encW ⟨k,o,d,r,s,c,g,b⟩=0∧encE ⟨k,o,d,r,s,c,g,b⟩=1):=LH (by
    have:encB ⟨k,o,d,r,s,c,g,b⟩=false:=by unfold encB;rw[raw_e,HN.out,HQ.out,hb];rfl
    unfold encW encE;rw[this];exact ⟨rfl,rfl⟩)
   clear hb
   go_wp2_with fail
   go_ret2;exact ⟨by rw[HE.out.1,HE.out.2];rfl,HBw.out⟩
 case first =>
  by_cases k1:k=1
  ·subst k1;obtain ⟨A,hA⟩:∃A,o % 1073741824=A:=⟨_,rfl⟩;obtain ⟨D,hD⟩:∃A,d % 65536=A:=⟨_,rfl⟩;obtain ⟨R,hR⟩:∃A,r % 65536=A:=⟨_,rfl⟩;have HV:Hid (4*A+D*4294967296+R*281474976710656=N):=LH (by rw[←HN.out];simp[rawW,hA,hD,hR]);have QA:=LH (fun w k=>q_low o 30 1073741824 A ⟨30,by decide,rfl,by decide⟩ hA w k)
   have bA:0≤A∧A<1073741824:=by omega
   have QD:=LH (fun w k=>q_low d 16 65536 D ⟨16,by decide,rfl,by decide⟩ hD w k)
   have bD:0≤D∧D<65536:=by omega
   have QR:=LH (fun w k=>q_low r 16 65536 R ⟨16,by decide,rfl,by decide⟩ hR w k)
   have bR:0≤R∧R<65536:=by omega
   clear hA hD hR
   go_wp2_with fail
   go_quiet ((go_at_call 48;first | exact QA.out _ _ | exact QD.out _ _ | exact QR.out _ _))
   go_wp2_with fail
   go_meet;exact ⟨congrArg (Value.int .u64) HV.out,_,by rw[HW0.out]⟩
  have d1:(k == 1)=false:=by simpa using k1
  by_cases k2:k=2
  ·subst k2;obtain ⟨A,hA⟩:∃A,o % 1073741824=A:=⟨_,rfl⟩;obtain ⟨D,hD⟩:∃A,s % 8=A:=⟨_,rfl⟩;obtain ⟨R,hR⟩:∃A,c % 536870912=A:=⟨_,rfl⟩;have HV:Hid (1+4*A+D*4294967296+R*34359738368=N):=LH (by rw[←HN.out];simp[rawW,hA,hD,hR]);have QA:=LH (fun w k=>q_low o 30 1073741824 A ⟨30,by decide,rfl,by decide⟩ hA w k)
   have bA:0≤A∧A<1073741824:=by omega
   have QD:=LH (fun w k=>q_low s 3 8 D ⟨3,by decide,rfl,by decide⟩ hD w k)
   have bD:0≤D∧D<8:=by omega
   have QR:=LH (fun w k=>q_low c 29 536870912 R ⟨29,by decide,rfl,by decide⟩ hR w k)
   have bR:0≤R∧R<536870912:=by omega
   clear hA hD hR
   go_wp2_with fail
   go_quiet ((go_at_call 48;first | exact QA.out _ _ | exact QD.out _ _ | exact QR.out _ _))
   go_wp2_with fail
   go_meet;exact ⟨congrArg (Value.int .u64) HV.out,_,by rw[HW0.out]⟩
  have d2:(k == 2)=false:=by simpa using k2
  by_cases k3:k=3
  ·subst k3;cases b
   ·obtain ⟨A,hA⟩:∃A,o % 536870912=A:=⟨_,rfl⟩;obtain ⟨D,hD⟩:∃A,g % 4294967296=A:=⟨_,rfl⟩;have HV:Hid (2+8*A+D*4294967296=N):=LH (by rw[←HN.out];simp[rawW,hA,hD]);have QA:=LH (fun w k=>q_low o 29 536870912 A ⟨29,by decide,rfl,by decide⟩ hA w k)
    have bA:0≤A∧A<536870912:=by omega
    have QD:=LH (fun w k=>q_low g 32 4294967296 D ⟨32,by decide,rfl,by decide⟩ hD w k)
    have bD:0≤D∧D<4294967296:=by omega
    clear hA hD
    go_wp2_with fail
    go_quiet ((go_at_call 48;first | exact QA.out _ _ | exact QD.out _ _))
    go_wp2_with fail
    go_meet;exact ⟨congrArg (Value.int .u64) HV.out,_,by rw[HW0.out]⟩
   ·obtain ⟨A,hA⟩:∃A,o % 536870912=A:=⟨_,rfl⟩;obtain ⟨D,hD⟩:∃A,g % 4294967296=A:=⟨_,rfl⟩;have HV:Hid (2+8*A+D*4294967296+4=N):=LH (by rw[←HN.out];simp[rawW,hA,hD]);have QA:=LH (fun w k=>q_low o 29 536870912 A ⟨29,by decide,rfl,by decide⟩ hA w k)
    have bA:0≤A∧A<536870912:=by omega
    have QD:=LH (fun w k=>q_low g 32 4294967296 D ⟨32,by decide,rfl,by decide⟩ hD w k)
    have bD:0≤D∧D<4294967296:=by omega
    clear hA hD
    go_wp2_with fail
    go_quiet ((go_at_call 48;first | exact QA.out _ _ | exact QD.out _ _))
    go_wp2_with fail
    go_meet;exact ⟨congrArg (Value.int .u64) HV.out,_,by rw[HW0.out]⟩
  have d3:(k == 3)=false:=by simpa using k3
  have HV:Hid ((0:Int)=N):=LH (by rw[←HN.out];simp[rawW,k1,k2,k3])
  go_wp2_with fail
  go_meet;exact ⟨congrArg (Value.int .u64) HV.out,0,by rw[HW0.out];rfl⟩
end Go.Proofs.YtmmlfnblodfjbaaGreatDoor
