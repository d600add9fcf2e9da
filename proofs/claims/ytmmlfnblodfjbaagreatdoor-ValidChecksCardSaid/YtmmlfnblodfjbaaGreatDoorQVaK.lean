/- Layer 11: what the package's four calls must pay. -/
import Derived.Test.YtmmlfnblodfjbaaGreatDoorQVaP
import Derived.Test.YtmmlfnblodfjbaaGreatDoorQLaid
import Derived.Test.YtmmlfnblodfjbaaGreatDoorQAr
import Derived.Test.YtmmlfnblodfjbaaGreatDoorQWord
import Derived.Test.YtmmlfnblodfjbaaGreatDoorQBuH
import Derived.Test.YtmmlfnblodfjbaaGreatDoorQSpanB
set_option maxRecDepth 100000
namespace Go.Proofs.YtmmlfnblodfjbaaGreatDoor
open Go.RowKit Go.Deep
structure ValidOK:Prop where
 check:∀(v:Value) (ls:List (List Int)) (w:World),Laid w→ArV w w.heap.size v ls→ls.length≤10000000000000→AllU ls →
  Calls Tryz.prog 24 #[v] w fun e w'=>e= .returned (.int .u16 (checkT ls))∧Below w.heap.size w w'
 equal:∀(v u:Value) (a b:List (List Int)) (w:World),Laid w→ArV w w.heap.size v a→ArV w w.heap.size u b→a.length≤10000000000000→b.length≤10000000000000→AllU a→AllU b →
  Calls Tryz.prog 17 #[v,u] w fun e w'=>e= .returned (.bool (equalT a b))∧Below w.heap.size w w'
 touched:∀(v sv:Value) (ls:List (List Int)) (ks:List Int) (i:Int) (w:World),Laid w→ArV w w.heap.size v ls→ls.length≤1000000000→AllU ls→NumS .i64 w w.heap.size sv ks→All64 ks→In64 i →
  Calls Tryz.prog 20 #[v,.agg #[sv,.int .i64 i]] w fun e w'=>∃u,e= .returned (.tuple #[u,.int .u16 (touchV ls ks i).2])∧Spans w' w'.heap.size u (touchV ls ks i).1∧Below w.heap.size w w'
def CanonOK:Prop :=
 ∀(v:Value) (ls:List (List Int)) (w:World),Laid w→ArV w w.heap.size v ls→ls.length≤10000000000000→AllU ls →
  Calls Tryz.prog 16 #[v] w fun e w'=>∃u,e= .returned (.tuple #[u,.int .u16 (canonT ls).2])∧ArV w' w'.heap.size u (canonT ls).1∧Below w.heap.size w w'
theorem seven11_V (w:World):TrV (w.alloc (.cells #[.int .u64 7] 44)) (w.alloc (.cells #[.int .u64 7] 44)).heap.size seven11 (.agg (cellsT 1 0 (.slice (some ⟨w.heap.size,0,none⟩) 1 1) (.slice none 0 0) (.slice none 0 0))):=by
 unfold seven11 TrV;refine ⟨_,_,none,0,rfl,⟨⟨by decide,by decide⟩,⟨by decide,by decide⟩,by simp,by simp,by simp,by simp,by simp⟩,⟨_,1,rfl,by simp,by omega,fun _=>⟨w.heap.size,0,rfl,by simp,fun j hj=> ?_⟩⟩,⟨none,0,rfl,by simp,by omega,fun h=>by simp at h⟩,by simp,by omega,fun h=>by simp at h⟩
 obtain rfl:j=0:=by simp at hj;omega
 have hb:(w.alloc (.cells #[.int .u64 7] 44)).heap[w.heap.size]? = some (.cells #[.int .u64 7] 44 (0,0)):=blk_alloc_new _ _;unfold World.cell?;dsimp only;rw[hb]
 rfl
set_option maxHeartbeats 2000000 in
theorem known11_any (H:ValidOK) (w:World) (L:Laid w):Calls Tryz.prog 10 #[] w fun e w'=>e= .returned (.bool true)∧Below w.heap.size w w':=by
 obtain ⟨W1,hW1⟩:∃W1,W1=w.alloc (.cells #[.int .u64 7] 44):=⟨_,rfl⟩;have hB1:Below w.heap.size w W1:=by rw[hW1];exact (Below.refl _ _).alloc (Nat.le_refl _) _
 have h7:=seven11_V w;rw[←hW1] at h7;have HA:=LH (rbuild_any seven11 _ 9 W1 h7);rw[seven11_build] at HA;unfold cellsT at HA;have hu:AllU [[4294967296,7]]:=by
  intro s hs x hx
  simp at hs
  subst hs
  simp at hx
  omega
 have HT:=LH (fun X (hX:Below w.heap.size w X) v (hv:ArV X X.heap.size v [[4294967296,7]])=>H.touched v (.slice none 0 0) _ [] 0 X (L.on hX) hv (by simp) hu (NumS.nil _ _ _) (fun x hx=>by cases hx) ⟨by decide,by decide⟩)
 rw[seven11_touch] at HT;have HC:=LH (fun X (hX:Below w.heap.size w X) v (hv:ArV X X.heap.size v [[4294967296,7]])=>H.check v _ X (L.on hX) hv (by simp) hu)
 rw[seven11_check] at HC;have HN:=LH (fun X (hX:Below w.heap.size w X)=>H.check (.slice none 0 0) [] X (L.on hX) ⟨none,0,rfl,by simp,by omega,fun h=>by simp at h⟩ (by simp) (fun s hs=>by cases hs))
 rw[nil11_check] at HN;have HE:=LH (fun X (hX:Below w.heap.size w X) v (hv:ArV X X.heap.size v [[4294967296,7]])=>H.equal v v _ _ X (L.on hX) hv hv (by simp) (by simp) hu hu)
 rw[seven11_equal] at HE;have HB1:=LH hB1;clear h7 hu hB1 H L;go_enter Tryz.func10,Tryz.ntmps10
 go_wp2_with fail
 rw[←hW1];clear hW1;refine HA.out.mono ?_
 rintro e w2 ⟨A,n,c,rfl,ha,hB2⟩;have HA2:=LH ha;have HB2:=LH (HB1.out.trans (hB2.mono HB1.out.size));clear ha hB2
 go_wp2_with fail
 refine (HT.out w2 HB2.out _ HA2.out).mono ?_
 rintro e w3 ⟨u,rfl,hu,hB3⟩;have HA3:=LH (HA2.out.on hB3);have HB3:=LH (HB2.out.trans (hB3.mono HB2.out.size));obtain ⟨A3,c3,rfl,-,-,hr⟩:=hu;obtain ⟨b,off,rfl,hb,hcell⟩:=hr (by decide);obtain ⟨p0,p1⟩:=hcell 0 (by decide);rw[Nat.zero_mul,Nat.add_zero] at p0 p1;have p0':w3.cell? ⟨b,off,none⟩=some (.int .i64 0):=p0;have p1':w3.cell? ⟨b,off+1,none⟩=some (.int .i64 2):=p1;have hl1:([(0,2)]:List Sp).length=1:=rfl;rw[hl1];clear hr hcell p0 p1 hB3 hl1
 go_wp2_with fail
 refine (HC.out w3 HB3.out _ HA3.out).mono ?_
 rintro e w4 ⟨rfl,hB4⟩;have HA4:=LH (HA3.out.on hB4);have HB4:=LH (HB3.out.trans (hB4.mono HB3.out.size));clear hB4 p0' p1'
 go_wp2_with fail
 refine (HN.out w4 HB4.out).mono ?_
 rintro e w5 ⟨rfl,hB5⟩;have HA5:=LH (HA4.out.on hB5);have HB5:=LH (HB4.out.trans (hB5.mono HB4.out.size));clear hB5
 go_wp2_with fail
 refine (HE.out w5 HB5.out _ HA5.out).mono ?_
 rintro e w6 ⟨rfl,hB6⟩;have HB6:=LH (HB5.out.trans (hB6.mono HB5.out.size));clear hB6
 go_wp2_with fail
 go_ret;exact ⟨rfl,HB6.out⟩
end Go.Proofs.YtmmlfnblodfjbaaGreatDoor
