/- Plain facts for layer 10 (tree): each word of an arena that a tree of choices is built as is one of 64 bits. No program is named here. -/
import Derived.Test.YtmmlfnblodfjbaaGreatDoorQTdPlain
import Derived.Test.YtmmlfnblodfjbaaGreatDoorQGenA
import Derived.Test.YtmmlfnblodfjbaaGreatDoorQGenC
namespace Go.Proofs.YtmmlfnblodfjbaaGreatDoor
def Ubd (x:Int):Prop:=0≤x∧x≤18446744073709551615
def ubB (x:Int):Bool:=decide (0≤x) && decide (x≤18446744073709551615)
theorem ubB_is {x:Int} (h:ubB x=true):Ubd x:=by
 unfold ubB at h;unfold Ubd
 simpa using h
theorem ub_zero:Ubd 0:=ubB_is (by decide)
mutual
def UbT:Tr→Prop
 | .mk k z w b ks=>(∀x∈w,Ubd x)∧(∀x∈wordsB b,Ubd x)∧wordN (nearP (.mk k z w b ks) 0)≤300∧UbAll ks
def UbAll:List Tr→Prop
 | []=>True
 | t :: r=>UbT t∧UbAll r
end
theorem near_ub {t:Tr} (_h:wordN (nearP t 0)≤300) (off:Int):Ubd (nearW t off):=encW_in _
theorem far_ub (s p:Nat):Ubd (farW s p):=encW_in _
theorem AllU10.at_ {a:List (List Int)} (h:AllU10 a) (s:Nat):∀x∈a[s]?.getD [],Ubd x:=by
 intro x hx
 by_cases hs:s<a.length
 ·rw[List.getElem?_eq_getElem hs] at hx;exact h _ (List.getElem_mem hs) x hx
 ·rw[List.getElem?_eq_none (by omega)] at hx
  simp at hx
theorem AllU10.put {a:List (List Int)} (h:AllU10 a) (s:Nat) {l:List Int} (hl:∀x∈l,Ubd x):AllU10 (a.set s l):=by
 intro m hm
 rcases List.mem_or_eq_of_mem_set hm with e | e
 ·exact h m e
 ·rw[e];exact hl
theorem AllU10.set {a:List (List Int)} (h:AllU10 a) (s i:Nat) {x:Int} (hx:Ubd x):AllU10 (a.set s ((a[s]?.getD []).set i x)):=by
 refine h.put s fun y hy=> ?_
 rcases List.mem_or_eq_of_mem_set hy with e | e
 ·exact h.at_ s y e
 ·rw[e];exact hx
theorem AllU10.more {a:List (List Int)} (h:AllU10 a) (g:Nat) {l:List Int} (hl:∀x∈l,Ubd x):AllU10 (moreA a g l):=by
 have h2:AllU10 (if g=a.length then a ++ [[]] else a):=by
  split
  ·intro m hm
   rcases List.mem_append.1 hm with e | e
   ·exact h m e
   ·simp at e;rw[e];intro x hx;simp at hx
  ·exact h
 unfold moreA;refine h2.put g fun x hx=> ?_
 rcases List.mem_append.1 hx with e | e
 ·exact h2.at_ g x e
 ·exact hl x e
theorem content_ub {k z:Int} {w b:List Int} {ks:List Tr} (hw:∀x∈w,Ubd x) (hb:∀x∈wordsB b,Ubd x):∀x∈contentT (.mk k z w b ks),Ubd x:=by
 intro x hx;unfold contentT at hx
 rcases List.mem_append.1 hx with e | e
 ·rcases List.mem_append.1 e with e | e
  ·exact hw x e
  ·exact hb x e
 ·rw[(List.mem_replicate.1 e).2];exact ub_zero
theorem laySt_ub {sz:Nat} {t:Tr} {st:St} {s i:Nat} (h:AllU10 st.a) (hn:wordN (nearP t 0)≤300) (hc:∀x∈contentT t,Ubd x):AllU10 (laySt sz t st s i).1.a:=by
 have h1:∀x∈[nearW t 0],Ubd x:=fun x hx=>by
  rw[List.mem_singleton.1 hx];exact near_ub hn 0
 unfold laySt;dsimp only
 split
 ·exact (h.set s i (near_ub hn _)).more _ hc
 ·exact ((h.set s i (far_ub _ _)).more _ h1).more _ hc
mutual
theorem lay_ub {sz:Nat}:(t:Tr)→(st:St)→(s i:Nat)→AllU10 st.a→UbT t→AllU10 (lay sz t st s i).a
 | .mk k z w b ks,st,s,i,h,ht=>by
  unfold UbT at ht;obtain ⟨h1,h2,h3,h4⟩:=ht;unfold lay
  split
  ·exact h
  ·split
   ·exact h.set s i (near_ub h3 _)
   ·exact layAll_ub ks _ _ _ (laySt_ub h h3 (content_ub h1 h2)) h4
theorem layAll_ub {sz:Nat}:(l:List Tr)→(st:St)→(s p:Nat)→AllU10 st.a→UbAll l→AllU10 (layAll sz l st s p).a
 | [],st,s,p,h,_=>by unfold layAll;exact h
 | t :: r,st,s,p,h,hl=>by
  unfold UbAll at hl;unfold layAll;exact layAll_ub r _ s (p+1) (lay_ub t st s p h hl.1) hl.2
end
theorem build_ub {t:Tr} (ht:UbT t) (z:Int):AllU10 (buildT t z).1:=by
 unfold buildT
 split
 ·intro l hl;simp at hl
 ·split
  ·intro l hl;simp at hl
  ·refine lay_ub t ⟨[[0]],false⟩ 0 0 ?_ ht;intro l hl x hx
   simp at hl
   subst hl
   simp at hx
   rw[hx];exact ub_zero
theorem words_ub:(List.range 256).all (fun k=>(k % 8 != 3 || (wordsC k).all ubB) && ((k % 8 == 3 || (wordsD k).all ubB) && (k % 8 != 1 && k % 8 != 2 || (wordsB (bytesC k)).all ubB)))=true:=by decide +kernel
theorem words_ofU {k:Nat} (hk:k<256):(k % 8=3→∀x∈wordsC k,Ubd x)∧(k % 8≠3→∀x∈wordsD k,Ubd x)∧(k % 8=1∨k % 8=2→∀x∈wordsB (bytesC k),Ubd x):=by
 have h:=List.all_eq_true.1 words_ub k (List.mem_range.2 hk);simp only[Bool.and_eq_true,Bool.or_eq_true,bne_iff_ne,beq_iff_eq,List.all_eq_true] at h;obtain ⟨h1,h2,h3⟩:=h;refine ⟨fun e x hx=> ?_,fun e x hx=> ?_,fun e x hx=> ?_⟩
 ·rcases h1 with h | h
  ·exact absurd e h
  ·exact ubB_is (h x hx)
 ·rcases h2 with h | h
  ·exact absurd h e
  ·exact ubB_is (h x hx)
 ·rcases h3 with h | h
  ·omega
  ·exact ubB_is (h x hx)
def UbC (p:Tr × List Int):Prop:=UbT p.1∧InB p.2
theorem ub_nil:UbT Tr.nil:=by
 unfold Tr.nil UbT UbAll;refine ⟨fun x hx=>by simp at hx,fun x hx=> ?_,by decide,trivial⟩
 simp[wordsB] at hx
theorem kidsC_ub {f:List Int→Tr × List Int} (hf:∀c,InB c→UbC (f c)):(n:Nat)→(c:List Int)→InB c→UbAll (kidsC f n c).1∧InB (kidsC f n c).2
 | 0,c,h=>by
  unfold kidsC UbAll;exact ⟨trivial,h⟩
 | n+1,c,h=>by
  obtain ⟨a1,a2⟩:=hf c h;obtain ⟨b1,b2⟩:=kidsC_ub hf n (f c).2 a2;unfold kidsC UbAll;exact ⟨⟨a1,b1⟩,b2⟩
theorem treeC_ub:(d:Nat)→(c:List Int)→InB c→UbC (treeC d c)
 | 0,c,h=>⟨ub_nil,h⟩
 | d+1,[],h=>⟨ub_nil,h⟩
 | d+1,k :: c,h=>by
  have hk:=h k (List.mem_cons_self ..);have hc:InB c:=fun x hx=>h x (List.mem_cons_of_mem _ hx)
  obtain ⟨e1,e2,e3⟩:=words_ofU (k:=k.toNat) (by omega);have lb:(bytesC k.toNat).length=3*(k.toNat / 8 % 5)+k.toNat % 2:=by simp[bytesC]
  have lw:(wordsC k.toNat).length=k.toNat / 8 % 5:=by simp[wordsC]
  have lx:(wordsD k.toNat).length=k.toNat / 64 % 4:=by simp[wordsD]
  obtain ⟨a1,a2⟩:=kidsC_ub (treeC_ub d) (k.toNat / 8 % 5) c hc;obtain ⟨-,-,-,a4⟩:=kidsC_fine (treeC_fine d) (k.toNat / 8 % 5) c;have hb0:∀x∈wordsB [],Ubd x:=fun x hx=>by simp[wordsB] at hx
  rw[treeC_eq];unfold UbC;generalize kidsC (treeC d) (k.toNat / 8 % 5) c=q at *
  split
  ·exact ⟨ub_nil,hc⟩
  ·split
   ·refine ⟨?_,hc⟩;dsimp only;unfold UbT UbAll;refine ⟨fun x hx=>by simp at hx,e3 (by assumption),?_,trivial⟩
    unfold nearP wordN
    simp[Tr.kind,Tr.size,Tr.words,Tr.kids,Tr.bytes]
    omega
   ·split
    ·refine ⟨?_,hc⟩;dsimp only;unfold UbT UbAll;refine ⟨e1 (by assumption),hb0,?_,trivial⟩;unfold nearP wordN
     simp[Tr.kind,Tr.size,Tr.words,Tr.kids,Tr.bytes]
     omega
    ·split
     ·refine ⟨?_,a2⟩;dsimp only;unfold UbT;refine ⟨fun x hx=>by simp at hx,hb0,?_,a1⟩
      unfold nearP wordN
      simp[Tr.kind,Tr.size,Tr.words,Tr.kids,Tr.bytes]
      omega
     ·refine ⟨?_,a2⟩;dsimp only;unfold UbT;refine ⟨e2 (by assumption),hb0,?_,a1⟩;unfold nearP wordN
      simp[Tr.kind,Tr.words,Tr.kids]
      omega
end Go.Proofs.YtmmlfnblodfjbaaGreatDoor
namespace Go.Proofs.YtmmlfnblodfjbaaGreatDoor
open Go.RowKit Go.Deep
theorem tree_all:(d:Nat)→d≤1000→TreeS d
 | 0,_=>fun c v w B hB h _=>tree_none 0 c v w B hB h (.inr rfl)
 | d+1,hd=>by
  intro c v w B hB h hc;cases c with
  | nil=>exact tree_none (d+1) [] v w B hB h (.inl rfl)
  | cons k r =>
   have hk:=hc k (List.mem_cons_self ..);have hr:AllB r:=fun x hx=>hc x (List.mem_cons_of_mem _ hx)
   obtain ⟨K,rfl⟩:=Int.eq_ofNat_of_zero_le hk.1;have hK:K≤255:=by omega
   have ih:=tree_all d (by omega);rw[Int.natCast_add]
   rcases (show (K:Int) % 8=0∨((K:Int) % 8=1∨(K:Int) % 8=2)∨(K:Int) % 8=3∨(K:Int) % 8=7∨((K:Int) % 8=4∨(K:Int) % 8=5∨(K:Int) % 8=6) by omega) with hq | hq | hq | hq | hq
   ·exact tree_null d (by omega) K hK r v w B hB h hr hq
   ·exact tree_bytes d (by omega) K hK r v w B hB h hr hq
   ·exact tree_words d (by omega) K hK r v w B hB h hr hq
   ·exact tree_list d (by omega) ih K hK r v w B hB h hr hq
   ·exact tree_struct d (by omega) ih K hK r v w B hB h hr hq
end Go.Proofs.YtmmlfnblodfjbaaGreatDoor
