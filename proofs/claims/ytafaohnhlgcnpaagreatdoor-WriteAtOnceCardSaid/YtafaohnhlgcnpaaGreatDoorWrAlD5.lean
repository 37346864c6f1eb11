/-
 What stage 12 rests on.
-/
import Derived.Test.YtafaohnhlgcnpaaGreatDoorWrAlC2
import Derived.Test.YtafaohnhlgcnpaaGreatDoorWrAlC1
import Derived.Deep.WholeRow
set_option maxRecDepth 100000
set_option maxHeartbeats 16000000
namespace Go.Proofs.YtafaohnhlgcnpaaGreatDoor
open Go.RowKit
/-! ### eY -/
def bL (n h t:Nat):Nat:=(h+t) % n
theorem jX {n:Nat} (hn:0<n) (h t:Nat):bL n h t<n:=Nat.mod_lt _ hn
theorem yx {n h t:Nat} (ht:t<n):bL n h t=if h % n+t<n then h % n+t else h % n+t-n:=by
 have hn:0<n:=oZ;have h1:=Nat.mod_lt h hn;unfold bL;rw[Nat.add_mod,Nat.mod_eq_of_lt ht];split
 ·rw[Nat.mod_eq_of_lt aZ]
 ·rw[Nat.mod_eq_sub_mod oZ,Nat.mod_eq_of_lt oZ]
abbrev bK:=Nat->Option (Int×List Nat)
def bK.Le (d d':bK):Prop:=∀ i x,d i=some x->d' i=some x
theorem bK.Le.refl (d:bK):d.Le d:=fun _ _ h=>h
def bK.put (d:bK) (i:Nat) (x:Int×List Nat) (j:Nat):Option (Int×List Nat):=if j=i then some x else d j
structure xP (cs:List Int) (a:Int) (k:List Nat):Prop where
 len:cs.getD (a+1).toNat 0=(k.length:Int)
 cells:∀ j x:Nat,(aF k)[j]?=some x->cs.getD (a+2+(j:Int)).toNat 0=(x:Int)
def Passed (n:Nat) (d:bK) (k:List Nat) (t:Nat):Prop:=∀ u,u<t->∃ b k',d (bL n (bZ k) u)=some (b,k')/\k'≠k
structure fI (n:Nat) (s lo hi:Int) (d:bK) (cs:List Int):Prop where
 n0:0<n
 lo0:3<=lo
 lohi:lo<=hi
 his:hi<=s
 len:s+(n:Int)<=cs.length
 slot:∀ i,i<n->cs.getD (s+(i:Int)).toNat 0=match d i with | none=>0 | some x=>x.1
 rec_:∀ i a k,d i=some (a,k)->lo<=a/\a+2+((aF k).length:Int)<=hi/\xP cs a k/\(∀ x∈k,x<256)/\k.length<=100
 probe:∀ i a k,d i=some (a,k)->∃ t,t<n/\i=bL n (bZ k) t/\Passed n d k t
def Good (n:Nat) (k:List Nat) (d:bK) (x:Int×Int):Prop :=
 (∃ t,t<n/\x.2=(bL n (bZ k) t:Nat)/\Passed n d k t/\((d (bL n (bZ k) t)=none/\x.1=0)∨d (bL n (bZ k) t)=some (x.1,k)))∨(x.1=0/\x.2=-1/\Passed n d k n)
def Has (d:bK) (k:List Nat) (a:Int):Prop:=∃ i,d i=some (a,k)
section
variable {n:Nat} {s lo hi:Int} {d d':bK} {cs:List Int} {k:List Nat}
theorem fI.pos (h:fI n s lo hi d cs) {a:Int} (ha:Has d k a):3<=a:=by
 obtain⟨i,hi⟩:=ha;have:=(h.rec_ i a k hi).1;have:=h.lo0;omega
theorem Passed.le {t:Nat} (h:Passed n d k t) (hl:d.Le d'):Passed n d' k t:=fun u hu=>by
 obtain⟨b,k',h1,h2⟩:=h u hu;exact⟨b,k',hl _ _ h1,h2⟩
theorem fI.only (h:fI n s lo hi d cs) {i j:Nat} {a b:Int} (hi:d i=some (a,k)) (hj:d j=some (b,k)):i=j:=by
 obtain⟨t,ht,rfl,hp⟩:=h.probe i a k hi;obtain⟨u,hu,rfl,hq⟩:=h.probe j b k hj;rcases Nat.lt_trichotomy t u with e | e | e
 ·obtain⟨c,k',h1,h2⟩:=hq t e;rw[hi] at h1;cases h1;exact absurd rfl h2
 ·rw[e]
 ·obtain⟨c,k',h1,h2⟩:=hp u e;rw[hj] at h1;cases h1;exact absurd rfl h2
theorem fI.has_eq (h:fI n s lo hi d cs) {a b:Int} (ha:Has d k a) (hb:Has d k b):a=b:=by
 obtain⟨i,hi⟩:=ha;obtain⟨j,hj⟩:=hb;have:=h.only hi hj;subst this;rw[hi] at hj;cases hj;rfl
theorem Good.spec (h:fI n s lo hi d cs) {x:Int×Int} (hg:Good n k d x):(Has d k x.1/\x.1≠0)∨(x.1=0/\∀ a,¬ Has d k a):=by
 have none_of:∀ t,t<=n->Passed n d k t->(t<n->d (bL n (bZ k) t)=none)->∀ a,¬ Has d k a:=by
  rintro t htn hp hnone a ⟨i,hi⟩;obtain⟨u,hu,rfl,hq⟩:=h.probe i a k hi;rcases Nat.lt_trichotomy u t with e | e | e
  ·obtain⟨c,k',h1,h2⟩:=hp u e;rw[hi] at h1;cases h1;exact absurd rfl h2
  ·subst e;rw[hnone hu] at hi;cases hi
  ·obtain⟨c,k',h1,h2⟩:=hq t e;rw[hnone oZ] at h1;cases h1
 rcases hg with ⟨t,ht,_,hp,⟨h1,h2⟩ | h1⟩ | ⟨h1,_,hp⟩
 ·exact .inr ⟨h2,none_of t oZ hp fun _=>h1⟩
 ·have hh:Has d k x.1:=⟨_,h1⟩;exact .inl ⟨hh,by have:=h.pos hh;omega⟩
 ·exact .inr ⟨h1,none_of n (Nat.le_refl _) hp fun h=>oZ⟩
end
/-! ### Find -/
def rG {α:Type} (yes no:Pr α):List Nat->Int->Pr α
 | [],_=>yes
 | c :: cs,x=>.load x fun v=>if v=(c:Int) then rG yes no cs (x+1) else no
def fR (s:Int) (n:Nat) (k:List Nat):Nat->Nat->Pr (Int×Int)
 | 0,_=>.ret (0,-1)
 | m+1,t=>.load (s+(bL n (bZ k) t:Nat)) fun a=>if a=0 then .ret (0,(bL n (bZ k) t:Nat)) else .load (a+1) fun l=>if l=((k.length % 4294967296:Nat):Int) then rG (.ret (a,(bL n (bZ k) t:Nat))) (fR s n k m (t+1)) (aF k) (a+2) else fR s n k m (t+1)
def jf (s n:Int) (k:List Nat):Pr (Int×Int):=if n<1 then .ret (0,-1) else fR s n.toNat k n.toNat 0
section
variable {n:Nat} {s lo top:Int} {C:Nat} {k:List Nat} {d0:bK}
end
/-! ### Put -/
def iW {α:Type} (rest:Pr α):List Nat->Int->Pr α
 | [],_=>rest
 | c :: l,x=>.store x (c:Int) (iW rest l (x+1))
abbrev DJ:=Int×(Nat->Int)×Int
def gp (B S U:Nat->Int) (s slot:Int) (k:List Nat):Pr DJ :=
 if 2+((aF k).length:Int)<=S 4-U 4 then .store (B 4+U 4+1) (k.length:Int) (iW (.store (s+slot) (B 4+U 4) (.ret (B 4+U 4,more U 4 (2+((aF k).length:Int)),0))) (aF k) (B 4+U 4+2))
 else .ret (0,fun _=>0,3)
def xk:List Int->Nat->List Nat->List Int
 | cs,_,[]=>cs
 | cs,p,c :: l=>xk (cs.set p (c:Int)) (p+1) l
theorem uj:∀ (l:List Nat) (cs:List Int) (p:Nat),(xk cs p l).length=cs.length
 | [],_,_=>rfl
 | c :: l,cs,p=>by unfold xk;rw[uj l];simp
theorem fA (cs:List Int) (p q:Nat) (v:Int):(cs.set p v).getD q 0=if p=q/\p<cs.length then v else cs.getD q 0:=by
 rw[List.getD_eq_getElem?_getD,List.getElem?_set];by_cases h:p=q
 ·subst h;by_cases h2:p<cs.length
  ·simp[h2]
  ·simp[h2,List.getD_eq_getElem?_getD]
 ·simp[h,List.getD_eq_getElem?_getD]
theorem uW:∀ (l:List Nat) (cs:List Int) (p q:Nat),q<p∨p+l.length<=q->(xk cs p l).getD q 0=cs.getD q 0
 | [],_,_,_,_=>rfl
 | c :: l,cs,p,q,h=>by
  simp only[List.length_cons] at h;unfold xk;rw[uW l _ _ _ oZ,fA,if_neg oZ]
theorem EN:∀ (l:List Nat) (cs:List Int) (p j x:Nat),p+l.length<=cs.length->l[j]?=some x->(xk cs p l).getD (p+j) 0=(x:Int)
 | [],_,_,_,_,_,h=>by simp at h
 | c :: l,cs,p,j,x,hl,h=>by
  simp only[List.length_cons] at hl;unfold xk;cases j with
  | zero =>
   simp at h;subst h;rw[uW l _ _ _ oZ,fA,if_pos oZ]
  | succ j =>
   simp at h;rw[show p+(j+1)=(p+1)+j by omega];exact EN l _ _ j x uZ h
theorem ul {α:Type} {rest:Pr α} {x:α} {cs':List Int} {n:Nat}:∀ (l:List Nat) (cs:List Int) (p:Nat),(∀ c∈l,c<4294967296)->p+l.length<=cs.length->Does rest (xk cs p l) n x cs'->Does (iW rest l (p:Int)) cs (n+l.length) x cs'
 | [],_,_,_,_,h=>h
 | c :: l,cs,p,hc,hl,h=>by
  simp only[List.length_cons] at hl;unfold xk at h;have:=ul l (cs.set p (c:Int)) (p+1) (fun y hy=>hc y (by simp[hy])) uZ h;unfold iW;refine .store oZ oZ ?_;rw[u32_in (v:=(c:Int)) ⟨oZ,by have:=hc c sZ;omega⟩,Int.toNat_natCast];exact this
theorem cells_lt {k:List Nat} (hk:∀ x∈k,x<256):∀ c∈aF k,c<4294967296:=by
 intro c hc;obtain⟨j,_,rfl⟩:=List.mem_map.1 hc;exact GU hk j
theorem xP.of {cs cs':List Int} {a:Int} {k:List Nat} (h:xP cs a k) (ha:0<=a) {top:Int} (ht:a+2+((aF k).length:Int)<=top) (hs:∀ q:Nat,(q:Int)<top->cs'.getD q 0=cs.getD q 0):xP cs' a k :=
 ⟨by rw[hs _ oZ];exact h.len,fun j x hj=>by
  have:=(eZ.1 hj).1;rw[hs _ oZ];exact h.cells j x hj⟩
theorem fI.put {n:Nat} {s:Int} {B S U:Nat->Int} {d:bK} {cs:List Int} {k:List Nat} (h:fI n s (B 4) (B 4+U 4) d cs) (hk:∀ x∈k,x<256) (hkl:k.length<=100) (hs:B 4+S 4<=s) (hlen:cs.length<=1000000) {t:Nat} (ht:t<n) (hp:Passed n d k t) (hd:d (bL n (bZ k) t)=none) (hf:2+((aF k).length:Int)<=S 4-U 4) :
  ∃ cs',Does (gp B S U s ((bL n (bZ k) t:Nat):Int) k) cs ((aF k).length+2) (B 4+U 4,more U 4 (2+((aF k).length:Int)),0) cs'/\cs'.length=cs.length/\fI n s (B 4) (B 4+more U 4 (2+((aF k).length:Int)) 4) (d.put (bL n (bZ k) t) (B 4+U 4,k)) cs'/\d.Le (d.put (bL n (bZ k) t) (B 4+U 4,k)):=by
 have hn:=h.n0;have hsl:=jX hn (bZ k) t;have hln:=h.len;have hlo:=h.lo0;have hlh:=h.lohi;obtain⟨i,hi⟩:∃ i,i=bL n (bZ k) t:=⟨_,rfl⟩;obtain⟨a,ha⟩:∃ a,a=B 4+U 4:=⟨_,rfl⟩;obtain⟨p,hpa⟩:∃ p:Nat,a=(p:Int):=⟨a.toNat,oZ⟩;obtain⟨m,hm⟩:∃ m,m=(aF k).length:=⟨_,rfl⟩;obtain⟨z,hz⟩:∃ z:Nat,s=(z:Int):=⟨s.toNat,oZ⟩;have hmore:B 4+more U 4 (2+(m:Int)) 4=a+2+(m:Int):=by unfold more;rw[if_pos rfl];omega
 rw[<- hi] at hd hsl ⊢;rw[<- ha] at h ⊢;rw[<- hm,hmore];rw[<- hm] at hf
 have hle:d.Le (d.put i (a,k)):=by
  intro j x hj;unfold bK.put;rw[if_neg (by rintro rfl;rw[hd] at hj;cases hj)];exact hj
 obtain⟨cs1,h1⟩:∃ cs1,cs1=cs.set (p+1) (k.length:Int):=⟨_,rfl⟩;obtain⟨cs2,h2⟩:∃ cs2,cs2=xk cs1 (p+2) (aF k):=⟨_,rfl⟩;obtain⟨cs3,h3⟩:∃ cs3,cs3=cs2.set (z+i) (p:Int):=⟨_,rfl⟩;have l1:cs1.length=cs.length:=by rw[h1];simp
 have l2:cs2.length=cs.length:=by rw[h2,uj,l1]
 have l3:cs3.length=cs.length:=by rw[h3];simp[l2]
 have g3:∀ q:Nat,cs3.getD q 0=if z+i=q then(p:Int) else cs2.getD q 0:=by
  intro q;rw[h3,fA];by_cases e:z+i=q
  ·rw[if_pos ⟨e,oZ⟩,if_pos e]
  ·rw[if_neg (fun x=>e x.1),if_neg e]
 have g2:∀ q:Nat,q<p+2∨p+2+m<=q->cs2.getD q 0=cs1.getD q 0:=by
  intro q hq;rw[h2];exact uW _ _ _ _ oZ
 have g1:∀ q:Nat,q≠p+1->cs1.getD q 0=cs.getD q 0:=by
  intro q hq;rw[h1,fA,if_neg oZ]
 have old:∀ q:Nat,(q:Int)<a->cs3.getD q 0=cs.getD q 0:=fun q hq=>by rw[g3,if_neg oZ,g2 _ oZ,g1 _ oZ]
 refine⟨cs3,?_,l3,⟨hn,hlo,oZ,oZ,by rw[l3];exact hln,?_,?_,?_⟩,hle⟩
 ·unfold gp;rw[<- hm,if_pos oZ,<- ha];refine .store oZ oZ ?_;rw[u32_in (v:=(k.length:Int)) ⟨oZ,oZ⟩,show (a+1).toNat=p+1 by omega,<- h1,show a+2=((p+2:Nat):Int) by omega]
  have:=ul (rest:=.store (s+(i:Int)) a (.ret (a,more U 4 (2+(m:Int)),(0:Int)))) (n:=1) (x:=(a,more U 4 (2+(m:Int)),(0:Int))) (cs':=cs3) (aF k) cs1 (p+2) (cells_lt hk) oZ (by
   rw[<- h2];refine .store oZ oZ ?_;rw[u32_in (v:=a) ⟨oZ,oZ⟩,show (s+(i:Int)).toNat=z+i by omega,hpa,<- h3];exact .ret _ _)
  rw[show 1+(aF k).length=m+1 by omega] at this;exact this
 ·intro j hj;by_cases e:j=i
  ·subst e;unfold bK.put;rw[if_pos rfl,show (s+(j:Int)).toNat=z+j by omega,g3,if_pos rfl];simp only;omega
  ·unfold bK.put;rw[if_neg e,show (s+(j:Int)).toNat=z+j by omega,g3,if_neg oZ,g2 _ oZ,g1 _ oZ];have:=h.slot j hj;rw[show (s+(j:Int)).toNat=z+j by omega] at this;exact this
 ·intro j b q hj;unfold bK.put at hj;by_cases e:j=i
  ·rw[if_pos e] at hj;cases hj;refine⟨oZ,oZ,⟨?_,fun c x hc=>?_⟩,hk,hkl⟩
   ·rw[show (a+1).toNat=p+1 by omega,g3,if_neg oZ,g2 _ oZ,h1,fA,if_pos oZ]
   ·have:=(eZ.1 hc).1;rw[show (a+2+(c:Int)).toNat=(p+2)+c by omega,g3,if_neg oZ,h2];exact EN _ _ _ _ _ oZ hc
  ·rw[if_neg e] at hj;obtain⟨r1,r2,r3,r4,r5⟩:=h.rec_ j b q hj;exact⟨r1,oZ,r3.of oZ r2 old,r4,r5⟩
 ·intro j b q hj;unfold bK.put at hj;by_cases e:j=i
  ·rw[if_pos e] at hj;cases hj;exact⟨t,ht,by rw[e,hi],hp.le hle⟩
  ·rw[if_neg e] at hj;obtain⟨u,hu,e2,hq⟩:=h.probe j b q hj;exact⟨u,hu,e2,hq.le hle⟩
/-! ### Read -/
/-! ### Classes -/
instance (B S:Nat->Int) (a:Int) (k:Nat):Decidable (uH B S a k):=by unfold uH;infer_instance
def kI (B S:Nat->Int) (a:Int):Nat:=if uH B S a 0 then 0 else if uH B S a 1 then 1 else if uH B S a 2 then 2 else if uH B S a 3 then 3 else 4
def mP (B S:Nat->Int) (a:Int):Int:=if kI B S a<4 then(kI B S a:Int) else -1
def gu (B S:Nat->Int) (a:Int):Int:=if kI B S a<4 then(a-B (kI B S a)) % aN (kI B S a) else 0
theorem xR {B S:Nat->Int} {a:Int} {k:Nat} (hk:k<4) (h:uH B S a k) (hn:∀ j,j<k->¬ uH B S a j):kI B S a=k:=by
 unfold kI;rcases (show k=0∨k=1∨k=2∨k=3 by omega) with rfl | rfl | rfl | rfl
 ·rw[if_pos h]
 ·rw[if_neg (hn 0 oZ),if_pos h]
 ·rw[if_neg (hn 0 oZ),if_neg (hn 1 oZ),if_pos h]
 ·rw[if_neg (hn 0 oZ),if_neg (hn 1 oZ),if_neg (hn 2 oZ),if_pos h]
theorem JI {B S:Nat->Int} {a:Int} (h:∀ j,j<4->¬ uH B S a j):kI B S a=4:=by
 unfold kI;rw[if_neg (h 0 oZ),if_neg (h 1 oZ),if_neg (h 2 oZ),if_neg (h 3 oZ)]
theorem Eh {B S:Nat->Int} {a:Int} (h:kI B S a<4):uH B S a (kI B S a):=by
 unfold kI at h ⊢;split
 ·assumption
 split
 ·assumption
 split
 ·assumption
 split
 ·assumption
 ·simp_all
theorem nV {B S:Nat->Int} {a:Int} {w w':World} {e:Ending} (h:z8 B S a w e w'):e=.returned (.tuple #[.int .i64 (mP B S a),.int .i64 (gu B S a)])/\Below w.heap.size w w':=by
 obtain⟨hb,⟨k,hk,hin,hn,rfl⟩ | ⟨hn,rfl⟩⟩:=h
 ·have e:=xR hk hin hn;refine⟨?_,hb⟩;unfold mP gu;rw[e,if_pos hk,if_pos hk]
 ·have e:=JI hn;refine⟨?_,hb⟩;unfold mP gu;rw[e,if_neg oZ,if_neg oZ]
structure Laid (B S:Nat->Int) (C:Int):Prop where
 b0:B 0=3
 next:∀ k,k<6->B (k+1)=B k+S k
 c:B 6=C
 c1:C<=65536
 s0:∀ k,k<6->0<=S k
 m:∃ m:Nat->Int,∀ k,k<4->0<=m k/\S k=m k*aN k
section
variable {B S:Nat->Int} {C:Int}
theorem Laid.bases (h:Laid B S C):3=B 0/\B 1=B 0+S 0/\B 2=B 1+S 1/\B 3=B 2+S 2/\B 4=B 3+S 3/\B 5=B 4+S 4/\C=B 5+S 5/\0<=S 0/\0<=S 1/\0<=S 2/\0<=S 3/\0<=S 4/\0<=S 5/\C<=65536 :=
 ⟨h.b0.symm,h.next 0 oZ,h.next 1 oZ,h.next 2 oZ,h.next 3 oZ,h.next 4 oZ,by rw[<- h.c];exact h.next 5 oZ,h.s0 0 oZ,h.s0 1 oZ,h.s0 2 oZ,h.s0 3 oZ,h.s0 4 oZ,h.s0 5 oZ,h.c1⟩
theorem Laid.pool (h:Laid B S C) {k:Nat} (hk:k<6):3<=B k/\0<=S k/\B k+S k<=C/\C<=65536:=by
 have:=h.bases;rcases lg hk with rfl | rfl | rfl | rfl | rfl | rfl <;> omega
theorem Laid.fit (h:Laid B S C):Fit B S :=
 ⟨fun k hk=>by have:=h.pool hk;omega,fun k hk=>by have:=h.pool hk;omega,h.s0,fun k hk=>by have:=h.pool hk;omega,h.m⟩
theorem Laid.apart (h:Laid B S C) {j k:Nat} (hj:j<4) (hk:k<4) (hjk:j<k):B j+S j<=B k:=by
 have:=h.bases;rcases (show k=0∨k=1∨k=2∨k=3 by omega) with rfl | rfl | rfl | rfl <;> rcases (show j=0∨j=1∨j=2∨j=3 by omega) with rfl | rfl | rfl | rfl <;> omega
theorem Laid.Lu (h:Laid B S C) {a:Int} {k:Nat} (hk:k<4) (hin:uH B S a k):kI B S a=k :=
 xR hk hin fun j hj hin'=>by
  have:=h.apart (show j<4 by omega) hk hj;unfold uH at hin hin';omega
theorem Laid.at_ (h:Laid B S C) {a:Int} (ha:0<gu B S a):kI B S a<4/\3<=a/\a<C/\gu B S a<aN (kI B S a):=by
 have hk:kI B S a<4:=by
  unfold gu at ha;split at ha
  ·assumption
  ·omega
 have hin:=Eh hk;have hp:=h.pool (show kI B S a<6 by omega);have hs:=dB (kI B S a);refine⟨hk,by unfold uH at hin;omega,by unfold uH at hin;omega,?_⟩;unfold gu;rw[if_pos hk];exact Int.emod_lt_of_pos _ oZ
def CY (B S:Nat->Int) (k:Nat) (z:Int):Prop:=k<4/\(∃ q:Nat,z=B k+q*aN k)/\z+aN k<=B k+S k
theorem Laid.Fa (h:Laid B S C) {k:Nat} {z r:Int} (hz:CY B S k z) (h0:0<=r) (h1:r<aN k):kI B S (z+r)=k/\gu B S (z+r)=r:=by
 obtain⟨hk,⟨q,hq⟩,hle⟩:=hz;have hs:=dB k;have hq0:0<=(q:Int)*aN k:=Int.mul_nonneg oZ oZ;have e:kI B S (z+r)=k:=h.Lu hk ⟨oZ,oZ⟩;refine⟨e,?_⟩;unfold gu;rw[e,if_pos hk,show z+r-B k=(q:Int)*aN k+r by omega];exact BF q k r h0 h1
theorem Laid.Es (h:Laid B S C) {a:Int} (hk:kI B S a<4):CY B S (kI B S a) (a-gu B S a)/\0<=gu B S a/\gu B S a<aN (kI B S a):=by
 have hin:=Eh hk;obtain⟨m,hm⟩:=h.m;obtain⟨hm0,hmS⟩:=hm _ hk;generalize hkk:kI B S a=k at *;have hs:=dB k;have hat:gu B S a=(a-B k) % aN k:=by unfold gu;rw[hkk,if_pos hk]
 unfold uH at hin;have h1:=Int.emod_nonneg (a-B k) (show aN k≠0 by omega);have h2:=Int.emod_lt_of_pos (a-B k) (show 0<aN k by omega);have h3:=Int.emod_add_mul_ediv (a-B k) (aN k);have h4:0<=(a-B k) / aN k:=Int.ediv_nonneg oZ oZ;obtain⟨q,hq⟩:=Int.eq_ofNat_of_zero_le h4;rw[hq] at h3;rw[hat];have h5:(q:Int)*aN k=aN k*(q:Int):=Int.mul_comm _ _;refine⟨⟨hk,⟨q,oZ⟩,?_⟩,h1,h2⟩;have:=yo q k (m k) (S k) hmS oZ;omega
/-! ### Chains -/
/-! ### A word is added -/
def bU (B S:Nat->Int) (t:Int):Option Nat:=if t=0 then some 0 else if gu B S t<aN (kI B S t)-1 then none else some (if kI B S t<3 then kI B S t+1 else 3)
def bG (B S:Nat->Int) (t:Int):Prop:=t=0∨0<gu B S t
instance (B S:Nat->Int) (t:Int):Decidable (bG B S t):=by unfold bG;infer_instance
abbrev su:=Int×(Nat->Int)×Int
def eP (B S U:Nat->Int) (t v:Int):Pr su :=
 if bG B S t then
  match bU B S t with
  | none=>.store (t+1) v (.ret (t+1,U,0))
  | some k =>
   if aN k<=S k-U k then
    if t=0 then .store (B k+U k+1) v (.ret (B k+U k+1,more U k (aN k),0))
    else .store (B k+U k) t (.store (B k+U k+1) v (.ret (B k+U k+1,more U k (aN k),0)))
   else .ret (0,fun _=>0,3)
 else .ret (0,fun _=>0,1)
def Lx (tails:Nat->Int) (i:Nat) (t:Int) (j:Nat):Int:=if j=i then t else tails j
/-! ### What a Put comes to -/
def bY (B S:Nat->Int) (t:Int):Int:=if t=0 then 0 else aN (kI B S t)-1-gu B S t
def bI (B S:Nat->Int) (t:Int):Nat:=if t=0 then 0 else if kI B S t<3 then kI B S t+1 else 3
def up (k:Nat):Nat:=if k<3 then k+1 else 3
end
theorem Cj (l:List Sg):∀ v∈kC l,v.oneCell'=true:=by
 intro v hv;unfold kC at hv;obtain⟨x,_,hx⟩:=List.mem_flatMap.1 hv;simp[KE] at hx;rcases hx with rfl | rfl | rfl <;> rfl
theorem eH.cells {w:World} {ad:Addr} {l:List Sg} (h:eH w (some ad) l):∀ (j:Nat) (u:Value),(kC l)[j]?=some u->w.cell? (ad.add j)=some u:=by
 intro j u hj;have hlt:=(eZ.1 hj).1;rw[lc] at hlt;obtain⟨i,r,rfl,hr⟩:∃ i r,j=i*3+r/\r<3:=⟨j / 3,j % 3,oZ,Nat.mod_lt _ oZ⟩;obtain⟨x,hx⟩:∃ x,l[i]?=some x:=⟨_,gZ oZ⟩;obtain⟨g,o,e,h1,h2,h3⟩:=h i x hx;obtain⟨k1,k2,k3⟩:=vk l i x hx;cases e;rw[Addr.add_lit];rcases (show r=0∨r=1∨r=2 by omega) with rfl | rfl | rfl
 ·rw[Nat.add_zero] at hj ⊢;rw[k1] at hj;cases hj;exact h1
 ·rw[k2] at hj;cases hj;rw[<- Nat.add_assoc];exact h2
 ·rw[k3] at hj;cases hj;rw[<- Nat.add_assoc];exact h3
theorem jV {e:TypeId} {size n base:Nat} {v:Value} {xs:List Value} {w:World} (h:w.ownsRow base e size v n xs) (m:Nat) (hm:n=m):∃ ao c,v=.slice ao m c:=by
 subst hm;obtain⟨h0,⟨rfl,h⟩ | ⟨g,cap,cur,rfl,_⟩⟩:=h
 ·exact⟨none,0,by rw[h]⟩
 ·exact⟨_,_,rfl⟩
theorem bn.keep {w w':World} {base:Nat} {v:Value} {l:List Sg} (h:bn w base v l) {k:Nat} {cc:Array Value} {t:TypeId} (hk:w.heap[k]?=some (.cells cc t (0,0))) (ht:t≠65) (hb:∀ j,j≠k->w'.heap[j]?=w.heap[j]?):bn w' base v l:=by
 obtain⟨h0,h | ⟨g',cap,cur,k1,k2,k3,k4⟩⟩:=h
 ·exact⟨h0,.inl h⟩
 ·refine⟨h0,.inr ⟨g',cap,cur,k1,k2,(hb g' (fun e=>?_)).trans k3,k4⟩⟩;subst e;rw[hk] at k3;injection k3 with k3
  injection k3 with _ h5
  exact ht h5
theorem BV:(Tryz.prog.info? 65).map (fun i=>(i.zero,i.size,i.bytes))=some (some (.agg #[.int .i64 0,.int .i64 0,.bool false]),3,24):=kZ
theorem jS {P:Program} {fn:Func} {p:Tmp} {ty:TypeId} (h:fn.results=#[.cell p ty]) (tmps:Array Value) (w:World) (g:Nat) (t:TypeId) (cs:Array Value) (fr:Nat×Nat) (d:TypeDesc)
  (hp:tmps.getD p undef=.pointer (some ⟨g,0,none⟩)) (hg:w.heap[g]?=some (.cells cs t fr))
  (hu:P.underlying ty=some d) (hd:(match d with | .struct _ | .array _ _=>true | _=>false)=true) (hi:(P.info? ty).map (·.size)=some cs.size) :
  (results fn tmps).run P w=.ok (.agg cs) w:=by
 have hp':tmps[p]?.getD undef=.pointer (some ⟨g,0,none⟩):=by simpa using hp
 simp[results,h,hp',asAddr,run_loadVar_row w g t ty cs fr d hg hu hd hi]
theorem wN (w:World) (oa:Option Addr) (c n:Nat) (cs:List Int) (en:cs.length=n) (hn:n<=1000000) (hU:∀ y∈cs,U y) (ha:bQ .u32 w oa (gQ cs)) (og:Option Addr) (gn gc:Nat) (x:Sx) (eg:x.aC.length=gn) (hg:eH w og x.aC) (hg0:0<gn) (hgl:gn<=1000) :
  Calls Tryz.prog 91 #[.agg (aH (.slice oa n c) (.slice og gn gc) x)] w fun e w'=>∃ g vs,e=.returned (.agg (aH (.slice (some ⟨g,0,none⟩) n n) vs x))/\w.heap.size<=g/\cB w' g cs/\bn w' w.heap.size vs x.aC/\Below w.heap.size w w':=by
 have HCp:=hJ (fun(w':World) (hb:Below w.heap.size w w')=>lQ w' oa c n cs en hn hU (ha.below hb));obtain⟨s0,hs0⟩:∃ s,x.aC[0]?=some s:=⟨_,gZ oZ⟩;obtain⟨ga,go,he,hrest⟩:=hg 0 s0 hs0;subst he;clear hrest;have HG:=hJ hg;have HEg:=hJ eg;have HOne:=hJ (Cj x.aC);obtain⟨i0,hi0,hz0,hz1,hz2⟩:=info_parts BV;have HI:=hJ (And.intro hi0 (And.intro hz0 (And.intro hz1 hz2)));clear hU ha hg eg en hs0 s0 hi0 hz0 hz1 hz2;go_enter Tryz.func91,Tryz.ntmps91
 go_upto_region 1 with fail
 obtain⟨w0,hw0⟩:∃ w0,w0=(w.alloc (.cells (aH (.slice oa n c) (.slice (some ⟨ga,go,none⟩) gn gc) x) 49)).alloc (.cells (aH (.slice none 0 0) (.slice none 0 0) ⟨[],0,0,fun _=>0⟩) 49):=⟨_,rfl⟩;rw[show (w.alloc (.cells (aH (.slice oa n c) (.slice (some ⟨ga,go,none⟩) gn gc) x) 49)).alloc (.cells #[.slice none 0 0,.slice none 0 0,.int .i64 0,.int .u32 0,.int .i64 0,.int .i64 0,.int .i64 0,.int .i64 0,.int .i64 0,.int .i64 0] 49)=w0 from hw0.symm];have hX:w0.heap[w.heap.size]?=some (.cells (aH (.slice oa n c) (.slice (some ⟨ga,go,none⟩) gn gc) x) 49 (0,0)):=by rw[hw0];exact ed _ _ _
 have hY:w0.heap[w.heap.size+1]?=some (.cells (aH (.slice none 0 0) (.slice none 0 0) ⟨[],0,0,fun _=>0⟩) 49 (0,0)):=by rw[hw0];exact eO _ _ _
 have hB:Below w.heap.size w w0:=by rw[hw0];exact dh
 have c0:w0.cell? ⟨w.heap.size,0,none⟩=some (.slice oa n c):=aa hX 0;have HX:=hJ hX;have HY:=hJ hY;have HB:=hJ hB;clear hw0 hX hY hB;go_wp2_with fail
 refine(HCp.out _ HB.out).mono ?_;rintro e w2 ⟨rfl,hrow,hb⟩;have HX2:=hJ ((hb.block _ (lt_of_heap HX.out)).trans HX.out);have HY2:=hJ ((hb.block _ (lt_of_heap HY.out)).trans HY.out);have HB2:=hJ (ag HB.out hb);have HG2:=hJ (HG.out.below HB2.out);have hgt:w.heap.size+1<w0.heap.size:=lt_of_heap HY.out;obtain⟨g,hg⟩:∃ g,g=w0.heap.size:=⟨_,rfl⟩;rw[<- hg] at hrow hgt ⊢;have HR2:=hJ hrow;have f0:=free_at HX2.out 0;have c0:w2.cell? ⟨w.heap.size,0,none⟩=some (.slice oa n c):=aa HX2.out 0;clear hb hrow hg HX HY HB HCp;go_upto_region 2 with fail
 have HX3:=hJ (show (w2.setCell ⟨w.heap.size,0,none⟩ (.slice (some ⟨g,0,none⟩) n n)).heap[w.heap.size]?=some (.cells (aH (.slice (some ⟨g,0,none⟩) n n) (.slice (some ⟨ga,go,none⟩) gn gc) x) 49 (0,0)) by
  rw[heap_setCell_same _ _ _ _ _ _ HX2.out];rfl)
 have HY3:=hJ ((Below.heap_setCell w2 ⟨w.heap.size,0,none⟩ (.slice (some ⟨g,0,none⟩) n n) (w.heap.size+1) (show w.heap.size+1≠w.heap.size by omega)).trans HY2.out);have HR3:=hJ (HR2.out.of_block (Below.heap_setCell w2 ⟨w.heap.size,0,none⟩ (.slice (some ⟨g,0,none⟩) n n) g (show g≠w.heap.size by omega)));have HB3:=hJ (dD HB2.out (Nat.le_refl w.heap.size) 0 (.slice (some ⟨g,0,none⟩) n n));have HG3:=hJ (HG.out.below HB3.out);clear f0 c0 HX2 HY2 HR2 HB2 HG2;generalize w2.setCell ⟨w.heap.size,0,none⟩ (.slice (some ⟨g,0,none⟩) n n)=w3 at HX3 HY3 HR3 HB3 HG3 ⊢;go_upto_region 3 with fail
 have hb4:=aj (w:=w3) (A:=.cells #[] 65);have HO4:=hJ (show bn (w3.alloc (.cells #[] 65)) w.heap.size (.slice (some ⟨w3.heap.size,0,none⟩) 0 0) [] from World.ownsRow_lit (base:=w.heap.size) (e:=65) (size:=3) w3 #[] 0 HB3.out.size dZ sZ);have HX4:=hJ ((hb4.block _ (lt_of_heap HX3.out)).trans HX3.out);have HY4:=hJ ((hb4.block _ (lt_of_heap HY3.out)).trans HY3.out);have HR4:=hJ (HR3.out.below hb4);have HB4:=hJ (ag HB3.out hb4);have HG4:=hJ (HG3.out.below hb4);clear hb4 HX3 HY3 HR3 HB3 HG3;generalize w3.alloc (.cells #[] 65)=w4 at HO4 HX4 HY4 HR4 HB4 HG4 ⊢;obtain⟨v4,hv4⟩:∃ v4,v4=Value.slice (some ⟨w3.heap.size,0,none⟩) 0 0:=⟨_,rfl⟩;rw[<- hv4] at HO4 ⊢;clear hv4;have c1:w4.cell? ⟨w.heap.size,1,none⟩=some (.slice (some ⟨ga,go,none⟩) gn gc):=aa HX4.out 1
 have HFin:=hJ (show ∀ (v':Value) (w8:World),w8.ownsRow w.heap.size 65 3 v' (0+gn) (kC []++kC x.aC)->w4.grownBy w8 v4.ownBlock->bn w8 w.heap.size v' x.aC/\Below w.heap.size w w8/\w8.heap[w.heap.size]?=some (.cells (aH (.slice (some ⟨g,0,none⟩) n n) (.slice (some ⟨ga,go,none⟩) gn gc) x) 49 (0,0))/\w8.heap[w.heap.size+1]?=some (.cells (aH (.slice none 0 0) (.slice none 0 0) ⟨[],0,0,fun _=>0⟩) 49 (0,0))/\cB w8 g cs from fun v' w8 ho hgr=>by
  have hne:∀ k (cc:Array Value) (t:TypeId),w4.heap[k]?=some (Obj.cells cc t (0,0))->t≠65->v4.ownBlock≠some k:=fun k cc t hk ht e=>by
   obtain⟨h0,⟨h,_⟩ | ⟨g',cap,cur,k1,k2,k3,k4⟩⟩:=HO4.out
   ·rw[h] at e;cases e
   ·rw[k1] at e;cases e;rw[k3] at hk;injection hk with hk;injection hk with _ h5;exact ht h5.symm
  have hst:∀ k (cc:Array Value) (t:TypeId),w4.heap[k]?=some (Obj.cells cc t (0,0))->t≠65->w8.heap[k]?=some (Obj.cells cc t (0,0)):=fun k cc t hk ht=>(hgr.block k (lt_of_heap hk) (fun e=>hne k cc t hk ht e.symm)).trans hk;refine⟨?_,HB4.out.grown hgr HB4.out.size (fun k hk=>(World.ownsRow.lt HO4.out k hk).1),hst _ _ _ HX4.out dZ,hst _ _ _ HY4.out dZ,?_⟩
  ·unfold bn;rw[HEg.out];simpa [kC] using ho
  ·obtain⟨cur,hc1,hc2⟩:=HR4.out;exact⟨cur,hst _ _ _ hc1 dZ,hc2⟩)
 go_upto_region 4 with (at_builtin;refine wpList_append_own _ rfl (.tmp 9) (.tmp 12) 44 rfl w.heap.size 65 i0 _ 3 24 Tryz.underlying44 HI.out.1 HI.out.2.1 HI.out.2.2.1 HI.out.2.2.2 rfl dZ v4 0 (kC []) rfl HO4.out ⟨ga,go,none⟩ gn gc (kC x.aC) rfl (by rw[lc,HEg.out]) HG4.out.cells HOne.out mZ oZ HB4.out.size ?_;intro v' w8 ho2 hg2 _;have HR8:=hJ (HFin.out v' w8 ho2 hg2);obtain⟨so,sc,hv'⟩:=jV ho2 gn oZ;subst hv';clear ho2 hg2)
 clear c1 HO4 HX4 HY4 HR4 HB4 HG4 HFin;obtain⟨q1,q2,q3,q4,q5⟩:=HR8.out;have f1:=free_at q3 1;have c1:w8.cell? ⟨w.heap.size,1,none⟩=some (.slice (some ⟨ga,go,none⟩) gn gc):=aa q3 1
 have HX9:=hJ (show (w8.setCell ⟨w.heap.size,1,none⟩ (Value.slice so gn sc)).heap[w.heap.size]?=some (.cells (aH (.slice (some ⟨g,0,none⟩) n n) (Value.slice so gn sc) x) 49 (0,0)) by
  rw[heap_setCell_same _ _ _ _ _ _ q3];rfl)
 have HY9:=hJ ((Below.heap_setCell w8 ⟨w.heap.size,1,none⟩ (Value.slice so gn sc) (w.heap.size+1) (show w.heap.size+1≠w.heap.size by omega)).trans q4);have HRest:=hJ (show cB (w8.setCell ⟨w.heap.size,1,none⟩ (Value.slice so gn sc)) g cs/\Below w.heap.size w (w8.setCell ⟨w.heap.size,1,none⟩ (Value.slice so gn sc)) from⟨q5.of_block (Below.heap_setCell w8 ⟨w.heap.size,1,none⟩ (Value.slice so gn sc) g (show g≠w.heap.size by omega)),dD q2 (Nat.le_refl w.heap.size) 1 (Value.slice so gn sc)⟩)
 have HOw:=hJ (show bn (w8.setCell ⟨w.heap.size,1,none⟩ (Value.slice so gn sc)) w.heap.size (Value.slice so gn sc) x.aC from by
  obtain⟨h0,h | ⟨g',cap,cur,k1,k2,k3,k4⟩⟩:=q1
  ·exact⟨h0,.inl h⟩
  ·refine⟨h0,.inr ⟨g',cap,cur,k1,k2,(Below.heap_setCell w8 ⟨w.heap.size,1,none⟩ (Value.slice so gn sc) g' (fun e=>?_)).trans k3,k4⟩⟩;have e2:g'=w.heap.size:=e;rw[e2,q3] at k3;injection k3 with k3
   injection k3 with _ h5
   exact absurd h5 dZ)
 clear HR8 q1 q3 q4 q5 q2;go_upto_region 5 with fail
 clear f1 c1;generalize w8.setCell ⟨w.heap.size,1,none⟩ (Value.slice so gn sc)=w9 at HX9 HY9 HRest HOw ⊢
 go_wp2_with (first
  | (refine yZ rfl 49 (.tmp 1) rfl w.heap.size rfl 49 (aH (.slice (some ⟨g,0,none⟩) n n) (Value.slice so gn sc) x) (0,0) _ HX9.out Tryz.underlying49 rfl (aG _ _ _) ?_)
  | (refine zZ rfl 49 (.tmp 2) (.tmp 17) rfl (w.heap.size+1) (aH (.slice (some ⟨g,0,none⟩) n n) (Value.slice so gn sc) x) rfl rfl 49 (aH (.slice none 0 0) (.slice none 0 0) ⟨[],0,0,fun _=>0⟩) HY9.out (aG _ _ _) rfl cZ ?_)
  | fail)
 have hy:=HY9.out;refine tZ (v:=.agg (aH (.slice (some ⟨g,0,none⟩) n n) (.slice so gn sc) x)) (jS rfl _ _ (w.heap.size+1) _ _ (0,0) _ rfl (setRow_heap _ _ _ _ _ _ hy) Tryz.underlying49 rfl (aG _ _ _)) rfl ?_;exact⟨g,_,rfl,oZ,HRest.out.1.of_block (qZ _ _ _ _ oZ),HOw.out.keep hy dZ (fun j hj=>qZ _ _ _ _ hj),below_setRow HRest.out.2 oZ _⟩
/-! ### How many slots are taken -/
def qo (d:bK):Nat->Nat
 | 0=>0
 | i+1=>qo d i+if(d i).isSome then 1 else 0
theorem Ld (d:bK):∀ n,qo d n<=n
 | 0=>Nat.le_refl _
 | i+1=>by
  have:=Ld d i;unfold qo;split <;> omega
theorem Cs {d d':bK}:∀ n,(∀ i,i<n->d' i=d i)->qo d' n=qo d n
 | 0,_=>rfl
 | i+1,h=>by
  unfold qo;rw[Cs i (fun j hj=>h j oZ),h i oZ]
theorem EP {d:bK} {i:Nat} {x:Int×List Nat} (hd:d i=none):∀ n,i<n->qo (d.put i x) n=qo d n+1
 | 0,h=>oZ
 | j+1,h=>by
  unfold qo;by_cases e:i=j
  ·subst e;rw[Cs i (fun k hk=>by unfold bK.put;rw[if_neg oZ]),hd];unfold bK.put;simp
  ·rw[EP hd j oZ];have:d.put i x j=d j:=by unfold bK.put;rw[if_neg (fun h=>e h.symm)]
   rw[this];omega
theorem EM {d:bK}:∀ n,(∀ i,i<n->(d i).isSome=true)->qo d n=n
 | 0,_=>rfl
 | i+1,h=>by
  unfold qo;rw[EM i (fun j hj=>h j oZ),h i oZ,if_pos rfl]
theorem FK {n h i:Nat} (hi:i<n):∃ t,t<n/\bL n h t=i:=by
 have hm:=Nat.mod_lt h (show 0<n by omega);by_cases hle:h % n<=i
 ·refine⟨i-h % n,oZ,?_⟩;rw[yx oZ,if_pos oZ];omega
 ·refine⟨i+n-h % n,oZ,?_⟩;rw[yx oZ,if_neg oZ];omega
theorem Dh {n:Nat} {d:bK} {k:List Nat} (h:Passed n d k n):qo d n=n:=by
 refine EM n fun i hi=>?_;obtain⟨t,ht,rfl⟩:=FK (h:=bZ k) hi;obtain⟨b,k',e,_⟩:=h t ht;rw[e];rfl
/-! ### Find -/
section
variable {n:Nat} {s lo hi:Int} {d:bK} {cs:List Int} {k:List Nat}
theorem Bh {yes no:Pr (Int×Int)} {a:Int} {q:Nat} {x:Int×Int} (hr:xP cs a k) (ha:0<=a) (hl:a+2+((aF k).length:Int)<=cs.length) (hy:Does yes cs q x cs):∀ (l:List Nat) (j:Nat),(aF k).drop j=l->Does (rG yes no l (a+2+(j:Int))) cs (q+l.length) x cs
 | [],j,_=>hy
 | c :: l,j,hd=>by
  have hj:(aF k)[j]?=some c:=by
   have:=congrArg (fun q=>q[0]?) hd;simpa using this
  have hd2:(aF k).drop (j+1)=l:=by
   rw[<- List.drop_drop,hd];rfl
  have hjl:=(eZ.1 hj).1;unfold rG;refine .load oZ oZ ?_;rw[hr.cells j c hj,if_pos rfl];have:=Bh (yes:=yes) (no:=no) hr ha hl hy l (j+1) hd2;rw[show a+2+((j+1:Nat):Int)=a+2+(j:Int)+1 by omega] at this;exact this
theorem Bc {yes no:Pr (Int×Int)} {a:Int} {k':List Nat} {q:Nat} {x:Int×Int} (hk:∀ y∈k,y<256) (hk':∀ y∈k',y<256) (hkl:k'.length=k.length) (hr:xP cs a k') (ha:0<=a) (hl:a+2+((aF k').length:Int)<=cs.length) (hne:k'≠k) (hn:Does no cs q x cs):∀ (l:List Nat) (j:Nat),(aF k).drop j=l->(∀ m,m<j->(aF k')[m]?=(aF k)[m]?)->∃ q',q'<=q+l.length/\Does (rG yes no l (a+2+(j:Int))) cs q' x cs
 | [],j,hd,heq=>by
  have hl2:(aF k').length=(aF k).length:=by rw[bC,bC,hkl]
  have hj:(aF k).length<=j:=by
   have:=congrArg List.length hd;simp at this;omega
  exact absurd (BB hk' hk hkl (List.ext_getElem? fun m=>by
   by_cases hm:m<j
   ·exact heq m hm
   ·rw[List.getElem?_eq_none oZ,List.getElem?_eq_none oZ])) hne
 | c :: l,j,hd,heq=>by
  have hl2:(aF k').length=(aF k).length:=by rw[bC,bC,hkl]
  have hj:(aF k)[j]?=some c:=by
   have:=congrArg (fun q=>q[0]?) hd;simpa using this
  have hd2:(aF k).drop (j+1)=l:=by
   rw[<- List.drop_drop,hd];rfl
  have hjl:=(eZ.1 hj).1;obtain⟨c',hc'⟩:∃ c',(aF k')[j]?=some c':=⟨_,gZ oZ⟩;unfold rG;by_cases he:c'=c
  ·obtain⟨q',hq',hD⟩:=Bc (yes:=yes) (no:=no) hk hk' hkl hr ha hl hne hn l (j+1) hd2 (fun m hm=>by
    by_cases e:m=j
    ·subst e;rw[hc',hj,he]
    ·exact heq m oZ)
   refine⟨q'+1,by simp only[List.length_cons];omega,.load oZ oZ ?_⟩;rw[hr.cells j c' hc',if_pos oZ];rw[show a+2+((j+1:Nat):Int)=a+2+(j:Int)+1 by omega] at hD;exact hD
  ·refine⟨q+1,by simp only[List.length_cons];omega,.load oZ oZ ?_⟩;rw[hr.cells j c' hc',if_neg oZ];exact hn
theorem Hg (h:fI n s lo hi d cs) (hs:0<=s) (hk:∀ x∈k,x<256) (hkl:k.length<=100):∀ g t,t+g=n->Passed n d k t->∃ q x,q<=g*(2+(aF k).length)/\Does (fR s n k g t) cs q x cs/\Good n k d x
 | 0,t,ht,hp=>by
  obtain rfl:t=n:=oZ;exact⟨0,(0,-1),Nat.zero_le _,.ret _ _,.inr ⟨rfl,rfl,hp⟩⟩
 | g+1,t,ht,hp=>by
  have hn:=h.n0;have hsl:=jX hn (bZ k) t;have hln:=h.len;have hlo:=h.lo0;have hhis:=h.his;have hmul:(g+1)*(2+(aF k).length)=g*(2+(aF k).length)+(2+(aF k).length):=Nat.succ_mul _ _;unfold fR;cases hdi:d (bL n (bZ k) t) with
  | none =>
   refine⟨1,(0,(bL n (bZ k) t:Nat)),oZ,.load oZ oZ ?_,.inl ⟨t,oZ,rfl,hp,.inl ⟨hdi,rfl⟩⟩⟩;rw[h.slot _ hsl,hdi];simp only;rw[if_pos trivial];exact .ret _ _
  | some x =>
   obtain⟨a,k'⟩:=x;obtain⟨r1,r2,r3,r4,r5⟩:=h.rec_ _ a k' hdi;have hcl:=bC k';by_cases hkk:k'=k
   ·subst hkk;have hc:=Bh (yes:=.ret (a,((bL n (bZ k') t:Nat):Int))) (no:=fR s n k' g (t+1)) (q:=0) r3 oZ oZ (.ret _ _) (aF k') 0 rfl;rw[show a+2+((0:Nat):Int)=a+2 by omega] at hc;refine⟨0+(aF k').length+1+1,(a,((bL n (bZ k') t:Nat):Int)),oZ,.load oZ oZ ?_,.inl ⟨t,oZ,rfl,hp,.inr hdi⟩⟩;rw[h.slot _ hsl,hdi];simp only;rw[if_neg oZ];refine .load oZ oZ ?_;rw[r3.len,if_pos oZ];exact hc
   ·obtain⟨q,x,hq,hD,hG⟩:=Hg h hs hk hkl g (t+1) oZ (fun u hu=>by
     by_cases e:u=t
     ·subst e;exact⟨a,k',hdi,hkk⟩
     ·exact hp u oZ)
    by_cases hll:k'.length=k.length
    ·obtain⟨q',hq',hD'⟩:=Bc (yes:=.ret (a,((bL n (bZ k) t:Nat):Int))) hk r4 hll r3 oZ oZ hkk hD (aF k) 0 rfl (fun m hm=>oZ);rw[show a+2+((0:Nat):Int)=a+2 by omega] at hD';refine⟨q'+1+1,x,oZ,.load oZ oZ ?_,hG⟩;rw[h.slot _ hsl,hdi];simp only;rw[if_neg oZ];refine .load oZ oZ ?_;rw[r3.len,if_pos oZ];exact hD'
    ·refine⟨q+1+1,x,oZ,.load oZ oZ ?_,hG⟩;rw[h.slot _ hsl,hdi];simp only;rw[if_neg oZ];refine .load oZ oZ ?_;rw[r3.len,if_neg oZ];exact hD
theorem sG (h:fI n s lo hi d cs) (hs:0<=s) (hk:∀ x∈k,x<256) (hkl:k.length<=100) (hocc:qo d n<n):∃ q a t,q<=n*(2+(aF k).length)/\t<n/\Does (fR s n k n 0) cs q (a,((bL n (bZ k) t:Nat):Int)) cs /\
  (d (bL n (bZ k) t)=some (a,k)∨(a=0/\d (bL n (bZ k) t)=none/\Passed n d k t/\∀ b,¬ Has d k b)):=by
 obtain⟨q,x,hq,hD,hG⟩:=Hg h hs hk hkl n 0 oZ (fun u hu=>oZ);have hsp:=hG.spec h;obtain⟨x1,x2⟩:=x;rcases hG with ⟨t,ht,h2,hp,⟨h3,h4⟩ | h3⟩ | ⟨h1,_,hp⟩
 ·simp only at h2 h4;subst h4;refine⟨q,0,t,hq,ht,by rw[<- h2];exact hD,.inr ⟨rfl,h3,hp,?_⟩⟩;rcases hsp with ⟨_,e⟩ | ⟨_,e⟩
  ·exact absurd rfl e
  ·exact e
 ·simp only at h2 h3;exact⟨q,x1,t,hq,ht,by rw[<- h2];exact hD,.inl h3⟩
 ·have:=Dh hp;omega
end
/-! ### A key's record -/
def eQ (d:bK) (k:List Nat):Nat->Int
 | 0=>0
 | i+1=>match d i with
  | some x=>if x.2=k then x.1 else eQ d k i
  | none=>eQ d k i
theorem jd {d:bK} {k:List Nat} (h:∀ a,¬ Has d k a):∀ n,eQ d k n=0
 | 0=>rfl
 | i+1=>by
  unfold eQ;cases hd:d i with
  | none=>exact jd h i
  | some x =>
   simp only;rw[if_neg (fun e=>h x.1 ⟨i,by rw[hd,<- e]⟩)];exact jd h i
theorem sV {d:bK} {k:List Nat} {a:Int} (hu:∀ i b,d i=some (b,k)->b=a) {i:Nat} (hi:d i=some (a,k)):∀ n,i<n->eQ d k n=a
 | 0,h=>oZ
 | j+1,h=>by
  unfold eQ;by_cases e:i=j
  ·subst e;rw[hi];simp
  ·cases hd:d j with
   | none=>exact sV hu hi j oZ
   | some x =>
    obtain⟨b,k'⟩:=x;simp only;by_cases e2:k'=k
    ·rw[if_pos e2];subst e2;exact hu j b hd
    ·rw[if_neg e2];exact sV hu hi j oZ
section
variable {n:Nat} {s lo hi:Int} {d d':bK} {cs:List Int} {k:List Nat}
theorem fI.mg (h:fI n s lo hi d cs) {i:Nat} {a:Int} (hi:d i=some (a,k)):eQ d k n=a:=by
 obtain⟨t,ht,rfl,_⟩:=h.probe i a k hi;exact sV (fun j b hb=>h.has_eq ⟨j,hb⟩ ⟨_,hi⟩) hi n (jX h.n0 _ _)
theorem fI.JL (h:fI n s lo hi d cs) {hi':Int} {cs':List Int} {i:Nat} {x:Int×List Nat} (h':fI n s lo hi' (d.put i x) cs') (hle:d.Le (d.put i x)) (hne:x.2≠k):eQ (d.put i x) k n=eQ d k n:=by
 by_cases hh:∃ a,Has d k a
 ·obtain⟨a,j,hj⟩:=hh;rw[h.mg hj,h'.mg (hle j _ hj)]
 ·rw[jd (fun a ha=>hh ⟨a,ha⟩),jd];rintro a ⟨j,hj⟩;unfold bK.put at hj;by_cases e:j=i
  ·rw[if_pos e] at hj;cases hj;exact hne rfl
  ·rw[if_neg e] at hj;exact hh ⟨a,j,hj⟩
end
theorem yT (w:World) (oa:Option Addr) (c n:Nat) (cs:List Int) (en:cs.length=n) (hU:∀ y∈cs,U y) (ha:bQ .u32 w oa (gQ cs)) (a:Int) (h0:0<=a) (h1:a<cs.length) :
  Calls Tryz.prog 61 #[.slice oa n c,.int .i64 a] w fun e w'=>e=.returned (.tuple #[.int .u32 (cs.getD a.toNat 0),.bool true])/\Below w.heap.size w w':=by
 obtain⟨j,rfl⟩:=Int.eq_ofNat_of_zero_le h0;obtain⟨x,hx,hx2,_⟩:=jG hU (show j<cs.length by omega);rw[Int.toNat_natCast,hx2];obtain⟨g,o,rfl,hc⟩:=ha j x hx;have d1:(j:Int)<(n:Int):=oZ;have d2:decide ((j:Int)<0)=false:=decide_eq_false oZ;have d3:decide ((n:Int)<=(j:Int))=false:=decide_eq_false oZ;have d4:decide (n<=j)=false:=decide_eq_false oZ;clear hx hx2 ha hU;go_enter Tryz.func61,Tryz.ntmps61
 go_wp2_with fail
 go_ret2
 exact⟨rfl,Below.refl _ _⟩
theorem LD {α:Type} (w:World) (oa:Option Addr) (c n:Nat) (cs:List Int) (en:cs.length=n) (hU:∀ y∈cs,U y) (ha:bQ .u32 w oa (gQ cs)) (a:Int) (h0:0<=a) (h1:a<=5000000000) (key:ByteArray) (hk:key.size<=1000) {yes no:Pr α} {q:Nat} {x:α} {cs':List Int}
  (hd:Does (.load (a+1) fun l=>if l=(((ax key).length % 4294967296:Nat):Int) then rG yes no (aF (ax key)) (a+2) else no) cs q x cs') :
  Calls Tryz.prog 133 #[.slice oa n c,.int .i64 a,.string key] w fun e w'=>∃ b,e=.returned (.tuple #[.bool b,.bool true])/\(∃ q',Does (if b=true then yes else no) cs q' x cs')/\Below w.heap.size w w':=by
 cases hd with
 | load g1 g2 hd2 =>
  rename_i q0
  have HAt:=hJ (fun(w':World) (hb:Below w.heap.size w w') (j:Int) (k0:0<=j) (k1:j<cs.length)=>yT w' oa c n cs en hU (ha.below hb) j k0 k1);have hu:=rY hU (a+1).toNat;rw[Nat.mod_eq_of_lt (by rw[aD];omega),aD] at hd2;have HA1:=hJ (HAt.out w (Below.refl _ _) (a+1) g1 g2);obtain⟨y,hy⟩:∃ y,y=cs.getD (a+1).toNat 0:=⟨_,rfl⟩;rw[<- hy] at HA1 hu hd2;simp only at hd2;unfold U at hu;obtain⟨hu0,hu1⟩:=hu;have s1:IntKind.i64.wrap (a+1)=a+1:=iZ _ oZ;have s2:IntKind.i64.wrap y=y:=iZ _ oZ;have s3:IntKind.i64.wrap (a+2)=a+2:=iZ _ oZ;obtain⟨L,hL⟩:∃ L,L=aF (ax key):=⟨_,rfl⟩;rw[<- hL] at hd2;obtain⟨N,hN⟩:∃ N,N=L.length:=⟨_,rfl⟩;have hN2:N<=1000:=by rw[hN,hL,bC,aD];omega
  have HC:=hJ (fun w=>qL key L N oZ hL.symm hN.symm w);have HN:=hJ hN;have kz:(key.size:Int)<=1000:=oZ;clear hy hL hN hU ha;by_cases hyk:y=(key.size:Int)
  ·rw[if_pos hyk] at hd2;have b1:(y != (key.size:Int))=false:=by simpa using hyk
   have HD:=hJ hd2;clear hd2 hyk;go_enter Tryz.func133,Tryz.ntmps133
   go_wp2_with fail
   refine HA1.out.mono ?_;rintro e w1 ⟨rfl,hb1⟩;have HB1:=hJ hb1;clear hb1 HA1;go_wp2_with fail
   refine(HC.out _).mono ?_;rintro e w2 ⟨oc,cc,rfl,hc1,hc2,hrc,hb2⟩;have HB2:=hJ (ag HB1.out hb2);have HRC:=hJ hrc;clear hb2 hrc HB1;go_wp2_with fail
   go_loopg [35] N (fun g iv wr=>∃ (j q1:Nat),j+g=N/\iv=.int .i64 (j:Int)/\Hid (Does (rG yes no (L.drop j) (a+2+(j:Int))) cs q1 x cs')/\Hid (Below w.heap.size w wr)/\Hid (bQ .u32 wr oc L))
   case atStart=>exact⟨0,_,oZ,rfl,hJ (by rw[List.drop_zero,show a+2+((0:Nat):Int)=a+2 by omega];exact HD.out),HB2,HRC⟩
   case round =>
    clear HD HB2 HRC;obtain⟨j,q1,hjg,rfl,HD,HB,HRC⟩:=hrel;cases gk with
    | zero =>
     have hj:N=j:=oZ;have hd:=HD.out;rw[List.drop_eq_nil_of_le (by rw[<- HN.out];omega)] at hd;have HE:=hJ (show Does yes cs q1 x cs' from hd);subst hj;clear hd HD hjg;go_wp2_with fail
     go_ret2
     exact⟨true,rfl,⟨_,by rw[if_pos rfl];exact HE.out⟩,HB.out⟩
    | succ g =>
     have hj:j<N:=oZ;have hj1:(j:Int)<(N:Int):=oZ;obtain⟨z,hz⟩:∃ z,L[j]?=some z:=⟨_,gZ (by rw[<- HN.out];exact hj)⟩;obtain⟨gb,ob,rfl,hcell⟩:=HRC.out j z hz;have hd:=HD.out
     rw[show L.drop j=z :: L.drop (j+1) by
      have hlt:=(eZ.1 hz).1;rw[List.drop_eq_getElem_cons hlt,(eZ.1 hz).2]] at hd
     unfold rG at hd;cases hd with
     | load k1 k2 hd3 =>
      rename_i q2
      have HA2:=hJ (HAt.out _ HB.out (a+2+(j:Int)) k1 k2);have s4:IntKind.i64.wrap (a+2+(j:Int))=a+2+(j:Int):=iZ _ oZ;obtain⟨y2,hy2⟩:∃ y,y=cs.getD (a+2+(j:Int)).toNat 0:=⟨_,rfl⟩;rw[<- hy2] at HA2 hd3;simp only at hd3;clear hy2 hz HD;by_cases hyz:y2=(z:Int)
      ·rw[if_pos hyz] at hd3;have HD2:=hJ hd3;have b2:(y2 != (z:Int))=false:=by simpa using hyz
       clear hyz hd3;go_wp2_with fail
       refine HA2.out.mono ?_;rintro e w3 ⟨rfl,hb3⟩;have HB3:=hJ (ag HB.out hb3);have HRC3:=hJ (HRC.out.below hb3);have hcell:=az hcell hb3;clear hb3 HA2;go_wp2_with fail
       go_roundg g
       case measure=>omega
       case rel=>exact⟨j+1,q2,oZ,by go_num,hJ (by rw[show a+2+((j+1:Nat):Int)=a+2+(j:Int)+1 by omega];exact HD2.out),HB3,HRC3⟩
      ·rw[if_neg hyz] at hd3;have HD2:=hJ hd3;have b2:(y2 != (z:Int))=true:=by simpa using hyz
       clear hyz hd3;go_wp2_with fail
       refine HA2.out.mono ?_;rintro e w3 ⟨rfl,hb3⟩;have HB3:=hJ (ag HB.out hb3);have hcell:=az hcell hb3;clear hb3 HA2;go_wp2_with fail
       go_ret2
       exact⟨false,rfl,⟨_,by rw[if_neg dZ];exact HD2.out⟩,HB3.out⟩
  ·rw[if_neg hyk] at hd2;have HD:=hJ hd2;have b1:(y != (key.size:Int))=true:=by simpa using hyk
   clear hd2 hyk HC;go_enter Tryz.func133,Tryz.ntmps133
   go_wp2_with fail
   refine HA1.out.mono ?_;rintro e w1 ⟨rfl,hb1⟩;have HB1:=hJ hb1;clear hb1 HA1;go_wp2_with fail
   go_ret2
   exact⟨false,rfl,⟨_,by rw[if_neg dZ];exact HD.out⟩,HB1.out⟩
theorem CZ {α:Type} {st:St} (a v:Int) (x:α):((Pr.store a v (.ret x)).on st).2=st.store a (u32 v)/\∀ y,((Pr.store a v (.ret x)).on st).1=some y->y=x:=by
 unfold Pr.on;split
 ·exact⟨rfl,fun y h=>by cases h⟩
 ·exact⟨rfl,fun y h=>by cases h;rfl⟩
theorem Ls {α:Type} {st:St} {Bd:Nat} (hf:st.dO Bd) (a v b u:Int) (x:α):((Pr.store a v (.store b u (.ret x))).on st).2=(st.store a (u32 v)).store b (u32 u)/\∀ y,((Pr.store a v (.store b u (.ret x))).on st).1=some y->y=x:=by
 have h1:=hf.store a v;unfold Pr.on;split
 ·rename_i ho
  exact⟨(St.nW h1.good ho b _).symm,fun y h=>by cases h⟩
 ·exact CZ b u x
end Go.Proofs.YtafaohnhlgcnpaaGreatDoor
