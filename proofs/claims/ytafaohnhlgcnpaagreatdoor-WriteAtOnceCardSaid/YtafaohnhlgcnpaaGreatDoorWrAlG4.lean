/-
 What stage 12 rests on.
-/
import Derived.Test.YtafaohnhlgcnpaaGreatDoorWrAlF3
import Derived.Test.YtafaohnhlgcnpaaGreatDoorWrAlF2
import Derived.Test.YtafaohnhlgcnpaaGreatDoorWrAlE1
set_option maxRecDepth 100000
set_option maxHeartbeats 16000000
namespace Go.Proofs.YtafaohnhlgcnpaaGreatDoor
open Go.RowKit
/-! ### Programs that store in some places alone -/
inductive dx {α:Type} (A:Int->Prop):Pr α->List Int->Nat->α->List Int->Prop
 | ret (x:α) (cs:List Int):dx A (.ret x) cs 0 x cs
 | load {a:Int} {k:Int->Pr α} {cs cs':List Int} {n:Nat} {x:α}:0<=a->a<cs.length->dx A (k (cs.getD a.toNat 0)) cs n x cs'->dx A (.load a k) cs (n+1) x cs'
 | store {a v:Int} {k:Pr α} {cs cs':List Int} {n:Nat} {x:α}:0<=a->a<cs.length->A a->dx A k (cs.set a.toNat (u32 v)) n x cs'->dx A (.store a v k) cs (n+1) x cs'
theorem dx.does {α:Type} {A:Int->Prop} {p:Pr α} {cs cs':List Int} {n:Nat} {x:α} (h:dx A p cs n x cs'):Does p cs n x cs':=by
 induction h with
 | ret x cs=>exact .ret _ _
 | load h1 h2 _ ih=>exact .load h1 h2 ih
 | store h1 h2 _ _ ih=>exact .store h1 h2 ih
theorem dx.bind {α β:Type} {A:Int->Prop} {p:Pr α} {f:α->Pr β} {cs cs1 cs2:List Int} {n m:Nat} {x:α} {y:β} (h:dx A p cs n x cs1) (k:dx A (f x) cs1 m y cs2):dx A (p.bind f) cs (n+m) y cs2:=by
 induction h with
 | ret x cs=>rw[Nat.zero_add];exact k
 | @load a kk cs cs' n x h1 h2 _ ih =>
  rw[Nat.add_right_comm];exact .load h1 h2 (ih k)
 | @store a v kk cs cs' n x h1 h2 h3 _ ih =>
  rw[Nat.add_right_comm];exact .store h1 h2 h3 (ih k)
theorem dx.out {α:Type} {A:Int->Prop} {p:Pr α} {cs cs':List Int} {n:Nat} {x:α} (h:dx A p cs n x cs'):∀ q:Nat,¬ A q->cs'.getD q 0=cs.getD q 0:=by
 induction h with
 | ret x cs=>exact fun _ _=>rfl
 | load _ _ _ ih=>exact ih
 | store h1 h2 h3 _ ih =>
  intro q hq;rw[ih q hq,fA,if_neg];rintro⟨e,_⟩;exact hq (by rw[<- e,Int.toNat_of_nonneg h1];exact h3)
def dF {α:Type} (A:Int->Prop):Pr α->Prop
 | .ret _=>True
 | .load _ k=>∀ v,dF A (k v)
 | .store a _ k=>A a/\dF A k
theorem Does.stores {α:Type} {A:Int->Prop} {p:Pr α} {cs cs':List Int} {n:Nat} {x:α} (h:Does p cs n x cs'):dF A p->dx A p cs n x cs':=by
 induction h with
 | ret x cs=>exact fun _=>.ret _ _
 | load h1 h2 _ ih=>exact fun hs=>.load h1 h2 (ih (hs _))
 | store h1 h2 _ ih=>exact fun hs=>.store h1 h2 hs.1 (ih hs.2)
theorem dF.mono {α:Type} {A A':Int->Prop}:∀ {p:Pr α},dF A p->(∀ a,A a->A' a)->dF A' p
 | .ret _,_,_=>trivial
 | .load _ _,h,hA=>fun v=>(h v).mono hA
 | .store _ _ _,h,hA=>⟨hA _ h.1,h.2.mono hA⟩
theorem Er {α:Type} {A:Int->Prop} {yes no:Pr α} (hy:dF A yes) (hn:dF A no):∀ (l:List Nat) (x:Int),dF A (rG yes no l x)
 | [],_=>hy
 | c :: l,x=>fun v=>by
  show dF A (if v=(c:Int) then rG yes no l (x+1) else no);split
  ·exact Er hy hn l _
  ·exact hn
theorem EF {A:Int->Prop} (s:Int) (n:Nat) (k:List Nat):∀ (m t:Nat),dF A (fR s n k m t)
 | 0,_=>trivial
 | m+1,t=>by
  unfold fR;intro v;show dF A (if v=0 then _ else _);by_cases h:v=0
  ·rw[if_pos h];exact trivial
  ·rw[if_neg h];intro l;show dF A (if l=((k.length % 4294967296:Nat):Int) then _ else _);by_cases h2:l=((k.length % 4294967296:Nat):Int)
   ·rw[if_pos h2];exact Er (show dF A (Pr.ret _) from trivial) (EF s n k m (t+1)) _ _
   ·rw[if_neg h2];exact EF s n k m (t+1)
theorem vT {α:Type} {A:Int->Prop} {rest:Pr α} (hr:dF A rest):∀ (l:List Nat) (x:Int),(∀ j:Nat,j<l.length->A (x+(j:Int)))->dF A (iW rest l x)
 | [],_,_=>hr
 | c :: l,x,h=>by
  refine⟨?_,vT hr l (x+1) fun j hj=>?_⟩
  ·have:=h 0 sZ;rwa [show x+((0:Nat):Int)=x by omega] at this
  ·have:=h (j+1) uZ;rwa [show x+((j+1:Nat):Int)=x+1+(j:Int) by omega] at this
theorem Jc {A:Int->Prop} {B S Us:Nat->Int} {s slot:Int} {k:List Nat} (h1:∀ j:Nat,j<(aF k).length+1->A (B 4+Us 4+1+(j:Int))) (h2:A (s+slot)):dF A (gp B S Us s slot k):=by
 unfold gp;split
 ·refine⟨?_,vT (show dF A (Pr.store _ _ (.ret _)) from⟨h2,trivial⟩) _ _ fun j hj=>?_⟩
  ·have:=h1 0 oZ;rwa [show B 4+Us 4+1+((0:Nat):Int)=B 4+Us 4+1 by omega] at this
  ·have:=h1 (j+1) oZ;rwa [show B 4+Us 4+1+((j+1:Nat):Int)=B 4+Us 4+2+(j:Int) by omega] at this
 ·exact trivial
/-! ### A Put -/
theorem jI {cs:List Int} {i:Nat} {v:Int} (h:∀ y∈cs,U y) (hv:U v):∀ y∈cs.set i v,U y:=by
 intro y hy;rcases List.mem_or_eq_of_mem_set hy with h1 | h1
 ·exact h y h1
 ·rw[h1];exact hv
theorem Does.EH {α:Type} {p:Pr α} {cs cs':List Int} {n:Nat} {x:α} (h:Does p cs n x cs'):(∀ y∈cs,U y)->∀ y∈cs',U y:=by
 induction h with
 | ret x cs=>exact id
 | load _ _ _ ih=>exact ih
 | store _ _ _ ih=>exact fun hu=>ih (jI hu (qy _))
structure EB (B S:Nat->Int) (cs:List Int) (Us:Nat->Int) (t wd:Int) (t':Int) (Us':Nat->Int) (cs':List Int):Prop where
 does:∃ q,q<=2/\dx (fun a=>3<=a/\a<B 4) (eP B S Us t wd) cs q (t',Us',0) cs'
 len:cs'.length=cs.length
 out:∀ p:Nat,(p:Int)<3∨B 4<=p->cs'.getD p 0=cs.getD p 0
 right:bG B S t'
 pos:0<t'/\t'<=65536
 used:∀ k,k<6->0<=Us' k/\Us' k<=S k
 slabs:∀ k,k<4->∃ q:Nat,Us' k=q*aN k
 book:Us' 4=Us 4
 need:∀ (c j:Nat),dX (c+1) (bY B S t) (bI B S t) j=(Us' j-Us j)+dX c (bY B S t') (bI B S t') j
section
variable {B S:Nat->Int} {C:Int}
theorem Gb (hL:Laid B S C) {cs:List Int} {Us:Nat->Int} (hlen:(cs.length:Int)=C) (hus:∀ k,k<6->0<=Us k/\Us k<=S k) (hsl:∀ k,k<4->∃ q:Nat,Us k=q*aN k) {t wd:Int} (hr:bG B S t) (hfit:∀ k,bU B S t=some k->aN k<=S k-Us k) :
  ∃ t' Us' cs',EB B S cs Us t wd t' Us' cs':=by
 have hb:=hL.bases
 have hlast:∀ k,k<4->B k+S k<=B 4:=by
  intro k hk;rcases (show k=0∨k=1∨k=2∨k=3 by omega) with rfl | rfl | rfl | rfl <;> omega
 cases hbk:bU B S t with
 | none =>
  have ht0:t≠0:=by
   intro e;simp[bU,e] at hbk
  have hb2:gu B S t<aN (kI B S t)-1:=by
   unfold bU at hbk;rw[if_neg ht0] at hbk;split at hbk
   ·assumption
   ·cases hbk
  have hat:=hr.resolve_left ht0;have hlt:=hL.at_ hat;obtain⟨hz,h0,h1⟩:=hL.Es hlt.1;obtain⟨f1,f2⟩:=hL.Fa hz (show 0<=gu B S t+1 by omega) oZ;rw[show t-gu B S t+(gu B S t+1)=t+1 by omega] at f1 f2;have hp:=hL.pool (show kI B S t<6 by omega);have hin:=Eh (show kI B S (t+1)<4 by omega);have hl4:=hlast _ hlt.1;rw[f1] at hin;unfold uH at hin;refine⟨t+1,Us,cs.set (t+1).toNat (u32 wd),⟨⟨1,oZ,?_⟩,sZ,?_,.inr oZ,⟨oZ,by have:=hL.c1;omega⟩,hus,hsl,rfl,?_⟩⟩
  ·unfold eP;rw[if_pos hr,hbk];exact .store oZ oZ ⟨oZ,oZ⟩ (.ret _ _)
  ·intro p hp2;rw[fA,if_neg oZ]
  ·intro c j;have hl:bY B S t=aN (kI B S t)-1-gu B S t:=by unfold bY;rw[if_neg ht0]
   have hl':bY B S (t+1)=bY B S t-1:=by
    rw[hl];unfold bY;rw[if_neg oZ,f1,f2];omega
   have hn':bI B S (t+1)=bI B S t:=by
    unfold bI;rw[if_neg oZ,if_neg ht0,f1]
   rw[gJ,if_neg oZ,hl',hn'];omega
 | some k =>
  have hnk:bY B S t=0/\bI B S t=k:=by
   unfold bU at hbk;unfold bY bI;split at hbk
   ·rename_i h0
    rw[if_pos h0,if_pos h0];exact⟨rfl,by cases hbk;rfl⟩
   ·rename_i h0
    rw[if_neg h0,if_neg h0];split at hbk
    ·cases hbk
    ·rename_i h1
     have:=hL.at_ (hr.resolve_left h0);refine⟨oZ,?_⟩;cases hbk;rfl
  have hk:k<4:=by
   rw[<- hnk.2];unfold bI;split
   ·omega
   ·split <;> omega
  have hroom:=hfit k hbk;have hs:=dB k;obtain⟨q,hq⟩:=hsl k hk;have hpk:=hL.pool (show k<6 by omega);have hu:=hus k oZ;have hl4:=hlast k hk;obtain⟨z,hz⟩:∃ z,z=B k+Us k:=⟨_,rfl⟩;have hsl1:CY B S k z:=⟨hk,⟨q,oZ⟩,oZ⟩;obtain⟨f1,f2⟩:=hL.Fa hsl1 (show 0<=(1:Int) by omega) oZ;have hmk:∀ j,more Us k (aN k) j=if j=k then Us k+aN k else Us j:=fun j=>rfl
  have hrest:bG B S (z+1)/\(0<z+1/\z+1<=65536)/\(∀ j,j<6->0<=more Us k (aN k) j/\more Us k (aN k) j<=S j)/\(∀ j,j<4->∃ q:Nat,more Us k (aN k) j=q*aN j)/\more Us k (aN k) 4=Us 4/\∀ (c j:Nat),dX (c+1) (bY B S t) (bI B S t) j=(more Us k (aN k) j-Us j)+dX c (bY B S (z+1)) (bI B S (z+1)) j:=by
   refine⟨.inr oZ,⟨oZ,by have:=hL.c1;omega⟩,?_,?_,?_,?_⟩
   ·intro j hj;have:=hus j hj;rw[hmk];split
    ·subst j;omega
    ·exact this
   ·intro j hj;rw[hmk];split
    ·subst j;exact⟨q+1,by rw[hq];have:((q+1:Nat):Int)=(q:Int)+1:=oZ;rw[this,Int.add_mul,Int.one_mul]⟩
    ·exact hsl j hj
   ·rw[hmk,if_neg oZ]
   ·intro c j
    have hl':bY B S (z+1)=aN k-2:=by
     unfold bY;rw[if_neg oZ,f1,f2];omega
    have hn':bI B S (z+1)=up k:=by
     unfold bI up;rw[if_neg oZ,f1]
    rw[gJ,if_pos hnk.1,hnk.2,hl',hn',hmk];split
    ·subst j;omega
    ·omega
  obtain⟨r1,r2,r3,r4,r5,r6⟩:=hrest;by_cases ht0:t=0
  ·refine⟨z+1,more Us k (aN k),cs.set (z+1).toNat (u32 wd),⟨⟨1,oZ,?_⟩,sZ,?_,r1,r2,r3,r4,r5,r6⟩⟩
   ·unfold eP;rw[if_pos hr,hbk];simp only;rw[if_pos hroom,if_pos ht0,<- hz];exact .store oZ oZ ⟨oZ,oZ⟩ (.ret _ _)
   ·intro p hp2;rw[fA,if_neg oZ]
  ·refine⟨z+1,more Us k (aN k),(cs.set z.toNat (u32 t)).set (z+1).toNat (u32 wd),⟨⟨2,oZ,?_⟩,sZ,?_,r1,r2,r3,r4,r5,r6⟩⟩
   ·unfold eP;rw[if_pos hr,hbk];simp only;rw[if_pos hroom,if_neg ht0,<- hz];exact .store oZ oZ ⟨oZ,oZ⟩ (.store oZ uZ ⟨oZ,oZ⟩ (.ret _ _))
   ·intro p hp2;rw[fA,if_neg oZ,fA,if_neg oZ]
end
/-! ### A word -/
def bV (cs:List Int) (d:bK) (k:List Nat) (m:Nat):Int:=if eQ d k m=0 then 0 else cs.getD (eQ d k m).toNat 0
abbrev KU:=Int×Int×(Nat->Int)×Int
def vP (B S:Nat->Int) (Us:Nat->Int) (a t wd:Int):Pr KU :=
 (eP B S Us t wd).bind fun z=>if z.2.2≠0 then .ret (a,t,Us,z.2.2) else .store a z.1 (.ret (a,z.1,z.2.1,0))
def jB (B S:Nat->Int) (Us:Nat->Int) (s:Int) (m:Nat) (k:List Nat):Pr DJ :=
 (jf s (m:Int) k).bind fun x=>gp B S Us s x.2 k
def fB (B S:Nat->Int) (Us:Nat->Int) (s:Int) (m:Nat) (k:List Nat) (a t wd:Int):Pr KU :=
 if a=0 then(jB B S Us s m k).bind fun y=>if y.2.2≠0 then .ret (a,t,Us,y.2.2) else vP B S y.2.1 y.1 t wd
 else vP B S Us a t wd
inductive uy (B S:Nat->Int) (s:Int) (m:Nat) (doc:Int) (cs:List Int) (Us:Nat->Int) (tk:Tk):List Int->(Nat->Int)->Prop
 | found {slot:Int} {r q1:Nat} {t wd:Int} {q2:Nat} {z:su} {cs2:List Int}:r≠0->r<cs.length->Does (fR s m (aM tk) m 0) cs q1 ((r:Int),slot) cs->cs.getD r 0=t->dV doc tk.2.2=wd->U wd->bG B S t->(∀ k,bU B S t=some k->k<4/\(0<=Us k/\Us k<=S k)/\aN k<=S k-Us k)->Does (eP B S Us t wd) cs q2 z cs2->uy B S s m doc cs Us tk (cs2.set r (u32 z.1)) z.2.1
 | fresh {slot:Int} {q1 q3:Nat} {y0:DJ} {cs1:List Int} {Us1:Nat->Int} {r:Nat} {t wd:Int} {q2:Nat} {z:su} {cs2:List Int}:0<=slot->slot<=1000000->Does (fR s m (aM tk) m 0) cs q1 ((0:Int),slot) cs->(0<=Us 4/\Us 4<=S 4)->2+((aF (aM tk)).length:Int)<=S 4-Us 4->Does (gp B S Us s slot (aM tk)) cs q3 y0 cs1->(∀ y∈cs1,U y)->B 4+Us 4=(r:Int)->r<cs.length->Us1=more Us 4 (2+((aF (aM tk)).length:Int))->cs1.getD r 0=t->dV doc tk.2.2=wd->U wd->bG B S t->(∀ k,bU B S t=some k->k<4/\(0<=Us1 k/\Us1 k<=S k)/\aN k<=S k-Us1 k)->Does (eP B S Us1 t wd) cs1 q2 z cs2->uy B S s m doc cs Us tk (cs2.set r (u32 z.1)) z.2.1
inductive AC (B S:Nat->Int) (s:Int) (m:Nat) (doc:Int):List Int->(Nat->Int)->List Tk->List Int->(Nat->Int)->Prop
 | nil (cs:List Int) (Us:Nat->Int):AC B S s m doc cs Us [] cs Us
 | cons {cs cs1 cs2:List Int} {Us Us1 Us2:Nat->Int} {tk:Tk} {l:List Tk}:(∀ y∈cs,U y)->uy B S s m doc cs Us tk cs1 Us1->cs1.length=cs.length->AC B S s m doc cs1 Us1 l cs2 Us2->AC B S s m doc cs Us (tk :: l) cs2 Us2
structure WS (B S:Nat->Int) (C:Int) (m:Nat) (s:Int) (cs:List Int) (Us:Nat->Int) (d:bK):Prop where
 len:(cs.length:Int)=C
 cu:∀ y∈cs,U y
 dict:fI m s (B 4) (B 4+Us 4) d cs
 key17:∀ i a k,d i=some (a,k)->k.length<=17
 used:∀ k,k<6->0<=Us k/\Us k<=S k
 slabs:∀ k,k<4->∃ q:Nat,Us k=q*aN k
 book0:∀ p:Nat,B 4+Us 4<=p->(p:Int)<B 5->cs.getD p 0=0
 tail:∀ i a k,d i=some (a,k)->bG B S (cs.getD a.toNat 0)
 sep:∀ i j a b k k',i≠j->d i=some (a,k)->d j=some (b,k')->a+2+((aF k).length:Int)<=b∨b+2+((aF k').length:Int)<=a
def AZ (B:Nat->Int) (s:Int) (m:Nat) (a:Int):Prop:=3<=a/\(a<B 5∨(s<=a/\a<s+m))
structure Ms (B S:Nat->Int) (C:Int) (m:Nat) (s doc:Int) (cs:List Int) (Us:Nat->Int) (d:bK) (tk:Tk) (wd:Int) (cs':List Int) (Us':Nat->Int) (d':bK) (a' t':Int):Prop where
 ref:uy B S s m doc cs Us tk cs' Us'
 prog:∃ q,q<=3700/\dx (AZ B s m) (fB B S Us s m (aM tk) (eQ d (aM tk) m) (bV cs d (aM tk) m) wd) cs q (a',t',Us',0) cs'
 len:cs'.length=cs.length
 inv:WS B S C m s cs' Us' d'
 le:d.Le d'
 occ_:qo d' m=qo d m+(if eQ d (aM tk) m=0 then 1 else 0)
 rec_:eQ d' (aM tk) m=a'/\a'≠0
 tail_:bV cs' d' (aM tk) m=t'
 other:∀ k,k≠aM tk->eQ d' k m=eQ d k m/\bV cs' d' k m=bV cs d k m
 need:∀ c j,dX (c+1) (bY B S (bV cs d (aM tk) m)) (bI B S (bV cs d (aM tk) m)) j+(if eQ d (aM tk) m=0/\j=4 then 2+((aF (aM tk)).length:Int) else 0)=(Us' j-Us j)+dX c (bY B S t') (bI B S t') j
 out:∀ p:Nat,(p:Int)<3∨(B 5<=p/\((p:Int)<s∨s+(m:Int)<=p))->cs'.getD p 0=cs.getD p 0
section
variable {B S:Nat->Int} {C:Int} {m:Nat} {s:Int} {cs:List Int} {Us:Nat->Int} {d:bK}
theorem WS.sU (h:WS B S C m s cs Us d) (k:List Nat):(eQ d k m=0/\bV cs d k m=0/\∀ a,¬ Has d k a)∨∃ i a,d i=some (a,k)/\eQ d k m=a/\bV cs d k m=cs.getD a.toNat 0/\3<=a:=by
 by_cases hh:∃ a,Has d k a
 ·obtain⟨a,i,hi⟩:=hh;have e:=h.dict.mg hi;have h3:=h.dict.pos ⟨i,hi⟩;refine .inr ⟨i,a,hi,e,?_,h3⟩;unfold bV;rw[e,if_neg oZ]
 ·have hn:∀ a,¬ Has d k a:=fun a ha=>hh ⟨a,ha⟩;have e:=jd hn m;refine .inl ⟨e,?_,hn⟩;unfold bV;rw[if_pos e]
theorem WS.vG (h:WS B S C m s cs Us d) (k:List Nat):bG B S (bV cs d k m):=by
 rcases h.sU k with ⟨_,e,_⟩ | ⟨i,a,hi,_,e,_⟩
 ·rw[e];exact .inl rfl
 ·rw[e];exact h.tail i a k hi
theorem fI.turn {lo hi:Int} {cs':List Int} (h:fI m s lo hi d cs) (hl:cs'.length=cs.length) (hs:∀ i,i<m->cs'.getD (s+(i:Int)).toNat 0=cs.getD (s+(i:Int)).toNat 0) (hr:∀ i a k,d i=some (a,k)->∀ p:Nat,a<p->(p:Int)<a+2+((aF k).length:Int)->cs'.getD p 0=cs.getD p 0):fI m s lo hi d cs':=by
 refine⟨h.n0,h.lo0,h.lohi,h.his,by rw[hl];exact h.len,fun i hi2=>by rw[hs i hi2];exact h.slot i hi2,fun i a k hi2=>?_,h.probe⟩;obtain⟨r1,r2,r3,r4,r5⟩:=h.rec_ i a k hi2;have h3:=h.lo0;refine⟨r1,r2,⟨?_,fun j x hj=>?_⟩,r4,r5⟩
 ·rw[hr i a k hi2 _ oZ oZ];exact r3.len
 ·have:=(eZ.1 hj).1;rw[hr i a k hi2 _ oZ oZ];exact r3.cells j x hj
theorem WS.Et (hL:Laid B S C) (h:WS B S C m s cs Us d) (hs5:B 5<=s) {i:Nat} {a:Int} {k:List Nat} (hi:d i=some (a,k)) {wd:Int} (hfit:∀ k',bU B S (cs.getD a.toNat 0)=some k'->aN k'<=S k'-Us k') :
  ∃ t' Us' cs2 cs',EB B S cs Us (cs.getD a.toNat 0) wd t' Us' cs2/\cs'=cs2.set a.toNat (u32 t')/\cs'.length=cs.length/\WS B S C m s cs' Us' d/\eQ d k m=a/\bV cs' d k m=t'/\(∀ k2,k2≠k->bV cs' d k2 m=bV cs d k2 m)/\(∃ q,q<=3/\dx (AZ B s m) (vP B S Us a (cs.getD a.toNat 0) wd) cs q (a,t',Us',0) cs') /\
   (∀ p:Nat,(p:Int)<3∨B 5<=p->cs'.getD p 0=cs.getD p 0):=by
 have hb:=hL.bases;obtain⟨t',Us',cs2,hg⟩:=Gb hL h.len h.used h.slabs (wd:=wd) (h.tail i a k hi) hfit;obtain⟨r1,r2,r3,r4,r5⟩:=h.dict.rec_ i a k hi;have hu4:=h.used 4 oZ;have hlen:=h.len;have hrec:=h.dict.mg hi;obtain⟨p,hp⟩:∃ p:Nat,a=(p:Int):=⟨a.toNat,oZ⟩;have hpa:a.toNat=p:=oZ;have hut:u32 t'=t':=u32_in ⟨by have:=hg.pos;omega,by have:=hg.pos;omega⟩
 have hget:∀ q:Nat,(cs2.set a.toNat (u32 t')).getD q 0=if q=p then t' else cs2.getD q 0:=by
  intro q;rw[hpa,fA,hut];by_cases e:p=q
  ·rw[if_pos ⟨e,by rw[hg.len];omega⟩,if_pos e.symm]
  ·rw[if_neg (fun x=>e x.1),if_neg (fun x=>e x.symm)]
 have hbook:∀ q:Nat,B 4<=(q:Int)->q≠p->(cs2.set a.toNat (u32 t')).getD q 0=cs.getD q 0:=by
  intro q h1 h2;rw[hget,if_neg h2,hg.out q (.inr h1)]
 have hother:∀ j b k2,d j=some (b,k2)->j≠i->b.toNat≠p:=by
  intro j b k2 hj hne e;have hb3:=(h.dict.rec_ j b k2 hj).1;have:b=a:=oZ;subst this;rcases h.sep j i b b k2 k hne hj hi with h1 | h1 <;> omega
 refine⟨t',Us',cs2,_,hg,rfl,by simp[hg.len],⟨by simp[hg.len];exact hlen,?_,?_,h.key17,hg.used,hg.slabs,?_,?_,h.sep⟩,hrec,?_,?_,?_,?_⟩
 ·obtain⟨q,_,hd⟩:=hg.does;exact jI (hd.does.EH h.cu) (qy _)
 ·rw[hg.book];refine h.dict.turn (by simp[hg.len]) (fun j hj=>?_) fun j b k2 hj q h1 h2=>?_
  ·have:=h.dict.his;rw[hbook _ oZ oZ]
  ·have hb3:=(h.dict.rec_ j b k2 hj).1;refine hbook q oZ fun e=>?_;by_cases hji:j=i
   ·subst hji;rw[hi] at hj;cases hj;omega
   ·rcases h.sep j i b a k2 k hji hj hi with h3 | h3 <;> omega
 ·intro q h1 h2;rw[hg.book] at h1;rw[hbook q oZ oZ];exact h.book0 q h1 h2
 ·intro j b k2 hj;by_cases hji:j=i
  ·subst hji;rw[hi] at hj;cases hj;rw[hget,if_pos hpa];exact hg.right
  ·have hb3:=(h.dict.rec_ j b k2 hj).1;rw[hbook _ oZ (hother j b k2 hj hji)];exact h.tail j b k2 hj
 ·unfold bV;rw[hrec,if_neg oZ,hget,if_pos hpa]
 ·intro k2 hne;rcases h.sU k2 with ⟨e,e2,_⟩ | ⟨j,b,hj,e,e2,_⟩
  ·rw[e2];unfold bV;rw[if_pos e]
  ·rw[e2]
   have hji:j≠i:=by
    rintro rfl;rw[hi] at hj;cases hj;exact hne rfl
   have hb3:=(h.dict.rec_ j b k2 hj).1;unfold bV;rw[e,if_neg oZ,hbook _ oZ (hother j b k2 hj hji)]
 ·obtain⟨q,hq,hd⟩:=hg.does
  have hd2:=hd.does.stores (A:=AZ B s m) (by
   have:dF (fun a=>3<=a/\a<B 4) (eP B S Us (cs.getD a.toNat 0) wd):=by
    clear hd;have hr:=h.tail i a k hi;obtain⟨_,_,hd⟩:=hg.does;revert hd
    unfold eP;rw[if_pos hr];split
    ·intro hd;cases hd with
     | store _ _ h3 _=>exact⟨h3,trivial⟩
    ·split
     ·split
      ·intro hd;cases hd with
       | store _ _ h3 _=>exact⟨h3,trivial⟩
      ·intro hd;cases hd with
       | store _ _ h3 h4 =>
        cases h4 with
        | store _ _ h5 _=>exact⟨h3,h5,trivial⟩
     ·exact fun _=>trivial
   exact this.mono fun a ha=>⟨ha.1,.inl oZ⟩)
  refine⟨q+1,oZ,?_⟩;unfold vP;refine hd2.bind ?_;show dx _ (if(0:Int)≠0 then _ else _) _ _ _ _;rw[if_neg sZ];exact .store oZ (by rw[hg.len];omega) ⟨oZ,.inl oZ⟩ (.ret _ _)
 ·intro q hq;rw[hget,if_neg oZ,hg.out q oZ]
theorem WS.word (hL:Laid B S C) (h:WS B S C m s cs Us d) (hs5:B 5<=s) (hC:C<=65536) (hm:m<=512) {tk:Tk} (tk0:0<=tk.1/\tk.1<=255) (tk17:tk.2.1.size<=16) {doc wd:Int} (hwd:dV doc tk.2.2=wd) (hwu:U wd) (hocc:qo d m<m)
  (hbook:eQ d (aM tk) m=0->2+((aF (aM tk)).length:Int)<=S 4-Us 4) (hfit:∀ k,bU B S (bV cs d (aM tk) m)=some k->aN k<=S k-Us k):∃ cs' Us' d' a' t',Ms B S C m s doc cs Us d tk wd cs' Us' d' a' t':=by
 have hb:=hL.bases;have hkb:=iE tk0.1 tk0.2;have hkl:(aM tk).length<=17:=by unfold aM;rw[List.length_cons,aD];omega
 have hcl:=bC (aM tk);have hu4:=h.used 4 oZ;have hlen:=h.len;have hsl:=h.dict.len;obtain⟨κ,hκ⟩:∃ κ,κ=aM tk:=⟨_,rfl⟩;rw[<- hκ] at hkb hkl hcl hbook hfit;obtain⟨q,a,t,hq,ht,hf,hfs⟩:=sG (k:=κ) h.dict oZ hkb oZ hocc
 have hq2:q<=3584:=by
  refine Nat.le_trans hq ?_;have:m*(2+(aF κ).length)<=512*7:=Nat.mul_le_mul hm oZ;omega
 have hslt:=jX h.dict.n0 (bZ κ) t
 have hfit4:∀ (Ux:Nat->Int) (tt:Int),(∀ k,k<6->0<=Ux k/\Ux k<=S k)->(∀ k,bU B S tt=some k->aN k<=S k-Ux k)->∀ k,bU B S tt=some k->k<4/\(0<=Ux k/\Ux k<=S k)/\aN k<=S k-Ux k:=by
  intro Ux tt h1 h2 k hk
  have hk4:k<4:=by
   unfold bU at hk;split at hk
   ·cases hk;omega
   ·split at hk
    ·cases hk
    ·cases hk;split <;> omega
  exact⟨hk4,h1 k oZ,h2 k hk⟩
 rcases hfs with hdi | ⟨rfl,hdn,hp,hno⟩
 ·obtain⟨r1,r2,r3,r4,r5⟩:=h.dict.rec_ _ a κ hdi;have hrec:=h.dict.mg hdi;have htl:bV cs d κ m=cs.getD a.toNat 0:=by unfold bV;rw[hrec,if_neg oZ]
  rw[htl] at hfit;obtain⟨t',Us',cs2,cs',g1,g2,g3,g4,g5,g6,g7,⟨q2,g8,g9⟩,g10⟩:=h.Et hL hs5 hdi (wd:=wd) hfit;obtain⟨q3,_,hput⟩:=g1.does;refine⟨cs',Us',d,a,t',?_⟩;refine⟨?_,⟨q2,oZ,?_⟩,g3,g4,bK.Le.refl d,?_,?_,?_,?_,?_,?_⟩
  ·rw[g2];have:=uy.found (B:=B) (S:=S) (s:=s) (m:=m) (doc:=doc) (cs:=cs) (Us:=Us) (tk:=tk) (slot:=((bL m (bZ κ) t:Nat):Int)) (r:=a.toNat) (q1:=q) (z:=(t',Us',0)) oZ oZ (by rw[show ((a.toNat:Nat):Int)=a by omega,<- hκ];exact hf) rfl hwd hwu (h.tail _ a κ hdi) (hfit4 Us _ h.used hfit) hput.does;exact this
  ·rw[<- hκ,htl,hrec];unfold fB;rw[if_neg oZ];exact g9
  ·rw[<- hκ,hrec,if_neg oZ];omega
  ·rw[<- hκ];exact⟨g5,oZ⟩
  ·rw[<- hκ];exact g6
  ·intro k hk;rw[<- hκ] at hk;exact⟨rfl,g7 k hk⟩
  ·intro c j;rw[<- hκ,htl,hrec,if_neg (fun e=>by have:=e.1;omega)];have:=g1.need c j;omega
  ·intro p hp2;exact g10 p oZ
 ·have hrec:=jd hno m;have htl:bV cs d κ m=0:=by unfold bV;rw[if_pos hrec]
  rw[htl] at hfit;have hroom:=hbook hrec;obtain⟨cs1,p1,p2,p3,p4⟩:=h.dict.put (U:=Us) (S:=S) hkb oZ oZ oZ ht hp hdn hroom;obtain⟨i,hi⟩:∃ i,i=bL m (bZ κ) t:=⟨_,rfl⟩;rw[<- hi] at p1 p3 p4 hslt hdn;obtain⟨r,hr⟩:∃ r:Nat,B 4+Us 4=(r:Int):=⟨(B 4+Us 4).toNat,oZ⟩;obtain⟨Us1,hU1⟩:∃ Us1,Us1=more Us 4 (2+((aF κ).length:Int)):=⟨_,rfl⟩;obtain⟨d1,hd1⟩:∃ d1,d1=d.put i (B 4+Us 4,κ):=⟨_,rfl⟩;rw[<- hU1] at p1 p3;rw[<- hd1] at p3 p4;have hm4:∀ j,Us1 j=if j=4 then Us 4+(2+((aF κ).length:Int)) else Us j:=fun j=>by rw[hU1];rfl
  have hd1i:d1 i=some (B 4+Us 4,κ):=by rw[hd1];unfold bK.put;rw[if_pos rfl]
  have hd1o:∀ j,j≠i->d1 j=d j:=fun j hj=>by rw[hd1];unfold bK.put;rw[if_neg hj]
  have hA:dF (fun a=>B 4+Us 4+1<=a/\(a<=B 4+Us 4+1+((aF κ).length:Int)∨a=s+(i:Int))) (gp B S Us s (i:Int) κ):=Jc (fun j hj=>⟨oZ,.inl oZ⟩) ⟨by have:=h.dict.his;omega,.inr rfl⟩;have hD1:=p1.stores hA
  have hout:∀ p:Nat,((p:Int)<B 4+Us 4+1∨(B 4+Us 4+1+((aF κ).length:Int)<p/\(p:Int)≠s+(i:Int)))->cs1.getD p 0=cs.getD p 0:=by
   intro p hp2;exact hD1.out p oZ
  have hzero:cs1.getD r 0=0:=by
   rw[hout r oZ];exact h.book0 r oZ oZ
  have hcu1:=p1.EH h.cu;have hbooked:∀ j b k2,d j=some (b,k2)->B 4<=b/\b+2+((aF k2).length:Int)<=B 4+Us 4:=fun j b k2 hj=>⟨(h.dict.rec_ j b k2 hj).1,(h.dict.rec_ j b k2 hj).2.1⟩
  have h1:WS B S C m s cs1 Us1 d1:=by
   refine⟨by rw[p2];exact hlen,hcu1,p3,?_,?_,?_,?_,?_,?_⟩
   ·intro j b k2 hj;by_cases e:j=i
    ·subst e;rw[hd1i] at hj;cases hj;exact hkl
    ·rw[hd1o j e] at hj;exact h.key17 j b k2 hj
   ·intro k hk;have:=h.used k hk;rw[hm4];split
    ·subst k;omega
    ·exact this
   ·intro k hk;rw[hm4,if_neg oZ];exact h.slabs k hk
   ·intro p h2 h3;rw[hm4,if_pos rfl] at h2;rw[hout p (.inr ⟨oZ,oZ⟩)];exact h.book0 p oZ h3
   ·intro j b k2 hj;by_cases e:j=i
    ·subst e;rw[hd1i] at hj;cases hj;rw[show (B 4+Us 4).toNat=r by omega,hzero];exact .inl rfl
    ·rw[hd1o j e] at hj;have:=hbooked j b k2 hj;rw[hout _ (.inl oZ)];exact h.tail j b k2 hj
   ·intro j1 j2 b1 b2 k1 k2 hne hj1 hj2;by_cases e1:j1=i
    ·rw[e1,hd1i] at hj1;cases hj1;rw[hd1o j2 oZ] at hj2;have:=hbooked j2 b2 k2 hj2;right;omega
    ·rw[hd1o j1 e1] at hj1;by_cases e2:j2=i
     ·rw[e2,hd1i] at hj2;cases hj2;have:=hbooked j1 b1 k1 hj1;left;omega
     ·rw[hd1o j2 e2] at hj2;exact h.sep j1 j2 b1 b2 k1 k2 hne hj1 hj2
  have hrt:(B 4+Us 4).toNat=r:=oZ
  have hfit1:∀ k',bU B S (cs1.getD (B 4+Us 4).toNat 0)=some k'->aN k'<=S k'-Us1 k':=by
   intro k' hk';rw[hrt,hzero] at hk';have:=hfit k' hk';have hk0:k'=0:=by simp[bU] at hk';omega
   rw[hm4,if_neg oZ];exact this
  obtain⟨t',Us',cs2,cs',g1,g2,g3,g4,g5,g6,g7,⟨q2,g8,g9⟩,g10⟩:=h1.Et hL hs5 hd1i (wd:=wd) hfit1;rw[hrt,hzero] at g1 g9 hfit1;obtain⟨q3,_,hput⟩:=g1.does;refine⟨cs',Us',d1,B 4+Us 4,t',?_⟩;refine⟨?_,?_,g3.trans p2,g4,p4,?_,?_,?_,?_,?_,?_⟩
  ·rw[g2,hrt];exact uy.fresh (slot:=(i:Int)) (q1:=q) (z:=(t',Us',0)) oZ oZ (by rw[<- hκ,hi];exact hf) hu4 (by rw[<- hκ];exact hroom) (by rw[<- hκ];exact p1) hcu1 hr oZ (by rw[<- hκ];exact hU1) hzero hwd hwu (.inl rfl) (hfit4 Us1 0 h1.used hfit1) hput.does
  ·rw[<- hκ,htl,hrec];refine⟨(q+((aF κ).length+2))+q2,oZ,?_⟩;unfold fB;rw[if_pos rfl];refine dx.bind (x:=(B 4+Us 4,Us1,(0:Int))) (cs1:=cs1) ?_ ?_
   ·unfold jB;rw[show jf s (m:Int) κ=fR s m κ m 0 by unfold jf;rw[if_neg (by have:=h.dict.n0;omega),Int.toNat_natCast]];refine dx.bind (hf.stores (EF s m κ m 0)) ?_;show dx _ (gp B S Us s ((bL m (bZ κ) t:Nat):Int) κ) _ _ _ _;rw[<- hi];exact p1.stores (hA.mono fun a ha=>⟨oZ,oZ⟩)
   ·show dx _ (if(0:Int)≠0 then _ else _) _ _ _ _;rw[if_neg sZ];exact g9
  ·rw[<- hκ,hrec,if_pos rfl,hd1];exact EP hdn m hslt
  ·rw[<- hκ];exact⟨g5,oZ⟩
  ·rw[<- hκ];exact g6
  ·intro k hk;rw[<- hκ] at hk
   have e1:eQ d1 k m=eQ d k m:=by
    rw[hd1];rw[hd1] at p3 p4;exact h.dict.JL p3 p4 (fun e=>hk e.symm)
   refine⟨e1,(g7 k hk).trans ?_⟩;unfold bV;rw[e1];rcases h.sU k with ⟨e,_,_⟩ | ⟨j,b,hj,e,_,_⟩
   ·rw[if_pos e,if_pos e]
   ·have:=hbooked j b k hj;rw[e,hout _ (.inl oZ)]
  ·intro c j;rw[<- hκ,htl,hrec];have:=g1.need c j;rw[hm4] at this;by_cases e:j=4
   ·subst e;rw[if_pos ⟨rfl,rfl⟩];rw[if_pos rfl] at this;omega
   ·rw[if_neg (fun x=>e x.2)];rw[if_neg e] at this;omega
  ·intro p hp2;rw[g10 p oZ];exact hout p oZ
end
theorem Cz {w:World} {base base' size n:Nat} {e:TypeId} {v:Value} {xs:List Value} (h:w.ownsRow base e size v n xs) (hb:base'<=base):w.ownsRow base' e size v n xs:=by
 obtain⟨h0,h | ⟨g,cap,cur,k1,k2,k3⟩⟩:=h
 ·exact⟨h0,.inl h⟩
 ·exact⟨h0,.inr ⟨g,cap,cur,k1,Nat.le_trans hb k2,k3⟩⟩
theorem AR {e t:TypeId} {w w':World} {base size n:Nat} {v:Value} {xs:List Value} (h:w.ownsRow base e size v n xs) (hg:w.grownBy w' v.ownBlock) {b:Nat} {c:Array Value} (hb:w.heap[b]?=some (.cells c t (0,0))) (ht:t≠e):w'.heap[b]?=some (.cells c t (0,0)):=by
 rw[hg.block b (lt_of_heap hb) (fun he=>?_)]
 ·exact hb
 ·obtain⟨_,⟨rfl,_⟩ | ⟨g,cap,cur,rfl,_,hg2,_⟩⟩:=h
  ·simp[Value.ownBlock] at he
  ·simp only[Value.ownBlock,Option.some.injEq] at he;subst he;rw[hb] at hg2;injection hg2 with q
   injection q with _ q
   exact ht q
def mK (w:World) (base:Nat) (v:Value) (ls:List (List Sn)):Prop:=∃ vs:List Value,w.ownsRow base 66 1 v ls.length vs/\∀ (j:Nat) (l:List Sn),ls[j]?=some l->∃ u,vs[j]?=some u/\nC w base u l
theorem mK.below {w w':World} {base:Nat} {v:Value} {ls:List (List Sn)} (h:mK w base v ls) (hb:Below w.heap.size w w'):mK w' base v ls:=by
 obtain⟨vs,h1,h2⟩:=h;refine⟨vs,ak h1 hb,fun j l hj=>?_⟩;obtain⟨u,k1,k2⟩:=h2 j l hj;exact⟨u,k1,ak k2 hb⟩
theorem mK.push {w w8:World} {base:Nat} {v v' vv:Value} {vs:List Value} {ls:List (List Sn)} {l:List Sn} (h1:w.ownsRow base 66 1 v ls.length vs) (h2:∀ (j:Nat) (l:List Sn),ls[j]?=some l->∃ u,vs[j]?=some u/\nC w base u l) (hv:nC w base vv l)
  (ho:w8.ownsRow base 66 1 v' (ls.length+1) (vs++[vv])) (hg:w.grownBy w8 v.ownBlock):mK w8 base v' (ls++[l]):=by
 refine⟨vs++[vv],by rw[List.length_append];exact ho,fun j y hj=>?_⟩;have hlen:vs.length=ls.length:=by have:=h1.1;omega
 by_cases hlt:j<ls.length
 ·rw[List.getElem?_append_left hlt] at hj;obtain⟨u,k1,k2⟩:=h2 j y hj;exact⟨u,by rw[List.getElem?_append_left oZ];exact k1,ja k2 h1 dZ hg⟩
 ·have hj2:=(eZ.1 hj).1;rw[List.length_append,List.length_singleton] at hj2;have hje:j=ls.length:=oZ;subst hje;rw[List.getElem?_append_right (Nat.le_refl _),Nat.sub_self] at hj;cases hj;exact⟨vv,by rw[List.getElem?_append_right oZ,hlen,Nat.sub_self];rfl,ja hv h1 dZ hg⟩
theorem Fu:(Tryz.prog.info? 66).map (fun i=>(i.zero,i.size,i.bytes))=some (some (.slice none 0 0),1,24):=kZ
def jh (cs:List Int) (v:Int):List Sg->List (List Sn)
 | []=>[]
 | s :: l=>jR cs (bP s) s.2.1.toNat v :: jh cs v l
theorem zD (w:World) (oa:Option Addr) (c n:Nat) (cs:List Int) (en:cs.length=n) (hn:n<=1000000) (hU:∀ y∈cs,U y) (ha:bQ .u32 w oa (gQ cs)) (og:Option Addr) (gn gc:Nat) (x:Sx) (eg:x.aC.length=gn) (hg:eH w og x.aC) (hgl:gn<=1000) (hin:∀ s∈x.aC,oU cs s) (v:Int) :
  Calls Tryz.prog 28 #[.agg (aH (.slice oa n c) (.slice og gn gc) x),.int .u32 v] w fun e w'=>∃ rv,e=.returned rv/\mK w' w.heap.size rv (jh cs v x.aC)/\Below w.heap.size w w':=by
 have HSn:=hJ (fun(w':World) (hb:Below w.heap.size w w') (b:Int) (m:Nat) (b0:0<=b) (hl:b+4*(m:Int)<=cs.length)=>yA w' oa c n cs en hn hU (ha.below hb) b m v b0 hl);have HG:=hJ hg;have HIn:=hJ hin;have HEg:=hJ eg;obtain⟨i0,hi0,hz0,hz1,hz2⟩:=info_parts Fu;have HI:=hJ (And.intro hi0 (And.intro hz0 (And.intro hz1 hz2)));obtain⟨Z,hZ⟩:∃ Z,Z=jh cs v x.aC:=⟨_,rfl⟩;rw[<- hZ];have HF0:=hJ (show ([]:List (List Sn))++jh cs v (x.aC.drop 0)=Z from hZ.symm);clear hU ha hg hin hZ eg en hi0 hz0 hz1 hz2;go_enter Tryz.func28,Tryz.ntmps28
 go_upto_region 2 with fail
 obtain⟨w1,hw1⟩:∃ w1,w1=w.alloc (.cells (aH (.slice oa n c) (.slice og gn gc) x) 49):=⟨_,rfl⟩;have e1:w1.heap.size=w.heap.size+1:=by rw[hw1];simp
 have HX:=hJ (show (w1.alloc (.cells #[] 66)).heap[w.heap.size]?=some (.cells (aH (.slice oa n c) (.slice og gn gc) x) 49 (0,0)) by rw[hw1];exact ed _ _ _);have HB1:=hJ (show Below w.heap.size w (w1.alloc (.cells #[] 66)) by rw[hw1];exact dh)
 have HO1:=hJ (show mK (w1.alloc (.cells #[] 66)) w.heap.size (.slice (some ⟨w.heap.size+1,0,none⟩) 0 0) [] by
  have h:=World.ownsRow_lit (base:=w.heap.size) (e:=66) (size:=1) w1 #[] 0 oZ dZ sZ;rw[e1] at h;exact⟨[],h,fun j l hj=>by simp at hj⟩)
 rw[show w.alloc (.cells (aH (.slice oa n c) (.slice og gn gc) x) 49)=w1 from hw1.symm];clear hw1 e1;generalize w1.alloc (.cells #[] 66)=w2 at HX HB1 HO1 ⊢;have c1:w2.cell? ⟨w.heap.size,1,none⟩=some (.slice og gn gc):=aa HX.out 1;obtain⟨v1,hv1⟩:∃ v1,v1=Value.slice (some ⟨w.heap.size+1,0,none⟩) 0 0:=⟨_,rfl⟩;rw[<- hv1] at HO1 ⊢;clear hv1;go_wp2_with fail
 go_loopg [5,15] gn (fun g lv iv wr=>∃ (i:Nat) (vv:Value) (ls:List (List Sn)),i+g=gn/\vv=lv/\iv=.int .i64 (i:Int)/\Hid (ls.length=i)/\Hid (wr.heap[w.heap.size]?=some (.cells (aH (.slice oa n c) (.slice og gn gc) x) 49 (0,0)))/\Hid (Below w.heap.size w wr)/\Hid (mK wr w.heap.size vv ls)/\Hid (ls++jh cs v (x.aC.drop i)=Z))
 case atStart=>exact⟨0,v1,[],oZ,rfl,rfl,hJ rfl,HX,HB1,HO1,HF0⟩
 case round =>
  clear HF0 HB1 HX c1 HO1;obtain⟨i,vv,ls,hig,rfl,rfl,HLn,HX,HB,HO,HF⟩:=hrel;cases gk with
  | zero =>
   have hi:gn=i:=oZ;have hf:=HF.out;rw[List.drop_eq_nil_of_le (by rw[HEg.out];omega)] at hf;unfold jh at hf;rw[List.append_nil] at hf;have HE:=hJ hf;subst hi;clear HF hig hf;go_wp2_with fail
   go_ret;exact⟨vv,rfl,by rw[<- HE.out];exact HO.out,HB.out⟩
  | succ g =>
   have hi:i<gn:=oZ;have hi1:(i:Int)<(gn:Int):=oZ;obtain⟨s,hs⟩:∃ s,x.aC[i]?=some s:=⟨_,gZ (by rw[HEg.out];exact hi)⟩;obtain⟨gb,ob,rfl,k1,k2,k3⟩:=HG.out.below HB.out i s hs;have hsin:=HIn.out s (List.mem_of_getElem? hs);have hf:=HF.out
   rw[show x.aC.drop i=s :: x.aC.drop (i+1) by
    have hlt:=(eZ.1 hs).1;rw[List.drop_eq_getElem_cons hlt,(eZ.1 hs).2]] at hf
   unfold jh at hf;have c1:wr.cell? ⟨w.heap.size,1,none⟩=some (.slice (some ⟨gb,ob,none⟩) gn gc):=aa HX.out 1;go_upto_region 6 with fail
   obtain⟨sa,sd,sz⟩:=s;obtain⟨s,hse⟩:∃ s:Sg,s=(sa,sd,sz):=⟨_,rfl⟩;rw[show sa=s.1 by rw[hse],show sd=s.2.1 by rw[hse],show sz=s.2.2 by rw[hse]];rw[<- hse] at hsin hf;obtain⟨t1,t2,t3,t4⟩:=hsin;have HBase:=hJ (fun w=>mU w s oZ oZ);obtain⟨m,hm⟩:=Int.eq_ofNat_of_zero_le t3;rw[hm,Int.toNat_natCast] at hf;rw[hm] at t4;have hb0:0<=bP s:=by unfold bP;split <;> omega
   have HFd0:=hJ (fun w' hb=>HSn.out w' hb (bP s) m hb0 t4);obtain⟨fz,hfz⟩:∃ fz,fz=jR cs (bP s) m v:=⟨_,rfl⟩;rw[<- hfz] at HFd0 hf;obtain⟨bz,hbz⟩:∃ bz,bz=bP s:=⟨_,rfl⟩;rw[<- hbz] at HFd0 HBase;have HSeen:Hid (∀ w',Below w.heap.size w w'->Calls Tryz.prog 24 #[.slice oa n c,.int .i64 bz,.int .i64 s.2.1,.int .u32 v] w' fun e w2=>∃ vv,e=.returned (.tuple #[vv,.bool true])/\nC w2 w'.heap.size vv fz/\Below w'.heap.size w' w2):=by rw[hm];exact HFd0
   have HF2:=hJ hf;have HQ:=hJ (nZ wr (.cells #[.int .i64 s.1,.int .i64 s.2.1,.bool s.2.2] 65));have hb5:=aj (w:=wr) (A:=.cells #[.int .i64 s.1,.int .i64 s.2.1,.bool s.2.2] 65);have HB5:=hJ (ag HB.out hb5);have HX5:=hJ ((hb5.block _ (lt_of_heap HX.out)).trans HX.out);have HO5:=hJ (HO.out.below hb5);generalize wr.alloc (.cells #[.int .i64 s.1,.int .i64 s.2.1,.bool s.2.2] 65)=w5 at HQ HB5 HX5 HO5 ⊢;obtain⟨qb,hqb⟩:∃ qb,qb=wr.heap.size:=⟨_,rfl⟩;rw[<- hqb] at HQ ⊢;clear hb5 hqb hf hs hse k1 k2 k3 c1 HF hm t1 t2 t3 t4 hb0 hfz hbz HFd0 HX HB HO sa sd sz;go_cut [8,9] (fun dv ov wx=>ov=.bool true/\Hid (nC wx w.heap.size dv fz)/\Hid (wx.heap[w.heap.size]?=some (.cells (aH (.slice oa n c) (.slice (some ⟨gb,ob,none⟩) gn gc) x) 49 (0,0)))/\Hid (Below w.heap.size w wx)/\Hid (mK wx w.heap.size vv ls))
   case first =>
    refine aL (fun(p:Value) j=>[.pointer (some ⟨w.heap.size,0,none⟩),.slice oa n c,.agg #[.int .i64 s.1,.int .i64 s.2.1,.bool s.2.2],.int .i64 bz,.pointer (some ⟨qb,1,none⟩),.int .i64 s.2.1,.int .u32 v,.tuple #[p,.bool true],.tuple #[p,.bool true],p,.bool true,p,.bool true].getD j undef)
     (fun p l wx=>Below w.heap.size w wx/\wx.heap[w.heap.size]?=some (.cells (aH (.slice oa n c) (.slice (some ⟨gb,ob,none⟩) gn gc) x) 49 (0,0))/\wx.heap[qb]?=some (.cells #[.int .i64 s.1,.int .i64 s.2.1,.bool s.2.2] 65 (0,0))/\mK wx w.heap.size vv ls/\(l 7=true->nC wx w.heap.size p fz)/\(l 8=true->l 7=true)/\(l 9=true->l 7=true)/\(l 11=true->l 7=true))
     kZ kZ pZ undef ?_ ?_ ?_
    ·exact⟨HB5.out.drew,HX5.out,HQ.out,HO5.out.below (Below.refl _ _).drew,(fun h=>by cases h),(fun h=>by cases h),(fun h=>by cases h),(fun h=>by cases h)⟩
    ·intro i o ho p l wx hR hl he K hK;rcases i with _|_|_|_|_|_|_|_|_|_|_|_|_|i
     any_goals first | (cases ho;go_simp;exact hK p wx (fun _ _=>rfl) hR;done) | fail
     ·cases ho;have c0:wx.cell? ⟨w.heap.size,0,none⟩=some (.slice oa n c):=aa hR.2.1 0;go_simp;exact hK p wx (fun _ _=>rfl) hR
     ·cases ho;refine wp_load_row 65 (.tmp 7) rfl qb rfl 65 #[.int .i64 s.1,.int .i64 s.2.1,.bool s.2.2] (0,0) _ hR.2.2.1 Tryz.underlying65 rfl (nT s) ?_;exact hK p wx (fun _ _=>rfl) hR
     ·cases ho;go_simp;refine(HBase.out wx).mono ?_;rintro e w2 ⟨rfl,hb2⟩;exact hK p w2 (fun _ _=>rfl) ⟨ag hR.1 hb2,(hb2.block _ (lt_of_heap hR.2.1)).trans hR.2.1,(hb2.block _ (lt_of_heap hR.2.2.1)).trans hR.2.2.1,hR.2.2.2.1.below hb2,fun h=>ak (hR.2.2.2.2.1 h) hb2,hR.2.2.2.2.2⟩
     ·cases ho;have c5:wx.cell? ⟨qb,1,none⟩=some (.int .i64 s.2.1):=aa hR.2.2.1 1;go_simp;exact hK p wx (fun _ _=>rfl) hR
     ·cases ho;go_simp;refine(HSeen.out wx hR.1).mono ?_;rintro e w2 ⟨v2,rfl,ho2,hb2⟩;refine hK v2 w2 (fun j hj=>?_) ⟨ag hR.1 hb2,(hb2.block _ (lt_of_heap hR.2.1)).trans hR.2.1,(hb2.block _ (lt_of_heap hR.2.2.1)).trans hR.2.2.1,hR.2.2.2.1.below hb2,fun _=>Cz ho2 hR.1.size,fun _=>rfl,fun _=>rfl,fun _=>rfl⟩;rcases j with _|_|_|_|_|_|_|_|_|_|_|_|_|j
      all_goals first | rfl | (rw[hl] at hj;cases hj) | (exact absurd (hR.2.2.2.2.2.1 hj) lZ) | (exact absurd (hR.2.2.2.2.2.2.1 hj) lZ) | (exact absurd (hR.2.2.2.2.2.2.2 hj) lZ)
     ·cases ho;have h7:=he ⟨7,.data⟩ sZ rfl;go_simp;exact hK p wx (fun _ _=>rfl) ⟨hR.1,hR.2.1,hR.2.2.1,hR.2.2.2.1,hR.2.2.2.2.1,fun _=>h7,hR.2.2.2.2.2.2.1,hR.2.2.2.2.2.2.2⟩
     ·cases ho;have h7:=hR.2.2.2.2.2.1 (he ⟨8,.data⟩ sZ rfl);go_simp;exact hK p wx (fun _ _=>rfl) ⟨hR.1,hR.2.1,hR.2.2.1,hR.2.2.2.1,hR.2.2.2.2.1,hR.2.2.2.2.2.1,fun _=>h7,hR.2.2.2.2.2.2.2⟩
     ·cases ho;have h7:=hR.2.2.2.2.2.2.1 (he ⟨9,.data⟩ sZ rfl);go_simp;exact hK p wx (fun _ _=>rfl) ⟨hR.1,hR.2.1,hR.2.2.1,hR.2.2.2.1,hR.2.2.2.2.1,hR.2.2.2.2.2.1,hR.2.2.2.2.2.2.1,fun _=>h7⟩
     ·simp at ho
    ·intro p l wx hl hR;have HR1:=hJ hR.2.1;have HR2:=hJ hR.1;have HR3:=hJ hR.2.2.2.1;have HR4:=hJ (hR.2.2.2.2.1 (hl 7 dZ));clear hR hl;go_wp2_with fail
     go_meet
     exact⟨rfl,HR4,HR1,HR2,HR3⟩
   case rest =>
    clear HX5 HB5 HQ HO5;obtain⟨rfl,HV,HX,HB,HO⟩:=hcut;obtain⟨so,sc,hu8⟩:=dP HV.out fz.length rfl;subst hu8;obtain⟨vs,h1,h2⟩:=HO.out;have hbA:=aj (w:=wc) (A:=.cells #[.slice so fz.length sc] 66);have HRow:=hJ (show (wc.alloc (.cells #[.slice so fz.length sc] 66)).ownsRow w.heap.size 66 1 vv ls.length vs from ak h1 hbA);have HBa:=hJ (ag HB.out hbA);have HXa:=(hbA.block _ (lt_of_heap HX.out)).trans HX.out;have hll:ls.length<=1000:=by have:=HLn.out;omega
    have HFin:=hJ (show ∀ (v':Value) (w8:World),w8.ownsRow w.heap.size 66 1 v' (ls.length+1) (vs++[.slice so fz.length sc])->(wc.alloc (.cells #[.slice so fz.length sc] 66)).grownBy w8 vv.ownBlock->mK w8 w.heap.size v' (ls++[fz])/\Below w.heap.size w w8/\w8.heap[w.heap.size]?=some (.cells (aH (.slice oa n c) (.slice (some ⟨gb,ob,none⟩) gn gc) x) 49 (0,0)) from fun v' w8 ho hg=>⟨mK.push HRow.out (fun j l hj=>by
      obtain⟨u,q1,q2⟩:=h2 j l hj;exact⟨u,q1,ak q2 hbA⟩) (ak HV.out hbA) ho hg,HBa.out.grown hg HBa.out.size (fun k hk=>(World.ownsRow.lt HRow.out k hk).1),AR HRow.out hg HXa dZ⟩)
    have HF:=hJ (show (ls++[fz])++jh cs v (x.aC.drop (i+1))=Z by rw[List.append_assoc];exact HF2.out);clear hbA HXa h1 h2 HV HX HB HO HF2;go_wp2_with (at_builtin;refine wpList_append_own _ rfl (.tmp 35) (.tmp 37) 72 rfl w.heap.size 66 i0 _ 1 24 Tryz.underlying72 HI.out.1 HI.out.2.1 HI.out.2.2.1 HI.out.2.2.2 rfl dZ vv ls.length vs rfl HRow.out ⟨wc.heap.size,0,none⟩ 1 1 [.slice so fz.length sc] rfl rfl one_cell vZ mZ oZ HBa.out.size ?_;intro v' w8 ho2 hg2 _;have HR8:=hJ (HFin.out v' w8 ho2 hg2);clear ho2 hg2)
    go_roundg g
    case measure=>omega
    case rel=>exact⟨i+1,v',ls++[fz],oZ,rfl,by go_num,hJ (by rw[List.length_append,HLn.out];rfl),hJ HR8.out.2.2,hJ HR8.out.2.1,hJ HR8.out.1,HF⟩
/-! ### Keys and how often -/
def dY (l:List Tk) (k:List Nat):Nat:=List.count k (l.map aM)
theorem xM (tk:Tk) (l:List Tk) (k:List Nat):dY (tk :: l) k=dY l k+if aM tk=k then 1 else 0:=by
 unfold dY;rw[List.map_cons,List.count_cons];simp
structure KQ (l:List Tk) (P:List (List Nat)×List Nat):Prop where
 cnt:P.2=P.1.map (dY l)
 mem:∀ k,k∈P.1↔k∈l.map aM
 nd:P.1.Nodup
theorem jb (l:List Tk) (x:Tk) (k:List Nat):dY (l++[x]) k=dY l k+if aM x=k then 1 else 0:=by
 unfold dY;rw[List.map_append,List.count_append,List.map_cons,List.map_nil,List.count_cons];simp
theorem KQ.step {l:List Tk} {P:List (List Nat)×List Nat} (h:KQ l P) (x:Tk):KQ (l++[x]) (jo P (aM x)):=by
 obtain⟨h1,h2,h3⟩:=h;unfold jo;by_cases hk:aM x∈P.1
 ·rw[if_pos hk];refine⟨?_,fun k=>?_,h3⟩
  ·show P.2.set _ _=_;refine List.ext_getElem? fun j=>?_;rw[List.getElem?_set,List.getElem?_map];have hlt:=List.idxOf_lt_length_of_mem hk;have hlen:P.2.length=P.1.length:=by rw[h1,List.length_map]
   by_cases hj:P.1.idxOf (aM x)=j
   ·subst hj;rw[if_pos rfl,if_pos oZ,gZ hlt];simp only[Option.map_some,Option.some.injEq];rw[List.getElem_idxOf,jb,if_pos rfl,h1,List.getD_eq_getElem?_getD,List.getElem?_map,gZ hlt];simp
   ·rw[if_neg hj,h1,List.getElem?_map];cases hpj:P.1[j]? with
    | none=>rfl
    | some k =>
     simp only[Option.map_some,Option.some.injEq];rw[jb,if_neg]
     ·rfl
     ·intro e;apply hj;have hjl:=(eZ.1 hpj).1;have hje:=(eZ.1 hpj).2;rw[e,<- hje];exact h3.idxOf_getElem j hjl
  ·rw[h2,List.map_append,List.mem_append];refine⟨.inl,fun e=>e.elim id fun e=>?_⟩;simp at e;rw[e];exact(h2 _).1 hk
 ·rw[if_neg hk];refine⟨?_,fun k=>?_,?_⟩
  ·show P.2++[1]=_;rw[List.map_append,h1];congr 1
   ·refine List.map_congr_left fun k hk2=>?_;rw[jb,if_neg (by rintro rfl;exact hk hk2)];rfl
   ·rw[List.map_cons,List.map_nil,jb,if_pos rfl];have:dY l (aM x)=0:=List.count_eq_zero.2 fun e=>hk ((h2 _).2 e);rw[this]
  ·rw[List.map_append,List.mem_append,List.mem_append,h2];simp
  ·show (P.1++[aM x]).Nodup;rw[List.nodup_append];refine⟨h3,sZ,fun a ha b hb=>?_⟩;simp at hb;rw[hb];rintro rfl;exact hk ha
theorem zN (a b:List Tk) (P:List (List Nat)×List Nat):mM (a++b) P=mM b (mM a P):=by
 unfold mM;rw[List.map_append,List.foldl_append]
theorem AQ:∀ (b a:List Tk) (P:List (List Nat)×List Nat),KQ a P->KQ (a++b) (mM b P)
 | [],a,P,h=>by rw[List.append_nil];exact h
 | x :: b,a,P,h=>by
  have:=AQ b (a++[x]) (jo P (aM x)) (h.step x);rw[List.append_assoc,List.singleton_append] at this;exact this
theorem gU (l:List Tk):KQ l (bg l):=by
 have:=AQ l [] ([],[]) ⟨rfl,fun k=>sZ,List.nodup_nil⟩;rwa [List.nil_append] at this
/-! ### Sums over keys -/
def jU (K:List (List Nat)) (f:List Nat->Int):Int:=(K.map f).sum
theorem jc (k:List Nat) (K:List (List Nat)) (f:List Nat->Int):jU (k :: K) f=f k+jU K f:=by
 unfold jU;rw[List.map_cons,List.sum_cons]
theorem yc {f g:List Nat->Int}:∀ K,(∀ k∈K,g k=f k)->jU K g=jU K f
 | [],_=>rfl
 | k :: K,h=>by
  rw[jc,jc,h k sZ,yc K fun k' hk'=>h k' (by simp[hk'])]
theorem wF {f g:List Nat->Int} {κ:List Nat}:∀ K:List (List Nat),K.Nodup->κ∈K->(∀ k∈K,k≠κ->g k=f k)->jU K g=jU K f+g κ-f κ
 | [],_,h,_=>by simp at h
 | k :: K,hn,hk,h=>by
  rw[List.nodup_cons] at hn;rw[jc,jc];by_cases e:k=κ
  ·subst e;rw[yc K fun k' hk'=>h k' (by simp[hk']) (by rintro rfl;exact hn.1 hk')];omega
  ·have hm:κ∈K:=by
    rcases List.mem_cons.1 hk with h1 | h1
    ·exact absurd h1.symm e
    ·exact h1
   rw[wF K hn.2 hm fun k' hk'=>h k' (by simp[hk']),h k sZ e];omega
theorem yY {f:List Nat->Int}:∀ K:List (List Nat),(∀ k∈K,0<=f k)->0<=jU K f
 | [],_=>by unfold jU;simp
 | k :: K,h=>by
  have:=yY K fun k' hk'=>h k' (by simp[hk']);have:=h k sZ;rw[jc];omega
theorem uX {f:List Nat->Int} {κ:List Nat}:∀ K:List (List Nat),κ∈K->(∀ k∈K,0<=f k)->f κ<=jU K f
 | [],h,_=>by simp at h
 | k :: K,hk,h=>by
  have h1:=yY K fun k' hk'=>h k' (by simp[hk']);have h2:=h k sZ;rw[jc];rcases List.mem_cons.1 hk with e | e
  ·subst e;omega
  ·have:=uX K e fun k' hk'=>h k' (by simp[hk']);omega
/-! ### What is left to be taken -/
def rT (a:Int) (k:List Nat) (c j:Nat):Int:=if a=0/\0<c/\j=4 then 2+((aF k).length:Int) else 0
def iJ (B S:Nat->Int) (cs:List Int) (d:bK) (m:Nat) (l:List Tk) (j:Nat) (k:List Nat):Int :=
 dX (dY l k) (bY B S (bV cs d k m)) (bI B S (bV cs d k m)) j+rT (eQ d k m) k (dY l k) j
def ib (d:bK) (m:Nat) (l:List Tk) (k:List Nat):Int:=if eQ d k m=0/\0<dY l k then 1 else 0
theorem BN (a:Int) (k:List Nat) (c j:Nat):0<=rT a k c j:=by unfold rT;split <;> omega
theorem J2 (B S:Nat->Int) (cs:List Int) (d:bK) (m:Nat) (l:List Tk) (j:Nat) (k:List Nat):0<=iJ B S cs d m l j k:=by
 unfold iJ;have:=kD (dY l k) (bY B S (bV cs d k m)) (bI B S (bV cs d k m)) j;have:=BN (eQ d k m) k (dY l k) j;omega
theorem yD (d:bK) (m:Nat) (l:List Tk) (k:List Nat):0<=ib d m l k:=by unfold ib;split <;> omega
theorem Ao {B S:Nat->Int} {C:Int} (hL:Laid B S C) {t:Int} (hr:bG B S t) {k:Nat} (h:bU B S t=some k):bY B S t=0/\bI B S t=k/\k<4:=by
 unfold bU at h;unfold bY bI;split at h
 ·rename_i h0
  rw[if_pos h0,if_pos h0];cases h;exact⟨rfl,rfl,oZ⟩
 ·rename_i h0
  rw[if_neg h0,if_neg h0];split at h
  ·cases h
  ·rename_i h1
   have:=hL.at_ (hr.resolve_left h0);cases h;refine⟨oZ,rfl,?_⟩;split <;> omega
/-! ### The terms as the program knows them -/
abbrev TR:=List Nat×Nat×Int×Int
def mX (cs:List Int) (d:bK) (m:Nat) (c:List Nat->Nat) (k:List Nat):TR:=(k,c k,eQ d k m,bV cs d k m)
abbrev WP:=Nat×Int×Int
def wpOf (K:List (List Nat)) (doc:Int) (tk:Tk):WP:=(K.idxOf (aM tk),dV doc tk.2.2,fE doc tk.2.2)
def storeT (B S:Nat->Int) (s:Int) (m:Nat):(Nat->Int)->List TR->List WP->Pr ((Nat->Int)×Int)
 | Us,_,[]=>.ret (Us,0)
 | Us,ts,x :: l=>if x.2.2≠0 then .ret (Us,x.2.2) else
  (fB B S Us s m (ts.getD x.1 ([],0,0,0)).1 (ts.getD x.1 ([],0,0,0)).2.2.1 (ts.getD x.1 ([],0,0,0)).2.2.2 x.2.1).bind fun y =>
   if y.2.2.2≠0 then .ret (Us,y.2.2.2) else storeT B S s m y.2.2.1 (ts.set x.1 ((ts.getD x.1 ([],0,0,0)).1,(ts.getD x.1 ([],0,0,0)).2.1,y.1,y.2.1)) l
structure rV (K:List (List Nat)) (doc:Int) (l:List Tk):Prop where
 mem:∀ tk∈l,aM tk∈K
 tk0:∀ tk∈l,0<=tk.1/\tk.1<=255
 tk17:∀ tk∈l,tk.2.1.size<=16
 err:∀ tk∈l,fE doc tk.2.2=0
 u:∀ tk∈l,U (dV doc tk.2.2)
theorem rV.tail {K:List (List Nat)} {doc:Int} {tk:Tk} {l:List Tk} (h:rV K doc (tk :: l)):rV K doc l :=
 ⟨fun x hx=>h.mem x (by simp[hx]),fun x hx=>h.tk0 x (by simp[hx]),fun x hx=>h.tk17 x (by simp[hx]),fun x hx=>h.err x (by simp[hx]),fun x hx=>h.u x (by simp[hx])⟩
section
variable {B S:Nat->Int} {C:Int} {m:Nat} {s:Int}
theorem L8 {cs:List Int} {d:bK} {c:List Nat->Nat} {K:List (List Nat)} {κ:List Nat} (hk:κ∈K):(K.map (mX cs d m c)).getD (K.idxOf κ) ([],0,0,0)=(κ,c κ,eQ d κ m,bV cs d κ m):=by
 have hlt:=List.idxOf_lt_length_of_mem hk;rw[List.getD_eq_getElem?_getD,List.getElem?_map,gZ hlt,List.getElem_idxOf];rfl
theorem Lj {cs cs':List Int} {d d':bK} {c:List Nat->Nat} {K:List (List Nat)} {κ:List Nat} (hn:K.Nodup) (hk:κ∈K) {a' t':Int} (h1:eQ d' κ m=a') (h2:bV cs' d' κ m=t') (ho:∀ k,k≠κ->eQ d' k m=eQ d k m/\bV cs' d' k m=bV cs d k m) :
  (K.map (mX cs d m c)).set (K.idxOf κ) (κ,c κ,a',t')=K.map (mX cs' d' m c):=by
 have hlt:=List.idxOf_lt_length_of_mem hk;refine List.ext_getElem? fun j=>?_;rw[List.getElem?_set,List.getElem?_map,List.getElem?_map];by_cases hj:K.idxOf κ=j
 ·subst hj;rw[if_pos rfl,if_pos (by rw[List.length_map];exact hlt),gZ hlt,List.getElem_idxOf];simp only[Option.map_some,Option.some.injEq,mX];rw[h1,h2]
 ·rw[if_neg hj];cases hpj:K[j]? with
  | none=>rfl
  | some k =>
   have hjl:=(eZ.1 hpj).1;have hje:=(eZ.1 hpj).2
   have hne:k≠κ:=by
    rintro rfl;apply hj;conv=>lhs;rw[<- hje]
    exact hn.idxOf_getElem j hjl
   simp only[Option.map_some,Option.some.injEq,mX];rw[(ho k hne).1,(ho k hne).2]
structure Mx (B S:Nat->Int) (C:Int) (m:Nat) (s doc:Int) (K:List (List Nat)) (c:List Nat->Nat) (l:List Tk) (cs:List Int) (Us:Nat->Int) (d:bK) (cs':List Int) (Us':Nat->Int) (d':bK):Prop where
 ref:AC B S s m doc cs Us l cs' Us'
 prog:∃ q,q<=3700*l.length/\dx (AZ B s m) (storeT B S s m Us (K.map (mX cs d m c)) (l.map (wpOf K doc))) cs q (Us',0) cs'
 inv:WS B S C m s cs' Us' d'
 len:cs'.length=cs.length
 used:∀ j,j<6->Us' j=Us j+jU K (iJ B S cs d m l j)
 occ_:(qo d' m:Int)=qo d m+jU K (ib d m l)
 out:∀ p:Nat,(p:Int)<3∨(B 5<=p/\((p:Int)<s∨s+(m:Int)<=p))->cs'.getD p 0=cs.getD p 0
theorem Gs {cs:List Int} {d:bK} (j:Nat) (k:List Nat):iJ B S cs d m [] j k=0:=by
 unfold iJ rT;rw[show dY [] k=0 from rfl,if_neg (fun h=>by have:=h.2.1;omega)];unfold dX;rfl
theorem sD {f:List Nat->Int} (h:∀ k,f k=0):∀ K,jU K f=0
 | []=>rfl
 | k :: K=>by rw[jc,h,sD h K];rfl
theorem WS.words (hL:Laid B S C) (hs5:B 5<=s) (hC:C<=65536) (hm:m<=512) {K:List (List Nat)} (hK:K.Nodup) {doc:Int} {tt:Int} (htt:tt<m) (c:List Nat->Nat):∀ (l:List Tk) (cs:List Int) (Us:Nat->Int) (d:bK),WS B S C m s cs Us d->rV K doc l ->
  (∀ j,j<6->Us j+jU K (iJ B S cs d m l j)<=S j)->(qo d m:Int)+jU K (ib d m l)<=tt->∃ cs' Us' d',Mx B S C m s doc K c l cs Us d cs' Us' d'
 | [],cs,Us,d,h,_,_,_=>by
  refine⟨cs,Us,d,.nil _ _,⟨0,oZ,.ret _ _⟩,h,rfl,fun j hj=>?_,?_,fun _ _=>rfl⟩
  ·rw[sD fun k=>Gs j k];omega
  ·rw[sD fun k=>by unfold ib;rw[if_neg (fun h=>by have:=h.2;rw[show dY [] k=0 from rfl] at this;omega)]];omega
 | tk :: l,cs,Us,d,h,hw,hfit,hocc=>by
  have hκK:=hw.mem tk sZ;have hcnt:dY (tk :: l) (aM tk)=dY l (aM tk)+1:=by rw[xM,if_pos rfl]
  have hcnt2:∀ k,k≠aM tk->dY (tk :: l) k=dY l k:=fun k hk=>by rw[xM,if_neg (fun e=>hk e.symm)];rfl
  have hone:∀ j,iJ B S cs d m (tk :: l) j (aM tk)<=jU K (iJ B S cs d m (tk :: l) j):=fun j=>uX K hκK fun k _=>J2 B S cs d m (tk :: l) j k;have hf1:ib d m (tk :: l) (aM tk)<=jU K (ib d m (tk :: l)):=uX K hκK fun k _=>yD d m (tk :: l) k;have hu4:=h.used 4 oZ
  have hocc2:qo d m<m:=by
   have:=yY K fun k _=>yD d m (tk :: l) k;omega
  have hbook:eQ d (aM tk) m=0->2+((aF (aM tk)).length:Int)<=S 4-Us 4:=by
   intro e;have h1:=hone 4;have h2:=hfit 4 oZ
   have h3:iJ B S cs d m (tk :: l) 4 (aM tk)=dX (dY (tk :: l) (aM tk)) (bY B S (bV cs d (aM tk) m)) (bI B S (bV cs d (aM tk) m)) 4+(2+((aF (aM tk)).length:Int)):=by
    unfold iJ rT;rw[if_pos ⟨e,oZ,rfl⟩]
   have:=kD (dY (tk :: l) (aM tk)) (bY B S (bV cs d (aM tk) m)) (bI B S (bV cs d (aM tk) m)) 4;omega
  have hslab:∀ k,bU B S (bV cs d (aM tk) m)=some k->aN k<=S k-Us k:=by
   intro k hk;obtain⟨e1,e2,e3⟩:=Ao hL (h.vG (aM tk)) hk;have h1:=hone k;have h2:=hfit k oZ
   have h3:iJ B S cs d m (tk :: l) k (aM tk)=aN k+dX (dY l (aM tk)) (aN k-2) (up k) k+rT (eQ d (aM tk) m) (aM tk) (dY l (aM tk)+1) k:=by
    unfold iJ;rw[hcnt,gJ,if_pos e1,e2,if_pos rfl]
   have:=kD (dY l (aM tk)) (aN k-2) (up k) k;have:=BN (eQ d (aM tk) m) (aM tk) (dY l (aM tk)+1) k;omega
  obtain⟨cs1,Us1,d1,a',t',hn⟩:=h.word hL hs5 hC hm (hw.tk0 tk sZ) (hw.tk17 tk sZ) (doc:=doc) rfl (hw.u tk sZ) hocc2 hbook hslab
  have hrest:∀ j,jU K (iJ B S cs1 d1 m l j)=jU K (iJ B S cs d m (tk :: l) j)-(Us1 j-Us j):=by
   intro j
   rw[wF (f:=iJ B S cs d m (tk :: l) j) K hK hκK fun k _ hk=>by
    unfold iJ;rw[(hn.other k hk).1,(hn.other k hk).2,hcnt2 k hk]]
   have hneed:=hn.need (dY l (aM tk)) j
   have e1:iJ B S cs1 d1 m l j (aM tk)=dX (dY l (aM tk)) (bY B S t') (bI B S t') j:=by
    unfold iJ rT;rw[hn.tail_,hn.rec_.1,if_neg (fun e=>hn.rec_.2 e.1)];omega
   have e2:iJ B S cs d m (tk :: l) j (aM tk)=dX (dY l (aM tk)+1) (bY B S (bV cs d (aM tk) m)) (bI B S (bV cs d (aM tk) m)) j+(if eQ d (aM tk) m=0/\j=4 then 2+((aF (aM tk)).length:Int) else 0):=by
    unfold iJ rT;rw[hcnt];congr 1
    by_cases e:eQ d (aM tk) m=0/\j=4
    ·rw[if_pos ⟨e.1,oZ,e.2⟩,if_pos e]
    ·rw[if_neg (fun x=>e ⟨x.1,x.2.2⟩),if_neg e]
   rw[e1,e2];omega
  have hfr:jU K (ib d1 m l)=jU K (ib d m (tk :: l))-(if eQ d (aM tk) m=0 then 1 else 0):=by
   rw[wF (f:=ib d m (tk :: l)) K hK hκK fun k _ hk=>by
    unfold ib;rw[(hn.other k hk).1,hcnt2 k hk]]
   have e1:ib d1 m l (aM tk)=0:=by unfold ib;rw[hn.rec_.1,if_neg (fun e=>hn.rec_.2 e.1)]
   have e2:ib d m (tk :: l) (aM tk)=if eQ d (aM tk) m=0 then 1 else 0:=by
    unfold ib;by_cases e:eQ d (aM tk) m=0
    ·rw[if_pos ⟨e,oZ⟩,if_pos e]
    ·rw[if_neg (fun x=>e x.1),if_neg e]
   rw[e1,e2];omega
  have hoc1:(qo d1 m:Int)=qo d m+(if eQ d (aM tk) m=0 then 1 else 0):=by
   rw[hn.occ_];split <;> simp
  obtain⟨cs2,Us2,d2,hall⟩:=WS.words hL hs5 hC hm hK htt c l cs1 Us1 d1 hn.inv hw.tail (fun j hj=>by have:=hfit j hj;rw[hrest j];omega) (by rw[hoc1,hfr];omega);refine⟨cs2,Us2,d2,?_,?_,hall.inv,hall.len.trans hn.len,fun j hj=>?_,?_,fun p hp=>(hall.out p hp).trans (hn.out p hp)⟩
  ·exact .cons h.cu hn.ref hn.len hall.ref
  ·obtain⟨q1,hq1,hp1⟩:=hn.prog;obtain⟨q2,hq2,hp2⟩:=hall.prog;refine⟨q1+q2,by rw[List.length_cons];omega,?_⟩;rw[List.map_cons];unfold storeT;rw[if_neg (by show ¬ fE doc tk.2.2≠0;rw[hw.err tk sZ];simp)];rw[show (wpOf K doc tk).1=K.idxOf (aM tk) from rfl,show (wpOf K doc tk).2.1=dV doc tk.2.2 from rfl,L8 hκK];refine hp1.bind ?_;show dx _ (if(0:Int)≠0 then _ else storeT B S s m Us1 ((K.map (mX cs d m c)).set (K.idxOf (aM tk)) (aM tk,c (aM tk),a',t')) (l.map (wpOf K doc))) _ _ _ _;rw[if_neg sZ,Lj hK hκK hn.rec_.1 hn.tail_ hn.other];exact hp2
  ·rw[hall.used j hj,hrest j];omega
  ·rw[hall.occ_,hfr,hoc1];omega
end
end Go.Proofs.YtafaohnhlgcnpaaGreatDoor
