/-
 What stage 12 rests on.
-/
import Derived.Test.YtlfndoclbebdaaaGreatDoorWrErA1
import Derived.Test.YtlfndoclbebdaaaGreatDoorWrErD5
import Derived.Test.YtlfndoclbebdaaaGreatDoorWrErE5
import Derived.Test.YtlfndoclbebdaaaGreatDoorWrErF3
import Derived.Test.YtlfndoclbebdaaaGreatDoorWrErF2
import Derived.Test.YtlfndoclbebdaaaGreatDoorWrErC2
import Derived.Test.YtlfndoclbebdaaaGreatDoorWrErF5
import Derived.Test.YtlfndoclbebdaaaGreatDoorWrErD2
import Derived.Deep.WholeRow
set_option maxRecDepth 100000
set_option maxHeartbeats 16000000
namespace Go.Proofs.YtlfndoclbebdaaaGreatDoor
open Go.RowKit
/-! ### Programs that store in some places alone -/
inductive eF {α:Type} (A:Int->Prop):Pr α->List Int->Nat->α->List Int->Prop
 | ret (x:α) (cs:List Int):eF A (.ret x) cs 0 x cs
 | load {a:Int} {k:Int->Pr α} {cs cs':List Int} {n:Nat} {x:α}:0<=a->a<cs.length->eF A (k (cs.getD a.toNat 0)) cs n x cs'->eF A (.load a k) cs (n+1) x cs'
 | store {a v:Int} {k:Pr α} {cs cs':List Int} {n:Nat} {x:α}:0<=a->a<cs.length->A a->eF A k (cs.set a.toNat (u32 v)) n x cs'->eF A (.store a v k) cs (n+1) x cs'
theorem eF.does {α:Type} {A:Int->Prop} {p:Pr α} {cs cs':List Int} {n:Nat} {x:α} (h:eF A p cs n x cs'):Does p cs n x cs':=by
 induction h with
 | ret x cs=>exact .ret _ _
 | load h1 h2 _ ih=>exact .load h1 h2 ih
 | store h1 h2 _ _ ih=>exact .store h1 h2 ih
theorem eF.bind {α β:Type} {A:Int->Prop} {p:Pr α} {f:α->Pr β} {cs cs1 cs2:List Int} {n m:Nat} {x:α} {y:β} (h:eF A p cs n x cs1) (k:eF A (f x) cs1 m y cs2):eF A (p.bind f) cs (n+m) y cs2:=by
 induction h with
 | ret x cs=>rw[Nat.zero_add];exact k
 | @load a kk cs cs' n x h1 h2 _ ih =>
  rw[Nat.add_right_comm]
  exact .load h1 h2 (ih k)
 | @store a v kk cs cs' n x h1 h2 h3 _ ih =>
  rw[Nat.add_right_comm]
  exact .store h1 h2 h3 (ih k)
theorem eF.out {α:Type} {A:Int->Prop} {p:Pr α} {cs cs':List Int} {n:Nat} {x:α} (h:eF A p cs n x cs'):∀ q:Nat,¬ A q->cs'.getD q 0=cs.getD q 0:=by
 induction h with
 | ret x cs=>exact fun _ _=>rfl
 | load _ _ _ ih=>exact ih
 | store h1 h2 h3 _ ih =>
  intro q hq
  rw[ih q hq,gJ,if_neg]
  rintro⟨e,_⟩
  exact hq (by rw[<- e,Int.toNat_of_nonneg h1];exact h3)
def dO {α:Type} (A:Int->Prop):Pr α->Prop
 | .ret _=>True
 | .load _ k=>∀ v,dO A (k v)
 | .store a _ k=>A a/\dO A k
theorem Does.stores {α:Type} {A:Int->Prop} {p:Pr α} {cs cs':List Int} {n:Nat} {x:α} (h:Does p cs n x cs'):dO A p->eF A p cs n x cs':=by
 induction h with
 | ret x cs=>exact fun _=>.ret _ _
 | load h1 h2 _ ih=>exact fun hs=>.load h1 h2 (ih (hs _))
 | store h1 h2 _ ih=>exact fun hs=>.store h1 h2 hs.1 (ih hs.2)
theorem dO.mono {α:Type} {A A':Int->Prop}:∀ {p:Pr α},dO A p->(∀ a,A a->A' a)->dO A' p
 | .ret _,_,_=>trivial
 | .load _ _,h,hA=>fun v=>(h v).mono hA
 | .store _ _ _,h,hA=>⟨hA _ h.1,h.2.mono hA⟩
theorem Iy {α:Type} {A:Int->Prop} {yes no:Pr α} (hy:dO A yes) (hn:dO A no):∀ (l:List Nat) (x:Int),dO A (uM yes no l x)
 | [],_=>hy
 | c :: l,x=>fun v=>by
  show dO A (if v=(c:Int) then uM yes no l (x+1) else no)
  split
  ·exact Iy hy hn l _
  ·exact hn
theorem IQ {A:Int->Prop} (s:Int) (n:Nat) (k:List Nat):∀ (m t:Nat),dO A (fR s n k m t)
 | 0,_=>trivial
 | m+1,t=>by
  unfold fR
  intro v
  show dO A (if v=0 then _ else _)
  by_cases h:v=0
  ·rw[if_pos h];exact trivial
  ·rw[if_neg h]
   intro l
   show dO A (if l=((k.length % 4294967296:Nat):Int) then _ else _)
   by_cases h2:l=((k.length % 4294967296:Nat):Int)
   ·rw[if_pos h2];exact Iy (show dO A (Pr.ret _) from trivial) (IQ s n k m (t+1)) _ _
   ·rw[if_neg h2];exact IQ s n k m (t+1)
theorem yA {α:Type} {A:Int->Prop} {rest:Pr α} (hr:dO A rest):∀ (l:List Nat) (x:Int),(∀ j:Nat,j<l.length->A (x+(j:Int)))->dO A (jK rest l x)
 | [],_,_=>hr
 | c :: l,x,h=>by
  refine⟨?_,yA hr l (x+1) fun j hj=>?_⟩
  ·have:=h 0 sZ
   rwa [show x+((0:Nat):Int)=x by omega] at this
  ·have:=h (j+1) uZ
   rwa [show x+((j+1:Nat):Int)=x+1+(j:Int) by omega] at this
theorem Ny {A:Int->Prop} {B S Us:Nat->Int} {s slot:Int} {k:List Nat} (h1:∀ j:Nat,j<(aF k).length+1->A (B 4+Us 4+1+(j:Int))) (h2:A (s+slot)):dO A (iJ B S Us s slot k):=by
 unfold iJ
 split
 ·refine⟨?_,yA (show dO A (Pr.store _ _ (.ret _)) from⟨h2,trivial⟩) _ _ fun j hj=>?_⟩
  ·have:=h1 0 oZ
   rwa [show B 4+Us 4+1+((0:Nat):Int)=B 4+Us 4+1 by omega] at this
  ·have:=h1 (j+1) oZ
   rwa [show B 4+Us 4+1+((j+1:Nat):Int)=B 4+Us 4+2+(j:Int) by omega] at this
 ·exact trivial
/-! ### A Put -/
theorem kP {cs:List Int} {i:Nat} {v:Int} (h:∀ y∈cs,U y) (hv:U v):∀ y∈cs.set i v,U y:=by
 intro y hy
 rcases List.mem_or_eq_of_mem_set hy with h1 | h1
 ·exact h y h1
 ·rw[h1];exact hv
theorem Does.IA {α:Type} {p:Pr α} {cs cs':List Int} {n:Nat} {x:α} (h:Does p cs n x cs'):(∀ y∈cs,U y)->∀ y∈cs',U y:=by
 induction h with
 | ret x cs=>exact id
 | load _ _ _ ih=>exact ih
 | store _ _ _ ih=>exact fun hu=>ih (kP hu (su _))
structure IV (B S:Nat->Int) (cs:List Int) (Us:Nat->Int) (t wd:Int) (t':Int) (Us':Nat->Int) (cs':List Int):Prop where
 does:∃ q,q<=2/\eF (fun a=>3<=a/\a<B 4) (fQ B S Us t wd) cs q (t',Us',0) cs'
 len:cs'.length=cs.length
 out:∀ p:Nat,(p:Int)<3∨B 4<=p->cs'.getD p 0=cs.getD p 0
 right:bP B S t'
 pos:0<t'/\t'<=65536
 used:∀ k,k<6->0<=Us' k/\Us' k<=S k
 slabs:∀ k,k<4->∃ q:Nat,Us' k=q*aS k
 book:Us' 4=Us 4
 need:∀ (c j:Nat),fB (c+1) (dC B S t) (bT B S t) j=(Us' j-Us j)+fB c (dC B S t') (bT B S t') j
section
variable {B S:Nat->Int} {C:Int}
theorem Ju (hL:Laid B S C) {cs:List Int} {Us:Nat->Int} (hlen:(cs.length:Int)=C) (hus:∀ k,k<6->0<=Us k/\Us k<=S k) (hsl:∀ k,k<4->∃ q:Nat,Us k=q*aS k) {t wd:Int} (hr:bP B S t) (hfit:∀ k,dh B S t=some k->aS k<=S k-Us k) :
  ∃ t' Us' cs',IV B S cs Us t wd t' Us' cs':=by
 have hb:=hL.bases
 have hlast:∀ k,k<4->B k+S k<=B 4:=by
  intro k hk
  rcases (show k=0∨k=1∨k=2∨k=3 by omega) with rfl | rfl | rfl | rfl <;> omega
 cases hbk:dh B S t with
 | none =>
  have ht0:t≠0:=by
   intro e
   simp[dh,e] at hbk
  have hb2:iE B S t<aS (lX B S t)-1:=by
   unfold dh at hbk
   rw[if_neg ht0] at hbk
   split at hbk
   ·assumption
   ·cases hbk
  have hat:=hr.resolve_left ht0
  have hlt:=hL.at_ hat
  obtain⟨hz,h0,h1⟩:=hL.IW hlt.1
  obtain⟨f1,f2⟩:=hL.Iu hz (show 0<=iE B S t+1 by omega) oZ
  rw[show t-iE B S t+(iE B S t+1)=t+1 by omega] at f1 f2
  have hp:=hL.pool (show lX B S t<6 by omega)
  have hin:=Gf (show lX B S (t+1)<4 by omega)
  have hl4:=hlast _ hlt.1
  rw[f1] at hin
  unfold xm at hin
  refine⟨t+1,Us,cs.set (t+1).toNat (u32 wd),⟨⟨1,oZ,?_⟩,sZ,?_,.inr oZ,⟨oZ,by have:=hL.c1;omega⟩,hus,hsl,rfl,?_⟩⟩
  ·unfold fQ
   rw[if_pos hr,hbk]
   exact .store oZ oZ ⟨oZ,oZ⟩ (.ret _ _)
  ·intro p hp2
   rw[gJ,if_neg oZ]
  ·intro c j
   have hl:dC B S t=aS (lX B S t)-1-iE B S t:=by unfold dC;rw[if_neg ht0]
   have hl':dC B S (t+1)=dC B S t-1:=by
    rw[hl]
    unfold dC
    rw[if_neg oZ,f1,f2]
    omega
   have hn':bT B S (t+1)=bT B S t:=by
    unfold bT
    rw[if_neg oZ,if_neg ht0,f1]
   rw[iQ,if_neg oZ,hl',hn']
   omega
 | some k =>
  have hnk:dC B S t=0/\bT B S t=k:=by
   unfold dh at hbk
   unfold dC bT
   split at hbk
   ·rename_i h0
    rw[if_pos h0,if_pos h0]
    exact⟨rfl,by cases hbk;rfl⟩
   ·rename_i h0
    rw[if_neg h0,if_neg h0]
    split at hbk
    ·cases hbk
    ·rename_i h1
     have:=hL.at_ (hr.resolve_left h0)
     refine⟨oZ,?_⟩
     cases hbk
     rfl
  have hk:k<4:=by
   rw[<- hnk.2]
   unfold bT
   split
   ·omega
   ·split <;> omega
  have hroom:=hfit k hbk
  have hs:=dM k
  obtain⟨q,hq⟩:=hsl k hk
  have hpk:=hL.pool (show k<6 by omega)
  have hu:=hus k oZ
  have hl4:=hlast k hk
  obtain⟨z,hz⟩:∃ z,z=B k+Us k:=⟨_,rfl⟩
  have hsl1:H8 B S k z:=⟨hk,⟨q,oZ⟩,oZ⟩
  obtain⟨f1,f2⟩:=hL.Iu hsl1 (show 0<=(1:Int) by omega) oZ
  have hmk:∀ j,more Us k (aS k) j=if j=k then Us k+aS k else Us j:=fun j=>rfl
  have hrest:bP B S (z+1)/\(0<z+1/\z+1<=65536)/\(∀ j,j<6->0<=more Us k (aS k) j/\more Us k (aS k) j<=S j)/\(∀ j,j<4->∃ q:Nat,more Us k (aS k) j=q*aS j)/\more Us k (aS k) 4=Us 4/\∀ (c j:Nat),fB (c+1) (dC B S t) (bT B S t) j=(more Us k (aS k) j-Us j)+fB c (dC B S (z+1)) (bT B S (z+1)) j:=by
   refine⟨.inr oZ,⟨oZ,by have:=hL.c1;omega⟩,?_,?_,?_,?_⟩
   ·intro j hj
    have:=hus j hj
    rw[hmk]
    split
    ·subst j;omega
    ·exact this
   ·intro j hj
    rw[hmk]
    split
    ·subst j
     exact⟨q+1,by rw[hq];have:((q+1:Nat):Int)=(q:Int)+1:=oZ;rw[this,Int.add_mul,Int.one_mul]⟩
    ·exact hsl j hj
   ·rw[hmk,if_neg oZ]
   ·intro c j
    have hl':dC B S (z+1)=aS k-2:=by
     unfold dC
     rw[if_neg oZ,f1,f2]
     omega
    have hn':bT B S (z+1)=up k:=by
     unfold bT up
     rw[if_neg oZ,f1]
    rw[iQ,if_pos hnk.1,hnk.2,hl',hn',hmk]
    split
    ·subst j;omega
    ·omega
  obtain⟨r1,r2,r3,r4,r5,r6⟩:=hrest
  by_cases ht0:t=0
  ·refine⟨z+1,more Us k (aS k),cs.set (z+1).toNat (u32 wd),⟨⟨1,oZ,?_⟩,sZ,?_,r1,r2,r3,r4,r5,r6⟩⟩
   ·unfold fQ
    rw[if_pos hr,hbk]
    simp only
    rw[if_pos hroom,if_pos ht0,<- hz]
    exact .store oZ oZ ⟨oZ,oZ⟩ (.ret _ _)
   ·intro p hp2
    rw[gJ,if_neg oZ]
  ·refine⟨z+1,more Us k (aS k),(cs.set z.toNat (u32 t)).set (z+1).toNat (u32 wd),⟨⟨2,oZ,?_⟩,sZ,?_,r1,r2,r3,r4,r5,r6⟩⟩
   ·unfold fQ
    rw[if_pos hr,hbk]
    simp only
    rw[if_pos hroom,if_neg ht0,<- hz]
    exact .store oZ oZ ⟨oZ,oZ⟩ (.store oZ uZ ⟨oZ,oZ⟩ (.ret _ _))
   ·intro p hp2
    rw[gJ,if_neg oZ,gJ,if_neg oZ]
end
/-! ### A word -/
def dn (cs:List Int) (d:dm) (k:List Nat) (m:Nat):Int:=if fV d k m=0 then 0 else cs.getD (fV d k m).toNat 0
abbrev PX:=Int×Int×(Nat->Int)×Int
def yL (B S:Nat->Int) (Us:Nat->Int) (a t wd:Int):Pr PX :=
 (fQ B S Us t wd).bind fun z=>if z.2.2≠0 then .ret (a,t,Us,z.2.2) else .store a z.1 (.ret (a,z.1,z.2.1,0))
def kK (B S:Nat->Int) (Us:Nat->Int) (s:Int) (m:Nat) (k:List Nat):Pr G7 :=
 (jV s (m:Int) k).bind fun x=>iJ B S Us s x.2 k
def gV (B S:Nat->Int) (Us:Nat->Int) (s:Int) (m:Nat) (k:List Nat) (a t wd:Int):Pr PX :=
 if a=0 then(kK B S Us s m k).bind fun y=>if y.2.2≠0 then .ret (a,t,Us,y.2.2) else yL B S y.2.1 y.1 t wd
 else yL B S Us a t wd
inductive wu (B S:Nat->Int) (s:Int) (m:Nat) (doc:Int) (cs:List Int) (Us:Nat->Int) (tk:Tk):List Int->(Nat->Int)->Prop
 | found {slot:Int} {r q1:Nat} {t wd:Int} {q2:Nat} {z:vN} {cs2:List Int}:r≠0->r<cs.length->Does (fR s m (aP tk) m 0) cs q1 ((r:Int),slot) cs->cs.getD r 0=t->eU doc tk.2.2=wd->U wd->bP B S t->(∀ k,dh B S t=some k->k<4/\(0<=Us k/\Us k<=S k)/\aS k<=S k-Us k)->Does (fQ B S Us t wd) cs q2 z cs2->wu B S s m doc cs Us tk (cs2.set r (u32 z.1)) z.2.1
 | fresh {slot:Int} {q1 q3:Nat} {y0:G7} {cs1:List Int} {Us1:Nat->Int} {r:Nat} {t wd:Int} {q2:Nat} {z:vN} {cs2:List Int}:0<=slot->slot<=1000000->Does (fR s m (aP tk) m 0) cs q1 ((0:Int),slot) cs->(0<=Us 4/\Us 4<=S 4)->2+((aF (aP tk)).length:Int)<=S 4-Us 4->Does (iJ B S Us s slot (aP tk)) cs q3 y0 cs1->(∀ y∈cs1,U y)->B 4+Us 4=(r:Int)->r<cs.length->Us1=more Us 4 (2+((aF (aP tk)).length:Int))->cs1.getD r 0=t->eU doc tk.2.2=wd->U wd->bP B S t->(∀ k,dh B S t=some k->k<4/\(0<=Us1 k/\Us1 k<=S k)/\aS k<=S k-Us1 k)->Does (fQ B S Us1 t wd) cs1 q2 z cs2->wu B S s m doc cs Us tk (cs2.set r (u32 z.1)) z.2.1
inductive Dt (B S:Nat->Int) (s:Int) (m:Nat) (doc:Int):List Int->(Nat->Int)->List Tk->List Int->(Nat->Int)->Prop
 | nil (cs:List Int) (Us:Nat->Int):Dt B S s m doc cs Us [] cs Us
 | cons {cs cs1 cs2:List Int} {Us Us1 Us2:Nat->Int} {tk:Tk} {l:List Tk}:(∀ y∈cs,U y)->wu B S s m doc cs Us tk cs1 Us1->cs1.length=cs.length->Dt B S s m doc cs1 Us1 l cs2 Us2->Dt B S s m doc cs Us (tk :: l) cs2 Us2
structure WS (B S:Nat->Int) (C:Int) (m:Nat) (s:Int) (cs:List Int) (Us:Nat->Int) (d:dm):Prop where
 len:(cs.length:Int)=C
 cu:∀ y∈cs,U y
 dict:ig m s (B 4) (B 4+Us 4) d cs
 key17:∀ i a k,d i=some (a,k)->k.length<=17
 used:∀ k,k<6->0<=Us k/\Us k<=S k
 slabs:∀ k,k<4->∃ q:Nat,Us k=q*aS k
 book0:∀ p:Nat,B 4+Us 4<=p->(p:Int)<B 5->cs.getD p 0=0
 tail:∀ i a k,d i=some (a,k)->bP B S (cs.getD a.toNat 0)
 sep:∀ i j a b k k',i≠j->d i=some (a,k)->d j=some (b,k')->a+2+((aF k).length:Int)<=b∨b+2+((aF k').length:Int)<=a
def Area (B:Nat->Int) (s:Int) (m:Nat) (a:Int):Prop:=3<=a/\(a<B 5∨(s<=a/\a<s+m))
structure QN (B S:Nat->Int) (C:Int) (m:Nat) (s doc:Int) (cs:List Int) (Us:Nat->Int) (d:dm) (tk:Tk) (wd:Int) (cs':List Int) (Us':Nat->Int) (d':dm) (a' t':Int):Prop where
 ref:wu B S s m doc cs Us tk cs' Us'
 prog:∃ q,q<=3700/\eF (Area B s m) (gV B S Us s m (aP tk) (fV d (aP tk) m) (dn cs d (aP tk) m) wd) cs q (a',t',Us',0) cs'
 len:cs'.length=cs.length
 inv:WS B S C m s cs' Us' d'
 le:d.Le d'
 occ_:sW d' m=sW d m+(if fV d (aP tk) m=0 then 1 else 0)
 rec_:fV d' (aP tk) m=a'/\a'≠0
 tail_:dn cs' d' (aP tk) m=t'
 other:∀ k,k≠aP tk->fV d' k m=fV d k m/\dn cs' d' k m=dn cs d k m
 need:∀ c j,fB (c+1) (dC B S (dn cs d (aP tk) m)) (bT B S (dn cs d (aP tk) m)) j+(if fV d (aP tk) m=0/\j=4 then 2+((aF (aP tk)).length:Int) else 0)=(Us' j-Us j)+fB c (dC B S t') (bT B S t') j
 out:∀ p:Nat,(p:Int)<3∨(B 5<=p/\((p:Int)<s∨s+(m:Int)<=p))->cs'.getD p 0=cs.getD p 0
section
variable {B S:Nat->Int} {C:Int} {m:Nat} {s:Int} {cs:List Int} {Us:Nat->Int} {d:dm}
theorem WS.vP (h:WS B S C m s cs Us d) (k:List Nat):(fV d k m=0/\dn cs d k m=0/\∀ a,¬ Has d k a)∨∃ i a,d i=some (a,k)/\fV d k m=a/\dn cs d k m=cs.getD a.toNat 0/\3<=a:=by
 by_cases hh:∃ a,Has d k a
 ·obtain⟨a,i,hi⟩:=hh
  have e:=h.dict.oH hi
  have h3:=h.dict.pos ⟨i,hi⟩
  refine .inr ⟨i,a,hi,e,?_,h3⟩
  unfold dn
  rw[e,if_neg oZ]
 ·have hn:∀ a,¬ Has d k a:=fun a ha=>hh ⟨a,ha⟩
  have e:=jO hn m
  refine .inl ⟨e,?_,hn⟩
  unfold dn
  rw[if_pos e]
theorem WS.yP (h:WS B S C m s cs Us d) (k:List Nat):bP B S (dn cs d k m):=by
 rcases h.vP k with ⟨_,e,_⟩ | ⟨i,a,hi,_,e,_⟩
 ·rw[e];exact .inl rfl
 ·rw[e];exact h.tail i a k hi
theorem ig.turn {lo hi:Int} {cs':List Int} (h:ig m s lo hi d cs) (hl:cs'.length=cs.length) (hs:∀ i,i<m->cs'.getD (s+(i:Int)).toNat 0=cs.getD (s+(i:Int)).toNat 0) (hr:∀ i a k,d i=some (a,k)->∀ p:Nat,a<p->(p:Int)<a+2+((aF k).length:Int)->cs'.getD p 0=cs.getD p 0):ig m s lo hi d cs':=by
 refine⟨h.n0,h.lo0,h.lohi,h.his,by rw[hl];exact h.len,fun i hi2=>by rw[hs i hi2];exact h.slot i hi2,fun i a k hi2=>?_,h.probe⟩
 obtain⟨r1,r2,r3,r4,r5⟩:=h.rec_ i a k hi2
 have h3:=h.lo0
 refine⟨r1,r2,⟨?_,fun j x hj=>?_⟩,r4,r5⟩
 ·rw[hr i a k hi2 _ oZ oZ]
  exact r3.len
 ·have:=(eZ.1 hj).1
  rw[hr i a k hi2 _ oZ oZ]
  exact r3.cells j x hj
theorem WS.Iq (hL:Laid B S C) (h:WS B S C m s cs Us d) (hs5:B 5<=s) {i:Nat} {a:Int} {k:List Nat} (hi:d i=some (a,k)) {wd:Int} (hfit:∀ k',dh B S (cs.getD a.toNat 0)=some k'->aS k'<=S k'-Us k') :
  ∃ t' Us' cs2 cs',IV B S cs Us (cs.getD a.toNat 0) wd t' Us' cs2/\cs'=cs2.set a.toNat (u32 t')/\cs'.length=cs.length/\WS B S C m s cs' Us' d/\fV d k m=a/\dn cs' d k m=t'/\(∀ k2,k2≠k->dn cs' d k2 m=dn cs d k2 m)/\(∃ q,q<=3/\eF (Area B s m) (yL B S Us a (cs.getD a.toNat 0) wd) cs q (a,t',Us',0) cs') /\
   (∀ p:Nat,(p:Int)<3∨B 5<=p->cs'.getD p 0=cs.getD p 0):=by
 have hb:=hL.bases
 obtain⟨t',Us',cs2,hg⟩:=Ju hL h.len h.used h.slabs (wd:=wd) (h.tail i a k hi) hfit
 obtain⟨r1,r2,r3,r4,r5⟩:=h.dict.rec_ i a k hi
 have hu4:=h.used 4 oZ
 have hlen:=h.len
 have hrec:=h.dict.oH hi
 obtain⟨p,hp⟩:∃ p:Nat,a=(p:Int):=⟨a.toNat,oZ⟩
 have hpa:a.toNat=p:=oZ
 have hut:u32 t'=t':=u32_in ⟨by have:=hg.pos;omega,by have:=hg.pos;omega⟩
 have hget:∀ q:Nat,(cs2.set a.toNat (u32 t')).getD q 0=if q=p then t' else cs2.getD q 0:=by
  intro q
  rw[hpa,gJ,hut]
  by_cases e:p=q
  ·rw[if_pos ⟨e,by rw[hg.len];omega⟩,if_pos e.symm]
  ·rw[if_neg (fun x=>e x.1),if_neg (fun x=>e x.symm)]
 have hbook:∀ q:Nat,B 4<=(q:Int)->q≠p->(cs2.set a.toNat (u32 t')).getD q 0=cs.getD q 0:=by
  intro q h1 h2
  rw[hget,if_neg h2,hg.out q (.inr h1)]
 have hother:∀ j b k2,d j=some (b,k2)->j≠i->b.toNat≠p:=by
  intro j b k2 hj hne e
  have hb3:=(h.dict.rec_ j b k2 hj).1
  have:b=a:=oZ
  subst this
  rcases h.sep j i b b k2 k hne hj hi with h1 | h1 <;> omega
 refine⟨t',Us',cs2,_,hg,rfl,by simp[hg.len],⟨by simp[hg.len];exact hlen,?_,?_,h.key17,hg.used,hg.slabs,?_,?_,h.sep⟩,hrec,?_,?_,?_,?_⟩
 ·obtain⟨q,_,hd⟩:=hg.does
  exact kP (hd.does.IA h.cu) (su _)
 ·rw[hg.book]
  refine h.dict.turn (by simp[hg.len]) (fun j hj=>?_) fun j b k2 hj q h1 h2=>?_
  ·have:=h.dict.his
   rw[hbook _ oZ oZ]
  ·have hb3:=(h.dict.rec_ j b k2 hj).1
   refine hbook q oZ fun e=>?_
   by_cases hji:j=i
   ·subst hji
    rw[hi] at hj
    cases hj
    omega
   ·rcases h.sep j i b a k2 k hji hj hi with h3 | h3 <;> omega
 ·intro q h1 h2
  rw[hg.book] at h1
  rw[hbook q oZ oZ]
  exact h.book0 q h1 h2
 ·intro j b k2 hj
  by_cases hji:j=i
  ·subst hji
   rw[hi] at hj
   cases hj
   rw[hget,if_pos hpa]
   exact hg.right
  ·have hb3:=(h.dict.rec_ j b k2 hj).1
   rw[hbook _ oZ (hother j b k2 hj hji)]
   exact h.tail j b k2 hj
 ·unfold dn
  rw[hrec,if_neg oZ,hget,if_pos hpa]
 ·intro k2 hne
  rcases h.vP k2 with ⟨e,e2,_⟩ | ⟨j,b,hj,e,e2,_⟩
  ·rw[e2]
   unfold dn
   rw[if_pos e]
  ·rw[e2]
   have hji:j≠i:=by
    rintro rfl
    rw[hi] at hj
    cases hj
    exact hne rfl
   have hb3:=(h.dict.rec_ j b k2 hj).1
   unfold dn
   rw[e,if_neg oZ,hbook _ oZ (hother j b k2 hj hji)]
 ·obtain⟨q,hq,hd⟩:=hg.does
  have hd2:=hd.does.stores (A:=Area B s m) (by
   have:dO (fun a=>3<=a/\a<B 4) (fQ B S Us (cs.getD a.toNat 0) wd):=by
    clear hd
    have hr:=h.tail i a k hi
    obtain⟨_,_,hd⟩:=hg.does
    revert hd
    unfold fQ
    rw[if_pos hr]
    split
    ·intro hd
     cases hd with
     | store _ _ h3 _=>exact⟨h3,trivial⟩
    ·split
     ·split
      ·intro hd
       cases hd with
       | store _ _ h3 _=>exact⟨h3,trivial⟩
      ·intro hd
       cases hd with
       | store _ _ h3 h4 =>
        cases h4 with
        | store _ _ h5 _=>exact⟨h3,h5,trivial⟩
     ·exact fun _=>trivial
   exact this.mono fun a ha=>⟨ha.1,.inl oZ⟩)
  refine⟨q+1,oZ,?_⟩
  unfold yL
  refine hd2.bind ?_
  show eF _ (if(0:Int)≠0 then _ else _) _ _ _ _
  rw[if_neg sZ]
  exact .store oZ (by rw[hg.len];omega) ⟨oZ,.inl oZ⟩ (.ret _ _)
 ·intro q hq
  rw[hget,if_neg oZ,hg.out q oZ]
theorem WS.word (hL:Laid B S C) (h:WS B S C m s cs Us d) (hs5:B 5<=s) (hC:C<=65536) (hm:m<=512) {tk:Tk} (tk0:0<=tk.1/\tk.1<=255) (tk17:tk.2.1.size<=16) {doc wd:Int} (hwd:eU doc tk.2.2=wd) (hwu:U wd) (hocc:sW d m<m)
  (hbook:fV d (aP tk) m=0->2+((aF (aP tk)).length:Int)<=S 4-Us 4) (hfit:∀ k,dh B S (dn cs d (aP tk) m)=some k->aS k<=S k-Us k):∃ cs' Us' d' a' t',QN B S C m s doc cs Us d tk wd cs' Us' d' a' t':=by
 have hb:=hL.bases
 have hkb:=jQ tk0.1 tk0.2
 have hkl:(aP tk).length<=17:=by unfold aP;rw[List.length_cons,aG];omega
 have hcl:=bH (aP tk)
 have hu4:=h.used 4 oZ
 have hlen:=h.len
 have hsl:=h.dict.len
 obtain⟨κ,hκ⟩:∃ κ,κ=aP tk:=⟨_,rfl⟩
 rw[<- hκ] at hkb hkl hcl hbook hfit
 obtain⟨q,a,t,hq,ht,hf,hfs⟩:=vg (k:=κ) h.dict oZ hkb oZ hocc
 have hq2:q<=3584:=by
  refine Nat.le_trans hq ?_
  have:m*(2+(aF κ).length)<=512*7:=Nat.mul_le_mul hm oZ
  omega
 have hslt:=lw h.dict.n0 (dB κ) t
 have hfit4:∀ (Ux:Nat->Int) (tt:Int),(∀ k,k<6->0<=Ux k/\Ux k<=S k)->(∀ k,dh B S tt=some k->aS k<=S k-Ux k)->∀ k,dh B S tt=some k->k<4/\(0<=Ux k/\Ux k<=S k)/\aS k<=S k-Ux k:=by
  intro Ux tt h1 h2 k hk
  have hk4:k<4:=by
   unfold dh at hk
   split at hk
   ·cases hk;omega
   ·split at hk
    ·cases hk
    ·cases hk
     split <;> omega
  exact⟨hk4,h1 k oZ,h2 k hk⟩
 rcases hfs with hdi | ⟨rfl,hdn,hp,hno⟩
 ·obtain⟨r1,r2,r3,r4,r5⟩:=h.dict.rec_ _ a κ hdi
  have hrec:=h.dict.oH hdi
  have htl:dn cs d κ m=cs.getD a.toNat 0:=by unfold dn;rw[hrec,if_neg oZ]
  rw[htl] at hfit
  obtain⟨t',Us',cs2,cs',g1,g2,g3,g4,g5,g6,g7,⟨q2,g8,g9⟩,g10⟩:=h.Iq hL hs5 hdi (wd:=wd) hfit
  obtain⟨q3,_,hput⟩:=g1.does
  refine⟨cs',Us',d,a,t',?_⟩
  refine⟨?_,⟨q2,oZ,?_⟩,g3,g4,dm.Le.refl d,?_,?_,?_,?_,?_,?_⟩
  ·rw[g2]
   have:=wu.found (B:=B) (S:=S) (s:=s) (m:=m) (doc:=doc) (cs:=cs) (Us:=Us) (tk:=tk) (slot:=((bW m (dB κ) t:Nat):Int)) (r:=a.toNat) (q1:=q) (z:=(t',Us',0)) oZ oZ (by rw[show ((a.toNat:Nat):Int)=a by omega,<- hκ];exact hf) rfl hwd hwu (h.tail _ a κ hdi) (hfit4 Us _ h.used hfit) hput.does
   exact this
  ·rw[<- hκ,htl,hrec]
   unfold gV
   rw[if_neg oZ]
   exact g9
  ·rw[<- hκ,hrec,if_neg oZ]
   omega
  ·rw[<- hκ]
   exact⟨g5,oZ⟩
  ·rw[<- hκ];exact g6
  ·intro k hk
   rw[<- hκ] at hk
   exact⟨rfl,g7 k hk⟩
  ·intro c j
   rw[<- hκ,htl,hrec,if_neg (fun e=>by have:=e.1;omega)]
   have:=g1.need c j
   omega
  ·intro p hp2
   exact g10 p oZ
 ·have hrec:=jO hno m
  have htl:dn cs d κ m=0:=by unfold dn;rw[if_pos hrec]
  rw[htl] at hfit
  have hroom:=hbook hrec
  obtain⟨cs1,p1,p2,p3,p4⟩:=h.dict.put (U:=Us) (S:=S) hkb oZ oZ oZ ht hp hdn hroom
  obtain⟨i,hi⟩:∃ i,i=bW m (dB κ) t:=⟨_,rfl⟩
  rw[<- hi] at p1 p3 p4 hslt hdn
  obtain⟨r,hr⟩:∃ r:Nat,B 4+Us 4=(r:Int):=⟨(B 4+Us 4).toNat,oZ⟩
  obtain⟨Us1,hU1⟩:∃ Us1,Us1=more Us 4 (2+((aF κ).length:Int)):=⟨_,rfl⟩
  obtain⟨d1,hd1⟩:∃ d1,d1=d.put i (B 4+Us 4,κ):=⟨_,rfl⟩
  rw[<- hU1] at p1 p3
  rw[<- hd1] at p3 p4
  have hm4:∀ j,Us1 j=if j=4 then Us 4+(2+((aF κ).length:Int)) else Us j:=fun j=>by rw[hU1];rfl
  have hd1i:d1 i=some (B 4+Us 4,κ):=by rw[hd1];unfold dm.put;rw[if_pos rfl]
  have hd1o:∀ j,j≠i->d1 j=d j:=fun j hj=>by rw[hd1];unfold dm.put;rw[if_neg hj]
  have hA:dO (fun a=>B 4+Us 4+1<=a/\(a<=B 4+Us 4+1+((aF κ).length:Int)∨a=s+(i:Int))) (iJ B S Us s (i:Int) κ):=Ny (fun j hj=>⟨oZ,.inl oZ⟩) ⟨by have:=h.dict.his;omega,.inr rfl⟩
  have hD1:=p1.stores hA
  have hout:∀ p:Nat,((p:Int)<B 4+Us 4+1∨(B 4+Us 4+1+((aF κ).length:Int)<p/\(p:Int)≠s+(i:Int)))->cs1.getD p 0=cs.getD p 0:=by
   intro p hp2
   exact hD1.out p oZ
  have hzero:cs1.getD r 0=0:=by
   rw[hout r oZ]
   exact h.book0 r oZ oZ
  have hcu1:=p1.IA h.cu
  have hbooked:∀ j b k2,d j=some (b,k2)->B 4<=b/\b+2+((aF k2).length:Int)<=B 4+Us 4:=fun j b k2 hj=>⟨(h.dict.rec_ j b k2 hj).1,(h.dict.rec_ j b k2 hj).2.1⟩
  have h1:WS B S C m s cs1 Us1 d1:=by
   refine⟨by rw[p2];exact hlen,hcu1,p3,?_,?_,?_,?_,?_,?_⟩
   ·intro j b k2 hj
    by_cases e:j=i
    ·subst e
     rw[hd1i] at hj
     cases hj
     exact hkl
    ·rw[hd1o j e] at hj
     exact h.key17 j b k2 hj
   ·intro k hk
    have:=h.used k hk
    rw[hm4]
    split
    ·subst k;omega
    ·exact this
   ·intro k hk
    rw[hm4,if_neg oZ]
    exact h.slabs k hk
   ·intro p h2 h3
    rw[hm4,if_pos rfl] at h2
    rw[hout p (.inr ⟨oZ,oZ⟩)]
    exact h.book0 p oZ h3
   ·intro j b k2 hj
    by_cases e:j=i
    ·subst e
     rw[hd1i] at hj
     cases hj
     rw[show (B 4+Us 4).toNat=r by omega,hzero]
     exact .inl rfl
    ·rw[hd1o j e] at hj
     have:=hbooked j b k2 hj
     rw[hout _ (.inl oZ)]
     exact h.tail j b k2 hj
   ·intro j1 j2 b1 b2 k1 k2 hne hj1 hj2
    by_cases e1:j1=i
    ·rw[e1,hd1i] at hj1
     cases hj1
     rw[hd1o j2 oZ] at hj2
     have:=hbooked j2 b2 k2 hj2
     right;omega
    ·rw[hd1o j1 e1] at hj1
     by_cases e2:j2=i
     ·rw[e2,hd1i] at hj2
      cases hj2
      have:=hbooked j1 b1 k1 hj1
      left;omega
     ·rw[hd1o j2 e2] at hj2
      exact h.sep j1 j2 b1 b2 k1 k2 hne hj1 hj2
  have hrt:(B 4+Us 4).toNat=r:=oZ
  have hfit1:∀ k',dh B S (cs1.getD (B 4+Us 4).toNat 0)=some k'->aS k'<=S k'-Us1 k':=by
   intro k' hk'
   rw[hrt,hzero] at hk'
   have:=hfit k' hk'
   have hk0:k'=0:=by simp[dh] at hk';omega
   rw[hm4,if_neg oZ]
   exact this
  obtain⟨t',Us',cs2,cs',g1,g2,g3,g4,g5,g6,g7,⟨q2,g8,g9⟩,g10⟩:=h1.Iq hL hs5 hd1i (wd:=wd) hfit1
  rw[hrt,hzero] at g1 g9 hfit1
  obtain⟨q3,_,hput⟩:=g1.does
  refine⟨cs',Us',d1,B 4+Us 4,t',?_⟩
  refine⟨?_,?_,g3.trans p2,g4,p4,?_,?_,?_,?_,?_,?_⟩
  ·rw[g2,hrt]
   exact wu.fresh (slot:=(i:Int)) (q1:=q) (z:=(t',Us',0)) oZ oZ (by rw[<- hκ,hi];exact hf) hu4 (by rw[<- hκ];exact hroom) (by rw[<- hκ];exact p1) hcu1 hr oZ (by rw[<- hκ];exact hU1) hzero hwd hwu (.inl rfl) (hfit4 Us1 0 h1.used hfit1) hput.does
  ·rw[<- hκ,htl,hrec]
   refine⟨(q+((aF κ).length+2))+q2,oZ,?_⟩
   unfold gV
   rw[if_pos rfl]
   refine eF.bind (x:=(B 4+Us 4,Us1,(0:Int))) (cs1:=cs1) ?_ ?_
   ·unfold kK
    rw[show jV s (m:Int) κ=fR s m κ m 0 by unfold jV;rw[if_neg (by have:=h.dict.n0;omega),Int.toNat_natCast]]
    refine eF.bind (hf.stores (IQ s m κ m 0)) ?_
    show eF _ (iJ B S Us s ((bW m (dB κ) t:Nat):Int) κ) _ _ _ _
    rw[<- hi]
    exact p1.stores (hA.mono fun a ha=>⟨oZ,oZ⟩)
   ·show eF _ (if(0:Int)≠0 then _ else _) _ _ _ _
    rw[if_neg sZ]
    exact g9
  ·rw[<- hκ,hrec,if_pos rfl,hd1]
   exact IX hdn m hslt
  ·rw[<- hκ]
   exact⟨g5,oZ⟩
  ·rw[<- hκ];exact g6
  ·intro k hk
   rw[<- hκ] at hk
   have e1:fV d1 k m=fV d k m:=by
    rw[hd1]
    rw[hd1] at p3 p4
    exact h.dict.MS p3 p4 (fun e=>hk e.symm)
   refine⟨e1,(g7 k hk).trans ?_⟩
   unfold dn
   rw[e1]
   rcases h.vP k with ⟨e,_,_⟩ | ⟨j,b,hj,e,_,_⟩
   ·rw[if_pos e,if_pos e]
   ·have:=hbooked j b k hj
    rw[e,hout _ (.inl oZ)]
  ·intro c j
   rw[<- hκ,htl,hrec]
   have:=g1.need c j
   rw[hm4] at this
   by_cases e:j=4
   ·subst e
    rw[if_pos ⟨rfl,rfl⟩]
    rw[if_pos rfl] at this
    omega
   ·rw[if_neg (fun x=>e x.2)]
    rw[if_neg e] at this
    omega
  ·intro p hp2
   rw[g10 p oZ]
   exact hout p oZ
end
def lM (b d:Int):Pr R4:=.load (b+4*d) fun p=>.load (b+4*d+1) fun i=>.load (b+4*d+2) fun l=>.load (b+4*d+3) fun t=>.ret ⟨p,i,l,t⟩
theorem P5 (cs:List Int) (b:Int) (d:Nat) (hb:0<=b) (hl:b+4*(d:Int)+3<cs.length):∃ m,m<=8/\Does (lM b (d:Int)) cs m ⟨bK cs (b+4*(d:Int)),bK cs (b+4*(d:Int)+1),bK cs (b+4*(d:Int)+2),bK cs (b+4*(d:Int)+3)⟩ cs :=
 ⟨0+1+1+1+1,oZ,.load oZ oZ (.load oZ oZ (.load oZ oZ (.load oZ oZ (.ret _ _))))⟩
structure QW (W:World) (rb mb cb:Nat) (go0:Option Nat) (st:St) (go:Option Nat) (w:World):Prop where
 run:iI W rb mb cb go0 st go w
 r:w.heap[W.heap.size]?=some (.cells (zq ⟨0,0,0,0⟩) 147 (0,0))
theorem QW.access {W w w':World} {rb mb cb:Nat} {go0 go go':Option Nat} {st st':St} (h:QW W rb mb cb go0 st go w) (hr:RM w' rb mb cb go' true st') (ha:jY rb mb cb w go w' go'):QW W rb mb cb go0 st' go' w' :=
 ⟨h.run.access hr ha,h.run.stays ha h.r (Nat.le_refl _) dZ⟩
section
variable {w:World} {rb mb cb:Nat} {go:Option Nat} {st:St} {Bd:Nat}
theorem Pj (b d:Int) (hrm:RM w rb mb cb go true st) (hf:st.Fine Bd) (hB:Bd<1000000000) (hb0:0<=b) (hb1:b<=60000) (hd0:0<=d) (hd1:d<=60000) :
  Calls Tryz.prog 80 #[.pointer (some ⟨rb,0,none⟩),.int .i64 b,.int .i64 d] w fun e w'=>∃ x go',e=.returned (.agg (zq x))/\RM w' rb mb cb go' true ((lM b d).on st).2/\jY rb mb cb w go w' go'/\∀ y,((lM b d).on st).1=some y->y=x:=by
 obtain⟨w1,hw1⟩:∃ w1,w1=w.alloc (.cells #[.int .u32 0,.int .u32 0,.int .u32 0,.int .u32 0] 147):=⟨_,rfl⟩
 have HR:=hJ (show QW w rb mb cb go st go w1 from⟨by rw[hw1];exact(iI.start hrm).below au,by rw[hw1];exact nZ w _⟩)
 have HF:=hJ hf
 obtain⟨p,hp⟩:∃ p,p=lM b d:=⟨_,rfl⟩
 have hq:Rest p (lM b d) st st:=by rw[hp];exact Rest.start _ _
 unfold lM at hq
 have h00:=jW b d 0 hb0 hb1 hd0 hd1 dZ dZ
 have h01:=jW b d 1 hb0 hb1 hd0 hd1 dZ dZ
 have h02:=jW b d 2 hb0 hb1 hd0 hd1 dZ dZ
 have h03:=jW b d 3 hb0 hb1 hd0 hd1 dZ dZ
 rw[<- hp]
 obtain⟨a,ha⟩:∃ a,a=b+4*d:=⟨_,rfl⟩
 rw[<- ha] at hq
 simp only[Int.add_zero,<- ha] at h00 h01 h02 h03
 have H0:=hJ h00
 have H1:=hJ h01
 have H2:=hJ h02
 have H3:=hJ h03
 have HQ:=hJ hq
 have HW:=hJ hw1
 clear hrm hf ha hp hq hw1 h00 h01 h02 h03
 go_enter Tryz.func80,Tryz.ntmps80
 go_wp2_with fail
 refine(H0.out _).mono ?_;rintro e wz ⟨rfl,rfl⟩
 go_wp2_with fail
 rw[<- HW.out]
 clear HW
 refine(run_load HR.out.run.rm hB HF.out.ok a).mono ?_;rintro e v1 ⟨rfl,go1,hr1,ha1⟩
 have HR:=hJ (HR.out.access hr1 ha1)
 have HQ:=hJ (HQ.out.load HF.out)
 have HF:=hJ (HF.out.load a)
 clear hr1 ha1 H0
 obtain⟨st1,hst1⟩:∃ s,s=(st.load a).2:=⟨_,rfl⟩
 obtain⟨y1,hy1⟩:∃ y,y=(st.load a).1:=⟨_,rfl⟩
 rw[<- hst1] at HR HF HQ
 rw[<- hy1] at HQ ⊢
 clear hst1 hy1
 go_wp2_with fail
 refine(H1.out _).mono ?_;rintro e wz ⟨rfl,rfl⟩
 go_wp2_with fail
 refine(run_load HR.out.run.rm hB HF.out.ok (a+1)).mono ?_;rintro e v2 ⟨rfl,go2,hr2,ha2⟩
 have HR:=hJ (HR.out.access hr2 ha2)
 have HQ:=hJ (HQ.out.load HF.out)
 have HF:=hJ (HF.out.load (a+1))
 clear hr2 ha2 H1
 obtain⟨st2,hst2⟩:∃ s,s=(st1.load (a+1)).2:=⟨_,rfl⟩
 obtain⟨y2,hy2⟩:∃ y,y=(st1.load (a+1)).1:=⟨_,rfl⟩
 rw[<- hst2] at HR HF HQ
 rw[<- hy2] at HQ ⊢
 clear hst2 hy2
 go_wp2_with fail
 refine(H2.out _).mono ?_;rintro e wz ⟨rfl,rfl⟩
 go_wp2_with fail
 refine(run_load HR.out.run.rm hB HF.out.ok (a+2)).mono ?_;rintro e v3 ⟨rfl,go3,hr3,ha3⟩
 have HR:=hJ (HR.out.access hr3 ha3)
 have HQ:=hJ (HQ.out.load HF.out)
 have HF:=hJ (HF.out.load (a+2))
 clear hr3 ha3 H2
 obtain⟨st3,hst3⟩:∃ s,s=(st2.load (a+2)).2:=⟨_,rfl⟩
 obtain⟨y3,hy3⟩:∃ y,y=(st2.load (a+2)).1:=⟨_,rfl⟩
 rw[<- hst3] at HR HF HQ
 rw[<- hy3] at HQ ⊢
 clear hst3 hy3
 go_wp2_with fail
 refine(H3.out _).mono ?_;rintro e wz ⟨rfl,rfl⟩
 go_wp2_with fail
 refine(run_load HR.out.run.rm hB HF.out.ok (a+3)).mono ?_;rintro e v4 ⟨rfl,go4,hr4,ha4⟩
 have HR:=hJ (HR.out.access hr4 ha4)
 have HQ:=hJ (HQ.out.load HF.out)
 have HF:=hJ (HF.out.load (a+3))
 clear hr4 ha4 H3
 obtain⟨st4,hst4⟩:∃ s,s=(st3.load (a+3)).2:=⟨_,rfl⟩
 obtain⟨y4,hy4⟩:∃ y,y=(st3.load (a+3)).1:=⟨_,rfl⟩
 rw[<- hst4] at HR HF HQ
 rw[<- hy4] at HQ ⊢
 clear hst4 hy4
 go_wp2_with (first | (refine zZ rfl 147 (.tmp 6) (.tmp 27) rfl w.heap.size (zq ⟨y1,y2,y3,y4⟩) rfl rfl 147 (zq ⟨0,0,0,0⟩) HR.out.r (Ar _) rfl (N8 _) ?_) | fail)
 have hq:=HQ.out.ret
 unfold gG at hq
 have hm:bI (fun k=>k=w.heap.size) v4 (v4.setRow w.heap.size (zq ⟨y1,y2,y3,y4⟩)):=bI.setRow (S:=fun k=>k=w.heap.size) (bI.refl _ _) (.inr rfl) _
 have hru:=HR.out.run.turn (HR.out.run.far HR.out.r (Nat.le_refl _) dZ) (Nat.le_refl _) hm
 have hrm:=hru.rm
 rw[<- hq.1] at hrm
 refine tZ (v:=.agg (zq ⟨y1,y2,y3,y4⟩)) (results_cell_row rfl _ _ w.heap.size _ _ (0,0) _ rfl (setRow_heap _ _ _ _ _ _ HR.out.r) Tryz.underlying147 rfl (Ar _)) rfl ⟨_,go4,rfl,hrm,hru.adv,hq.2⟩
end
theorem IC {d t:Int} {s:Nat->Int} {bk rm:Int} (h:fU d t s bk rm):Laid (az (aB s bk rm)) (aB s bk rm) (az (aB s bk rm) 6) where
 b0:=rfl
 next:=fun _ _=>rfl
 c:=rfl
 c1:=h.2
 s0:=fun k _=>xG h.1 k
 m:=⟨s,fun k hk=>⟨h.1.s0 k hk,by unfold aB;rw[if_pos hk]⟩⟩
/-! ### Keys and how often -/
def fJ (l:List Tk) (k:List Nat):Nat:=List.count k (l.map aP)
theorem zQ (tk:Tk) (l:List Tk) (k:List Nat):fJ (tk :: l) k=fJ l k+if aP tk=k then 1 else 0:=by
 unfold fJ
 rw[List.map_cons,List.count_cons]
 simp
structure KQ (l:List Tk) (P:List (List Nat)×List Nat):Prop where
 cnt:P.2=P.1.map (fJ l)
 mem:∀ k,k∈P.1↔k∈l.map aP
 nd:P.1.Nodup
theorem jP (l:List Tk) (x:Tk) (k:List Nat):fJ (l++[x]) k=fJ l k+if aP x=k then 1 else 0:=by
 unfold fJ
 rw[List.map_append,List.count_append,List.map_cons,List.map_nil,List.count_cons]
 simp
theorem KQ.step {l:List Tk} {P:List (List Nat)×List Nat} (h:KQ l P) (x:Tk):KQ (l++[x]) (ku P (aP x)):=by
 obtain⟨h1,h2,h3⟩:=h
 unfold ku
 by_cases hk:aP x∈P.1
 ·rw[if_pos hk]
  refine⟨?_,fun k=>?_,h3⟩
  ·show P.2.set _ _=_
   refine List.ext_getElem? fun j=>?_
   rw[List.getElem?_set,List.getElem?_map]
   have hlt:=List.idxOf_lt_length_of_mem hk
   have hlen:P.2.length=P.1.length:=by rw[h1,List.length_map]
   by_cases hj:P.1.idxOf (aP x)=j
   ·subst hj
    rw[if_pos rfl,if_pos oZ,gZ hlt]
    simp only[Option.map_some,Option.some.injEq]
    rw[List.getElem_idxOf,jP,if_pos rfl,h1,List.getD_eq_getElem?_getD,List.getElem?_map,gZ hlt]
    simp
   ·rw[if_neg hj,h1,List.getElem?_map]
    cases hpj:P.1[j]? with
    | none=>rfl
    | some k =>
     simp only[Option.map_some,Option.some.injEq]
     rw[jP,if_neg]
     ·rfl
     ·intro e
      apply hj
      have hjl:=(eZ.1 hpj).1
      have hje:=(eZ.1 hpj).2
      rw[e,<- hje]
      exact h3.idxOf_getElem j hjl
  ·rw[h2,List.map_append,List.mem_append]
   refine⟨.inl,fun e=>e.elim id fun e=>?_⟩
   simp at e
   rw[e]
   exact(h2 _).1 hk
 ·rw[if_neg hk]
  refine⟨?_,fun k=>?_,?_⟩
  ·show P.2++[1]=_
   rw[List.map_append,h1]
   congr 1
   ·refine List.map_congr_left fun k hk2=>?_
    rw[jP,if_neg (by rintro rfl;exact hk hk2)]
    rfl
   ·rw[List.map_cons,List.map_nil,jP,if_pos rfl]
    have:fJ l (aP x)=0:=List.count_eq_zero.2 fun e=>hk ((h2 _).2 e)
    rw[this]
  ·rw[List.map_append,List.mem_append,List.mem_append,h2]
   simp
  ·show (P.1++[aP x]).Nodup
   rw[List.nodup_append]
   refine⟨h3,sZ,fun a ha b hb=>?_⟩
   simp at hb
   rw[hb]
   rintro rfl
   exact hk ha
theorem Bo (a b:List Tk) (P:List (List Nat)×List Nat):oV (a++b) P=oV b (oV a P):=by
 unfold oV
 rw[List.map_append,List.foldl_append]
theorem EZ:∀ (b a:List Tk) (P:List (List Nat)×List Nat),KQ a P->KQ (a++b) (oV b P)
 | [],a,P,h=>by rw[List.append_nil];exact h
 | x :: b,a,P,h=>by
  have:=EZ b (a++[x]) (ku P (aP x)) (h.step x)
  rw[List.append_assoc,List.singleton_append] at this
  exact this
theorem jg (l:List Tk):KQ l (bC l):=by
 have:=EZ l [] ([],[]) ⟨rfl,fun k=>sZ,List.nodup_nil⟩
 rwa [List.nil_append] at this
/-! ### Sums over keys -/
def lq (K:List (List Nat)) (f:List Nat->Int):Int:=(K.map f).sum
theorem jR (k:List Nat) (K:List (List Nat)) (f:List Nat->Int):lq (k :: K) f=f k+lq K f:=by
 unfold lq
 rw[List.map_cons,List.sum_cons]
theorem AO {f g:List Nat->Int}:∀ K,(∀ k∈K,g k=f k)->lq K g=lq K f
 | [],_=>rfl
 | k :: K,h=>by
  rw[jR,jR,h k sZ,AO K fun k' hk'=>h k' (by simp[hk'])]
theorem yB {f g:List Nat->Int} {κ:List Nat}:∀ K:List (List Nat),K.Nodup->κ∈K->(∀ k∈K,k≠κ->g k=f k)->lq K g=lq K f+g κ-f κ
 | [],_,h,_=>by simp at h
 | k :: K,hn,hk,h=>by
  rw[List.nodup_cons] at hn
  rw[jR,jR]
  by_cases e:k=κ
  ·subst e
   rw[AO K fun k' hk'=>h k' (by simp[hk']) (by rintro rfl;exact hn.1 hk')]
   omega
  ·have hm:κ∈K:=by
    rcases List.mem_cons.1 hk with h1 | h1
    ·exact absurd h1.symm e
    ·exact h1
   rw[yB K hn.2 hm fun k' hk'=>h k' (by simp[hk']),h k sZ e]
   omega
theorem Be {f:List Nat->Int}:∀ K:List (List Nat),(∀ k∈K,0<=f k)->0<=lq K f
 | [],_=>by unfold lq;simp
 | k :: K,h=>by
  have:=Be K fun k' hk'=>h k' (by simp[hk'])
  have:=h k sZ
  rw[jR]
  omega
theorem yf {f:List Nat->Int} {κ:List Nat}:∀ K:List (List Nat),κ∈K->(∀ k∈K,0<=f k)->f κ<=lq K f
 | [],h,_=>by simp at h
 | k :: K,hk,h=>by
  have h1:=Be K fun k' hk'=>h k' (by simp[hk'])
  have h2:=h k sZ
  rw[jR]
  rcases List.mem_cons.1 hk with e | e
  ·subst e;omega
  ·have:=yf K e fun k' hk'=>h k' (by simp[hk'])
   omega
/-! ### What is left to be taken -/
def uK (a:Int) (k:List Nat) (c j:Nat):Int:=if a=0/\0<c/\j=4 then 2+((aF k).length:Int) else 0
def jw (B S:Nat->Int) (cs:List Int) (d:dm) (m:Nat) (l:List Tk) (j:Nat) (k:List Nat):Int :=
 fB (fJ l k) (dC B S (dn cs d k m)) (bT B S (dn cs d k m)) j+uK (fV d k m) k (fJ l k) j
def jf (d:dm) (m:Nat) (l:List Tk) (k:List Nat):Int:=if fV d k m=0/\0<fJ l k then 1 else 0
theorem Dw (a:Int) (k:List Nat) (c j:Nat):0<=uK a k c j:=by unfold uK;split <;> omega
theorem Ox (B S:Nat->Int) (cs:List Int) (d:dm) (m:Nat) (l:List Tk) (j:Nat) (k:List Nat):0<=jw B S cs d m l j k:=by
 unfold jw
 have:=lF (fJ l k) (dC B S (dn cs d k m)) (bT B S (dn cs d k m)) j
 have:=Dw (fV d k m) k (fJ l k) j
 omega
theorem Ae (d:dm) (m:Nat) (l:List Tk) (k:List Nat):0<=jf d m l k:=by unfold jf;split <;> omega
theorem Fv {B S:Nat->Int} {C:Int} (hL:Laid B S C) {t:Int} (hr:bP B S t) {k:Nat} (h:dh B S t=some k):dC B S t=0/\bT B S t=k/\k<4:=by
 unfold dh at h
 unfold dC bT
 split at h
 ·rename_i h0
  rw[if_pos h0,if_pos h0]
  cases h
  exact⟨rfl,rfl,oZ⟩
 ·rename_i h0
  rw[if_neg h0,if_neg h0]
  split at h
  ·cases h
  ·rename_i h1
   have:=hL.at_ (hr.resolve_left h0)
   cases h
   refine⟨oZ,rfl,?_⟩
   split <;> omega
/-! ### The terms as the program knows them -/
abbrev TR:=List Nat×Nat×Int×Int
def qU (cs:List Int) (d:dm) (m:Nat) (c:List Nat->Nat) (k:List Nat):TR:=(k,c k,fV d k m,dn cs d k m)
abbrev WP:=Nat×Int×Int
def wpOf (K:List (List Nat)) (doc:Int) (tk:Tk):WP:=(K.idxOf (aP tk),eU doc tk.2.2,gW doc tk.2.2)
def storeT (B S:Nat->Int) (s:Int) (m:Nat):(Nat->Int)->List TR->List WP->Pr ((Nat->Int)×Int)
 | Us,_,[]=>.ret (Us,0)
 | Us,ts,x :: l=>if x.2.2≠0 then .ret (Us,x.2.2) else
  (gV B S Us s m (ts.getD x.1 ([],0,0,0)).1 (ts.getD x.1 ([],0,0,0)).2.2.1 (ts.getD x.1 ([],0,0,0)).2.2.2 x.2.1).bind fun y =>
   if y.2.2.2≠0 then .ret (Us,y.2.2.2) else storeT B S s m y.2.2.1 (ts.set x.1 ((ts.getD x.1 ([],0,0,0)).1,(ts.getD x.1 ([],0,0,0)).2.1,y.1,y.2.1)) l
structure uX (K:List (List Nat)) (doc:Int) (l:List Tk):Prop where
 mem:∀ tk∈l,aP tk∈K
 tk0:∀ tk∈l,0<=tk.1/\tk.1<=255
 tk17:∀ tk∈l,tk.2.1.size<=16
 err:∀ tk∈l,gW doc tk.2.2=0
 u:∀ tk∈l,U (eU doc tk.2.2)
theorem uX.tail {K:List (List Nat)} {doc:Int} {tk:Tk} {l:List Tk} (h:uX K doc (tk :: l)):uX K doc l :=
 ⟨fun x hx=>h.mem x (by simp[hx]),fun x hx=>h.tk0 x (by simp[hx]),fun x hx=>h.tk17 x (by simp[hx]),fun x hx=>h.err x (by simp[hx]),fun x hx=>h.u x (by simp[hx])⟩
section
variable {B S:Nat->Int} {C:Int} {m:Nat} {s:Int}
theorem P6 {cs:List Int} {d:dm} {c:List Nat->Nat} {K:List (List Nat)} {κ:List Nat} (hk:κ∈K):(K.map (qU cs d m c)).getD (K.idxOf κ) ([],0,0,0)=(κ,c κ,fV d κ m,dn cs d κ m):=by
 have hlt:=List.idxOf_lt_length_of_mem hk
 rw[List.getD_eq_getElem?_getD,List.getElem?_map,gZ hlt,List.getElem_idxOf]
 rfl
theorem Qk {cs cs':List Int} {d d':dm} {c:List Nat->Nat} {K:List (List Nat)} {κ:List Nat} (hn:K.Nodup) (hk:κ∈K) {a' t':Int} (h1:fV d' κ m=a') (h2:dn cs' d' κ m=t') (ho:∀ k,k≠κ->fV d' k m=fV d k m/\dn cs' d' k m=dn cs d k m) :
  (K.map (qU cs d m c)).set (K.idxOf κ) (κ,c κ,a',t')=K.map (qU cs' d' m c):=by
 have hlt:=List.idxOf_lt_length_of_mem hk
 refine List.ext_getElem? fun j=>?_
 rw[List.getElem?_set,List.getElem?_map,List.getElem?_map]
 by_cases hj:K.idxOf κ=j
 ·subst hj
  rw[if_pos rfl,if_pos (by rw[List.length_map];exact hlt),gZ hlt,List.getElem_idxOf]
  simp only[Option.map_some,Option.some.injEq,qU]
  rw[h1,h2]
 ·rw[if_neg hj]
  cases hpj:K[j]? with
  | none=>rfl
  | some k =>
   have hjl:=(eZ.1 hpj).1
   have hje:=(eZ.1 hpj).2
   have hne:k≠κ:=by
    rintro rfl
    apply hj
    conv=>lhs;rw[<- hje]
    exact hn.idxOf_getElem j hjl
   simp only[Option.map_some,Option.some.injEq,qU]
   rw[(ho k hne).1,(ho k hne).2]
structure QS (B S:Nat->Int) (C:Int) (m:Nat) (s doc:Int) (K:List (List Nat)) (c:List Nat->Nat) (l:List Tk) (cs:List Int) (Us:Nat->Int) (d:dm) (cs':List Int) (Us':Nat->Int) (d':dm):Prop where
 ref:Dt B S s m doc cs Us l cs' Us'
 prog:∃ q,q<=3700*l.length/\eF (Area B s m) (storeT B S s m Us (K.map (qU cs d m c)) (l.map (wpOf K doc))) cs q (Us',0) cs'
 inv:WS B S C m s cs' Us' d'
 len:cs'.length=cs.length
 used:∀ j,j<6->Us' j=Us j+lq K (jw B S cs d m l j)
 occ_:(sW d' m:Int)=sW d m+lq K (jf d m l)
 out:∀ p:Nat,(p:Int)<3∨(B 5<=p/\((p:Int)<s∨s+(m:Int)<=p))->cs'.getD p 0=cs.getD p 0
theorem J7 {cs:List Int} {d:dm} (j:Nat) (k:List Nat):jw B S cs d m [] j k=0:=by
 unfold jw uK
 rw[show fJ [] k=0 from rfl,if_neg (fun h=>by have:=h.2.1;omega)]
 unfold fB
 rfl
theorem vH {f:List Nat->Int} (h:∀ k,f k=0):∀ K,lq K f=0
 | []=>rfl
 | k :: K=>by rw[jR,h,vH h K];rfl
theorem WS.words (hL:Laid B S C) (hs5:B 5<=s) (hC:C<=65536) (hm:m<=512) {K:List (List Nat)} (hK:K.Nodup) {doc:Int} {tt:Int} (htt:tt<m) (c:List Nat->Nat):∀ (l:List Tk) (cs:List Int) (Us:Nat->Int) (d:dm),WS B S C m s cs Us d->uX K doc l ->
  (∀ j,j<6->Us j+lq K (jw B S cs d m l j)<=S j)->(sW d m:Int)+lq K (jf d m l)<=tt->∃ cs' Us' d',QS B S C m s doc K c l cs Us d cs' Us' d'
 | [],cs,Us,d,h,_,_,_=>by
  refine⟨cs,Us,d,.nil _ _,⟨0,oZ,.ret _ _⟩,h,rfl,fun j hj=>?_,?_,fun _ _=>rfl⟩
  ·rw[vH fun k=>J7 j k]
   omega
  ·rw[vH fun k=>by unfold jf;rw[if_neg (fun h=>by have:=h.2;rw[show fJ [] k=0 from rfl] at this;omega)]]
   omega
 | tk :: l,cs,Us,d,h,hw,hfit,hocc=>by
  have hκK:=hw.mem tk sZ
  have hcnt:fJ (tk :: l) (aP tk)=fJ l (aP tk)+1:=by rw[zQ,if_pos rfl]
  have hcnt2:∀ k,k≠aP tk->fJ (tk :: l) k=fJ l k:=fun k hk=>by rw[zQ,if_neg (fun e=>hk e.symm)];rfl
  have hone:∀ j,jw B S cs d m (tk :: l) j (aP tk)<=lq K (jw B S cs d m (tk :: l) j):=fun j=>yf K hκK fun k _=>Ox B S cs d m (tk :: l) j k
  have hf1:jf d m (tk :: l) (aP tk)<=lq K (jf d m (tk :: l)):=yf K hκK fun k _=>Ae d m (tk :: l) k
  have hu4:=h.used 4 oZ
  have hocc2:sW d m<m:=by
   have:=Be K fun k _=>Ae d m (tk :: l) k
   omega
  have hbook:fV d (aP tk) m=0->2+((aF (aP tk)).length:Int)<=S 4-Us 4:=by
   intro e
   have h1:=hone 4
   have h2:=hfit 4 oZ
   have h3:jw B S cs d m (tk :: l) 4 (aP tk)=fB (fJ (tk :: l) (aP tk)) (dC B S (dn cs d (aP tk) m)) (bT B S (dn cs d (aP tk) m)) 4+(2+((aF (aP tk)).length:Int)):=by
    unfold jw uK
    rw[if_pos ⟨e,oZ,rfl⟩]
   have:=lF (fJ (tk :: l) (aP tk)) (dC B S (dn cs d (aP tk) m)) (bT B S (dn cs d (aP tk) m)) 4
   omega
  have hslab:∀ k,dh B S (dn cs d (aP tk) m)=some k->aS k<=S k-Us k:=by
   intro k hk
   obtain⟨e1,e2,e3⟩:=Fv hL (h.yP (aP tk)) hk
   have h1:=hone k
   have h2:=hfit k oZ
   have h3:jw B S cs d m (tk :: l) k (aP tk)=aS k+fB (fJ l (aP tk)) (aS k-2) (up k) k+uK (fV d (aP tk) m) (aP tk) (fJ l (aP tk)+1) k:=by
    unfold jw
    rw[hcnt,iQ,if_pos e1,e2,if_pos rfl]
   have:=lF (fJ l (aP tk)) (aS k-2) (up k) k
   have:=Dw (fV d (aP tk) m) (aP tk) (fJ l (aP tk)+1) k
   omega
  obtain⟨cs1,Us1,d1,a',t',hn⟩:=h.word hL hs5 hC hm (hw.tk0 tk sZ) (hw.tk17 tk sZ) (doc:=doc) rfl (hw.u tk sZ) hocc2 hbook hslab
  have hrest:∀ j,lq K (jw B S cs1 d1 m l j)=lq K (jw B S cs d m (tk :: l) j)-(Us1 j-Us j):=by
   intro j
   rw[yB (f:=jw B S cs d m (tk :: l) j) K hK hκK fun k _ hk=>by
    unfold jw
    rw[(hn.other k hk).1,(hn.other k hk).2,hcnt2 k hk]]
   have hneed:=hn.need (fJ l (aP tk)) j
   have e1:jw B S cs1 d1 m l j (aP tk)=fB (fJ l (aP tk)) (dC B S t') (bT B S t') j:=by
    unfold jw uK
    rw[hn.tail_,hn.rec_.1,if_neg (fun e=>hn.rec_.2 e.1)]
    omega
   have e2:jw B S cs d m (tk :: l) j (aP tk)=fB (fJ l (aP tk)+1) (dC B S (dn cs d (aP tk) m)) (bT B S (dn cs d (aP tk) m)) j+(if fV d (aP tk) m=0/\j=4 then 2+((aF (aP tk)).length:Int) else 0):=by
    unfold jw uK
    rw[hcnt]
    congr 1
    by_cases e:fV d (aP tk) m=0/\j=4
    ·rw[if_pos ⟨e.1,oZ,e.2⟩,if_pos e]
    ·rw[if_neg (fun x=>e ⟨x.1,x.2.2⟩),if_neg e]
   rw[e1,e2]
   omega
  have hfr:lq K (jf d1 m l)=lq K (jf d m (tk :: l))-(if fV d (aP tk) m=0 then 1 else 0):=by
   rw[yB (f:=jf d m (tk :: l)) K hK hκK fun k _ hk=>by
    unfold jf
    rw[(hn.other k hk).1,hcnt2 k hk]]
   have e1:jf d1 m l (aP tk)=0:=by unfold jf;rw[hn.rec_.1,if_neg (fun e=>hn.rec_.2 e.1)]
   have e2:jf d m (tk :: l) (aP tk)=if fV d (aP tk) m=0 then 1 else 0:=by
    unfold jf
    by_cases e:fV d (aP tk) m=0
    ·rw[if_pos ⟨e,oZ⟩,if_pos e]
    ·rw[if_neg (fun x=>e x.1),if_neg e]
   rw[e1,e2]
   omega
  have hoc1:(sW d1 m:Int)=sW d m+(if fV d (aP tk) m=0 then 1 else 0):=by
   rw[hn.occ_]
   split <;> simp
  obtain⟨cs2,Us2,d2,hall⟩:=WS.words hL hs5 hC hm hK htt c l cs1 Us1 d1 hn.inv hw.tail (fun j hj=>by have:=hfit j hj;rw[hrest j];omega) (by rw[hoc1,hfr];omega)
  refine⟨cs2,Us2,d2,?_,?_,hall.inv,hall.len.trans hn.len,fun j hj=>?_,?_,fun p hp=>(hall.out p hp).trans (hn.out p hp)⟩
  ·exact .cons h.cu hn.ref hn.len hall.ref
  ·obtain⟨q1,hq1,hp1⟩:=hn.prog
   obtain⟨q2,hq2,hp2⟩:=hall.prog
   refine⟨q1+q2,by rw[List.length_cons];omega,?_⟩
   rw[List.map_cons]
   unfold storeT
   rw[if_neg (by show ¬ gW doc tk.2.2≠0;rw[hw.err tk sZ];simp)]
   rw[show (wpOf K doc tk).1=K.idxOf (aP tk) from rfl,show (wpOf K doc tk).2.1=eU doc tk.2.2 from rfl,P6 hκK]
   refine hp1.bind ?_
   show eF _ (if(0:Int)≠0 then _ else storeT B S s m Us1 ((K.map (qU cs d m c)).set (K.idxOf (aP tk)) (aP tk,c (aP tk),a',t')) (l.map (wpOf K doc))) _ _ _ _
   rw[if_neg sZ,Qk hK hκK hn.rec_.1 hn.tail_ hn.other]
   exact hp2
  ·rw[hall.used j hj,hrest j]
   omega
  ·rw[hall.occ_,hfr,hoc1]
   omega
end
variable {α:Type}
theorem eF.next {A:Int->Prop} {q:Pr α} {cs cs':List Int} {n:Nat} {x:α} (h:eF A q cs n x cs'):eF A (q.next cs).1 (q.next cs).2 (n-1) x cs':=by
 cases h with
 | ret=>exact .ret _ _
 | load h1 h2 h3=>exact h3
 | store h1 h2 _ h3=>exact h3
theorem Sj {p q:Pr α} {st:St} (h:At p q st) (hin:q.In st.cs.length) {cs cs':List Int} {n:Nat} {x:α} (hq:eF (fun _=>False) q cs n x cs'):(st.nV p).s=st.s:=by
 have ho:=Ew h
 have e1:st.nV p=(q.on {st with at_:=st.log.length,made:=false}).2.shut:=by
  unfold St.nV
  rw[if_neg (by simp[h.over]),ho]
 rw[e1]
 clear e1 ho
 unfold St.shut
 cases q with
 | ret x=>simp[Pr.on]
 | load a k =>
  obtain⟨h1,h2⟩:=hin
  have e:({st with at_:=st.log.length,made:=false}:St).load a=(st.cs.getD a.toNat 0,{st with made:=true,off:=false,log:=st.log++[st.cs.getD a.toNat 0],at_:=st.log.length+1,l:=st.l+1}):=by
   have hk:=tK h1 h2
   simp[St.load,hk]
  have hf:=IM (k (st.cs.getD a.toNat 0)) {st with made:=true,off:=false,log:=st.log++[st.cs.getD a.toNat 0],at_:=st.log.length+1,l:=st.l+1} rfl sZ rfl
  simp only[Pr.on,e]
  rw[if_neg sZ,hf.2]
 | store a v k =>
  cases hq with
  | store _ _ hn _=>exact hn.elim
structure RQ (W:World) (rb mb cb:Nat) (S:Nat->Prop) (I:World->Prop) (p:Pr α) (x:α) (cs':List Int) (t:Int) (n i:Nat) (N:Prop) (s0:Int) (wx:World):Prop where
 at_:∃ q st go m,RM wx rb mb cb go false st/\At p q st/\Does q st.cs m x cs'/\m+i=n/\st.log.length<=i/\0<=st.l/\0<=st.s/\st.l+st.s+m<=t/\(∀ y∈st.log,U y)/\(∀ y∈st.cs,U y)/\(∀ g,go=some g->W.heap.size<=g)/\(N->eF (fun _=>False) q st.cs m x cs'/\st.s=s0)
 inv:I wx
 mod:bI (Own S mb cb) W wx
theorem RQ.new {W w0 w1:World} {rb mb cb:Nat} {S:Nat->Prop} {I:World->Prop} {p:Pr α} {x:α} {cs cs':List Int} {l s:Int} {n:Nat} {N:Prop} (hm:dD W mb cb cs l s) (h0:0<=l) (h1:0<=s) (hcu:∀ y∈cs,U y) (hd:Does p cs n x cs') (hN:N->eF (fun _=>False) p cs n x cs') (hb:Below W.heap.size W w1) (hr:bM w1 rb mb none 0 [] 0 false false false false 0) (hI:I w1) (hw:w0=W) :
  RQ W rb mb cb S I p x cs' (l+s+n) n 0 N s w1:=by
 subst hw
 exact⟨⟨p,⟨[],0,false,false,false,0,cs,l,s⟩,none,n,⟨⟨0,hr⟩,hm.below hb,sZ⟩,At.new p cs l s,hd,oZ,sZ,h0,h1,by show l+s+(n:Int)<=l+s+(n:Int);omega,sZ,hcu,sZ,fun h=>⟨hN h,rfl⟩⟩,hI,Below.mod hb _ fun k hk hk'=>oZ⟩
theorem RQ.Sv {W w:World} {rb mb cb:Nat} {F:FuncId} {caps:Array Value} {S:Nat->Prop} {I:World->Prop} {p:Pr α} {Post:α->World->Prop} {x:α} {cs':List Int} {t s0:Int} {n i B:Nat} {N:Prop} (h:RQ W rb mb cb S I p x cs' t n i N s0 w) (hrb:W.heap.size<=rb)
  (hC:QP F caps rb mb cb S I p Post B) (hS:∀ k,S k->k<W.heap.size/\k≠mb/\k≠cb) (hn:n+1<=B) (ht:t+1<=B) :
  Calls Tryz.prog 22 #[.pointer (some ⟨rb,0,none⟩),.func (.func F) #[] caps] w fun e w'=>(e=.returned (.bool true)/\QL W mb cb S I Post x cs' t w'/\(N->∃ l,dD w' mb cb cs' l s0)/\∃ cap go' log at_ ma off,bM w' rb mb go' cap log at_ false ma off true 0)∨(e=.returned (.bool false)/\RQ W rb mb cb S I p x cs' t n (i+1) N s0 w'/\i<n):=by
 obtain⟨⟨q,st,go,m,hrm,hat,hd,hmi,hlog,h0,h1,hsum,hlu,hcu,hgo,hns⟩,hI,hmod⟩:=h
 have hfine:=hat.fine (B:=B) oZ h0 h1 oZ hlu hcu
 have hfar:∀ k,S k->¬ gY rb mb cb go k:=by
  intro k hk
  obtain⟨a1,a2,a3⟩:=hS k hk
  rintro(e | e | e | e)
  ·omega
  ·have:=hgo k e;omega
  ·exact a2 e
  ·exact a3 e
 obtain⟨hin,hd',hnx⟩:=hd.step
 have hst:=step_next hat hin
 refine(Om hrm hat.over hat.off hfine hC hI hfar).mono ?_
 rintro e w' ⟨rfl,go',hrm',hadv,hI',hP'⟩
 have hu:=O5 (p:=p) hfine hat.over
 have hks:N->(st.nV p).s=s0:=fun h=>(Sj hat hin (hns h).1).trans (hns h).2
 generalize hst1:st.nV p=st' at *
 rw[hst.over]
 have hgo':∀ g,go'=some g->W.heap.size<=g:=by
  intro g hg
  rcases hadv.grows with e | ⟨g',e,hg'⟩
  ·exact hgo g (by rw[<- e];exact hg)
  ·rw[e] at hg;cases hg
   exact Nat.le_trans hmod.size hg'
 have hmod':bI (Own S mb cb) W w':=hmod.then hadv.mod (by
  rintro k hk (e | e | e | e | e)
  ·exact .inl e
  ·omega
  ·have:=hgo k e;omega
  ·exact .inr (.inl e)
  ·exact .inr (.inr e))
 have hs:=hst.sum
 have hl0:=hst.l0
 have hs0:=hst.s0
 have hcount:=hst.count
 cases hr:(q.next st.cs).1.wV with
 | true =>
  left
  have hn1:∃ y,(q.next st.cs).1=.ret y:=by
   generalize (q.next st.cs).1=r at hr
   cases r with
   | ret y=>exact⟨y,rfl⟩
   | load a k=>cases hr
   | store a v k=>cases hr
  obtain⟨y,hy⟩:=hn1
  rw[hy] at hd'
  obtain⟨rfl,hcs,hz⟩:=hd'.FP
  refine⟨rfl,⟨⟨st'.l,st'.s,?_,oZ,oZ,?_⟩,?_,hI',hP' y ?_,hmod'⟩,fun h=>⟨st'.l,?_⟩,?_⟩
  ·rw[hcs,<- hst.cells];exact hrm'.mem
  ·rcases q with _|_|_
   ·have e:st'=st.nV p:=hst1.symm
    have ho:=Ew hat
    have:st'.l=st.l/\st'.s=st.s:=by
     rw[e]
     unfold St.nV St.shut
     rw[if_neg (by simp[hat.over]),ho]
     exact⟨rfl,rfl⟩
    omega
   ·cases hd with
    | load _ _ hd3=>omega
   ·cases hd with
    | store _ _ hd3=>omega
  ·rw[hcs,<- hst.cells];exact hu.2
  ·rw[hst.ans,hy];rfl
  ·rw[<- hks h,hcs,<- hst.cells];exact hrm'.mem
  ·obtain⟨cap,hr2⟩:=hrm'.run
   rw[hst.err,hst.over,hr] at hr2
   exact⟨cap,go',_,_,_,_,hr2⟩
 | false =>
  right
  have hm0:0<m:=by
   rcases hnx with h | h
   ·exact h
   ·rw[h] at hr;cases hr
  refine⟨rfl,⟨⟨(q.next st.cs).1,st',go',m-1,hrm',hst.at_ hr,?_,oZ,oZ,oZ,oZ,oZ,hu.1,hu.2,hgo',fun h=>⟨?_,hks h⟩⟩,hI',hmod'⟩,oZ⟩
  ·rw[hst.cells]
   exact hd'
  ·rw[hst.cells]
   exact(hns h).1.next
end Go.Proofs.YtlfndoclbebdaaaGreatDoor
