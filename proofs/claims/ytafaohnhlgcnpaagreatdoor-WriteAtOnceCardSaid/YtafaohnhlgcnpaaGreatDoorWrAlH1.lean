/-
 What stage 12 rests on.
-/
import Derived.Test.YtafaohnhlgcnpaaGreatDoorWrAlG4
import Derived.Test.YtafaohnhlgcnpaaGreatDoorWrAlG5
import Derived.Test.YtafaohnhlgcnpaaGreatDoorWrAlD1
import Derived.Test.YtafaohnhlgcnpaaGreatDoorWrAlG3
import Derived.Test.YtafaohnhlgcnpaaGreatDoorWrAlG2
import Derived.Maps.OwnSet
set_option maxRecDepth 100000
set_option maxHeartbeats 16000000
namespace Go.Proofs.YtafaohnhlgcnpaaGreatDoor
open Go.RowKit
/-! ### A document's words -/
theorem vC:∀ (l:List (List Nat)) (n:Nat) (x:List Nat×Nat),x∈bW n l->x.1∈l/\n<=x.2/\x.2<n+l.length
 | [],_,_,h=>by simp[bW] at h
 | t :: l,n,x,h=>by
  unfold bW at h;have ih:=vC l (n+1) x;split at h
  ·obtain⟨h1,h2,h3⟩:=ih h;exact⟨by simp[h1],oZ,by simp;omega⟩
  ·rcases List.mem_cons.1 h with rfl | h
   ·exact⟨sZ,sZ,sZ⟩
   ·obtain⟨h1,h2,h3⟩:=ih h;exact⟨by simp[h1],oZ,by simp;omega⟩
theorem uk:∀ (F:List ByteArray) (n:Nat) (x:Tk),x∈iF n F->(n:Int)<=x.1/\x.1<(n:Int)+F.length/\x.2.1.size<=16/\0<=x.2.2/\∃ f∈F,x.2.2<=f.size
 | [],_,_,h=>by simp[iF] at h
 | f :: F,n,x,h=>by
  unfold iF at h;rcases List.mem_append.1 h with h | h
  ·unfold bR at h;obtain⟨y,hy,rfl⟩:=List.mem_map.1 h;obtain⟨h1,h2,h3⟩:=vC _ _ _ hy;have ht:=sN f _ h1;have hl:=ht.len;have:=zf f;refine⟨sZ,by simp;omega,?_,sZ,f,sZ,by simp;omega⟩;show (ay y.1).size<=16;have e:=congrArg List.length (aX y.1 (zT ht));rw[aD] at e;omega
  ·obtain⟨h1,h2,h3,h4,g,hg,h5⟩:=uk F (n+1) x h;refine⟨oZ,by simp;omega,h3,h4,g,by simp[hg],h5⟩
theorem iy {F:List ByteArray} {x:Tk} (h:x∈dz F):0<=x.1/\x.1<=3/\x.2.1.size<=16/\0<=x.2.2/\x.2.2<=512:=by
 unfold dz at h;split at h
 ·simp at h
 ·rename_i hb
  unfold xg E5 at hb;obtain⟨h1,h2,h3,h4,f,hf,h5⟩:=uk F 0 x h;have:f.size<=512:=Nat.le_of_not_lt fun e=>hb (.inl (.inr ⟨f,hf,e⟩));have:F.length<=4:=Nat.le_of_not_lt fun e=>hb (.inl (.inl e));omega
theorem nP (F:List ByteArray):(dz F).length<=64:=by
 unfold dz;split
 ·simp
 ·rename_i hb
  unfold xg at hb;omega
/-! ### What an Add comes to -/
def dA (ts:List TR):Int:=(ts.map fun x=>if x.2.2.1=0 then(1:Int) else 0).sum
def uE (B S:Nat->Int) (x:TR) (j:Nat):Int:=(if x.2.2.1=0/\j=4 then 2+((aF x.1).length:Int) else 0)+dU B S x.2.2.2 (x.2.1:Int) j
def eT (B S:Nat->Int) (ts:List TR) (j:Nat):Int:=(ts.map fun x=>uE B S x j).sum
def gm (cs:List Int) (d:bK) (m:Nat) (l:List Tk):List TR:=(bg l).1.map (mX cs d m (dY l))
def df (B:Nat->Int) (dd:Nat):Int:=B 5+1+4*(dd:Int)
def uC (B:Nat->Int) (x:Sx) (nd:Nat) (fresh:Int) (Us:Nat->Int):Sx:=⟨[(B 5,(nd:Int)+1,false)],x.terms+fresh,u32 (x.bT+1),Us⟩
def zx (B:Nat->Int) (nd:Nat) (id:Int) (n:Nat) (v:Int) (cs:List Int):List Int:=(uK cs (B 5+1) nd id (n:Int) v).set 1 v
inductive lm (B S:Nat->Int) (m dd:Nat) (tt:Int) (nd:Nat) (id:Int) (F:List ByteArray) (cs:List Int) (x:Sx) (d:bK):Int->List Int->Sx->Prop
 | long:iN F≠0->lm B S m dd tt nd id F cs x d (iN F) cs x
 | dup:iN F=0->(bO cs id 0 x.aC).2.2=true->lm B S m dd tt nd id F cs x d 6 cs x
 | Ee:iN F=0->(bO cs id 0 x.aC).2.2=false->dd<=nd->lm B S m dd tt nd id F cs x d 5 cs x
 | terms:iN F=0->(bO cs id 0 x.aC).2.2=false->nd<dd->tt<x.terms+dA (gm cs d m (dz F))->lm B S m dd tt nd id F cs x d 5 cs x
 | full:iN F=0->(bO cs id 0 x.aC).2.2=false->nd<dd->x.terms+dA (gm cs d m (dz F))<=tt->iq x.used (eT B S (gm cs d m (dz F))) S=false->lm B S m dd tt nd id F cs x d 3 cs x
 | ok {cs1:List Int} {Us1:Nat->Int}:iN F=0->(bO cs id 0 x.aC).2.2=false->nd<dd->x.terms+dA (gm cs d m (dz F))<=tt->iq x.used (eT B S (gm cs d m (dz F))) S=true->AC B S (df B dd) m (nd:Int) cs x.used (dz F) cs1 Us1->cs1.length=cs.length->(∀ y∈cs1,U y) ->
   lm B S m dd tt nd id F cs x d 0 (zx B nd id (dz F).length (u32 (x.bT+1)) cs1) (uC B x nd (dA (gm cs d m (dz F))) Us1)
structure WI (B S:Nat->Int) (C:Int) (m dd:Nat) (tt:Int) (nd:Nat) (cs:List Int) (x:Sx) (d:bK):Prop where
 hL:Laid B S C
 room:df B dd+(m:Int)<=C
 hm:m<=512
 hdd:dd<=64
 htt:tt<m
 ws:WS B S C m (df B dd) cs x.used d
 aC:x.aC=[(B 5,(nd:Int),false)]
 nd_:nd<=dd
 terms:x.terms=qo d m
 many:x.terms<=tt
 bT:cs.getD 1 0=x.bT
 born:∀ j:Nat,j<nd->0<bA cs (B 5+1+4*(j:Int))/\bA cs (B 5+1+4*(j:Int))<=x.bT
 rest:∀ j:Nat,nd<=j->j<dd->bA cs (B 5+1+4*(j:Int))=0/\bA cs (B 5+1+4*(j:Int)+3)=0
 tomb:∀ j:Nat,j<nd->bA cs (B 5+1+4*(j:Int)+3)<=x.bT
/-! ### The program's Add -/
def fG (id:Int):List Sg->Pr (Int×Int×Bool)
 | []=>.ret (0,0,false)
 | g :: l=>(iH (bP g) g.2.1 id).bind fun k=>if 0<=k then .ret (bP g,k,true) else fG id l
def jP (s:Int) (m:Nat):List TR->List TR->Pr (List TR)
 | acc,[]=>.ret acc
 | acc,y :: l=>(jf s (m:Int) y.1).bind fun x=>if x.1≠0 then .load x.1 fun t=>jP s m (acc++[(y.1,y.2.1,x.1,t)]) l else jP s m (acc++[(y.1,y.2.1,0,0)]) l
abbrev oM:=Sx×Int
def aJ:Sx:=⟨[],0,0,fun _=>0⟩
def uM (B S:Nat->Int) (m:Nat) (s:Int) (a:Int) (nd:Nat) (id:Int) (l:List Tk) (K:List (List Nat)) (x:Sx) (x':(Nat->Int)->Sx) (ts:List TR):Pr oM :=
 (storeT B S s m x.used ts (l.map (wpOf K (nd:Int)))).bind fun y=>if y.2≠0 then .ret (aJ,y.2) else
  (wT a (nd:Int) id ((l.length:Nat):Int) (u32 (x.bT+1))).bind fun _=>.store 1 (u32 (x.bT+1)) (.ret (x' y.1,0))
def jN (B S:Nat->Int) (m dd:Nat) (tt:Int) (nd:Nat) (id:Int) (F:List ByteArray) (x:Sx):Pr oM :=
 if iN F≠0 then .ret (aJ,iN F) else
 (fG id x.aC).bind fun f=>if f.2.2=true then .ret (aJ,6) else
 (jP (df B dd) m [] ((bg (dz F)).1.map fun k=>(k,dY (dz F) k,0,0))).bind fun ts =>
  if(dd:Int)<=(nd:Int)∨tt<x.terms+dA ts then .ret (aJ,5) else
  if iq x.used (eT B S ts) S=false then .ret (aJ,3) else
  uM B S m (df B dd) (B 5+1) nd id (dz F) (bg (dz F)).1 x (fun Us=>uC B x nd (dA ts) Us) ts
section
variable {B S:Nat->Int} {C:Int} {m dd:Nat} {tt:Int} {nd:Nat} {cs:List Int} {x:Sx} {d:bK}
theorem Bf {A:Int->Prop} (b y:Int):∀ (m d:Nat),dF A (tQ b y m d)
 | 0,_=>trivial
 | m+1,d=>fun v=>by
  show dF A (if v=y then _ else _);split
  ·exact trivial
  ·exact Bf b y m (d+1)
theorem kM {A:Int->Prop} (cs:List Int) (id:Int) (b:Int) (n:Nat) (sealed:Bool) (a:Int) (hb:bP (a,(n:Int),sealed)=b) (h0:0<=b) (hl:b+4*(n:Int)<=cs.length) :
  ∃ q f,q<=n/\dx A (fG id [(a,(n:Int),sealed)]) cs q f cs/\f.2.2=(bO cs id 0 [(a,(n:Int),sealed)]).2.2/\(f.2.2=true->f.1=b/\f.2.1=iU cs b n id/\0<=iU cs b n id):=by
 obtain⟨q,hq,hd⟩:=xL (cs:=cs) (b:=b) (x:=id) h0 n 0 oZ;have hd2:=hd.stores (A:=A) (Bf b id n 0)
 have hp:(bO cs id 0 [(a,(n:Int),sealed)]).2.2=decide (0<=iU cs b n id):=by
  unfold bO;rw[hb];simp only[Int.toNat_natCast];by_cases h:0<=iU cs b n id
  ·rw[if_pos h,decide_eq_true h]
  ·rw[if_neg h,decide_eq_false h];rfl
 rw[hp];unfold fG;by_cases h:0<=iU cs b n id
 ·refine⟨q+0,(b,iU cs b n id,true),oZ,?_,by rw[decide_eq_true h],fun _=>⟨rfl,rfl,h⟩⟩;refine dx.bind (cs1:=cs) (x:=iU cs b n id) ?_ ?_
  ·show dx A (iH (bP (a,(n:Int),sealed)) (n:Int) id) cs q _ cs;rw[hb];exact hd2
  ·rw[if_pos h];show dx A (.ret (bP (a,(n:Int),sealed),_,true)) cs 0 _ cs;rw[hb];exact .ret _ _
 ·refine⟨q+0,(0,0,false),oZ,?_,by rw[decide_eq_false h],fun e=>by cases e⟩;refine dx.bind (cs1:=cs) (x:=iU cs b n id) ?_ ?_
  ·show dx A (iH (bP (a,(n:Int),sealed)) (n:Int) id) cs q _ cs;rw[hb];exact hd2
  ·rw[if_neg h];exact .ret _ _
theorem WS.look {A:Int->Prop} {s:Int} (h:WS B S C m s cs x.used d) (hs:0<=s) (hm:m<=512) (hocc:qo d m<m) (c:List Nat->Nat):∀ (K:List (List Nat)) (acc:List TR),(∀ k∈K,(∀ b∈k,b<256)/\k.length<=17) ->
  ∃ q,q<=3585*K.length/\dx A (jP s m acc (K.map fun k=>(k,c k,0,0))) cs q (acc++K.map (mX cs d m c)) cs
 | [],acc,_=>⟨0,oZ,by show dx A (.ret acc) cs 0 (acc++[]) cs;rw[List.append_nil];exact .ret _ _⟩
 | k :: K,acc,hk=>by
  obtain⟨hkb,hkl⟩:=hk k sZ;have hcl:=bC k;obtain⟨q,a,t,hq,ht,hf,hfs⟩:=sG (k:=k) h.dict hs hkb oZ hocc
  have hq2:q<=3584:=by
   refine Nat.le_trans hq ?_;have:m*(2+(aF k).length)<=512*7:=Nat.mul_le_mul hm oZ;omega
  have hfr:jf s (m:Int) k=fR s m k m 0:=by unfold jf;rw[if_neg (by have:=h.dict.n0;omega),Int.toNat_natCast]
  have hD:=hf.stores (A:=A) (EF s m k m 0);rw[<- hfr] at hD
  have key:∀ (a t:Int),eQ d k m=a->bV cs d k m=t->acc++(k :: K).map (mX cs d m c)=(acc++[(k,c k,a,t)])++K.map (mX cs d m c):=by
   intro a t h1 h2;rw[List.map_cons,List.append_assoc,List.singleton_append,<- h1,<- h2];rfl
  have hlen:=h.len;have hdl:=h.dict.len;have hhis:=h.dict.his;rcases hfs with hdi | ⟨rfl,hdn,hp,hno⟩
  ·obtain⟨r1,r2,r3,r4,r5⟩:=h.dict.rec_ _ a k hdi;have hrec:=h.dict.mg hdi;have hlo:=h.dict.lo0;have htl:bV cs d k m=cs.getD a.toNat 0:=by unfold bV;rw[hrec,if_neg oZ]
   obtain⟨q2,hq3,hd2⟩:=WS.look (A:=A) h hs hm hocc c K (acc++[(k,c k,a,cs.getD a.toNat 0)]) fun k' hk'=>hk k' (by simp[hk']);refine⟨q+(q2+1),by rw[List.length_cons];omega,?_⟩;rw[key a _ hrec htl,List.map_cons];unfold jP;refine hD.bind ?_;show dx A (if a≠0 then _ else _) _ _ _ _;rw[if_pos oZ];exact .load oZ oZ hd2
  ·have hrec:=jd hno m;have htl:bV cs d k m=0:=by unfold bV;rw[if_pos hrec]
   obtain⟨q2,hq3,hd2⟩:=WS.look (A:=A) h hs hm hocc c K (acc++[(k,c k,0,0)]) fun k' hk'=>hk k' (by simp[hk']);refine⟨q+q2,by rw[List.length_cons];omega,?_⟩;rw[key 0 0 hrec htl,List.map_cons];unfold jP;refine hD.bind ?_;show dx A (if(0:Int)≠0 then _ else _) _ _ _ _;rw[if_neg sZ];exact hd2
end
/-! ### What holds of the cells on the way -/
inductive fH {α:Type} (P:List Int->Prop):Pr α->List Int->Nat->α->List Int->Prop
 | ret (x:α) (cs:List Int):P cs->fH P (.ret x) cs 0 x cs
 | load {a:Int} {k:Int->Pr α} {cs cs':List Int} {n:Nat} {x:α}:P cs->0<=a->a<cs.length->fH P (k (cs.getD a.toNat 0)) cs n x cs'->fH P (.load a k) cs (n+1) x cs'
 | store {a v:Int} {k:Pr α} {cs cs':List Int} {n:Nat} {x:α}:P cs->0<=a->a<cs.length->fH P k (cs.set a.toNat (u32 v)) n x cs'->fH P (.store a v k) cs (n+1) x cs'
theorem fH.does {α:Type} {P:List Int->Prop} {p:Pr α} {cs cs':List Int} {n:Nat} {x:α} (h:fH P p cs n x cs'):Does p cs n x cs':=by
 induction h with
 | ret x cs _=>exact .ret _ _
 | load _ h1 h2 _ ih=>exact .load h1 h2 ih
 | store _ h1 h2 _ ih=>exact .store h1 h2 ih
theorem fH.here {α:Type} {P:List Int->Prop} {p:Pr α} {cs cs':List Int} {n:Nat} {x:α} (h:fH P p cs n x cs'):P cs:=by
 cases h <;> assumption
theorem fH.bind {α β:Type} {P:List Int->Prop} {p:Pr α} {f:α->Pr β} {cs cs1 cs2:List Int} {n m:Nat} {x:α} {y:β} (h:fH P p cs n x cs1) (k:fH P (f x) cs1 m y cs2):fH P (p.bind f) cs (n+m) y cs2:=by
 induction h with
 | ret x cs _=>rw[Nat.zero_add];exact k
 | @load a kk cs cs' n x h0 h1 h2 _ ih =>
  rw[Nat.add_right_comm];exact .load h0 h1 h2 (ih k)
 | @store a v kk cs cs' n x h0 h1 h2 _ ih =>
  rw[Nat.add_right_comm];exact .store h0 h1 h2 (ih k)
theorem dx.p {α:Type} {A:Int->Prop} {P:List Int->Prop} {cs0:List Int} (hP:∀ c:List Int,c.length=cs0.length->(∀ q:Nat,¬ A q->c.getD q 0=cs0.getD q 0)->P c) {p:Pr α} {cs cs':List Int} {n:Nat} {x:α} (h:dx A p cs n x cs'):cs.length=cs0.length->(∀ q:Nat,¬ A q->cs.getD q 0=cs0.getD q 0)->fH P p cs n x cs':=by
 induction h with
 | ret x cs=>exact fun h1 h2=>.ret _ _ (hP _ h1 h2)
 | load h1 h2 _ ih=>exact fun h3 h4=>.load (hP _ h3 h4) h1 h2 (ih h3 h4)
 | store h1 h2 h3 _ ih =>
  intro h4 h5;refine .store (hP _ h4 h5) h1 h2 (ih (by rw[List.length_set];exact h4) fun q hq=>?_);rw[fA,if_neg,h5 q hq];rintro⟨e,_⟩;exact hq (by rw[<- e,Int.toNat_of_nonneg h1];exact h3)
/-! ### Rows -/
theorem rM {c cs:List Int} {b v:Int}:∀ (n g d:Nat),(∀ j,d<=j->j<d+n->∀ i:Int,0<=i->i<4->bA c (b+4*(j:Int)+i)=bA cs (b+4*(j:Int)+i))->(0<g->bA c (b+4*((d+n:Nat):Int))=0∨v<bA c (b+4*((d+n:Nat):Int)))->jF c b v (n+g) d=jF cs b v n d
 | 0,0,_,_,_=>rfl
 | 0,g+1,d,_,h=>by
  have:=h oZ;rw[Nat.zero_add];unfold jF;rw[if_pos (by simpa using this)]
 | n+1,g,d,h1,h2=>by
  have ih:=rM (c:=c) (cs:=cs) (b:=b) (v:=v) n g (d+1) (fun j hj hj2=>h1 j oZ oZ) (by rw[show d+1+n=d+(n+1) by omega];exact h2);have e0:=h1 d oZ oZ 0 oZ oZ;have e1:=h1 d oZ oZ 1 oZ oZ;have e2:=h1 d oZ oZ 2 oZ oZ;have e3:=h1 d oZ oZ 3 oZ oZ;rw[Int.add_zero] at e0;rw[show n+1+g=(n+g)+1 by omega];unfold jF;rw[e0,e1,e2,e3,ih]
/-! ### The state -/
theorem xE:∀ (l:List Tk) (P:List (List Nat)×List Nat),(mM l P).1.length<=P.1.length+l.length
 | [],P=>by unfold mM;simp
 | x :: l,P=>by
  have:=xE l (jo P (aM x))
  have h2:(jo P (aM x)).1.length<=P.1.length+1:=by
   unfold jo;split
   ·simp
   ·simp
  show (mM l (jo P (aM x))).1.length<=_;rw[List.length_cons];omega
theorem lV (l:List Tk):(bg l).1.length<=l.length:=by
 have:=xE l ([],[]);rw[show ((([]:List (List Nat)),([]:List Nat))).1.length=0 from rfl,Nat.zero_add] at this;exact this
section
variable {B S:Nat->Int} {C:Int} {m dd:Nat} {tt:Int} {nd:Nat} {cs:List Int} {x:Sx} {d:bK}
theorem WS.away {s:Int} {Us:Nat->Int} {cs':List Int} (hL:Laid B S C) (h:WS B S C m s cs Us d) (hl:cs'.length=cs.length) (hu:∀ y∈cs',U y) (hag:∀ p:Nat,3<=p->((p:Int)<B 5∨(s<=p/\(p:Int)<s+m))->cs'.getD p 0=cs.getD p 0):WS B S C m s cs' Us d:=by
 have hb:=hL.bases;have hu4:=h.used 4 oZ;refine⟨by rw[hl];exact h.len,hu,?_,h.key17,h.used,h.slabs,fun p h1 h2=>?_,fun i a k hi=>?_,h.sep⟩
 ·refine h.dict.turn hl (fun i hi=>?_) fun i a k hi p h1 h2=>?_
  ·have:=h.dict.his;exact hag _ oZ (.inr ⟨oZ,oZ⟩)
  ·obtain⟨r1,r2,_⟩:=h.dict.rec_ i a k hi;exact hag p oZ (.inl oZ)
 ·rw[hag p oZ (.inl h2)];exact h.book0 p h1 h2
 ·obtain⟨r1,r2,_⟩:=h.dict.rec_ i a k hi;rw[hag _ oZ (.inl oZ)];exact h.tail i a k hi
theorem qz {f:List Nat->Int} {g:TR->Int} {c:List Nat->Nat}:∀ K:List (List Nat),(∀ k∈K,g (mX cs d m c k)=f k)->((K.map (mX cs d m c)).map g).sum=jU K f
 | [],_=>rfl
 | k :: K,h=>by
  rw[List.map_cons,List.map_cons,List.sum_cons,jc,h k sZ,qz K fun k' hk'=>h k' (by simp[hk'])]
theorem xU (l:List Tk):dA (gm cs d m l)=jU (bg l).1 (ib d m l):=by
 unfold dA gm;refine qz _ fun k hk=>?_;have:0<dY l k:=List.count_pos_iff.2 (((gU l).mem k).1 hk);unfold ib;show (if eQ d k m=0 then(1:Int) else 0)=_;by_cases e:eQ d k m=0
 ·rw[if_pos e,if_pos ⟨e,this⟩]
 ·rw[if_neg e,if_neg (fun h=>e h.1)]
theorem JX {s:Int} (h:WS B S C m s cs x.used d) (l:List Tk) (j:Nat):eT B S (gm cs d m l) j=jU (bg l).1 (iJ B S cs d m l j):=by
 unfold eT gm;refine qz (g:=fun x=>uE B S x j) _ fun k hk=>?_;have:0<dY l k:=List.count_pos_iff.2 (((gU l).mem k).1 hk);unfold iJ rT uE dU;show (if eQ d k m=0/\j=4 then _ else _)+(if bG B S (bV cs d k m) then dX (dY l k:Int).toNat _ _ j else 0)=_;rw[if_pos (h.vG k),Int.toNat_natCast];show (if eQ d k m=0/\j=4 then 2+((aF k).length:Int) else 0)+dX (dY l k) (bY B S (bV cs d k m)) (bI B S (bV cs d k m)) j=_;by_cases e:eQ d k m=0/\j=4
 ·rw[if_pos e,if_pos ⟨e.1,oZ,e.2⟩];omega
 ·rw[if_neg e,if_neg (fun h=>e ⟨h.1,h.2.2⟩)];omega
theorem pU {U M S:Nat->Int} (h:iq U M S=true):∀ j,j<6->0<=U j/\U j<=S j/\0<=M j/\M j<=S j-U j:=fun j hj=>oH.1 (List.all_eq_true.1 h j (List.mem_range.2 hj))
theorem WI.Ii (F:List ByteArray) (hnd:nd<=64):rV (bg (dz F)).1 (nd:Int) (dz F):=by
 have hw:∀ tk∈dz F,J6 (nd:Int) tk.2.2:=fun tk htk=>by
  have:=iy htk;unfold J6;omega
 refine⟨fun tk htk=>((gU _).mem _).2 (List.mem_map.2 ⟨tk,htk,rfl⟩),fun tk htk=>?_,fun tk htk=>(iy htk).2.2.1,fun tk htk=>(Ai (hw tk htk)).2,fun tk htk=>?_⟩
 ·have:=iy htk;omega
 ·have:=iy htk;rw[(Ai (hw tk htk)).1];unfold U;omega
def uB (B:Nat->Int) (dd nd:Nat) (cs:List Int) (x:Sx) (cs':List Int) (c:List Int):Prop :=
 c.length=cs.length/\((c.getD 1 0=x.bT/\jR c (B 5+1) dd x.bT=jR cs (B 5+1) nd x.bT)∨c=cs')
theorem WI.bounds (h:WI B S C m dd tt nd cs x d):3<=B 5/\df B dd+(m:Int)<=cs.length/\(cs.length:Int)=C/\C<=65536/\0<=x.terms/\(cs.getD 1 0=x.bT)/\0<=x.bT/\x.bT<=4294967295:=by
 have hb:=h.hL.bases;have hl:=h.ws.len;have hr:=h.room;have hv:=h.bT;have hu:=h.ws.cu;have ht:=h.terms;have hsl:df B dd=B 5+1+4*(dd:Int):=rfl
 have:U (cs.getD 1 0):=by
  rw[List.getD_eq_getElem?_getD,gZ oZ];exact hu _ (List.getElem_mem _)
 unfold U at this;omega
theorem WI.xz (h:WI B S C m dd tt nd cs x d) (v:Int):jR cs (B 5+1) dd v=jR cs (B 5+1) nd v:=by
 have hnd:=h.nd_;have:=rM (c:=cs) (cs:=cs) (b:=B 5+1) (v:=v) nd (dd-nd) 0 (fun _ _ _ _ _ _=>rfl) (fun hg=>.inl (by rw[Nat.zero_add];exact(h.rest nd oZ oZ).1));rw[show nd+(dd-nd)=dd by omega] at this;exact this
end
/-! ### What is left, behind a program of its own -/
theorem Rest.bind {α β:Type} {p:Pr α} {q:Pr β} {f:β->Pr α} {st0 st:St} {Bd:Nat} (h:Rest p (q.bind f) st0 st) (hf:st.dO Bd) {k:β} (hk:∀ x,(q.on st).1=some x->x=k):Rest p (f k) st0 (q.on st).2:=by
 rcases h with ⟨h1,h2⟩ | h
 ·rw[sW q hf.good h1];exact .inl ⟨h1,h2⟩
 ·rw[uQ] at h;cases e:(q.on st).1 with
  | none =>
   rw[e] at h;exact .inl ⟨oJ q st e,h.symm⟩
  | some x =>
   rw[e] at h;simp only at h;rw[hk x e] at h;exact .inr h
/-! ### A run that turns blocks beside its own -/
structure ik (S:Nat->Prop) (W:World) (rb mb cb:Nat) (go0:Option Nat) (st:St) (go:Option Nat) (w:World):Prop where
 old:rb<W.heap.size/\mb<W.heap.size/\cb<W.heap.size
 own:∀ k,S k->¬ fD rb mb cb go0 k/\k<W.heap.size
 rm:RM w rb mb cb go true st
 adv:lh S rb mb cb W go0 w go
section
variable {S:Nat->Prop} {W w w':World} {rb mb cb:Nat} {go0 go go':Option Nat} {st st':St}
theorem lh.of_below {S:Nat->Prop} {rb mb cb:Nat} {w w':World} {go:Option Nat} (h:Below w.heap.size w w'):lh S rb mb cb w go w' go:=(jl.of_below h).JM S
theorem ik.start (h:RM W rb mb cb go true st) (hS:∀ k,S k->¬ fD rb mb cb go k/\k<W.heap.size):ik S W rb mb cb go st go W:=⟨⟨h.lt rb (.inl rfl),h.lt mb (.inr (.inr (.inl rfl))),h.lt cb (.inr (.inr (.inr rfl)))⟩,hS,h,lh.of_below (Below.refl _ _)⟩
theorem ik.below (h:ik S W rb mb cb go0 st go w) (hb:Below w.heap.size w w'):ik S W rb mb cb go0 st go w':=⟨h.old,h.own,h.rm.below hb,h.adv.trans (lh.of_below hb)⟩
theorem ik.access (h:ik S W rb mb cb go0 st go w) (hr:RM w' rb mb cb go' true st') (ha:jl rb mb cb w go w' go'):ik S W rb mb cb go0 st' go' w':=⟨h.old,h.own,hr,h.adv.trans (ha.JM S)⟩
theorem ik.call (h:ik S W rb mb cb go0 st go w) (hr:RM w' rb mb cb go' true st') (ha:lh S rb mb cb w go w' go'):ik S W rb mb cb go0 st' go' w':=⟨h.old,h.own,hr,h.adv.trans ha⟩
theorem ik.size (h:ik S W rb mb cb go0 st go w):W.heap.size<=w.heap.size:=h.adv.mod.size
theorem ik.mine (h:ik S W rb mb cb go0 st go w) {k:Nat} (hk:S k):¬ fD rb mb cb go k:=h.adv.apart (h.own k hk).2 (h.own k hk).1
theorem ik.far (h:ik S W rb mb cb go0 st go w) {k:Nat} {c:Array Value} {t:TypeId} (hk:w.heap[k]?=some (.cells c t (0,0))) (hW:W.heap.size<=k) (ht:t≠32):¬ fD rb mb cb go k:=by
 obtain⟨o1,o2,o3⟩:=h.old;rintro(e | e | e | e)
 ·omega
 ·obtain⟨cap,hr⟩:=h.rm.run;have hl:=hr.row;rw[e] at hl;obtain⟨cur,h4,_⟩:=hl;rw[h4] at hk;injection hk with hk
  injection hk with _ h5
  exact ht h5.symm
 ·omega
 ·omega
theorem ik.stays (h:ik S W rb mb cb go0 st go w) (ha:jl rb mb cb w go w' go') {k:Nat} {c:Array Value} {t:TypeId} (hk:w.heap[k]?=some (.cells c t (0,0))) (hW:S k∨W.heap.size<=k) (ht:t≠32):w'.heap[k]?=some (.cells c t (0,0)):=by
 refine(ha.mod.block k (lt_of_heap hk) ?_).trans hk;rcases hW with e | e
 ·exact h.mine e
 ·exact h.far hk e ht
theorem ik.turn (h:ik S W rb mb cb go0 st go w) {k:Nat} {c:Array Value} {t:TypeId} (hk:w.heap[k]?=some (.cells c t (0,0))) (hW:S k∨W.heap.size<=k) (ht:t≠32) (hm:bB (fun j=>j=k) w w'):ik S W rb mb cb go0 st go w':=by
 have hf:¬ fD rb mb cb go k:=by
  rcases hW with e | e
  ·exact h.mine e
  ·exact h.far hk e ht
 refine⟨h.old,h.own,h.rm.mod hm fun j hj e=>by subst e;exact hf hj,h.adv.grows,h.adv.mod.then hm fun i hi e=>?_⟩;subst e;rcases hW with e | e
 ·exact .inl e
 ·omega
end
/-! ### Terms in memory -/
def LJ (x:TR):List Value:=[.string (ay x.1),.int .i64 x.2.1,.int .i64 x.2.2.1,.int .i64 x.2.2.2]
def jL (l:List TR):List Value:=l.flatMap LJ
theorem BK (a b:List TR):jL (a++b)=jL a++jL b:=List.flatMap_append
theorem A8:∀ (l:List TR) (j:Nat) (x:TR),l[j]?=some x->(jL l)[j*4]?=some (.string (ay x.1))/\(jL l)[j*4+1]?=some (.int .i64 x.2.1)/\(jL l)[j*4+2]?=some (.int .i64 x.2.2.1)/\(jL l)[j*4+3]?=some (.int .i64 x.2.2.2)
 | [],j,x,h=>by simp at h
 | y :: l,0,x,h=>by
  simp at h;subst h;exact⟨rfl,rfl,rfl,rfl⟩
 | y :: l,j+1,x,h=>by
  have:=A8 l j x (by simpa using h);have e:jL (y :: l)=LJ y++jL l:=rfl;rw[e,show (j+1)*4=(LJ y).length+j*4 by simp[LJ];omega];refine⟨?_,?_,?_,?_⟩
  ·rw[List.getElem?_append_right oZ,Nat.add_sub_cancel_left];exact this.1
  ·rw[Nat.add_assoc,List.getElem?_append_right oZ,Nat.add_sub_cancel_left];exact this.2.1
  ·rw[Nat.add_assoc,List.getElem?_append_right oZ,Nat.add_sub_cancel_left];exact this.2.2.1
  ·rw[Nat.add_assoc,List.getElem?_append_right oZ,Nat.add_sub_cancel_left];exact this.2.2.2
theorem qQ:∀ (l:List TR) (j:Nat) (x:TR),l[j]?=some x->(∀ c:Nat,(jL l).set (j*4+1) (.int .i64 c)=jL (l.set j (x.1,c,x.2.2.1,x.2.2.2)))/\(∀ a:Int,(jL l).set (j*4+2) (.int .i64 a)=jL (l.set j (x.1,x.2.1,a,x.2.2.2)))/\∀ t:Int,(jL l).set (j*4+3) (.int .i64 t)=jL (l.set j (x.1,x.2.1,x.2.2.1,t))
 | [],j,x,h=>by simp at h
 | y :: l,0,x,h=>by
  simp at h;subst h;exact⟨fun _=>rfl,fun _=>rfl,fun _=>rfl⟩
 | y :: l,j+1,x,h=>by
  have:=qQ l j x (by simpa using h);have e:∀ l',jL (y :: l')=LJ y++jL l':=fun _=>rfl;rw[e,show (j+1)*4=(LJ y).length+j*4 by simp[LJ];omega];refine⟨fun c=>?_,fun a=>?_,fun t=>?_⟩
  ·rw[List.set_cons_succ,e,<- this.1,Nat.add_assoc,List.set_append_right _ _ oZ,Nat.add_sub_cancel_left]
  ·rw[List.set_cons_succ,e,<- this.2.1,Nat.add_assoc,List.set_append_right _ _ oZ,Nat.add_sub_cancel_left]
  ·rw[List.set_cons_succ,e,<- this.2.2,Nat.add_assoc,List.set_append_right _ _ oZ,Nat.add_sub_cancel_left]
def dR (w:World) (base:Nat) (v:Value) (l:List TR):Prop:=w.ownsRow base 223 4 v l.length (jL l)
section
variable {w w':World} {base g n cap i:Nat} {l:List TR} {x:TR}
theorem dR.cells (h:dR w base (.slice (some ⟨g,0,none⟩) n cap) l) (hi:l[i]?=some x):w.cell? ⟨g,i*4,none⟩=some (.string (ay x.1))/\w.cell? ⟨g,i*4+1,none⟩=some (.int .i64 x.2.1)/\w.cell? ⟨g,i*4+2,none⟩=some (.int .i64 x.2.2.1)/\w.cell? ⟨g,i*4+3,none⟩=some (.int .i64 x.2.2.2)/\(∀ o,w.frozen? ⟨g,o,none⟩=false)/\n=l.length/\i<n/\w.heap[g]?.isSome=true:=by
 have hlt:=(eZ.1 hi).1;have hg:=A8 l i x hi;obtain⟨h0,⟨h1,h2⟩ | ⟨g',cap',cur,k1,k2,k3,k4,k5,k6,k7⟩⟩:=h
 ·cases h1
 ·cases k1
  have hc:∀ (j:Nat) (v:Value),(jL l)[j]?=some v->w.cell? ⟨g,j,none⟩=some v:=by
   intro j v hj;rw[<- k7,List.getElem?_take] at hj;split at hj
   ·rw[aa k3 j];simpa using hj
   ·cases hj
  exact⟨hc _ _ hg.1,hc _ _ hg.2.1,hc _ _ hg.2.2.1,hc _ _ hg.2.2.2,fun o=>free_at k3 o,rfl,hlt,by rw[k3];rfl⟩
theorem dR.heap (h:dR w base (.slice (some ⟨g,0,none⟩) n cap) l):∃ cur,w.heap[g]?=some (.cells cur 223 (0,0)):=by
 obtain⟨h0,⟨h1,h2⟩ | ⟨g',cap',cur,k1,k2,k3,_⟩⟩:=h
 ·cases h1
 ·cases k1;exact⟨cur,k3⟩
theorem dR.zI (h:dR w base (.slice (some ⟨g,0,none⟩) n cap) l) (hi:l[i]?=some x) (a:Int):dR (w.setCell ⟨g,i*4+2,none⟩ (.int .i64 a)) base (.slice (some ⟨g,0,none⟩) n cap) (l.set i (x.1,x.2.1,a,x.2.2.2)):=by
 have hlt:=(eZ.1 hi).1;have hn:=(h.cells hi).2.2.2.2.2.1;subst hn;have h2:w.ownsRow base 223 4 (.slice (some ⟨g,0,none⟩) l.length cap) l.length (jL l):=h;have:=(qO h2 (i:=i*4+2) oZ (.int .i64 a)).2.2;rw[(qQ l i x hi).2.1] at this;unfold dR;rw[List.length_set];exact this
theorem dR.setTail (h:dR w base (.slice (some ⟨g,0,none⟩) n cap) l) (hi:l[i]?=some x) (a:Int):dR (w.setCell ⟨g,i*4+3,none⟩ (.int .i64 a)) base (.slice (some ⟨g,0,none⟩) n cap) (l.set i (x.1,x.2.1,x.2.2.1,a)):=by
 have hlt:=(eZ.1 hi).1;have hn:=(h.cells hi).2.2.2.2.2.1;subst hn;have h2:w.ownsRow base 223 4 (.slice (some ⟨g,0,none⟩) l.length cap) l.length (jL l):=h;have:=(qO h2 (i:=i*4+3) oZ (.int .i64 a)).2.2;rw[(qQ l i x hi).2.2] at this;unfold dR;rw[List.length_set];exact this
theorem dR.Jp (h:dR w base (.slice (some ⟨g,0,none⟩) n cap) l) (hi:l[i]?=some x) (a:Nat):dR (w.setCell ⟨g,i*4+1,none⟩ (.int .i64 a)) base (.slice (some ⟨g,0,none⟩) n cap) (l.set i (x.1,a,x.2.2.1,x.2.2.2)):=by
 have hlt:=(eZ.1 hi).1;have hn:=(h.cells hi).2.2.2.2.2.1;subst hn;have h2:w.ownsRow base 223 4 (.slice (some ⟨g,0,none⟩) l.length cap) l.length (jL l):=h;have:=(qO h2 (i:=i*4+1) oZ (.int .i64 a)).2.2;rw[(qQ l i x hi).1] at this;unfold dR;rw[List.length_set];exact this
theorem dR.of_block (h:dR w base (.slice (some ⟨g,0,none⟩) n cap) l) (hb:w'.heap[g]?=w.heap[g]?):dR w' base (.slice (some ⟨g,0,none⟩) n cap) l:=by
 obtain⟨h0,⟨h1,h2⟩ | ⟨g',cap',cur,k1,k2,k3,k4⟩⟩:=h
 ·cases h1
 ·cases k1;exact⟨h0,.inr ⟨g,cap,cur,rfl,k2,hb.trans k3,k4⟩⟩
end
/-! ### A document on its way -/
def lC (rb:Nat) (B S:Nat->Int) (C T L sl:Int) (Us:Nat->Int) (vt vw:Value):Array Value:=#[.pointer (some ⟨rb,0,none⟩),.int .i64 (B 0),.int .i64 (B 1),.int .i64 (B 2),.int .i64 (B 3),.int .i64 (B 4),.int .i64 (B 5),.int .i64 (S 0),.int .i64 (S 1),.int .i64 (S 2),.int .i64 (S 3),.int .i64 (S 4),.int .i64 (S 5),.int .i64 C,.int .i64 T,.int .i64 L,.int .i64 sl,.int .i64 (Us 0),.int .i64 (Us 1),.int .i64 (Us 2),.int .i64 (Us 3),.int .i64 (Us 4),.int .i64 (Us 5),vt,vw]
theorem kF (rb:Nat) (B S:Nat->Int) (C T L sl:Int) (Us:Nat->Int) (vt vw:Value):∀ (j:Nat) (v:Value),(ae B S C T L).toList[j]?=some v->(lC rb B S C T L sl Us vt vw)[1+j]?=some v:=by
 intro j v hj;rcases j with _|_|_|_|_|_|_|_|_|_|_|_|_|_|_|j
 all_goals first | (simp[ae] at hj;done) | (simpa [ae,lC] using hj)
theorem oI (rb:Nat) (B S:Nat->Int) (C T L sl:Int) (Us:Nat->Int) (vt vw:Value):∀ (j:Nat) (v:Value),(six Us).toList[j]?=some v->(lC rb B S C T L sl Us vt vw)[17+j]?=some v:=by
 intro j v hj;rcases j with _|_|_|_|_|_|j
 all_goals first | (simp[six] at hj;done) | (simpa [six,lC] using hj)
structure WF (S0:Nat->Prop) (W:World) (rb mb cb:Nat) (go0:Option Nat) (g gt:Nat) (B S:Nat->Int) (C T L sl:Int) (Us:Nat->Int) (n cap:Nat) (vw:Value) (ts:List TR) (st:St) (go:Option Nat) (w:World):Prop where
 run:ik S0 W rb mb cb go0 st go w
 ad:w.heap[g]?=some (.cells (lC rb B S C T L sl Us (.slice (some ⟨gt,0,none⟩) n cap) vw) 176 (0,0))
 tr:dR w 0 (.slice (some ⟨gt,0,none⟩) n cap) ts
 mine:S0 g/\S0 gt
section
variable {S0:Nat->Prop} {W w w':World} {rb mb cb:Nat} {go0 go go':Option Nat} {g gt:Nat} {B S:Nat->Int} {C T L sl:Int} {Us:Nat->Int} {n cap:Nat} {vw:Value} {ts:List TR} {st st':St}
theorem WF.below (h:WF S0 W rb mb cb go0 g gt B S C T L sl Us n cap vw ts st go w) (hb:Below w.heap.size w w'):WF S0 W rb mb cb go0 g gt B S C T L sl Us n cap vw ts st go w':=by
 obtain⟨cur,hc⟩:=h.tr.heap;exact⟨h.run.below hb,(hb.block _ (lt_of_heap h.ad)).trans h.ad,h.tr.of_block (hb.block _ (lt_of_heap hc)),h.mine⟩
theorem WF.access (h:WF S0 W rb mb cb go0 g gt B S C T L sl Us n cap vw ts st go w) (hr:RM w' rb mb cb go' true st') (ha:jl rb mb cb w go w' go'):WF S0 W rb mb cb go0 g gt B S C T L sl Us n cap vw ts st' go' w':=by
 obtain⟨cur,hc⟩:=h.tr.heap;exact⟨h.run.access hr ha,h.run.stays ha h.ad (.inl h.mine.1) dZ,h.tr.of_block ((h.run.stays ha hc (.inl h.mine.2) dZ).trans hc.symm),h.mine⟩
theorem WF.ne (h:WF S0 W rb mb cb go0 g gt B S C T L sl Us n cap vw ts st go w):g≠gt:=by
 rintro rfl;obtain⟨cur,hc⟩:=h.tr.heap;have:=h.ad.symm.trans hc;injection this with h1
 injection h1 with _ h2
 exact absurd h2 dZ
theorem WF.zI (h:WF S0 W rb mb cb go0 g gt B S C T L sl Us n cap vw ts st go w) {i:Nat} {x:TR} (hi:ts[i]?=some x) (a:Int):WF S0 W rb mb cb go0 g gt B S C T L sl Us n cap vw (ts.set i (x.1,x.2.1,a,x.2.2.2)) st go (w.setCell ⟨gt,i*4+2,none⟩ (.int .i64 a)):=by
 obtain⟨cur,hc⟩:=h.tr.heap;exact⟨h.run.turn hc (.inl h.mine.2) dZ (bB.setCell (S:=fun j=>j=gt) (bB.refl _ _) (.inr rfl) _),(Below.heap_setCell _ _ _ _ h.ne).trans h.ad,h.tr.zI hi a,h.mine⟩
theorem WF.setTail (h:WF S0 W rb mb cb go0 g gt B S C T L sl Us n cap vw ts st go w) {i:Nat} {x:TR} (hi:ts[i]?=some x) (a:Int):WF S0 W rb mb cb go0 g gt B S C T L sl Us n cap vw (ts.set i (x.1,x.2.1,x.2.2.1,a)) st go (w.setCell ⟨gt,i*4+3,none⟩ (.int .i64 a)):=by
 obtain⟨cur,hc⟩:=h.tr.heap;exact⟨h.run.turn hc (.inl h.mine.2) dZ (bB.setCell (S:=fun j=>j=gt) (bB.refl _ _) (.inr rfl) _),(Below.heap_setCell _ _ _ _ h.ne).trans h.ad,h.tr.setTail hi a,h.mine⟩
theorem WF.zH (h:WF S0 W rb mb cb go0 g gt B S C T L sl Us n cap vw ts st go w) (V:Nat->Int):WF S0 W rb mb cb go0 g gt B S C T L sl V n cap vw ts st go (w.setRow g (lC rb B S C T L sl V (.slice (some ⟨gt,0,none⟩) n cap) vw)):=by
 obtain⟨cur,hc⟩:=h.tr.heap;exact⟨h.run.turn h.ad (.inl h.mine.1) dZ (bB.setRow (S:=fun j=>j=g) (bB.refl _ _) (.inr rfl) _),setRow_heap _ _ _ _ _ _ h.ad,h.tr.of_block (qZ _ _ _ _ (Ne.symm h.ne)),h.mine⟩
theorem WF.turn (h:WF S0 W rb mb cb go0 g gt B S C T L sl Us n cap vw ts st go w) {k:Nat} {c:Array Value} {t:TypeId} (hk:w.heap[k]?=some (.cells c t (0,0))) (hW:W.heap.size<=k) (ht:t≠32) (hm:bB (fun j=>j=k) w w'):WF S0 W rb mb cb go0 g gt B S C T L sl Us n cap vw ts st go w':=by
 obtain⟨cur,hc⟩:=h.tr.heap;have h1:=(h.run.own _ h.mine.1).2;have h2:=(h.run.own _ h.mine.2).2;exact⟨h.run.turn hk (.inr hW) ht hm,(hm.block g (lt_of_heap h.ad) oZ).trans h.ad,h.tr.of_block (hm.block gt (lt_of_heap hc) oZ),h.mine⟩
end
section
variable {B S:Nat->Int} {C:Int} {m dd:Nat} {tt:Int} {nd:Nat} {cs:List Int} {x:Sx} {d:bK}
theorem eX (cs:List Int) (p:Nat):bA cs (p:Int)=cs.getD p 0:=by unfold bA;rw[Int.toNat_natCast]
theorem ym {c cs0:List Int} (h:∀ q:Nat,¬ AZ B (df B dd) m q->c.getD q 0=cs0.getD q 0):c.getD 1 0=cs0.getD 1 0/\∀ a:Int,B 5<=a->a<df B dd->bA c a=bA cs0 a:=by
 refine⟨h 1 (by unfold AZ;omega),fun a h1 h2=>?_⟩;unfold bA;refine h _ ?_;unfold AZ;omega
theorem WI.still (h:WI B S C m dd tt nd cs x d) {c cs':List Int} (hl:c.length=cs.length) (h1:c.getD 1 0=x.bT) (h2:∀ j,j<nd->∀ i:Int,0<=i->i<4->bA c (B 5+1+4*(j:Int)+i)=bA cs (B 5+1+4*(j:Int)+i)) (h3:nd<dd->bA c (B 5+1+4*(nd:Int))=0∨x.bT<bA c (B 5+1+4*(nd:Int))):uB B dd nd cs x cs' c:=by
 refine⟨hl,.inl ⟨h1,?_⟩⟩;have hnd:=h.nd_;have:=rM (c:=c) (cs:=cs) (b:=B 5+1) (v:=x.bT) nd (dd-nd) 0 (fun j _ hj i h4 h5=>h2 j oZ i h4 h5) (fun hg=>by rw[Nat.zero_add];exact h3 oZ);rw[show nd+(dd-nd)=dd by omega] at this;exact this
theorem WI.here (h:WI B S C m dd tt nd cs x d) (cs':List Int):uB B dd nd cs x cs' cs :=
 h.still rfl h.bT (fun _ _ _ _ _=>rfl) fun hn=>.inl (h.rest nd (Nat.le_refl _) hn).1
structure kL (B S:Nat->Int) (C:Int) (m dd:Nat) (tt:Int) (nd:Nat) (id:Int) (F:List ByteArray) (cs:List Int) (x:Sx) (d:bK) (e:Int) (cs':List Int) (x':Sx) (nd':Nat) (d':bK):Prop where
 out:lm B S m dd tt nd id F cs x d e cs' x'
 inv:WI B S C m dd tt nd' cs' x' d'
 len:cs'.length=cs.length
 bT:(e≠0/\cs'=cs/\x'=x/\nd'=nd)∨(e=0/\x'.bT=x.bT+1/\nd'=nd+1)
 rows:e=0->bA cs' (B 5+1+4*(nd:Int)+1)=id/\bA cs' (B 5+1+4*(nd:Int)+3)=0/\∀ (j:Nat) (i:Int),j<nd->0<=i->i<4->bA cs' (B 5+1+4*(j:Int)+i)=bA cs (B 5+1+4*(j:Int)+i)
 prog:∃ q y,q<=500000/\fH (uB B dd nd cs x cs') (jN B S m dd tt nd id F x) cs q y cs'/\y.2=e/\(e=0->y.1=x')
theorem WI.add (h:WI B S C m dd tt nd cs x d) (id:Int) (F:List ByteArray) (hid:U id) (hver:x.bT+1<=4294967295):∃ e cs' x' nd' d',kL B S C m dd tt nd id F cs x d e cs' x' nd' d':=by
 obtain⟨b1,b2,b3,b4,b5,b6,b7,b8⟩:=h.bounds;have hsl:df B dd=B 5+1+4*(dd:Int):=rfl;have hhere:=h.here cs;have hdd:=h.hdd;have hnd:=h.nd_;have hm:=h.hm;have hocc:qo d m<m:=by have:=h.terms;have:=h.many;have:=h.htt;omega
 by_cases hE:iN F≠0
 ·refine⟨iN F,cs,x,nd,d,.long hE,h,rfl,.inl ⟨hE,rfl,rfl,rfl⟩,(fun e=>absurd e hE),0,(aJ,iN F),oZ,?_,rfl,fun e=>absurd e hE⟩;unfold jN;rw[if_pos hE];exact .ret _ _ hhere
 have hE0:iN F=0:=Decidable.of_not_not hE;obtain⟨q1,f,hq1,hf1,hf2,_⟩:=kM (A:=fun _=>False) cs id (B 5+1) nd false (B 5) rfl oZ oZ;rw[<- h.aC] at hf1 hf2
 have toP:∀ {α:Type} {p:Pr α} {n:Nat} {y:α} {cs':List Int},dx (fun _=>False) p cs n y cs->fH (uB B dd nd cs x cs') p cs n y cs:=fun {α p n y cs'} hd=>hd.p (cs0:=cs) (fun c h1 h2=>by
  have:c=cs:=List.ext_getElem? fun j=>by
   have e:=h2 j (fun x=>x);rw[List.getD_eq_getElem?_getD,List.getD_eq_getElem?_getD] at e;by_cases hj:j<c.length
   ·rw[gZ hj,gZ oZ] at e ⊢;simpa using e
   ·rw[List.getElem?_eq_none oZ,List.getElem?_eq_none oZ]
  rw[this];exact h.here cs') rfl fun _ _=>rfl
 cases hpl:(bO cs id 0 x.aC).2.2 with
 | true =>
  refine⟨6,cs,x,nd,d,.dup hE0 hpl,h,rfl,.inl ⟨oZ,rfl,rfl,rfl⟩,(fun e=>absurd e dZ),q1+0,(aJ,6),oZ,?_,rfl,fun e=>oZ⟩;unfold jN;rw[if_neg hE];refine(toP hf1).bind ?_;rw[hf2,hpl,if_pos rfl];exact .ret _ _ hhere
 | false =>
  rw[hpl] at hf2
  have hKb:∀ k∈(bg (dz F)).1,(∀ b∈k,b<256)/\k.length<=17:=by
   intro k hk;obtain⟨tk,htk,rfl⟩:=List.mem_map.1 (((gU (dz F)).mem k).1 hk);have:=iy htk;refine⟨iE oZ oZ,?_⟩;unfold aM;rw[List.length_cons,aD];omega
  have hlen64:=nP F;have hKl:=lV (dz F);obtain⟨q2,hq2,hl2⟩:=WS.look (A:=fun _=>False) h.ws oZ hm hocc (dY (dz F)) (bg (dz F)).1 [] hKb;rw[List.nil_append,show (bg (dz F)).1.map (mX cs d m (dY (dz F)))=gm cs d m (dz F) from rfl] at hl2;by_cases hdocs:dd<=nd
  ·refine⟨5,cs,x,nd,d,.Ee hE0 hpl hdocs,h,rfl,.inl ⟨oZ,rfl,rfl,rfl⟩,(fun e=>absurd e dZ),q1+(q2+0),(aJ,5),oZ,?_,rfl,fun e=>oZ⟩;unfold jN;rw[if_neg hE];refine(toP hf1).bind ?_;rw[hf2,if_neg dZ];refine(toP hl2).bind ?_;rw[if_pos (.inl oZ)];exact .ret _ _ hhere
  by_cases hterms:tt<x.terms+dA (gm cs d m (dz F))
  ·refine⟨5,cs,x,nd,d,.terms hE0 hpl oZ hterms,h,rfl,.inl ⟨oZ,rfl,rfl,rfl⟩,(fun e=>absurd e dZ),q1+(q2+0),(aJ,5),oZ,?_,rfl,fun e=>oZ⟩;unfold jN;rw[if_neg hE];refine(toP hf1).bind ?_;rw[hf2,if_neg dZ];refine(toP hl2).bind ?_;rw[if_pos (.inr hterms)];exact .ret _ _ hhere
  cases hfits:iq x.used (eT B S (gm cs d m (dz F))) S with
  | false =>
   refine⟨3,cs,x,nd,d,.full hE0 hpl oZ oZ hfits,h,rfl,.inl ⟨oZ,rfl,rfl,rfl⟩,(fun e=>absurd e dZ),q1+(q2+0),(aJ,3),oZ,?_,rfl,fun e=>oZ⟩;unfold jN;rw[if_neg hE];refine(toP hf1).bind ?_;rw[hf2,if_neg dZ];refine(toP hl2).bind ?_;rw[if_neg oZ,if_pos hfits];exact .ret _ _ hhere
  | true =>
   have hfe:=pU hfits;have hkq:=gU (dz F);have hterm:=h.terms;obtain⟨cs1,Us1,d1,hall⟩:=WS.words (S:=S) h.hL oZ b4 hm hkq.nd (doc:=(nd:Int)) h.htt (dY (dz F)) (dz F) cs x.used d h.ws (WI.Ii F oZ) (fun j hj=>by rw[<- JX h.ws];have:=hfe j hj;omega) (by rw[<- xU (cs:=cs)];omega);obtain⟨v,hv⟩:∃ v,v=x.bT+1:=⟨_,rfl⟩;have huv:u32 (x.bT+1)=v:=by rw[<- hv];exact u32_in ⟨oZ,oZ⟩
   obtain⟨fr,hfr⟩:∃ fr,fr=dA (gm cs d m (dz F)):=⟨_,rfl⟩;obtain⟨n,hn⟩:∃ n,n=(dz F).length:=⟨_,rfl⟩;obtain⟨cs',hcs'⟩:∃ cs',cs'=zx B nd id n v cs1:=⟨_,rfl⟩;have hl1:=hall.len;obtain⟨r1,r2⟩:=ym (dd:=dd) (m:=m) (c:=cs1) (cs0:=cs) (B:=B) (fun q hq=>hall.out q (by unfold AZ at hq;omega));have hlay:b4=b4:=rfl;have hLl:(uK cs1 (B 5+1) nd id (n:Int) v).length=cs1.length:=tO _ _ _ _ _ _
   have hget:∀ a:Int,0<=a->bA cs' a=if a=1 then v else if a=B 5+1+4*(nd:Int) then v else if a=B 5+1+4*(nd:Int)+2 then(n:Int) else if a=B 5+1+4*(nd:Int)+1 then id else bA cs1 a:=by
    intro a ha;rw[hcs'];unfold zx;rw[bJ _ _ _ _ ha];by_cases e:a=1
    ·rw[if_pos ⟨oZ,oZ⟩,if_pos e]
    ·rw[if_neg (fun x=>e (by have:=x.1;omega)),if_neg e];exact JF oZ oZ a ha
   have hl':cs'.length=cs.length:=by rw[hcs'];unfold zx;rw[List.length_set,hLl,hl1]
   have hu1:∀ y∈cs1,U y:=hall.inv.cu;have huvv:U v:=⟨oZ,oZ⟩;have hun:U (n:Int):=⟨oZ,oZ⟩
   have hu':∀ y∈cs',U y:=by
    rw[hcs'];unfold zx uK;exact jI (jI (jI (jI hu1 hid) hun) huvv) huvv
   have hws:WS B S C m (df B dd) cs' Us1 d1:=hall.inv.away (by exact h.hL) (by rw[hl',hl1]) hu' (fun p h3 h4=>by
    have:=hget (p:Int) oZ;rw[eX,eX] at this;rw[this,if_neg oZ,if_neg oZ,if_neg oZ,if_neg oZ])
   refine⟨0,cs',uC B x nd fr Us1,nd+1,d1,?_,?_,hl',.inr ⟨rfl,by show u32 (x.bT+1)=_;rw[huv,hv],rfl⟩,(fun _=>⟨by rw[hget _ oZ,if_neg oZ,if_neg oZ,if_neg oZ,if_pos rfl],by rw[hget _ oZ,if_neg oZ,if_neg oZ,if_neg oZ,if_neg oZ,r2 _ oZ oZ];exact(h.rest nd (Nat.le_refl _) oZ).2,fun j i hj h0 h1=>by rw[hget _ oZ,if_neg oZ,if_neg oZ,if_neg oZ,if_neg oZ,r2 _ oZ oZ]⟩),?_⟩
   ·have:=lm.ok (B:=B) (S:=S) (m:=m) (dd:=dd) (tt:=tt) (nd:=nd) (id:=id) (F:=F) (cs:=cs) (x:=x) (d:=d) hE0 hpl oZ oZ hfits hall.ref hl1 hu1;rw[<- hn,huv,<- hfr,<- hcs'] at this;exact this
   ·refine⟨h.hL,h.room,hm,hdd,h.htt,hws,?_,oZ,?_,?_,?_,?_,?_,?_⟩
    ·show [(B 5,(nd:Int)+1,false)]=[(B 5,((nd+1:Nat):Int),false)];rfl
    ·show x.terms+fr=_;rw[hall.occ_,<- xU (cs:=cs),<- hfr,hterm]
    ·show x.terms+fr<=tt;omega
    ·show _=u32 (x.bT+1);rw[huv,<- eX,hget _ oZ,if_pos oZ]
    ·intro j hj;show _/\_<=u32 (x.bT+1);rw[huv,hget _ oZ,if_neg oZ];by_cases e:j=nd
     ·rw[if_pos oZ];omega
     ·rw[if_neg oZ,if_neg oZ,if_neg oZ,r2 _ oZ oZ];have:=h.born j oZ;omega
    ·intro j hj hj2;rw[hget _ oZ,hget _ oZ,if_neg oZ,if_neg oZ,if_neg oZ,if_neg oZ,if_neg oZ,if_neg oZ,if_neg oZ,if_neg oZ,r2 _ oZ oZ,r2 _ oZ oZ];exact h.rest j oZ hj2
    ·intro j hj;show _<=u32 (x.bT+1);rw[huv,hget _ oZ,if_neg oZ,if_neg oZ,if_neg oZ,if_neg oZ,r2 _ oZ oZ];by_cases e:j=nd
     ·have:=(h.rest nd (Nat.le_refl _) oZ).2;rw[e,this];omega
     ·have:=h.tomb j oZ;omega
   ·obtain⟨q3,hq3,hst⟩:=hall.prog;refine⟨q1+(q2+(q3+(3+1))),(uC B x nd fr Us1,0),oZ,?_,rfl,fun _=>rfl⟩;unfold jN;rw[if_neg hE];refine(toP hf1).bind ?_;rw[hf2,if_neg dZ];refine(toP hl2).bind ?_;rw[if_neg oZ,if_neg (by rw[hfits];decide),<- hfr];unfold uM;rw[huv,<- hn];refine fH.bind (x:=(Us1,(0:Int))) (cs1:=cs1) (hst.p (cs0:=cs) (fun c g1 g2=>?_) rfl fun _ _=>rfl) ?_
    ·obtain⟨s1,s2⟩:=ym g2;refine h.still g1 (by rw[s1];exact b6) (fun j hj i i0 i1=>s2 _ oZ oZ) fun hn2=>.inl ?_;rw[s2 _ oZ oZ];exact(h.rest nd (Nat.le_refl _) hn2).1
    ·rw[if_neg sZ]
     have st:∀ c:List Int,c.length=cs.length->(∀ a:Int,0<=a->a≠B 5+1+4*(nd:Int)->a≠B 5+1+4*(nd:Int)+1->a≠B 5+1+4*(nd:Int)+2->bA c a=bA cs1 a)->(bA c (B 5+1+4*(nd:Int))=0∨x.bT<bA c (B 5+1+4*(nd:Int)))->uB B dd nd cs x cs' c:=by
      intro c g1 g2 g3;refine h.still g1 ?_ (fun j hj i i0 i1=>?_) fun _=>g3
      ·rw[<- eX,g2 _ oZ oZ oZ oZ,eX,r1];exact b6
      ·rw[g2 _ oZ oZ oZ oZ,r2 _ oZ oZ]
     have hb0:bA cs1 (B 5+1+4*(nd:Int))=0:=by
      rw[r2 _ oZ oZ];exact(h.rest nd (Nat.le_refl _) oZ).1
     obtain⟨p,hp⟩:∃ p:Nat,B 5+1+4*(nd:Int)=(p:Int):=⟨(B 5+1+4*(nd:Int)).toNat,oZ⟩
     have hcs2:cs'=(((cs1.set (p+1) id).set (p+2) (n:Int)).set p v).set 1 v:=by
      rw[hcs'];unfold zx uK;rw[show (B 5+1+4*(nd:Int)+1).toNat=p+1 by omega,show (B 5+1+4*(nd:Int)+2).toNat=p+2 by omega,show (B 5+1+4*(nd:Int)).toNat=p by omega]
     unfold wT;rw[hp] at st hb0 ⊢;show fH _ (.store ((p:Int)+1) id (.store ((p:Int)+2) (n:Int) (.store (p:Int) v (.store 1 v (.ret (uC B x nd fr Us1,0)))))) cs1 _ _ _;refine .store (st cs1 hl1 (fun _ _ _ _ _=>rfl) (.inl hb0)) oZ oZ ?_;rw[u32_in hid,show ((p:Int)+1).toNat=p+1 by omega];refine .store (st _ (by rw[List.length_set];exact hl1) (fun a a0 a1 a2 a3=>by rw[bJ _ _ _ _ a0,if_neg oZ]) (.inl (by rw[bJ _ _ _ _ oZ,if_neg oZ];exact hb0))) oZ (by rw[List.length_set];omega) ?_;rw[u32_in hun,show ((p:Int)+2).toNat=p+2 by omega];refine .store (st _ (by rw[List.length_set,List.length_set];exact hl1) (fun a a0 a1 a2 a3=>by rw[bJ _ _ _ _ a0,if_neg oZ,bJ _ _ _ _ a0,if_neg oZ]) (.inl (by rw[bJ _ _ _ _ oZ,if_neg oZ,bJ _ _ _ _ oZ,if_neg oZ];exact hb0))) oZ (by rw[List.length_set,List.length_set];omega) ?_;rw[u32_in huvv,Int.toNat_natCast];refine .store (st _ (by rw[List.length_set,List.length_set,List.length_set];exact hl1) (fun a a0 a1 a2 a3=>by rw[bJ _ _ _ _ a0,if_neg oZ,bJ _ _ _ _ a0,if_neg oZ,bJ _ _ _ _ a0,if_neg oZ]) (.inr (by rw[bJ _ _ _ _ oZ,if_pos ⟨rfl,by rw[List.length_set,List.length_set];omega⟩];omega))) oZ (by rw[List.length_set,List.length_set,List.length_set];omega) ?_;rw[u32_in huvv,show (1:Int).toNat=1 from rfl,<- hcs2];exact .ret _ _ ⟨hl',.inr rfl⟩
/-! ### A Delete -/
def mE (id:Int) (x:Sx):Pr oM :=
 (fG id x.aC).bind fun f=>if f.2.2=false then .ret (aJ,7) else
  (jM f.1 f.2.1).bind fun r=>if r.t≠0 then .ret (aJ,7) else
   (rF f.1 f.2.1 (u32 (x.bT+1))).bind fun _=>.store 1 (u32 (x.bT+1)) (.ret ({x with bT:=u32 (x.bT+1)},0))
inductive p8 (B:Nat->Int) (nd:Nat) (id:Int) (cs:List Int) (x:Sx):Int->List Int->Sx->Prop
 | none:(bO cs id 0 x.aC).2.2=false->p8 B nd id cs x 7 cs x
 | dead {k a:Nat}:bO cs id 0 x.aC=(((0:Nat):Int),(k:Int),true)->k<nd->B 5+1+4*(k:Int)+3=(a:Int)->a<cs.length->cs.getD a 0≠0->p8 B nd id cs x 7 cs x
 | live {k a:Nat}:bO cs id 0 x.aC=(((0:Nat):Int),(k:Int),true)->k<nd->B 5+1+4*(k:Int)+3=(a:Int)->a<cs.length->cs.getD a 0=0->p8 B nd id cs x 0 ((cs.set a (u32 (x.bT+1))).set 1 (u32 (x.bT+1))) {x with bT:=u32 (x.bT+1)}
theorem uu (cs:List Int) (b y:Int):∀ (m d:Nat),kR cs b y m d=-1∨∃ k:Nat,kR cs b y m d=(k:Int)/\d<=k/\k<d+m
 | 0,d=>.inl rfl
 | m+1,d=>by
  unfold kR;split
  ·exact .inr ⟨d,rfl,oZ,oZ⟩
  ·rcases uu cs b y m (d+1) with h | ⟨k,h1,h2,h3⟩
   ·exact .inl h
   ·exact .inr ⟨k,h1,oZ,oZ⟩
structure kJ (B S:Nat->Int) (C:Int) (m dd:Nat) (tt:Int) (nd:Nat) (id:Int) (cs:List Int) (x:Sx) (d:bK) (e:Int) (cs':List Int) (x':Sx):Prop where
 out:p8 B nd id cs x e cs' x'
 inv:WI B S C m dd tt nd cs' x' d
 len:cs'.length=cs.length
 bT:(e≠0/\cs'=cs/\x'=x)∨(e=0/\x'.bT=x.bT+1)
 prog:∃ q y,q<=500000/\fH (uB B dd nd cs x cs') (mE id x) cs q y cs'/\y.2=e/\(e=0->y.1=x')
theorem WI.del (h:WI B S C m dd tt nd cs x d) (id:Int) (hver:x.bT+1<=4294967295):∃ e cs' x',kJ B S C m dd tt nd id cs x d e cs' x':=by
 obtain⟨b1,b2,b3,b4,b5,b6,b7,b8⟩:=h.bounds;have hsl:df B dd=B 5+1+4*(dd:Int):=rfl;have hhere:=h.here cs;have hdd:=h.hdd;have hnd:=h.nd_;obtain⟨q1,f,hq1,hf1,hf2,hf3⟩:=kM (A:=fun _=>False) cs id (B 5+1) nd false (B 5) rfl oZ oZ;rw[<- h.aC] at hf1 hf2
 have toP:∀ {α:Type} {p:Pr α} {n:Nat} {y:α} {cs':List Int},dx (fun _=>False) p cs n y cs->fH (uB B dd nd cs x cs') p cs n y cs:=fun {α p n y cs'} hd=>hd.p (cs0:=cs) (fun c h1 h2=>by
  have:c=cs:=List.ext_getElem? fun j=>by
   have e:=h2 j (fun x=>x);rw[List.getD_eq_getElem?_getD,List.getD_eq_getElem?_getD] at e;by_cases hj:j<c.length
   ·rw[gZ hj,gZ oZ] at e ⊢;simpa using e
   ·rw[List.getElem?_eq_none oZ,List.getElem?_eq_none oZ]
  rw[this];exact h.here cs') rfl fun _ _=>rfl
 cases hpl:(bO cs id 0 x.aC).2.2 with
 | false =>
  rw[hpl] at hf2;refine⟨7,cs,x,.none hpl,h,rfl,.inl ⟨oZ,rfl,rfl⟩,q1+0,(aJ,7),oZ,?_,rfl,fun e=>oZ⟩;unfold mE;refine(toP hf1).bind ?_;rw[if_pos hf2];exact .ret _ _ hhere
 | true =>
  rw[hpl] at hf2;obtain⟨f1,f2,f3⟩:=hf3 hf2;have hfz:iU cs (B 5+1) nd id=kR cs (B 5+1) id nd 0:=rfl
  obtain⟨k,hk,hkn⟩:∃ k:Nat,iU cs (B 5+1) nd id=(k:Int)/\k<nd:=by
   rcases uu cs (B 5+1) id nd 0 with e | ⟨k,e1,e2,e3⟩
   ·rw[hfz,e] at f3;omega
   ·exact⟨k,by rw[hfz];exact e1,oZ⟩
  rw[hk] at f2
  have hplace:bO cs id 0 x.aC=(((0:Nat):Int),(k:Int),true):=by
   rw[h.aC];unfold bO;show (if 0<=iU cs (bP (B 5,(nd:Int),false)) (nd:Int).toNat id then _ else _)=_;rw[show bP (B 5,(nd:Int),false)=B 5+1 from rfl,Int.toNat_natCast,hk,if_pos oZ]
  obtain⟨a,ha⟩:∃ a:Nat,B 5+1+4*(k:Int)+3=(a:Int):=⟨(B 5+1+4*(k:Int)+3).toNat,oZ⟩;obtain⟨q2,hq2,hrow⟩:=JJ cs (B 5+1) k oZ oZ
  have hrow2:=hrow.stores (A:=fun _=>False) (by
   unfold jM;intro _ _ _ _;trivial)
  rw[show bA cs (B 5+1+4*(k:Int)+3)=cs.getD a 0 by rw[ha,eX]] at hrow2;have hff:f=(B 5+1,(k:Int),true):=by rw[<- f1,<- f2,<- hf2]
  by_cases hdead:cs.getD a 0≠0
  ·refine⟨7,cs,x,.dead hplace hkn ha oZ hdead,h,rfl,.inl ⟨oZ,rfl,rfl⟩,q1+(q2+0),(aJ,7),oZ,?_,rfl,fun e=>oZ⟩;unfold mE;refine(toP hf1).bind ?_;rw[hff,if_neg sZ];refine(toP hrow2).bind ?_;rw[if_pos hdead];exact .ret _ _ hhere
  ·have hlive:cs.getD a 0=0:=Decidable.of_not_not hdead;obtain⟨v,hv⟩:∃ v,v=x.bT+1:=⟨_,rfl⟩;have huv:u32 (x.bT+1)=v:=by rw[<- hv];exact u32_in ⟨oZ,oZ⟩
   have huvv:U v:=⟨oZ,oZ⟩;obtain⟨cs',hcs'⟩:∃ cs',cs'=(cs.set a v).set 1 v:=⟨_,rfl⟩
   have hget:∀ z:Int,0<=z->bA cs' z=if z=1 then v else if z=(a:Int) then v else bA cs z:=by
    intro z hz;rw[hcs',bJ _ _ _ _ hz];by_cases e:z=1
    ·rw[if_pos ⟨oZ,by rw[List.length_set];omega⟩,if_pos e]
    ·rw[if_neg (fun x=>e (by have:=x.1;omega)),if_neg e,bJ _ _ _ _ hz];by_cases e2:z=(a:Int)
     ·rw[if_pos ⟨e2,oZ⟩,if_pos e2]
     ·rw[if_neg (fun x=>e2 x.1),if_neg e2]
   have hl':cs'.length=cs.length:=by rw[hcs'];simp
   have hu':∀ y∈cs',U y:=by rw[hcs'];exact jI (jI h.ws.cu huvv) huvv
   have hws:WS B S C m (df B dd) cs' x.used d:=h.ws.away h.hL hl' hu' (fun p h3 h4=>by
    have:=hget (p:Int) oZ;rw[eX,eX] at this;rw[this,if_neg oZ,if_neg oZ])
   refine⟨0,cs',{x with bT:=u32 (x.bT+1)},?_,?_,hl',.inr ⟨rfl,by show u32 (x.bT+1)=_;rw[huv,hv]⟩,?_⟩
   ·have:=p8.live (B:=B) (nd:=nd) (id:=id) (cs:=cs) (x:=x) hplace hkn ha oZ hlive;rw[huv,<- hcs'] at this;rw[huv];exact this
   ·refine⟨h.hL,h.room,h.hm,hdd,h.htt,hws,h.aC,hnd,h.terms,h.many,?_,?_,?_,?_⟩
    ·show _=u32 (x.bT+1);rw[huv,<- eX,hget _ oZ,if_pos oZ]
    ·intro j hj;show _/\_<=u32 (x.bT+1);rw[huv,hget _ oZ,if_neg oZ,if_neg oZ];have:=h.born j hj;omega
    ·intro j hj hj2;rw[hget _ oZ,hget _ oZ,if_neg oZ,if_neg oZ,if_neg oZ,if_neg oZ];exact h.rest j hj hj2
    ·intro j hj;show _<=u32 (x.bT+1);rw[huv,hget _ oZ,if_neg oZ];by_cases e:B 5+1+4*(j:Int)+3=(a:Int)
     ·rw[if_pos e];omega
     ·rw[if_neg e];have:=h.tomb j hj;omega
   ·refine⟨q1+(q2+(1+1)),({x with bT:=u32 (x.bT+1)},0),oZ,?_,rfl,fun _=>rfl⟩;unfold mE;refine(toP hf1).bind ?_;rw[hff,if_neg sZ];refine(toP hrow2).bind ?_;rw[if_neg hdead,huv];unfold rF;show fH (uB B dd nd cs x cs') (.store (B 5+1+4*(k:Int)+3) v (.store 1 v (.ret (({x with bT:=v}:Sx),(0:Int))))) cs (1+1) (({x with bT:=v}:Sx),(0:Int)) cs';rw[ha];refine .store (h.here cs') oZ oZ ?_;rw[u32_in huvv,Int.toNat_natCast];refine .store ⟨sZ,.inl ⟨?_,?_⟩⟩ oZ (by rw[List.length_set];omega) ?_
    ·rw[<- eX,bJ _ _ _ _ oZ,if_neg oZ,eX];exact b6
    ·have hsee:∀ (g j:Nat),j+g<=nd->jF (cs.set a v) (B 5+1) x.bT g j=jF cs (B 5+1) x.bT g j:=by
      intro g;induction g with
      | zero=>exact fun _ _=>rfl
      | succ g ih =>
       intro j hj;have hbj:=h.born j oZ;have htj:=h.tomb j oZ
       have e0:∀ i:Int,0<=i->i<3->bA (cs.set a v) (B 5+1+4*(j:Int)+i)=bA cs (B 5+1+4*(j:Int)+i):=by
        intro i i0 i1;rw[bJ _ _ _ _ oZ,if_neg oZ]
       have e1:=e0 0 oZ oZ;rw[Int.add_zero] at e1;unfold jF;rw[e1,e0 1 oZ oZ,e0 2 oZ oZ,ih (j+1) oZ];by_cases ej:j=k
       ·subst ej;rw[show bA (cs.set a v) (B 5+1+4*(j:Int)+3)=v by rw[bJ _ _ _ _ oZ,if_pos ⟨ha,oZ⟩],show bA cs (B 5+1+4*(j:Int)+3)=0 by rw[ha,eX];exact hlive];rw[if_pos (show v=0∨x.bT<v from .inr oZ),if_pos (show (0:Int)=0∨x.bT<0 from .inl rfl)]
       ·rw[show bA (cs.set a v) (B 5+1+4*(j:Int)+3)=bA cs (B 5+1+4*(j:Int)+3) by rw[bJ _ _ _ _ oZ,if_neg oZ]]
     have hcut:=rM (c:=cs.set a v) (cs:=cs.set a v) (b:=B 5+1) (v:=x.bT) nd (dd-nd) 0 (fun _ _ _ _ _ _=>rfl) (fun hg=>.inl (by
      rw[Nat.zero_add,bJ _ _ _ _ oZ,if_neg oZ];exact(h.rest nd oZ oZ).1))
     rw[show nd+(dd-nd)=dd by omega] at hcut;show jF (cs.set a v) (B 5+1) x.bT dd 0=jF cs (B 5+1) x.bT nd 0;rw[hcut];exact hsee nd 0 oZ
    ·rw[u32_in huvv,show (1:Int).toNat=1 from rfl,<- hcs'];exact .ret _ _ ⟨hl',.inr rfl⟩
end
section
variable {S0:Nat->Prop} {W w w':World} {rb mb cb:Nat} {go0 go go':Option Nat} {g gt:Nat} {B S:Nat->Int} {C T L sl:Int} {Us Us':Nat->Int} {n cap:Nat} {vw:Value} {ts ts':List TR} {st st':St}
theorem WF.nU (h:WF S0 W rb mb cb go0 g gt B S C T L sl Us n cap vw ts st go w):WF S0 w rb mb cb go g gt B S C T L sl Us n cap vw ts st go w :=
 ⟨ik.start h.run.rm fun k hk=>⟨h.run.mine hk,Nat.lt_of_lt_of_le (h.run.own k hk).2 h.run.size⟩,h.ad,h.tr,h.mine⟩
theorem WF.zM (h:WF S0 W rb mb cb go0 g gt B S C T L sl Us n cap vw ts st go w) (k:WF S0 w rb mb cb go g gt B S C T L sl Us' n cap vw ts' st' go' w'):WF S0 W rb mb cb go0 g gt B S C T L sl Us' n cap vw ts' st' go' w' :=
 ⟨h.run.call k.run.rm k.run.adv,k.ad,k.tr,k.mine⟩
end
theorem l7 {U V:Nat->Int} (h:six U=six V):∀ k,k<6->U k=V k:=by
 intro k hk
 have g:∀ j:Nat,j<6->(six U)[j]?=some (.int .i64 (U j))/\(six V)[j]?=some (.int .i64 (V j)):=by
  intro j hj;rcases (show j=0∨j=1∨j=2∨j=3∨j=4∨j=5 by omega) with rfl | rfl | rfl | rfl | rfl | rfl <;> exact⟨rfl,rfl⟩
 have h1:=(g k hk).1;rw[h,(g k hk).2] at h1;injection h1 with h1
 injection h1 with _ h2
 exact h2.symm
def sP (S0:Nat->Prop) (W:World) (rb mb cb:Nat) (go0:Option Nat) (g gt:Nat) (B S:Nat->Int) (C L sl:Int) (m:Nat) (Us:Nat->Int) (n cap:Nat) (vw:Value) (ts:List TR) (i:Nat) (x:TR) (st:St) (e:Ending) (w':World):Prop :=
 ∃ a V er go',e=.returned (.int .i64 er)/\(er=0->WF S0 W rb mb cb go0 g gt B S C (m:Int) L sl V n cap vw (ts.set i (x.1,x.2.1,a,x.2.2.2)) ((jB B S Us sl m x.1).on st).2 go' w')/\(er≠0->WF S0 W rb mb cb go0 g gt B S C (m:Int) L sl Us n cap vw ts ((jB B S Us sl m x.1).on st).2 go' w') /\
  (∀ y,((jB B S Us sl m x.1).on st).1=some y->y=(a,V,er))/\∀ k,k<6->0<=V k/\V k<=S k
theorem IJ {w:World} {rb mb cb:Nat} {go:Option Nat} {st:St} {Bd:Nat} (B S U:Nat->Int) (C T L s slot:Int) (key:ByteArray) (hrm:RM w rb mb cb go true st) (hf:st.dO Bd) (hB:Bd<1000000000) (hb4:0<=B 4/\B 4<=1000000) (hU:∀ k,k<6->0<=U k/\U k<=S k/\S k<=1000000) (hs0:0<=s) (hs1:s<=1000000) (hi0:-1<=slot) (hi1:slot<=1000000) (hk:key.size<=1000000) :
  Calls Tryz.prog 190 #[.pointer (some ⟨rb,0,none⟩),.agg (ae B S C T L),.agg (six U),.int .i64 s,.int .i64 slot,.string key] w fun e w'=>∃ a V er go',e=.returned (.tuple #[.int .i64 a,.agg (six V),.int .i64 er])/\RM w' rb mb cb go' true ((gp B S U s slot (ax key)).on st).2/\jl rb mb cb w go w' go'/\(∀ y,((gp B S U s slot (ax key)).on st).1=some y->y=(a,V,er))/\∀ k,k<6->0<=V k/\V k<=S k:=by
 have hput:Calls Tryz.prog 190 #[.pointer (some ⟨rb,0,none⟩),.agg (ae B S C T L),.agg (six U),.int .i64 s,.int .i64 slot,.string key] w fun e w'=>kE S w rb mb cb go st (gp B S U s slot (ax key)) e w':=by
  by_cases hfit:2+((aF (ax key)).length:Int)<=S 4-U 4
  ·exact GM B S U C T L s slot key hrm hf hB hb4 hU hs0 hs1 hi0 hi1 hk hfit
  ·exact GG B S U C T L s slot key hrm hU hk hfit
 refine hput.mono ?_;rintro e w' ⟨a,V,er,go',rfl,h1,h2,h3,h4⟩;cases hs:((gp B S U s slot (ax key)).on st).1 with
 | none=>exact⟨a,V,er,go',rfl,h1,h2,(fun y hy=>by cases hy),h4⟩
 | some z =>
  obtain⟨z1,z2,z3⟩:=h3 z hs;refine⟨z.1,z.2.1,z.2.2,go',by rw[z1,z2,z3],h1,h2,(fun y hy=>by cases hy;rfl),fun k hk=>?_⟩;rw[l7 z2 k hk];exact h4 k hk
theorem FV {S0:Nat->Prop} {w:World} {rb mb cb:Nat} {go:Option Nat} {g gt:Nat} {B S:Nat->Int} {C L sl:Int} {m:Nat} {Us:Nat->Int} {n cap:Nat} {vw:Value} {ts:List TR} {st:St} {Bd:Nat} (h:WF S0 w rb mb cb go g gt B S C (m:Int) L sl Us n cap vw ts st go w) (hf:st.dO Bd) (hB:Bd<1000000000) {i:Nat} {x:TR} (hi:ts[i]?=some x) (hx:(∀ b∈x.1,b<256)/\x.1.length<=1000) (hs0:0<=sl) (hs1:sl<=1000000) (hm0:1<=m) (hm1:m<=1000000) (hb4:0<=B 4/\B 4<=1000000) (hUs:∀ k,k<6->0<=Us k/\Us k<=S k/\S k<=1000000) :
  Calls Tryz.prog 164 #[.pointer (some ⟨g,0,none⟩),.pointer (some ⟨gt,i*4,none⟩)] w fun e w'=>sP S0 w rb mb cb go g gt B S C L sl m Us n cap vw ts i x st e w':=by
 have hkey:ax (ay x.1)=x.1:=aX x.1 hx.1
 have hks:(ay x.1).size<=1000000:=by
  have e:=congrArg List.length hkey;rw[aD] at e;have:=hx.2;omega
 have hkl:(ay x.1).size<=reachBytes:=by unfold reachBytes;omega
 have HKey:=hJ hkey;have HF:=hJ hf;have HW:=hJ h;have HQ:=hJ (Rest.start (jB B S Us sl m x.1) st);clear hkey h hf hx;go_enter Tryz.func164,Tryz.ntmps164
 go_upto_region 1 with fail
 refine aI (fun(p:Int×Int×Option Nat) jz=>[.pointer (some ⟨g,0,none⟩),.pointer (some ⟨g,0,none⟩),.pointer (some ⟨g,0,none⟩),.pointer (some ⟨rb,0,none⟩),.pointer (some ⟨g,0,none⟩),.pointer (some ⟨g,0,none⟩),.pointer (some ⟨g,16,none⟩),.int .i64 sl,.pointer (some ⟨g,0,none⟩),.pointer (some ⟨g,0,none⟩),.pointer (some ⟨g,1,none⟩),.pointer (some ⟨g,14,none⟩),.int .i64 (m:Int),.pointer (some ⟨gt,i*4,none⟩),.pointer (some ⟨gt,i*4,none⟩),.pointer (some ⟨gt,i*4,none⟩),Value.string (ay x.1),.tuple #[.int .i64 p.1,.int .i64 p.2.1],.tuple #[.int .i64 p.1,.int .i64 p.2.1],.int .i64 p.1,.int .i64 p.2.1,.int .i64 p.1,.int .i64 p.2.1].getD jz undef)
  (fun p l wx=>(l 17=false->WF S0 w rb mb cb go g gt B S C (m:Int) L sl Us n cap vw ts st go wx)/\(l 17=true->WF S0 w rb mb cb go g gt B S C (m:Int) L sl Us n cap vw ts ((jf sl (m:Int) x.1).on st).2 p.2.2 wx/\(∀ y,((jf sl (m:Int) x.1).on st).1=some y->y.1=p.1/\y.2=p.2.1)/\-1<=p.2.1/\p.2.1<=1000000))
  kZ kZ pZ (0,0,none) ?_ ?_ ?_
 ·exact⟨fun _=>HW.out.below (Below.refl _ _).drew,(fun h=>by cases h)⟩
 ·intro i o ho p l wx hR hl he hcl K hK;rcases i with _|_|_|_|_|_|_|_|_|_|_|_|_|_|_|_|_|_|_|_|_|_|_|i
  any_goals first | (cases ho;go_simp;exact hK p wx (fun _ _=>rfl) hR;done) | fail
  ·cases ho
   obtain⟨stx,gox,hw⟩:∃ stx gox,WF S0 w rb mb cb go g gt B S C (m:Int) L sl Us n cap vw ts stx gox wx:=by
    cases h:l 17 with
    | false=>exact⟨_,_,hR.1 h⟩
    | true=>exact⟨_,_,(hR.2 h).1⟩
   have q:=aa hw.ad 0;go_simp;exact hK p wx (fun _ _=>rfl) hR
  ·cases ho
   obtain⟨stx,gox,hw⟩:∃ stx gox,WF S0 w rb mb cb go g gt B S C (m:Int) L sl Us n cap vw ts stx gox wx:=by
    cases h:l 17 with
    | false=>exact⟨_,_,hR.1 h⟩
    | true=>exact⟨_,_,(hR.2 h).1⟩
   have q:=aa hw.ad 16;go_simp;exact hK p wx (fun _ _=>rfl) hR
  ·cases ho
   obtain⟨stx,gox,hw⟩:∃ stx gox,WF S0 w rb mb cb go g gt B S C (m:Int) L sl Us n cap vw ts stx gox wx:=by
    cases h:l 17 with
    | false=>exact⟨_,_,hR.1 h⟩
    | true=>exact⟨_,_,(hR.2 h).1⟩
   have q:=aa hw.ad 14;go_simp;exact hK p wx (fun _ _=>rfl) hR
  ·cases ho
   obtain⟨stx,gox,hw⟩:∃ stx gox,WF S0 w rb mb cb go g gt B S C (m:Int) L sl Us n cap vw ts stx gox wx:=by
    cases h:l 17 with
    | false=>exact⟨_,_,hR.1 h⟩
    | true=>exact⟨_,_,(hR.2 h).1⟩
   have q:=(hw.tr.cells hi).1;go_simp;exact hK p wx (fun _ _=>rfl) hR
  ·cases ho;have hw:=hR.1 hl;have HK:=Ag sl m (ay x.1) hw.run.rm HF.out hB hs0 hs1 hm0 hm1 hkl;rw[HKey.out] at HK;go_simp;refine HK.mono ?_;rintro e w2 ⟨a,k,go2,rfl,hr2,ha2,hans,_,hk0,hk1⟩;refine hK (a,k,go2) w2 (fun j hj=>?_) ⟨(fun h=>by cases h),fun _=>⟨hw.access hr2 ha2,hans,hk0,hk1⟩⟩;rcases j with _|_|_|_|_|_|_|_|_|_|_|_|_|_|_|_|_|_|_|_|_|_|_|j
   all_goals first | rfl | (rw[hl] at hj;cases hj) | (exact absurd (hcl 18 _ rfl hj ⟨17,.data⟩ sZ rfl) lZ) | (exact absurd (hcl 18 _ rfl (hcl 19 _ rfl hj ⟨18,.data⟩ sZ rfl) ⟨17,.data⟩ sZ rfl) lZ) | (exact absurd (hcl 18 _ rfl (hcl 20 _ rfl hj ⟨18,.data⟩ sZ rfl) ⟨17,.data⟩ sZ rfl) lZ) | (exact absurd (hcl 18 _ rfl (hcl 19 _ rfl (hcl 21 _ rfl hj ⟨19,.data⟩ sZ rfl) ⟨18,.data⟩ sZ rfl) ⟨17,.data⟩ sZ rfl) lZ) | (exact absurd (hcl 18 _ rfl (hcl 20 _ rfl (hcl 22 _ rfl hj ⟨20,.data⟩ sZ rfl) ⟨18,.data⟩ sZ rfl) ⟨17,.data⟩ sZ rfl) lZ)
  ·simp at ho
 ·intro p l wx hl hR;obtain⟨a1,k1,go1⟩:=p;obtain⟨hw1,hans1,hk0,hk1⟩:=hR.2 (hl 17 dZ);simp only at hw1 hans1 hk0 hk1;have HW1:=hJ hw1;have hq1:=HQ.out.bind HF.out (k:=(a1,k1)) (fun y hy=>Prod.ext (hans1 y hy).1 (hans1 y hy).2);have HF1:=hJ (fu (jf sl (m:Int) x.1) st HF.out);have HQ1:=hJ hq1;obtain⟨st1,hst1⟩:∃ st1,st1=((jf sl (m:Int) x.1).on st).2:=⟨_,rfl⟩;rw[<- hst1] at HW1 HF1 HQ1;clear hw1 hans1 hq1 hst1 hR hl HW HF HQ;go_upto_region 2 with fail
  refine aI (fun(p:Int×(Nat->Int)×Int×Option Nat×Nat) jz=>[.pointer (some ⟨g,0,none⟩),.pointer (some ⟨g,0,none⟩),.pointer (some ⟨g,0,none⟩),.pointer (some ⟨rb,0,none⟩),.pointer (some ⟨g,0,none⟩),.pointer (some ⟨g,0,none⟩),.pointer (some ⟨g,1,none⟩),.agg (ae B S C (m:Int) L),.pointer (some ⟨g,0,none⟩),.pointer (some ⟨g,0,none⟩),.pointer (some ⟨g,17,none⟩),.agg (six Us),.pointer (some ⟨g,0,none⟩),.pointer (some ⟨g,0,none⟩),.pointer (some ⟨g,16,none⟩),.int .i64 sl,.int .i64 k1,.pointer (some ⟨gt,i*4,none⟩),.pointer (some ⟨gt,i*4,none⟩),.pointer (some ⟨gt,i*4,none⟩),Value.string (ay x.1),.tuple #[.int .i64 p.1,.agg (six p.2.1),.int .i64 p.2.2.1],.tuple #[.int .i64 p.1,.agg (six p.2.1),.int .i64 p.2.2.1],.int .i64 p.1,.agg (six p.2.1),.int .i64 p.2.2.1,.pointer (some ⟨p.2.2.2.2,0,none⟩),.int .i64 p.1,undef,.int .i64 p.2.2.1].getD jz undef)
   (fun p l wx=>(l 21=false->WF S0 w rb mb cb go g gt B S C (m:Int) L sl Us n cap vw ts st1 go1 wx)/\(l 21=true->WF S0 w rb mb cb go g gt B S C (m:Int) L sl Us n cap vw ts ((gp B S Us sl k1 x.1).on st1).2 p.2.2.2.1 wx/\(∀ y,((gp B S Us sl k1 x.1).on st1).1=some y->y=(p.1,p.2.1,p.2.2.1))/\∀ k,k<6->0<=p.2.1 k/\p.2.1 k<=S k)/\(l 26=true->w.heap.size<=p.2.2.2.2/\wx.heap[p.2.2.2.2]?=some (.cells (six (if l 28 then p.2.1 else fun _=>0)) 40 (0,0))))
   kZ kZ pZ (0,fun _=>0,0,none,0) ?_ ?_ ?_
  ·exact⟨fun _=>HW1.out.below (Below.refl _ _).drew,(fun h=>by cases h),(fun h=>by cases h)⟩
  ·intro i o ho p l wx hR hl he hcl K hK;rcases i with _|_|_|_|_|_|_|_|_|_|_|_|_|_|_|_|_|_|_|_|_|_|_|_|_|_|_|_|_|_|i
   any_goals first | (cases ho;go_simp;exact hK p wx (fun _ _=>rfl) hR;done) | fail
   ·cases ho
    obtain⟨stx,gox,hw⟩:∃ stx gox,WF S0 w rb mb cb go g gt B S C (m:Int) L sl Us n cap vw ts stx gox wx:=by
     cases h:l 21 with
     | false=>exact⟨_,_,hR.1 h⟩
     | true=>exact⟨_,_,(hR.2.1 h).1⟩
    have q:=aa hw.ad 0;go_simp;exact hK p wx (fun _ _=>rfl) hR
   ·cases ho
    obtain⟨stx,gox,hw⟩:∃ stx gox,WF S0 w rb mb cb go g gt B S C (m:Int) L sl Us n cap vw ts stx gox wx:=by
     cases h:l 21 with
     | false=>exact⟨_,_,hR.1 h⟩
     | true=>exact⟨_,_,(hR.2.1 h).1⟩
    refine aR 42 (.tmp 38) rfl g 1 rfl 176 (lC rb B S C (m:Int) L sl Us (.slice (some ⟨gt,0,none⟩) n cap) vw) (ae B S C (m:Int) L) (0,0) _ hw.ad (kF _ _ _ _ _ _ _ _ _ _) Tryz.underlying42 rfl (ai _ _ _ _ _) ?_;exact hK p wx (fun _ _=>rfl) hR
   ·cases ho
    obtain⟨stx,gox,hw⟩:∃ stx gox,WF S0 w rb mb cb go g gt B S C (m:Int) L sl Us n cap vw ts stx gox wx:=by
     cases h:l 21 with
     | false=>exact⟨_,_,hR.1 h⟩
     | true=>exact⟨_,_,(hR.2.1 h).1⟩
    refine aR 40 (.tmp 42) rfl g 17 rfl 176 (lC rb B S C (m:Int) L sl Us (.slice (some ⟨gt,0,none⟩) n cap) vw) (six Us) (0,0) _ hw.ad (oI _ _ _ _ _ _ _ _ _ _) Tryz.underlying40 rfl (af _) ?_;exact hK p wx (fun _ _=>rfl) hR
   ·cases ho
    obtain⟨stx,gox,hw⟩:∃ stx gox,WF S0 w rb mb cb go g gt B S C (m:Int) L sl Us n cap vw ts stx gox wx:=by
     cases h:l 21 with
     | false=>exact⟨_,_,hR.1 h⟩
     | true=>exact⟨_,_,(hR.2.1 h).1⟩
    have q:=aa hw.ad 16;go_simp;exact hK p wx (fun _ _=>rfl) hR
   ·cases ho
    obtain⟨stx,gox,hw⟩:∃ stx gox,WF S0 w rb mb cb go g gt B S C (m:Int) L sl Us n cap vw ts stx gox wx:=by
     cases h:l 21 with
     | false=>exact⟨_,_,hR.1 h⟩
     | true=>exact⟨_,_,(hR.2.1 h).1⟩
    have q:=(hw.tr.cells hi).1;go_simp;exact hK p wx (fun _ _=>rfl) hR
   ·cases ho;have hw:=hR.1 hl;have HK:=IJ B S Us C (m:Int) L sl k1 (ay x.1) hw.run.rm HF1.out hB hb4 hUs hs0 hs1 hk0 hk1 hks;rw[HKey.out] at HK;go_simp;refine HK.mono ?_;rintro e w2 ⟨a,V,er,go2,rfl,hr2,ha2,hans,hV⟩;refine hK (a,V,er,go2,p.2.2.2.2) w2 (fun j hj=>?_) ⟨(fun h=>by cases h),fun _=>⟨hw.access hr2 ha2,hans,hV⟩,fun h=>?_⟩
    ·rcases j with _|_|_|_|_|_|_|_|_|_|_|_|_|_|_|_|_|_|_|_|_|_|_|_|_|_|_|_|_|_|j
     all_goals first | rfl | (rw[hl] at hj;cases hj) | (exact absurd (hcl 22 _ rfl hj ⟨21,.data⟩ sZ rfl) lZ) | (exact absurd (hcl 22 _ rfl (hcl 23 _ rfl hj ⟨22,.data⟩ sZ rfl) ⟨21,.data⟩ sZ rfl) lZ) | (exact absurd (hcl 22 _ rfl (hcl 24 _ rfl hj ⟨22,.data⟩ sZ rfl) ⟨21,.data⟩ sZ rfl) lZ) | (exact absurd (hcl 22 _ rfl (hcl 25 _ rfl hj ⟨22,.data⟩ sZ rfl) ⟨21,.data⟩ sZ rfl) lZ) | (exact absurd (hcl 22 _ rfl (hcl 23 _ rfl (hcl 27 _ rfl hj ⟨23,.data⟩ sZ rfl) ⟨22,.data⟩ sZ rfl) ⟨21,.data⟩ sZ rfl) lZ) | (exact absurd (hcl 22 _ rfl (hcl 24 _ rfl (hcl 28 _ rfl hj ⟨24,.data⟩ sZ rfl) ⟨22,.data⟩ sZ rfl) ⟨21,.data⟩ sZ rfl) lZ) | (exact absurd (hcl 22 _ rfl (hcl 25 _ rfl (hcl 29 _ rfl hj ⟨25,.data⟩ sZ rfl) ⟨22,.data⟩ sZ rfl) ⟨21,.data⟩ sZ rfl) lZ)
    ·have h28:l 28=false:=by
      cases h28:l 28 with
      | false=>rfl
      | true=>exact absurd (hcl 22 _ rfl (hcl 24 _ rfl (hcl 28 _ rfl h28 ⟨24,.data⟩ sZ rfl) ⟨22,.data⟩ sZ rfl) ⟨21,.data⟩ sZ rfl) lZ
     have hq:=hR.2.2 h;rw[h28] at hq;refine⟨hq.1,?_⟩;rw[if_neg (by show ¬ ((28==21||l 28)=true);rw[h28];decide)];exact hw.run.stays ha2 hq.2 (.inr hq.1) dZ
   ·cases ho;go_simp;have hb:Below wx.heap.size wx (wx.alloc (.cells (six fun _=>0) 40)):=aj
    have hsz:w.heap.size<=wx.heap.size:=by
     cases h:l 21 with
     | false=>exact(hR.1 h).run.size
     | true=>exact(hR.2.1 h).1.run.size
    refine hK (p.1,p.2.1,p.2.2.1,p.2.2.2.1,wx.heap.size) _ (fun j hj=>?_) ⟨fun h=>(hR.1 h).below hb,fun h=>⟨(hR.2.1 h).1.below hb,(hR.2.1 h).2⟩,fun _=>⟨hsz,?_⟩⟩
    ·rcases j with _|_|_|_|_|_|_|_|_|_|_|_|_|_|_|_|_|_|_|_|_|_|_|_|_|_|_|_|_|_|j
     all_goals first | rfl | (rw[hl] at hj;cases hj)
    ·have h28:l 28=false:=by
      cases h28:l 28 with
      | false=>rfl
      | true=>exact absurd (hcl 28 _ rfl h28 ⟨26,.data⟩ sZ rfl) lZ
     rw[if_neg (by show ¬ ((28==26||l 28)=true);rw[h28];decide)];exact nZ _ _
   ·cases ho;have h26:=he ⟨26,.data⟩ sZ rfl;have hq:=hR.2.2 h26;rw[if_neg lZ] at hq;have h21:=hcl 22 _ rfl (hcl 24 _ rfl (he ⟨24,.data⟩ sZ rfl) ⟨22,.data⟩ sZ rfl) ⟨21,.data⟩ sZ rfl;refine wp_store_row 40 (.tmp 8) (.tmp 55) rfl p.2.2.2.2 (six p.2.1) rfl rfl 40 _ hq.2 (af _) (aS _ _) (aQ _) ?_;have hm:bB (fun j=>j=p.2.2.2.2) wx (wx.setRow p.2.2.2.2 (six p.2.1)):=bB.setRow (S:=fun j=>j=p.2.2.2.2) (bB.refl _ _) (.inr rfl) _;exact hK p _ (fun _ _=>rfl) ⟨fun h=>absurd h21 (by rw[show l 21=false from h];decide),fun _=>⟨(hR.2.1 h21).1.turn hq.2 hq.1 dZ hm,(hR.2.1 h21).2⟩,fun _=>⟨hq.1,setRow_heap _ _ _ _ _ _ hq.2⟩⟩
   ·simp at ho
  ·intro p l wx hl hR;obtain⟨a2,V,er,go2,q2⟩:=p;obtain⟨hw2,hans2,hV⟩:=hR.2.1 (hl 21 dZ);have hq2:=hR.2.2 (hl 26 dZ);rw[if_pos (hl 28 dZ)] at hq2;simp only at hw2 hans2 hV hq2;have HE:=hJ (HQ1.out)
   have hst:((jB B S Us sl m x.1).on st).2=((gp B S Us sl k1 x.1).on st1).2/\∀ y,((jB B S Us sl m x.1).on st).1=some y->((gp B S Us sl k1 x.1).on st1).1=some y:=by
    rcases HQ1.out with ⟨h1,h2⟩ | h
    ·have h2':(jB B S Us sl m x.1).on st=(none,st1):=h2;rw[h2',sW _ HF1.out.good h1];exact⟨rfl,fun y hy=>by cases hy⟩
    ·have h':(gp B S Us sl k1 x.1).on st1=(jB B S Us sl m x.1).on st:=h;rw[h'];exact⟨rfl,fun y hy=>hy⟩
   have HW2:=hJ hw2;have HQ2:=hJ hq2;have HV:=hJ (And.intro hans2 hV);have HST:=hJ hst;obtain⟨st2,hst2⟩:∃ st2,st2=((gp B S Us sl k1 x.1).on st1).2:=⟨_,rfl⟩;rw[<- hst2] at HW2 HST;clear hw2 hans2 hV hq2 hst hst2 hR hl HW1 HE;by_cases her:er=0
   ·have b1:(er != 0)=false:=by simpa using her
    subst her;go_upto_region 5 with fail
    refine aI (fun(p:Unit) jz=>[.pointer (some ⟨gt,i*4,none⟩),.pointer (some ⟨g,0,none⟩),.int .i64 a2,.agg (six V),.pointer (some ⟨gt,i*4,none⟩),.pointer (some ⟨gt,i*4+2,none⟩),undef,.pointer (some ⟨g,0,none⟩),.pointer (some ⟨g,17,none⟩),undef].getD jz undef)
     (fun p l wx=>WF S0 w rb mb cb go g gt B S C (m:Int) L sl (if l 9 then V else Us) n cap vw (if l 6 then ts.set i (x.1,x.2.1,a2,x.2.2.2) else ts) st2 go2 wx/\w.heap.size<=q2/\wx.heap[q2]?=some (.cells (six V) 40 (0,0)))
     kZ kZ pZ () ?_ ?_ ?_
    ·exact⟨(by rw[if_neg dZ,if_neg dZ];exact HW2.out.below (Below.refl _ _).drew),HQ2.out.1,HQ2.out.2⟩
    ·intro i o ho p l wx hR hl he hcl K hK;rcases i with _|_|_|_|_|_|_|_|_|_|i
     any_goals first | (cases ho;go_simp;exact hK p wx (fun _ _=>rfl) hR;done) | fail
     ·cases ho;refine wp_load_row 40 (.tmp 8) rfl q2 rfl 40 (six V) (0,0) _ hR.2.2 Tryz.underlying40 rfl (af _) ?_;exact hK p wx (fun _ _=>rfl) hR
     ·cases ho;have hw:=hR.1;rw[show (if l 6 then ts.set i (x.1,x.2.1,a2,x.2.2.2) else ts)=ts by rw[hl];rfl] at hw;obtain⟨_,_,k3,_,k5,_,_⟩:=hw.tr.cells hi;have f3:=k5 (i*4+2);have hgt:=(hw.run.own _ hw.mine.2).2;go_simp;refine hK p _ (fun _ _=>rfl) ⟨?_,hR.2.1,(Below.heap_setCell _ _ _ _ (by show q2≠gt;have:=hR.2.1;omega)).trans hR.2.2⟩;exact hw.zI hi a2
     ·cases ho;have hw:=hR.1;rw[show (if l 9 then V else Us)=Us by rw[hl];rfl] at hw;have hgg:=(hw.run.own _ hw.mine.1).2;refine jC 40 (.tmp 67) (.tmp 63) rfl g 17 (six V) rfl rfl 176 (lC rb B S C (m:Int) L sl Us (.slice (some ⟨gt,0,none⟩) n cap) vw) (lC rb B S C (m:Int) L sl V (.slice (some ⟨gt,0,none⟩) n cap) vw) hw.ad (by simp[six,lC]) (af _) (aQ _) rfl ?_;refine hK p _ (fun _ _=>rfl) ⟨?_,hR.2.1,(qZ _ _ _ _ (by have:=hR.2.1;omega)).trans hR.2.2⟩;exact hw.zH V
     ·simp at ho
    ·intro p l wx hl hR;have hw:=hR.1;rw[if_pos (hl 9 dZ),if_pos (hl 6 dZ)] at hw;have HW5:=hJ hw;clear hw hR hl HW2 HQ2;go_wp2_with fail
     go_ret;obtain⟨hs1,hs2⟩:=HST.out;unfold sP;refine⟨a2,V,0,go2,rfl,fun _=>?_,fun h=>absurd rfl h,fun y hy=>?_,HV.out.2⟩
     ·rw[hs1];exact HW5.out
     ·exact HV.out.1 y (hs2 y hy)
   ·have b1:(er != 0)=true:=by simpa using her
    have HER:=hJ her;clear her;go_wp2_with fail
    go_ret;obtain⟨hs1,hs2⟩:=HST.out;unfold sP;refine⟨a2,V,er,go2,rfl,fun h=>absurd h HER.out,fun _=>?_,fun y hy=>?_,HV.out.2⟩
    ·rw[hs1];exact HW2.out
    ·exact HV.out.1 y (hs2 y hy)
end Go.Proofs.YtafaohnhlgcnpaaGreatDoor
namespace Go.Proofs.YtafaohnhlgcnpaaGreatDoor
open Go.RowKit Go.Maps
theorem LQ:Keyed Tryz.prog 9:=string_keyed Tryz.underlying9
theorem KT (w:World):(zeroValue 3).run Tryz.prog w=.ok (.int .i64 0) w:=kZ
theorem wf_i64 {x:Int} (h0:-9223372036854775808<=x) (h1:x<=9223372036854775807):(Lit.int .i64 x).wf=true:=by
 simp[Lit.wf,IntKind.min,IntKind.max,IntKind.signed,IntKind.bits];omega
def oL (x:ByteArray):Lit:=.string x.data.toList
theorem Af {x y:ByteArray} (h:oL x=oL y):x=y:=by
 unfold oL at h;injection h with h
 exact ByteArray.ext (Array.toList_inj.1 h)
theorem L6 {x:ByteArray} (h:x.size<=maxLen):keyOf Tryz.prog 9 (.string x)=some (oL x):=WideMaps.keyOf_string_mk Tryz.underlying9 h
def j3 (w:World) (m n:Nat) (D:DataW Unit):Prop:=w.ownsMap Tryz.prog 9 (plainElem (H:=Unit) Tryz.prog 3) m n D
theorem j3.lt {w:World} {m n:Nat} {D:DataW Unit} (h:j3 w m n D):m<w.heap.size:=World.ownsMap.lt h
theorem j3.block {w w':World} {m n:Nat} {D:DataW Unit} (h:j3 w m n D) (hb:w'.heap[m]?=w.heap[m]?):j3 w' m n D:=by
 obtain⟨es,clock,h1,h2⟩:=h;exact⟨es,clock,hb.trans h1,h2⟩
theorem j3.map {w:World} {m n:Nat} {D:DataW Unit} (h:j3 w m n D):∃ es clock,w.heap[m]?=some (.map es clock):=by
 obtain⟨es,clock,h1,h2⟩:=h;exact⟨es,clock,h1⟩
theorem Ae {a b:List (List Nat)} {k:List Nat} (h:k∈a):(a++b).idxOf k=a.idxOf k:=by rw[List.idxOf_append,if_pos h]
theorem xO {a b:List (List Nat)} {k:List Nat} (h:¬ k∈a):(a++b).idxOf k=b.idxOf k+a.length:=by rw[List.idxOf_append,if_neg h]
/-! ### What it gathers -/
def qM (l:List Tk) (k:List Nat):TR:=(k,dY l k,0,0)
def EX:Tk:=(0,⟨#[]⟩,0)
def kH (l:List Tk) (i j:Nat):Int:=if j<i then((((bg (l.take i)).1.idxOf (aM (l.getD j EX))):Nat):Int) else 0
theorem vH (a:List Tk) (x:Tk):bg (a++[x])=jo (bg a) (aM x):=zN a [x] ([],[])
theorem jY {l:List Tk} {i:Nat} {x:Tk} (hx:l[i]?=some x):l.take (i+1)=l.take i++[x]:=by
 rw[List.take_add_one,hx];rfl
theorem ry {l:List Tk} {i:Nat} {x:Tk} (hx:l[i]?=some x) (hm:aM x∈(bg (l.take i)).1):(bg (l.take (i+1))).1=(bg (l.take i)).1/\(((bg (l.take i)).1.map (qM (l.take i))).set ((bg (l.take i)).1.idxOf (aM x)) (aM x,dY (l.take i) (aM x)+1,0,0))=(bg (l.take (i+1))).1.map (qM (l.take (i+1))):=by
 have e:(bg (l.take (i+1))).1=(bg (l.take i)).1:=by
  rw[jY hx,vH];unfold jo;rw[if_pos hm]
 refine⟨e,?_⟩;rw[e];have hnd:=(gU (l.take i)).nd;have hlt:=List.idxOf_lt_length_of_mem hm;refine List.ext_getElem? fun j=>?_;rw[List.getElem?_set,List.getElem?_map,List.getElem?_map];by_cases hj:(bg (l.take i)).1.idxOf (aM x)=j
 ·subst hj;rw[if_pos rfl,if_pos (by rw[List.length_map];exact hlt),gZ hlt,List.getElem_idxOf];simp only[Option.map_some,Option.some.injEq,qM];rw[jY hx,jb,if_pos rfl]
 ·rw[if_neg hj];cases hpj:(bg (l.take i)).1[j]? with
  | none=>rfl
  | some k =>
   have hjl:=(eZ.1 hpj).1;have hje:=(eZ.1 hpj).2
   have hne:aM x≠k:=by
    intro e2;apply hj;rw[e2];conv=>lhs;rw[<- hje]
    exact hnd.idxOf_getElem j hjl
   simp only[Option.map_some,Option.some.injEq,qM];rw[jY hx,jb,if_neg hne];rfl
theorem wI {l:List Tk} {i:Nat} {x:Tk} (hx:l[i]?=some x) (hm:¬ aM x∈(bg (l.take i)).1):(bg (l.take (i+1))).1=(bg (l.take i)).1++[aM x]/\((bg (l.take i)).1.map (qM (l.take i))++[(aM x,1,0,0)])=(bg (l.take (i+1))).1.map (qM (l.take (i+1))):=by
 have e:(bg (l.take (i+1))).1=(bg (l.take i)).1++[aM x]:=by
  rw[jY hx,vH];unfold jo;rw[if_neg hm]
 refine⟨e,?_⟩;rw[e,List.map_append];congr 1
 ·refine List.map_congr_left fun k hk=>?_;unfold qM;rw[jY hx,jb,if_neg (by rintro rfl;exact hm hk)];rfl
 ·rw[List.map_cons,List.map_nil];unfold qM;rw[jY hx,jb,if_pos rfl];have:dY (l.take i) (aM x)=0:=List.count_eq_zero.2 fun e=>hm (((gU (l.take i)).mem _).2 e);rw[this]
theorem vB {l:List Tk} {i:Nat} {x:Tk} (hx:l[i]?=some x) (j:Nat):kH l (i+1) j=if j=i then((((bg (l.take (i+1))).1.idxOf (aM x)):Nat):Int) else kH l i j:=by
 unfold kH;rcases Nat.lt_trichotomy j i with e | e | e
 ·rw[if_pos oZ,if_neg oZ,if_pos e];have hlt:=(eZ.1 hx).1;have hj:l[j]?=some (l.getD j EX):=by rw[List.getD_eq_getElem?_getD,gZ oZ];rfl
  have hmem:aM (l.getD j EX)∈(bg (l.take i)).1:=((gU (l.take i)).mem _).2 (List.mem_map.2 ⟨_,List.mem_of_getElem? (i:=j) (by rw[List.getElem?_take,if_pos e];exact hj),rfl⟩);by_cases hm:aM x∈(bg (l.take i)).1
  ·rw[(ry hx hm).1]
  ·rw[(wI hx hm).1,Ae hmem]
 ·subst e;rw[if_pos oZ,if_pos rfl];have:l.getD j EX=x:=by rw[List.getD_eq_getElem?_getD,hx];rfl
  rw[this]
 ·rw[if_neg oZ,if_neg oZ,if_neg oZ]
def uR (D:DataW Unit) (K:List (List Nat)):Prop:=IsMap D/\∀ x:ByteArray,(ax x∈K->Maps.has D (oL x)=true/\D.atKey (oL x) (.lit (.int .i64 0))=.lit (.int .i64 ((K.idxOf (ax x):Nat):Int)))/\(¬ ax x∈K->Maps.has D (oL x)=false)
theorem GZ:uR (.map []) []:=⟨⟨[],rfl⟩,fun x=>⟨fun h=>by simp at h,fun _=>rfl⟩⟩
theorem uR.put {D:DataW Unit} {K:List (List Nat)} (h:uR D K) {x:ByteArray} (hx:¬ ax x∈K):uR (D.put (oL x) (.lit (.int .i64 ((K.length:Nat):Int)))) (K++[ax x]):=by
 have hk:WideAt.IsKeyLit (oL x):=trivial;refine⟨h.1.put _ _,fun y=>⟨fun hy=>?_,fun hy=>?_⟩⟩
 ·by_cases e:y=x
  ·subst e;rw[has_put_same h.1 hk,atKey_put_same h.1 hk,xO hx];simp
  ·have hne:oL y≠oL x:=fun h=>e (Af h)
   have hyK:ax y∈K:=by
    rcases List.mem_append.1 hy with h1 | h1
    ·exact h1
    ·simp at h1;exact absurd (Db h1) e
   rw[has_put_other hne,atKey_put_other hne,Ae hyK];exact(h.2 y).1 hyK
 ·have e:y≠x:=by
   rintro rfl;exact hy sZ
  have hne:oL y≠oL x:=fun h=>e (Af h);rw[has_put_other hne];exact(h.2 y).2 fun h=>hy (by simp[h])
theorem DC {w:World} {a b c d:Value} {t:TypeId}:∀ (j:Nat) (u:Value),[a,b,c,d][j]?=some u->(w.alloc (.cells #[a,b,c,d] t)).cell? ((⟨w.heap.size,0,none⟩:Addr).add j)=some u:=by
 intro j u hj;rw[Addr.add_lit,Lib.cell_of_heap (nZ w _)];rcases j with _|_|_|_|j <;> simp at hj ⊢ <;> exact hj
theorem Kc:(Tryz.prog.info? 223).map (fun i=>(i.zero,i.size,i.bytes))=some (some (.agg #[.string ⟨#[]⟩,.int .i64 0,.int .i64 0,.int .i64 0]),4,40):=kZ
theorem FO (k:Nat) (hk:k<=1000000) (w:World):(Instr.makeSlice 154 (.int .i64 k) (.int .i64 k)).run Tryz.prog w=.ok (.slice (some ⟨w.heap.size,0,none⟩) k k) (w.alloc (.cells (madeCells #[.int .i64 0] k) 3)) :=
 run_make_row' 154 3 (.int .i64 0) 8 Tryz.underlying154 kZ rfl .i64 .i64 k oZ oZ w
structure Jr (W:World) (gw m N:Nat) (l:List Tk) (i:Nat) (v:Value) (D:DataW Unit) (wr:World):Prop where
 tr:dR wr W.heap.size v ((bg (l.take i)).1.map (qM (l.take i)))
 which:wr.rowIs gw 3 N (fun j=>.int .i64 (kH l i j))
 map:j3 wr m i D
 rel:uR D (bg (l.take i)).1
 low:Below W.heap.size W wr
 ord:W.heap.size<=gw/\W.heap.size<=m
section
variable {W wr w':World} {gw m N i:Nat} {l:List Tk} {v:Value} {D:DataW Unit}
theorem Jr.below (h:Jr W gw m N l i v D wr) (hb:Below wr.heap.size wr w'):Jr W gw m N l i v D w' :=
 ⟨ak h.tr hb,World.rowIs.of_block h.which (hb.block _ (World.rowIs.lt h.which)),h.map.block (hb.block _ h.map.lt),h.rel,ag h.low hb,h.ord⟩
end
end Go.Proofs.YtafaohnhlgcnpaaGreatDoor
