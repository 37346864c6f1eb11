/-
 What stage 12 rests on.
-/
import Derived.Test.YtafaohnhlgcnpaaGreatDoorWrAlE5
import Derived.Test.YtafaohnhlgcnpaaGreatDoorWrAlE3
set_option maxRecDepth 100000
set_option maxHeartbeats 16000000
namespace Go.Proofs.YtafaohnhlgcnpaaGreatDoor
open Go.RowKit
variable {α:Type}
variable {α:Type}
end Go.Proofs.YtafaohnhlgcnpaaGreatDoor
namespace Go.Proofs.YtafaohnhlgcnpaaGreatDoor
def qj (c:List Nat):List Nat->List (List Nat)
 | []=>if c=[] then [] else [c]
 | r :: l=>if cO (r:Int)=0 then(if c=[] then qj [] l else c :: qj [] l) else qj (c++[r]) l
def mQ (l:List Nat):List (List Nat):=qj [] l
def bM (c:List Nat):Prop:=∀ r∈c,cO (r:Int)≠0
theorem nQ (c:List Nat):qj c []=if c=[] then [] else [c]:=rfl
theorem jw (c l:List Nat) (r:Nat):qj c (r :: l)=if cO (r:Int)=0 then(if c=[] then qj [] l else c :: qj [] l) else qj (c++[r]) l:=rfl
theorem mG {c:List Nat} {r:Nat} (h:bM c) (hr:cO (r:Int)≠0):bM (c++[r]):=by
 intro x hx;rcases List.mem_append.1 hx with hx | hx
 ·exact h x hx
 ·simp at hx;subst hx;exact hr
theorem qB:∀ (l c:List Nat),bM c->∀ q∈qj c l,q≠[]/\bM q/\∀ x∈q,x∈c∨x∈l
 | [],c,h,q,hq=>by
  rw[nQ] at hq;split at hq
  ·simp at hq
  ·simp at hq;subst hq;exact⟨by assumption,h,fun x hx=>.inl hx⟩
 | r :: l,c,h,q,hq=>by
  rw[jw] at hq;split at hq
  ·split at hq
   ·have:=qB l [] (by simp[bM]) q hq;exact⟨this.1,this.2.1,fun x hx=>by have:=this.2.2 x hx;simp at this;simp[this]⟩
   ·rcases List.mem_cons.1 hq with rfl | hq
    ·exact⟨by assumption,h,fun x hx=>.inl hx⟩
    ·have:=qB l [] (by simp[bM]) q hq;exact⟨this.1,this.2.1,fun x hx=>by have:=this.2.2 x hx;simp at this;simp[this]⟩
  ·have:=qB l (c++[r]) (mG h aZ) q hq;refine⟨this.1,this.2.1,fun x hx=>?_⟩;have:=this.2.2 x hx;simp at this ⊢;rcases this with (h | h) | h
   ·exact .inl h
   ·exact .inr (.inl h)
   ·exact .inr (.inr h)
theorem zP:∀ (l c:List Nat),(qj c l).length<=l.length+1
 | [],c=>by rw[nQ];split <;> simp
 | r :: l,c=>by
  rw[jw];have h1:=zP l [];have h2:=zP l (c++[r]);split
  ·split <;> simp <;> omega
  ·simp;omega
/-! ### Each run's term -/
def gT (q:List Nat):List Nat:=(bq gY q).cur
theorem rq:∀ (q c:List Nat) (f b:Bool),bM q->(bq ⟨[],c,f,b⟩ q).out=[]/\(bq ⟨[],c,f,b⟩ q).some=(b||!q.isEmpty)
 | [],c,f,b,_=>by simp[bq]
 | r :: q,c,f,b,h=>by
  have hr:=h r sZ;have hq:bM q:=fun x hx=>h x (by simp[hx]);rw[fC];unfold dG;rw[if_neg hr];split
  ·have:=rq q c true true hq;simp[this]
  ·have:=rq q (c++encR (dn r)) f true hq;simp[this]
theorem zW:∀ (l c:List Nat),bM c->(bq (bq gY c) (l++[32])).out=(qj c l).map gT
 | [],c,h=>by
  have ho:=rq c [] false false h;rw[List.nil_append,show bq (bq gY c) [32]=dG (bq gY c) 32 from rfl,nQ];unfold dG;rw[if_pos Cv,show bq gY c=bq ⟨[],[],false,false⟩ c from rfl,ho.1,ho.2];cases c with
  | nil=>rfl
  | cons x c=>rfl
 | r :: l,c,h=>by
  have ho:=rq c [] false false h;rw[List.cons_append,fC,jw];by_cases hr:cO (r:Int)=0
  ·rw[if_pos hr]
   have hs:dG (bq gY c) r=⟨if c=[] then [] else [gT c],[],false,false⟩:=by
    unfold dG;rw[if_pos hr,show bq gY c=bq ⟨[],[],false,false⟩ c from rfl,ho.1,ho.2];cases c with
    | nil=>rfl
    | cons x c=>rfl
   rw[hs];have h0:=zW l [] (by simp[bM]);have hp:=vO (if c=[] then [] else [gT c]) (l++[32]) gY;simp only[gY,List.append_nil] at hp;rw[hp];show _++(bq gY (l++[32])).out=_;rw[show bq gY (l++[32])=bq (bq gY []) (l++[32]) from rfl,h0];split <;> simp
  ·rw[if_neg hr,<- ut];exact zW l (c++[r]) (mG h hr)
theorem Hz (l:List Nat):Ma l=(mQ l).map gT:=zW l [] (by simp[bM])
theorem IQ (s:ByteArray):allT s=(mQ (aW s)).map gT:=Hz _
theorem AL:∀ (q c:List Nat) (o:List (List Nat)) (b:Bool),bM q->(bq ⟨o,c,true,b⟩ q).cur=c
 | [],c,o,b,_=>rfl
 | r :: q,c,o,b,h=>by
  rw[fC];unfold dG;rw[if_neg (h r sZ),if_pos (.inl rfl)];exact AL q c o true fun x hx=>h x (by simp[hx])
theorem CO (r:Nat) (l:List Nat):ints (r :: l)=(r:Int) :: ints l:=rfl
theorem mf (r:Int) (l:List Int) (n:Int):ll (r :: l) n=if((encR (dH r)).length:Int)<=n then ll l (n-(encR (dH r)).length)+1 else 0:=rfl
theorem BZ:∀ (q c:List Nat) (b:Bool),bM q->(∀ r∈q,gI r)->(bq ⟨[],c,false,b⟩ q).cur=c++ky ((q.map dn).take (ll (ints (q.map dn)) ((16:Int)-(c.length:Int))))
 | [],c,b,_,_=>by simp[bq,ky]
 | r :: q,c,b,h,ho=>by
  have hq:bM q:=fun x hx=>h x (by simp[hx]);have hok:=(kW (ho r sZ)).2;rw[fC,List.map_cons,CO,mf,gK hok];unfold dG;rw[if_neg (h r sZ)];by_cases h16:16<c.length+(encR (dn r)).length
  ·rw[if_pos (.inr h16),if_neg oZ];rw[AL q c [] true hq];simp[ky]
  ·rw[if_neg uZ,if_pos oZ];rw[BZ q _ true hq fun x hx=>ho x (by simp[hx])];have e:(16:Int)-((c++encR (dn r)).length:Int)=16-(c.length:Int)-((encR (dn r)).length:Int):=by rw[List.length_append];omega
   rw[e,List.take_succ_cons];simp[ky]
theorem sw:∀ (l:List Int) (n:Int) (m:Nat),n<=(m:Int)->ll (l.take m) n=ll l n
 | [],n,m,_=>sZ
 | r :: l,n,0,h=>by
  have h1:=(nL (dH r)).1;rw[List.take_zero,mf,if_neg oZ];rfl
 | r :: l,n,m+1,h=>by
  have h1:=(nL (dH r)).1;rw[List.take_succ_cons,mf,mf,sw l _ m oZ]
theorem DU {l:List Nat} (h:∀ r∈l,gI r):iK (ints l)=ay (ky l):=by
 unfold iK;rw[um,yf h]
theorem Jj {q:List Nat} {k:Nat} (hk:k=min q.length 16) (h:bM q) (ho:∀ r∈q,gI r) :
  iK ((ints (aW (iK (ints ((q.take k).map dn))))).take (ll (ints (aW (iK (ints ((q.take k).map dn))))) 16))=ay (gT q):=by
 have hf:∀ r∈q.map dn,gI r:=by
  intro x hx;obtain⟨r,hr,rfl⟩:=List.mem_map.1 hx;exact(kW (ho r hr)).2
 have hq:(q.take k).map dn=(q.map dn).take 16:=by
  rw[List.map_take];subst hk;by_cases h16:q.length<=16
  ·rw[Nat.min_eq_left h16,List.take_of_length_le sZ,List.take_of_length_le (by simpa using h16)]
  ·rw[Nat.min_eq_right oZ]
 have hft:∀ r∈(q.map dn).take 16,gI r:=fun r hr=>hf r (List.mem_of_mem_take hr);rw[hq,Cf,yf hft,<- lX,sw _ _ 16 oZ,lX,lX]
 have hle:ll (ints (q.map dn)) 16<=16:=by
  have h1:=sw (ints (q.map dn)) 16 16 oZ;have h2:=ET ((ints (q.map dn)).take 16) 16;rw[List.length_take] at h2;omega
 rw[List.take_take,Nat.min_eq_left hle,DU fun r hr=>hf r (List.mem_of_mem_take hr)];have:=BZ q [] false h ho;unfold gT gY;rw[this];simp
end Go.Proofs.YtafaohnhlgcnpaaGreatDoor
namespace Go.Proofs.YtafaohnhlgcnpaaGreatDoor
open Go.RowKit
variable {α:Type}
variable {α:Type}
theorem Gz {n:Nat} (h:n<=reachBytes):(n:Int)<=9223372036854775807:=by unfold reachBytes at h;omega
def qK (a:Int):Pr Int:=.load a fun v=>.ret v
def gG (a t:Int):Pr Unit:=.store a t (.ret ())
/-! ### The closure of a Find -/
/-! ### The closure of a Put -/
/-! ### The closure of a Read -/
/-! ### The closures of tails -/
/-! ### The closure of a Find on its way -/
end Go.Proofs.YtafaohnhlgcnpaaGreatDoor
