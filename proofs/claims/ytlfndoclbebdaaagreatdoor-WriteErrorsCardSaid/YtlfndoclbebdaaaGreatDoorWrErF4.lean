/-
 What stage 12 rests on.
-/
import Derived.Test.YtlfndoclbebdaaaGreatDoorWrErA1
import Derived.Test.YtlfndoclbebdaaaGreatDoorWrErE5
import Derived.Deep.CutBlock
import Derived.Deep.DeepCutAuto
import Derived.Test.YtlfndoclbebdaaaGreatDoorWrErE3
import Derived.Test.YtlfndoclbebdaaaGreatDoorWrErD5
import Derived.Test.YtlfndoclbebdaaaGreatDoorWrErC1
import Derived.Test.YtlfndoclbebdaaaGreatDoorWrErB3
set_option maxRecDepth 100000
set_option maxHeartbeats 16000000
namespace Go.Proofs.YtlfndoclbebdaaaGreatDoor
open Go.RowKit
variable {α:Type}
variable {α:Type}
end Go.Proofs.YtlfndoclbebdaaaGreatDoor
namespace Go.Proofs.YtlfndoclbebdaaaGreatDoor
def rO (c:List Nat):List Nat->List (List Nat)
 | []=>if c=[] then [] else [c]
 | r :: l=>if dF (r:Int)=0 then(if c=[] then rO [] l else c :: rO [] l) else rO (c++[r]) l
def o6 (l:List Nat):List (List Nat):=rO [] l
def bV (c:List Nat):Prop:=∀ r∈c,dF (r:Int)≠0
theorem pG (c:List Nat):rO c []=if c=[] then [] else [c]:=rfl
theorem kJ (c l:List Nat) (r:Nat):rO c (r :: l)=if dF (r:Int)=0 then(if c=[] then rO [] l else c :: rO [] l) else rO (c++[r]) l:=rfl
theorem oG {c:List Nat} {r:Nat} (h:bV c) (hr:dF (r:Int)≠0):bV (c++[r]):=by
 intro x hx
 rcases List.mem_append.1 hx with hx | hx
 ·exact h x hx
 ·simp at hx;subst hx;exact hr
theorem uH:∀ (l c:List Nat),bV c->∀ q∈rO c l,q≠[]/\bV q/\∀ x∈q,x∈c∨x∈l
 | [],c,h,q,hq=>by
  rw[pG] at hq
  split at hq
  ·simp at hq
  ·simp at hq;subst hq;exact⟨by assumption,h,fun x hx=>.inl hx⟩
 | r :: l,c,h,q,hq=>by
  rw[kJ] at hq
  split at hq
  ·split at hq
   ·have:=uH l [] (by simp[bV]) q hq
    exact⟨this.1,this.2.1,fun x hx=>by have:=this.2.2 x hx;simp at this;simp[this]⟩
   ·rcases List.mem_cons.1 hq with rfl | hq
    ·exact⟨by assumption,h,fun x hx=>.inl hx⟩
    ·have:=uH l [] (by simp[bV]) q hq
     exact⟨this.1,this.2.1,fun x hx=>by have:=this.2.2 x hx;simp at this;simp[this]⟩
  ·have:=uH l (c++[r]) (oG h aZ) q hq
   refine⟨this.1,this.2.1,fun x hx=>?_⟩
   have:=this.2.2 x hx
   simp at this ⊢
   rcases this with (h | h) | h
   ·exact .inl h
   ·exact .inr (.inl h)
   ·exact .inr (.inr h)
theorem Bz:∀ (l c:List Nat),(rO c l).length<=l.length+1
 | [],c=>by rw[pG];split <;> simp
 | r :: l,c=>by
  rw[kJ]
  have h1:=Bz l []
  have h2:=Bz l (c++[r])
  split
  ·split <;> simp <;> omega
  ·simp;omega
/-! ### Each run's term -/
def iU (q:List Nat):List Nat:=(bD ja q).cur
theorem um:∀ (q c:List Nat) (f b:Bool),bV q->(bD ⟨[],c,f,b⟩ q).out=[]/\(bD ⟨[],c,f,b⟩ q).some=(b||!q.isEmpty)
 | [],c,f,b,_=>by simp[bD]
 | r :: q,c,f,b,h=>by
  have hr:=h r sZ
  have hq:bV q:=fun x hx=>h x (by simp[hx])
  rw[gQ]
  unfold dP
  rw[if_neg hr]
  split
  ·have:=um q c true true hq
   simp[this]
  ·have:=um q (c++encR (dI r)) f true hq
   simp[this]
theorem BN:∀ (l c:List Nat),bV c->(bD (bD ja c) (l++[32])).out=(rO c l).map iU
 | [],c,h=>by
  have ho:=um c [] false false h
  rw[List.nil_append,show bD (bD ja c) [32]=dP (bD ja c) 32 from rfl,pG]
  unfold dP
  rw[if_pos EG,show bD ja c=bD ⟨[],[],false,false⟩ c from rfl,ho.1,ho.2]
  cases c with
  | nil=>rfl
  | cons x c=>rfl
 | r :: l,c,h=>by
  have ho:=um c [] false false h
  rw[List.cons_append,gQ,kJ]
  by_cases hr:dF (r:Int)=0
  ·rw[if_pos hr]
   have hs:dP (bD ja c) r=⟨if c=[] then [] else [iU c],[],false,false⟩:=by
    unfold dP
    rw[if_pos hr,show bD ja c=bD ⟨[],[],false,false⟩ c from rfl,ho.1,ho.2]
    cases c with
    | nil=>rfl
    | cons x c=>rfl
   rw[hs]
   have h0:=BN l [] (by simp[bV])
   have hp:=x8 (if c=[] then [] else [iU c]) (l++[32]) ja
   simp only[ja,List.append_nil] at hp
   rw[hp]
   show _++(bD ja (l++[32])).out=_
   rw[show bD ja (l++[32])=bD (bD ja []) (l++[32]) from rfl,h0]
   split <;> simp
  ·rw[if_neg hr,<- xk]
   exact BN l (c++[r]) (oG h hr)
theorem Nb (l:List Nat):Qw l=(o6 l).map iU:=BN l [] (by simp[bV])
theorem NE (s:ByteArray):allT s=(o6 (runesOf s)).map iU:=Nb _
theorem Et:∀ (q c:List Nat) (o:List (List Nat)) (b:Bool),bV q->(bD ⟨o,c,true,b⟩ q).cur=c
 | [],c,o,b,_=>rfl
 | r :: q,c,o,b,h=>by
  rw[gQ]
  unfold dP
  rw[if_neg (h r sZ),if_pos (.inl rfl)]
  exact Et q c o true fun x hx=>h x (by simp[hx])
theorem Gv (r:Nat) (l:List Nat):ints (r :: l)=(r:Int) :: ints l:=rfl
theorem oU (r:Int) (l:List Int) (n:Int):mV (r :: l) n=if((encR (dS r)).length:Int)<=n then mV l (n-(encR (dS r)).length)+1 else 0:=rfl
theorem DR:∀ (q c:List Nat) (b:Bool),bV q->(∀ r∈q,okR r)->(bD ⟨[],c,false,b⟩ q).cur=c++lT ((q.map dI).take (mV (ints (q.map dI)) ((16:Int)-(c.length:Int))))
 | [],c,b,_,_=>by simp[bD,lT]
 | r :: q,c,b,h,ho=>by
  have hq:bV q:=fun x hx=>h x (by simp[hx])
  have hok:=(mG (ho r sZ)).2
  rw[gQ,List.map_cons,Gv,oU,iP hok]
  unfold dP
  rw[if_neg (h r sZ)]
  by_cases h16:16<c.length+(encR (dI r)).length
  ·rw[if_pos (.inr h16),if_neg oZ]
   rw[Et q c [] true hq]
   simp[lT]
  ·rw[if_neg uZ,if_pos oZ]
   rw[DR q _ true hq fun x hx=>ho x (by simp[hx])]
   have e:(16:Int)-((c++encR (dI r)).length:Int)=16-(c.length:Int)-((encR (dI r)).length:Int):=by rw[List.length_append];omega
   rw[e,List.take_succ_cons]
   simp[lT]
theorem vU:∀ (l:List Int) (n:Int) (m:Nat),n<=(m:Int)->mV (l.take m) n=mV l n
 | [],n,m,_=>sZ
 | r :: l,n,0,h=>by
  have h1:=(pJ (dS r)).1
  rw[List.take_zero,oU,if_neg oZ]
  rfl
 | r :: l,n,m+1,h=>by
  have h1:=(pJ (dS r)).1
  rw[List.take_succ_cons,oU,oU,vU l _ m oZ]
theorem Ht {l:List Nat} (h:∀ r∈l,okR r):jy (ints l)=ay (lT l):=by
 unfold jy
 rw[wK,Ai h]
theorem L6 {q:List Nat} {k:Nat} (hk:k=min q.length 16) (h:bV q) (ho:∀ r∈q,okR r) :
  jy ((ints (runesOf (jy (ints ((q.take k).map dI))))).take (mV (ints (runesOf (jy (ints ((q.take k).map dI))))) 16))=ay (iU q):=by
 have hf:∀ r∈q.map dI,okR r:=by
  intro x hx
  obtain⟨r,hr,rfl⟩:=List.mem_map.1 hx
  exact(mG (ho r hr)).2
 have hq:(q.take k).map dI=(q.map dI).take 16:=by
  rw[List.map_take]
  subst hk
  by_cases h16:q.length<=16
  ·rw[Nat.min_eq_left h16,List.take_of_length_le sZ,List.take_of_length_le (by simpa using h16)]
  ·rw[Nat.min_eq_right oZ]
 have hft:∀ r∈(q.map dI).take 16,okR r:=fun r hr=>hf r (List.mem_of_mem_take hr)
 rw[hq,FB,Ai hft,<- nU,vU _ _ 16 oZ,nU,nU]
 have hle:mV (ints (q.map dI)) 16<=16:=by
  have h1:=vU (ints (q.map dI)) 16 16 oZ
  have h2:=IR ((ints (q.map dI)).take 16) 16
  rw[List.length_take] at h2
  omega
 rw[List.take_take,Nat.min_eq_left hle,Ht fun r hr=>hf r (List.mem_of_mem_take hr)]
 have:=DR q [] false h ho
 unfold iU ja
 rw[this]
 simp
end Go.Proofs.YtlfndoclbebdaaaGreatDoor
namespace Go.Proofs.YtlfndoclbebdaaaGreatDoor
open Go.RowKit
variable {α:Type}
variable {α:Type}
theorem I7 {n:Nat} (h:n<=reachBytes):(n:Int)<=9223372036854775807:=by unfold reachBytes at h;omega
def uA (a:Int):Pr Int:=.load a fun v=>.ret v
def iD (a t:Int):Pr Unit:=.store a t (.ret ())
/-! ### The closure of a Find -/
/-! ### The closure of a Put -/
/-! ### The closure of a Read -/
/-! ### The closures of tails -/
/-! ### The closure of a Find on its way -/
end Go.Proofs.YtlfndoclbebdaaaGreatDoor
