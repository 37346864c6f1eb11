/-
 What stage 12 rests on.
-/
import Derived.Test.YtlfndoclbebdaaaGreatDoorWrAlA1
import Derived.Test.YtlfndoclbebdaaaGreatDoorWrAlH1
import Derived.Test.YtlfndoclbebdaaaGreatDoorWrAlF1
import Derived.Test.YtlfndoclbebdaaaGreatDoorWrAlG5
set_option maxRecDepth 100000
set_option maxHeartbeats 16000000
namespace Go.Proofs.YtlfndoclbebdaaaGreatDoor
open Go.RowKit
theorem wH:∀ n,sW (fun _=>none) n=0
 | 0=>rfl
 | n+1=>by
  show sW (fun _=>none) n+_=0
  rw[wH n]
  rfl
def nI (n an ln:Nat):List Int:=(((List.replicate n (0:Int)).set (an+ln) 1).set (an+ln+1) (an:Int)).set 2 ((an+ln:Nat):Int)
theorem qf (n an ln:Nat):(nI n an ln).length=n:=by simp[nI]
theorem oz (n an ln:Nat) {p:Nat} (h1:p≠2) (h2:p≠an+ln) (h3:p≠an+ln+1):(nI n an ln).getD p 0=0:=by
 unfold nI
 rw[List.getD_eq_getElem?_getD,List.getElem?_set,if_neg (Ne.symm h1),List.getElem?_set,if_neg (Ne.symm h3),List.getElem?_set,if_neg (Ne.symm h2),List.getElem?_replicate]
 split <;> rfl
theorem WI.new {B S:Nat->Int} {C:Int} {m dd:Nat} {tt:Int} {n an ln:Nat} (hL:Laid B S C) (hC:(n:Int)=C) (hA:B 5=(an:Int)) (hln:(ln:Int)=1+4*(dd:Int)+(m:Int)) (hfit:(ln:Int)+2<=S 5) (hm0:0<m) (hm:m<=512) (hdd:dd<=64) (h0:0<=tt) (htt:tt<m) :
  WI B S C m dd tt 0 (nI n an ln) (bn an ln) (fun _=>none):=by
 have h5:=hL.pool (show 5<6 by omega)
 have h4:=hL.pool (show 4<6 by omega)
 have hn4:=hL.next 4 oZ
 have hs:eP B dd=B 5+1+4*(dd:Int):=rfl
 have hlen:=qf n an ln
 have hu4:(bn an ln).used 4=0:=rfl
 simp only[Nat.reduceAdd] at hn4
 refine⟨hL,oZ,hm,hdd,htt,⟨oZ,fun y hy=>?_,⟨hm0,h4.1,oZ,oZ,oZ,fun i hi=>?_,fun i a k h=>jZ,fun i a k h=>jZ⟩,fun i a k h=>jZ,fun k hk=>?_,fun k hk=>⟨0,?_⟩,fun p h1 h2=>oz _ _ _ oZ oZ oZ,fun i a k h=>jZ,fun i j a b k k' _ h=>jZ⟩,(by show [((an:Int),0,false)]=_;rw[hA];rfl),Nat.zero_le _,(by show (0:Int)=_;rw[wH];rfl),h0,oz _ _ _ oZ oZ oZ,fun j hj=>oZ,fun j _ hj=>⟨?_,?_⟩,fun j hj=>oZ⟩
 ·unfold nI at hy
  unfold U
  rcases List.mem_or_eq_of_mem_set hy with hy | rfl
  ·rcases List.mem_or_eq_of_mem_set hy with hy | rfl
   ·rcases List.mem_or_eq_of_mem_set hy with hy | rfl
    ·rw[(List.mem_replicate.1 hy).2]
     omega
    ·omega
   ·omega
  ·omega
 ·exact oz _ _ _ oZ oZ oZ
 ·by_cases e:k=5
  ·subst e
   show 0<=(ln:Int)+2/\(ln:Int)+2<=S 5
   omega
  ·have hu:(bn an ln).used k=0:=if_neg e
   rw[hu]
   exact⟨oZ,hL.s0 k hk⟩
 ·have hu:(bn an ln).used k=0:=if_neg oZ
  rw[hu]
  simp
 ·exact oz _ _ _ oZ oZ oZ
 ·exact oz _ _ _ oZ oZ oZ
structure CN (d t:Int) (s:Nat->Int) (bk rm:Int) (n an ln m dd:Nat):Prop where
 laid:Laid (az (aB s bk rm)) (aB s bk rm) (n:Int)
 plan:af (az (aB s bk rm)) (aB s bk rm) (az (aB s bk rm) 6) (slotsOf t) (bY d t)=af (az (aB s bk rm)) (aB s bk rm) (n:Int) (m:Int) (ln:Int)
 cells:az (aB s bk rm) 6=(n:Int)
 dd_:d=(dd:Int)
 an_:az (aB s bk rm) 5=(an:Int)
 ln_:(ln:Int)=1+4*(dd:Int)+(m:Int)
 m0:128<=m
 m1:m<=512
 tm:t<m
 t0:64<=t
 t1:t<=256
 d1:dd<=64
 a3:3<=an
 s0:0<=aB s bk rm 5
 fits:(an:Int)+aB s bk rm 5=(n:Int)
 n1:n<=65536
theorem QK {d t:Int} {s:Nat->Int} {bk rm:Int} (h:fU d t s bk rm):∃ n an ln m dd:Nat,CN d t s bk rm n an ln m dd:=by
 have hL:=IC h
 have h5:=hL.pool (show 5<6 by omega)
 have hd0:=h.1.d0
 have hd1:=h.1.d1
 have ht0:=h.1.t0
 have ht1:=h.1.t1
 have hc:=h.2
 have hb6:az (aB s bk rm) 6=az (aB s bk rm) 5+aB s bk rm 5:=rfl
 have hsl:128<=slotsOf t/\slotsOf t<=512/\t<slotsOf t:=by
  unfold slotsOf
  split
  ·omega
  ·split <;> omega
 have hlv:bY d t=1+4*d+slotsOf t:=rfl
 obtain⟨n,hn⟩:=Int.eq_ofNat_of_zero_le (show 0<=az (aB s bk rm) 6 by omega)
 obtain⟨an,han⟩:=Int.eq_ofNat_of_zero_le (show 0<=az (aB s bk rm) 5 by omega)
 obtain⟨m,hm⟩:=Int.eq_ofNat_of_zero_le (show 0<=slotsOf t by omega)
 obtain⟨dd,hdd⟩:=Int.eq_ofNat_of_zero_le (show 0<=d by omega)
 obtain⟨ln,hln⟩:=Int.eq_ofNat_of_zero_le (show 0<=bY d t by omega)
 refine⟨n,an,ln,m,dd,⟨by rw[<- hn];exact hL,by rw[hn,hm,hln],hn,hdd,han,oZ,oZ,oZ,oZ,ht0,ht1,oZ,oZ,h5.2.1,oZ,oZ⟩⟩
theorem CN.new {d t:Int} {s:Nat->Int} {bk rm:Int} {n an ln m dd:Nat} (h:CN d t s bk rm n an ln m dd) (hfit:(ln:Int)+2<=aB s bk rm 5):WI (az (aB s bk rm)) (aB s bk rm) (n:Int) m dd t 0 (nI n an ln) (bn an ln) (fun _=>none) :=
 WI.new h.laid rfl h.an_ h.ln_ hfit (by have:=h.m0;omega) h.m1 h.d1 (by have:=h.t0;omega) h.tm
def Qo (k:Nat):Int:=[2,1,0,0].getD k 0
def PU:List ByteArray:=[⟨#[102,111,120,32,102,111,120]⟩]
abbrev KZ:Nat->Int:=aB Qo 20 200
abbrev A7:Nat->Int:=az KZ
theorem LU:fU ((2:Nat):Int) 64 Qo 20 200 :=
 ⟨{d0:=dZ,d1:=dZ,t0:=dZ,t1:=dZ,s0:=dZ,s1:=dZ,b0:=dZ,b1:=dZ,r0:=dZ,r1:=by decide},dZ⟩
theorem PK:CN ((2:Nat):Int) 64 Qo 20 200 247 47 137 128 2 :=
 {laid:=IC LU,plan:=by
   rw[show az (aB Qo 20 200) 6=((247:Nat):Int) from by decide,show slotsOf 64=((128:Nat):Int) from by decide,show bY ((2:Nat):Int) 64=((137:Nat):Int) from by decide]
  cells:=dZ,dd_:=rfl,an_:=dZ,ln_:=dZ,m0:=dZ,m1:=dZ,tm:=dZ,t0:=dZ,t1:=dZ,d1:=dZ,a3:=dZ,s0:=dZ,fits:=dZ,n1:=by decide}
theorem PM:A7 5=47:=dZ
theorem QU:jM PU=0:=by decide +kernel
theorem Oq:(df (nI 247 47 137) 7 0 (bn 47 137).aH).2.2=false:=by decide +kernel
theorem MF:(bn 47 137).terms+dJ (iK (nI 247 47 137) (fun _=>none) 128 (dQ PU))<=64:=by decide +kernel
theorem OX:je (bn 47 137).used (fZ A7 KZ (iK (nI 247 47 137) (fun _=>none) 128 (dQ PU))) KZ=true:=by decide +kernel
def zJ (dead:Prop) (v:Int) (nd:Nat) (cs:List Int) (x:Sx):Prop:=nd=1/\bK cs (A7 5+1+1)=7/\(bK cs (A7 5+1+3)≠0↔dead)/\x.dR=v
theorem Qa {e:Int} {cs':List Int} {x':Sx} {nd':Nat} {d':dm} (g:tN A7 KZ (247:Nat) 128 2 64 0 7 PU (nI 247 47 137) (bn 47 137) (fun _=>none) e cs' x' nd' d'):zJ False 1 nd' cs' x':=by
 have he:e=0:=by
  cases g.out with
  | long h=>exact absurd QU h
  | dup _ h=>exact absurd h (by rw[Oq];decide)
  | Jo _ _ h=>omega
  | terms _ _ _ h=>exact absurd MF oZ
  | full _ _ _ _ h=>exact absurd h (by rw[OX];decide)
  | ok=>rfl
 obtain⟨r1,r2,-⟩:=g.rows he
 obtain⟨h0,-⟩ | ⟨-,h1,h2⟩:=g.dR
 ·exact absurd he h0
 ·refine⟨h2,?_,?_,h1⟩
  ·rw[<- r1];congr 1
  ·rw[show A7 5+1+3=A7 5+1+4*((0:Nat):Int)+3 by omega,r2];simp
theorem BC {cs:List Int} {x:Sx} {nd:Nat} (hs:x.aH=[(A7 5,(nd:Int),false)]) (h1:nd=1) (h7:bK cs (A7 5+1+1)=7):df cs 7 0 x.aH=(((0:Nat):Int),((0:Nat):Int),true):=by
 subst h1
 have hf:kD cs (dN (A7 5,((1:Nat):Int),false)) ((1:Nat):Int).toNat 7=0:=by
  show mM cs (A7 5+1) 7 1 0=0
  unfold mM
  rw[if_pos (by rw[<- h7];congr 1)]
  rfl
 rw[hs]
 unfold df
 rw[hf]
 rfl
section
variable {dead:Prop} {C:Int} {m dd:Nat} {tt:Int} {nd nd':Nat} {cs cs':List Int} {x x':Sx} {d d':dm} {e:Int} {v:Int}
theorem Qx (hI:WI A7 KZ C m dd tt nd cs x d) (hP:zJ dead v nd cs x) (g:tN A7 KZ C m dd tt nd 7 PU cs x d e cs' x' nd' d'):zJ dead v nd' cs' x':=by
 have hp:=BC hI.aH hP.1 hP.2.1
 have he:e≠0:=by
  cases g.out with
  | long h=>exact h
  | dup _ h=>decide
  | Jo _ h=>rw[hp] at h;cases h
  | terms _ h=>rw[hp] at h;cases h
  | full _ h=>rw[hp] at h;cases h
  | ok _ h=>rw[hp] at h;cases h
 obtain⟨-,h1,h2,h3⟩ | ⟨h0,-⟩:=g.dR
 ·rw[h1,h2,h3];exact hP
 ·exact absurd h0 he
theorem Ls (hI:WI A7 KZ C m dd tt nd cs x d) (hP:zJ False 1 nd cs x) (g:uI A7 KZ C m dd tt nd 7 cs x d e cs' x'):zJ True 2 nd cs' x':=by
 have hp:=BC hI.aH hP.1 hP.2.1
 have hb:=PM
 have ht:bK cs 51=0:=by
  have:=hP.2.2.1
  rw[hb] at this
  simpa using this
 have hv:=hP.2.2.2
 cases g.out with
 | none h=>rw[hp] at h;cases h
 | dead h hk ha _ h0 =>
  rw[hp] at h
  injection h with _ h
  injection h with h _
  exact absurd (show cs.getD _ 0=0 from by rw[<- ht];unfold bK;congr 1;omega) h0
 | live h hk ha _ h0 =>
  rename_i k a _
  rw[hp] at h
  injection h with _ h
  injection h with h _
  have ha51:a=51:=oZ
  subst ha51
  have hu:u32 (x.dR+1)=2:=by rw[hv];decide
  refine⟨hP.1,?_,?_,hu⟩
  ·rw[<- hP.2.1,bU _ _ _ _ oZ,if_neg oZ,bU _ _ _ _ oZ,if_neg oZ]
  ·rw[hb,hu,bU _ _ _ _ oZ,if_neg oZ,bU _ _ _ _ oZ,if_pos ⟨oZ,oZ⟩]
   simp
theorem PE (hI:WI A7 KZ C m dd tt nd cs x d) (hP:zJ True 2 nd cs x) (g:uI A7 KZ C m dd tt nd 7 cs x d e cs' x'):zJ True 2 nd cs' x':=by
 have hp:=BC hI.aH hP.1 hP.2.1
 have hb:=PM
 have ht:bK cs 51≠0:=by
  have:=hP.2.2.1
  rw[hb] at this
  exact this.2 trivial
 cases g.out with
 | none h=>exact hP
 | dead=>exact hP
 | live h hk ha _ h0 =>
  rename_i k a _
  rw[hp] at h
  injection h with _ h
  injection h with h _
  have ha51:a=51:=oZ
  subst ha51
  exact absurd h0 ht
end
end Go.Proofs.YtlfndoclbebdaaaGreatDoor
