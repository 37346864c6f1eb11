/-
 What stage 12 rests on.
-/
import Derived.Test.YtafaohnhlgcnpaaGreatDoorWrAlH1
import Derived.Test.YtafaohnhlgcnpaaGreatDoorWrAlF1
set_option maxRecDepth 100000
set_option maxHeartbeats 16000000
namespace Go.Proofs.YtafaohnhlgcnpaaGreatDoor
open Go.RowKit
theorem uz:∀ n,qo (fun _=>none) n=0
 | 0=>rfl
 | n+1=>by
  show qo (fun _=>none) n+_=0;rw[uz n];rfl
def lw (n an ln:Nat):List Int:=(((List.replicate n (0:Int)).set (an+ln) 1).set (an+ln+1) (an:Int)).set 2 ((an+ln:Nat):Int)
theorem nK (n an ln:Nat):(lw n an ln).length=n:=by simp[lw]
theorem l6 (n an ln:Nat) {p:Nat} (h1:p≠2) (h2:p≠an+ln) (h3:p≠an+ln+1):(lw n an ln).getD p 0=0:=by
 unfold lw;rw[List.getD_eq_getElem?_getD,List.getElem?_set,if_neg (Ne.symm h1),List.getElem?_set,if_neg (Ne.symm h3),List.getElem?_set,if_neg (Ne.symm h2),List.getElem?_replicate];split <;> rfl
theorem WI.new {B S:Nat->Int} {C:Int} {m dd:Nat} {tt:Int} {n an ln:Nat} (hL:Laid B S C) (hC:(n:Int)=C) (hA:B 5=(an:Int)) (hln:(ln:Int)=1+4*(dd:Int)+(m:Int)) (hfit:(ln:Int)+2<=S 5) (hm0:0<m) (hm:m<=512) (hdd:dd<=64) (h0:0<=tt) (htt:tt<m) :
  WI B S C m dd tt 0 (lw n an ln) (aY an ln) (fun _=>none):=by
 have h5:=hL.pool (show 5<6 by omega);have h4:=hL.pool (show 4<6 by omega);have hn4:=hL.next 4 oZ
 have hs:df B dd=B 5+1+4*(dd:Int):=rfl;have hlen:=nK n an ln;have hu4:(aY an ln).used 4=0:=rfl;simp only[Nat.reduceAdd] at hn4;refine⟨hL,oZ,hm,hdd,htt,⟨oZ,fun y hy=>?_,⟨hm0,h4.1,oZ,oZ,oZ,fun i hi=>?_,fun i a k h=>jZ,fun i a k h=>jZ⟩,fun i a k h=>jZ,fun k hk=>?_,fun k hk=>⟨0,?_⟩,fun p h1 h2=>l6 _ _ _ oZ oZ oZ,fun i a k h=>jZ,fun i j a b k k' _ h=>jZ⟩,(by show [((an:Int),0,false)]=_;rw[hA];rfl),Nat.zero_le _,(by show (0:Int)=_;rw[uz];rfl),h0,l6 _ _ _ oZ oZ oZ,fun j hj=>oZ,fun j _ hj=>⟨?_,?_⟩,fun j hj=>oZ⟩
 ·unfold lw at hy;unfold U;rcases List.mem_or_eq_of_mem_set hy with hy | rfl
  ·rcases List.mem_or_eq_of_mem_set hy with hy | rfl
   ·rcases List.mem_or_eq_of_mem_set hy with hy | rfl
    ·rw[(List.mem_replicate.1 hy).2];omega
    ·omega
   ·omega
  ·omega
 ·exact l6 _ _ _ oZ oZ oZ
 ·by_cases e:k=5
  ·subst e;show 0<=(ln:Int)+2/\(ln:Int)+2<=S 5;omega
  ·have hu:(aY an ln).used k=0:=if_neg e;rw[hu];exact⟨oZ,hL.s0 k hk⟩
 ·have hu:(aY an ln).used k=0:=if_neg oZ;rw[hu];simp
 ·exact l6 _ _ _ oZ oZ oZ
 ·exact l6 _ _ _ oZ oZ oZ
structure CN (d t:Int) (s:Nat->Int) (bk rm:Int) (n an ln m dd:Nat):Prop where
 laid:Laid (aA (aB s bk rm)) (aB s bk rm) (n:Int)
 plan:ae (aA (aB s bk rm)) (aB s bk rm) (aA (aB s bk rm) 6) (slotsOf t) (bN d t)=ae (aA (aB s bk rm)) (aB s bk rm) (n:Int) (m:Int) (ln:Int)
 cells:aA (aB s bk rm) 6=(n:Int)
 dd_:d=(dd:Int)
 an_:aA (aB s bk rm) 5=(an:Int)
 ln_:(ln:Int)=1+4*(dd:Int)+(m:Int)
 m0:128<=m
 m1:m<=512
 tm:t<m
 t0:64<=t
 t1:t<=256
 d1:dd<=64
 a3:3<=an
 s0:0<=aB s bk rm 5
 fits:(an:Int)+aB s bk rm 5=(n:Int)
 n1:n<=65536
theorem Mh {d t:Int} {s:Nat->Int} {bk rm:Int} (h:ek d t s bk rm):∃ n an ln m dd:Nat,CN d t s bk rm n an ln m dd:=by
 have hL:=Ev h;have h5:=hL.pool (show 5<6 by omega);have hd0:=h.1.d0;have hd1:=h.1.d1;have ht0:=h.1.t0;have ht1:=h.1.t1;have hc:=h.2;have hb6:aA (aB s bk rm) 6=aA (aB s bk rm) 5+aB s bk rm 5:=rfl
 have hsl:128<=slotsOf t/\slotsOf t<=512/\t<slotsOf t:=by
  unfold slotsOf;split
  ·omega
  ·split <;> omega
 have hlv:bN d t=1+4*d+slotsOf t:=rfl;obtain⟨n,hn⟩:=Int.eq_ofNat_of_zero_le (show 0<=aA (aB s bk rm) 6 by omega);obtain⟨an,han⟩:=Int.eq_ofNat_of_zero_le (show 0<=aA (aB s bk rm) 5 by omega);obtain⟨m,hm⟩:=Int.eq_ofNat_of_zero_le (show 0<=slotsOf t by omega);obtain⟨dd,hdd⟩:=Int.eq_ofNat_of_zero_le (show 0<=d by omega);obtain⟨ln,hln⟩:=Int.eq_ofNat_of_zero_le (show 0<=bN d t by omega);refine⟨n,an,ln,m,dd,⟨by rw[<- hn];exact hL,by rw[hn,hm,hln],hn,hdd,han,oZ,oZ,oZ,oZ,ht0,ht1,oZ,oZ,h5.2.1,oZ,oZ⟩⟩
theorem CN.new {d t:Int} {s:Nat->Int} {bk rm:Int} {n an ln m dd:Nat} (h:CN d t s bk rm n an ln m dd) (hfit:(ln:Int)+2<=aB s bk rm 5):WI (aA (aB s bk rm)) (aB s bk rm) (n:Int) m dd t 0 (lw n an ln) (aY an ln) (fun _=>none) :=
 WI.new h.laid rfl h.an_ h.ln_ hfit (by have:=h.m0;omega) h.m1 h.d1 (by have:=h.t0;omega) h.tm
def LV (k:Nat):Int:=[2,1,0,0].getD k 0
def Lb:List ByteArray:=[⟨#[102,111,120,32,102,111,120]⟩]
abbrev He:Nat->Int:=aB LV 20 200
abbrev zw:Nat->Int:=aA He
theorem I5:ek ((2:Nat):Int) 64 LV 20 200 :=
 ⟨{d0:=dZ,d1:=dZ,t0:=dZ,t1:=dZ,s0:=dZ,s1:=dZ,b0:=dZ,b1:=dZ,r0:=dZ,r1:=by decide},dZ⟩
theorem KY:CN ((2:Nat):Int) 64 LV 20 200 247 47 137 128 2 :=
 {laid:=Ev I5,plan:=by
   rw[show aA (aB LV 20 200) 6=((247:Nat):Int) from by decide,show slotsOf 64=((128:Nat):Int) from by decide,show bN ((2:Nat):Int) 64=((137:Nat):Int) from by decide]
  cells:=dZ,dd_:=rfl,an_:=dZ,ln_:=dZ,m0:=dZ,m1:=dZ,tm:=dZ,t0:=dZ,t1:=dZ,d1:=dZ,a3:=dZ,s0:=dZ,fits:=dZ,n1:=by decide}
theorem KV:zw 5=47:=dZ
theorem MC:iN Lb=0:=by decide +kernel
theorem Jy:(bO (lw 247 47 137) 7 0 (aY 47 137).aC).2.2=false:=by decide +kernel
theorem I4:(aY 47 137).terms+dA (gm (lw 247 47 137) (fun _=>none) 128 (dz Lb))<=64:=by decide +kernel
theorem KD:iq (aY 47 137).used (eT zw He (gm (lw 247 47 137) (fun _=>none) 128 (dz Lb))) He=true:=by decide +kernel
def xe (dead:Prop) (v:Int) (nd:Nat) (cs:List Int) (x:Sx):Prop:=nd=1/\bA cs (zw 5+1+1)=7/\(bA cs (zw 5+1+3)≠0↔dead)/\x.bT=v
theorem LC {e:Int} {cs':List Int} {x':Sx} {nd':Nat} {d':bK} (g:kL zw He (247:Nat) 128 2 64 0 7 Lb (lw 247 47 137) (aY 47 137) (fun _=>none) e cs' x' nd' d'):xe False 1 nd' cs' x':=by
 have he:e=0:=by
  cases g.out with
  | long h=>exact absurd MC h
  | dup _ h=>exact absurd h (by rw[Jy];decide)
  | Ee _ _ h=>omega
  | terms _ _ _ h=>exact absurd I4 oZ
  | full _ _ _ _ h=>exact absurd h (by rw[KD];decide)
  | ok=>rfl
 obtain⟨r1,r2,-⟩:=g.rows he;obtain⟨h0,-⟩ | ⟨-,h1,h2⟩:=g.bT
 ·exact absurd he h0
 ·refine⟨h2,?_,?_,h1⟩
  ·rw[<- r1];congr 1
  ·rw[show zw 5+1+3=zw 5+1+4*((0:Nat):Int)+3 by omega,r2];simp
theorem zB {cs:List Int} {x:Sx} {nd:Nat} (hs:x.aC=[(zw 5,(nd:Int),false)]) (h1:nd=1) (h7:bA cs (zw 5+1+1)=7):bO cs 7 0 x.aC=(((0:Nat):Int),((0:Nat):Int),true):=by
 subst h1
 have hf:iU cs (bP (zw 5,((1:Nat):Int),false)) ((1:Nat):Int).toNat 7=0:=by
  show kR cs (zw 5+1) 7 1 0=0;unfold kR;rw[if_pos (by rw[<- h7];congr 1)];rfl
 rw[hs];unfold bO;rw[hf];rfl
section
variable {dead:Prop} {C:Int} {m dd:Nat} {tt:Int} {nd nd':Nat} {cs cs':List Int} {x x':Sx} {d d':bK} {e:Int} {v:Int}
theorem Ll (hI:WI zw He C m dd tt nd cs x d) (hP:xe dead v nd cs x) (g:kL zw He C m dd tt nd 7 Lb cs x d e cs' x' nd' d'):xe dead v nd' cs' x':=by
 have hp:=zB hI.aC hP.1 hP.2.1
 have he:e≠0:=by
  cases g.out with
  | long h=>exact h
  | dup _ h=>decide
  | Ee _ h=>rw[hp] at h;cases h
  | terms _ h=>rw[hp] at h;cases h
  | full _ h=>rw[hp] at h;cases h
  | ok _ h=>rw[hp] at h;cases h
 obtain⟨-,h1,h2,h3⟩ | ⟨h0,-⟩:=g.bT
 ·rw[h1,h2,h3];exact hP
 ·exact absurd h0 he
theorem Iw (hI:WI zw He C m dd tt nd cs x d) (hP:xe False 1 nd cs x) (g:kJ zw He C m dd tt nd 7 cs x d e cs' x'):xe True 2 nd cs' x':=by
 have hp:=zB hI.aC hP.1 hP.2.1;have hb:=KV
 have ht:bA cs 51=0:=by
  have:=hP.2.2.1;rw[hb] at this;simpa using this
 have hv:=hP.2.2.2;cases g.out with
 | none h=>rw[hp] at h;cases h
 | dead h hk ha _ h0 =>
  rw[hp] at h;injection h with _ h
  injection h with h _
  exact absurd (show cs.getD _ 0=0 from by rw[<- ht];unfold bA;congr 1;omega) h0
 | live h hk ha _ h0 =>
  rename_i k a _
  rw[hp] at h;injection h with _ h
  injection h with h _
  have ha51:a=51:=oZ;subst ha51;have hu:u32 (x.bT+1)=2:=by rw[hv];decide
  refine⟨hP.1,?_,?_,hu⟩
  ·rw[<- hP.2.1,bJ _ _ _ _ oZ,if_neg oZ,bJ _ _ _ _ oZ,if_neg oZ]
  ·rw[hb,hu,bJ _ _ _ _ oZ,if_neg oZ,bJ _ _ _ _ oZ,if_pos ⟨oZ,oZ⟩];simp
theorem Ko (hI:WI zw He C m dd tt nd cs x d) (hP:xe True 2 nd cs x) (g:kJ zw He C m dd tt nd 7 cs x d e cs' x'):xe True 2 nd cs' x':=by
 have hp:=zB hI.aC hP.1 hP.2.1;have hb:=KV
 have ht:bA cs 51≠0:=by
  have:=hP.2.2.1;rw[hb] at this;exact this.2 trivial
 cases g.out with
 | none h=>exact hP
 | dead=>exact hP
 | live h hk ha _ h0 =>
  rename_i k a _
  rw[hp] at h;injection h with _ h
  injection h with h _
  have ha51:a=51:=oZ;subst ha51;exact absurd h0 ht
end
end Go.Proofs.YtafaohnhlgcnpaaGreatDoor
