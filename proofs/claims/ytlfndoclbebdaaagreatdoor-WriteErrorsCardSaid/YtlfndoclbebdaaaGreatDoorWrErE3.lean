/-
 What stage 12 rests on.
-/
import Derived.Test.YtlfndoclbebdaaaGreatDoorWrErA1
import Derived.Test.YtlfndoclbebdaaaGreatDoorWrErD3
import Derived.BigQuiet
import Derived.Test.YtlfndoclbebdaaaGreatDoorWrErB1
set_option maxRecDepth 100000
set_option maxHeartbeats 16000000
namespace Go.Proofs.YtlfndoclbebdaaaGreatDoor
open Go.RowKit
theorem GN {w:World} {base:Nat} {v:Value} {l:List Nat} (h:jJ w base v l) (hn:v≠.slice none 0 0):∃ g cap,v=.slice (some ⟨g,0,none⟩) l.length cap/\base<=g/\g<w.heap.size/\l.length<=cap/\cap<=maxLen/\jF w (some ⟨g,0,none⟩) (l.map fun(r:Nat)=>(r:Int)):=by
 rcases h.2 with ⟨rfl,h0⟩ | ⟨g,cap,cur,rfl,hb,hg,hc,hm,_,ht⟩
 ·exact absurd rfl hn
 ·refine⟨g,cap,rfl,hb,(Array.getElem?_eq_some_iff.1 hg).1,hc,hm,?_⟩
  intro j r hj
  refine⟨_,rfl,World.ownsRow.cells h (g:=g) rfl j _ ?_⟩
  simp at hj ⊢
  obtain⟨a,ha,rfl⟩:=hj
  exact⟨a,ha,rfl⟩
theorem wK (l:List Int):gp l=lT (l.map dS):=by
 unfold gp lT
 rw[List.flatMap_map]
theorem uu (l:List Int):ax (jy l)=gp l:=bi _ (oM l)
theorem Gj (l:List Int):(jy l).size=(gp l).length:=by rw[<- aG,uu]
theorem FB (l:List Int):runesOf (jy l)=l.map dS:=by
 unfold runesOf
 rw[uu,wK]
 have h:=Gq (l.map dS) (by intro r hr;obtain⟨x,_,rfl⟩:=List.mem_map.1 hr;exact Ez x) []
 simpa [kE] using h
theorem rW (s:ByteArray):∀ r∈runesOf s,okR r:=JZ _
def ints (l:List Nat):List Int:=l.map fun(r:Nat)=>(r:Int)
theorem jd (l:List Nat):(ints l).length=l.length:=by simp[ints]
theorem nU (l:List Nat) (k:Nat):(ints l).take k=ints (l.take k):=by simp[ints]
theorem Ai {l:List Nat} (h:∀ r∈l,okR r):(ints l).map dS=l:=by
 unfold ints
 rw[List.map_map]
 conv=>rhs;rw[<- List.map_id l]
 exact List.map_congr_left fun r hr=>iP (h r hr)
theorem jl (s:ByteArray):(runesOf s).length<=s.size/\s.size<=4*(runesOf s).length:=by
 have h:=wI (ax s)
 rw[aG] at h
 exact h
/-! ### What fits -/
def mV:List Int->Int->Nat
 | [],_=>0
 | r :: l,n=>if((encR (dS r)).length:Int)<=n then mV l (n-(encR (dS r)).length)+1 else 0
theorem IR:∀ (l:List Int) (n:Int),mV l n<=l.length
 | [],_=>by simp[mV]
 | r :: l,n=>by
  unfold mV
  split
  ·have:=IR l (n-(encR (dS r)).length);simp;omega
  ·simp
end Go.Proofs.YtlfndoclbebdaaaGreatDoor
namespace Go.Proofs.YtlfndoclbebdaaaGreatDoor
def dI (r:Nat):Nat:=(ik (r:Int)).toNat
theorem mG {r:Nat} (h:okR r):((dI r:Nat):Int)=ik (r:Int)/\okR (dI r):=by
 have key:0<=ik (r:Int)/\okR (ik (r:Int)).toNat:=by
  unfold okR at *
  by_cases hn:r<1642
  ·have:=fold_small r hn
   omega
  ·rw[qi oZ]
   omega
 unfold dI
 exact⟨oZ,key.2⟩
where
 fold_small:∀ r:Nat,r<1642->0<=ik (r:Int)/\ik (r:Int)<1700:=by decide +kernel
theorem GH {r:Nat} (h:okR r):dI (dI r)=dI r/\dF ((dI r:Nat):Int)=dF (r:Int):=by
 have h1:=mG h
 have h2:=JB (r:Int)
 refine⟨?_,by rw[h1.1];exact h2.2⟩
 rw[show dI (dI r)=(ik ((dI r:Nat):Int)).toNat from rfl,h1.1,h2.1]
 rfl
/-! ### Rune by rune -/
structure kR where
 out:List (List Nat)
 cur:List Nat
 full:Bool
 some:Bool
def ja:kR:=⟨[],[],false,false⟩
def dP (st:kR) (r:Nat):kR :=
 if dF (r:Int)=0 then⟨if st.some then st.out++[st.cur] else st.out,[],false,false⟩
 else if st.full=true∨16<st.cur.length+(encR (dI r)).length then⟨st.out,st.cur,true,true⟩
 else⟨st.out,st.cur++encR (dI r),st.full,true⟩
def bD (st:kR) (l:List Nat):kR:=l.foldl dP st
def Qw (l:List Nat):List (List Nat):=(bD ja (l++[32])).out
def allT (s:ByteArray):List (List Nat):=Qw (runesOf s)
theorem zo (st:kR) (a b:List Nat):bD st (a++b)=bD (bD st a) b:=List.foldl_append
theorem xk (st:kR) (a:List Nat) (r:Nat):bD st (a++[r])=dP (bD st a) r:=by rw[zo];rfl
theorem gQ (st:kR) (r:Nat) (l:List Nat):bD st (r :: l)=bD (dP st r) l:=rfl
theorem Dz (o:List (List Nat)) (st:kR) (r:Nat):dP ⟨o++st.out,st.cur,st.full,st.some⟩ r=⟨o++(dP st r).out,(dP st r).cur,(dP st r).full,(dP st r).some⟩:=by
 unfold dP
 by_cases h1:dF (r:Int)=0
 ·rw[if_pos h1,if_pos h1]
  cases st.some <;> simp
 ·rw[if_neg h1,if_neg h1]
  by_cases h2:st.full=true∨16<st.cur.length+(encR (dI r)).length
  ·rw[if_pos h2,if_pos h2]
  ·rw[if_neg h2,if_neg h2]
theorem x8 (o:List (List Nat)):∀ (l:List Nat) (st:kR),bD ⟨o++st.out,st.cur,st.full,st.some⟩ l=⟨o++(bD st l).out,(bD st l).cur,(bD st l).full,(bD st l).some⟩
 | [],_=>rfl
 | r :: l,st=>by rw[gQ,gQ,Dz,x8 o l]
theorem EG:dF ((32:Nat):Int)=0:=by decide +kernel
/-! ### Case -/
/-! ### A term's own words -/
structure Term (t:List Nat):Prop where
 ex:∃ q:List Nat,q≠[]/\t=lT q/\∀ x∈q,okR x/\dF (x:Int)≠0/\dI x=x
 len:t.length<=16
structure pV (st:kR):Prop where
 out:∀ t∈st.out,Term t
 cur:st.some=true->Term st.cur
 no:st.some=false->st.cur=[]/\st.full=false
theorem PO:pV ja:=⟨by simp[ja],by simp[ja],fun _=>⟨rfl,rfl⟩⟩
theorem pV.step {st:kR} (h:pV st) {r:Nat} (hr:okR r):pV (dP st r):=by
 unfold dP
 by_cases h1:dF (r:Int)=0
 ·rw[if_pos h1]
  refine⟨?_,sZ,fun _=>⟨rfl,rfl⟩⟩
  cases hs:st.some
  ·simpa using h.out
  ·intro t ht
   simp at ht
   rcases ht with ht | rfl
   ·exact h.out t ht
   ·exact h.cur hs
 ·rw[if_neg h1]
  have hf:=mG hr
  have ho:=GH hr
  have hl:=pJ (dI r)
  by_cases h2:st.full=true∨16<st.cur.length+(encR (dI r)).length
  ·rw[if_pos h2]
   refine⟨h.out,fun _=>?_,sZ⟩
   cases hs:st.some
   ·obtain⟨hc,hfu⟩:=h.no hs
    rw[hc,hfu] at h2
    simp at h2
    omega
   ·exact h.cur hs
  ·rw[if_neg h2]
   refine⟨h.out,fun _=>⟨?_,?_⟩,sZ⟩
   ·cases hs:st.some
    ·obtain⟨hc,_⟩:=h.no hs
     refine⟨[dI r],sZ,by rw[hc];simp[lT],?_⟩
     intro x hx
     simp at hx
     subst hx
     exact⟨hf.2,by rw[ho.2];exact h1,ho.1⟩
    ·obtain⟨q,hq,hq2,hq3⟩:=(h.cur hs).ex
     refine⟨q++[dI r],sZ,?_,?_⟩
     ·simp only;rw[hq2];simp[lT]
     ·intro x hx
      rcases List.mem_append.1 hx with hx | hx
      ·exact hq3 x hx
      ·simp at hx
       subst hx
       exact⟨hf.2,by rw[ho.2];exact h1,ho.1⟩
   ·simp only[List.length_append]
    omega
theorem pV.run:∀ (l:List Nat) {st:kR},pV st->(∀ r∈l,okR r)->pV (bD st l)
 | [],_,h,_=>h
 | r :: l,st,h,hr=>by
  rw[gQ]
  exact pV.run l (h.step (hr r sZ)) fun x hx=>hr x (by simp[hx])
theorem Dp:okR 32:=dZ
theorem vk (s:ByteArray):∀ t∈allT s,Term t:=by
 refine(PO.run (runesOf s++[32]) fun r hr=>?_).out
 rcases List.mem_append.1 hr with h | h
 ·exact rW s r h
 ·simp at h;subst h;exact Dp
/-! ### Stop words, places -/
def gX:List (List Nat):=[[97],[97,110],[97,110,100],[97,114,101],[97,115],[97,116],[98,101],[98,121],[102,111,114],[105,110],[105,115],[105,116],[111,102],[111,110],[111,114],[116,104,101],[116,111]]
def lY (t:List Nat):Bool:=gX.contains t
def dw:Nat->List (List Nat)->List (List Nat×Nat)
 | _,[]=>[]
 | n,t :: l=>if lY t then dw (n+1) l else(t,n) :: dw (n+1) l
def bJ (s:ByteArray):List (List Nat×Nat):=dw 0 (allT s)
theorem rG:∀ (a b:List (List Nat)) (n:Nat),dw n (a++b)=dw n a++dw (n+a.length) b
 | [],b,n=>by simp[dw]
 | t :: a,b,n=>by
  rw[List.cons_append,dw,dw,rG a b (n+1),List.length_cons,show n+1+a.length=n+(a.length+1) by omega]
  split <;> rfl
theorem oJ:∀ (l:List (List Nat)) (n:Nat),(dw n l).length<=l.length
 | [],_=>by simp[dw]
 | t :: l,n=>by
  have:=oJ l (n+1)
  rw[dw]
  split
  ·simp;omega
  ·simp;omega
end Go.Proofs.YtlfndoclbebdaaaGreatDoor
namespace Go.Proofs.YtlfndoclbebdaaaGreatDoor
open Go.RowKit
structure Kept:Prop where
 runes:∀ (w:World) (s:ByteArray),s.size<=1000000->Calls Tryz.prog 154 #[.string s] w fun e w'=>∃ oa c,e=.returned (.slice oa (ints (runesOf s)).length c)/\(ints (runesOf s)).length<=c/\c<=maxLen/\jF w' oa (ints (runesOf s))/\Below w.heap.size w w'/\(oa=none->c=0)
 text:∀ (w:World) (oa:Option Addr) (c:Nat) (l:List Int),l.length<=1000000->l.length<=c->c<=maxLen->jF w oa l->(∀ r∈l,-2147483648<=r/\r<=2147483647)->Calls Tryz.prog 187 #[.slice oa l.length c] w fun e w'=>e=.returned (.string (jy l))/\Below w.heap.size w w'
 fit:∀ (w:World) (s:ByteArray) (n:Int),s.size<=1000000->-9223372036854775808<=n->n<=9223372036854775807->Calls Tryz.prog 186 #[.string s,.int .i64 n] w fun e w'=>e=.returned (.string (jy ((ints (runesOf s)).take (mV (ints (runesOf s)) n))))/\Below w.heap.size w w'
theorem NR {l:List Nat} (h:∀ r∈l,okR r):∀ r∈ints l,-2147483648<=r/\r<=2147483647:=by
 intro r hr
 obtain⟨x,hx,rfl⟩:=List.mem_map.1 hr
 have:=h x hx
 unfold okR at this
 omega
end Go.Proofs.YtlfndoclbebdaaaGreatDoor
