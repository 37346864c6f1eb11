/-
 What stage 12 rests on.
-/
import Derived.Test.YtafaohnhlgcnpaaGreatDoorWrAlD3
import Derived.Test.YtafaohnhlgcnpaaGreatDoorWrAlB1
set_option maxRecDepth 100000
set_option maxHeartbeats 16000000
namespace Go.Proofs.YtafaohnhlgcnpaaGreatDoor
open Go.RowKit
theorem Ej {w:World} {base:Nat} {v:Value} {l:List Nat} (h:iV w base v l) (hn:v≠.slice none 0 0):∃ g cap,v=.slice (some ⟨g,0,none⟩) l.length cap/\base<=g/\g<w.heap.size/\l.length<=cap/\cap<=maxLen/\iR w (some ⟨g,0,none⟩) (l.map fun(r:Nat)=>(r:Int)):=by
 rcases h.2 with ⟨rfl,h0⟩ | ⟨g,cap,cur,rfl,hb,hg,hc,hm,_,ht⟩
 ·exact absurd rfl hn
 ·refine⟨g,cap,rfl,hb,(Array.getElem?_eq_some_iff.1 hg).1,hc,hm,?_⟩;intro j r hj;refine⟨_,rfl,World.ownsRow.cells h (g:=g) rfl j _ ?_⟩;simp at hj ⊢;obtain⟨a,ha,rfl⟩:=hj;exact⟨a,ha,rfl⟩
theorem um (l:List Int):fq l=ky (l.map dH):=by
 unfold fq ky;rw[List.flatMap_map]
theorem rD (l:List Int):ax (iK l)=fq l:=aX _ (mH l)
theorem Dc (l:List Int):(iK l).size=(fq l).length:=by rw[<- aD,rD]
theorem Cf (l:List Int):aW (iK l)=l.map dH:=by
 unfold aW;rw[rD,um];have h:=Eg (l.map dH) (by intro r hr;obtain⟨x,_,rfl⟩:=List.mem_map.1 hr;exact BJ x) [];simpa [jr] using h
theorem pI (s:ByteArray):∀ r∈aW s,gI r:=Fh _
def ints (l:List Nat):List Int:=l.map fun(r:Nat)=>(r:Int)
theorem ig (l:List Nat):(ints l).length=l.length:=by simp[ints]
theorem lX (l:List Nat) (k:Nat):(ints l).take k=ints (l.take k):=by simp[ints]
theorem yf {l:List Nat} (h:∀ r∈l,gI r):(ints l).map dH=l:=by
 unfold ints;rw[List.map_map];conv=>rhs;rw[<- List.map_id l]
 exact List.map_congr_left fun r hr=>gK (h r hr)
theorem iG (s:ByteArray):(aW s).length<=s.size/\s.size<=4*(aW s).length:=by
 have h:=ui (ax s);rw[aD] at h;exact h
/-! ### What fits -/
def ll:List Int->Int->Nat
 | [],_=>0
 | r :: l,n=>if((encR (dH r)).length:Int)<=n then ll l (n-(encR (dH r)).length)+1 else 0
theorem ET:∀ (l:List Int) (n:Int),ll l n<=l.length
 | [],_=>by simp[ll]
 | r :: l,n=>by
  unfold ll;split
  ·have:=ET l (n-(encR (dH r)).length);simp;omega
  ·simp
end Go.Proofs.YtafaohnhlgcnpaaGreatDoor
namespace Go.Proofs.YtafaohnhlgcnpaaGreatDoor
def dn (r:Nat):Nat:=(fK (r:Int)).toNat
theorem kW {r:Nat} (h:gI r):((dn r:Nat):Int)=fK (r:Int)/\gI (dn r):=by
 have key:0<=fK (r:Int)/\gI (fK (r:Int)).toNat:=by
  unfold gI at *;by_cases hn:r<1642
  ·have:=fold_small r hn;omega
  ·rw[mW oZ];omega
 unfold dn;exact⟨oZ,key.2⟩
where
 fold_small:∀ r:Nat,r<1642->0<=fK (r:Int)/\fK (r:Int)<1700:=by decide +kernel
theorem D6 {r:Nat} (h:gI r):dn (dn r)=dn r/\cO ((dn r:Nat):Int)=cO (r:Int):=by
 have h1:=kW h;have h2:=GD (r:Int);refine⟨?_,by rw[h1.1];exact h2.2⟩;rw[show dn (dn r)=(fK ((dn r:Nat):Int)).toNat from rfl,h1.1,h2.1];rfl
/-! ### Rune by rune -/
structure jH where
 out:List (List Nat)
 cur:List Nat
 full:Bool
 some:Bool
def gY:jH:=⟨[],[],false,false⟩
def dG (st:jH) (r:Nat):jH :=
 if cO (r:Int)=0 then⟨if st.some then st.out++[st.cur] else st.out,[],false,false⟩
 else if st.full=true∨16<st.cur.length+(encR (dn r)).length then⟨st.out,st.cur,true,true⟩
 else⟨st.out,st.cur++encR (dn r),st.full,true⟩
def bq (st:jH) (l:List Nat):jH:=l.foldl dG st
def Ma (l:List Nat):List (List Nat):=(bq gY (l++[32])).out
def allT (s:ByteArray):List (List Nat):=Ma (aW s)
theorem xm (st:jH) (a b:List Nat):bq st (a++b)=bq (bq st a) b:=List.foldl_append
theorem ut (st:jH) (a:List Nat) (r:Nat):bq st (a++[r])=dG (bq st a) r:=by rw[xm];rfl
theorem fC (st:jH) (r:Nat) (l:List Nat):bq st (r :: l)=bq (dG st r) l:=rfl
theorem Bi (o:List (List Nat)) (st:jH) (r:Nat):dG ⟨o++st.out,st.cur,st.full,st.some⟩ r=⟨o++(dG st r).out,(dG st r).cur,(dG st r).full,(dG st r).some⟩:=by
 unfold dG;by_cases h1:cO (r:Int)=0
 ·rw[if_pos h1,if_pos h1];cases st.some <;> simp
 ·rw[if_neg h1,if_neg h1];by_cases h2:st.full=true∨16<st.cur.length+(encR (dn r)).length
  ·rw[if_pos h2,if_pos h2]
  ·rw[if_neg h2,if_neg h2]
theorem vO (o:List (List Nat)):∀ (l:List Nat) (st:jH),bq ⟨o++st.out,st.cur,st.full,st.some⟩ l=⟨o++(bq st l).out,(bq st l).cur,(bq st l).full,(bq st l).some⟩
 | [],_=>rfl
 | r :: l,st=>by rw[fC,fC,Bi,vO o l]
theorem Cv:cO ((32:Nat):Int)=0:=by decide +kernel
/-! ### Case -/
/-! ### A term's own words -/
structure Term (t:List Nat):Prop where
 ex:∃ q:List Nat,q≠[]/\t=ky q/\∀ x∈q,gI x/\cO (x:Int)≠0/\dn x=x
 len:t.length<=16
structure nH (st:jH):Prop where
 out:∀ t∈st.out,Term t
 cur:st.some=true->Term st.cur
 no:st.some=false->st.cur=[]/\st.full=false
theorem K8:nH gY:=⟨by simp[gY],by simp[gY],fun _=>⟨rfl,rfl⟩⟩
theorem nH.step {st:jH} (h:nH st) {r:Nat} (hr:gI r):nH (dG st r):=by
 unfold dG;by_cases h1:cO (r:Int)=0
 ·rw[if_pos h1];refine⟨?_,sZ,fun _=>⟨rfl,rfl⟩⟩;cases hs:st.some
  ·simpa using h.out
  ·intro t ht;simp at ht;rcases ht with ht | rfl
   ·exact h.out t ht
   ·exact h.cur hs
 ·rw[if_neg h1];have hf:=kW hr;have ho:=D6 hr;have hl:=nL (dn r);by_cases h2:st.full=true∨16<st.cur.length+(encR (dn r)).length
  ·rw[if_pos h2];refine⟨h.out,fun _=>?_,sZ⟩;cases hs:st.some
   ·obtain⟨hc,hfu⟩:=h.no hs;rw[hc,hfu] at h2;simp at h2;omega
   ·exact h.cur hs
  ·rw[if_neg h2];refine⟨h.out,fun _=>⟨?_,?_⟩,sZ⟩
   ·cases hs:st.some
    ·obtain⟨hc,_⟩:=h.no hs;refine⟨[dn r],sZ,by rw[hc];simp[ky],?_⟩;intro x hx;simp at hx;subst hx;exact⟨hf.2,by rw[ho.2];exact h1,ho.1⟩
    ·obtain⟨q,hq,hq2,hq3⟩:=(h.cur hs).ex;refine⟨q++[dn r],sZ,?_,?_⟩
     ·simp only;rw[hq2];simp[ky]
     ·intro x hx;rcases List.mem_append.1 hx with hx | hx
      ·exact hq3 x hx
      ·simp at hx;subst hx;exact⟨hf.2,by rw[ho.2];exact h1,ho.1⟩
   ·simp only[List.length_append];omega
theorem nH.run:∀ (l:List Nat) {st:jH},nH st->(∀ r∈l,gI r)->nH (bq st l)
 | [],_,h,_=>h
 | r :: l,st,h,hr=>by
  rw[fC];exact nH.run l (h.step (hr r sZ)) fun x hx=>hr x (by simp[hx])
theorem Cc:gI 32:=dZ
theorem sN (s:ByteArray):∀ t∈allT s,Term t:=by
 refine(K8.run (aW s++[32]) fun r hr=>?_).out;rcases List.mem_append.1 hr with h | h
 ·exact pI s r h
 ·simp at h;subst h;exact Cc
/-! ### Stop words, places -/
def fJ:List (List Nat):=[[97],[97,110],[97,110,100],[97,114,101],[97,115],[97,116],[98,101],[98,121],[102,111,114],[105,110],[105,115],[105,116],[111,102],[111,110],[111,114],[116,104,101],[116,111]]
def kX (t:List Nat):Bool:=fJ.contains t
def bW:Nat->List (List Nat)->List (List Nat×Nat)
 | _,[]=>[]
 | n,t :: l=>if kX t then bW (n+1) l else(t,n) :: bW (n+1) l
def bF (s:ByteArray):List (List Nat×Nat):=bW 0 (allT s)
theorem pF:∀ (a b:List (List Nat)) (n:Nat),bW n (a++b)=bW n a++bW (n+a.length) b
 | [],b,n=>by simp[bW]
 | t :: a,b,n=>by
  rw[List.cons_append,bW,bW,pF a b (n+1),List.length_cons,show n+1+a.length=n+(a.length+1) by omega];split <;> rfl
theorem mh:∀ (l:List (List Nat)) (n:Nat),(bW n l).length<=l.length
 | [],_=>by simp[bW]
 | t :: l,n=>by
  have:=mh l (n+1);rw[bW];split
  ·simp;omega
  ·simp;omega
end Go.Proofs.YtafaohnhlgcnpaaGreatDoor
namespace Go.Proofs.YtafaohnhlgcnpaaGreatDoor
open Go.RowKit
structure Kept:Prop where
 runes:∀ (w:World) (s:ByteArray),s.size<=1000000->Calls Tryz.prog 154 #[.string s] w fun e w'=>∃ oa c,e=.returned (.slice oa (ints (aW s)).length c)/\(ints (aW s)).length<=c/\c<=maxLen/\iR w' oa (ints (aW s))/\Below w.heap.size w w'/\(oa=none->c=0)
 text:∀ (w:World) (oa:Option Addr) (c:Nat) (l:List Int),l.length<=1000000->l.length<=c->c<=maxLen->iR w oa l->(∀ r∈l,-2147483648<=r/\r<=2147483647)->Calls Tryz.prog 187 #[.slice oa l.length c] w fun e w'=>e=.returned (.string (iK l))/\Below w.heap.size w w'
 fit:∀ (w:World) (s:ByteArray) (n:Int),s.size<=1000000->-9223372036854775808<=n->n<=9223372036854775807->Calls Tryz.prog 186 #[.string s,.int .i64 n] w fun e w'=>e=.returned (.string (iK ((ints (aW s)).take (ll (ints (aW s)) n))))/\Below w.heap.size w w'
theorem Jn {l:List Nat} (h:∀ r∈l,gI r):∀ r∈ints l,-2147483648<=r/\r<=2147483647:=by
 intro r hr;obtain⟨x,hx,rfl⟩:=List.mem_map.1 hr;have:=h x hx;unfold gI at this;omega
end Go.Proofs.YtafaohnhlgcnpaaGreatDoor
