/-
 What stage 12 rests on.
-/
import Derived.Test.YtlfndoclbebdaaaGreatDoorWrErA1
import Derived.Test.YtlfndoclbebdaaaGreatDoorWrErF1
import Derived.Test.YtlfndoclbebdaaaGreatDoorWrErH1
set_option maxRecDepth 100000
set_option maxHeartbeats 16000000
namespace Go.Proofs.YtlfndoclbebdaaaGreatDoor
open Go.RowKit
theorem WI.sQ {B S:Nat->Int} {C:Int} {m dd:Nat} {tt:Int} {nd:Nat} {cs:List Int} {x:Sx} {d:dm} (h:WI B S C m dd tt nd cs x d):∀ s∈x.aH,wX cs s:=by
 obtain⟨b1,b2,b3,b4,b5,b6,b7,b8⟩:=h.bounds
 have hsl:eP B dd=B 5+1+4*(dd:Int):=rfl
 have hnd:=h.nd_
 intro s hs
 rw[h.aH] at hs
 have hs:=List.mem_singleton.1 hs
 subst hs
 refine⟨by show 0<=B 5;omega,by show B 5<=1000000;omega,by show (0:Int)<=(nd:Int);omega,?_⟩
 show B 5+1+4*(nd:Int)<=_
 omega
theorem yI {B S:Nat->Int} {C:Int} {m dd:Nat} {tt:Int} {nd:Nat} {cs:List Int} {x:Sx} {d:dm} (hI:WI B S C m dd tt nd cs x d) {id e:Int} {cs':List Int} {x':Sx} (hO:rQ B nd id cs x e cs' x') (w:World) (oa:Option Addr) (c n:Nat) (en:cs.length=n) (ha:dH .u32 w oa (jB cs)) (og:Option Addr) (gc:Nat) (hg:gy w og x.aH) :
  Calls Tryz.prog 57 #[.agg (aK (.slice oa n c) (.slice og 1 gc) x),.int .u32 id] w fun e0 w'=>∃ vc vs,e0=.returned (.tuple #[.int .i64 e,.agg (aK vc vs x')])/\Below w.heap.size w w'/\((e≠0/\vc=.slice oa n c/\vs=.slice og 1 gc/\cs'=cs/\x'=x)∨(e=0/\∃ g,vc=.slice (some ⟨g,0,none⟩) n n/\dK w' g cs'/\bF w' w.heap.size vs x'.aH/\w.heap.size<=g)):=by
 obtain⟨b1,b2,b3,b4,b5,b6,b7,b8⟩:=hI.bounds
 have eg:x.aH.length=1:=by rw[hI.aH];rfl
 have hs0:x.aH[0]?=some (B 5,(nd:Int),false):=by rw[hI.aH];rfl
 have hnd:=hI.nd_
 have hdd:=hI.hdd
 cases hO with
 | none h =>
  refine(xw w oa c n cs en oZ hI.ws.cu ha og 1 gc x eg hg oZ hI.sQ id h).mono ?_
  rintro e w' ⟨rfl,hb⟩
  exact⟨_,_,rfl,hb,.inl ⟨dZ,rfl,rfl,rfl,rfl⟩⟩
 | @dead k a hpl hk hae hal hdead =>
  refine(xy w oa c n cs en oZ hI.ws.cu ha og 1 gc x eg hg oZ hI.sQ id (s:=(B 5,(nd:Int),false)) hpl hs0 oZ (by show B 5+1+4*(k:Int)+3=_;omega) oZ hdead).mono ?_
  rintro e w' ⟨rfl,hb⟩
  exact⟨_,_,rfl,hb,.inl ⟨dZ,rfl,rfl,rfl,rfl⟩⟩
 | @live k a hpl hk hae hal hlive =>
  refine(xC w oa c n cs en oZ hI.ws.cu ha og 1 gc x eg hg oZ hI.sQ id (s:=(B 5,(nd:Int),false)) hpl hs0 oZ (by show B 5+1+4*(k:Int)+3=_;omega) oZ hlive oZ).mono ?_
  rintro e w' ⟨g,vs,rfl,hz,ho,hb,hg⟩
  exact⟨_,vs,rfl,hb,.inr ⟨rfl,g,rfl,hz,ho,hg⟩⟩
section
variable {B S:Nat->Int} {C:Int} {m dd:Nat} {tt:Int} {nd:Nat} {cs:List Int} {x:Sx} {d:dm}
theorem tN.quiet {id:Int} {F:List ByteArray} {e:Int} {cs':List Int} {x':Sx} {nd':Nat} {d':dm} (h:WI B S C m dd tt nd cs x d) (g:tN B S C m dd tt nd id F cs x d e cs' x' nd' d') :
  ∃ q y,q<=500000/\Does (qQ B S m dd tt nd id F x) cs q y cs'/\y.2=e/\(e=0->y.1=x')/\(e≠0->eF (fun _=>False) (qQ B S m dd tt nd id F x) cs q y cs'):=by
 by_cases he:e=0
 ·obtain⟨q,y,h1,h2,h3,h4⟩:=g.prog
  exact⟨q,y,h1,h2.does,h3,h4,fun h=>absurd he h⟩
 have hc:cs'=cs:=by
  obtain⟨_,hc,_⟩ | ⟨h0,_⟩:=g.dR
  ·exact hc
  ·exact absurd h0 he
 have key:∃ q y,q<=500000/\eF (fun _=>False) (qQ B S m dd tt nd id F x) cs q y cs/\y.2=e:=by
  obtain⟨b1,b2,b3,b4,b5,b6,b7,b8⟩:=h.bounds
  have hsl:eP B dd=B 5+1+4*(dd:Int):=rfl
  have hdd:=h.hdd
  have hnd:=h.nd_
  have hm:=h.hm
  have hocc:sW d m<m:=by have:=h.terms;have:=h.many;have:=h.htt;omega
  obtain⟨q1,f,hq1,hf1,hf2,_⟩:=wJ (A:=fun _=>False) cs id (B 5+1) nd false (B 5) rfl oZ oZ
  rw[<- h.aH] at hf1 hf2
  have hKb:∀ k∈(bC (dQ F)).1,(∀ b∈k,b<256)/\k.length<=17:=by
   intro k hk
   obtain⟨tk,htk,rfl⟩:=List.mem_map.1 (((jg (dQ F)).mem k).1 hk)
   have:=jH htk
   refine⟨jQ oZ oZ,?_⟩
   unfold aP
   rw[List.length_cons,aG]
   omega
  have hlen64:=tX F
  have hKl:=qB (dQ F)
  obtain⟨q2,hq2,hl2⟩:=WS.look (A:=fun _=>False) h.ws oZ hm hocc (fJ (dQ F)) (bC (dQ F)).1 [] hKb
  rw[List.nil_append,show (bC (dQ F)).1.map (qU cs d m (fJ (dQ F)))=iK cs d m (dQ F) from rfl] at hl2
  have ho:=g.out
  clear g hc
  cases ho with
  | long hE =>
   refine⟨0,(aO,jM F),oZ,?_,rfl⟩
   unfold qQ
   rw[if_pos hE]
   exact .ret _ _
  | dup hE hpl =>
   refine⟨q1+0,(aO,6),oZ,?_,rfl⟩
   unfold qQ
   rw[if_neg oZ]
   refine hf1.bind ?_
   rw[hf2,hpl,if_pos rfl]
   exact .ret _ _
  | Jo hE hpl hd =>
   refine⟨q1+(q2+0),(aO,5),oZ,?_,rfl⟩
   unfold qQ
   rw[if_neg oZ]
   refine hf1.bind ?_
   rw[hf2,hpl,if_neg dZ]
   refine hl2.bind ?_
   rw[if_pos (.inl oZ)]
   exact .ret _ _
  | terms hE hpl hd ht =>
   refine⟨q1+(q2+0),(aO,5),oZ,?_,rfl⟩
   unfold qQ
   rw[if_neg oZ]
   refine hf1.bind ?_
   rw[hf2,hpl,if_neg dZ]
   refine hl2.bind ?_
   rw[if_pos (.inr ht)]
   exact .ret _ _
  | full hE hpl hd ht hf =>
   refine⟨q1+(q2+0),(aO,3),oZ,?_,rfl⟩
   unfold qQ
   rw[if_neg oZ]
   refine hf1.bind ?_
   rw[hf2,hpl,if_neg dZ]
   refine hl2.bind ?_
   rw[if_neg oZ,if_pos hf]
   exact .ret _ _
  | ok=>exact absurd rfl he
 obtain⟨q,y,h1,h2,h3⟩:=key
 exact⟨q,y,h1,by rw[hc];exact h2.does,h3,fun h=>absurd h he,fun _=>by rw[hc];exact h2⟩
theorem uI.quiet {id:Int} {e:Int} {cs':List Int} {x':Sx} (h:WI B S C m dd tt nd cs x d) (g:uI B S C m dd tt nd id cs x d e cs' x') :
  ∃ q y,q<=500000/\Does (vV id x) cs q y cs'/\y.2=e/\(e=0->y.1=x')/\(e≠0->eF (fun _=>False) (vV id x) cs q y cs'):=by
 by_cases he:e=0
 ·obtain⟨q,y,h1,h2,h3,h4⟩:=g.prog
  exact⟨q,y,h1,h2.does,h3,h4,fun h=>absurd he h⟩
 have hc:cs'=cs:=by
  obtain⟨_,hc,_⟩ | ⟨h0,_⟩:=g.dR
  ·exact hc
  ·exact absurd h0 he
 have key:∃ q y,q<=500000/\eF (fun _=>False) (vV id x) cs q y cs/\y.2=e:=by
  obtain⟨b1,b2,b3,b4,b5,b6,b7,b8⟩:=h.bounds
  have hsl:eP B dd=B 5+1+4*(dd:Int):=rfl
  have hdd:=h.hdd
  have hnd:=h.nd_
  obtain⟨q1,f,hq1,hf1,hf2,hf3⟩:=wJ (A:=fun _=>False) cs id (B 5+1) nd false (B 5) rfl oZ oZ
  rw[<- h.aH] at hf1 hf2
  have ho:=g.out
  clear g hc
  cases ho with
  | none hpl =>
   rw[hpl] at hf2
   refine⟨q1+0,(aO,7),oZ,?_,rfl⟩
   unfold vV
   refine hf1.bind ?_
   rw[if_pos hf2]
   exact .ret _ _
  | dead hpl hk ha hal hdead =>
   rename_i k a
   replace hf2:f.2.2=true:=by rw[hf2,hpl]
   obtain⟨f1,f2,f3⟩:=hf3 hf2
   have hkz:kD cs (B 5+1) nd id=(k:Int):=by
    rw[h.aH] at hpl
    unfold df at hpl
    have e1:(if 0<=kD cs (dN (B 5,(nd:Int),false)) (nd:Int).toNat id then(((0:Nat):Int),kD cs (dN (B 5,(nd:Int),false)) (nd:Int).toNat id,true) else df cs id (0+1) [])=(((0:Nat):Int),(k:Int),true):=hpl
    rw[show dN (B 5,(nd:Int),false)=B 5+1 from rfl,Int.toNat_natCast,if_pos f3] at e1
    exact congrArg (fun z=>z.2.1) e1
   rw[hkz] at f2
   obtain⟨q2,hq2,hrow⟩:=P5 cs (B 5+1) k oZ oZ
   have hrow2:=hrow.stores (A:=fun _=>False) (by
    unfold lM
    intro _ _ _ _
    trivial)
   rw[show bK cs (B 5+1+4*(k:Int)+3)=cs.getD a 0 by rw[ha,gI]] at hrow2
   have hff:f=(B 5+1,(k:Int),true):=by rw[<- f1,<- f2,<- hf2]
   refine⟨q1+(q2+0),(aO,7),oZ,?_,rfl⟩
   unfold vV
   refine hf1.bind ?_
   rw[hff,if_neg sZ]
   refine hrow2.bind ?_
   rw[if_pos hdead]
   exact .ret _ _
  | live=>exact absurd rfl he
 obtain⟨q,y,h1,h2,h3⟩:=key
 exact⟨q,y,h1,by rw[hc];exact h2.does,h3,fun h=>absurd h he,fun _=>by rw[hc];exact h2⟩
end
end Go.Proofs.YtlfndoclbebdaaaGreatDoor
