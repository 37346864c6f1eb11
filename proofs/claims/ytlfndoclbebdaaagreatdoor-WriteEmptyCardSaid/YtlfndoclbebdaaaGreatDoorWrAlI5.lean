/-
 What stage 12 rests on.
-/
import Derived.Test.YtlfndoclbebdaaaGreatDoorWrAlA1
import Derived.Test.YtlfndoclbebdaaaGreatDoorWrAlF1
import Derived.Test.YtlfndoclbebdaaaGreatDoorWrAlH1
set_option maxRecDepth 100000
set_option maxHeartbeats 16000000
namespace Go.Proofs.YtlfndoclbebdaaaGreatDoor
open Go.RowKit
theorem WI.sQ {B S:Nat->Int} {C:Int} {m dd:Nat} {tt:Int} {nd:Nat} {cs:List Int} {x:Sx} {d:dm} (h:WI B S C m dd tt nd cs x d):∀ s∈x.aH,wX cs s:=by
 obtain⟨b1,b2,b3,b4,b5,b6,b7,b8⟩:=h.bounds
 have hsl:eP B dd=B 5+1+4*(dd:Int):=rfl
 have hnd:=h.nd_
 intro s hs
 rw[h.aH] at hs
 have hs:=List.mem_singleton.1 hs
 subst hs
 refine⟨by show 0<=B 5;omega,by show B 5<=1000000;omega,by show (0:Int)<=(nd:Int);omega,?_⟩
 show B 5+1+4*(nd:Int)<=_
 omega
theorem yI {B S:Nat->Int} {C:Int} {m dd:Nat} {tt:Int} {nd:Nat} {cs:List Int} {x:Sx} {d:dm} (hI:WI B S C m dd tt nd cs x d) {id e:Int} {cs':List Int} {x':Sx} (hO:rQ B nd id cs x e cs' x') (w:World) (oa:Option Addr) (c n:Nat) (en:cs.length=n) (ha:dH .u32 w oa (jB cs)) (og:Option Addr) (gc:Nat) (hg:gy w og x.aH) :
  Calls Tryz.prog 57 #[.agg (aK (.slice oa n c) (.slice og 1 gc) x),.int .u32 id] w fun e0 w'=>∃ vc vs,e0=.returned (.tuple #[.int .i64 e,.agg (aK vc vs x')])/\Below w.heap.size w w'/\((e≠0/\vc=.slice oa n c/\vs=.slice og 1 gc/\cs'=cs/\x'=x)∨(e=0/\∃ g,vc=.slice (some ⟨g,0,none⟩) n n/\dK w' g cs'/\bF w' w.heap.size vs x'.aH/\w.heap.size<=g)):=by
 obtain⟨b1,b2,b3,b4,b5,b6,b7,b8⟩:=hI.bounds
 have eg:x.aH.length=1:=by rw[hI.aH];rfl
 have hs0:x.aH[0]?=some (B 5,(nd:Int),false):=by rw[hI.aH];rfl
 have hnd:=hI.nd_
 have hdd:=hI.hdd
 cases hO with
 | none h =>
  refine(xw w oa c n cs en oZ hI.ws.cu ha og 1 gc x eg hg oZ hI.sQ id h).mono ?_
  rintro e w' ⟨rfl,hb⟩
  exact⟨_,_,rfl,hb,.inl ⟨dZ,rfl,rfl,rfl,rfl⟩⟩
 | @dead k a hpl hk hae hal hdead =>
  refine(xy w oa c n cs en oZ hI.ws.cu ha og 1 gc x eg hg oZ hI.sQ id (s:=(B 5,(nd:Int),false)) hpl hs0 oZ (by show B 5+1+4*(k:Int)+3=_;omega) oZ hdead).mono ?_
  rintro e w' ⟨rfl,hb⟩
  exact⟨_,_,rfl,hb,.inl ⟨dZ,rfl,rfl,rfl,rfl⟩⟩
 | @live k a hpl hk hae hal hlive =>
  refine(xC w oa c n cs en oZ hI.ws.cu ha og 1 gc x eg hg oZ hI.sQ id (s:=(B 5,(nd:Int),false)) hpl hs0 oZ (by show B 5+1+4*(k:Int)+3=_;omega) oZ hlive oZ).mono ?_
  rintro e w' ⟨g,vs,rfl,hz,ho,hb,hg⟩
  exact⟨_,vs,rfl,hb,.inr ⟨rfl,g,rfl,hz,ho,hg⟩⟩
end Go.Proofs.YtlfndoclbebdaaaGreatDoor
