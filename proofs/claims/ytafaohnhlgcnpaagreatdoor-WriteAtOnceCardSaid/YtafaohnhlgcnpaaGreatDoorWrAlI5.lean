/-
 What stage 12 rests on.
-/
import Derived.Test.YtafaohnhlgcnpaaGreatDoorWrAlF1
import Derived.Test.YtafaohnhlgcnpaaGreatDoorWrAlH1
set_option maxRecDepth 100000
set_option maxHeartbeats 16000000
namespace Go.Proofs.YtafaohnhlgcnpaaGreatDoor
open Go.RowKit
theorem WI.pY {B S:Nat->Int} {C:Int} {m dd:Nat} {tt:Int} {nd:Nat} {cs:List Int} {x:Sx} {d:bK} (h:WI B S C m dd tt nd cs x d):∀ s∈x.aC,oU cs s:=by
 obtain⟨b1,b2,b3,b4,b5,b6,b7,b8⟩:=h.bounds;have hsl:df B dd=B 5+1+4*(dd:Int):=rfl;have hnd:=h.nd_;intro s hs;rw[h.aC] at hs;have hs:=List.mem_singleton.1 hs;subst hs;refine⟨by show 0<=B 5;omega,by show B 5<=1000000;omega,by show (0:Int)<=(nd:Int);omega,?_⟩;show B 5+1+4*(nd:Int)<=_;omega
theorem ww {B S:Nat->Int} {C:Int} {m dd:Nat} {tt:Int} {nd:Nat} {cs:List Int} {x:Sx} {d:bK} (hI:WI B S C m dd tt nd cs x d) {id e:Int} {cs':List Int} {x':Sx} (hO:p8 B nd id cs x e cs' x') (w:World) (oa:Option Addr) (c n:Nat) (en:cs.length=n) (ha:bQ .u32 w oa (gQ cs)) (og:Option Addr) (gc:Nat) (hg:eH w og x.aC) :
  Calls Tryz.prog 57 #[.agg (aH (.slice oa n c) (.slice og 1 gc) x),.int .u32 id] w fun e0 w'=>∃ vc vs,e0=.returned (.tuple #[.int .i64 e,.agg (aH vc vs x')])/\Below w.heap.size w w'/\((e≠0/\vc=.slice oa n c/\vs=.slice og 1 gc/\cs'=cs/\x'=x)∨(e=0/\∃ g,vc=.slice (some ⟨g,0,none⟩) n n/\cB w' g cs'/\bn w' w.heap.size vs x'.aC/\w.heap.size<=g)):=by
 obtain⟨b1,b2,b3,b4,b5,b6,b7,b8⟩:=hI.bounds;have eg:x.aC.length=1:=by rw[hI.aC];rfl
 have hs0:x.aC[0]?=some (B 5,(nd:Int),false):=by rw[hI.aC];rfl
 have hnd:=hI.nd_;have hdd:=hI.hdd;cases hO with
 | none h =>
  refine(uG w oa c n cs en oZ hI.ws.cu ha og 1 gc x eg hg oZ hI.pY id h).mono ?_;rintro e w' ⟨rfl,hb⟩;exact⟨_,_,rfl,hb,.inl ⟨dZ,rfl,rfl,rfl,rfl⟩⟩
 | @dead k a hpl hk hae hal hdead =>
  refine(uJ w oa c n cs en oZ hI.ws.cu ha og 1 gc x eg hg oZ hI.pY id (s:=(B 5,(nd:Int),false)) hpl hs0 oZ (by show B 5+1+4*(k:Int)+3=_;omega) oZ hdead).mono ?_;rintro e w' ⟨rfl,hb⟩;exact⟨_,_,rfl,hb,.inl ⟨dZ,rfl,rfl,rfl,rfl⟩⟩
 | @live k a hpl hk hae hal hlive =>
  refine(uD w oa c n cs en oZ hI.ws.cu ha og 1 gc x eg hg oZ hI.pY id (s:=(B 5,(nd:Int),false)) hpl hs0 oZ (by show B 5+1+4*(k:Int)+3=_;omega) oZ hlive oZ).mono ?_;rintro e w' ⟨g,vs,rfl,hz,ho,hb,hg⟩;exact⟨_,vs,rfl,hb,.inr ⟨rfl,g,rfl,hz,ho,hg⟩⟩
end Go.Proofs.YtafaohnhlgcnpaaGreatDoor
