/-
 What stage 12 rests on.
-/
import Derived.Test.YtlfndoclbebdaaaGreatDoorWrAlA1
import Derived.Test.YtlfndoclbebdaaaGreatDoorWrAlI3
set_option maxRecDepth 100000
set_option maxHeartbeats 16000000
namespace Go.Proofs.YtlfndoclbebdaaaGreatDoor
open Go.RowKit
def Rw (k:Nat):List ByteArray:=[⟨#[116,104,101]⟩,⟨#[45,45,32]⟩,⟨#[]⟩].take k
theorem RN:∀ k,k<4->(dQ (Rw k)).isEmpty=true/\jM (Rw k)=0:=by decide +kernel
theorem Rz {k:Nat} (h:k<4):dQ (Rw k)=[]/\jM (Rw k)=0:=⟨List.isEmpty_iff.1 (RN k h).1,(RN k h).2⟩
theorem RI {k:Nat} (h:k<4):(Rw k).length=k:=by
 unfold Rw
 rw[List.length_take]
 simp
 omega
theorem RG {B S:Nat->Int} {C:Int} {m dd:Nat} {tt:Int} {nd:Nat} {id:Int} {F:List ByteArray} {cs:List Int} {x:Sx} {d:dm} {e:Int} {cs':List Int} {x':Sx} {nd':Nat} {d':dm}
  (h:WI B S C m dd tt nd cs x d) (hl:dQ F=[]) (he:jM F=0) (g:tN B S C m dd tt nd id F cs x d e cs' x' nd' d') :
  ((e=6∨e=5)/\cs'=cs/\x'=x)∨(e=0/\x'=⟨[(B 5,(nd:Int)+1,false)],x.terms,u32 (x.dR+1),x.used⟩):=by
 have hts:iK cs d m (dQ F)=[]:=by rw[hl];rfl
 have hf:dJ (iK cs d m (dQ F))=0:=by rw[hts];rfl
 have hu:=h.ws.used
 cases g.out with
 | long k=>exact absurd he k
 | dup _ _=>exact .inl ⟨.inl rfl,rfl,rfl⟩
 | Jo _ _ _=>exact .inl ⟨.inr rfl,rfl,rfl⟩
 | terms _ _ _ k=>rw[hf] at k;have:=h.many;omega
 | full _ _ _ _ k =>
  rw[hts,qo (fun j hj=>by
   have:=hu j hj
   unfold QF
   simp[fZ]
   omega)] at k
  cases k
 | ok _ _ _ _ _ hr _ _ =>
  rw[hl] at hr
  cases hr
  refine .inr ⟨rfl,?_⟩
  unfold xA
  rw[hf,Int.add_zero]
end Go.Proofs.YtlfndoclbebdaaaGreatDoor
