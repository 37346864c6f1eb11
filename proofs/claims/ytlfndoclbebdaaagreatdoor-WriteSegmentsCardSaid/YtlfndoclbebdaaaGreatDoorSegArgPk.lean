/-
 What stage 12 rests on.
-/
import Derived.Test.YtlfndoclbebdaaaGreatDoorWrAlA1
import Derived.Test.YtlfndoclbebdaaaGreatDoorWrAlB3
import Derived.Test.YtlfndoclbebdaaaGreatDoorWrAlC4
set_option maxRecDepth 100000
set_option maxHeartbeats 16000000
namespace Go.Proofs.YtlfndoclbebdaaaGreatDoor
open Go.ChangeShapes Go.WideShapes Go.ChangeAt Go.ChangeMaps Go.RowKit Go.Deep
theorem Rj {W:World} {base:Nat} {u:TypeId} {c:Value} (hu:Tryz.prog.underlying u=some .bool) (h:Cell.okWide Tryz.prog W .any base u c):∃ b,c=.bool b:=by
 simp only[hu,Cell.okWide] at h
 cases c <;> simp_all [Cell.ok]
theorem Q4 {cs:Array Value} (h:cs.size=3):∃ a b c,cs=#[a,b,c]:=by
 obtain⟨l⟩:=cs
 match l,h with
 | [a,b,c],_=>exact⟨a,b,c,rfl⟩
theorem Rn {H:Type} {enc:TypeId×Value->H} {W:World} {v:Value} {x:DataW H} {p:List MemPlace} {base:Nat} (hv:Value.okWide Tryz.prog W .any base 65 v) (_h:DataW.Trod enc Tryz.prog W 0 (fun _=>true) true 65 v x p) :
  ∃ s:Int×Int×Bool,v=.agg #[.int .i64 s.1,.int .i64 s.2.1,.bool s.2.2]:=by
 obtain⟨cs,rfl,hs,hc⟩:=Jk kZ hv (ts:=[3,3,4]) kZ
 rw[show Tryz.prog.cellsOf 65=3 by kernel_rfl] at hs
 obtain⟨a,b,c,rfl⟩:=Q4 hs
 obtain⟨a,rfl,_⟩:=kV Tryz.underlying3 (hc 0 _ _ rfl rfl)
 obtain⟨b,rfl,_⟩:=kV Tryz.underlying3 (hc 1 _ _ rfl rfl)
 obtain⟨c,rfl⟩:=Rj Tryz.underlying4 (hc 2 _ _ rfl rfl)
 exact⟨(a,b,c),rfl⟩
end Go.Proofs.YtlfndoclbebdaaaGreatDoor
