/-
 Of several errors the first one by the document is told: a document that is too long,an id that is there,a full segment,no room: the statement itself,of the landed code,with no further condition: the tables as the program's own text lays them.
-/
import Derived.Test.YtlfndoclbebdaaaGreatDoorWrErA1
import Derived.Test.YtlfndoclbebdaaaGreatDoorWrErM1
import Derived.Test.YtlfndoclbebdaaaGreatDoorWrErI3
import Derived.Test.YtlfndoclbebdaaaGreatDoorWrErC4
import Derived.Test.YtlfndoclbebdaaaGreatDoorWrErB1
import Derived.Test.YtlfndoclbebdaaaGreatDoorWrErC2
import Derived.Test.YtlfndoclbebdaaaGreatDoorCards
import Derived.Test.YtlfndoclbebdaaaGreatDoorTie
import Derived.SevenTiedAt
set_option maxRecDepth 100000
set_option maxHeartbeats 16000000
namespace Go.Proofs.YtlfndoclbebdaaaGreatDoor.writeErrors
open Go.ChangeShapes Go.WideShapes Go.ChangeAt Go.ChangeMaps Go.RowKit Go.Deep
set_option linter.unusedVariables false in
theorem walk {H:Type} {enc:TypeId×Value->H} (W:World) (args:Array Value) (ds:List (DataW H)) (hin:sJ enc Tryz.prog Tryz.f6.params.toList W args ds) (hL:laidMetH Tryz.prog Rows.writeErrorsRow.laid W) :
  Calls Tryz.prog 6 args W fun e W'=>e=.returned (.bool true)/\Below W.heap.size W W':=by
 obtain⟨⟨p,hA,hlt⟩,⟨base,hval⟩,hsz⟩:=hin
 rw[Tryz.params6] at hA hval hsz
 obtain⟨v0,vs0,d0,ds0,p0,q0,hargs,rfl,rfl,h0,r0⟩:=trodAll_cons hA
 obtain⟨v1,vs1,d1,ds1,p1,q1,rfl,rfl,rfl,h1,r1⟩:=trodAll_cons r0
 obtain⟨v2,vs2,d2,ds2,p2,q2,rfl,rfl,rfl,h2,r2⟩:=trodAll_cons r1
 obtain⟨v3,vs3,d3,ds3,p3,q3,rfl,rfl,rfl,h3,r3⟩:=trodAll_cons r2
 obtain⟨rfl,rfl,rfl⟩:=trodAll_nil r3
 obtain rfl:args=#[v0,v1,v2,v3]:=by cases args;simp_all
 obtain⟨a0,rfl,rfl,rfl,w0⟩:=open_int Tryz.underlying5 (hval 0 5 v0 rfl rfl) h0
 obtain⟨a1,rfl,rfl,rfl,w1⟩:=open_int Tryz.underlying5 (hval 1 5 v1 rfl rfl) h1
 obtain⟨ao2,l2,c2,rfl,hR2,hc2,hm2,hn2,hb2⟩:=Td (hval 2 47 v2 rfl rfl) h2
 obtain⟨a3,rfl,rfl,rfl⟩:=open_bool Tryz.underlying4 (hval 3 4 v3 rfl rfl) h3
 obtain⟨dnQ,rfl⟩:∃ n:Nat,a0=(n:Int):=⟨a0.toNat,by have:=RJ w0;omega⟩
 obtain⟨sn,rfl⟩:∃ n:Nat,a1=(n:Int):=⟨a1.toNat,by have:=RJ w1;omega⟩
 exact SX W (EL hL) dnQ sn ao2 c2 l2.length l2 rfl hR2 hb2 a3 (by have:=Tn w0;omega) (by have:=Tn w1;omega)
theorem row_holds:Rows.WriteErrorsSaid :=
 OpenClaim.holds_of_wide 6 Tryz.f6 rfl rfl rfl rfl rfl rfl rfl ⟨rfl,rfl,rfl,rfl,rfl⟩ rfl rfl rfl rfl rfl (by as_aux_lemma=>kernel_rfl) Tryz.func6 (by as_aux_lemma=>kernel_rfl)
  (of_decide_eq_true (by as_aux_lemma=>kernel_rfl)) (by unfold Func.isWrapper;first | (rw[if_pos wZ];as_aux_lemma=>kernel_rfl) | (rw[if_neg wZ];exact⟨rfl,rfl⟩))
  (fun os started H enc _=>ML (s:=Rows.writeErrorsSpec) Rows.writeErrorsRow.laid own started (by as_aux_lemma=>kernel_rfl) Tryz.func6 laidOut (by as_aux_lemma=>kernel_rfl) (by as_aux_lemma=>kernel_rfl) Tryz.underlying4 rfl
   (ChangeSpec.witness_shaped (enc:=enc) (C:=Tryz.checked) (os:=os) (X:=fun w _=>laidMetH Tryz.prog Rows.writeErrorsRow.laid w) false (World.doorLaid Tryz.prog 400 os) #[.int .u8 0,.int .u8 0,.slice none 0 0,.bool false] 8 rfl (World.shaped_of_RefB (by as_aux_lemma=>kernel_rfl) (by as_aux_lemma=>kernel_rfl)) (by as_aux_lemma=>kernel_rfl) (by as_aux_lemma=>kernel_rfl) (by as_aux_lemma=>kernel_rfl) (door_met (n:=400) (fuel:=8) os _ (by as_aux_lemma=>kernel_rfl) (by as_aux_lemma=>kernel_rfl) (by as_aux_lemma=>kernel_rfl) (by as_aux_lemma=>kernel_rfl)))
   (fun ds h=>match ds,h with | [_,_,_,_],_=>rfl) walk)
theorem proved:Rows.WriteErrorsCardSaid:=by
 unfold Rows.WriteErrorsCardSaid Rows.writeErrorsCard
 refine Claim7.holds_tied_plain_at .later [] _ true _ false row_holds (fun _ h=>by cases h) (by as_aux_lemma=>kernel_rfl) (fun _ h=>by cases h) writeErrors_row_tie rfl ⟨rfl,rfl⟩ (by as_aux_lemma=>kernel_rfl) rfl (fun f fn hf hfn=>?_) (by as_aux_lemma=>kernel_rfl)
 obtain rfl : f = 6 := (Option.some.inj ((show Tryz.prog.funcNamed "plover/ploverlaw12.WriteErrors" = some 6 by as_aux_lemma => kernel_rfl).symm.trans hf)).symm
 obtain rfl:fn=Tryz.f6:=(Option.some.inj (Tryz.func6.symm.trans hfn)).symm
 refine⟨kZ,fun j t ht=>?_⟩
 have hall:(Tryz.f6.params.toList.all fun u=>!Tryz.prog.wantsStandIn u)=true:=kZ
 have hm:t∈Tryz.f6.params.toList:=Array.mem_toList_iff.2 (Array.mem_of_getElem? ht)
 exact(show Tryz.prog.wantsStandIn t=false by simpa using List.all_eq_true.1 hall t hm)
#print axioms proved
end Go.Proofs.YtlfndoclbebdaaaGreatDoor.writeErrors
