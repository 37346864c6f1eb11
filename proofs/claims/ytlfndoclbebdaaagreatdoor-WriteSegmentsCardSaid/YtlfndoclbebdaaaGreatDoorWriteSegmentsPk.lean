/-
 Where a segment's rows begin is the document's,and a memory of another size is refused: the statement itself,of the landed code,with no further condition: the tables as the program's own text lays them.
-/
import Derived.Test.YtlfndoclbebdaaaGreatDoorWrAlA1
import Derived.Test.YtlfndoclbebdaaaGreatDoorWrSegs2Pk
import Derived.Test.YtlfndoclbebdaaaGreatDoorWrAlI2
import Derived.Test.YtlfndoclbebdaaaGreatDoorWrAlC4
import Derived.Test.YtlfndoclbebdaaaGreatDoorSegArgPk
import Derived.Test.YtlfndoclbebdaaaGreatDoorWrAlB1
import Derived.Test.YtlfndoclbebdaaaGreatDoorCards
import Derived.Test.YtlfndoclbebdaaaGreatDoorTie
import Derived.SevenTiedAt
set_option maxRecDepth 100000
set_option maxHeartbeats 16000000
namespace Go.Proofs.YtlfndoclbebdaaaGreatDoor.writeSegments
open Go.ChangeShapes Go.WideShapes Go.ChangeAt Go.ChangeMaps Go.RowKit Go.Deep
set_option linter.unusedVariables false in
theorem walk {H:Type} {enc:TypeId×Value->H} (W:World) (args:Array Value) (ds:List (DataW H)) (hin:sJ enc Tryz.prog Tryz.f7.params.toList W args ds) (hL:laidMetH Tryz.prog Rows.writeSegmentsRow.laid W) :
  Calls Tryz.prog 7 args W fun e W'=>e=.returned (.bool true)/\Below W.heap.size W W':=by
 obtain⟨⟨p,hA,hlt⟩,⟨base,hval⟩,hsz⟩:=hin
 rw[Tryz.params7] at hA hval hsz
 obtain⟨v0,vs0,d0,ds0,p0,q0,hargs,rfl,rfl,h0,r0⟩:=trodAll_cons hA
 obtain⟨v1,vs1,d1,ds1,p1,q1,rfl,rfl,rfl,h1,r1⟩:=trodAll_cons r0
 obtain⟨v2,vs2,d2,ds2,p2,q2,rfl,rfl,rfl,h2,r2⟩:=trodAll_cons r1
 obtain⟨rfl,rfl,rfl⟩:=trodAll_nil r2
 obtain rfl:args=#[v0,v1,v2]:=by cases args;simp_all
 obtain⟨d,t,s,bk,rm,kf,bf,rfl,hs⟩:=Jn (hval 0 25 v0 rfl rfl) h0
 obtain⟨sg,rfl⟩:=Rn (hval 1 65 v1 rfl rfl) h1
 obtain⟨a2,rfl,rfl,rfl,w2⟩:=open_int Tryz.underlying79 (hval 2 79 v2 rfl rfl) h2
 have hlo:=RF w2
 have hhi:=RH w2
 obtain⟨n,rfl⟩:∃ n:Nat,a2=(n:Int):=⟨a2.toNat,oZ⟩
 exact RD W (EL hL) d t s bk rm kf bf sg n oZ
theorem row_holds:Rows.WriteSegmentsSaid :=
 OpenClaim.holds_of_wide 7 Tryz.f7 rfl rfl rfl rfl rfl rfl rfl ⟨rfl,rfl,rfl,rfl,rfl⟩ rfl rfl rfl rfl rfl (by as_aux_lemma=>kernel_rfl) Tryz.func7 (by as_aux_lemma=>kernel_rfl)
  (of_decide_eq_true (by as_aux_lemma=>kernel_rfl)) (by unfold Func.isWrapper;first | (rw[if_pos wZ];as_aux_lemma=>kernel_rfl) | (rw[if_neg wZ];exact⟨rfl,rfl⟩))
  (fun os started H enc _=>ML (s:=Rows.writeSegmentsSpec) Rows.writeSegmentsRow.laid own started (by as_aux_lemma=>kernel_rfl) Tryz.func7 laidOut (by as_aux_lemma=>kernel_rfl) (by as_aux_lemma=>kernel_rfl) Tryz.underlying4 rfl
   (ChangeSpec.witness_shaped (enc:=enc) (C:=Tryz.checked) (os:=os) (X:=fun w _=>laidMetH Tryz.prog Rows.writeSegmentsRow.laid w) false (World.doorLaid Tryz.prog 400 os) #[.agg #[.int .i64 0,.int .i64 0,.int .i64 0,.int .i64 0,.int .i64 0,.int .i64 0,.int .i64 0,.int .i64 0,.float .f64 0,.float .f64 0],.agg #[.int .i64 0,.int .i64 0,.bool false],.int .u16 0] 8 rfl (World.shaped_of_RefB (by as_aux_lemma=>kernel_rfl) (by as_aux_lemma=>kernel_rfl)) (by as_aux_lemma=>kernel_rfl) (by as_aux_lemma=>kernel_rfl) (by as_aux_lemma=>kernel_rfl) (door_met (n:=400) (fuel:=8) os _ (by as_aux_lemma=>kernel_rfl) (by as_aux_lemma=>kernel_rfl) (by as_aux_lemma=>kernel_rfl) (by as_aux_lemma=>kernel_rfl)))
   (fun ds h=>match ds,h with | [_,_,_],_=>rfl) walk)
theorem proved:Rows.WriteSegmentsCardSaid:=by
 unfold Rows.WriteSegmentsCardSaid Rows.writeSegmentsCard
 refine Claim7.holds_tied_plain_at .later [] _ true _ false row_holds (fun _ h=>by cases h) (by as_aux_lemma=>kernel_rfl) (fun _ h=>by cases h) writeSegments_row_tie rfl ⟨rfl,rfl⟩ (by as_aux_lemma=>kernel_rfl) rfl (fun f fn hf hfn=>?_) (by as_aux_lemma=>kernel_rfl)
 obtain rfl : f = 7 := (Option.some.inj ((show Tryz.prog.funcNamed "plover/ploverlaw12.WriteSegments" = some 7 by as_aux_lemma => kernel_rfl).symm.trans hf)).symm
 obtain rfl:fn=Tryz.f7:=(Option.some.inj (Tryz.func7.symm.trans hfn)).symm
 refine⟨kZ,fun j t ht=>?_⟩
 have hall:(Tryz.f7.params.toList.all fun u=>!Tryz.prog.wantsStandIn u)=true:=kZ
 have hm:t∈Tryz.f7.params.toList:=Array.mem_toList_iff.2 (Array.mem_of_getElem? ht)
 exact(show Tryz.prog.wantsStandIn t=false by simpa using List.all_eq_true.1 hall t hm)
#print axioms proved
end Go.Proofs.YtlfndoclbebdaaaGreatDoor.writeSegments
