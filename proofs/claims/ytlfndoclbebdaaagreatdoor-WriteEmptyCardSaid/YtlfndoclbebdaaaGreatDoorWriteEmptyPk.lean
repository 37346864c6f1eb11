/-
 A document without words is one too: a version of its own,and no cell is taken for it: the statement itself,of the landed code,with no further condition: the tables as the program's own text lays them.
-/
import Derived.Test.YtlfndoclbebdaaaGreatDoorWrAlA1
import Derived.Test.YtlfndoclbebdaaaGreatDoorWrEmptyPk
import Derived.Test.YtlfndoclbebdaaaGreatDoorWrAlI2
import Derived.Test.YtlfndoclbebdaaaGreatDoorWrAlC4
import Derived.Test.YtlfndoclbebdaaaGreatDoorWrAlB1
import Derived.Test.YtlfndoclbebdaaaGreatDoorCards
import Derived.Test.YtlfndoclbebdaaaGreatDoorTie
import Derived.SevenTiedAt
set_option maxRecDepth 100000
set_option maxHeartbeats 16000000
namespace Go.Proofs.YtlfndoclbebdaaaGreatDoor.writeEmpty
open Go.ChangeShapes Go.WideShapes Go.ChangeAt Go.ChangeMaps Go.RowKit Go.Deep
set_option linter.unusedVariables false in
theorem walk {H:Type} {enc:TypeId×Value->H} (W:World) (args:Array Value) (ds:List (DataW H)) (hin:sJ enc Tryz.prog Tryz.f8.params.toList W args ds) (hL:laidMetH Tryz.prog Rows.writeEmptyRow.laid W) :
  Calls Tryz.prog 8 args W fun e W'=>e=.returned (.bool true)/\Below W.heap.size W W':=by
 obtain⟨⟨p,hA,hlt⟩,⟨base,hval⟩,hsz⟩:=hin
 rw[Tryz.params8] at hA hval hsz
 obtain⟨v0,vs0,d0,ds0,p0,q0,hargs,rfl,rfl,h0,r0⟩:=trodAll_cons hA
 obtain⟨v1,vs1,d1,ds1,p1,q1,rfl,rfl,rfl,h1,r1⟩:=trodAll_cons r0
 obtain⟨v2,vs2,d2,ds2,p2,q2,rfl,rfl,rfl,h2,r2⟩:=trodAll_cons r1
 obtain⟨v3,vs3,d3,ds3,p3,q3,rfl,rfl,rfl,h3,r3⟩:=trodAll_cons r2
 obtain⟨rfl,rfl,rfl⟩:=trodAll_nil r3
 obtain rfl:args=#[v0,v1,v2,v3]:=by cases args;simp_all
 obtain⟨d,t,s,bk,rm,kf,bf,rfl,hs⟩:=Jn (hval 0 25 v0 rfl rfl) h0
 obtain⟨ao1,l1,c1,rfl,hR1,hc1,hm1,hn1,hb1⟩:=Hr (QJ 1 hsz rfl rfl) (hval 1 26 v1 rfl rfl) h1
 obtain⟨a2,rfl,rfl,rfl,w2⟩:=open_int Tryz.underlying32 (hval 2 32 v2 rfl rfl) h2
 obtain⟨a3,rfl,rfl,rfl,w3⟩:=open_int Tryz.underlying5 (hval 3 5 v3 rfl rfl) h3
 obtain⟨n,rfl⟩:∃ n:Nat,a3=(n:Int):=⟨a3.toNat,by have:=RJ w3;omega⟩
 exact Rt W (EL hL) d t s bk rm kf bf ao1 c1 l1.length l1 rfl hR1 hc1 hm1 hb1 a2 ⟨Qz w2,Qv w2⟩ n
theorem row_holds:Rows.WriteEmptySaid :=
 OpenClaim.holds_of_wide 8 Tryz.f8 rfl rfl rfl rfl rfl rfl rfl ⟨rfl,rfl,rfl,rfl,rfl⟩ rfl rfl rfl rfl rfl (by as_aux_lemma=>kernel_rfl) Tryz.func8 (by as_aux_lemma=>kernel_rfl)
  (of_decide_eq_true (by as_aux_lemma=>kernel_rfl)) (by unfold Func.isWrapper;first | (rw[if_pos wZ];as_aux_lemma=>kernel_rfl) | (rw[if_neg wZ];exact⟨rfl,rfl⟩))
  (fun os started H enc _=>ML (s:=Rows.writeEmptySpec) Rows.writeEmptyRow.laid own started (by as_aux_lemma=>kernel_rfl) Tryz.func8 laidOut (by as_aux_lemma=>kernel_rfl) (by as_aux_lemma=>kernel_rfl) Tryz.underlying4 rfl
   (ChangeSpec.witness_shaped (enc:=enc) (C:=Tryz.checked) (os:=os) (X:=fun w _=>laidMetH Tryz.prog Rows.writeEmptyRow.laid w) false (World.doorLaid Tryz.prog 400 os) #[.agg #[.int .i64 0,.int .i64 0,.int .i64 0,.int .i64 0,.int .i64 0,.int .i64 0,.int .i64 0,.int .i64 0,.float .f64 0,.float .f64 0],.slice none 0 0,.int .u32 0,.int .u8 0] 8 rfl (World.shaped_of_RefB (by as_aux_lemma=>kernel_rfl) (by as_aux_lemma=>kernel_rfl)) (by as_aux_lemma=>kernel_rfl) (by as_aux_lemma=>kernel_rfl) (by as_aux_lemma=>kernel_rfl) (door_met (n:=400) (fuel:=8) os _ (by as_aux_lemma=>kernel_rfl) (by as_aux_lemma=>kernel_rfl) (by as_aux_lemma=>kernel_rfl) (by as_aux_lemma=>kernel_rfl)))
   (fun ds h=>match ds,h with | [_,_,_,_],_=>rfl) walk)
theorem proved:Rows.WriteEmptyCardSaid:=by
 unfold Rows.WriteEmptyCardSaid Rows.writeEmptyCard
 refine Claim7.holds_tied_plain_at .later [] _ true _ false row_holds (fun _ h=>by cases h) (by as_aux_lemma=>kernel_rfl) (fun _ h=>by cases h) writeEmpty_row_tie rfl ⟨rfl,rfl⟩ (by as_aux_lemma=>kernel_rfl) rfl (fun f fn hf hfn=>?_) (by as_aux_lemma=>kernel_rfl)
 obtain rfl : f = 8 := (Option.some.inj ((show Tryz.prog.funcNamed "plover/ploverlaw12.WriteEmpty" = some 8 by as_aux_lemma => kernel_rfl).symm.trans hf)).symm
 obtain rfl:fn=Tryz.f8:=(Option.some.inj (Tryz.func8.symm.trans hfn)).symm
 refine⟨kZ,fun j t ht=>?_⟩
 have hall:(Tryz.f8.params.toList.all fun u=>!Tryz.prog.wantsStandIn u)=true:=kZ
 have hm:t∈Tryz.f8.params.toList:=Array.mem_toList_iff.2 (Array.mem_of_getElem? ht)
 exact(show Tryz.prog.wantsStandIn t=false by simpa using List.all_eq_true.1 hall t hm)
#print axioms proved
end Go.Proofs.YtlfndoclbebdaaaGreatDoor.writeEmpty
