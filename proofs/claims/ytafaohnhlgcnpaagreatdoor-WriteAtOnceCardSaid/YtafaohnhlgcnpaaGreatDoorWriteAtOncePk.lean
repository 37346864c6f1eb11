/-
 Behind each step the version in the cell 1 sees just the documents that it saw when it was stored: the statement itself,of the landed code,with no further condition: the tables as the program's own text lays them.
-/
import Derived.Test.YtafaohnhlgcnpaaGreatDoorWrOncePk
import Derived.Test.YtafaohnhlgcnpaaGreatDoorCards
import Derived.Test.YtafaohnhlgcnpaaGreatDoorTie
set_option maxRecDepth 100000
set_option maxHeartbeats 16000000
namespace Go.Proofs.YtafaohnhlgcnpaaGreatDoor.writeAtOnce
open Go.ChangeShapes Go.WideShapes Go.ChangeAt Go.ChangeMaps Go.RowKit Go.Deep
set_option linter.unusedVariables false in
theorem walk {H:Type} {enc:TypeId×Value->H} (W:World) (args:Array Value) (ds:List (DataW H)) (hin:qw enc Tryz.prog Tryz.f4.params.toList W args ds) (hL:laidMetH Tryz.prog Rows.writeAtOnceRow.laid W) :
  Calls Tryz.prog 4 args W fun e W'=>e=.returned (.bool true)/\Below W.heap.size W W':=by
 obtain⟨⟨p,hA,hlt⟩,⟨base,hval⟩,hsz⟩:=hin;rw[Tryz.params4] at hA hval hsz;obtain⟨v0,vs0,d0,ds0,p0,q0,hargs,rfl,rfl,h0,r0⟩:=trodAll_cons hA;obtain⟨v1,vs1,d1,ds1,p1,q1,rfl,rfl,rfl,h1,r1⟩:=trodAll_cons r0;obtain⟨rfl,rfl,rfl⟩:=trodAll_nil r1;obtain rfl:args=#[v0,v1]:=by cases args;simp_all
 obtain⟨d,t,s,bk,rm,kf,bf,rfl,hs⟩:=Gm (hval 0 25 v0 rfl rfl) h0;obtain⟨ao1,l1,c1,rfl,hR1,hc1,hm1,hn1,hb1⟩:=CX (Ml 1 hsz rfl rfl) (hval 1 26 v1 rfl rfl) h1;exact Lg W (Co hL) d t s bk rm kf bf ao1 c1 l1.length l1 rfl hR1 hc1 hm1 hb1
theorem row_holds:Rows.WriteAtOnceSaid :=
 OpenClaim.holds_of_wide 4 Tryz.f4 rfl rfl rfl rfl rfl rfl rfl ⟨rfl,rfl,rfl,rfl,rfl⟩ rfl rfl rfl rfl rfl (by as_aux_lemma=>kernel_rfl) Tryz.func4 (by as_aux_lemma=>kernel_rfl)
  (of_decide_eq_true (by as_aux_lemma=>kernel_rfl)) (by unfold Func.isWrapper;first | (rw[if_pos wZ];as_aux_lemma=>kernel_rfl) | (rw[if_neg wZ];exact⟨rfl,rfl⟩))
  (fun os started H enc _=>Ji (s:=Rows.writeAtOnceSpec) Rows.writeAtOnceRow.laid own started (by as_aux_lemma=>kernel_rfl) Tryz.func4 laidOut (by as_aux_lemma=>kernel_rfl) (by as_aux_lemma=>kernel_rfl) Tryz.underlying4 rfl
   (ChangeSpec.witness_shaped (enc:=enc) (C:=Tryz.checked) (os:=os) (X:=fun w _=>laidMetH Tryz.prog Rows.writeAtOnceRow.laid w) false (World.doorLaid Tryz.prog 400 os) #[.agg #[.int .i64 0,.int .i64 0,.int .i64 0,.int .i64 0,.int .i64 0,.int .i64 0,.int .i64 0,.int .i64 0,.float .f64 0,.float .f64 0],.slice none 0 0] 8 rfl (World.shaped_of_RefB (by as_aux_lemma=>kernel_rfl) (by as_aux_lemma=>kernel_rfl)) (by as_aux_lemma=>kernel_rfl) (by as_aux_lemma=>kernel_rfl) (by as_aux_lemma=>kernel_rfl) (Jo (n:=400) (fuel:=8) os _ (by as_aux_lemma=>kernel_rfl) (by as_aux_lemma=>kernel_rfl) (by as_aux_lemma=>kernel_rfl) (by as_aux_lemma=>kernel_rfl)))
   (fun ds h=>match ds,h with | [_,_],_=>rfl) walk)
theorem proved:Rows.WriteAtOnceCardSaid:=by
 unfold Rows.WriteAtOnceCardSaid Rows.writeAtOnceCard;refine Claim7.holds_tied_plain_at .later [] _ true _ false row_holds (fun _ h=>by cases h) (by as_aux_lemma=>kernel_rfl) (fun _ h=>by cases h) writeAtOnce_row_tie rfl ⟨rfl,rfl⟩ (by as_aux_lemma=>kernel_rfl) rfl (fun f fn hf hfn=>?_) (by as_aux_lemma=>kernel_rfl);obtain rfl : f = 4 := (Option.some.inj ((show Tryz.prog.funcNamed "plover/ploverlaw12.WriteAtOnce" = some 4 by as_aux_lemma => kernel_rfl).symm.trans hf)).symm
 obtain rfl:fn=Tryz.f4:=(Option.some.inj (Tryz.func4.symm.trans hfn)).symm;refine⟨kZ,fun j t ht=>?_⟩;have hall:(Tryz.f4.params.toList.all fun u=>!Tryz.prog.wantsStandIn u)=true:=kZ;have hm:t∈Tryz.f4.params.toList:=Array.mem_toList_iff.2 (Array.mem_of_getElem? ht);exact(show Tryz.prog.wantsStandIn t=false by simpa using List.all_eq_true.1 hall t hm)
#print axioms proved
end Go.Proofs.YtafaohnhlgcnpaaGreatDoor.writeAtOnce
