/-
 What stage 12 rests on.
-/
import Derived.WalkKit
import Derived.IntWalk
import Derived.Lib.Hide
import Derived.Laws.Rows
import Derived.Laws.Tables
import Derived.Test.YtlfndoclbebdaaaGreatDoorProg
import Derived.Deep.QuietTactic
import Derived.BigQuiet
import Derived.RegionTactic
import Derived.ChangeAlike
import Derived.StillTailTactics
import Derived.Deep.CutBlock
import Derived.Deep.DeepCutAuto
import Derived.Deep.RegionWith
import Derived.Test.YtlfndoclbebdaaaGreatDoorRows
import Derived.ProofKit
import Derived.OpenShut
import Derived.SizedLaws
import Derived.JoinedCond
import Derived.Deep.CondSized
set_option maxRecDepth 100000
set_option maxHeartbeats 16000000
namespace Go.Proofs.YtlfndoclbebdaaaGreatDoor
open Go.RowKit
theorem oZ {p : Prop} (h : p := by omega) : p := h
theorem dZ {p : Prop} (h : p := by decide) : p := h
theorem kZ {p : Prop} (h : p := by kernel_rfl) : p := h
theorem sZ {p : Prop} (h : p := by simp) : p := h
theorem lZ {p : Prop} (h : p := by rw [hl]; decide) : p := h
theorem uZ {p : Prop} (h : p := by simp; omega) : p := h
theorem cZ {p : Prop} (h : p := by simp [aK, Value.oneCell']) : p := h
theorem aZ {p : Prop} (h : p := by assumption) : p := h
theorem mZ {p : Prop} (h : p := by unfold maxLen; omega) : p := h
theorem rZ {p : Prop} (h : p := by repeat' split <;> omega) : p := h
theorem vZ {p : Prop} (h : p := by simp [Value.oneCell']) : p := h
theorem jZ {p : Prop} (h : p := by cases h) : p := h
theorem wZ {p : Prop} (h : p := by decide +kernel) : p := h
theorem xZ {p : Prop} (h : p := by simp <;> omega) : p := h
theorem pZ {p : Prop} (h : p := by intro q; simp only [rD, iG, Act.put, List.size_toArray, List.length_cons, List.length_nil, List.getElem?_toArray, Nat.reduceAdd, Option.bind_some, List.getElem?_cons_zero, List.getElem?_cons_succ, List.setIfInBounds_toArray, List.set_cons_zero, List.set_cons_succ, List.getD_cons_zero, List.getD_cons_succ]; exact rfl) : p := h
theorem hJ {p : Prop} (h : p) : Hid p := Lib.hid h
abbrev gZ := @List.getElem?_eq_getElem
abbrev eZ := @List.getElem?_eq_some_iff
abbrev yZ := @wpList_load_row
abbrev zZ := @wpList_store_row
abbrev nZ := @heap_alloc_new
abbrev qZ := @setRow_other
abbrev tZ := @bodyPost_ret
abbrev iZ := @IntWalk.i64_in
structure bI (S:Nat->Prop) (w w':World):Prop where
 os:w'.os=w.os
 tape:w'.tape=w.tape
 output:w'.output=w.output
 size:w.heap.size<=w'.heap.size
 block:∀ k,k<w.heap.size->¬ S k->w'.heap[k]?=w.heap[k]?
theorem bI.refl (S:Nat->Prop) (w:World):bI S w w:=⟨rfl,rfl,rfl,Nat.le_refl _,fun _ _ _=>rfl⟩
theorem bI.trans {S:Nat->Prop} {a b c:World} (h:bI S a b) (k:bI S b c):bI S a c :=
 ⟨k.os.trans h.os,k.tape.trans h.tape,k.output.trans h.output,Nat.le_trans h.size k.size,fun i hi hs=>(k.block i (Nat.lt_of_lt_of_le hi h.size) hs).trans (h.block i hi hs)⟩
theorem bI.mono {S T:Nat->Prop} {a b:World} (h:bI S a b) (hst:∀ k,k<a.heap.size->S k->T k):bI T a b:=⟨h.os,h.tape,h.output,h.size,fun i hi ht=>h.block i hi fun hs=>ht (hst i hi hs)⟩
theorem bI.setCell {S:Nat->Prop} {a w:World} (h:bI S a w) {p:Addr} (hp:a.heap.size<=p.block∨S p.block) (u:Value):bI S a (w.setCell p u) :=
 ⟨h.os,h.tape,h.output,by simpa [World.setCell] using h.size,fun k hk hs=>by
  rw[Below.heap_setCell _ _ _ _ (by rintro rfl;rcases hp with hp | hp;(omega);exact hs hp)]
  exact h.block k hk hs⟩
theorem bI.alloc {S:Nat->Prop} {a w:World} (h:bI S a w) (o:Obj):bI S a (w.alloc o) :=
 ⟨h.os,h.tape,h.output,by have:=h.size;simp;omega,fun k hk hs=>by rw[Below.heap_alloc _ _ _ (by have:=h.size;omega)];exact h.block k hk hs⟩
theorem bI.drewN {S:Nat->Prop} {a w:World} (h:bI S a w) (n:Nat):bI S a (w.drewN n):=⟨h.os,h.tape,h.output,h.size,h.block⟩
theorem fG {B:Nat} {a w:World} (h:Below B a w) (n:Nat):Below B a (w.drewN n):=⟨h.os,h.tape,h.output,h.size,h.block⟩
theorem Below.mod {a b:World} {B:Nat} (h:Below B a b) (S:Nat->Prop) (hS:∀ k,k<a.heap.size->B<=k->S k):bI S a b:=⟨h.os,h.tape,h.output,h.size,fun k hk hs=>h.block k (by
 by_cases e:k<B
 ·exact e
 ·exact absurd (hS k hk oZ) hs)⟩
theorem ae {w:World} {b:Nat} {cs:Array Value} {t:TypeId} (h:w.heap[b]?=some (.cells cs t (0,0))) (i:Nat):w.cell? ⟨b,i,none⟩=cs[i]?:=by simp[World.cell?,h]
theorem free_at {w:World} {b:Nat} {cs:Array Value} {t:TypeId} (h:w.heap[b]?=some (.cells cs t (0,0))) (i:Nat):w.frozen? ⟨b,i,none⟩=false:=by simp[World.frozen?,h]
theorem lt_of_heap {w:World} {b:Nat} {o:Obj} (h:w.heap[b]?=some o):b<w.heap.size:=by
 obtain⟨hb,_⟩:=Array.getElem?_eq_some_iff.1 h
 exact hb
theorem qA {w:World} {A B:Obj} {n:Nat}:Below w.heap.size w (((w.alloc A).alloc B).drewN n):=fG (((Below.refl _ _).alloc (Nat.le_refl _) _).alloc sZ _) n
theorem au {w:World} {A:Obj}:Below w.heap.size w (w.alloc A):=(Below.refl _ _).alloc (Nat.le_refl _) _
/-! ### Where new blocks lie -/
theorem fO (w:World) (A B:Obj):((w.alloc A).alloc B).heap[w.heap.size]?=some A:=by rw[Below.heap_alloc _ _ _ sZ];exact nZ w A
theorem fK (w:World) (A B:Obj):((w.alloc A).alloc B).heap[w.heap.size+1]?=some B:=by simpa using nZ (w.alloc A) B
theorem dV (w:World) (A B C:Obj):(((w.alloc A).alloc B).alloc C).heap[w.heap.size]?=some A:=by rw[Below.heap_alloc _ _ _ uZ];exact fO w A B
theorem dX (w:World) (A B C:Obj):(((w.alloc A).alloc B).alloc C).heap[w.heap.size+1]?=some B:=by rw[Below.heap_alloc _ _ _ sZ];exact fK w A B
theorem eH (w:World) (A B C:Obj):(((w.alloc A).alloc B).alloc C).heap[w.heap.size+1+1]?=some C:=by simpa using nZ ((w.alloc A).alloc B) C
theorem Pq (w:World) (A B C D:Obj):((((w.alloc A).alloc B).alloc C).alloc D).heap[w.heap.size]?=some A:=by rw[Below.heap_alloc _ _ _ uZ];exact dV w A B C
theorem O9 (w:World) (A B C D:Obj):((((w.alloc A).alloc B).alloc C).alloc D).heap[w.heap.size+1]?=some B:=by rw[Below.heap_alloc _ _ _ sZ];exact dX w A B C
theorem O1 (w:World) (A B C D:Obj):((((w.alloc A).alloc B).alloc C).alloc D).heap[w.heap.size+1+1]?=some C:=by rw[Below.heap_alloc _ _ _ sZ];exact eH w A B C
theorem Pi (w:World) (A B C D:Obj):((((w.alloc A).alloc B).alloc C).alloc D).heap[w.heap.size+1+1+1]?=some D:=by simpa using nZ (((w.alloc A).alloc B).alloc C) D
theorem dL {w:World} {A B:Obj}:Below w.heap.size w ((w.alloc A).alloc B):=((Below.refl _ _).alloc (Nat.le_refl _) _).alloc sZ _
theorem bu {w:World} {A B C:Obj}:Below w.heap.size w (((w.alloc A).alloc B).alloc C):=dL.alloc uZ _
theorem JX {w:World} {A B C D:Obj}:Below w.heap.size w ((((w.alloc A).alloc B).alloc C).alloc D):=bu.alloc uZ _
theorem aC {w w':World} {a:Addr} {v:Value} (h:w.cell? a=some v) (hb:Below w.heap.size w w'):w'.cell? a=some v:=by
 rw[World.cell?_of_block (hb.block _ ?_)]
 ·exact h
 ·unfold World.cell? at h
  rcases Nat.lt_or_ge a.block w.heap.size with h1 | h1
  ·exact h1
  ·rw[Array.getElem?_eq_none h1] at h
   simp at h
end Go.Proofs.YtlfndoclbebdaaaGreatDoor
namespace Go.Proofs.YtlfndoclbebdaaaGreatDoor
open Go.ChangeShapes Go.WideShapes Go.ChangeAt Go.RowKit
section
variable {H:Type} {enc:TypeId×Value->H} {P:Program}
theorem qW (hl:laidOutB P=true) {W W':World} (hb:Below W.heap.size W W'):∀ (ts:List TypeId) (vs:List Value) (ds:List (DataW H)) (ps:List MemPlace),
  (ts.all fun t=>P.readableRec t&&decide (t<P.types.size))=true->DataW.TrodAll enc P W 0 (fun _=>true) true ts vs ds ps->(∀ x∈ps,x.block<W.heap.size) ->
  DataW.TrodAll enc P W' 0 (fun b=>decide (b<W.heap.size)) true ts vs ds ps
 | [],vs,ds,ps,_,h,_=>by
  obtain⟨rfl,rfl,rfl⟩:=trodAll_nil h
  exact trodAll_mk0
 | t :: ts,vs,ds,ps,hr,h,hlt=>by
  obtain⟨v,vs',d,ds',p,q,rfl,rfl,rfl,h0,r0⟩:=trodAll_cons h
  simp only[List.all_cons,Bool.and_eq_true,decide_eq_true_eq] at hr
  exact trodAll_cons_mk (Below.trod hl hr.1.1 hr.1.2 h0 hb fun x hx=>hlt x (List.mem_append_left _ hx)) (qW hl hb ts vs' ds' q hr.2 r0 fun x hx=>hlt x (List.mem_append_right _ hx))
theorem EC {f:Func} {s:ChangeSpec} {tb:TypeId} {W W':World} {args:Array Value} {ds gs:List (DataW H)} {before:List MemPlace}
  (hl:laidOutB P=true) (hr:(f.params.toList.all fun t=>P.readableRec t&&decide (t<P.types.size))=true) (hres:f.resultTypes=#[tb]) (hub:P.underlying tb=some .bool) (hvars:s.vars=[])
  (hW:DataW.Whole enc P f.params.toList s.vars false W args.toList ds gs before) (hs:s.fn H (ds++gs)={results:=[.lit (.bool true)],args:=ds})
  (hb:Below W.heap.size W W'):s.post enc P f false true false false W args (.bool true) W':=by
 have hW':=hW
 obtain⟨p,q,hA,hV,rfl,hfz,hnd⟩:=hW
 rw[hvars] at hV
 obtain⟨rfl,rfl⟩:=trodVars_none hV
 refine⟨ds,[],p++[],[],p,[],hW',?_,?_,?_,hb.frame _,fun h=>by cases h⟩
 ·rw[hs,hres]
  exact trodAll_mk1 (shut_bool hub true)
 ·rw[hs]
  exact qW hl hb _ _ _ _ hr hA fun x hx=>hW'.lt x (by simpa using hx)
 ·rw[hs,hvars]
  exact rfl
structure sJ (enc:TypeId×Value->H) (P:Program) (ts:List TypeId) (W:World) (args:Array Value) (ds:List (DataW H)):Prop where
 trod:∃ p,DataW.TrodAll enc P W 0 (fun _=>true) true ts args.toList ds p/\∀ x∈p,x.block<W.heap.size
 ok:∃ base,∀ (j:Nat) (t:TypeId) (v:Value),ts[j]?=some t->args[j]?=some v->Value.okWide P W .any base t v
 size:(DataW.weightsEach P ts ds).all (·<=reachBytes)=true
theorem sJ.of_whole {f:Func} {s:ChangeSpec} {W:World} {base:Nat} {args:Array Value} {ds gs:List (DataW H)} {before:List MemPlace} (hvars:s.vars=[])
  (hval:∀ (j:Nat) t v,f.params[j]?=some t->args[j]?=some v->Value.okWide P W .any base t v)
  (hW:DataW.Whole enc P f.params.toList s.vars false W args.toList ds gs before) (hsz:(DataW.weightsEach P (f.params.toList++s.plain.varTypes P) (ds++gs)).all (·<=reachBytes)=true) :
  sJ enc P f.params.toList W args ds:=by
 have hW':=hW
 obtain⟨p,q,hA,hV,rfl,hfz,hnd⟩:=hW
 rw[hvars] at hV
 obtain⟨rfl,rfl⟩:=trodVars_none hV
 refine⟨⟨p,hA,fun x hx=>hW'.lt x (by simpa using hx)⟩,⟨base,fun j t v ht hv=>hval j t v (by simpa using ht) hv⟩,?_⟩
 have e:s.plain.varTypes P=[]:=by
  unfold ChangeSpec.plain
  simp[hvars,DataSpec.varTypes]
 rw[e] at hsz
 simpa using hsz
end
theorem own:ownKnob Tryz.prog.godebug=none:=kZ
theorem laidOut:laidOutB Tryz.prog=true:=kZ
/-! ### What fits its kind -/
theorem RJ {x:Int} (w:(Lit.int .u8 x).wf=true):0<=x:=by simp[Lit.wf,IntKind.min,IntKind.max,IntKind.signed,IntKind.bits] at w;omega
theorem Tn {x:Int} (w:(Lit.int .u8 x).wf=true):x<=255:=by simp[Lit.wf,IntKind.min,IntKind.max,IntKind.signed,IntKind.bits] at w;omega
end Go.Proofs.YtlfndoclbebdaaaGreatDoor
