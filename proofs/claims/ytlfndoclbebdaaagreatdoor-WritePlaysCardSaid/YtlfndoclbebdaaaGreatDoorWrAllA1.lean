/-
 What stage 12 rests on.
-/
import Derived.WalkKit
import Derived.IntWalk
import Derived.Lib.Hide
import Derived.Laws.Rows
import Derived.Laws.Tables
import Derived.Test.YtlfndoclbebdaaaGreatDoorProg
import Derived.Deep.QuietTactic
import Derived.BigQuiet
import Derived.RegionTactic
import Derived.ChangeAlike
import Derived.StillTailTactics
import Derived.Deep.CutBlock
import Derived.Deep.DeepCutAuto
import Derived.Deep.RegionWith
import Derived.Test.YtlfndoclbebdaaaGreatDoorRows
import Derived.ProofKit
import Derived.OpenShut
import Derived.SizedLaws
import Derived.JoinedCond
import Derived.Deep.CondSized
import Derived.Laws.CopyOwn
import Derived.OwnWalk
import Derived.Laws.AppendOwn
import Derived.Lib.BufferRead
import Derived.Lib.AppendStr
import Derived.Orders
import Derived.StillTail
import Derived.Deep.Slices
import Derived.Laws.RangeAny
import Derived.Laws.Runes
import Derived.LaidMore
import Derived.LaidLaws
import Derived.LaidHandle
import Derived.MakeChecks
import Derived.ChangeArms
import Derived.DataReads
import Derived.Stop.Joined
import Derived.ChangeSlices
import Derived.Laws.AppendOwnNone
import Derived.ChangeMaps5
import Derived.Laws.StructEq
import Derived.Laws.CopyRow
import Derived.WalkMore
set_option maxRecDepth 100000
set_option maxHeartbeats 16000000
namespace Go.Proofs.YtlfndoclbebdaaaGreatDoor
open Go.RowKit
theorem oZ {p : Prop} (h : p := by omega) : p := h
theorem dZ {p : Prop} (h : p := by decide) : p := h
theorem kZ {p : Prop} (h : p := by kernel_rfl) : p := h
theorem sZ {p : Prop} (h : p := by simp) : p := h
theorem lZ {p : Prop} (h : p := by rw [hl]; decide) : p := h
theorem uZ {p : Prop} (h : p := by simp; omega) : p := h
theorem cZ {p : Prop} (h : p := by simp [aK, Value.oneCell']) : p := h
theorem aZ {p : Prop} (h : p := by assumption) : p := h
theorem mZ {p : Prop} (h : p := by unfold maxLen; omega) : p := h
theorem rZ {p : Prop} (h : p := by repeat' split <;> omega) : p := h
theorem vZ {p : Prop} (h : p := by simp [Value.oneCell']) : p := h
theorem jZ {p : Prop} (h : p := by cases h) : p := h
theorem wZ {p : Prop} (h : p := by decide +kernel) : p := h
theorem xZ {p : Prop} (h : p := by simp <;> omega) : p := h
theorem pZ {p : Prop} (h : p := by intro q; simp only [rD, iG, Act.put, List.size_toArray, List.length_cons, List.length_nil, List.getElem?_toArray, Nat.reduceAdd, Option.bind_some, List.getElem?_cons_zero, List.getElem?_cons_succ, List.setIfInBounds_toArray, List.set_cons_zero, List.set_cons_succ, List.getD_cons_zero, List.getD_cons_succ]; exact rfl) : p := h
theorem hJ {p : Prop} (h : p) : Hid p := Lib.hid h
abbrev gZ := @List.getElem?_eq_getElem
abbrev eZ := @List.getElem?_eq_some_iff
abbrev yZ := @wpList_load_row
abbrev zZ := @wpList_store_row
abbrev nZ := @heap_alloc_new
abbrev qZ := @setRow_other
abbrev tZ := @bodyPost_ret
abbrev iZ := @IntWalk.i64_in
structure bI (S:Nat->Prop) (w w':World):Prop where
 os:w'.os=w.os
 tape:w'.tape=w.tape
 output:w'.output=w.output
 size:w.heap.size<=w'.heap.size
 block:∀ k,k<w.heap.size->¬ S k->w'.heap[k]?=w.heap[k]?
theorem bI.refl (S:Nat->Prop) (w:World):bI S w w:=⟨rfl,rfl,rfl,Nat.le_refl _,fun _ _ _=>rfl⟩
theorem bI.trans {S:Nat->Prop} {a b c:World} (h:bI S a b) (k:bI S b c):bI S a c :=
 ⟨k.os.trans h.os,k.tape.trans h.tape,k.output.trans h.output,Nat.le_trans h.size k.size,fun i hi hs=>(k.block i (Nat.lt_of_lt_of_le hi h.size) hs).trans (h.block i hi hs)⟩
theorem bI.mono {S T:Nat->Prop} {a b:World} (h:bI S a b) (hst:∀ k,k<a.heap.size->S k->T k):bI T a b:=⟨h.os,h.tape,h.output,h.size,fun i hi ht=>h.block i hi fun hs=>ht (hst i hi hs)⟩
theorem bI.setCell {S:Nat->Prop} {a w:World} (h:bI S a w) {p:Addr} (hp:a.heap.size<=p.block∨S p.block) (u:Value):bI S a (w.setCell p u) :=
 ⟨h.os,h.tape,h.output,by simpa [World.setCell] using h.size,fun k hk hs=>by
  rw[Below.heap_setCell _ _ _ _ (by rintro rfl;rcases hp with hp | hp;(omega);exact hs hp)]
  exact h.block k hk hs⟩
theorem bI.alloc {S:Nat->Prop} {a w:World} (h:bI S a w) (o:Obj):bI S a (w.alloc o) :=
 ⟨h.os,h.tape,h.output,by have:=h.size;simp;omega,fun k hk hs=>by rw[Below.heap_alloc _ _ _ (by have:=h.size;omega)];exact h.block k hk hs⟩
theorem bI.drewN {S:Nat->Prop} {a w:World} (h:bI S a w) (n:Nat):bI S a (w.drewN n):=⟨h.os,h.tape,h.output,h.size,h.block⟩
theorem fG {B:Nat} {a w:World} (h:Below B a w) (n:Nat):Below B a (w.drewN n):=⟨h.os,h.tape,h.output,h.size,h.block⟩
theorem Below.mod {a b:World} {B:Nat} (h:Below B a b) (S:Nat->Prop) (hS:∀ k,k<a.heap.size->B<=k->S k):bI S a b:=⟨h.os,h.tape,h.output,h.size,fun k hk hs=>h.block k (by
 by_cases e:k<B
 ·exact e
 ·exact absurd (hS k hk oZ) hs)⟩
theorem ae {w:World} {b:Nat} {cs:Array Value} {t:TypeId} (h:w.heap[b]?=some (.cells cs t (0,0))) (i:Nat):w.cell? ⟨b,i,none⟩=cs[i]?:=by simp[World.cell?,h]
theorem free_at {w:World} {b:Nat} {cs:Array Value} {t:TypeId} (h:w.heap[b]?=some (.cells cs t (0,0))) (i:Nat):w.frozen? ⟨b,i,none⟩=false:=by simp[World.frozen?,h]
theorem lt_of_heap {w:World} {b:Nat} {o:Obj} (h:w.heap[b]?=some o):b<w.heap.size:=by
 obtain⟨hb,_⟩:=Array.getElem?_eq_some_iff.1 h
 exact hb
theorem qA {w:World} {A B:Obj} {n:Nat}:Below w.heap.size w (((w.alloc A).alloc B).drewN n):=fG (((Below.refl _ _).alloc (Nat.le_refl _) _).alloc sZ _) n
theorem au {w:World} {A:Obj}:Below w.heap.size w (w.alloc A):=(Below.refl _ _).alloc (Nat.le_refl _) _
/-! ### Where new blocks lie -/
theorem fO (w:World) (A B:Obj):((w.alloc A).alloc B).heap[w.heap.size]?=some A:=by rw[Below.heap_alloc _ _ _ sZ];exact nZ w A
theorem fK (w:World) (A B:Obj):((w.alloc A).alloc B).heap[w.heap.size+1]?=some B:=by simpa using nZ (w.alloc A) B
theorem dV (w:World) (A B C:Obj):(((w.alloc A).alloc B).alloc C).heap[w.heap.size]?=some A:=by rw[Below.heap_alloc _ _ _ uZ];exact fO w A B
theorem dX (w:World) (A B C:Obj):(((w.alloc A).alloc B).alloc C).heap[w.heap.size+1]?=some B:=by rw[Below.heap_alloc _ _ _ sZ];exact fK w A B
theorem eH (w:World) (A B C:Obj):(((w.alloc A).alloc B).alloc C).heap[w.heap.size+1+1]?=some C:=by simpa using nZ ((w.alloc A).alloc B) C
theorem Pq (w:World) (A B C D:Obj):((((w.alloc A).alloc B).alloc C).alloc D).heap[w.heap.size]?=some A:=by rw[Below.heap_alloc _ _ _ uZ];exact dV w A B C
theorem O9 (w:World) (A B C D:Obj):((((w.alloc A).alloc B).alloc C).alloc D).heap[w.heap.size+1]?=some B:=by rw[Below.heap_alloc _ _ _ sZ];exact dX w A B C
theorem O1 (w:World) (A B C D:Obj):((((w.alloc A).alloc B).alloc C).alloc D).heap[w.heap.size+1+1]?=some C:=by rw[Below.heap_alloc _ _ _ sZ];exact eH w A B C
theorem Pi (w:World) (A B C D:Obj):((((w.alloc A).alloc B).alloc C).alloc D).heap[w.heap.size+1+1+1]?=some D:=by simpa using nZ (((w.alloc A).alloc B).alloc C) D
theorem dL {w:World} {A B:Obj}:Below w.heap.size w ((w.alloc A).alloc B):=((Below.refl _ _).alloc (Nat.le_refl _) _).alloc sZ _
theorem bu {w:World} {A B C:Obj}:Below w.heap.size w (((w.alloc A).alloc B).alloc C):=dL.alloc uZ _
theorem JX {w:World} {A B C D:Obj}:Below w.heap.size w ((((w.alloc A).alloc B).alloc C).alloc D):=bu.alloc uZ _
theorem aC {w w':World} {a:Addr} {v:Value} (h:w.cell? a=some v) (hb:Below w.heap.size w w'):w'.cell? a=some v:=by
 rw[World.cell?_of_block (hb.block _ ?_)]
 ·exact h
 ·unfold World.cell? at h
  rcases Nat.lt_or_ge a.block w.heap.size with h1 | h1
  ·exact h1
  ·rw[Array.getElem?_eq_none h1] at h
   simp at h
end Go.Proofs.YtlfndoclbebdaaaGreatDoor
namespace Go.Proofs.YtlfndoclbebdaaaGreatDoor
open Go.ChangeShapes Go.WideShapes Go.ChangeAt Go.RowKit
section
variable {H:Type} {enc:TypeId×Value->H} {P:Program}
theorem qW (hl:laidOutB P=true) {W W':World} (hb:Below W.heap.size W W'):∀ (ts:List TypeId) (vs:List Value) (ds:List (DataW H)) (ps:List MemPlace),
  (ts.all fun t=>P.readableRec t&&decide (t<P.types.size))=true->DataW.TrodAll enc P W 0 (fun _=>true) true ts vs ds ps->(∀ x∈ps,x.block<W.heap.size) ->
  DataW.TrodAll enc P W' 0 (fun b=>decide (b<W.heap.size)) true ts vs ds ps
 | [],vs,ds,ps,_,h,_=>by
  obtain⟨rfl,rfl,rfl⟩:=trodAll_nil h
  exact trodAll_mk0
 | t :: ts,vs,ds,ps,hr,h,hlt=>by
  obtain⟨v,vs',d,ds',p,q,rfl,rfl,rfl,h0,r0⟩:=trodAll_cons h
  simp only[List.all_cons,Bool.and_eq_true,decide_eq_true_eq] at hr
  exact trodAll_cons_mk (Below.trod hl hr.1.1 hr.1.2 h0 hb fun x hx=>hlt x (List.mem_append_left _ hx)) (qW hl hb ts vs' ds' q hr.2 r0 fun x hx=>hlt x (List.mem_append_right _ hx))
theorem EC {f:Func} {s:ChangeSpec} {tb:TypeId} {W W':World} {args:Array Value} {ds gs:List (DataW H)} {before:List MemPlace}
  (hl:laidOutB P=true) (hr:(f.params.toList.all fun t=>P.readableRec t&&decide (t<P.types.size))=true) (hres:f.resultTypes=#[tb]) (hub:P.underlying tb=some .bool) (hvars:s.vars=[])
  (hW:DataW.Whole enc P f.params.toList s.vars false W args.toList ds gs before) (hs:s.fn H (ds++gs)={results:=[.lit (.bool true)],args:=ds})
  (hb:Below W.heap.size W W'):s.post enc P f false true false false W args (.bool true) W':=by
 have hW':=hW
 obtain⟨p,q,hA,hV,rfl,hfz,hnd⟩:=hW
 rw[hvars] at hV
 obtain⟨rfl,rfl⟩:=trodVars_none hV
 refine⟨ds,[],p++[],[],p,[],hW',?_,?_,?_,hb.frame _,fun h=>by cases h⟩
 ·rw[hs,hres]
  exact trodAll_mk1 (shut_bool hub true)
 ·rw[hs]
  exact qW hl hb _ _ _ _ hr hA fun x hx=>hW'.lt x (by simpa using hx)
 ·rw[hs,hvars]
  exact rfl
structure sJ (enc:TypeId×Value->H) (P:Program) (ts:List TypeId) (W:World) (args:Array Value) (ds:List (DataW H)):Prop where
 trod:∃ p,DataW.TrodAll enc P W 0 (fun _=>true) true ts args.toList ds p/\∀ x∈p,x.block<W.heap.size
 ok:∃ base,∀ (j:Nat) (t:TypeId) (v:Value),ts[j]?=some t->args[j]?=some v->Value.okWide P W .any base t v
 size:(DataW.weightsEach P ts ds).all (·<=reachBytes)=true
theorem sJ.of_whole {f:Func} {s:ChangeSpec} {W:World} {base:Nat} {args:Array Value} {ds gs:List (DataW H)} {before:List MemPlace} (hvars:s.vars=[])
  (hval:∀ (j:Nat) t v,f.params[j]?=some t->args[j]?=some v->Value.okWide P W .any base t v)
  (hW:DataW.Whole enc P f.params.toList s.vars false W args.toList ds gs before) (hsz:(DataW.weightsEach P (f.params.toList++s.plain.varTypes P) (ds++gs)).all (·<=reachBytes)=true) :
  sJ enc P f.params.toList W args ds:=by
 have hW':=hW
 obtain⟨p,q,hA,hV,rfl,hfz,hnd⟩:=hW
 rw[hvars] at hV
 obtain⟨rfl,rfl⟩:=trodVars_none hV
 refine⟨⟨p,hA,fun x hx=>hW'.lt x (by simpa using hx)⟩,⟨base,fun j t v ht hv=>hval j t v (by simpa using ht) hv⟩,?_⟩
 have e:s.plain.varTypes P=[]:=by
  unfold ChangeSpec.plain
  simp[hvars,DataSpec.varTypes]
 rw[e] at hsz
 simpa using hsz
theorem law_lifted {C:Checked} {os:Os} {F:FuncId} {f:Func} {s:ChangeSpec} {tb:TypeId} {conds:List PathCond} (own:ownKnob C.prog.godebug=none) (started:os.Started) (noInit:C.prog.inits.idxOf? F=none)
  (hfn:C.prog.funcs[F]?=some f) (hl:laidOutB C.prog=true) (hr:(f.params.toList.all fun t=>C.prog.readableRec t&&decide (t<C.prog.types.size))=true) (hres:f.resultTypes=#[tb])
  (hub:C.prog.underlying tb=some .bool) (hvars:s.vars=[])
  (witness:∃ (w:World) (tape:Tape) (i:Input),w.os=os/\(w.forCall tape i).Shaped C.prog/\i.vars=[]/\Input.okWide C.prog (w.forCall tape i) .any w.heap.size F i /\
   s.pre6 enc C.prog f conds false (w.forCall tape i).memory i.args/\({}:Assume).holds C.prog (lone (Frame.enter C.prog F i.args .normal) [] (w.forCall tape i)))
  (hs:∀ ds:List (DataW H),ds.length=f.params.size->s.fn H ds={results:=[.lit (.bool true)],args:=ds})
  (walk:∀ (W:World) (args:Array Value) (ds:List (DataW H)),sJ enc C.prog f.params.toList W args ds->Calls C.prog F args W fun e W'=>e=.returned (.bool true)/\Below W.heap.size W W') :
  ReturnsInHanded {} C os F .any (s.pre6 enc C.prog f conds false) (s.post enc C.prog f false true false false):=by
 refine returnsInHanded_of_change_sized (C:=C) own started noInit hfn witness ?_
 intro W base args ds gs before hval hW _ hsz _
 refine(walk W args ds (sJ.of_whole hvars hval hW hsz)).mono fun e W' ⟨he,hb⟩=>⟨_,he,?_⟩
 refine EC hl hr hres hub hvars hW ?_ hb
 obtain⟨p,q,hA,hV,_⟩:=hW
 rw[hvars] at hV
 obtain⟨rfl,rfl⟩:=trodVars_none hV
 rw[List.append_nil]
 exact hs ds (by rw[<- trodAll_len hA];simp)
where
 trodAll_len {w:World} {ts:List TypeId} {vs:List Value} {ds:List (DataW H)} {ps:List MemPlace} {b:Nat} {sp:Nat->Bool} {hd:Bool} (h:DataW.TrodAll enc C.prog w b sp hd ts vs ds ps):ts.length=ds.length:=by
  induction ts generalizing vs ds ps with
  | nil=>obtain⟨_,rfl,_⟩:=trodAll_nil h;rfl
  | cons t ts ih =>
   obtain⟨v,vs',d,ds',p,q,rfl,rfl,rfl,h0,r0⟩:=trodAll_cons h
   simp[ih r0]
end
theorem own:ownKnob Tryz.prog.godebug=none:=kZ
theorem laidOut:laidOutB Tryz.prog=true:=kZ
/-! ### What fits its kind -/
theorem Qz {x:Int} (w:(Lit.int .u32 x).wf=true):0<=x:=by simp[Lit.wf,IntKind.min,IntKind.max,IntKind.signed,IntKind.bits] at w;omega
theorem Qv {x:Int} (w:(Lit.int .u32 x).wf=true):x<=4294967295:=by simp[Lit.wf,IntKind.min,IntKind.max,IntKind.signed,IntKind.bits] at w;omega
end Go.Proofs.YtlfndoclbebdaaaGreatDoor
namespace Go.Proofs.YtlfndoclbebdaaaGreatDoor
open Go.RowKit
structure dD (w:World) (b c:Nat) (cs:List Int) (l s:Int):Prop where
 rec_:w.heap[b]?=some (.cells #[.slice (some ⟨c,0,none⟩) cs.length cs.length,.int .i64 l,.int .i64 s] 129 (0,0))
 row:w.heap[c]?=some (.cells (cs.map (Value.int .u32)).toArray 32 (0,0))
theorem dD.ne {w:World} {b c:Nat} {cs:List Int} {l s:Int} (h:dD w b c cs l s):b≠c:=by
 rintro rfl
 have:=h.rec_.symm.trans h.row
 simp at this
theorem dD.eY {w w':World} {b c:Nat} {cs:List Int} {l s:Int} (h:dD w b c cs l s) (hb:w'.heap[b]?=w.heap[b]?) (hc:w'.heap[c]?=w.heap[c]?):dD w' b c cs l s:=⟨hb.trans h.rec_,hc.trans h.row⟩
theorem dD.mod {w w':World} {b c:Nat} {cs:List Int} {l s:Int} (h:dD w b c cs l s) {S:Nat->Prop} (hm:bI S w w') (hb:¬ S b) (hc:¬ S c):dD w' b c cs l s :=
 h.eY (hm.block b (lt_of_heap h.rec_) hb) (hm.block c (lt_of_heap h.row) hc)
theorem dD.below {w w':World} {b c:Nat} {cs:List Int} {l s:Int} (h:dD w b c cs l s) (hm:Below w.heap.size w w'):dD w' b c cs l s :=
 h.eY (hm.block b (lt_of_heap h.rec_)) (hm.block c (lt_of_heap h.row))
theorem dD.loaded {w:World} {b c:Nat} {cs:List Int} {l s:Int} (h:dD w b c cs l s) (l':Int):dD (w.setCell ⟨b,1,none⟩ (.int .i64 l')) b c cs l' s:=by
 refine⟨?_,?_⟩
 ·rw[heap_setCell_same _ _ _ _ _ _ h.rec_];rfl
 ·rw[Below.heap_setCell _ _ _ _ h.ne.symm];exact h.row
theorem dD.counted {w:World} {b c:Nat} {cs:List Int} {l s:Int} (h:dD w b c cs l s) (s':Int):dD (w.setCell ⟨b,2,none⟩ (.int .i64 s')) b c cs l s':=by
 refine⟨?_,?_⟩
 ·rw[heap_setCell_same _ _ _ _ _ _ h.rec_];rfl
 ·rw[Below.heap_setCell _ _ _ _ h.ne.symm];exact h.row
theorem dD.stored {w:World} {b c:Nat} {cs:List Int} {l s:Int} (h:dD w b c cs l s) (a:Nat) (v:Int):dD (w.setCell ⟨c,a,none⟩ (.int .u32 v)) b c (cs.set a v) l s:=by
 refine⟨?_,?_⟩
 ·rw[Below.heap_setCell _ _ _ _ h.ne];simpa using h.rec_
 ·rw[heap_setCell_same _ _ _ _ _ _ h.row];simp[List.map_set]
theorem EK:(Tryz.prog.info? 32).map (fun i=>(i.zero,i.size,i.bytes))=some (some (.int .u32 0),1,4):=kZ
theorem MR (n:Nat):madeCells (Value.cells (.int .u32 0)) n=((List.replicate n (0:Int)).map (Value.int .u32)).toArray:=by
 apply Array.ext
 ·simp[madeCells]
 ·intro i h1 h2
  simp[madeCells,Value.cells]
  simp[Nat.mod_one]
theorem ul (n:Nat) (h2:n<=65536) (w:World):(Instr.makeSlice 47 (.int .i64 n) (.int .i64 n)).run Tryz.prog w=.ok (.slice (some ⟨w.heap.size,0,none⟩) n n) (w.alloc (.cells (Array.replicate n (Value.int .u32 0)) 32)):=by
 obtain⟨i0,hi,hz0,hz1,hz2⟩:=info_parts EK
 have:=run_make (P:=Tryz.prog) w 47 32 i0 _ Tryz.underlying47 hi hz0 .i64 .i64 n n oZ oZ (by rw[hz2];omega) oZ
 rw[this,hz1,MR];simp
theorem L9:(Tryz.prog.info? 32).map (·.size)=some 1:=kZ
/-! ### The calls -/
theorem Qc (w:World) (n:Nat) (h1:1<=n) (h2:n<=65536) :
  Calls Tryz.prog 34 #[.int .i64 n] w fun e w'=>e=.returned (.tuple #[.pointer (some ⟨w.heap.size+1,0,none⟩),.int .i64 0])/\dD w' (w.heap.size+1) w.heap.size (List.replicate n 0) 0 0/\Below w.heap.size w w':=by
 have hmk:=ul n h2
 go_enter Tryz.func34,Tryz.ntmps34
 go_wp2
 go_ret2
 refine⟨rfl,⟨?_,?_⟩,((Below.refl _ _).alloc (Nat.le_refl _) _).alloc sZ _⟩
 ·simpa using nZ (w.alloc (.cells (Array.replicate n (Value.int .u32 0)) 32)) (.cells #[.slice (some ⟨w.heap.size,0,none⟩) n n,.int .i64 0,.int .i64 0] 129)
 ·rw[Below.heap_alloc _ _ _ sZ];simpa using nZ w (.cells (Array.replicate n (Value.int .u32 0)) 32)
theorem dD.c0 {w:World} {b c:Nat} {cs:List Int} {l s:Int} (h:dD w b c cs l s):w.cell? ⟨b,0,none⟩=some (.slice (some ⟨c,0,none⟩) cs.length cs.length):=ae h.rec_ 0
theorem dD.c1 {w:World} {b c:Nat} {cs:List Int} {l s:Int} (h:dD w b c cs l s):w.cell? ⟨b,1,none⟩=some (.int .i64 l):=ae h.rec_ 1
theorem dD.c2 {w:World} {b c:Nat} {cs:List Int} {l s:Int} (h:dD w b c cs l s):w.cell? ⟨b,2,none⟩=some (.int .i64 s):=ae h.rec_ 2
theorem dD.at_ {w:World} {b c:Nat} {cs:List Int} {l s:Int} (h:dD w b c cs l s) {a:Nat} (ha:a<cs.length):w.cell? ⟨c,a,none⟩=some (.int .u32 cs[a]):=by rw[ae h.row a];simp[ha]
theorem yx {w:World} {b c:Nat} {cs:List Int} {l s:Int} (h:dD w b c cs l s) :
  Calls Tryz.prog 64 #[.pointer (some ⟨b,0,none⟩)] w fun e w'=>e=.returned (.int .i64 cs.length)/\w=w':=by
 have h0:=h.c0
 go_enter Tryz.func64,Tryz.ntmps64
 go_wp2
 go_ret
 exact⟨rfl,rfl⟩
theorem Kt {w:World} {b c:Nat} {cs:List Int} {l s:Int} (h:dD w b c cs l s) :
  Calls Tryz.prog 30 #[.pointer (some ⟨b,0,none⟩)] w fun e w'=>e=.returned (.int .i64 s)/\w=w':=by
 have h0:=h.c2
 go_enter Tryz.func30,Tryz.ntmps30
 go_wp2
 go_ret
 exact⟨rfl,rfl⟩
theorem LP {w:World} {b c:Nat} {cs:List Int} {l s:Int} (h:dD w b c cs l s) (a:Nat) (ha:a<cs.length) :
  Calls Tryz.prog 60 #[.pointer (some ⟨b,0,none⟩),.int .i64 a] w fun e w'=>e=.returned (.bool true)/\w=w':=by
 have hd:decide ((a:Int)<(cs.length:Int))=true:=by simpa using ha
 go_enter Tryz.func60,Tryz.ntmps60
 go_wp2_with (go_at_call 64;refine(yx h).mono ?_;rintro e w' ⟨rfl,rfl⟩)
 go_ret
 exact⟨sZ,rfl⟩
theorem Iz {w:World} {b c:Nat} {cs:List Int} {l s:Int} (h:dD w b c cs l s) (a:Int) (ha:a<0∨cs.length<=a) :
  Calls Tryz.prog 60 #[.pointer (some ⟨b,0,none⟩),.int .i64 a] w fun e w'=>e=.returned (.bool false)/\w=w':=by
 by_cases h0:a<0
 ·go_enter Tryz.func60,Tryz.ntmps60
  go_wp2_with (go_at_call 64;refine(yx h).mono ?_;rintro e w' ⟨rfl,rfl⟩)
  go_ret
  exact⟨rfl,rfl⟩
 ·have ha':0<=a:=oZ
  have hd:decide (a<(cs.length:Int))=false:=by simp;omega
  go_enter Tryz.func60,Tryz.ntmps60
  go_wp2_with (go_at_call 64;refine(yx h).mono ?_;rintro e w' ⟨rfl,rfl⟩)
  go_ret
  exact⟨sZ,rfl⟩
theorem O6 {w:World} {b c:Nat} {cs:List Int} {l s:Int} (h:dD w b c cs l s) (a:Nat) (ha:a<cs.length) (hl0:0<=l) (hl:l<1000000000) :
  Calls Tryz.prog 23 #[.pointer (some ⟨b,0,none⟩),.int .i64 a] w fun e w'=>e=.returned (.tuple #[.int .u32 cs[a],.int .i64 0])/\dD w' b c cs (l+1) s/\bI (·=b) w w':=by
 have h0:=h.c0
 have h1:=h.c1
 have f1:=free_at h.rec_ 1
 have h2:=h.at_ ha
 have hne:¬ c=b:=fun e=>h.ne e.symm
 go_enter Tryz.func23,Tryz.ntmps23
 go_wp2_with (go_at_call 60;refine(LP h a ha).mono ?_;rintro e w' ⟨rfl,rfl⟩)
 go_ret2
 exact⟨rfl,h.loaded _,bI.setCell (S:=fun k=>k=b) (bI.refl _ _) (.inr rfl) _⟩
theorem Lr {w:World} {b c:Nat} {cs:List Int} {l s:Int} (h:dD w b c cs l s) (a:Int) (ha:a<0∨cs.length<=a) :
  Calls Tryz.prog 23 #[.pointer (some ⟨b,0,none⟩),.int .i64 a] w fun e w'=>e=.returned (.tuple #[.int .u32 0,.int .i64 2])/\w=w':=by
 go_enter Tryz.func23,Tryz.ntmps23
 go_wp2_with (go_at_call 60;refine(Iz h a ha).mono ?_;rintro e w' ⟨rfl,rfl⟩)
 go_ret2
 exact⟨rfl,rfl⟩
theorem nH {w:World} {b c:Nat} {cs:List Int} {l s:Int} (h:dD w b c cs l s) (a:Nat) (v:Int) (ha:a<cs.length) (hs0:0<=s) (hs:s<1000000000) :
  Calls Tryz.prog 66 #[.pointer (some ⟨b,0,none⟩),.int .i64 a,.int .u32 v] w fun e w'=>e=.returned (.int .i64 0)/\dD w' b c (cs.set a v) l (s+1)/\bI (fun k=>k=b∨k=c) w w':=by
 have h0:=h.c0
 have h1:=h.c2
 have f1:=free_at h.rec_ 2
 have h2:=h.at_ ha
 have f2:=free_at h.row a
 have hne:¬ c=b:=fun e=>h.ne e.symm
 go_enter Tryz.func66,Tryz.ntmps66
 go_wp2_with (go_at_call 60;refine(LP h a ha).mono ?_;rintro e w' ⟨rfl,rfl⟩)
 go_ret
 exact⟨rfl,(h.counted _).stored _ _,bI.setCell (S:=fun k=>k=b∨k=c) (bI.setCell (S:=fun k=>k=b∨k=c) (bI.refl _ _) (.inr (.inl rfl)) _) (.inr (.inr rfl)) _⟩
theorem JG {w:World} {b c:Nat} {cs:List Int} {l s:Int} (h:dD w b c cs l s) (a v:Int) (ha:a<0∨cs.length<=a) :
  Calls Tryz.prog 66 #[.pointer (some ⟨b,0,none⟩),.int .i64 a,.int .u32 v] w fun e w'=>e=.returned (.int .i64 2)/\w=w':=by
 go_enter Tryz.func66,Tryz.ntmps66
 go_wp2_with (go_at_call 60;refine(Iz h a ha).mono ?_;rintro e w' ⟨rfl,rfl⟩)
 go_ret
 exact⟨rfl,rfl⟩
/-! ### What all hold: a copy -/
theorem cells_at {w:World} {b c:Nat} {cs:List Int} {l s:Int} (h:dD w b c cs l s) (hn:cs.length<=65536) :
  Calls Tryz.prog 25 #[.pointer (some ⟨b,0,none⟩)] w fun e w'=>e=.returned (.slice (some ⟨w.heap.size,0,none⟩) cs.length cs.length) /\
   w'.heap[w.heap.size]?=some (.cells (cs.map (Value.int .u32)).toArray 32 (0,0))/\Below w.heap.size w w':=by
 have h0:=h.c0
 have hmk:=ul cs.length hn
 have hbl:=lt_of_heap h.rec_
 have hrl:=lt_of_heap h.row
 have hnew:(w.alloc (.cells (Array.replicate cs.length (Value.int .u32 0)) 32)).heap[w.heap.size]?=some (.cells (List.replicate cs.length (Value.int .u32 0)).toArray 32 (0,0)):=by
  simpa using nZ w (.cells (Array.replicate cs.length (Value.int .u32 0)) 32)
 have HN:=hJ hnew
 have hrow:∀ (j:Nat) (v:Value),(cs.map (Value.int .u32))[j]?=some v->(w.alloc (.cells (Array.replicate cs.length (Value.int .u32 0)) 32)).cell? ((⟨c,0,none⟩:Addr).add j)=some v:=by
  intro j v hj
  rw[Addr.add_lit,Nat.zero_add,World.cell?_of_block (w:=w) (Below.heap_alloc w _ c hrl),ae h.row]
  simpa using hj
 have HR:=hJ hrow
 clear hnew hrow
 have H1:=hJ (show (cs.map (Value.int .u32)).length=Nat.min cs.length cs.length by simp)
 have H3:=hJ (show 0+(cs.map (Value.int .u32)).length<=(List.replicate cs.length (Value.int .u32 0)).length by simp)
 have H4:=hJ (show ∀ v∈cs.map (Value.int .u32),v.oneCell'=true by simp[Value.oneCell'])
 go_enter Tryz.func25,Tryz.ntmps25
 go_wp2_with (with_reducible refine wpList_copy_splice rfl (.tmp 12) (.tmp 16) 47 47 rfl 32 Tryz.underlying47 L9 _ _ _ _ _ _ rfl rfl w.heap.size 0 _ 32 HN.out (cs.map (Value.int .u32)) H1.out (fun _=>⟨rfl,_,rfl,HR.out⟩) H3.out H4.out w.heap.size w ((Below.refl _ _).alloc (Nat.le_refl _) _) (Nat.le_refl _) ?_;intro w2 hg2 hb2)
 go_ret
 refine⟨rfl,?_,hb2⟩
 have:=hg2.out
 simpa [splice] using this
/-! ### A nil memory -/
def ax (s:ByteArray):List Nat:=s.data.toList.map (·.toNat)
theorem aG (s:ByteArray):(ax s).length=s.size:=by simp[ax]
def ay (l:List Nat):ByteArray:=⟨(l.map UInt8.ofNat).toArray⟩
theorem jI (s:ByteArray):ay (ax s)=s:=by
 unfold ay ax
 apply ByteArray.ext
 apply Array.toList_inj.1
 simp only[List.map_map]
 conv=>rhs;rw[<- List.map_id s.data.toList]
 apply List.map_congr_left
 intro b _
 simp
theorem bi (l:List Nat) (h:∀ b∈l,b<256):ax (ay l)=l:=by
 unfold ay ax
 simp only[List.map_map]
 conv=>rhs;rw[<- List.map_id l]
 apply List.map_congr_left
 intro b hb
 simpa using Nat.mod_eq_of_lt (h b hb)
def BytesIn (w:World) (base:Nat) (v:Value) (l:List Nat):Prop:=w.ownsRow base 5 1 v l.length (l.map fun(b:Nat)=>Value.int .u8 (b:Int))
theorem kM:(Tryz.prog.info? 5).map (fun i=>(i.zero,i.size,i.bytes))=some (some (.int .u8 0),1,1):=kZ
theorem jo (s:ByteArray):∀ b∈ax s,b<256:=by
 intro b hb
 unfold ax at hb
 obtain⟨u,_,rfl⟩:=List.mem_map.1 hb
 exact u.toNat_lt
theorem Hw {a b:ByteArray} (h:ax a=ax b):a=b:=by rw[<- jI a,<- jI b,h]
theorem oC {w:World} {base:Nat} {v:Value} {l:List Nat} (h:BytesIn w base v l) (hl:∀ b∈l,b<256):(convert 256 9 v).run Tryz.prog w=.ok (.string (ay l)) w:=by
 rcases h.2 with ⟨rfl,h0⟩ | ⟨g,cap,cur,rfl,_,hg,_,_,_,ht⟩
 ·have:l=[]:=List.eq_nil_of_length_eq_zero h0
  subst this
  rw[Lib.run_convert_nil_bytes (P:=Tryz.prog) w 256 9 5 0 Tryz.underlying256 Tryz.underlying5 Tryz.underlying9]
  rfl
 ·have hc:=World.ownsRow.cells h (g:=g) rfl
  have:=run_convert_bytes_back (P:=Tryz.prog) w 256 9 5 ⟨g,0,none⟩ cap (l.map UInt8.ofNat) Tryz.underlying256 Tryz.underlying5 Tryz.underlying9 (fun j hj=>by
   have hj':j<l.length:=by simpa using hj
   rw[hc j (.int .u8 ((l[j]:Nat):Int)) (by simp[gZ hj'])]
   have:=hl l[j] (List.getElem_mem hj')
   simp[Nat.mod_eq_of_lt this])
  simpa [ay] using this
def six (U:Nat->Int):Array Value:=#[.int .i64 (U 0),.int .i64 (U 1),.int .i64 (U 2),.int .i64 (U 3),.int .i64 (U 4),.int .i64 (U 5)]
def af (B S:Nat->Int) (C T L:Int):Array Value:=#[.int .i64 (B 0),.int .i64 (B 1),.int .i64 (B 2),.int .i64 (B 3),.int .i64 (B 4),.int .i64 (B 5),.int .i64 (S 0),.int .i64 (S 1),.int .i64 (S 2),.int .i64 (S 3),.int .i64 (S 4),.int .i64 (S 5),.int .i64 C,.int .i64 T,.int .i64 L]
def wB (U S:Nat->Int) (k:Nat):Bool:=decide (0<=U k)&&decide (U k<=S k)
theorem CU {U S:Nat->Int} {k:Nat} (h0:0<=U k) (h1:U k<=S k):wB U S k=true:=by simp[wB,h0,h1]
theorem Oj {U S:Nat->Int} {k:Nat} (h:U k<0∨S k<U k):wB U S k=false:=by simp[wB];omega
theorem ni {k:Nat} (h:k<6):k=0∨k=1∨k=2∨k=3∨k=4∨k=5:=oZ
theorem oD (w:World) (B S U:Nat->Int) (C T L:Int) (k:Nat) (hk:k<6) :
  Calls Tryz.prog 104 #[.agg (af B S C T L),.agg (six U),.int .i64 k] w fun e w'=>e=.returned (.bool (wB U S k))/\Below w.heap.size w w':=by
 unfold af six
 by_cases h0:0<=U k
 ·by_cases h1:U k<=S k
  ·rw[CU h0 h1]
   rcases ni hk with rfl | rfl | rfl | rfl | rfl | rfl
   all_goals
    go_enter Tryz.func104,Tryz.ntmps104
    go_wp2
    go_quiet (fail)
    go_wp2
    go_ret
    exact⟨rfl,qA⟩
  ·rw[Oj oZ]
   have h1':decide (U k<=S k)=false:=by simpa using h1
   rcases ni hk with rfl | rfl | rfl | rfl | rfl | rfl
   all_goals
    go_enter Tryz.func104,Tryz.ntmps104
    go_wp2
    go_quiet (fail)
    go_wp2
    go_ret
    exact⟨rfl,qA⟩
 ·rw[Oj oZ]
  have h0':decide (0<=U k)=false:=by simpa using h0
  rcases ni hk with rfl | rfl | rfl | rfl | rfl | rfl
  all_goals
   go_enter Tryz.func104,Tryz.ntmps104
   go_wp2
   go_quiet (fail)
   go_wp2
   go_ret
   exact⟨rfl,qA⟩
theorem uw (w:World) (B S U:Nat->Int) (C T L:Int) (k:Nat) (hk:k<6) (hu0:0<=U k) (hus:U k<=S k) (hs:S k<=1000000) :
  Calls Tryz.prog 105 #[.agg (af B S C T L),.agg (six U),.int .i64 k] w fun e w'=>e=.returned (.int .i64 (S k-U k))/\Below w.heap.size w w':=by
 unfold af six
 rcases ni hk with rfl | rfl | rfl | rfl | rfl | rfl
 all_goals
  go_enter Tryz.func105,Tryz.ntmps105
  go_wp2
  go_quiet (fail)
  go_wp2
  go_ret
  exact⟨rfl,qA⟩
def aS (k:Nat):Int:=if k=0 then 4 else if k=1 then 16 else if k=2 then 64 else 256
theorem Io (w:World) (k:Nat) (hk:k<4):Calls Tryz.prog 138 #[.int .i64 k] w fun e w'=>e=.returned (.int .i64 (aS k))/\w=w':=by
 have:k=0∨k=1∨k=2∨k=3:=oZ
 rcases this with rfl | rfl | rfl | rfl
 all_goals
  go_enter Tryz.func138,Tryz.ntmps138
  go_wp2
  go_ret
  exact⟨rfl,rfl⟩
theorem mO (w:World) (k:Nat) (hk:k<4):Calls Tryz.prog 100 #[.int .i64 k] w fun e w'=>e=.returned (.int .i64 (aS k))/\w=w':=by
 have:k=0∨k=1∨k=2∨k=3:=oZ
 rcases this with rfl | rfl | rfl | rfl
 ·go_enter Tryz.func100,Tryz.ntmps100
  go_wp2_with fail
  refine wp_loop_rounds 1 ?_;rw[rounds_succ]
  go_wp2
  go_ret
  exact⟨rfl,rfl⟩
 ·go_enter Tryz.func100,Tryz.ntmps100
  go_wp2_with fail
  refine wp_loop_rounds 2 ?_;rw[rounds_succ]
  go_wp2
  rw[rounds_succ]
  go_wp2
  go_ret
  exact⟨rfl,rfl⟩
 ·go_enter Tryz.func100,Tryz.ntmps100
  go_wp2_with fail
  refine wp_loop_rounds 3 ?_;rw[rounds_succ]
  go_wp2
  rw[rounds_succ]
  go_wp2
  rw[rounds_succ]
  go_wp2
  go_ret
  exact⟨rfl,rfl⟩
 ·go_enter Tryz.func100,Tryz.ntmps100
  go_wp2_with fail
  refine wp_loop_rounds 4 ?_;rw[rounds_succ]
  go_wp2
  rw[rounds_succ]
  go_wp2
  rw[rounds_succ]
  go_wp2
  rw[rounds_succ]
  go_wp2
  go_ret
  exact⟨rfl,rfl⟩
section
variable {P:Program}
theorem results_cell_tmp {fn:Func} {p q:Tmp} {ty:TypeId} (h:fn.results=#[.cell p ty,.tmp q]) (tmps:Array Value) (w:World) (g:Nat) (t:TypeId) (cs:Array Value) (fr:Nat×Nat) (d:TypeDesc) (v:Value)
  (hp:tmps.getD p undef=.pointer (some ⟨g,0,none⟩)) (hq:tmps.getD q undef=v) (hg:w.heap[g]?=some (.cells cs t fr))
  (hu:P.underlying ty=some d) (hd:(match d with | .struct _ | .array _ _=>true | _=>false)=true) (hi:(P.info? ty).map (·.size)=some cs.size) :
  (results fn tmps).run P w=.ok (.tuple #[.agg cs,v]) w:=by
 have hp':tmps[p]?.getD undef=.pointer (some ⟨g,0,none⟩):=by simpa using hp
 have hq':tmps[q]?.getD undef=v:=by simpa using hq
 simp[results,h,hp',hq',asAddr,run_loadVar_row w g t ty cs fr d hg hu hd hi]
theorem bG {fn:Func} {p q r:Tmp} {ty:TypeId} (h:fn.results=#[.tmp r,.cell p ty,.tmp q]) (tmps:Array Value) (w:World) (g:Nat) (t:TypeId) (cs:Array Value) (fr:Nat×Nat) (d:TypeDesc) (u v:Value)
  (hr:tmps.getD r undef=u) (hp:tmps.getD p undef=.pointer (some ⟨g,0,none⟩)) (hq:tmps.getD q undef=v) (hg:w.heap[g]?=some (.cells cs t fr))
  (hu:P.underlying ty=some d) (hd:(match d with | .struct _ | .array _ _=>true | _=>false)=true) (hi:(P.info? ty).map (·.size)=some cs.size) :
  (results fn tmps).run P w=.ok (.tuple #[u,.agg cs,v]) w:=by
 have hp':tmps[p]?.getD undef=.pointer (some ⟨g,0,none⟩):=by simpa using hp
 have hq':tmps[q]?.getD undef=v:=by simpa using hq
 have hr':tmps[r]?.getD undef=u:=by simpa using hr
 simp[results,h,hp',hq',hr',asAddr,run_loadVar_row w g t ty cs fr d hg hu hd hi]
theorem iV {ops:Array Oper} {rest:List Oper} {o:Oper} {a:Act} {w:World} {Q:Exit->Act->World->Prop} (hw:Region.wanted o (yielded ops a.tmps)=true) (ty:TypeId) (x:Operand) (ho:o.op=.load ty x)
  (g:Nat) (hx:a.eval x=.pointer (some ⟨g,0,none⟩)) (t:TypeId) (cs:Array Value) (fr:Nat×Nat) (d:TypeDesc) (hg:w.heap[g]?=some (.cells cs t fr))
  (hu:P.underlying ty=some d) (hd:(match d with | .struct _ | .array _ _=>true | _=>false)=true) (hi:(P.info? ty).map (·.size)=some cs.size)
  (h:wpList P ops Q rest (a.put o.dst (.agg cs)) w):wpList P ops Q (o :: rest) a w :=
 wpList_step fun K hK=>by
  rw[if_pos hw]
  exact wp_load_row ty x ho g hx t cs fr d hg hu hd hi (hK _ _ h)
end
section
variable {P:Program} {ops:Array Oper}
def NoWay:Exit->Act->World->Prop:=fun _ _ _=>False
def iG (ops:Array Oper) (j:Nat):Option Tmp:=(ops[j]?).bind (·.dst)
def rD (ops:Array Oper) (V:Nat->Value) (a:Act):Nat->Act
 | 0=>a
 | k+1=>(rD ops V a k).put (iG ops k) (V k)
structure gu (ops:Array Oper) (V:Nat->Value) (a0:Act) (l:Nat->Bool) (a:Act):Prop where
 defers:a.defers=a0.defers
 size:a.tmps.size=a0.tmps.size
 set:∀ j d,iG ops j=some d->l j=true->a.tmps[d]?=some (V j)
 old:∀ t,(∀ j,iG ops j=some t->l j=false)->a.tmps[t]?=a0.tmps[t]?
def Bf (L:Nat->Nat->Bool) (ops:Array Oper) (n:Nat):Bool :=
 (List.range ops.size).all fun i=>match ops[i]? with
  | none=>true
  | some o =>
   (match o.op with | .select _ _=>false | _=>true) &&
   ((match o.dst with | none=>true | some d=>decide (d<n)&&(List.range ops.size).all fun j=>j==i||iG ops j != some d) &&
   ((o.after.all fun e=>!Region.binds .any e||decide (e.on<i)) &&
   (List.range ops.size).all fun j=>match iG ops j with | none=>true | some d=>!(o.looksAt ops).contains d||(Region.waitsFor .any ops i j||L i j)))
def IJ (ops:Array Oper) (n:Nat):Bool:=Bf (fun _ _=>false) ops n
structure Fair (L:Nat->Nat->Bool) (ops:Array Oper) (n:Nat):Prop where
 sel:∀ (i:Nat) (o:Oper),ops[i]?=some o->∀ cs b,o.op≠.select cs b
 lt:∀ i d,iG ops i=some d->d<n
 one:∀ i j d,iG ops i=some d->iG ops j=some d->j=i
 back:∀ (i:Nat) (o:Oper),ops[i]?=some o->∀ e∈o.after,Region.binds .any e=true->e.on<i
 looks:∀ (i:Nat) (o:Oper),ops[i]?=some o->∀ j d,iG ops j=some d->d∈o.looksAt ops->(∃ e∈o.after,Region.binds .any e=true/\e.on=j)∨L i j=true
theorem nG {j:Nat} {d:Tmp} (h:iG ops j=some d):j<ops.size:=by
 unfold iG at h
 cases ho:ops[j]? with
 | none=>simp[ho] at h
 | some o=>exact(Array.getElem?_eq_some_iff.1 ho).1
theorem Fe {j:Nat} {o:Oper} (h:ops[j]?=some o):iG ops j=o.dst:=by simp[iG,h]
theorem y8 {j:Nat} {d:Tmp} (h:iG ops j=some d):∃ o,ops[j]?=some o/\o.dst=some d:=by
 unfold iG at h
 cases ho:ops[j]? with
 | none=>simp[ho] at h
 | some o=>exact⟨o,rfl,by simpa [ho] using h⟩
theorem Fair.of {L:Nat->Nat->Bool} {n:Nat} (h:Bf L ops n=true):Fair L ops n:=by
 have key:∀ i o,ops[i]?=some o->(match o.op with | .select _ _=>false | _=>true)=true /\
   (match o.dst with | none=>true | some d=>decide (d<n)&&(List.range ops.size).all fun j=>j==i||iG ops j != some d)=true /\
   (o.after.all fun e=>!Region.binds .any e||decide (e.on<i))=true /\
   ((List.range ops.size).all fun j=>match iG ops j with | none=>true | some d=>!(o.looksAt ops).contains d||(Region.waitsFor .any ops i j||L i j))=true:=by
  intro i o ho
  have hi:=(Array.getElem?_eq_some_iff.1 ho).1
  have:=List.all_eq_true.1 h i (List.mem_range.2 hi)
  rw[ho] at this
  simp only[Bool.and_eq_true] at this
  exact this
 refine⟨fun i o ho cs b hs=>?_,fun i d hd=>?_,fun i j d hi hj=>?_,fun i o ho e he hb=>?_,fun i o ho j d hd hl=>?_⟩
 ·have:=(key i o ho).1
  rw[hs] at this
  cases this
 ·obtain⟨o,ho,hd⟩:=y8 hd
  have:=(key i o ho).2.1
  simp only[hd,Bool.and_eq_true,decide_eq_true_eq] at this
  exact this.1
 ·obtain⟨o,ho,hd⟩:=y8 hi
  have:=(key i o ho).2.1
  simp only[hd,Bool.and_eq_true,decide_eq_true_eq] at this
  have:=List.all_eq_true.1 this.2 j (List.mem_range.2 (nG hj))
  simp only[Bool.or_eq_true,beq_iff_eq,bne_iff_ne,ne_eq] at this
  rcases this with h | h
  ·exact h
  ·exact absurd hj h
 ·have:=(key i o ho).2.2.1
  rw[Array.all_eq_true_iff_forall_mem] at this
  have:=this e he
  rw[hb] at this
  simpa using this
 ·have:=(key i o ho).2.2.2
  have:=List.all_eq_true.1 this j (List.mem_range.2 (nG hd))
  rw[hd] at this
  simp only[Bool.or_eq_true,Bool.not_eq_true'] at this
  rcases this with h | h | h
  ·have:(o.looksAt ops).contains d=true:=List.contains_iff_mem.2 hl
   rw[h] at this
   cases this
  rotate_left
  ·exact .inr h
  ·refine .inl ?_
   obtain⟨oj,hoj,e,he,hb,hon⟩:=Region.waitsFor_spec h
   obtain rfl:o=oj:=Option.some.inj (ho.symm.trans hoj)
   exact⟨e,he,hb,hon⟩
theorem gu.start (V:Nat->Value) (a0:Act):gu ops V a0 (fun _=>false) a0:=⟨rfl,rfl,(fun _ _ _ h=>by cases h),fun _ _=>rfl⟩
theorem gu.put {L:Nat->Nat->Bool} {n:Nat} (hf:Fair L ops n) {V V':Nat->Value} {a0 a:Act} {l l':Nat->Bool} (h:gu ops V a0 l a) (hn:a0.tmps.size=n) (i:Nat) (hl':∀ j,l' j=(j==i||l j)) (hi:l i=false) (hV:∀ j,l j=true->V' j=V j) :
  gu ops V' a0 l' (a.put (iG ops i) (V' i)):=by
 cases hd:iG ops i with
 | none =>
  refine⟨h.defers,h.size,fun j d hj hl=>?_,fun t ht=>h.old t fun j hj=>?_⟩
  ·have hne:j≠i:=by rintro rfl;rw[hd] at hj;cases hj
   have:l j=true:=by rw[hl'] at hl;simpa [hne] using hl
   rw[hV j this]
   exact h.set j d hj this
  ·have:=ht j hj
   rw[hl'] at this
   simp at this
   exact this.2
 | some d =>
  have hlt:d<a.tmps.size:=by rw[h.size,hn];exact hf.lt i d hd
  refine⟨h.defers,by simpa [Act.put] using h.size,fun j d' hj hl=>?_,fun t ht=>?_⟩
  ·by_cases hji:j=i
   ·subst hji
    obtain rfl:d=d':=Option.some.inj (hd.symm.trans hj)
    simp[Act.put,hlt]
   ·have hne:d≠d':=by rintro rfl;exact hji (hf.one i j d hd hj)
    have:l j=true:=by rw[hl'] at hl;simpa [hji] using hl
    simp only[Act.put,Array.getElem?_setIfInBounds_ne hne]
    rw[hV j this]
    exact h.set j d' hj this
  ·have hne:d≠t:=by rintro rfl;have:=ht i hd;rw[hl'] at this;simp at this
   simp only[Act.put,Array.getElem?_setIfInBounds_ne hne]
   refine h.old t fun j hj=>?_
   have:=ht j hj
   rw[hl'] at this
   simp at this
   exact this.2
theorem gu.rD {L:Nat->Nat->Bool} {n:Nat} (hf:Fair L ops n) (V:Nat->Value) (a0:Act) (hn:a0.tmps.size=n):∀ k,gu ops V a0 (fun j=>decide (j<k)) (rD ops V a0 k)
 | 0=>by
  have e:(fun j=>decide (j<0))=fun _=>false:=funext fun j=>sZ
  rw[e]
  exact gu.start V a0
 | k+1=>gu.put hf (gu.rD hf V a0 hn k) hn k (fun j=>by rw[Bool.eq_iff_iff];simp;omega) sZ (fun _ _=>rfl)
theorem gu.same {V:Nat->Value} {a0 a b:Act} {l l':Nat->Bool} (h:gu ops V a0 l a) (h':gu ops V a0 l' b) (hl:∀ j,j<ops.size->l j=true) (hl':∀ j,j<ops.size->l' j=true):a=b:=by
 have ht:a.tmps=b.tmps:=by
  apply Array.ext_getElem?
  intro t
  by_cases e:∃ j,iG ops j=some t
  ·obtain⟨j,hj⟩:=e
   rw[h.set j t hj (hl j (nG hj)),h'.set j t hj (hl' j (nG hj))]
  ·rw[h.old t fun j hj=>absurd ⟨j,hj⟩ e,h'.old t fun j hj=>absurd ⟨j,hj⟩ e]
 have hd:a.defers=b.defers:=h.defers.trans h'.defers.symm
 cases a;cases b;simp_all
theorem gu.looks {L:Nat->Nat->Bool} {n:Nat} (hf:Fair L ops n) {V:Nat->Value} {a0 a b:Act} {l:Nat->Bool} (h:gu ops V a0 l a) (h':gu ops V a0 (fun j=>decide (j<ops.size)) b) {i:Nat} {o:Oper} (ho:ops[i]?=some o)
  (hl:∀ e∈o.after,Region.binds .any e=true->l e.on=true) (hL:∀ j d,L i j=true->iG ops j=some d->l j=false/\a0.tmps[d]?=some (V j)) (d:Tmp) (hd:d∈o.looksAt ops):a.tmps[d]?=b.tmps[d]?:=by
 by_cases e:∃ j,iG ops j=some d
 ·obtain⟨j,hj⟩:=e
  rcases hf.looks i o ho j d hj hd with ⟨e,he,hb,rfl⟩ | hlj
  ·rw[h.set _ d hj (hl e he hb),h'.set _ d hj (by simpa using nG hj)]
  ·obtain⟨h1,h2⟩:=hL j d hlj hj
   rw[h.old d (fun k hk=>by rw[hf.one j k d hj hk];exact h1),h'.set _ d hj (by simpa using nG hj)]
   exact h2
 ·rw[h.old d fun j hj=>absurd ⟨j,hj⟩ e,h'.old d fun j hj=>absurd ⟨j,hj⟩ e]
theorem gu.exec {L:Nat->Nat->Bool} {n:Nat} (hf:Fair L ops n) {V:Nat->Value} {a0 a b:Act} {l:Nat->Bool} (h:gu ops V a0 l a) (h':gu ops V a0 (fun j=>decide (j<ops.size)) b) {i:Nat} {o:Oper} (ho:ops[i]?=some o)
  (hl:∀ e∈o.after,Region.binds .any e=true->l e.on=true) (hL:∀ j d,L i j=true->iG ops j=some d->l j=false/\a0.tmps[d]?=some (V j)):execOp a.eval o=execOp b.eval o :=
 execOp_congr o (hf.sel i o ho) fun x hx=>by
  cases x with
  | tmp t =>
   have:=h.looks hf h' ho hl hL t (List.mem_append_left _ (List.mem_filterMap.2 ⟨.tmp t,by simpa using hx,rfl⟩))
   simp[Act.eval,this]
  | const v=>rfl
  | global g=>rfl
  | func f=>rfl
theorem gu.wanted {L:Nat->Nat->Bool} {n:Nat} (hf:Fair L ops n) {V:Nat->Value} {a0 a b:Act} {l:Nat->Bool} (h:gu ops V a0 l a) (h':gu ops V a0 (fun j=>decide (j<ops.size)) b) {i:Nat} {o:Oper} (ho:ops[i]?=some o)
  (hl:∀ e∈o.after,Region.binds .any e=true->l e.on=true) (hL:∀ j d,L i j=true->iG ops j=some d->l j=false/\a0.tmps[d]?=some (V j)):Region.wanted o (yielded ops a.tmps)=Region.wanted o (yielded ops b.tmps):=by
 unfold Region.wanted
 cases hg:o.guard with
 | none=>rfl
 | some gw =>
  obtain⟨g,want⟩:=gw
  have hy:yielded ops a.tmps g=yielded ops b.tmps g:=by
   unfold yielded
   cases ht:(ops[g]?).bind (·.dst) with
   | none=>rfl
   | some t =>
    have:=h.looks hf h' ho hl hL t (by simp[Oper.looksAt,hg,ht])
    simp[this]
  simp only[hy]
theorem NoWay.OJ {x:Prop} (h:LetsOut NoWay):x:=by obtain⟨_,_,h⟩:=h;exact h.elim
theorem Nl {Q:Exit->Act->World->Prop} {o:Oper} {a b:Act} {w:World} {K:Act->World->Prop} (he:execOp a.eval o=execOp b.eval o)
  (h:o.wp P b w (fun a' w'=>∃ v,a'=b.put o.dst v/\K (a.put o.dst v) w' ) NoWay) (hinj:∀ v u,b.put o.dst v=b.put o.dst u->a.put o.dst v=a.put o.dst u):o.wp P a w K Q:=by
 unfold Oper.wp at *
 rw[he]
 generalize (execOp b.eval o).run P w=r at *
 cases r with
 | ok n w' =>
  cases n <;> simp only[Oper.upon] at h ⊢
  case value v =>
   obtain⟨u,hu,hk⟩:=h
   rw[hinj v u hu];exact hk
  case skip =>
   obtain⟨u,hu,hk⟩:=h
   rw[hinj undef u hu];exact hk
  case defer d =>
   obtain⟨u,hu,_⟩:=h
   have:=congrArg Act.defers hu
   cases hd:o.dst <;> simp[Act.put,hd] at this
  case enter f args =>
   refine Calls.mono h fun e w'' hh=>?_
   cases e with
   | returned v =>
    obtain⟨u,hu,hk⟩:=hh
    show K (a.put o.dst v) w''
    rw[hinj v u hu];exact hk
   | panicked c=>exact hh.elim
   | outgrown=>exact NoWay.OJ hh
  case row row args =>
   refine Rows.mono h fun v w'' hh=>?_
   obtain⟨u,hu,hk⟩:=hh
   rw[hinj v u hu];exact hk
 | halt x w'=>cases x <;> simp only[Oper.upon] at h ⊢;exact h.elim
theorem Ip {n:Nat} {a b:Act} {d:Option Tmp} (_ha:a.tmps.size=n) (hb:b.tmps.size=n) (hd:∀ x,d=some x->x<n) (v u:Value) (h:b.put d v=b.put d u):a.put d v=a.put d u:=by
 cases d with
 | none=>rfl
 | some x =>
  have hx:=hd x rfl
  have:=congrArg (fun c:Act=>c.tmps[x]?) h
  simp[Act.put,hb,hx] at this
  rw[this]
theorem Fh (listed:Array Bool) (i j:Nat) (hi:i<listed.size):(listed.setIfInBounds i true).getD j false=(j==i||listed.getD j false):=by
 by_cases e:i=j
 ·subst e;simp[hi]
 ·have e':¬ j=i:=fun h=>e h.symm
  simp[Array.getElem?_setIfInBounds_ne e,e']
theorem Hu {L:Nat->Nat->Bool} {n:Nat} (hf:Fair L ops n) {listed:Array Bool} (hs:listed.size=ops.size) (hr:Region.ready .any ops listed=[]):∀ j,j<ops.size->listed.getD j false=true:=by
 intro j
 induction j using Nat.strongRecOn with
 | _ j ih =>
  intro hj
  cases hl:listed.getD j false with
  | true=>rfl
  | false =>
   obtain⟨o,ho⟩:∃ o,ops[j]?=some o:=⟨_,Array.getElem?_eq_getElem hj⟩
   have:j∈Region.ready .any ops listed:=mem_ready.2 ⟨getD_in oZ hl,o,ho,fun e he hb=>by
    have hlt:=hf.back j o ho e he hb
    exact ih e.on hlt oZ⟩
   rw[hr] at this
   cases this
def oN (ops:Array Oper) (l:Nat->Bool):Prop:=∀ (i:Nat) (o:Oper),ops[i]?=some o->l i=true->∀ e∈o.after,Region.binds .any e=true->l e.on=true
theorem iC {σ:Type} {id:Nat} {a0:Act} {w:World} {Q:Exit->Act->World->Prop} (V:σ->Nat->Value) (R:σ->(Nat->Bool)->World->Prop) (aT:σ->Act)
  (hm:P.follows .mixedOrders=true) (L:Nat->Nat->Bool) (hB:Bf L ops a0.tmps.size=true) (hT:∀ s,aT s=rD ops (V s) a0 ops.size) (s0:σ) (h0:R s0 (fun _=>false) w.drew)
  (hcon:∀ l,oN ops l->∀ i j,L i j=true->l j=true->l i=true) (hlate:∀ s l wx,R s l wx->∀ i j d,L i j=true->iG ops j=some d->l j=false->a0.tmps[d]?=some (V s j))
  (step:∀ (i:Nat) (o:Oper),ops[i]?=some o->∀ (s:σ) (l:Nat->Bool) (wx:World),R s l wx->l i=false->(∀ e∈o.after,Region.binds .any e=true->l e.on=true) ->
   ∀ K:Act->World->Prop,(∀ (s':σ) (w':World),(∀ j,l j=true->V s' j=V s j)->R s' (fun j=>j==i||l j) w'->K ((aT s).put o.dst (V s' i)) w') ->
    if Region.wanted o (yielded ops (aT s).tmps) then o.wp P (aT s) wx K NoWay else K ((aT s).put o.dst undef) wx)
  (fin:∀ (s:σ) (l:Nat->Bool) (wx:World),(∀ j,j<ops.size->l j=true)->R s l wx->Q .normal (aT s) wx):(Code.region id ops true).wp P Q a0 w:=by
 have hf:=Fair.of hB
 refine wp_region_any hm ?_
 have main:∀ (fuel:Nat) (listed:Array Bool) (a:Act) (wx:World) (s:σ),listed.size=ops.size->listed.toList.count false<=fuel->gu ops (V s) a0 (fun j=>listed.getD j false) a->oN ops (fun j=>listed.getD j false)->R s (fun j=>listed.getD j false) wx ->
   wpAny P .any ops Q fuel listed a wx:=by
  intro fuel
  have done:∀ (listed:Array Bool) (a:Act) (wx:World) (s:σ),listed.size=ops.size->gu ops (V s) a0 (fun j=>listed.getD j false) a->R s (fun j=>listed.getD j false) wx->Region.ready .any ops listed=[]->Q .normal a wx:=by
   intro listed a wx s hs hS hR hr
   have hl:=Hu hf hs hr
   have:=hS.same (gu.rD hf (V s) a0 rfl ops.size) hl (fun j hj=>by simpa using hj)
   rw[this,<- hT]
   exact fin s _ wx hl hR
  induction fuel with
  | zero =>
   intro listed a wx s hs hc hS hCl hR
   have hr:Region.ready .any ops listed=[]:=by
    cases hr:Region.ready .any ops listed with
    | nil=>rfl
    | cons i is =>
     have hi:i∈Region.ready .any ops listed:=by rw[hr];exact List.mem_cons_self
     obtain⟨h1,o,ho,_⟩:=mem_ready.1 hi
     have hlt:=(Array.getElem?_eq_some_iff.1 ho).1
     have:false∈listed.toList:=by
      have hlt':i<listed.size:=oZ
      have h2:listed[i]=false:=by simpa [hlt'] using h1
      rw[<- h2]
      exact List.mem_of_getElem (i:=i) (h:=by simpa using hlt') sZ
     have:=List.count_pos_iff.2 this
     omega
   exact⟨hr,done listed a wx s hs hS hR hr⟩
  | succ fuel ih =>
   intro listed a wx s hs hc hS hCl hR
   refine⟨done listed a wx s hs hS hR,fun i hi=>?_⟩
   obtain⟨h1,o,ho,hedge⟩:=mem_ready.1 hi
   have hlt:=(Array.getElem?_eq_some_iff.1 ho).1
   have hlt':i<listed.size:=oZ
   have h1':=getD_both h1
   have hTs:=gu.rD hf (V s) a0 rfl ops.size
   rw[<- hT] at hTs
   have hd:∀ x,o.dst=some x->x<a0.tmps.size:=fun x hx=>hf.lt i x ((Fe ho).trans hx)
   have hcount:(listed.setIfInBounds i true).toList.count false<=fuel:=by
    have h2:listed[i]=false:=by simpa [hlt'] using h1
    have:listed.toList.count false=(listed.setIfInBounds i true).toList.count false+1:=by
     rw[Array.toList_setIfInBounds,List.count_set (by simpa using hlt')]
     have hp:0<listed.toList.count false:=List.count_pos_iff.2 (by
      rw[<- h2]
      exact List.mem_of_getElem (i:=i) (h:=by simpa using hlt') sZ)
     rw[Array.count_toList] at hp
     simp[h2]
     omega
    omega
   have next:∀ (s':σ) (w':World),(∀ j,listed.getD j false=true->V s' j=V s j)->R s' (fun j=>j==i||listed.getD j false) w' ->
     wpAny P .any ops Q fuel (listed.setIfInBounds i true) (a.put o.dst (V s' i)) w':=by
    intro s' w' hV hR'
    have e:(fun j=>(listed.setIfInBounds i true).getD j false)=(fun j=>j==i||listed.getD j false):=funext fun j=>Fh listed i j hlt'
    refine ih _ _ w' s' (by simpa using hs) hcount ?_ ?_ (by rw[e];exact hR')
    rotate_left
    ·rw[e]
     intro k ok hok hk e2 he2 hb2
     simp only[Bool.or_eq_true,beq_iff_eq] at hk ⊢
     rcases hk with rfl | hk
     ·obtain rfl:o=ok:=Option.some.inj (ho.symm.trans hok)
      exact .inr (hedge e2 he2 hb2)
     ·exact .inr (hCl k ok hok hk e2 he2 hb2)
    have:=gu.put hf hS rfl i (fun j=>Fh listed i j hlt') h1' hV
    rw[Fe ho] at this
    exact this
   have st:=step i o ho s _ wx hR h1' (fun e he hb=>hedge e he hb)
   have hL:∀ j d,L i j=true->iG ops j=some d->listed.getD j false=false/\a0.tmps[d]?=some (V s j):=by
    intro j d hlj hdj
    have hj:listed.getD j false=false:=by
     cases hx:listed.getD j false with
     | false=>rfl
     | true=>have:=hcon _ hCl i j hlj hx;rw[h1'] at this;cases this
    exact⟨hj,hlate s _ wx hR i j d hlj hdj hj⟩
   unfold wpOp
   simp only[ho]
   rw[gu.wanted hf hS hTs ho (fun e he hb=>hedge e he hb) hL]
   have hsz:(aT s).tmps.size=a0.tmps.size:=hTs.size
   by_cases hw:Region.wanted o (yielded ops (aT s).tmps)=true
   ·simp only[hw,if_true] at st ⊢
    refine .inl (Nl (gu.exec hf hS hTs ho (fun e he hb=>hedge e he hb) hL) (st _ ?_) (Ip hS.size hsz hd))
    intro s' w' hV hR'
    exact⟨V s' i,rfl,next s' w' hV hR'⟩
   ·simp only[hw,if_false,Bool.false_eq_true] at st ⊢
    have:=st (fun a' w'=>∃ v,a'=(aT s).put o.dst v/\wpAny P .any ops Q fuel (listed.setIfInBounds i true) (a.put o.dst v) w') (fun s' w' hV hR'=>⟨V s' i,rfl,next s' w' hV hR'⟩)
    obtain⟨v,hv,hk⟩:=this
    rw[Ip hS.size hsz hd undef v hv]
    exact hk
 refine main ops.size _ a0 _ s0 sZ sZ ?_ ?_ ?_
 rotate_left
 ·have e:(fun j=>(Array.replicate ops.size false).getD j false)=fun _=>false:=funext fun j=>getD_replicate_false _ _
  rw[e]
  intro k ok hok hk
  cases hk
 rotate_left
 ·have e:(fun j=>(Array.replicate ops.size false).getD j false)=fun _=>false:=funext fun j=>getD_replicate_false _ _
  rw[e]
  exact gu.start _ _
 ·have e:(fun j=>(Array.replicate ops.size false).getD j false)=fun _=>false:=funext fun j=>getD_replicate_false _ _
  rw[e]
  exact h0
theorem aU {σ:Type} {id:Nat} {a0:Act} {w:World} {Q:Exit->Act->World->Prop} (V:σ->Nat->Value) (R:σ->(Nat->Bool)->World->Prop) {aT:σ->Act}
  (hm:P.follows .mixedOrders=true) (hB:IJ ops a0.tmps.size=true) (hT:∀ s,rD ops (V s) a0 ops.size=aT s) (s0:σ) (h0:R s0 (fun _=>false) w.drew)
  (step:∀ (i:Nat) (o:Oper),ops[i]?=some o->∀ (s:σ) (l:Nat->Bool) (wx:World),R s l wx->l i=false->(∀ e∈o.after,Region.binds .any e=true->l e.on=true) ->
   ∀ K:Act->World->Prop,(∀ (s':σ) (w':World),(∀ j,l j=true->V s' j=V s j)->R s' (fun j=>j==i||l j) w'->K ((aT s).put o.dst (V s' i)) w') ->
    if Region.wanted o (yielded ops (aT s).tmps) then o.wp P (aT s) wx K NoWay else K ((aT s).put o.dst undef) wx)
  (fin:∀ (s:σ) (l:Nat->Bool) (wx:World),(∀ j,j<ops.size->l j=true)->R s l wx->Q .normal (aT s) wx):(Code.region id ops true).wp P Q a0 w :=
 iC V R aT hm (fun _ _=>false) hB (fun s=>(hT s).symm) s0 h0 (fun _ _ _ _ h=>by cases h) (fun _ _ _ _ _ _ _ h=>by cases h) step fin
theorem aV {o:Oper} {a:Act} {w:World} {K:Act->World->Prop} {Q:Exit->Act->World->Prop} (hw:Region.wanted o (yielded ops a.tmps)=true) (ty:TypeId) (x:Operand) (ho:o.op=.load ty x)
  (g:Nat) (hx:a.eval x=.pointer (some ⟨g,0,none⟩)) (t:TypeId) (cs:Array Value) (fr:Nat×Nat) (d:TypeDesc) (hg:w.heap[g]?=some (.cells cs t fr))
  (hu:P.underlying ty=some d) (hd:(match d with | .struct _ | .array _ _=>true | _=>false)=true) (hi:(P.info? ty).map (·.size)=some cs.size)
  (h:K (a.put o.dst (.agg cs)) w):if Region.wanted o (yielded ops a.tmps) then o.wp P a w K Q else K (a.put o.dst undef) w:=by
 rw[if_pos hw]
 exact wp_load_row ty x ho g hx t cs fr d hg hu hd hi h
end
end Go.Proofs.YtlfndoclbebdaaaGreatDoor
namespace Go.Proofs.YtlfndoclbebdaaaGreatDoor
open Go.ChangeShapes Go.WideShapes Go.ChangeAt Go.RowKit Go.Deep
theorem lt_of_cell {W:World} {a:Addr} {v:Value} (h:W.cell? a=some v):a.block<W.heap.size:=by
 unfold World.cell? at h
 split at h
 ·rename_i hh;exact(Array.getElem?_eq_some_iff.1 hh).1
 ·cases h
theorem plain_of_cell {W:World} {a:Addr} {v:Value} (h:W.cell? a=some v):a.spot=none:=by
 unfold World.cell? at h
 split at h
 ·split at h
  ·cases h
  ·rename_i hs;simpa using hs
 ·cases h
theorem Jk {W:World} {base:Nat} {t:TypeId} {v:Value} (hu:(match Tryz.prog.underlying t with | some (.struct _) | some (.array _ _)=>true | _=>false)=true) (h:Value.okWide Tryz.prog W .any base t v) {ts:List TypeId} (hts:Tryz.prog.cellTypes Tryz.prog.depth t=some ts) :
  ∃ cs,v=.agg cs/\cs.size=Tryz.prog.cellsOf t/\∀ (i:Nat) (c:Value) (u:TypeId),cs[i]?=some c->ts[i]?=some u->Cell.okWide Tryz.prog W .any base u c:=by
 have key:∃ cs,v=.agg cs/\cs.size=Tryz.prog.cellsOf t/\Row.okWide Tryz.prog W .any base t cs:=by
  unfold Value.okWide at h
  split at h
  ·exact h
  ·exact h
  ·rename_i h1 h2
   split at hu
   ·rename_i fs hf;exact absurd hf (h1 fs)
   ·rename_i n e hf;exact absurd hf (h2 n e)
   ·cases hu
 obtain⟨cs,hv,hs,ts',hts',_,hc⟩:=key
 obtain rfl:ts=ts':=Option.some.inj (hts.symm.trans hts')
 refine⟨cs,hv,hs,fun i c u hi ht=>?_⟩
 obtain⟨u',hu',hc'⟩:=hc i c hi
 have hlt:i<ts.length:=(eZ.1 ht).1
 rw[Nat.mod_eq_of_lt hlt,ht] at hu'
 obtain rfl:u=u':=Option.some.inj hu'
 exact hc'
theorem kV {W:World} {base:Nat} {u:TypeId} {c:Value} {k:IntKind} (hu:Tryz.prog.underlying u=some (.int k)) (h:Cell.okWide Tryz.prog W .any base u c):∃ n,c=.int k n/\k.min<=n/\n<=k.max:=by
 simp only[hu,Cell.okWide] at h
 cases c <;> simp_all [Cell.ok,IntKind.has]
theorem yj {W:World} {base:Nat} {u:TypeId} {c:Value} {k:FloatKind} (hu:Tryz.prog.underlying u=some (.float k)) (h:Cell.okWide Tryz.prog W .any base u c):∃ b,c=.float k b:=by
 simp only[hu,Cell.okWide] at h
 cases c <;> simp_all [Cell.ok]
end Go.Proofs.YtlfndoclbebdaaaGreatDoor
namespace Go.Proofs.YtlfndoclbebdaaaGreatDoor
open Go.RowKit
def okR (x:Nat):Prop:=x<55296∨(57344<=x/\x<=1114111)
instance (x:Nat):Decidable (okR x):=by unfold okR;exact inferInstance
def ou (a b c d:Nat):Nat×Nat :=
 if a<128 then(a,1)
 else if a / 32=6/\b / 64=2 then(if 128<=a % 32*64+b % 64 then(a % 32*64+b % 64,2) else(65533,1))
 else if a / 16=14/\b / 64=2/\c / 64=2 then(if 2048<=a % 16*4096+b % 64*64+c % 64/\okR (a % 16*4096+b % 64*64+c % 64) then(a % 16*4096+b % 64*64+c % 64,3) else(65533,1))
 else if a / 8=30/\b / 64=2/\c / 64=2/\d / 64=2 then(if 65536<=a % 8*262144+b % 64*4096+c % 64*64+d % 64/\okR (a % 8*262144+b % 64*4096+c % 64*64+d % 64) then(a % 8*262144+b % 64*4096+c % 64*64+d % 64,4) else(65533,1))
 else(65533,1)
def encR (r:Nat):List Nat :=
 if r<128 then [r] else if r<2048 then [192+r / 64,128+r % 64] else if r<65536 then [224+r / 4096,128+r / 64 % 64,128+r % 64] else [240+r / 262144,128+r / 4096 % 64,128+r / 64 % 64,128+r % 64]
theorem Oy (a b c d:Nat):1<=(ou a b c d).2/\(ou a b c d).2<=4:=by
 unfold ou
 repeat' split
 all_goals exact⟨sZ,sZ⟩
theorem I4 (a b c d:Nat):okR (ou a b c d).1:=by
 unfold ou
 repeat' split
 all_goals (unfold okR at *;simp only;omega)
theorem Nz {r:Nat} (h:okR r) (x y z:Nat):ou ((encR r++[x,y,z]).getD 0 0) ((encR r++[x,y,z]).getD 1 0) ((encR r++[x,y,z]).getD 2 0) ((encR r++[x,y,z]).getD 3 0)=(r,(encR r).length):=by
 unfold encR
 split
 ·rename_i h1;simp[ou,h1]
 ·split
  ·simp only[List.cons_append,List.nil_append,List.getD_cons_zero,List.getD_cons_succ,List.length_cons,List.length_nil]
   have h1:¬ 192+r / 64<128:=oZ
   have h2:(192+r / 64) / 32=6/\(128+r % 64) / 64=2:=oZ
   have h3:(192+r / 64) % 32*64+(128+r % 64) % 64=r:=oZ
   have h4:128<=r:=oZ
   simp only[ou,h1,if_false,if_pos h2,h3,if_pos h4]
  ·split
   ·simp only[List.cons_append,List.nil_append,List.getD_cons_zero,List.getD_cons_succ,List.length_cons,List.length_nil]
    have h1:¬ 224+r / 4096<128:=oZ
    have h2:¬ ((224+r / 4096) / 32=6/\(128+r / 64 % 64) / 64=2):=oZ
    have h2':(224+r / 4096) / 16=14/\(128+r / 64 % 64) / 64=2/\(128+r % 64) / 64=2:=oZ
    have h3:(224+r / 4096) % 16*4096+(128+r / 64 % 64) % 64*64+(128+r % 64) % 64=r:=oZ
    have h4:2048<=r/\okR r:=⟨oZ,h⟩
    simp only[ou,h1,if_false,if_neg h2,if_pos h2',h3,if_pos h4]
   ·simp only[List.cons_append,List.nil_append,List.getD_cons_zero,List.getD_cons_succ,List.length_cons,List.length_nil]
    have hb:r<=1114111:=by unfold okR at h;omega
    have h1:¬ 240+r / 262144<128:=oZ
    have h2:¬ ((240+r / 262144) / 32=6/\(128+r / 4096 % 64) / 64=2):=oZ
    have h2':¬ ((240+r / 262144) / 16=14/\(128+r / 4096 % 64) / 64=2/\(128+r / 64 % 64) / 64=2):=oZ
    have h2'':(240+r / 262144) / 8=30/\(128+r / 4096 % 64) / 64=2/\(128+r / 64 % 64) / 64=2/\(128+r % 64) / 64=2:=oZ
    have h3:(240+r / 262144) % 8*262144+(128+r / 4096 % 64) % 64*4096+(128+r / 64 % 64) % 64*64+(128+r % 64) % 64=r:=oZ
    have h4:65536<=r/\okR r:=⟨oZ,h⟩
    simp only[ou,h1,if_false,if_neg h2,if_neg h2',if_pos h2'',h3,if_pos h4]
theorem O7 (a b c d:Nat):(2<=(ou a b c d).2->b≠0)/\(3<=(ou a b c d).2->c≠0)/\(4<=(ou a b c d).2->d≠0):=by
 unfold ou
 repeat' split
 all_goals exact⟨fun h=>by simp at h;try omega,fun h=>by simp at h;try omega,fun h=>by simp at h;try omega⟩
/-! ### Texts -/
def byteAt (s:ByteArray) (i:Nat):Nat:=(s.data.toList.getD i 0).toNat
theorem nR (s:ByteArray) (i:Nat):byteAt s i<256:=(s.data.toList.getD i 0).toNat_lt
theorem Md (s:ByteArray) (i:Nat):(s.get! i).toNat=byteAt s i:=by
 unfold byteAt
 congr 1
 simp[ByteArray.get!,getElem!_def,Array.getElem?_toList,List.getD_eq_getElem?_getD]
 cases h:s.data[i]? <;> simp <;> rfl
theorem x9 {s:ByteArray} {i:Nat} (h:s.size<=i):byteAt s i=0:=by
 unfold byteAt
 have:s.data.toList.length<=i:=by simpa using h
 simp[List.getD_eq_getElem?_getD,List.getElem?_eq_none this]
def bZ (s:ByteArray) (i:Nat):Nat×Nat:=ou (byteAt s i) (byteAt s (i+1)) (byteAt s (i+2)) (byteAt s (i+3))
theorem JC (c:Nat):Utf8.valid (c:Int)=decide (okR c):=by
 rw[Bool.eq_iff_iff,decide_eq_true_iff]
 unfold okR
 simp only[Utf8.valid,Bool.or_eq_true,Bool.and_eq_true,decide_eq_true_eq]
 omega
theorem ve (s:ByteArray) (i:Nat):Utf8.decode s i=bZ s i:=by
 have hc:∀ k,(i+k<s.size/\byteAt s (i+k) / 64=2)↔byteAt s (i+k) / 64=2:=by
  intro k
  refine⟨fun h=>h.2,fun h=>⟨?_,h⟩⟩
  by_cases hk:i+k<s.size
  ·exact hk
  ·rw[x9 oZ] at h;omega
 simp only[Utf8.decode,Md,Nat.add_zero,JC,Bool.and_eq_true,beq_iff_eq,decide_eq_true_eq,hc,and_assoc,ge_iff_le,Utf8.runeError]
 rfl
end Go.Proofs.YtlfndoclbebdaaaGreatDoor
namespace Go.Proofs.YtlfndoclbebdaaaGreatDoor
def lG (r:Int):Prop:=(48<=r/\r<=57)∨(1632<=r/\r<=1641)
def jX (r:Int):Prop:=(65<=r/\r<=90)∨(97<=r/\r<=122)∨(192<=r/\r<=591/\r≠215/\r≠247)∨r=902∨(904<=r/\r<=906)∨r=908∨(910<=r/\r<=929)∨(931<=r/\r<=974) ∨
 (1024<=r/\r<=1153)∨(1162<=r/\r<=1327)∨(1488<=r/\r<=1514)∨(19968<=r/\r<=40959)∨(44032<=r/\r<=55203)
instance (r:Int):Decidable (lG r):=by unfold lG;exact inferInstance
instance (r:Int):Decidable (jX r):=by unfold jX;exact inferInstance
def dF (r:Int):Int:=if lG r then 2 else if jX r then 1 else 0
def PV (r:Int):Prop:=(65<=r/\r<=90)∨(192<=r/\r<=222/\r≠215)∨(913<=r/\r<=939/\r≠930)∨(1040<=r/\r<=1071)
def yw (r:Int):Prop:=(256<=r/\r<=311)∨(330<=r/\r<=375)∨(1120<=r/\r<=1153)∨(1162<=r/\r<=1215)∨(1232<=r/\r<=1327)
def FQ (r:Int):Prop:=(313<=r/\r<=328)∨(377<=r/\r<=382)
instance (r:Int):Decidable (PV r):=by unfold PV;exact inferInstance
instance (r:Int):Decidable (yw r):=by unfold yw;exact inferInstance
instance (r:Int):Decidable (FQ r):=by unfold FQ;exact inferInstance
def ik (r:Int):Int :=
 if PV r then r+32
 else if(yw r/\r % 2=0)∨(FQ r/\r % 2=1) then r+1
 else if r=376 then 255 else if r=383 then 115 else if r=902 then 940 else if r=908 then 972 else if r=962 then 963
 else if 904<=r/\r<=906 then r+37 else if 910<=r/\r<=911 then r+63 else if 1024<=r/\r<=1039 then r+80 else if 1632<=r/\r<=1641 then r-1584
 else r
theorem qi {r:Int} (h:r<0∨1641<r):ik r=r:=by
 unfold ik PV yw FQ
 repeat' split
 all_goals omega
theorem KF:∀ n:Nat,n<1642->ik (ik ((n:Nat):Int))=ik ((n:Nat):Int)/\dF (ik ((n:Nat):Int))=dF ((n:Nat):Int):=by decide +kernel
theorem JB (r:Int):ik (ik r)=ik r/\dF (ik r)=dF r:=by
 by_cases h:r<0∨1641<r
 ·rw[qi h,qi h]
  exact⟨rfl,rfl⟩
 ·obtain⟨n,rfl⟩:=Int.eq_ofNat_of_zero_le (by omega:0<=r)
  exact KF n oZ
/-! ### No more than three -/
def first (f:Int):Int :=
 if 97<=f/\f<=122∨224<=f/\f<=254∨945<=f/\f<=971∨1072<=f/\f<=1103 then f-32
 else if f=255 then 376 else if f=940 then 902 else if f=972 then 908
 else if 941<=f/\f<=943 then f-37 else if 973<=f/\f<=974 then f-63 else if 1104<=f/\f<=1119 then f-80 else if 48<=f/\f<=57 then f+1584
 else f-1
def second (f:Int):Int:=if f=115 then 383 else if f=963 then 962 else f
end Go.Proofs.YtlfndoclbebdaaaGreatDoor
namespace Go.Proofs.YtlfndoclbebdaaaGreatDoor
open Go.ChangeShapes Go.WideShapes Go.ChangeAt Go.RowKit
/-! ### A plain datum's cells -/
def jk (P:Program) (f:TypeId->DataW Unit->Option (List Value)) (tot:Nat):Nat->List (TypeId×Nat)->List (DataW Unit)->Option (List Value)
 | o,[],[]=>if o=tot then some [] else none
 | o,(t,off) :: ps,d :: ds=>if off=o then(f t d).bind fun x=>(jk P f tot (o+P.cellsOf t) ps ds).map fun r=>x++r else none
 | _,_,_=>none
def yu (P:Program):Nat->TypeId->DataW Unit->Option (List Value)
 | 0,_,_=>none
 | n+1,t,d =>
  match P.underlying t,d with
  | some .bool,.lit (.bool b)=>some [.bool b]
  | some (.int _),.lit (.int k' z)=>some [.int k' z]
  | some .string,.lit (.string l)=>some [.string ⟨l.toArray⟩]
  | some (.struct fs),.agg ds=>jk P (yu P n) (P.cellsOf t) 0 (fs.toList.map fun f=>(f.type,f.offset)) ds
  | some (.array m e),.agg ds=>jk P (yu P n) (P.cellsOf t) 0 ((List.range m).map fun i=>(e,i*P.cellsOf e)) ds
  | _,_=>none
theorem uD {P:Program} {f:TypeId->DataW Unit->Option (List Value)} {Good:TypeId->List Value->DataW Unit->Prop} (hf:∀ t d cs x,Good t cs d->f t d=some x->cs=x) {cs:List Value} :
  ∀ (ps:List (TypeId×Nat)) (ds:List (DataW Unit)) (o:Nat) (r:List Value),(∀ (i:Nat) (t:TypeId) (off:Nat),ps[i]?=some (t,off)->∃ d,ds[i]?=some d/\Good t ((cs.drop off).take (P.cellsOf t)) d)->jk P f cs.length o ps ds=some r->cs.drop o=r
 | [],[],o,r,_,h=>by
  simp only[jk] at h
  split at h
  ·injection h with h
   subst h
   rw[List.drop_eq_nil_of_le oZ]
  ·cases h
 | [],d :: ds,o,r,_,h=>by simp[jk] at h
 | p :: ps,[],o,r,_,h=>by obtain⟨t,off⟩:=p;simp[jk] at h
 | (t,off) :: ps,d :: ds,o,r,hg,h=>by
  simp only[jk] at h
  split at h
  ·rename_i ho
   subst ho
   obtain⟨x,hx,h2⟩:=Option.bind_eq_some_iff.1 h
   obtain⟨r2,hr2,rfl⟩:=Option.map_eq_some_iff.1 h2
   obtain⟨d',hd',hgd⟩:=hg 0 t off rfl
   simp only[List.getElem?_cons_zero,Option.some.injEq] at hd'
   subst hd'
   have h1:=hf t d _ x hgd hx
   have h3:=uD hf ps ds (off+P.cellsOf t) r2 (fun i t' o' hi=>by simpa using hg (i+1) t' o' (by simpa using hi)) hr2
   rw[<- h1,<- h3,<- List.drop_drop,List.take_append_drop]
  ·cases h
theorem zU {P:Program} {w:World} {base:Nat} {sp:Nat->Bool} {held:Bool}:∀ (n fuel:Nat) (t:TypeId) (cs:List Value) (d:DataW Unit) (p:List MemPlace) (xs:List Value),
  DataW.trod (fun _=>()) P w base sp held fuel t cs=some (d,p)->yu P n t d=some xs->cs=xs
 | 0,_,_,_,_,_,_,_,h=>by simp[yu] at h
 | n+1,fuel,t,cs,d,p,xs,ht,h=>by
  have parts:∀ (ps:List (TypeId×Nat)) (ys:List (DataW Unit×List MemPlace)) (m:Nat),cs.length=P.cellsOf t ->
    (∀ (i:Nat) (t':TypeId) (off:Nat),ps[i]?=some (t',off)->DataW.trod (fun _=>()) P w base sp held m t' ((cs.drop off).take (P.cellsOf t'))=ys[i]?/\i<ys.length)->jk P (yu P n) (P.cellsOf t) 0 ps (ys.map (·.1))=some xs->cs=xs:=by
   intro ps ys m hl hp hfl
   rw[<- hl] at hfl
   have:=uD (Good:=fun t cs d=>∃ m p,DataW.trod (fun _=>()) P w base sp held m t cs=some (d,p)) (fun t d cs x ⟨m,p,hg⟩ hx=>zU n m t cs d p x hg hx) ps _ 0 xs (fun i t' off hi=>by
    obtain⟨h1,h2⟩:=hp i t' off hi
    refine⟨(ys[i]).1,by simp[h2],m,(ys[i]).2,?_⟩
    rw[h1]
    simp[h2]) hfl
   simpa using this
  unfold yu at h
  split at h
  ·rename_i hu
   obtain⟨b',rfl,hx⟩:=DataW.trod_bool hu ht
   simp at hx h
   rw[<- h,hx.1]
  ·rename_i hu
   obtain⟨z',rfl,hx,_⟩:=DataW.trod_int hu ht
   simp at hx h
   rw[<- h,hx.1.1,hx.1.2]
  ·rename_i hu
   obtain⟨s,rfl,hx,_⟩:=DataW.trod_string hu ht
   simp at hx h
   rw[<- h,hx.1]
  ·rename_i hu
   obtain⟨ys,m,rfl,hx,hl,hn,he⟩:=DataW.trod_struct hu ht
   simp only[Prod.mk.injEq,DataW.agg.injEq] at hx
   rw[hx.1] at h
   refine parts _ ys m hl (fun i t' off hi=>?_) h
   rw[List.getElem?_map] at hi
   obtain⟨f,hf,hft⟩:=Option.map_eq_some_iff.1 hi
   injection hft with h1 h2
   subst h1 h2
   refine⟨he i f (by simpa using hf),?_⟩
   have:=(eZ.1 hf).1
   simp at this
   omega
  ·rename_i hu
   obtain⟨ys,m,rfl,hx,hl,hn,he⟩:=DataW.trod_array hu ht
   simp only[Prod.mk.injEq,DataW.agg.injEq] at hx
   rw[hx.1] at h
   refine parts _ ys m hl (fun i t' off hi=>?_) h
   rw[List.getElem?_map] at hi
   obtain⟨j,hj,hft⟩:=Option.map_eq_some_iff.1 hi
   obtain⟨hj1,rfl⟩:=eZ.1 hj
   simp at hj1
   simp only[List.getElem_range,Prod.mk.injEq] at hft
   obtain⟨rfl,rfl⟩:=hft
   exact⟨he i hj1,oZ⟩
  ·cases h
def VarReads (P:Program) (w:World) (name:String) (d:DataW Unit):Prop :=
 ∃ g t cs fuel p,P.globalNamed name=some g/\(P.globals[g]?).map (·.type)=some t/\w.var? P name=some cs/\DataW.trod (fun _=>()) P w 0 (fun _=>true) false fuel t cs.toList=some (d,p)
theorem pK {P:Program} {w:World}:∀ {laid:List (String×DataW Unit)} {ps:List MemPlace},DataW.LaidVars P w laid ps->∀ n d,(n,d)∈laid->VarReads P w n d
 | [],_,_,n,d,hm=>by simp at hm
 | (n',d') :: r,ps,h,n,d,hm=>by
  obtain⟨g,t,cs,fuel,p,q,h1,h2,h3,h4,h5,_⟩:=h
  rcases List.mem_cons.1 hm with e | hm
  ·cases e
   exact⟨g,t,cs,fuel,p,h1,h2,h3,h4⟩
  ·exact pK h5 n d hm
theorem yV {P:Program} {w:World} {laid:List (String×DataW Unit)} (hp:(laid.all fun x=>x.2.handleName?.isNone)=true) (h:laidMetH P laid w) (n:String) (d:DataW Unit) (hm:(n,d)∈laid):VarReads P w n d:=by
 rw[MakeChecks.laidMetH_plain _ _ _ hp] at h
 obtain⟨ps,hl,_⟩:=h
 exact pK hl n d hm
/-! ### The frame of a law that reads such variables -/
section
variable {H:Type} {enc:TypeId×Value->H}
theorem ML {C:Checked} {os:Os} {F:FuncId} {f:Func} {s:ChangeSpec} {tb:TypeId} {conds:List PathCond} (laid:List (String×DataW Unit)) (own:ownKnob C.prog.godebug=none) (started:os.Started) (noInit:C.prog.inits.idxOf? F=none)
  (hfn:C.prog.funcs[F]?=some f) (hl:laidOutB C.prog=true) (hr:(f.params.toList.all fun t=>C.prog.readableRec t&&decide (t<C.prog.types.size))=true) (hres:f.resultTypes=#[tb])
  (hub:C.prog.underlying tb=some .bool) (hvars:s.vars=[])
  (witness:∃ (w:World) (tape:Tape) (i:Input),w.os=os/\(w.forCall tape i).Shaped C.prog/\i.vars=[]/\Input.okWide C.prog (w.forCall tape i) .any w.heap.size F i /\
   ((s.pre enc C.prog f conds false (w.forCall tape i).memory i.args/\laidMetH C.prog laid (w.forCall tape i).memory)/\sizedMet enc C.prog f (OpenSpec.ofChange s) false (w.forCall tape i).memory i.args)/\({}:Assume).holds C.prog (lone (Frame.enter C.prog F i.args .normal) [] (w.forCall tape i)))
  (hs:∀ ds:List (DataW H),ds.length=f.params.size->s.fn H ds={results:=[.lit (.bool true)],args:=ds})
  (walk:∀ (W:World) (args:Array Value) (ds:List (DataW H)),sJ enc C.prog f.params.toList W args ds->laidMetH C.prog laid W->Calls C.prog F args W fun e W'=>e=.returned (.bool true)/\Below W.heap.size W W') :
  ReturnsInHanded {} C os F .any (fun w args=>(s.pre enc C.prog f conds false w args/\laidMetH C.prog laid w)/\sizedMet enc C.prog f (OpenSpec.ofChange s) false w args) (s.post enc C.prog f false true false false):=by
 refine returnsInHanded_of_change_and (C:=C) (X:=fun w _=>laidMetH C.prog laid w) (fun _ _ _ hh h=>h.of_heap hh) own started noInit hfn witness ?_
 intro W base args ds gs before hval hW _ hsz hX _
 refine(walk W args ds (sJ.of_whole hvars hval hW hsz) hX).mono fun e W' ⟨he,hb⟩=>⟨_,he,?_⟩
 refine EC hl hr hres hub hvars hW ?_ hb
 obtain⟨p,q,hA,hV,_⟩:=hW
 rw[hvars] at hV
 obtain⟨rfl,rfl⟩:=trodVars_none hV
 rw[List.append_nil]
 exact hs ds (by rw[<- law_lifted.trodAll_len hA];simp)
end
theorem door_met {laid:List (String×DataW Unit)} {n fuel:Nat} (os:Os) (args:Array Value)
  (h1:(DataW.laidRun Tryz.prog ((World.doorLaid Tryz.prog n os).forCall (fun _ _=>0) ⟨#[],args,[]⟩).memory fuel ((laid.filter fun x=>x.2.handleName?.isNone).map (·.1))).map (·.1)=some (laid.filter fun x=>x.2.handleName?.isNone))
  (h2:(DataW.laidRun Tryz.prog ((World.doorLaid Tryz.prog n os).forCall (fun _ _=>0) ⟨#[],args,[]⟩).memory fuel ((laid.filter fun x=>x.2.handleName?.isNone).map (·.1))).map (fun x=>decide x.2.Nodup&&laidRowsB Tryz.prog ((World.doorLaid Tryz.prog n os).forCall (fun _ _=>0) ⟨#[],args,[]⟩).memory x.2)=some true)
  (h3:(laid.filter fun x=>x.2.handleName?.isSome&&x.2.funcsIn?.isNone).all (handleAtB Tryz.prog ((World.doorLaid Tryz.prog n os).forCall (fun _ _=>0) ⟨#[],args,[]⟩).memory)=true)
  (h4:funcsRun Tryz.prog ((World.doorLaid Tryz.prog n os).forCall (fun _ _=>0) ⟨#[],args,[]⟩).memory fuel ((funcsListed laid).map (·.1))=some ((funcsListed laid).map (·.2.funcsOut))) :
  laidMetH Tryz.prog laid ((World.doorLaid Tryz.prog n os).forCall (fun _ _=>0) ⟨#[],args,[]⟩).memory :=
 laidMetH_of_parts3 (fuel:=fuel) (laidMet_of_run' fuel h1 h2) h3 h4
end Go.Proofs.YtlfndoclbebdaaaGreatDoor
namespace Go.Proofs.YtlfndoclbebdaaaGreatDoor
open Go.RowKit
theorem Ir (w:World) (n:Int) (h1:1<=n) (h2:n<=65536) :
  Calls Tryz.prog 34 #[.int .i64 n] w fun e w'=>e=.returned (.tuple #[.pointer (some ⟨w.heap.size+1,0,none⟩),.int .i64 0])/\dD w' (w.heap.size+1) w.heap.size (List.replicate n.toNat 0) 0 0/\Below w.heap.size w w':=by
 obtain⟨k,rfl⟩:=Int.eq_ofNat_of_zero_le (show 0<=n by omega)
 exact Qc w k oZ oZ
def DD (n:Nat) (a:Int):Bool:=decide (0<=a)&&decide (a<n)
theorem tK {n:Nat} {a:Int} (h0:0<=a) (h1:a<n):DD n a=true:=by simp[DD,h0,h1]
theorem IP {n:Nat} {a:Int} (h:a<0∨(n:Int)<=a):DD n a=false:=by simp[DD];omega
theorem P7 {w:World} {b c:Nat} {cs:List Int} {l s:Int} (h:dD w b c cs l s) (a:Nat) (z:Int) (hz:cs[a]?=some z) (hl0:0<=l) (hl:l<1000000000) :
  Calls Tryz.prog 23 #[.pointer (some ⟨b,0,none⟩),.int .i64 a] w fun e w'=>e=.returned (.tuple #[.int .u32 z,.int .i64 0])/\dD w' b c cs (l+1) s/\bI (·=b) w w':=by
 obtain⟨ha,rfl⟩:=eZ.1 hz
 exact O6 h a ha hl0 hl
theorem Ej {w:World} {g:Nat} {l:List Int} {t:TypeId} (h:w.heap[g]?=some (.cells (l.map (Value.int .u32)).toArray t (0,0))) {i:Nat} {z:Int} (hz:l[i]?=some z):w.cell? ⟨g,i,none⟩=some (.int .u32 z):=by
 rw[ae h];simp[hz]
end Go.Proofs.YtlfndoclbebdaaaGreatDoor
namespace Go.Proofs.YtlfndoclbebdaaaGreatDoor
def cellAt (L:List Nat) (j:Nat):Nat:=L.getD (4*j) 0+256*L.getD (4*j+1) 0+65536*L.getD (4*j+2) 0+16777216*L.getD (4*j+3) 0
def iO (L:List Nat) (n:Nat):List Nat:=(List.range n).map (cellAt L)
def aF (L:List Nat):List Nat:=iO L ((L.length+3) / 4)
theorem BO (L:List Nat) (n:Nat):iO L (n+1)=iO L n++[cellAt L n]:=by simp[iO,List.range_succ]
theorem pI (L:List Nat) (n:Nat):(iO L n).length=n:=by simp[iO]
theorem bH (L:List Nat):(aF L).length=(L.length+3) / 4:=pI _ _
def uF (v:Nat):List Nat:=[v % 256,v / 256 % 256,v / 65536 % 256,v / 16777216 % 256]
def rX (l:List Nat):List Nat:=l.flatMap uF
theorem yH:∀ (l:List Nat) (j k:Nat) (v:Nat),l[j]?=some v->k<4->(rX l)[4*j+k]?=(uF v)[k]?
 | [],j,k,v,h,_=>by simp at h
 | x :: l,0,k,v,h,hk=>by
  simp at h
  subst h
  have e:rX (x :: l)=uF x++rX l:=rfl
  rw[e,Nat.mul_zero,Nat.zero_add,List.getElem?_append_left (by simp[uF];omega)]
 | x :: l,j+1,k,v,h,hk=>by
  have:=yH l j k v (by simpa using h) hk
  have e:rX (x :: l)=uF x++rX l:=rfl
  rw[e,show 4*(j+1)+k=(uF x).length+(4*j+k) by simp[uF];omega,List.getElem?_append_right oZ,Nat.add_sub_cancel_left]
  exact this
theorem getD_lt {L:List Nat} (h:∀ b∈L,b<256) (i:Nat):L.getD i 0<256:=by
 rw[List.getD_eq_getElem?_getD]
 cases hi:L[i]? with
 | none=>simp
 | some b=>exact h b (List.mem_of_getElem? hi)
theorem J9 {L:List Nat} (h:∀ b∈L,b<256) (j:Nat):cellAt L j<4294967296:=by
 have h0:=getD_lt h (4*j)
 have h1:=getD_lt h (4*j+1)
 have h2:=getD_lt h (4*j+2)
 have h3:=getD_lt h (4*j+3)
 unfold cellAt
 omega
theorem GR {L:List Nat} (h:∀ b∈L,b<256) (j k:Nat) (hk:k<4):(uF (cellAt L j))[k]?=some (L.getD (4*j+k) 0):=by
 have h0:=getD_lt h (4*j)
 have h1:=getD_lt h (4*j+1)
 have h2:=getD_lt h (4*j+2)
 have h3:=getD_lt h (4*j+3)
 have hc:k=0∨k=1∨k=2∨k=3:=oZ
 unfold uF cellAt
 rcases hc with rfl | rfl | rfl | rfl
 all_goals (simp only[List.getElem?_cons_zero,List.getElem?_cons_succ,Nat.add_zero,Option.some.injEq];omega)
theorem Ah {L:List Nat} (h:∀ b∈L,b<256):(rX (aF L)).take L.length=L:=by
 apply List.ext_getElem?
 intro i
 rw[List.getElem?_take]
 split
 ·rename_i hi
  have hc:(aF L)[i / 4]?=some (cellAt L (i / 4)):=by
   unfold aF iO
   rw[List.getElem?_map,List.getElem?_range oZ]
   rfl
  have:=yH (aF L) (i / 4) (i % 4) _ hc oZ
  rw[show 4*(i / 4)+i % 4=i by omega,GR h _ _ oZ,show 4*(i / 4)+i % 4=i by omega] at this
  rw[this,List.getD_eq_getElem?_getD,gZ hi]
  rfl
 ·rw[List.getElem?_eq_none oZ]
theorem EU {a b:List Nat} (ha:∀ x∈a,x<256) (hb:∀ x∈b,x<256) (hl:a.length=b.length) (h:aF a=aF b):a=b:=by
 rw[<- Ah ha,<- Ah hb,h,hl]
/-! ### By Horner's rule -/
def jE (L:List Nat) (b:Nat):Nat->Nat
 | 0=>0
 | m+1=>256*jE L b m+L.getD (b+(3-m)) 0
theorem Hl (L:List Nat) (j:Nat):jE L (4*j) 4=cellAt L j:=by
 simp only[jE,cellAt]
 show 256*(256*(256*(256*0+L.getD (4*j+3) 0)+L.getD (4*j+2) 0)+L.getD (4*j+1) 0)+L.getD (4*j+0) 0=_
 rw[Nat.add_zero (4*j)]
 omega
theorem NG {L:List Nat} (h:∀ b∈L,b<256) (b:Nat):jE L b 1<256/\jE L b 2<65536/\jE L b 3<16777216/\jE L b 4<4294967296:=by
 have h0:=getD_lt h (b+3)
 have h1:=getD_lt h (b+2)
 have h2:=getD_lt h (b+1)
 have h3:=getD_lt h (b+0)
 have e1:jE L b 1=256*0+L.getD (b+3) 0:=rfl
 have e2:jE L b 2=256*jE L b 1+L.getD (b+2) 0:=rfl
 have e3:jE L b 3=256*jE L b 2+L.getD (b+1) 0:=rfl
 have e4:jE L b 4=256*jE L b 3+L.getD (b+0) 0:=rfl
 omega
theorem D7 {L:List Nat} (h:∀ b∈L,b<256) (b m:Nat) (hm:m<=3):jE L b m<16777216:=by
 have:=NG h b
 rcases (show m=0∨m=1∨m=2∨m=3 by omega) with rfl | rfl | rfl | rfl
 ·show 0<16777216;omega
 ·omega
 ·omega
 ·omega
def Oz (L:List Nat) (n:Int):Int:=if n<0 then 1 else if(4*L.length:Int)<n then 12 else 0
def Qp (L:List Nat) (n:Int):ByteArray:=if Oz L n=0 then ay ((rX L).take n.toNat) else ay []
def jb (h b:Nat):Nat:=(h ^^^ b)*16777619 % 4294967296
theorem foldl_snoc (f:Nat->Nat->Nat) (x:Nat) (L:List Nat) (b:Nat):(L++[b]).foldl f x=f (L.foldl f x) b:=sZ
def Ii:Nat:=2166136261
theorem Ld:Ii=2166136261:=rfl
def dB (L:List Nat):Nat:=L.foldl jb Ii
theorem Ad (L:List Nat) (b:Nat):dB (L++[b])=jb (dB L) b:=foldl_snoc jb Ii L b
theorem Ei (h b:Nat):jb h b<4294967296:=by
 unfold jb
 exact Nat.mod_lt _ oZ
theorem LQ {f:Nat->Nat->Nat} {N:Nat} (h:∀ x b,f x b<N):∀ (L:List Nat) (x:Nat),x<N->L.foldl f x<N:=by
 intro L
 induction L with
 | nil=>intro x hx;exact hx
 | cons b L ih=>intro x _;exact ih _ (h x b)
theorem qP (L:List Nat):dB L<4294967296:=LQ Ei L Ii (by rw[Ld];omega)
def OD (d p:Int):Prop:=0<=d/\d<=65535/\0<=p/\p<=65535
instance (d p:Int):Decidable (OD d p):=by unfold OD;exact inferInstance
def eU (d p:Int):Int:=if OD d p then 65536*d+p else 0
def gW (d p:Int):Int:=if OD d p then 0 else 1
end Go.Proofs.YtlfndoclbebdaaaGreatDoor
namespace Go.Proofs.YtlfndoclbebdaaaGreatDoor
open Go.RowKit
def ak (d t:Int) (s:Nat->Int) (bk rm:Int) (kf bf:Nat):Array Value:=#[.int .i64 d,.int .i64 t,.int .i64 (s 0),.int .i64 (s 1),.int .i64 (s 2),.int .i64 (s 3),.int .i64 bk,.int .i64 rm,.float .f64 kf,.float .f64 bf]
structure La (d t:Int) (s:Nat->Int) (bk rm:Int):Prop where
 d0:1<=d
 d1:d<=64
 t0:64<=t
 t1:t<=256
 s0:∀ k,k<4->0<=s k
 s1:∀ k,k<4->s k<=512
 b0:0<=bk
 b1:bk<=65536
 r0:0<=rm
 r1:rm<=65536
theorem fH (s:Nat->Int) (w:World):(Instr.index 22 (.agg #[.int .i64 (s 0),.int .i64 (s 1),.int .i64 (s 2),.int .i64 (s 3)]) (.int .i64 0)).run Tryz.prog w=.ok (.int .i64 (s 0)) w:=kZ
theorem fE (s:Nat->Int) (w:World):(Instr.index 22 (.agg #[.int .i64 (s 0),.int .i64 (s 1),.int .i64 (s 2),.int .i64 (s 3)]) (.int .i64 1)).run Tryz.prog w=.ok (.int .i64 (s 1)) w:=kZ
theorem fD (s:Nat->Int) (w:World):(Instr.index 22 (.agg #[.int .i64 (s 0),.int .i64 (s 1),.int .i64 (s 2),.int .i64 (s 3)]) (.int .i64 2)).run Tryz.prog w=.ok (.int .i64 (s 2)) w:=kZ
theorem fF (s:Nat->Int) (w:World):(Instr.index 22 (.agg #[.int .i64 (s 0),.int .i64 (s 1),.int .i64 (s 2),.int .i64 (s 3)]) (.int .i64 3)).run Tryz.prog w=.ok (.int .i64 (s 3)) w:=kZ
theorem BM (w:World) (d t:Int) (s:Nat->Int) (bk rm:Int) (kf bf:Nat) (h:La d t s bk rm) :
  Calls Tryz.prog 101 #[.agg (ak d t s bk rm kf bf)] w fun e w'=>e=.returned (.bool true)/\Below w.heap.size w w':=by
 unfold ak
 obtain⟨d0,d1,t0,t1,s0,s1,b0,b1,r0,r1⟩:=h
 have a0:=s0 0 oZ
 have a1:=s0 1 oZ
 have a2:=s0 2 oZ
 have a3:=s0 3 oZ
 have c0:=s1 0 oZ
 have c1:=s1 1 oZ
 have c2:=s1 2 oZ
 have c3:=s1 3 oZ
 clear s0 s1
 have i0:=fH s
 have i1:=fE s
 have i2:=fD s
 have i3:=fF s
 go_enter Tryz.func101,Tryz.ntmps101
 go_wp2_with fail
 refine wp_loop_rounds 5 ?_;rw[rounds_succ]
 go_wp2
 rw[rounds_succ]
 go_wp2
 rw[rounds_succ]
 go_wp2
 rw[rounds_succ]
 go_wp2
 rw[rounds_succ]
 go_wp2
 go_ret
 exact⟨rfl,(Below.refl _ _).alloc (Nat.le_refl _) _⟩
theorem BQ (w:World) (d t:Int) (s:Nat->Int) (bk rm:Int) (kf bf:Nat)  (h:s 0<0) :
  Calls Tryz.prog 101 #[.agg (ak d t s bk rm kf bf)] w fun e w'=>e=.returned (.bool false)/\Below w.heap.size w w':=by
 unfold ak
 have i0:=fH s
 have i1:=fE s
 have i2:=fD s
 have i3:=fF s
 go_enter Tryz.func101,Tryz.ntmps101
 go_wp2_with fail
 refine wp_loop_rounds 5 ?_;rw[rounds_succ]
 go_wp2
 go_ret
 exact⟨rfl,(Below.refl _ _).alloc (Nat.le_refl _) _⟩
theorem CE (w:World) (d t:Int) (s:Nat->Int) (bk rm:Int) (kf bf:Nat)  (h0:0<=s 0) (h:512<s 0) :
  Calls Tryz.prog 101 #[.agg (ak d t s bk rm kf bf)] w fun e w'=>e=.returned (.bool false)/\Below w.heap.size w w':=by
 unfold ak
 have i0:=fH s
 have i1:=fE s
 have i2:=fD s
 have i3:=fF s
 go_enter Tryz.func101,Tryz.ntmps101
 go_wp2_with fail
 refine wp_loop_rounds 5 ?_;rw[rounds_succ]
 go_wp2
 go_ret
 exact⟨rfl,(Below.refl _ _).alloc (Nat.le_refl _) _⟩
theorem Bj (w:World) (d t:Int) (s:Nat->Int) (bk rm:Int) (kf bf:Nat) (a0:0<=s 0) (c0:s 0<=512) (h:s 1<0) :
  Calls Tryz.prog 101 #[.agg (ak d t s bk rm kf bf)] w fun e w'=>e=.returned (.bool false)/\Below w.heap.size w w':=by
 unfold ak
 have i0:=fH s
 have i1:=fE s
 have i2:=fD s
 have i3:=fF s
 go_enter Tryz.func101,Tryz.ntmps101
 go_wp2_with fail
 refine wp_loop_rounds 5 ?_;rw[rounds_succ]
 go_wp2
 rw[rounds_succ]
 go_wp2
 go_ret
 exact⟨rfl,(Below.refl _ _).alloc (Nat.le_refl _) _⟩
theorem Di (w:World) (d t:Int) (s:Nat->Int) (bk rm:Int) (kf bf:Nat) (a0:0<=s 0) (c0:s 0<=512) (h0:0<=s 1) (h:512<s 1) :
  Calls Tryz.prog 101 #[.agg (ak d t s bk rm kf bf)] w fun e w'=>e=.returned (.bool false)/\Below w.heap.size w w':=by
 unfold ak
 have i0:=fH s
 have i1:=fE s
 have i2:=fD s
 have i3:=fF s
 go_enter Tryz.func101,Tryz.ntmps101
 go_wp2_with fail
 refine wp_loop_rounds 5 ?_;rw[rounds_succ]
 go_wp2
 rw[rounds_succ]
 go_wp2
 go_ret
 exact⟨rfl,(Below.refl _ _).alloc (Nat.le_refl _) _⟩
theorem BI (w:World) (d t:Int) (s:Nat->Int) (bk rm:Int) (kf bf:Nat) (a0:0<=s 0) (c0:s 0<=512) (a1:0<=s 1) (c1:s 1<=512) (h:s 2<0) :
  Calls Tryz.prog 101 #[.agg (ak d t s bk rm kf bf)] w fun e w'=>e=.returned (.bool false)/\Below w.heap.size w w':=by
 unfold ak
 have i0:=fH s
 have i1:=fE s
 have i2:=fD s
 have i3:=fF s
 go_enter Tryz.func101,Tryz.ntmps101
 go_wp2_with fail
 refine wp_loop_rounds 5 ?_;rw[rounds_succ]
 go_wp2
 rw[rounds_succ]
 go_wp2
 rw[rounds_succ]
 go_wp2
 go_ret
 exact⟨rfl,(Below.refl _ _).alloc (Nat.le_refl _) _⟩
theorem CY (w:World) (d t:Int) (s:Nat->Int) (bk rm:Int) (kf bf:Nat) (a0:0<=s 0) (c0:s 0<=512) (a1:0<=s 1) (c1:s 1<=512) (h0:0<=s 2) (h:512<s 2) :
  Calls Tryz.prog 101 #[.agg (ak d t s bk rm kf bf)] w fun e w'=>e=.returned (.bool false)/\Below w.heap.size w w':=by
 unfold ak
 have i0:=fH s
 have i1:=fE s
 have i2:=fD s
 have i3:=fF s
 go_enter Tryz.func101,Tryz.ntmps101
 go_wp2_with fail
 refine wp_loop_rounds 5 ?_;rw[rounds_succ]
 go_wp2
 rw[rounds_succ]
 go_wp2
 rw[rounds_succ]
 go_wp2
 go_ret
 exact⟨rfl,(Below.refl _ _).alloc (Nat.le_refl _) _⟩
theorem BL (w:World) (d t:Int) (s:Nat->Int) (bk rm:Int) (kf bf:Nat) (a0:0<=s 0) (c0:s 0<=512) (a1:0<=s 1) (c1:s 1<=512) (a2:0<=s 2) (c2:s 2<=512) (h:s 3<0) :
  Calls Tryz.prog 101 #[.agg (ak d t s bk rm kf bf)] w fun e w'=>e=.returned (.bool false)/\Below w.heap.size w w':=by
 unfold ak
 have i0:=fH s
 have i1:=fE s
 have i2:=fD s
 have i3:=fF s
 go_enter Tryz.func101,Tryz.ntmps101
 go_wp2_with fail
 refine wp_loop_rounds 5 ?_;rw[rounds_succ]
 go_wp2
 rw[rounds_succ]
 go_wp2
 rw[rounds_succ]
 go_wp2
 rw[rounds_succ]
 go_wp2
 go_ret
 exact⟨rfl,(Below.refl _ _).alloc (Nat.le_refl _) _⟩
theorem BH (w:World) (d t:Int) (s:Nat->Int) (bk rm:Int) (kf bf:Nat) (a0:0<=s 0) (c0:s 0<=512) (a1:0<=s 1) (c1:s 1<=512) (a2:0<=s 2) (c2:s 2<=512) (h0:0<=s 3) (h:512<s 3) :
  Calls Tryz.prog 101 #[.agg (ak d t s bk rm kf bf)] w fun e w'=>e=.returned (.bool false)/\Below w.heap.size w w':=by
 unfold ak
 have i0:=fH s
 have i1:=fE s
 have i2:=fD s
 have i3:=fF s
 go_enter Tryz.func101,Tryz.ntmps101
 go_wp2_with fail
 refine wp_loop_rounds 5 ?_;rw[rounds_succ]
 go_wp2
 rw[rounds_succ]
 go_wp2
 rw[rounds_succ]
 go_wp2
 rw[rounds_succ]
 go_wp2
 go_ret
 exact⟨rfl,(Below.refl _ _).alloc (Nat.le_refl _) _⟩
theorem EF (w:World) (d t:Int) (s:Nat->Int) (bk rm:Int) (kf bf:Nat) (a0:0<=s 0) (c0:s 0<=512) (a1:0<=s 1) (c1:s 1<=512) (a2:0<=s 2) (c2:s 2<=512) (a3:0<=s 3) (c3:s 3<=512)  (h:d<1) :
  Calls Tryz.prog 101 #[.agg (ak d t s bk rm kf bf)] w fun e w'=>e=.returned (.bool false)/\Below w.heap.size w w':=by
 unfold ak
 have i0:=fH s
 have i1:=fE s
 have i2:=fD s
 have i3:=fF s
 have h':decide (1<=d)=false:=decide_eq_false oZ
 go_enter Tryz.func101,Tryz.ntmps101
 go_wp2_with fail
 refine wp_loop_rounds 5 ?_;rw[rounds_succ]
 go_wp2
 rw[rounds_succ]
 go_wp2
 rw[rounds_succ]
 go_wp2
 rw[rounds_succ]
 go_wp2
 rw[rounds_succ]
 go_wp2
 go_ret
 exact⟨rfl,(Below.refl _ _).alloc (Nat.le_refl _) _⟩
theorem Ee (w:World) (d t:Int) (s:Nat->Int) (bk rm:Int) (kf bf:Nat) (a0:0<=s 0) (c0:s 0<=512) (a1:0<=s 1) (c1:s 1<=512) (a2:0<=s 2) (c2:s 2<=512) (a3:0<=s 3) (c3:s 3<=512) (g0:1<=d) (h:64<d) :
  Calls Tryz.prog 101 #[.agg (ak d t s bk rm kf bf)] w fun e w'=>e=.returned (.bool false)/\Below w.heap.size w w':=by
 unfold ak
 have i0:=fH s
 have i1:=fE s
 have i2:=fD s
 have i3:=fF s
 have h':decide (d<=64)=false:=decide_eq_false oZ
 go_enter Tryz.func101,Tryz.ntmps101
 go_wp2_with fail
 refine wp_loop_rounds 5 ?_;rw[rounds_succ]
 go_wp2
 rw[rounds_succ]
 go_wp2
 rw[rounds_succ]
 go_wp2
 rw[rounds_succ]
 go_wp2
 rw[rounds_succ]
 go_wp2
 go_ret
 exact⟨rfl,(Below.refl _ _).alloc (Nat.le_refl _) _⟩
theorem DK (w:World) (d t:Int) (s:Nat->Int) (bk rm:Int) (kf bf:Nat) (a0:0<=s 0) (c0:s 0<=512) (a1:0<=s 1) (c1:s 1<=512) (a2:0<=s 2) (c2:s 2<=512) (a3:0<=s 3) (c3:s 3<=512) (g0:1<=d) (g1:d<=64) (h:t<64) :
  Calls Tryz.prog 101 #[.agg (ak d t s bk rm kf bf)] w fun e w'=>e=.returned (.bool false)/\Below w.heap.size w w':=by
 unfold ak
 have i0:=fH s
 have i1:=fE s
 have i2:=fD s
 have i3:=fF s
 have h':decide (64<=t)=false:=decide_eq_false oZ
 go_enter Tryz.func101,Tryz.ntmps101
 go_wp2_with fail
 refine wp_loop_rounds 5 ?_;rw[rounds_succ]
 go_wp2
 rw[rounds_succ]
 go_wp2
 rw[rounds_succ]
 go_wp2
 rw[rounds_succ]
 go_wp2
 rw[rounds_succ]
 go_wp2
 go_ret
 exact⟨rfl,(Below.refl _ _).alloc (Nat.le_refl _) _⟩
theorem DV (w:World) (d t:Int) (s:Nat->Int) (bk rm:Int) (kf bf:Nat) (a0:0<=s 0) (c0:s 0<=512) (a1:0<=s 1) (c1:s 1<=512) (a2:0<=s 2) (c2:s 2<=512) (a3:0<=s 3) (c3:s 3<=512) (g0:1<=d) (g1:d<=64) (g2:64<=t) (h:256<t) :
  Calls Tryz.prog 101 #[.agg (ak d t s bk rm kf bf)] w fun e w'=>e=.returned (.bool false)/\Below w.heap.size w w':=by
 unfold ak
 have i0:=fH s
 have i1:=fE s
 have i2:=fD s
 have i3:=fF s
 have h':decide (t<=256)=false:=decide_eq_false oZ
 go_enter Tryz.func101,Tryz.ntmps101
 go_wp2_with fail
 refine wp_loop_rounds 5 ?_;rw[rounds_succ]
 go_wp2
 rw[rounds_succ]
 go_wp2
 rw[rounds_succ]
 go_wp2
 rw[rounds_succ]
 go_wp2
 rw[rounds_succ]
 go_wp2
 go_ret
 exact⟨rfl,(Below.refl _ _).alloc (Nat.le_refl _) _⟩
theorem DY (w:World) (d t:Int) (s:Nat->Int) (bk rm:Int) (kf bf:Nat) (a0:0<=s 0) (c0:s 0<=512) (a1:0<=s 1) (c1:s 1<=512) (a2:0<=s 2) (c2:s 2<=512) (a3:0<=s 3) (c3:s 3<=512) (g0:1<=d) (g1:d<=64) (g2:64<=t) (g3:t<=256) (h:bk<0) :
  Calls Tryz.prog 101 #[.agg (ak d t s bk rm kf bf)] w fun e w'=>e=.returned (.bool false)/\Below w.heap.size w w':=by
 unfold ak
 have i0:=fH s
 have i1:=fE s
 have i2:=fD s
 have i3:=fF s
 have h':decide (0<=bk)=false:=decide_eq_false oZ
 go_enter Tryz.func101,Tryz.ntmps101
 go_wp2_with fail
 refine wp_loop_rounds 5 ?_;rw[rounds_succ]
 go_wp2
 rw[rounds_succ]
 go_wp2
 rw[rounds_succ]
 go_wp2
 rw[rounds_succ]
 go_wp2
 rw[rounds_succ]
 go_wp2
 go_ret
 exact⟨rfl,(Below.refl _ _).alloc (Nat.le_refl _) _⟩
theorem EH (w:World) (d t:Int) (s:Nat->Int) (bk rm:Int) (kf bf:Nat) (a0:0<=s 0) (c0:s 0<=512) (a1:0<=s 1) (c1:s 1<=512) (a2:0<=s 2) (c2:s 2<=512) (a3:0<=s 3) (c3:s 3<=512) (g0:1<=d) (g1:d<=64) (g2:64<=t) (g3:t<=256) (g4:0<=bk) (h:65536<bk) :
  Calls Tryz.prog 101 #[.agg (ak d t s bk rm kf bf)] w fun e w'=>e=.returned (.bool false)/\Below w.heap.size w w':=by
 unfold ak
 have i0:=fH s
 have i1:=fE s
 have i2:=fD s
 have i3:=fF s
 have h':decide (bk<=65536)=false:=decide_eq_false oZ
 go_enter Tryz.func101,Tryz.ntmps101
 go_wp2_with fail
 refine wp_loop_rounds 5 ?_;rw[rounds_succ]
 go_wp2
 rw[rounds_succ]
 go_wp2
 rw[rounds_succ]
 go_wp2
 rw[rounds_succ]
 go_wp2
 rw[rounds_succ]
 go_wp2
 go_ret
 exact⟨rfl,(Below.refl _ _).alloc (Nat.le_refl _) _⟩
theorem EM (w:World) (d t:Int) (s:Nat->Int) (bk rm:Int) (kf bf:Nat) (a0:0<=s 0) (c0:s 0<=512) (a1:0<=s 1) (c1:s 1<=512) (a2:0<=s 2) (c2:s 2<=512) (a3:0<=s 3) (c3:s 3<=512) (g0:1<=d) (g1:d<=64) (g2:64<=t) (g3:t<=256) (g4:0<=bk) (g5:bk<=65536) (h:rm<0) :
  Calls Tryz.prog 101 #[.agg (ak d t s bk rm kf bf)] w fun e w'=>e=.returned (.bool false)/\Below w.heap.size w w':=by
 unfold ak
 have i0:=fH s
 have i1:=fE s
 have i2:=fD s
 have i3:=fF s
 have h':decide (0<=rm)=false:=decide_eq_false oZ
 go_enter Tryz.func101,Tryz.ntmps101
 go_wp2_with fail
 refine wp_loop_rounds 5 ?_;rw[rounds_succ]
 go_wp2
 rw[rounds_succ]
 go_wp2
 rw[rounds_succ]
 go_wp2
 rw[rounds_succ]
 go_wp2
 rw[rounds_succ]
 go_wp2
 go_ret
 exact⟨rfl,(Below.refl _ _).alloc (Nat.le_refl _) _⟩
theorem ER (w:World) (d t:Int) (s:Nat->Int) (bk rm:Int) (kf bf:Nat) (a0:0<=s 0) (c0:s 0<=512) (a1:0<=s 1) (c1:s 1<=512) (a2:0<=s 2) (c2:s 2<=512) (a3:0<=s 3) (c3:s 3<=512) (g0:1<=d) (g1:d<=64) (g2:64<=t) (g3:t<=256) (g4:0<=bk) (g5:bk<=65536) (g6:0<=rm) (h:65536<rm) :
  Calls Tryz.prog 101 #[.agg (ak d t s bk rm kf bf)] w fun e w'=>e=.returned (.bool false)/\Below w.heap.size w w':=by
 unfold ak
 have i0:=fH s
 have i1:=fE s
 have i2:=fD s
 have i3:=fF s
 have h':decide (rm<=65536)=false:=decide_eq_false oZ
 go_enter Tryz.func101,Tryz.ntmps101
 go_wp2_with fail
 refine wp_loop_rounds 5 ?_;rw[rounds_succ]
 go_wp2
 rw[rounds_succ]
 go_wp2
 rw[rounds_succ]
 go_wp2
 rw[rounds_succ]
 go_wp2
 rw[rounds_succ]
 go_wp2
 go_ret
 exact⟨rfl,(Below.refl _ _).alloc (Nat.le_refl _) _⟩
theorem FC (w:World) (d t:Int) (s:Nat->Int) (bk rm:Int) (kf bf:Nat) (h:¬ La d t s bk rm) :
  Calls Tryz.prog 101 #[.agg (ak d t s bk rm kf bf)] w fun e w'=>e=.returned (.bool false)/\Below w.heap.size w w':=by
 by_cases a0:0<=s 0
 rotate_left;· exact BQ _ _ _ _ _ _ _ _ oZ
 by_cases c0:s 0<=512
 rotate_left;· exact CE _ _ _ _ _ _ _ _ a0 oZ
 by_cases a1:0<=s 1
 rotate_left;· exact Bj _ _ _ _ _ _ _ _ a0 c0 oZ
 by_cases c1:s 1<=512
 rotate_left;· exact Di _ _ _ _ _ _ _ _ a0 c0 a1 oZ
 by_cases a2:0<=s 2
 rotate_left;· exact BI _ _ _ _ _ _ _ _ a0 c0 a1 c1 oZ
 by_cases c2:s 2<=512
 rotate_left;· exact CY _ _ _ _ _ _ _ _ a0 c0 a1 c1 a2 oZ
 by_cases a3:0<=s 3
 rotate_left;· exact BL _ _ _ _ _ _ _ _ a0 c0 a1 c1 a2 c2 oZ
 by_cases c3:s 3<=512
 rotate_left;· exact BH _ _ _ _ _ _ _ _ a0 c0 a1 c1 a2 c2 a3 oZ
 by_cases g0:1<=d
 rotate_left;· exact EF _ _ _ _ _ _ _ _ a0 c0 a1 c1 a2 c2 a3 c3 oZ
 by_cases g1:d<=64
 rotate_left;· exact Ee _ _ _ _ _ _ _ _ a0 c0 a1 c1 a2 c2 a3 c3 g0 oZ
 by_cases g2:64<=t
 rotate_left;· exact DK _ _ _ _ _ _ _ _ a0 c0 a1 c1 a2 c2 a3 c3 g0 g1 oZ
 by_cases g3:t<=256
 rotate_left;· exact DV _ _ _ _ _ _ _ _ a0 c0 a1 c1 a2 c2 a3 c3 g0 g1 g2 oZ
 by_cases g4:0<=bk
 rotate_left;· exact DY _ _ _ _ _ _ _ _ a0 c0 a1 c1 a2 c2 a3 c3 g0 g1 g2 g3 oZ
 by_cases g5:bk<=65536
 rotate_left;· exact EH _ _ _ _ _ _ _ _ a0 c0 a1 c1 a2 c2 a3 c3 g0 g1 g2 g3 g4 oZ
 by_cases g6:0<=rm
 rotate_left;· exact EM _ _ _ _ _ _ _ _ a0 c0 a1 c1 a2 c2 a3 c3 g0 g1 g2 g3 g4 g5 oZ
 by_cases g7:rm<=65536
 rotate_left;· exact ER _ _ _ _ _ _ _ _ a0 c0 a1 c1 a2 c2 a3 c3 g0 g1 g2 g3 g4 g5 g6 oZ
 have four:∀ k,k<4->k=0∨k=1∨k=2∨k=3:=oZ
 exact absurd ⟨g0,g1,g2,g3,fun k hk=>by rcases four k hk with rfl | rfl | rfl | rfl <;> assumption,fun k hk=>by rcases four k hk with rfl | rfl | rfl | rfl <;> assumption,g4,g5,g6,g7⟩ h
def slotsOf (t:Int):Int:=if t<128 then 128 else if t<256 then 256 else 512
theorem Jz (w:World) (t:Int) (h0:64<=t) (h1:t<=256):Calls Tryz.prog 103 #[.int .i64 t] w fun e w'=>e=.returned (.int .i64 (slotsOf t))/\w=w':=by
 by_cases a:t<128
 ·have e:slotsOf t=128:=by simp[slotsOf,a]
  rw[e]
  go_enter Tryz.func103,Tryz.ntmps103
  go_wp2_with fail
  refine wp_loop_rounds 8 ?_;rw[rounds_succ]
  go_wp2
  rw[rounds_succ]
  go_wp2
  rw[rounds_succ]
  go_wp2
  rw[rounds_succ]
  go_wp2
  rw[rounds_succ]
  go_wp2
  rw[rounds_succ]
  go_wp2
  rw[rounds_succ]
  go_wp2
  rw[rounds_succ]
  go_wp2
  go_ret
  exact⟨rfl,rfl⟩
 ·by_cases b:t<256
  ·have e:slotsOf t=256:=by simp[slotsOf,a,b]
   rw[e]
   have a':128<=t:=oZ
   go_enter Tryz.func103,Tryz.ntmps103
   go_wp2_with fail
   refine wp_loop_rounds 9 ?_;rw[rounds_succ]
   go_wp2
   rw[rounds_succ]
   go_wp2
   rw[rounds_succ]
   go_wp2
   rw[rounds_succ]
   go_wp2
   rw[rounds_succ]
   go_wp2
   rw[rounds_succ]
   go_wp2
   rw[rounds_succ]
   go_wp2
   rw[rounds_succ]
   go_wp2
   rw[rounds_succ]
   go_wp2
   go_ret
   exact⟨rfl,rfl⟩
  ·have e:slotsOf t=512:=by simp[slotsOf,a,b]
   rw[e]
   have b':t=256:=oZ
   clear e a b h0 h1
   subst b'
   go_enter Tryz.func103,Tryz.ntmps103
   go_wp2_with fail
   refine wp_loop_rounds 10 ?_;rw[rounds_succ]
   go_wp2
   rw[rounds_succ]
   go_wp2
   rw[rounds_succ]
   go_wp2
   rw[rounds_succ]
   go_wp2
   rw[rounds_succ]
   go_wp2
   rw[rounds_succ]
   go_wp2
   rw[rounds_succ]
   go_wp2
   rw[rounds_succ]
   go_wp2
   rw[rounds_succ]
   go_wp2
   rw[rounds_succ]
   go_wp2
   go_ret
   exact⟨rfl,rfl⟩
end Go.Proofs.YtlfndoclbebdaaaGreatDoor
namespace Go.Proofs.YtlfndoclbebdaaaGreatDoor
open Go.ChangeShapes Go.WideShapes Go.ChangeAt Go.RowKit Go.Deep
def iM (k:IntKind) (l:List Nat):List Value:=l.map fun(x:Nat)=>Value.int k (x:Int)
theorem gm (k:IntKind) (l:List Nat):(iM k l).length=l.length:=by simp[iM]
theorem pO {k:IntKind} {l:List Nat} {j x:Nat} (h:l[j]?=some x):(iM k l)[j]?=some (.int k (x:Int)):=by simp[iM,h]
theorem xh (k:IntKind) (l m:List Nat):iM k (l++m)=iM k l++iM k m:=by simp[iM]
theorem Nr (k:IntKind) (l:List Nat):∀ v∈iM k l,v.oneCell'=true:=by
 intro v hv
 obtain⟨x,_,rfl⟩:=List.mem_map.1 hv
 rfl
def dH (k:IntKind) (w:World) (oa:Option Addr) (l:List Nat):Prop:=∀ j x:Nat,l[j]?=some x->∃ g o:Nat,oa=some ⟨g,o,none⟩/\w.cell? ⟨g,o+j,none⟩=some (.int k (x:Int))
theorem dH.below {k:IntKind} {w w':World} {oa:Option Addr} {l:List Nat} (h:dH k w oa l) (hb:Below w.heap.size w w'):dH k w' oa l:=by
 intro j x hj
 obtain⟨g,o,e,hc⟩:=h j x hj
 exact⟨g,o,e,aC hc hb⟩
theorem dH.alloc {k:IntKind} {w:World} {oa:Option Addr} {l:List Nat} (h:dH k w oa l) (o:Obj):dH k (w.alloc o) oa l:=h.below ((Below.refl _ _).alloc (Nat.le_refl _) o)
theorem dH.nil (k:IntKind) (w:World) (oa:Option Addr):dH k w oa []:=by intro j x hj;simp at hj
theorem one_cell {w:World} {v:Value} {t:TypeId}:∀ (j:Nat) (u:Value),[v][j]?=some u->(w.alloc (.cells #[v] t)).cell? ((⟨w.heap.size,0,none⟩:Addr).add j)=some u:=by
 intro j u hj
 rcases j with _ | j
 ·simp at hj;subst hj
  rw[Addr.add_lit];exact ae (nZ w _) 0
 ·simp at hj
def iw (t:TypeId) (k:IntKind) (w:World) (base:Nat) (v:Value) (l:List Nat):Prop:=w.ownsRow base t 1 v l.length (iM k l)
theorem aA {w w':World} {e:TypeId} {size n base:Nat} {v:Value} {xs:List Value} (h:w.ownsRow base e size v n xs) (hb:Below w.heap.size w w'):w'.ownsRow base e size v n xs:=by
 obtain⟨h0,h | ⟨g,cap,cur,h1,h2,h3,h4⟩⟩:=h
 ·exact⟨h0,.inl h⟩
 ·refine⟨h0,.inr ⟨g,cap,cur,h1,h2,?_,h4⟩⟩
  rw[hb.block g (lt_of_heap h3)];exact h3
theorem iw.below {t:TypeId} {k:IntKind} {w w':World} {base:Nat} {v:Value} {l:List Nat} (h:iw t k w base v l) (hb:Below w.heap.size w w'):iw t k w' base v l:=aA h hb
theorem iw.new (t:TypeId) (k:IntKind) (w:World) (base:Nat) (h:base<=w.heap.size):iw t k (w.alloc (.cells #[] t)) base (.slice (some ⟨w.heap.size,0,none⟩) 0 0) [] :=
 World.ownsRow_lit (base:=base) (e:=t) (size:=1) w #[] 0 h dZ sZ
theorem iw.more {t:TypeId} {k:IntKind} {W w1 w2:World} {v v':Value} {l m:List Nat} {o:Obj} (hl:Below W.heap.size W w1) (hr:iw t k w1 W.heap.size v l) (ho:w2.ownsRow W.heap.size t 1 v' (l.length+m.length) (iM k l++iM k m)) (hg:(w1.alloc o).grownBy w2 v.ownBlock) :
  iw t k w2 W.heap.size v' (l++m)/\Below W.heap.size W w2 :=
 ⟨by unfold iw;rw[xh,List.length_append];exact ho,(hl.alloc hl.size _).grown hg (by have:=hl.size;simp;omega) (fun k hk=>(World.ownsRow.lt hr k hk).1)⟩
theorem iw.reads {t:TypeId} {k:IntKind} {w:World} {base:Nat} {v:Value} {l:List Nat} (h:iw t k w base v l):∃ oa cap,v=.slice oa l.length cap/\l.length<=cap/\cap<=maxLen/\(oa=none->cap=0)/\dH k w oa l:=by
 by_cases hn:v=.slice none 0 0
 ·subst hn
  rcases h.2 with ⟨_,h0⟩ | ⟨g,cap,cur,e,_⟩
  ·have:l=[]:=List.eq_nil_of_length_eq_zero h0
   subst this
   exact⟨none,0,rfl,sZ,by simp[maxLen],fun _=>rfl,dH.nil _ _ _⟩
  ·cases e
 ·obtain⟨h0,h1 | ⟨g,cap,cur,rfl,h2,h3,h4,h5,h6⟩⟩:=h
  ·exact absurd h1.1 hn
  ·refine⟨some ⟨g,0,none⟩,cap,rfl,h4,h5,(by intro e;cases e),?_⟩
   intro j x hj
   have:=World.ownsRow.cells (w:=w) (base:=base) (e:=t) (size:=1) (n:=l.length) (xs:=iM k l) (v:=.slice (some ⟨g,0,none⟩) l.length cap) ⟨h0,.inr ⟨g,cap,cur,rfl,h2,h3,h4,h5,h6⟩⟩ (g:=g) rfl j _ (pO hj)
   rw[Addr.add_lit] at this
   exact⟨g,0,rfl,this⟩
theorem iw.yQ {t:TypeId} {k:IntKind} {w:World} {base:Nat} {v:Value} {l:List Nat} (h:iw t k w base v l) (n:Nat) (hn:l.length=n):∃ oa cap,v=.slice oa n cap/\n<=cap/\cap<=maxLen/\(oa=none->cap=0)/\dH k w oa l:=by
 subst hn
 exact h.reads
theorem Ih {a b:World} {o:Obj} (h:Below a.heap.size a b):Below a.heap.size a (b.alloc o):=h.alloc h.size o
theorem ah {a b c:World} (h:Below a.heap.size a b) (k:Below b.heap.size b c):Below a.heap.size a c:=h.trans (k.mono h.size)
theorem iw.at_ {t:TypeId} {k:IntKind} {w:World} {base:Nat} {v:Value} {l:List Nat} (h:iw t k w base v l) (hn:v≠.slice none 0 0) (m:Nat) (hm:l.length=m):∃ g cap,v=.slice (some ⟨g,0,none⟩) m cap/\m<=cap/\cap<=maxLen:=by
 obtain⟨_,h1 | ⟨g,cap,_,e,_,_,h2,h3,_⟩⟩:=h
 ·exact absurd h1.1 hn
 ·exact⟨g,cap,by rw[e,hm],oZ,h3⟩
/-! ### A list that comes in -/
theorem G8 {w:World} {a:Addr} {v:Value} (h:w.cell? a=some v):∃ g o,a=⟨g,o,none⟩:=by
 obtain⟨g,o,q⟩:=a
 cases q with
 | none=>exact⟨g,o,rfl⟩
 | some q =>
  simp only[World.cell?] at h
  split at h <;> simp_all
end Go.Proofs.YtlfndoclbebdaaaGreatDoor
namespace Go.Proofs.YtlfndoclbebdaaaGreatDoor
open Go.RowKit
def pY (L:List Nat):Nat×Nat:=ou (L.getD 0 0) (L.getD 1 0) (L.getD 2 0) (L.getD 3 0)
def pq:Nat->List Nat->List Nat
 | 0,_=>[]
 | n+1,L=>if L=[] then [] else(pY L).1 :: pq n (L.drop (pY L).2)
def runesL (L:List Nat):List Nat:=pq L.length L
def lT (l:List Nat):List Nat:=l.flatMap encR
theorem nP (L:List Nat):1<=(pY L).2/\(pY L).2<=4:=Oy _ _ _ _
theorem Ic (L:List Nat) (h:L≠[]):(pY L).2<=L.length:=by
 obtain⟨h1,h2,h3⟩:=O7 (L.getD 0 0) (L.getD 1 0) (L.getD 2 0) (L.getD 3 0)
 have h4:=(nP L).2
 have h0:L.length≠0:=by simpa using h
 have g:∀ i,L.length<=i->L.getD i 0=0:=fun i hi=>by simp[List.getD_eq_getElem?_getD,List.getElem?_eq_none hi]
 change (2<=(pY L).2->_) at h1
 change (3<=(pY L).2->_) at h2
 change (4<=(pY L).2->_) at h3
 by_cases e:(pY L).2<=L.length
 ·exact e
 ·by_cases e1:L.length<=1
  ·exact absurd (g 1 e1) (h1 oZ)
  ·by_cases e2:L.length<=2
   ·exact absurd (g 2 e2) (h2 oZ)
   ·exact absurd (g 3 oZ) (h3 oZ)
theorem qV:∀ (n m:Nat) (L:List Nat),L.length<=n->L.length<=m->pq n L=pq m L
 | 0,m,L,h,_=>by
  obtain rfl:=List.eq_nil_of_length_eq_zero (show L.length=0 by omega)
  cases m <;> simp[pq]
 | n+1,0,L,_,h=>by
  obtain rfl:=List.eq_nil_of_length_eq_zero (show L.length=0 by omega)
  simp[pq]
 | n+1,m+1,L,h1,h2=>by
  unfold pq
  split
  ·rfl
  ·have:=(nP L).1
   rw[qV n m _ uZ uZ]
theorem kE:runesL []=[]:=rfl
theorem mJ {L:List Nat} (h:L≠[]):runesL L=(pY L).1 :: runesL (L.drop (pY L).2):=by
 have h1:=(nP L).1
 have h2:L.length≠0:=by simpa using h
 obtain⟨n,hn⟩:∃ n,L.length=n+1:=⟨L.length-1,oZ⟩
 unfold runesL
 rw[hn]
 conv=>lhs;unfold pq
 rw[if_neg h,qV n _ _ uZ (Nat.le_refl _)]
theorem zL {P:List Nat->Prop} (h0:P []) (h1:∀ L,L≠[]->P (L.drop (pY L).2)->P L):∀ L,P L:=by
 intro L
 generalize hn:L.length=n
 induction n using Nat.strongRecOn generalizing L with
 | _ n ih =>
  by_cases h:L=[]
  ·rw[h];exact h0
  ·have:=(nP L).1
   have h2:L.length≠0:=by simpa using h
   exact h1 L h (ih (L.drop (pY L).2).length uZ _ rfl)
theorem JZ (L:List Nat):∀ r∈runesL L,okR r:=by
 induction L using zL with
 | h0=>simp[kE]
 | h1 L h ih =>
  rw[mJ h]
  intro r hr
  rcases List.mem_cons.1 hr with rfl | hr
  ·exact I4 _ _ _ _
  ·exact ih r hr
theorem wI (L:List Nat):(runesL L).length<=L.length/\L.length<=4*(runesL L).length:=by
 induction L using zL with
 | h0=>simp[kE]
 | h1 L h ih =>
  rw[mJ h]
  have h1:=nP L
  have h2:=Ic L h
  simp only[List.length_drop,List.length_cons] at ih ⊢
  omega
theorem pJ (r:Nat):1<=(encR r).length/\(encR r).length<=4:=by
 unfold encR
 repeat' split
 all_goals simp
theorem MM {r:Nat} (h:okR r) (L:List Nat):pY (encR r++L)=(r,(encR r).length):=by
 rw[<- Nz h (L.getD 0 0) (L.getD 1 0) (L.getD 2 0)]
 unfold pY
 have key:∀ i,i<4->(encR r++L).getD i 0=(encR r++[L.getD 0 0,L.getD 1 0,L.getD 2 0]).getD i 0:=by
  intro i hi
  have h1:=pJ r
  simp only[List.getD_eq_getElem?_getD]
  by_cases e:i<(encR r).length
  ·rw[List.getElem?_append_left e,List.getElem?_append_left e]
  ·rw[List.getElem?_append_right oZ,List.getElem?_append_right oZ]
   obtain⟨j,hj⟩:∃ j,j=i-(encR r).length:=⟨_,rfl⟩
   rw[<- hj]
   have:j<3:=oZ
   match j,this with
   | 0,_=>simp
   | 1,_=>simp
   | 2,_=>simp
 rw[key 0 oZ,key 1 oZ,key 2 oZ,key 3 oZ]
theorem F6 {r:Nat} (h:okR r) (L:List Nat):runesL (encR r++L)=r :: runesL L:=by
 have h1:=pJ r
 have hne:encR r++L≠[]:=by
  intro e
  have:=congrArg List.length e
  simp only[List.length_append,List.length_nil] at this
  omega
 rw[mJ hne,MM h]
 simp
theorem Gq (l:List Nat) (h:∀ r∈l,okR r) (L:List Nat):runesL (lT l++L)=l++runesL L:=by
 induction l with
 | nil=>simp[lT]
 | cons r l ih =>
  have e:lT (r :: l)=encR r++lT l:=by simp[lT]
  rw[e,List.append_assoc,F6 (h r sZ),ih fun x hx=>h x (by simp[hx])]
  rfl
theorem CQ (w:World) (r lo hi:Int) (h:lo<=r/\r<=hi):Calls Tryz.prog 209 #[.int .i32 r,.int .i32 lo,.int .i32 hi] w fun e w'=>e=.returned (.bool true)/\w'=w:=by
 obtain⟨h1,h2⟩:=h
 go_enter Tryz.func209,Tryz.ntmps209
 go_wp2_with fail
 go_ret
 exact⟨rfl,rfl⟩
theorem wS (w:World) (r lo hi:Int) (h:¬ (lo<=r/\r<=hi)):Calls Tryz.prog 209 #[.int .i32 r,.int .i32 lo,.int .i32 hi] w fun e w'=>e=.returned (.bool false)/\w'=w:=by
 by_cases h1:lo<=r
 ·have h2:¬ r<=hi:=fun h2=>h ⟨h1,h2⟩
  clear h
  go_enter Tryz.func209,Tryz.ntmps209
  go_wp2_with fail
  go_ret
  exact⟨rfl,rfl⟩
 ·clear h
  go_enter Tryz.func209,Tryz.ntmps209
  go_wp2_with fail
  go_ret
  exact⟨rfl,rfl⟩
def AZ (w:World) (r k:Int):Prop:=Calls Tryz.prog 192 #[.int .i32 r] w fun e w'=>e=.returned (.int .i64 k)/\w'=w
def rE (w:World) (r k:Int):Prop:=Calls Tryz.prog 194 #[.int .i32 r] w fun e w'=>e=.returned (.int .i32 k)/\w'=w
theorem tC {p:Prop} (h:p:=by
 have q902:(r==902)=false:=beq_eq_false_iff_ne.2 oZ
 have q908:(r==908)=false:=beq_eq_false_iff_ne.2 oZ
 try have b215:(r != 215)=true:=bne_iff_ne.2 oZ
 try have b247:(r != 247)=true:=bne_iff_ne.2 oZ
 unfold AZ
 go_enter Tryz.func192,Tryz.ntmps192
 go_wp2_with (go_at_call 209;first | (refine(wS _ _ _ _ aZ).mono ?_;rintro _ _ ⟨rfl,rfl⟩) | (refine(CQ _ _ _ _ oZ).mono ?_;rintro _ _ ⟨rfl,rfl⟩) | (refine(wS _ _ _ _ oZ).mono ?_;rintro _ _ ⟨rfl,rfl⟩))
 go_ret
 exact⟨rfl,rfl⟩):p:=h
theorem QQ {p:Prop} (h:p:=by
 unfold AZ
 go_enter Tryz.func192,Tryz.ntmps192
 go_wp2_with (go_at_call 209;first | (refine(wS _ _ _ _ aZ).mono ?_;rintro _ _ ⟨rfl,rfl⟩) | (refine(CQ _ _ _ _ oZ).mono ?_;rintro _ _ ⟨rfl,rfl⟩) | (refine(wS _ _ _ _ oZ).mono ?_;rintro _ _ ⟨rfl,rfl⟩))
 go_ret
 exact⟨rfl,rfl⟩):p:=h
theorem tF {p:Prop} (h:p:=by
 have q376:(r==376)=false:=beq_eq_false_iff_ne.2 oZ
 have q383:(r==383)=false:=beq_eq_false_iff_ne.2 oZ
 have q902:(r==902)=false:=beq_eq_false_iff_ne.2 oZ
 have q908:(r==908)=false:=beq_eq_false_iff_ne.2 oZ
 have q962:(r==962)=false:=beq_eq_false_iff_ne.2 oZ
 try have b215:(r != 215)=true:=bne_iff_ne.2 oZ
 try have b930:(r != 930)=true:=bne_iff_ne.2 oZ
 unfold rE
 go_enter Tryz.func194,Tryz.ntmps194
 go_wp2_with (go_at_call 209;first | (refine(wS _ _ _ _ aZ).mono ?_;rintro _ _ ⟨rfl,rfl⟩) | (refine(CQ _ _ _ _ oZ).mono ?_;rintro _ _ ⟨rfl,rfl⟩) | (refine(wS _ _ _ _ oZ).mono ?_;rintro _ _ ⟨rfl,rfl⟩))
 go_ret
 exact⟨rfl,rfl⟩):p:=h
theorem Qe {p:Prop} (h:p:=by
 unfold rE
 go_enter Tryz.func194,Tryz.ntmps194
 go_wp2_with (go_at_call 209;first | (refine(wS _ _ _ _ aZ).mono ?_;rintro _ _ ⟨rfl,rfl⟩) | (refine(CQ _ _ _ _ oZ).mono ?_;rintro _ _ ⟨rfl,rfl⟩) | (refine(wS _ _ _ _ oZ).mono ?_;rintro _ _ ⟨rfl,rfl⟩))
 go_ret
 exact⟨rfl,rfl⟩):p:=h
theorem OG (w:World) (r:Int) (h:48<=r/\r<=57):AZ w r 2:=by
 obtain⟨h1,h2⟩:=h
 exact tC
theorem Jg (w:World) (r:Int) (h:1632<=r/\r<=1641):AZ w r 2:=by
 obtain⟨h1,h2⟩:=h
 exact tC
theorem Pg (w:World) (r:Int) (h:65<=r/\r<=90):AZ w r 1:=by
 obtain⟨h1,h2⟩:=h
 exact tC
theorem OU (w:World) (r:Int) (h:97<=r/\r<=122):AZ w r 1:=by
 obtain⟨h1,h2⟩:=h
 exact tC
theorem LV (w:World) (r:Int) (h1:192<=r) (h2:r<=591) (h3:r≠215) (h4:r≠247):AZ w r 1:=by
 exact tC
theorem NQ (w:World) (r:Int) (h:r=215):AZ w r 0:=by
 subst h
 exact QQ
theorem NS (w:World) (r:Int) (h:r=247):AZ w r 0:=by
 subst h
 exact QQ
theorem NP (w:World) (r:Int) (h:r=902):AZ w r 1:=by
 subst h
 exact QQ
theorem NW (w:World) (r:Int) (h:904<=r/\r<=906):AZ w r 1:=by
 obtain⟨h1,h2⟩:=h
 exact tC
theorem Oi (w:World) (r:Int) (h:r=908):AZ w r 1:=by
 subst h
 exact QQ
theorem MC (w:World) (r:Int) (h:910<=r/\r<=929):AZ w r 1:=by
 obtain⟨h1,h2⟩:=h
 exact tC
theorem NF (w:World) (r:Int) (h:931<=r/\r<=974):AZ w r 1:=by
 obtain⟨h1,h2⟩:=h
 exact tC
theorem Jj (w:World) (r:Int) (h:1024<=r/\r<=1153):AZ w r 1:=by
 obtain⟨h1,h2⟩:=h
 exact tC
theorem KU (w:World) (r:Int) (h:1162<=r/\r<=1327):AZ w r 1:=by
 obtain⟨h1,h2⟩:=h
 exact tC
theorem I9 (w:World) (r:Int) (h:1488<=r/\r<=1514):AZ w r 1:=by
 obtain⟨h1,h2⟩:=h
 exact tC
theorem Gi (w:World) (r:Int) (h:19968<=r/\r<=40959):AZ w r 1:=by
 obtain⟨h1,h2⟩:=h
 exact tC
theorem Gt (w:World) (r:Int) (h:44032<=r/\r<=55203):AZ w r 1:=by
 obtain⟨h1,h2⟩:=h
 exact tC
theorem JS (w:World) (r:Int) (n48:¬ (48<=r/\r<=57)) (n1632:¬ (1632<=r/\r<=1641)) (n65:¬ (65<=r/\r<=90)) (n97:¬ (97<=r/\r<=122)) (n192:¬ (192<=r/\r<=591)) (n902:r≠902) (n904:¬ (904<=r/\r<=906)) (n908:r≠908) (n910:¬ (910<=r/\r<=929)) (n931:¬ (931<=r/\r<=974)) (n1024:¬ (1024<=r/\r<=1153)) (n1162:¬ (1162<=r/\r<=1327)) (n1488:¬ (1488<=r/\r<=1514)) (n19968:¬ (19968<=r/\r<=40959)) (n44032:¬ (44032<=r/\r<=55203)):AZ w r 0:=by
 exact tC
theorem J6 (w:World) (r:Int):Calls Tryz.prog 192 #[.int .i32 r] w fun e w'=>e=.returned (.int .i64 (dF r))/\w'=w:=by
 have two:lG r->dF r=2:=fun h=>by unfold dF;rw[if_pos h]
 have one:¬ lG r->jX r->dF r=1:=fun h k=>by unfold dF;rw[if_neg h,if_pos k]
 have zero:¬ lG r->¬ jX r->dF r=0:=fun h k=>by unfold dF;rw[if_neg h,if_neg k]
 unfold lG jX at *
 by_cases n48:48<=r/\r<=57
 ·rw[two oZ];exact OG w r n48
 by_cases n1632:1632<=r/\r<=1641
 ·rw[two oZ];exact Jg w r n1632
 by_cases n65:65<=r/\r<=90
 ·rw[one oZ oZ];exact Pg w r n65
 by_cases n97:97<=r/\r<=122
 ·rw[one oZ oZ];exact OU w r n97
 by_cases n192:192<=r/\r<=591
 ·clear n48 n1632 n65 n97
  by_cases e1:r=215
  ·rw[zero oZ oZ];exact NQ w r e1
  by_cases e2:r=247
  ·rw[zero oZ oZ];exact NS w r e2
  rw[one oZ oZ];exact LV w r n192.1 n192.2 e1 e2
 by_cases n902:r=902
 ·rw[one oZ oZ];exact NP w r n902
 by_cases n904:904<=r/\r<=906
 ·rw[one oZ oZ];exact NW w r n904
 by_cases n908:r=908
 ·rw[one oZ oZ];exact Oi w r n908
 by_cases n910:910<=r/\r<=929
 ·rw[one oZ oZ];exact MC w r n910
 by_cases n931:931<=r/\r<=974
 ·rw[one oZ oZ];exact NF w r n931
 by_cases n1024:1024<=r/\r<=1153
 ·rw[one oZ oZ];exact Jj w r n1024
 by_cases n1162:1162<=r/\r<=1327
 ·rw[one oZ oZ];exact KU w r n1162
 by_cases n1488:1488<=r/\r<=1514
 ·rw[one oZ oZ];exact I9 w r n1488
 by_cases n19968:19968<=r/\r<=40959
 ·rw[one oZ oZ];exact Gi w r n19968
 by_cases n44032:44032<=r/\r<=55203
 ·rw[one oZ oZ];exact Gt w r n44032
 rw[zero oZ oZ]
 exact JS w r n48 n1632 n65 n97 n192 n902 n904 n908 n910 n931 n1024 n1162 n1488 n19968 n44032
theorem O3 (w:World) (r:Int) (h:65<=r/\r<=90):rE w r (r+32):=by
 obtain⟨h1,h2⟩:=h
 exact tF
theorem Mc (w:World) (r:Int) (h1:192<=r) (h2:r<=222) (h3:r≠215):rE w r (r+32):=by
 exact tF
theorem LX (w:World) (r:Int) (h:r=215):rE w r (r):=by
 subst h
 exact Qe
theorem Oc (w:World) (r:Int) (h1:913<=r) (h2:r<=939) (h3:r≠930):rE w r (r+32):=by
 exact tF
theorem MH (w:World) (r:Int) (h:r=930):rE w r (r):=by
 subst h
 exact Qe
theorem Ky (w:World) (r:Int) (h:1040<=r/\r<=1071):rE w r (r+32):=by
 obtain⟨h1,h2⟩:=h
 exact tF
theorem Gy (w:World) (r:Int) (h1:256<=r) (h2:r<=311) (hm:r % 2=0):rE w r (r+1):=by
 have m0:(r % 2==0)=true:=by simp;omega
 have m1:(r % 2==1)=false:=by simp;omega
 exact tF
theorem Gg (w:World) (r:Int) (h1:256<=r) (h2:r<=311) (hm:r % 2=1):rE w r (r):=by
 have m0:(r % 2==0)=false:=by simp;omega
 have m1:(r % 2==1)=true:=by simp;omega
 exact tF
theorem G9 (w:World) (r:Int) (h1:330<=r) (h2:r<=375) (hm:r % 2=0):rE w r (r+1):=by
 have m0:(r % 2==0)=true:=by simp;omega
 have m1:(r % 2==1)=false:=by simp;omega
 exact tF
theorem GM (w:World) (r:Int) (h1:330<=r) (h2:r<=375) (hm:r % 2=1):rE w r (r):=by
 have m0:(r % 2==0)=false:=by simp;omega
 have m1:(r % 2==1)=true:=by simp;omega
 exact tF
theorem ET (w:World) (r:Int) (h1:1120<=r) (h2:r<=1153) (hm:r % 2=0):rE w r (r+1):=by
 have m0:(r % 2==0)=true:=by simp;omega
 have m1:(r % 2==1)=false:=by simp;omega
 exact tF
theorem E5 (w:World) (r:Int) (h1:1120<=r) (h2:r<=1153) (hm:r % 2=1):rE w r (r):=by
 have m0:(r % 2==0)=false:=by simp;omega
 have m1:(r % 2==1)=true:=by simp;omega
 exact tF
theorem EY (w:World) (r:Int) (h1:1162<=r) (h2:r<=1215) (hm:r % 2=0):rE w r (r+1):=by
 have m0:(r % 2==0)=true:=by simp;omega
 have m1:(r % 2==1)=false:=by simp;omega
 exact tF
theorem Fq (w:World) (r:Int) (h1:1162<=r) (h2:r<=1215) (hm:r % 2=1):rE w r (r):=by
 have m0:(r % 2==0)=false:=by simp;omega
 have m1:(r % 2==1)=true:=by simp;omega
 exact tF
theorem Em (w:World) (r:Int) (h1:1232<=r) (h2:r<=1327) (hm:r % 2=0):rE w r (r+1):=by
 have m0:(r % 2==0)=true:=by simp;omega
 have m1:(r % 2==1)=false:=by simp;omega
 exact tF
theorem Fg (w:World) (r:Int) (h1:1232<=r) (h2:r<=1327) (hm:r % 2=1):rE w r (r):=by
 have m0:(r % 2==0)=false:=by simp;omega
 have m1:(r % 2==1)=true:=by simp;omega
 exact tF
theorem Gs (w:World) (r:Int) (h1:313<=r) (h2:r<=328) (hm:r % 2=0):rE w r (r):=by
 have m0:(r % 2==0)=true:=by simp;omega
 have m1:(r % 2==1)=false:=by simp;omega
 exact tF
theorem GV (w:World) (r:Int) (h1:313<=r) (h2:r<=328) (hm:r % 2=1):rE w r (r+1):=by
 have m0:(r % 2==0)=false:=by simp;omega
 have m1:(r % 2==1)=true:=by simp;omega
 exact tF
theorem Ho (w:World) (r:Int) (h1:377<=r) (h2:r<=382) (hm:r % 2=0):rE w r (r):=by
 have m0:(r % 2==0)=true:=by simp;omega
 have m1:(r % 2==1)=false:=by simp;omega
 exact tF
theorem GY (w:World) (r:Int) (h1:377<=r) (h2:r<=382) (hm:r % 2=1):rE w r (r+1):=by
 have m0:(r % 2==0)=false:=by simp;omega
 have m1:(r % 2==1)=true:=by simp;omega
 exact tF
theorem Ov (w:World) (r:Int) (h:r=376):rE w r (255):=by
 subst h
 exact Qe
theorem NJ (w:World) (r:Int) (h:r=383):rE w r (115):=by
 subst h
 exact Qe
theorem Oe (w:World) (r:Int) (h:r=902):rE w r (940):=by
 subst h
 exact Qe
theorem Lj (w:World) (r:Int) (h:r=908):rE w r (972):=by
 subst h
 exact Qe
theorem LY (w:World) (r:Int) (h:r=962):rE w r (963):=by
 subst h
 exact Qe
theorem NY (w:World) (r:Int) (h:904<=r/\r<=906):rE w r (r+37):=by
 obtain⟨h1,h2⟩:=h
 exact tF
theorem MP (w:World) (r:Int) (h:910<=r/\r<=911):rE w r (r+63):=by
 obtain⟨h1,h2⟩:=h
 exact tF
theorem Jv (w:World) (r:Int) (h:1024<=r/\r<=1039):rE w r (r+80):=by
 obtain⟨h1,h2⟩:=h
 exact tF
theorem Jf (w:World) (r:Int) (h:1632<=r/\r<=1641):rE w r (r-1584):=by
 obtain⟨h1,h2⟩:=h
 exact tF
theorem JK (w:World) (r:Int) (n65:¬ (65<=r/\r<=90)) (n192:¬ (192<=r/\r<=222)) (n913:¬ (913<=r/\r<=939)) (n1040:¬ (1040<=r/\r<=1071)) (n256:¬ (256<=r/\r<=311)) (n330:¬ (330<=r/\r<=375)) (n1120:¬ (1120<=r/\r<=1153)) (n1162:¬ (1162<=r/\r<=1215)) (n1232:¬ (1232<=r/\r<=1327)) (n313:¬ (313<=r/\r<=328)) (n377:¬ (377<=r/\r<=382)) (n376:r≠376) (n383:r≠383) (n902:r≠902) (n908:r≠908) (n962:r≠962) (n904:¬ (904<=r/\r<=906)) (n910:¬ (910<=r/\r<=911)) (n1024:¬ (1024<=r/\r<=1039)) (n1632:¬ (1632<=r/\r<=1641)):rE w r (r):=by
 exact tF
theorem NM (w:World) (r:Int):Calls Tryz.prog 194 #[.int .i32 r] w fun e w'=>e=.returned (.int .i32 (ik r))/\w'=w:=by
 have up:PV r->ik r=r+32:=fun h=>by unfold ik;rw[if_pos h]
 have ne:¬ PV r->((yw r/\r % 2=0)∨(FQ r/\r % 2=1))->ik r=r+1:=fun h k=>by unfold ik;rw[if_neg h,if_pos k]
 have el:∀ x,¬ PV r->¬ ((yw r/\r % 2=0)∨(FQ r/\r % 2=1))->(if r=376 then(255:Int) else if r=383 then 115 else if r=902 then 940 else if r=908 then 972 else if r=962 then 963
  else if 904<=r/\r<=906 then r+37 else if 910<=r/\r<=911 then r+63 else if 1024<=r/\r<=1039 then r+80 else if 1632<=r/\r<=1641 then r-1584 else r)=x->ik r=x:=fun x h k hx=>by unfold ik;rw[if_neg h,if_neg k];exact hx
 unfold PV yw FQ at *
 by_cases n65:65<=r/\r<=90
 ·rw[up oZ];exact O3 w r n65
 by_cases n192:192<=r/\r<=222
 ·clear n65
  by_cases e1:r=215
  ·rw[el r oZ oZ rZ];exact LX w r e1
  rw[up oZ];exact Mc w r n192.1 n192.2 e1
 by_cases n913:913<=r/\r<=939
 ·clear n65 n192
  by_cases e1:r=930
  ·rw[el r oZ oZ rZ];exact MH w r e1
  rw[up oZ];exact Oc w r n913.1 n913.2 e1
 by_cases n1040:1040<=r/\r<=1071
 ·rw[up oZ];exact Ky w r n1040
 by_cases n256:256<=r/\r<=311
 ·clear n65 n192 n913 n1040 
  by_cases hm:r % 2=0
  ·rw[ne oZ oZ];exact Gy w r n256.1 n256.2 hm
  ·rw[el r oZ oZ rZ];exact Gg w r n256.1 n256.2 oZ
 by_cases n330:330<=r/\r<=375
 ·clear n65 n192 n913 n1040 n256
  by_cases hm:r % 2=0
  ·rw[ne oZ oZ];exact G9 w r n330.1 n330.2 hm
  ·rw[el r oZ oZ rZ];exact GM w r n330.1 n330.2 oZ
 by_cases n1120:1120<=r/\r<=1153
 ·clear n65 n192 n913 n1040 n256 n330
  by_cases hm:r % 2=0
  ·rw[ne oZ oZ];exact ET w r n1120.1 n1120.2 hm
  ·rw[el r oZ oZ rZ];exact E5 w r n1120.1 n1120.2 oZ
 by_cases n1162:1162<=r/\r<=1215
 ·clear n65 n192 n913 n1040 n256 n330 n1120
  by_cases hm:r % 2=0
  ·rw[ne oZ oZ];exact EY w r n1162.1 n1162.2 hm
  ·rw[el r oZ oZ rZ];exact Fq w r n1162.1 n1162.2 oZ
 by_cases n1232:1232<=r/\r<=1327
 ·clear n65 n192 n913 n1040 n256 n330 n1120 n1162
  by_cases hm:r % 2=0
  ·rw[ne oZ oZ];exact Em w r n1232.1 n1232.2 hm
  ·rw[el r oZ oZ rZ];exact Fg w r n1232.1 n1232.2 oZ
 by_cases n313:313<=r/\r<=328
 ·clear n65 n192 n913 n1040 n256 n330 n1120 n1162 n1232
  by_cases hm:r % 2=0
  ·rw[el r oZ oZ rZ];exact Gs w r n313.1 n313.2 hm
  ·rw[ne oZ oZ];exact GV w r n313.1 n313.2 oZ
 by_cases n377:377<=r/\r<=382
 ·clear n65 n192 n913 n1040 n256 n330 n1120 n1162 n1232 n313
  by_cases hm:r % 2=0
  ·rw[el r oZ oZ rZ];exact Ho w r n377.1 n377.2 hm
  ·rw[ne oZ oZ];exact GY w r n377.1 n377.2 oZ
 by_cases n376:r=376
 ·clear n65 n192 n913 n1040 n256 n330 n1120 n1162 n1232 n313 n377
  clear up
  rw[el 255 oZ oZ rZ];exact Ov w r n376
 by_cases n383:r=383
 ·clear n65 n192 n913 n1040 n256 n330 n1120 n1162 n1232 n313 n377
  clear  n376
  rw[el 115 oZ oZ rZ];exact NJ w r n383
 by_cases n902:r=902
 ·clear n65 n192 n913 n1040 n256 n330 n1120 n1162 n1232 n313 n377
  clear  n376 n383
  rw[el 940 oZ oZ rZ];exact Oe w r n902
 by_cases n908:r=908
 ·clear n65 n192 n913 n1040 n256 n330 n1120 n1162 n1232 n313 n377
  clear  n376 n383 n902
  rw[el 972 oZ oZ rZ];exact Lj w r n908
 by_cases n962:r=962
 ·clear n65 n192 n913 n1040 n256 n330 n1120 n1162 n1232 n313 n377
  clear  n376 n383 n902 n908
  rw[el 963 oZ oZ rZ];exact LY w r n962
 by_cases n904:904<=r/\r<=906
 ·clear n65 n192 n913 n1040 n256 n330 n1120 n1162 n1232 n313 n377
  clear  n376 n383 n902 n908 n962
  rw[el (r+37) oZ oZ rZ];exact NY w r n904
 by_cases n910:910<=r/\r<=911
 ·clear n65 n192 n913 n1040 n256 n330 n1120 n1162 n1232 n313 n377
  clear  n376 n383 n902 n908 n962 n904
  rw[el (r+63) oZ oZ rZ];exact MP w r n910
 by_cases n1024:1024<=r/\r<=1039
 ·clear n65 n192 n913 n1040 n256 n330 n1120 n1162 n1232 n313 n377
  clear  n376 n383 n902 n908 n962 n904 n910
  rw[el (r+80) oZ oZ rZ];exact Jv w r n1024
 by_cases n1632:1632<=r/\r<=1641
 ·clear n65 n192 n913 n1040 n256 n330 n1120 n1162 n1232 n313 n377
  clear  n376 n383 n902 n908 n962 n904 n910 n1024
  rw[el (r-1584) oZ oZ rZ];exact Jf w r n1632
 have k1:¬ ((65<=r/\r<=90)∨(192<=r/\r<=222/\r≠215)∨(913<=r/\r<=939/\r≠930)∨(1040<=r/\r<=1071)):=by
  rintro(h | h | h | h)
  ·exact n65 h
  ·exact n192 ⟨h.1,h.2.1⟩
  ·exact n913 ⟨h.1,h.2.1⟩
  ·exact n1040 h
 have k2:¬ ((((256<=r/\r<=311)∨(330<=r/\r<=375)∨(1120<=r/\r<=1153)∨(1162<=r/\r<=1215)∨(1232<=r/\r<=1327))/\r % 2=0)∨(((313<=r/\r<=328)∨(377<=r/\r<=382))/\r % 2=1)):=by
  rintro(⟨h | h | h | h | h,_⟩ | ⟨h | h,_⟩)
  ·exact n256 h
  ·exact n330 h
  ·exact n1120 h
  ·exact n1162 h
  ·exact n1232 h
  ·exact n313 h
  ·exact n377 h
 rw[el r k1 k2 (by rw[if_neg n376,if_neg n383,if_neg n902,if_neg n908,if_neg n962,if_neg n904,if_neg n910,if_neg n1024,if_neg n1632])]
 exact JK w r n65 n192 n913 n1040 n256 n330 n1120 n1162 n1232 n313 n377 n376 n383 n902 n908 n962 n904 n910 n1024 n1632
/-! ### Rows in memory -/
abbrev Sn:=Int×Int×Int
end Go.Proofs.YtlfndoclbebdaaaGreatDoor
namespace Go.Proofs.YtlfndoclbebdaaaGreatDoor
open Go.ChangeShapes Go.WideShapes Go.ChangeAt Go.RowKit Go.Deep
def iY (w:World) (oa:Option Addr) (F:List ByteArray):Prop:=∀ (j:Nat) (x:ByteArray),F[j]?=some x->∃ g o:Nat,oa=some ⟨g,o,none⟩/\w.cell? ⟨g,o+j,none⟩=some (.string x)
theorem iY.below {w w':World} {oa:Option Addr} {F:List ByteArray} (h:iY w oa F) (hb:Below w.heap.size w w'):iY w' oa F:=fun j x hj=>by
 obtain⟨g,o,h0,h1⟩:=h j x hj
 exact⟨g,o,h0,aC h1 hb⟩
end Go.Proofs.YtlfndoclbebdaaaGreatDoor
namespace Go.Proofs.YtlfndoclbebdaaaGreatDoor
open Go.RowKit
section
variable {P:Program}
theorem zI (w:World) (g o:Nat) (t ty:TypeId) (cur cs:Array Value) (fr:Nat×Nat) (d:TypeDesc) (hg:w.heap[g]?=some (.cells cur t fr)) (hp:∀ (j:Nat) (v:Value),cs.toList[j]?=some v->cur[o+j]?=some v)
  (hu:P.underlying ty=some d) (hd:(match d with | .struct _ | .array _ _=>true | _=>false)=true) (hi:(P.info? ty).map (·.size)=some cs.size) :
  (loadVar ty ⟨g,o,none⟩).run P w=.ok (.agg cs) w:=by
 have hl:(loadCells ⟨g,o,none⟩ cs.toList.length).run P w=.ok cs.toList.toArray w :=
  run_loadCells_list (P:=P) w ⟨g,o,none⟩ cs.toList (fun j v hv=>by
   rw[Addr.add_lit,cell_of_row w g (o+j) cur t fr hg]
   exact hp j v hv)
 cases hq:P.info? ty with
 | none=>simp[hq] at hi
 | some i =>
  have hs:i.size=cs.size:=by simpa [hq] using hi
  have hagg:(isAgg ty).run P w=.ok true w:=by
   unfold isAgg
   rw[Sem.run_bind,run_underlying hu w]
   cases d <;> simp_all
  simp only[Array.length_toList,Array.toArray_toList] at hl
  simp[loadVar,Sem.run_bind,hagg,sizeOf,typeInfo,hq,hs,hl]
theorem aW {o:Oper} {a:Act} {w:World} {K:Act->World->Prop} {Q:Exit->Act->World->Prop} (ty:TypeId) (x:Operand) (ho:o.op=.load ty x)
  (g f:Nat) (hx:a.eval x=.pointer (some ⟨g,f,none⟩)) (t:TypeId) (cur cs:Array Value) (fr:Nat×Nat) (d:TypeDesc) (hg:w.heap[g]?=some (.cells cur t fr)) (hp:∀ (j:Nat) (v:Value),cs.toList[j]?=some v->cur[f+j]?=some v)
  (hu:P.underlying ty=some d) (hd:(match d with | .struct _ | .array _ _=>true | _=>false)=true) (hi:(P.info? ty).map (·.size)=some cs.size)
  (h:K (a.put o.dst (.agg cs)) w):o.wp P a w K Q:=by
 unfold Oper.wp execOp
 simp only[ho,hx,Instr.loadAt,Instr.sureAddr,Sem.run_bind,Sem.run_pure,Result.andThen_ok,zI w g f t ty cur cs fr d hg hp hu hd hi]
 exact h
theorem dU {ops:Array Oper} {rest:List Oper} {o:Oper} {a:Act} {w:World} {Q:Exit->Act->World->Prop} (hgd:o.guard=none) (ty:TypeId) (x:Operand) (ho:o.op=.load ty x)
  (g f:Nat) (hx:a.eval x=.pointer (some ⟨g,f,none⟩)) (t:TypeId) (cur cs:Array Value) (fr:Nat×Nat) (d:TypeDesc) (hg:w.heap[g]?=some (.cells cur t fr)) (hp:∀ (j:Nat) (v:Value),cs.toList[j]?=some v->cur[f+j]?=some v)
  (hu:P.underlying ty=some d) (hd:(match d with | .struct _ | .array _ _=>true | _=>false)=true) (hi:(P.info? ty).map (·.size)=some cs.size)
  (h:wpList P ops Q rest (a.put o.dst (.agg cs)) w):wpList P ops Q (o :: rest) a w :=
 wpList_plain hgd fun _ hK=>aW ty x ho g f hx t cur cs fr d hg hp hu hd hi (hK _ _ h)
theorem zl (w:World) (g o:Nat) (t ty:TypeId) (cur cells new:Array Value) (hg:w.heap[g]?=some (.cells cur t (0,0))) (hl:o+cells.size<=cur.size) (hi:(P.info? ty).map (·.size)=some cells.size) (h1:cells.all (·.oneCell')=true)
  (hn:cur.toList.take o++cells.toList++cur.toList.drop (o+cells.size)=new.toList) :
  (storeVar ty ⟨g,o,none⟩ (.agg cells)).run P w=.ok () (w.setRow g new):=by
 have h:=run_storeCells_at P g o t cells.toList 0 cur w hg uZ (fun v hv=>(Array.all_eq_true_iff_forall_mem.1 h1) v (by simpa using hv))
 rw[Nat.add_zero,Array.length_toList,hn,Array.toArray_toList] at h
 cases hq:P.info? ty with
 | none=>simp[hq] at hi
 | some i =>
  have hs:cells.size=i.size:=by simp[hq] at hi;omega
  simp[storeVar,sizeOf,typeInfo,hq,Value.cells,hs,h]
theorem kN {o:Oper} {a:Act} {w:World} {K:Act->World->Prop} {Q:Exit->Act->World->Prop} (ty:TypeId) (x y:Operand) (ho:o.op=.store ty x y)
  (g f:Nat) (cells:Array Value) (hx:a.eval x=.pointer (some ⟨g,f,none⟩)) (hy:a.eval y=.agg cells)
  (t:TypeId) (cur new:Array Value) (hg:w.heap[g]?=some (.cells cur t (0,0))) (hl:f+cells.size<=cur.size) (hi:(P.info? ty).map (·.size)=some cells.size) (h1:cells.all (·.oneCell')=true)
  (hn:cur.toList.take f++cells.toList++cur.toList.drop (f+cells.size)=new.toList)
  (h:K (a.put o.dst undef) (w.setRow g new)):o.wp P a w K Q:=by
 unfold Oper.wp execOp
 simp only[ho,hx,hy,Instr.storeAt,Instr.sureAddr,Sem.run_bind,Sem.run_pure,Result.andThen_ok,zl w g f t ty cur cells new hg hl hi h1 hn]
 exact h
theorem di {ops:Array Oper} {rest:List Oper} {o:Oper} {a:Act} {w:World} {Q:Exit->Act->World->Prop} (hgd:o.guard=none) (ty:TypeId) (x y:Operand) (ho:o.op=.store ty x y)
  (g f:Nat) (cells:Array Value) (hx:a.eval x=.pointer (some ⟨g,f,none⟩)) (hy:a.eval y=.agg cells)
  (t:TypeId) (cur new:Array Value) (hg:w.heap[g]?=some (.cells cur t (0,0))) (hl:f+cells.size<=cur.size) (hi:(P.info? ty).map (·.size)=some cells.size) (h1:cells.all (·.oneCell')=true)
  (hn:cur.toList.take f++cells.toList++cur.toList.drop (f+cells.size)=new.toList)
  (h:wpList P ops Q rest (a.put o.dst undef) (w.setRow g new)):wpList P ops Q (o :: rest) a w :=
 wpList_plain hgd fun _ hK=>kN ty x y ho g f cells hx hy t cur new hg hl hi h1 hn (hK _ _ h)
end
section
variable {P:Program} {ops:Array Oper}
theorem DC:oN ops (fun _=>false):=fun _ _ _ h=>by cases h
theorem Gm {l:Nat->Bool} (h:oN ops l) {i:Nat} {o:Oper} (ho:ops[i]?=some o) (he:∀ e∈o.after,Region.binds .any e=true->l e.on=true):oN ops (fun j=>j==i||l j):=by
 intro j o' hj hl e hm hb
 by_cases hji:j=i
 ·subst hji
  rw[ho] at hj
  cases hj
  simp[he e hm hb]
 ·have:l j=true:=by simpa [hji] using hl
  simp[h j o' hj this e hm hb]
end
theorem aJ {P:Program} {ops:Array Oper} {σ:Type} {id:Nat} {a0:Act} {w:World} {Q:Exit->Act->World->Prop} (V:σ->Nat->Value) (R:σ->(Nat->Bool)->World->Prop) {aT:σ->Act}
  (hm:P.follows .mixedOrders=true) (hB:IJ ops a0.tmps.size=true) (hT:∀ s,rD ops (V s) a0 ops.size=aT s) (s0:σ) (h0:R s0 (fun _=>false) w.drew)
  (step:∀ (i:Nat) (o:Oper),ops[i]?=some o->∀ (s:σ) (l:Nat->Bool) (wx:World),R s l wx->l i=false->(∀ e∈o.after,Region.binds .any e=true->l e.on=true)->oN ops l ->
   ∀ K:Act->World->Prop,(∀ (s':σ) (w':World),(∀ j,l j=true->V s' j=V s j)->R s' (fun j=>j==i||l j) w'->K ((aT s).put o.dst (V s' i)) w') ->
    if Region.wanted o (yielded ops (aT s).tmps) then o.wp P (aT s) wx K NoWay else K ((aT s).put o.dst undef) wx)
  (fin:∀ (s:σ) (l:Nat->Bool) (wx:World),(∀ j,j<ops.size->l j=true)->R s l wx->Q .normal (aT s) wx):(Code.region id ops true).wp P Q a0 w :=
 aU V (fun s l wx=>R s l wx/\oN ops l) hm hB hT s0 ⟨h0,DC⟩
  (fun i o ho s l wx hR hl he K hK=>step i o ho s l wx hR.1 hl he hR.2 K (fun s' w' hV hR'=>hK s' w' hV ⟨hR',Gm hR.2 ho he⟩))
  (fun s l wx hall hR=>fin s l wx hall hR.1)
def jA:List (Int×Int×Int):=[(48,57,2),(65,90,1),(97,122,1),(192,214,1),(216,246,1),(248,591,1),(902,902,1),(904,906,1),(908,908,1),(910,929,1),(931,974,1),(1024,1153,1),(1162,1327,1),(1488,1514,1),(1632,1641,2),(19968,40959,1),(44032,55203,1)]
def iW:List (Int×Int×Int×Int):=[(65,90,1,32),(192,214,1,32),(216,222,1,32),(256,311,2,1),(313,328,2,1),(330,375,2,1),(376,376,1,-121),(377,382,2,1),(383,383,1,-268),(902,902,1,38),(904,906,1,37),(908,908,1,64),(910,911,1,63),(913,929,1,32),(931,939,1,32),(962,962,1,1),(1024,1039,1,80),(1040,1071,1,32),(1120,1153,2,1),(1162,1215,2,1),(1232,1327,2,1),(1632,1641,1,-1584)]
def Ba:Array Value:=(jA.flatMap fun e=>[Value.int .i32 e.1,.int .i32 e.2.1,.int .i64 e.2.2]).toArray
def xI:Array Value:=(iW.flatMap fun e=>[Value.int .i32 e.1,.int .i32 e.2.1,.int .i32 e.2.2.1,.int .i32 e.2.2.2]).toArray
def fP (r:Int):List (Int×Int×Int)->Int
 | []=>0
 | e :: es=>if r<e.1 then 0 else if r<=e.2.1 then e.2.2 else fP r es
def iH (r:Int):List (Int×Int×Int×Int)->Int
 | []=>r
 | e :: es=>if r<e.1 then r else if r<=e.2.1/\(r-e.1) % e.2.2.1=0 then r+e.2.2.2 else iH r es
theorem uy {r:Int}:∀ es:List (Int×Int×Int×Int),(∀ e∈es,e.2.1<r)->iH r es=r
 | [],_=>rfl
 | e :: es,h=>by
  unfold iH
  have:=h e sZ
  split
  ·rfl
  ·rw[if_neg oZ,uy es fun x hx=>h x (by simp[hx])]
theorem yU:∀ n:Nat,n<1642->iH ((n:Nat):Int) iW=ik ((n:Nat):Int):=by decide +kernel
theorem KL (r:Int):iH r iW=ik r:=by
 by_cases h:r<0
 ·rw[qi (.inl h)]
  show (if r<65 then r else _)=r
  rw[if_pos oZ]
 by_cases h2:1641<r
 ·rw[qi (.inr h2)]
  refine uy _ fun e he=>?_
  have:∀ e∈iW,e.2.1<=1641:=by decide +kernel
  have:=this e he
  omega
 obtain⟨n,rfl⟩:=Int.eq_ofNat_of_zero_le (by omega:0<=r)
 exact yU n oZ
theorem xB:∀ n:Nat,n<1642->fP ((n:Nat):Int) jA=dF ((n:Nat):Int):=by decide +kernel
theorem pM {r:Int}:∀ (es fs:List (Int×Int×Int)),(∀ e∈es,e.1<=e.2.1/\e.2.1<r)->fP r (es++fs)=fP r fs
 | [],_,_=>rfl
 | e :: es,fs,h=>by
  have:=h e sZ
  rw[List.cons_append]
  show (if r<e.1 then 0 else if r<=e.2.1 then e.2.2 else fP r (es++fs))=_
  rw[if_neg oZ,if_neg oZ,pM es fs fun x hx=>h x (by simp[hx])]
theorem FZ (r:Int):fP r jA=dF r:=by
 by_cases h:r<0
 ·have hd:¬ lG r:=by unfold lG;omega
  have hl:¬ jX r:=by unfold jX;omega
  unfold dF
  rw[if_neg hd,if_neg hl]
  show (if r<48 then 0 else _)=(0:Int)
  rw[if_pos oZ]
 by_cases h2:1641<r
 ·have hs:jA=jA.take 15++[(19968,40959,1),(44032,55203,1)]:=by decide +kernel
  rw[hs,pM]
  ·have hd:¬ lG r:=by unfold lG;omega
   have hl:jX r↔(19968<=r/\r<=40959)∨(44032<=r/\r<=55203):=by unfold jX;omega
   unfold dF
   rw[if_neg hd]
   show (if r<19968 then 0 else if r<=40959 then 1 else if r<44032 then 0 else if r<=55203 then 1 else(0:Int))=_
   by_cases hz:jX r
   ·rw[if_pos hz]
    have:=hl.1 hz
    clear hl hz hd
    repeat' split
    all_goals omega
   ·rw[if_neg hz]
    have:¬ ((19968<=r/\r<=40959)∨(44032<=r/\r<=55203)):=fun h=>hz (hl.2 h)
    clear hl hz hd
    repeat' split
    all_goals omega
  ·have:∀ e∈jA.take 15,e.1<=e.2.1/\e.2.1<=1641:=by decide +kernel
   intro e he
   have:=this e he
   omega
 obtain⟨n,rfl⟩:=Int.eq_ofNat_of_zero_le (by omega:0<=r)
 exact xB n oZ
/-! ### The rows, by their places -/
theorem Ji (i:Nat) (hi:i<17):∃ lo hi2 c:Int,jA.drop i=(lo,hi2,c) :: jA.drop (i+1)/\48<=lo/\lo<=hi2/\hi2<=55203/\0<=c/\c<=2 /\
  ∀ w:World,(Instr.index 302 (.agg Ba) (.int .i64 (i:Int))).run Tryz.prog w=.ok (.agg #[.int .i32 lo,.int .i32 hi2,.int .i64 c]) w:=by
 obtain rfl | rfl | rfl | rfl | rfl | rfl | rfl | rfl | rfl | rfl | rfl | rfl | rfl | rfl | rfl | rfl | rfl:i=0∨i=1∨i=2∨i=3∨i=4∨i=5∨i=6∨i=7∨i=8∨i=9∨i=10∨i=11∨i=12∨i=13∨i=14∨i=15∨i=16:=oZ
 all_goals exact⟨_,_,_,rfl,dZ,dZ,dZ,dZ,dZ,fun _=>kZ⟩
theorem FU (i:Nat) (hi:i<22):∃ lo hi2 st y:Int,iW.drop i=(lo,hi2,st,y) :: iW.drop (i+1)/\65<=lo/\lo<=hi2/\hi2<=1641/\(st=1∨st=2)/\-1584<=y/\y<=80 /\
  ∀ w:World,(Instr.index 305 (.agg xI) (.int .i64 (i:Int))).run Tryz.prog w=.ok (.agg #[.int .i32 lo,.int .i32 hi2,.int .i32 st,.int .i32 y]) w:=by
 obtain rfl | rfl | rfl | rfl | rfl | rfl | rfl | rfl | rfl | rfl | rfl | rfl | rfl | rfl | rfl | rfl | rfl | rfl | rfl | rfl | rfl | rfl:i=0∨i=1∨i=2∨i=3∨i=4∨i=5∨i=6∨i=7∨i=8∨i=9∨i=10∨i=11∨i=12∨i=13∨i=14∨i=15∨i=16∨i=17∨i=18∨i=19∨i=20∨i=21:=oZ
 all_goals exact⟨_,_,_,_,rfl,dZ,dZ,dZ,dZ,dZ,dZ,fun _=>kZ⟩
/-! ### The world -/
def ed (w:World):Prop:=(∃ t fr,w.heap[0]?=some (.cells Ba t fr))/\∃ t fr,w.heap[1]?=some (.cells xI t fr)
theorem ed.below {w w':World} (h:ed w) (hb:Below w.heap.size w w'):ed w':=by
 obtain⟨⟨t,fr,h1⟩,⟨t2,fr2,h2⟩⟩:=h
 exact⟨⟨t,fr,by rw[hb.block _ (lt_of_heap h1)];exact h1⟩,⟨t2,fr2,by rw[hb.block _ (lt_of_heap h2)];exact h2⟩⟩
theorem AU {P:Program} {w:World} {name:String} {d:DataW Unit} {g:Nat} {t:TypeId} {xs:List Value} (n:Nat) (hg:P.globalNamed name=some g) (ht:(P.globals[g]?).map (·.type)=some t) (hx:yu P n t d=some xs) (h:VarReads P w name d) :
  ∃ t' fr,w.heap[g]?=some (.cells xs.toArray t' fr):=by
 obtain⟨g',t',cs,fuel,p,h1,h2,h3,h4⟩:=h
 obtain rfl:=Option.some.inj (hg.symm.trans h1)
 obtain rfl:=Option.some.inj (ht.symm.trans h2)
 have:=zU n fuel t cs.toList d p xs h4 hx
 unfold World.var? at h3
 rw[hg] at h3
 simp only[Option.bind_some] at h3
 split at h3
 ·rename_i cs' t'' fr' hh
  cases h3
  exact⟨t'',fr',by rw[hh,<- this]⟩
 ·cases h3
theorem I8 (W:World) (r:Int) (hT:ed W) :
  Calls Tryz.prog 183 #[.int .i32 r] W fun e w'=>e=.returned (.int .i64 (dF r))/\Below W.heap.size W w':=by
 obtain⟨⟨tt,fr,hg⟩,-⟩:=hT
 have HG:=hJ hg
 clear hg
 rw[<- FZ]
 go_enter Tryz.func183,Tryz.ntmps183
 go_wp2_with fail
 go_step3
 go_wp2_with fail
 go_step3
 go_wp2_with first
  | (refine yZ rfl 302 (.global 0) rfl 0 rfl tt Ba fr (.array 17 301) HG.out Tryz.underlying302 rfl kZ ?_)
  | fail
 go_loopw [3,7] (fun cv iv wr=>∃ i:Nat,i<=17/\iv=.int .i64 i/\cv=.int .i64 0/\fP r (jA.drop i)=fP r jA/\Below W.heap.size W wr) (fun _ iv _=>17-(intOf iv).toNat)
 case atStart=>exact⟨0,oZ,rfl,rfl,rfl,Below.refl _ _⟩
 case round =>
  obtain⟨i,hi,rfl,rfl,hr,hb⟩:=hrel
  by_cases hlt:i<17
  ·obtain⟨lo,hi2,c,hd,b1,b2,b3,b4,b5,hix⟩:=Ji i hlt
   rw[hd] at hr
   have HR:=hJ hr
   have HB:=hJ hb
   have hsz:=hb.size
   have HA:=hJ (fun o=>HB.out.alloc hsz o)
   clear hr hb hd
   have nxt:∀ w':World,Below W.heap.size W w'->¬ r<lo->¬ r<=hi2->(∃ i1:Nat,i1<=17/\Value.int IntKind.i64 ((i:Int)+1)=Value.int IntKind.i64 i1/\Value.int IntKind.i64 0=Value.int IntKind.i64 0/\fP r (jA.drop i1)=fP r jA/\Below W.heap.size W w')/\17-(intOf (.int .i64 ((i:Int)+1))).toNat<17-(intOf (.int .i64 (i:Int))).toNat:=by
    intro w' hb' n1 n2
    refine⟨⟨i+1,oZ,sZ,rfl,?_,hb'⟩,by simp[intOf];omega⟩
    rw[<- HR.out]
    show _=(if r<lo then 0 else if r<=hi2 then c else fP r (jA.drop (i+1)))
    rw[if_neg n1,if_neg n2]
   have HX:=hJ nxt
   clear nxt
   by_cases t1:r<lo
   ·have hc:fP r jA=0:=by rw[<- HR.out];show (if r<lo then 0 else _)=(0:Int);rw[if_pos t1]
    go_wp2_with fail
    try rw[Exit.noGoto_ret]
    go_ret
    exact⟨by rw[hc];rfl,HA.out _⟩
   ·by_cases t2:r<=hi2
    ·have hc:fP r jA=c:=by rw[<- HR.out];show (if r<lo then 0 else if r<=hi2 then c else _)=c;rw[if_neg t1,if_pos t2]
     go_wp2_with fail
     try rw[Exit.noGoto_ret]
     go_ret
     exact⟨by rw[hc];rfl,HA.out _⟩
    ·go_wp2_with fail
     exact HX.out _ (HA.out _) t1 t2
  ·have hi':i=17:=oZ
   subst hi'
   have hc:fP r jA=0:=by rw[<- hr];rfl
   clear hr
   go_wp2_with fail
   try rw[Exit.noGoto_ret]
   go_ret
   exact⟨by rw[hc];rfl,hb⟩
theorem N7 (W:World) (r:Int) (h0:-2147483648<=r) (h1:r<=2147483647) (hT:ed W) :
  Calls Tryz.prog 185 #[.int .i32 r] W fun e w'=>e=.returned (.int .i32 (ik r))/\Below W.heap.size W w':=by
 obtain⟨-,⟨tt,fr,hg⟩⟩:=hT
 have HG:=hJ hg
 clear hg
 rw[<- KL]
 go_enter Tryz.func185,Tryz.ntmps185
 go_wp2_with fail
 go_step3
 go_wp2_with fail
 go_step3
 go_wp2_with first
  | (refine yZ rfl 305 (.global 1) rfl 1 rfl tt xI fr (.array 22 304) HG.out Tryz.underlying305 rfl kZ ?_)
  | fail
 go_loopw [3,8] (fun cv iv wr=>∃ i:Nat,i<=22/\iv=.int .i64 i/\cv=.int .i32 r/\iH r (iW.drop i)=iH r iW/\Below W.heap.size W wr) (fun _ iv _=>22-(intOf iv).toNat)
 case atStart=>exact⟨0,oZ,rfl,rfl,rfl,Below.refl _ _⟩
 case round =>
  obtain⟨i,hi,rfl,rfl,hr,hb⟩:=hrel
  by_cases hlt:i<22
  ·obtain⟨lo,hi2,st,y,hd,b1,b2,b3,b4,b5,b6,hix⟩:=FU i hlt
   rw[hd] at hr
   have HR:=hJ hr
   have HB:=hJ hb
   have hsz:=hb.size
   have HA:=hJ (fun o=>HB.out.alloc hsz o)
   clear hr hb hd
   have nxt:∀ w':World,Below W.heap.size W w'->¬ r<lo->¬ (r<=hi2/\(r-lo) % st=0)->(∃ i1:Nat,i1<=22/\Value.int IntKind.i64 ((i:Int)+1)=Value.int IntKind.i64 i1/\Value.int IntKind.i32 r=Value.int IntKind.i32 r/\iH r (iW.drop i1)=iH r iW/\Below W.heap.size W w')/\22-(intOf (.int .i64 ((i:Int)+1))).toNat<22-(intOf (.int .i64 (i:Int))).toNat:=by
    intro w' hb' n1 n2
    refine⟨⟨i+1,oZ,sZ,rfl,?_,hb'⟩,by simp[intOf];omega⟩
    rw[<- HR.out]
    show _=(if r<lo then r else if r<=hi2/\(r-lo) % st=0 then r+y else iH r (iW.drop (i+1)))
    rw[if_neg n1,if_neg n2]
   have HX:=hJ nxt
   clear nxt
   by_cases t1:r<lo
   ·have hc:iH r iW=r:=by rw[<- HR.out];show (if r<lo then r else _)=r;rw[if_pos t1]
    go_wp2_with fail
    try rw[Exit.noGoto_ret]
    go_ret
    exact⟨by rw[hc];rfl,HA.out _⟩
   ·by_cases t2:r<=hi2
    ·by_cases t3:(r-lo) % st=0
     ·have hc:iH r iW=r+y:=by rw[<- HR.out];show (if r<lo then r else if r<=hi2/\(r-lo) % st=0 then r+y else _)=r+y;rw[if_neg t1,if_pos ⟨t2,t3⟩]
      go_wp2_with fail
      try rw[Exit.noGoto_ret]
      go_ret
      exact⟨by rw[hc];rfl,HA.out _⟩
     ·have t4:¬ (r<=hi2/\(r-lo) % st=0):=fun h=>t3 h.2
      have HX:=hJ fun w' hb'=>HX.out w' hb' t1 t4
      go_wp2_with fail
      exact HX.out _ (HA.out _)
    ·have t4:¬ (r<=hi2/\(r-lo) % st=0):=fun h=>t2 h.1
     have HX:=hJ fun w' hb'=>HX.out w' hb' t1 t4
     go_wp2_with fail
     exact HX.out _ (HA.out _)
  ·have hi':i=22:=oZ
   subst hi'
   have hc:iH r iW=r:=by rw[<- hr];rfl
   clear hr
   go_wp2_with fail
   try rw[Exit.noGoto_ret]
   go_ret
   exact⟨by rw[hc];rfl,hb⟩
theorem of_laid {W : World} (h : laidMetH Tryz.prog [("plover/fold.kinds", Rows.laid_plover_fold_kinds), ("plover/fold.shifts", Rows.laid_plover_fold_shifts)] W) : ed W :=
 ⟨AU (t:=302) (xs:=Ba.toList) 4 kZ kZ kZ (yV kZ h _ _ (.head _)),AU (t:=305) (xs:=xI.toList) 4 kZ kZ kZ (yV kZ h _ _ (.tail _ (.head _)))⟩
end Go.Proofs.YtlfndoclbebdaaaGreatDoor
namespace Go.Proofs.YtlfndoclbebdaaaGreatDoor
open Go.ChangeShapes Go.WideShapes Go.ChangeAt Go.RowKit Go.Deep
theorem QJ {H:Type} {P:Program} {ts:List TypeId} {ds:List (DataW H)} (j:Nat) (h:(DataW.weightsEach P ts ds).all (·<=reachBytes)=true) {t:TypeId} {d:DataW H} (ht:ts[j]?=some t) (hd:ds[j]?=some d):∀ n∈d.weights P t,n<=reachBytes:=by
 intro n hn
 have:=List.all_eq_true.1 h n (DataW.weights_mem_each ht hd n hn)
 simpa using this
theorem lQ {H:Type} {P:Program} {e:TypeId}:∀ {l:List (DataW H)} {i:Nat} {d:DataW H},l[i]?=some d->∀ n∈d.weights P e,n∈DataW.weightsAll P e l
 | d0 :: l,0,d,hd,n,hn=>by
  simp only[List.getElem?_cons_zero,Option.some.injEq] at hd
  subst hd
  simp only[DataW.weightsAll,List.mem_append]
  exact Or.inl hn
 | d0 :: l,i+1,d,hd,n,hn=>by
  simp only[List.getElem?_cons_succ] at hd
  simp only[DataW.weightsAll,List.mem_append]
  exact Or.inr (lQ hd n hn)
 | [],_,_,hd,_,_=>by simp at hd
end Go.Proofs.YtlfndoclbebdaaaGreatDoor
