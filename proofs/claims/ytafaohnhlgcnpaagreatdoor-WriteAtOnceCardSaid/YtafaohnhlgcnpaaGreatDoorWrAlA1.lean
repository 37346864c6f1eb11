/-
 What stage 12 rests on.
-/
import Derived.WalkKit
import Derived.Lib.Hide
import Derived.BigQuiet
import Derived.StillTailTactics
import Derived.Deep.CutBlock
import Derived.Deep.DeepCutAuto
import Derived.Deep.RegionWith
import Derived.Test.YtafaohnhlgcnpaaGreatDoorRows
import Derived.ProofKit
import Derived.OpenShut
import Derived.Deep.CondSized
set_option maxRecDepth 100000
set_option maxHeartbeats 16000000
namespace Go.Proofs.YtafaohnhlgcnpaaGreatDoor
open Go.RowKit
theorem oZ {p : Prop} (h : p := by omega) : p := h
theorem dZ {p : Prop} (h : p := by decide) : p := h
theorem kZ {p : Prop} (h : p := by kernel_rfl) : p := h
theorem sZ {p : Prop} (h : p := by simp) : p := h
theorem lZ {p : Prop} (h : p := by rw [hl]; decide) : p := h
theorem uZ {p : Prop} (h : p := by simp; omega) : p := h
theorem cZ {p : Prop} (h : p := by simp [aH, Value.oneCell']) : p := h
theorem aZ {p : Prop} (h : p := by assumption) : p := h
theorem mZ {p : Prop} (h : p := by unfold maxLen; omega) : p := h
theorem rZ {p : Prop} (h : p := by repeat' split <;> omega) : p := h
theorem vZ {p : Prop} (h : p := by simp [Value.oneCell']) : p := h
theorem jZ {p : Prop} (h : p := by cases h) : p := h
theorem wZ {p : Prop} (h : p := by decide +kernel) : p := h
theorem xZ {p : Prop} (h : p := by simp <;> omega) : p := h
theorem pZ {p : Prop} (h : p := by intro q; simp only [oO, gH, Act.put, List.size_toArray, List.length_cons, List.length_nil, List.getElem?_toArray, Nat.reduceAdd, Option.bind_some, List.getElem?_cons_zero, List.getElem?_cons_succ, List.setIfInBounds_toArray, List.set_cons_zero, List.set_cons_succ, List.getD_cons_zero, List.getD_cons_succ]; exact rfl) : p := h
theorem hJ {p : Prop} (h : p) : Hid p := Lib.hid h
abbrev gZ := @List.getElem?_eq_getElem
abbrev eZ := @List.getElem?_eq_some_iff
abbrev yZ := @wpList_load_row
abbrev zZ := @wpList_store_row
abbrev nZ := @heap_alloc_new
abbrev qZ := @setRow_other
abbrev tZ := @bodyPost_ret
abbrev iZ := @IntWalk.i64_in
structure bB (S:Nat->Prop) (w w':World):Prop where
 os:w'.os=w.os
 tape:w'.tape=w.tape
 output:w'.output=w.output
 size:w.heap.size<=w'.heap.size
 block:∀ k,k<w.heap.size->¬ S k->w'.heap[k]?=w.heap[k]?
theorem bB.refl (S:Nat->Prop) (w:World):bB S w w:=⟨rfl,rfl,rfl,Nat.le_refl _,fun _ _ _=>rfl⟩
theorem bB.trans {S:Nat->Prop} {a b c:World} (h:bB S a b) (k:bB S b c):bB S a c :=
 ⟨k.os.trans h.os,k.tape.trans h.tape,k.output.trans h.output,Nat.le_trans h.size k.size,fun i hi hs=>(k.block i (Nat.lt_of_lt_of_le hi h.size) hs).trans (h.block i hi hs)⟩
theorem bB.mono {S T:Nat->Prop} {a b:World} (h:bB S a b) (hst:∀ k,k<a.heap.size->S k->T k):bB T a b:=⟨h.os,h.tape,h.output,h.size,fun i hi ht=>h.block i hi fun hs=>ht (hst i hi hs)⟩
theorem bB.setCell {S:Nat->Prop} {a w:World} (h:bB S a w) {p:Addr} (hp:a.heap.size<=p.block∨S p.block) (u:Value):bB S a (w.setCell p u) :=
 ⟨h.os,h.tape,h.output,by simpa [World.setCell] using h.size,fun k hk hs=>by
  rw[Below.heap_setCell _ _ _ _ (by rintro rfl;rcases hp with hp | hp;(omega);exact hs hp)];exact h.block k hk hs⟩
theorem bB.alloc {S:Nat->Prop} {a w:World} (h:bB S a w) (o:Obj):bB S a (w.alloc o) :=
 ⟨h.os,h.tape,h.output,by have:=h.size;simp;omega,fun k hk hs=>by rw[Below.heap_alloc _ _ _ (by have:=h.size;omega)];exact h.block k hk hs⟩
theorem bB.drewN {S:Nat->Prop} {a w:World} (h:bB S a w) (n:Nat):bB S a (w.drewN n):=⟨h.os,h.tape,h.output,h.size,h.block⟩
theorem dm {B:Nat} {a w:World} (h:Below B a w) (n:Nat):Below B a (w.drewN n):=⟨h.os,h.tape,h.output,h.size,h.block⟩
theorem Below.mod {a b:World} {B:Nat} (h:Below B a b) (S:Nat->Prop) (hS:∀ k,k<a.heap.size->B<=k->S k):bB S a b:=⟨h.os,h.tape,h.output,h.size,fun k hk hs=>h.block k (by
 by_cases e:k<B
 ·exact e
 ·exact absurd (hS k hk oZ) hs)⟩
theorem aa {w:World} {b:Nat} {cs:Array Value} {t:TypeId} (h:w.heap[b]?=some (.cells cs t (0,0))) (i:Nat):w.cell? ⟨b,i,none⟩=cs[i]?:=by simp[World.cell?,h]
theorem free_at {w:World} {b:Nat} {cs:Array Value} {t:TypeId} (h:w.heap[b]?=some (.cells cs t (0,0))) (i:Nat):w.frozen? ⟨b,i,none⟩=false:=by simp[World.frozen?,h]
theorem lt_of_heap {w:World} {b:Nat} {o:Obj} (h:w.heap[b]?=some o):b<w.heap.size:=by
 obtain⟨hb,_⟩:=Array.getElem?_eq_some_iff.1 h;exact hb
theorem oC {w:World} {A B:Obj} {n:Nat}:Below w.heap.size w (((w.alloc A).alloc B).drewN n):=dm (((Below.refl _ _).alloc (Nat.le_refl _) _).alloc sZ _) n
theorem aj {w:World} {A:Obj}:Below w.heap.size w (w.alloc A):=(Below.refl _ _).alloc (Nat.le_refl _) _
/-! ### Where new blocks lie -/
theorem ed (w:World) (A B:Obj):((w.alloc A).alloc B).heap[w.heap.size]?=some A:=by rw[Below.heap_alloc _ _ _ sZ];exact nZ w A
theorem eO (w:World) (A B:Obj):((w.alloc A).alloc B).heap[w.heap.size+1]?=some B:=by simpa using nZ (w.alloc A) B
theorem dN (w:World) (A B C:Obj):(((w.alloc A).alloc B).alloc C).heap[w.heap.size]?=some A:=by rw[Below.heap_alloc _ _ _ uZ];exact ed w A B
theorem dM (w:World) (A B C:Obj):(((w.alloc A).alloc B).alloc C).heap[w.heap.size+1]?=some B:=by rw[Below.heap_alloc _ _ _ sZ];exact eO w A B
theorem dS (w:World) (A B C:Obj):(((w.alloc A).alloc B).alloc C).heap[w.heap.size+1+1]?=some C:=by simpa using nZ ((w.alloc A).alloc B) C
theorem Kl (w:World) (A B C D:Obj):((((w.alloc A).alloc B).alloc C).alloc D).heap[w.heap.size]?=some A:=by rw[Below.heap_alloc _ _ _ uZ];exact dN w A B C
theorem Kw (w:World) (A B C D:Obj):((((w.alloc A).alloc B).alloc C).alloc D).heap[w.heap.size+1]?=some B:=by rw[Below.heap_alloc _ _ _ sZ];exact dM w A B C
theorem Ky (w:World) (A B C D:Obj):((((w.alloc A).alloc B).alloc C).alloc D).heap[w.heap.size+1+1]?=some C:=by rw[Below.heap_alloc _ _ _ sZ];exact dS w A B C
theorem Kz (w:World) (A B C D:Obj):((((w.alloc A).alloc B).alloc C).alloc D).heap[w.heap.size+1+1+1]?=some D:=by simpa using nZ (((w.alloc A).alloc B).alloc C) D
theorem dh {w:World} {A B:Obj}:Below w.heap.size w ((w.alloc A).alloc B):=((Below.refl _ _).alloc (Nat.le_refl _) _).alloc sZ _
theorem bi {w:World} {A B C:Obj}:Below w.heap.size w (((w.alloc A).alloc B).alloc C):=dh.alloc uZ _
theorem FZ {w:World} {A B C D:Obj}:Below w.heap.size w ((((w.alloc A).alloc B).alloc C).alloc D):=bi.alloc uZ _
theorem az {w w':World} {a:Addr} {v:Value} (h:w.cell? a=some v) (hb:Below w.heap.size w w'):w'.cell? a=some v:=by
 rw[World.cell?_of_block (hb.block _ ?_)]
 ·exact h
 ·unfold World.cell? at h;rcases Nat.lt_or_ge a.block w.heap.size with h1 | h1
  ·exact h1
  ·rw[Array.getElem?_eq_none h1] at h;simp at h
end Go.Proofs.YtafaohnhlgcnpaaGreatDoor
namespace Go.Proofs.YtafaohnhlgcnpaaGreatDoor
open Go.ChangeShapes Go.WideShapes Go.ChangeAt Go.RowKit
section
variable {H:Type} {enc:TypeId×Value->H} {P:Program}
theorem o5 (hl:laidOutB P=true) {W W':World} (hb:Below W.heap.size W W'):∀ (ts:List TypeId) (vs:List Value) (ds:List (DataW H)) (ps:List MemPlace),
  (ts.all fun t=>P.readableRec t&&decide (t<P.types.size))=true->DataW.TrodAll enc P W 0 (fun _=>true) true ts vs ds ps->(∀ x∈ps,x.block<W.heap.size) ->
  DataW.TrodAll enc P W' 0 (fun b=>decide (b<W.heap.size)) true ts vs ds ps
 | [],vs,ds,ps,_,h,_=>by
  obtain⟨rfl,rfl,rfl⟩:=trodAll_nil h;exact trodAll_mk0
 | t :: ts,vs,ds,ps,hr,h,hlt=>by
  obtain⟨v,vs',d,ds',p,q,rfl,rfl,rfl,h0,r0⟩:=trodAll_cons h;simp only[List.all_cons,Bool.and_eq_true,decide_eq_true_eq] at hr;exact trodAll_cons_mk (Below.trod hl hr.1.1 hr.1.2 h0 hb fun x hx=>hlt x (List.mem_append_left _ hx)) (o5 hl hb ts vs' ds' q hr.2 r0 fun x hx=>hlt x (List.mem_append_right _ hx))
theorem Bu {f:Func} {s:ChangeSpec} {tb:TypeId} {W W':World} {args:Array Value} {ds gs:List (DataW H)} {before:List MemPlace}
  (hl:laidOutB P=true) (hr:(f.params.toList.all fun t=>P.readableRec t&&decide (t<P.types.size))=true) (hres:f.resultTypes=#[tb]) (hub:P.underlying tb=some .bool) (hvars:s.vars=[])
  (hW:DataW.Whole enc P f.params.toList s.vars false W args.toList ds gs before) (hs:s.fn H (ds++gs)={results:=[.lit (.bool true)],args:=ds})
  (hb:Below W.heap.size W W'):s.post enc P f false true false false W args (.bool true) W':=by
 have hW':=hW;obtain⟨p,q,hA,hV,rfl,hfz,hnd⟩:=hW;rw[hvars] at hV;obtain⟨rfl,rfl⟩:=trodVars_none hV;refine⟨ds,[],p++[],[],p,[],hW',?_,?_,?_,hb.frame _,fun h=>by cases h⟩
 ·rw[hs,hres];exact trodAll_mk1 (shut_bool hub true)
 ·rw[hs];exact o5 hl hb _ _ _ _ hr hA fun x hx=>hW'.lt x (by simpa using hx)
 ·rw[hs,hvars];exact rfl
structure qw (enc:TypeId×Value->H) (P:Program) (ts:List TypeId) (W:World) (args:Array Value) (ds:List (DataW H)):Prop where
 trod:∃ p,DataW.TrodAll enc P W 0 (fun _=>true) true ts args.toList ds p/\∀ x∈p,x.block<W.heap.size
 ok:∃ base,∀ (j:Nat) (t:TypeId) (v:Value),ts[j]?=some t->args[j]?=some v->Value.okWide P W .any base t v
 size:(DataW.weightsEach P ts ds).all (·<=reachBytes)=true
theorem qw.of_whole {f:Func} {s:ChangeSpec} {W:World} {base:Nat} {args:Array Value} {ds gs:List (DataW H)} {before:List MemPlace} (hvars:s.vars=[])
  (hval:∀ (j:Nat) t v,f.params[j]?=some t->args[j]?=some v->Value.okWide P W .any base t v)
  (hW:DataW.Whole enc P f.params.toList s.vars false W args.toList ds gs before) (hsz:(DataW.weightsEach P (f.params.toList++s.plain.varTypes P) (ds++gs)).all (·<=reachBytes)=true) :
  qw enc P f.params.toList W args ds:=by
 have hW':=hW;obtain⟨p,q,hA,hV,rfl,hfz,hnd⟩:=hW;rw[hvars] at hV;obtain⟨rfl,rfl⟩:=trodVars_none hV;refine⟨⟨p,hA,fun x hx=>hW'.lt x (by simpa using hx)⟩,⟨base,fun j t v ht hv=>hval j t v (by simpa using ht) hv⟩,?_⟩
 have e:s.plain.varTypes P=[]:=by
  unfold ChangeSpec.plain;simp[hvars,DataSpec.varTypes]
 rw[e] at hsz;simpa using hsz
theorem CB {C:Checked} {os:Os} {F:FuncId} {f:Func} {s:ChangeSpec} {tb:TypeId} {conds:List PathCond} (own:ownKnob C.prog.godebug=none) (started:os.Started) (noInit:C.prog.inits.idxOf? F=none)
  (hfn:C.prog.funcs[F]?=some f) (hl:laidOutB C.prog=true) (hr:(f.params.toList.all fun t=>C.prog.readableRec t&&decide (t<C.prog.types.size))=true) (hres:f.resultTypes=#[tb])
  (hub:C.prog.underlying tb=some .bool) (hvars:s.vars=[])
  (witness:∃ (w:World) (tape:Tape) (i:Input),w.os=os/\(w.forCall tape i).Shaped C.prog/\i.vars=[]/\Input.okWide C.prog (w.forCall tape i) .any w.heap.size F i /\
   s.pre6 enc C.prog f conds false (w.forCall tape i).memory i.args/\({}:Assume).holds C.prog (lone (Frame.enter C.prog F i.args .normal) [] (w.forCall tape i)))
  (hs:∀ ds:List (DataW H),ds.length=f.params.size->s.fn H ds={results:=[.lit (.bool true)],args:=ds})
  (walk:∀ (W:World) (args:Array Value) (ds:List (DataW H)),qw enc C.prog f.params.toList W args ds->Calls C.prog F args W fun e W'=>e=.returned (.bool true)/\Below W.heap.size W W') :
  ReturnsInHanded {} C os F .any (s.pre6 enc C.prog f conds false) (s.post enc C.prog f false true false false):=by
 refine returnsInHanded_of_change_sized (C:=C) own started noInit hfn witness ?_;intro W base args ds gs before hval hW _ hsz _;refine(walk W args ds (qw.of_whole hvars hval hW hsz)).mono fun e W' ⟨he,hb⟩=>⟨_,he,?_⟩;refine Bu hl hr hres hub hvars hW ?_ hb;obtain⟨p,q,hA,hV,_⟩:=hW;rw[hvars] at hV;obtain⟨rfl,rfl⟩:=trodVars_none hV;rw[List.append_nil];exact hs ds (by rw[<- trodAll_len hA];simp)
where
 trodAll_len {w:World} {ts:List TypeId} {vs:List Value} {ds:List (DataW H)} {ps:List MemPlace} {b:Nat} {sp:Nat->Bool} {hd:Bool} (h:DataW.TrodAll enc C.prog w b sp hd ts vs ds ps):ts.length=ds.length:=by
  induction ts generalizing vs ds ps with
  | nil=>obtain⟨_,rfl,_⟩:=trodAll_nil h;rfl
  | cons t ts ih =>
   obtain⟨v,vs',d,ds',p,q,rfl,rfl,rfl,h0,r0⟩:=trodAll_cons h;simp[ih r0]
end
theorem own:ownKnob Tryz.prog.godebug=none:=kZ
theorem laidOut:laidOutB Tryz.prog=true:=kZ
/-! ### What fits its kind -/
theorem LG {x:Int} (w:(Lit.int .u32 x).wf=true):0<=x:=by simp[Lit.wf,IntKind.min,IntKind.max,IntKind.signed,IntKind.bits] at w;omega
theorem LX {x:Int} (w:(Lit.int .u32 x).wf=true):x<=4294967295:=by simp[Lit.wf,IntKind.min,IntKind.max,IntKind.signed,IntKind.bits] at w;omega
end Go.Proofs.YtafaohnhlgcnpaaGreatDoor
