/-
 What stage 12 rests on.
-/
import Derived.Test.YtafaohnhlgcnpaaGreatDoorWrAlA1
set_option maxRecDepth 100000
set_option maxHeartbeats 16000000
namespace Go.Proofs.YtafaohnhlgcnpaaGreatDoor
open Go.RowKit
section
variable {P:Program}
theorem results_cell_tmp {fn:Func} {p q:Tmp} {ty:TypeId} (h:fn.results=#[.cell p ty,.tmp q]) (tmps:Array Value) (w:World) (g:Nat) (t:TypeId) (cs:Array Value) (fr:Nat×Nat) (d:TypeDesc) (v:Value)
  (hp:tmps.getD p undef=.pointer (some ⟨g,0,none⟩)) (hq:tmps.getD q undef=v) (hg:w.heap[g]?=some (.cells cs t fr))
  (hu:P.underlying ty=some d) (hd:(match d with | .struct _ | .array _ _=>true | _=>false)=true) (hi:(P.info? ty).map (·.size)=some cs.size) :
  (results fn tmps).run P w=.ok (.tuple #[.agg cs,v]) w:=by
 have hp':tmps[p]?.getD undef=.pointer (some ⟨g,0,none⟩):=by simpa using hp
 have hq':tmps[q]?.getD undef=v:=by simpa using hq
 simp[results,h,hp',hq',asAddr,run_loadVar_row w g t ty cs fr d hg hu hd hi]
theorem bE {fn:Func} {p q r:Tmp} {ty:TypeId} (h:fn.results=#[.tmp r,.cell p ty,.tmp q]) (tmps:Array Value) (w:World) (g:Nat) (t:TypeId) (cs:Array Value) (fr:Nat×Nat) (d:TypeDesc) (u v:Value)
  (hr:tmps.getD r undef=u) (hp:tmps.getD p undef=.pointer (some ⟨g,0,none⟩)) (hq:tmps.getD q undef=v) (hg:w.heap[g]?=some (.cells cs t fr))
  (hu:P.underlying ty=some d) (hd:(match d with | .struct _ | .array _ _=>true | _=>false)=true) (hi:(P.info? ty).map (·.size)=some cs.size) :
  (results fn tmps).run P w=.ok (.tuple #[u,.agg cs,v]) w:=by
 have hp':tmps[p]?.getD undef=.pointer (some ⟨g,0,none⟩):=by simpa using hp
 have hq':tmps[q]?.getD undef=v:=by simpa using hq
 have hr':tmps[r]?.getD undef=u:=by simpa using hr
 simp[results,h,hp',hq',hr',asAddr,run_loadVar_row w g t ty cs fr d hg hu hd hi]
theorem gX {ops:Array Oper} {rest:List Oper} {o:Oper} {a:Act} {w:World} {Q:Exit->Act->World->Prop} (hw:Region.wanted o (yielded ops a.tmps)=true) (ty:TypeId) (x:Operand) (ho:o.op=.load ty x)
  (g:Nat) (hx:a.eval x=.pointer (some ⟨g,0,none⟩)) (t:TypeId) (cs:Array Value) (fr:Nat×Nat) (d:TypeDesc) (hg:w.heap[g]?=some (.cells cs t fr))
  (hu:P.underlying ty=some d) (hd:(match d with | .struct _ | .array _ _=>true | _=>false)=true) (hi:(P.info? ty).map (·.size)=some cs.size)
  (h:wpList P ops Q rest (a.put o.dst (.agg cs)) w):wpList P ops Q (o :: rest) a w :=
 wpList_step fun K hK=>by
  rw[if_pos hw];exact wp_load_row ty x ho g hx t cs fr d hg hu hd hi (hK _ _ h)
end
section
variable {P:Program} {ops:Array Oper}
def NoWay:Exit->Act->World->Prop:=fun _ _ _=>False
def gH (ops:Array Oper) (j:Nat):Option Tmp:=(ops[j]?).bind (·.dst)
def oO (ops:Array Oper) (V:Nat->Value) (a:Act):Nat->Act
 | 0=>a
 | k+1=>(oO ops V a k).put (gH ops k) (V k)
structure eY (ops:Array Oper) (V:Nat->Value) (a0:Act) (l:Nat->Bool) (a:Act):Prop where
 defers:a.defers=a0.defers
 size:a.tmps.size=a0.tmps.size
 set:∀ j d,gH ops j=some d->l j=true->a.tmps[d]?=some (V j)
 old:∀ t,(∀ j,gH ops j=some t->l j=false)->a.tmps[t]?=a0.tmps[t]?
def zJ (L:Nat->Nat->Bool) (ops:Array Oper) (n:Nat):Bool :=
 (List.range ops.size).all fun i=>match ops[i]? with
  | none=>true
  | some o =>
   (match o.op with | .select _ _=>false | _=>true) &&
   ((match o.dst with | none=>true | some d=>decide (d<n)&&(List.range ops.size).all fun j=>j==i||gH ops j != some d) &&
   ((o.after.all fun e=>!Region.binds .any e||decide (e.on<i)) &&
   (List.range ops.size).all fun j=>match gH ops j with | none=>true | some d=>!(o.looksAt ops).contains d||(Region.waitsFor .any ops i j||L i j)))
def EW (ops:Array Oper) (n:Nat):Bool:=zJ (fun _ _=>false) ops n
structure Fair (L:Nat->Nat->Bool) (ops:Array Oper) (n:Nat):Prop where
 sel:∀ (i:Nat) (o:Oper),ops[i]?=some o->∀ cs b,o.op≠.select cs b
 lt:∀ i d,gH ops i=some d->d<n
 one:∀ i j d,gH ops i=some d->gH ops j=some d->j=i
 back:∀ (i:Nat) (o:Oper),ops[i]?=some o->∀ e∈o.after,Region.binds .any e=true->e.on<i
 looks:∀ (i:Nat) (o:Oper),ops[i]?=some o->∀ j d,gH ops j=some d->d∈o.looksAt ops->(∃ e∈o.after,Region.binds .any e=true/\e.on=j)∨L i j=true
theorem lS {j:Nat} {d:Tmp} (h:gH ops j=some d):j<ops.size:=by
 unfold gH at h;cases ho:ops[j]? with
 | none=>simp[ho] at h
 | some o=>exact(Array.getElem?_eq_some_iff.1 ho).1
theorem Bg {j:Nat} {o:Oper} (h:ops[j]?=some o):gH ops j=o.dst:=by simp[gH,h]
theorem vU {j:Nat} {d:Tmp} (h:gH ops j=some d):∃ o,ops[j]?=some o/\o.dst=some d:=by
 unfold gH at h;cases ho:ops[j]? with
 | none=>simp[ho] at h
 | some o=>exact⟨o,rfl,by simpa [ho] using h⟩
theorem Fair.of {L:Nat->Nat->Bool} {n:Nat} (h:zJ L ops n=true):Fair L ops n:=by
 have key:∀ i o,ops[i]?=some o->(match o.op with | .select _ _=>false | _=>true)=true /\
   (match o.dst with | none=>true | some d=>decide (d<n)&&(List.range ops.size).all fun j=>j==i||gH ops j != some d)=true /\
   (o.after.all fun e=>!Region.binds .any e||decide (e.on<i))=true /\
   ((List.range ops.size).all fun j=>match gH ops j with | none=>true | some d=>!(o.looksAt ops).contains d||(Region.waitsFor .any ops i j||L i j))=true:=by
  intro i o ho;have hi:=(Array.getElem?_eq_some_iff.1 ho).1;have:=List.all_eq_true.1 h i (List.mem_range.2 hi);rw[ho] at this;simp only[Bool.and_eq_true] at this;exact this
 refine⟨fun i o ho cs b hs=>?_,fun i d hd=>?_,fun i j d hi hj=>?_,fun i o ho e he hb=>?_,fun i o ho j d hd hl=>?_⟩
 ·have:=(key i o ho).1;rw[hs] at this;cases this
 ·obtain⟨o,ho,hd⟩:=vU hd;have:=(key i o ho).2.1;simp only[hd,Bool.and_eq_true,decide_eq_true_eq] at this;exact this.1
 ·obtain⟨o,ho,hd⟩:=vU hi;have:=(key i o ho).2.1;simp only[hd,Bool.and_eq_true,decide_eq_true_eq] at this;have:=List.all_eq_true.1 this.2 j (List.mem_range.2 (lS hj));simp only[Bool.or_eq_true,beq_iff_eq,bne_iff_ne,ne_eq] at this;rcases this with h | h
  ·exact h
  ·exact absurd hj h
 ·have:=(key i o ho).2.2.1;rw[Array.all_eq_true_iff_forall_mem] at this;have:=this e he;rw[hb] at this;simpa using this
 ·have:=(key i o ho).2.2.2;have:=List.all_eq_true.1 this j (List.mem_range.2 (lS hd));rw[hd] at this;simp only[Bool.or_eq_true,Bool.not_eq_true'] at this;rcases this with h | h | h
  ·have:(o.looksAt ops).contains d=true:=List.contains_iff_mem.2 hl;rw[h] at this;cases this
  rotate_left
  ·exact .inr h
  ·refine .inl ?_;obtain⟨oj,hoj,e,he,hb,hon⟩:=Region.waitsFor_spec h;obtain rfl:o=oj:=Option.some.inj (ho.symm.trans hoj);exact⟨e,he,hb,hon⟩
theorem eY.start (V:Nat->Value) (a0:Act):eY ops V a0 (fun _=>false) a0:=⟨rfl,rfl,(fun _ _ _ h=>by cases h),fun _ _=>rfl⟩
theorem eY.put {L:Nat->Nat->Bool} {n:Nat} (hf:Fair L ops n) {V V':Nat->Value} {a0 a:Act} {l l':Nat->Bool} (h:eY ops V a0 l a) (hn:a0.tmps.size=n) (i:Nat) (hl':∀ j,l' j=(j==i||l j)) (hi:l i=false) (hV:∀ j,l j=true->V' j=V j) :
  eY ops V' a0 l' (a.put (gH ops i) (V' i)):=by
 cases hd:gH ops i with
 | none =>
  refine⟨h.defers,h.size,fun j d hj hl=>?_,fun t ht=>h.old t fun j hj=>?_⟩
  ·have hne:j≠i:=by rintro rfl;rw[hd] at hj;cases hj
   have:l j=true:=by rw[hl'] at hl;simpa [hne] using hl
   rw[hV j this];exact h.set j d hj this
  ·have:=ht j hj;rw[hl'] at this;simp at this;exact this.2
 | some d =>
  have hlt:d<a.tmps.size:=by rw[h.size,hn];exact hf.lt i d hd
  refine⟨h.defers,by simpa [Act.put] using h.size,fun j d' hj hl=>?_,fun t ht=>?_⟩
  ·by_cases hji:j=i
   ·subst hji;obtain rfl:d=d':=Option.some.inj (hd.symm.trans hj);simp[Act.put,hlt]
   ·have hne:d≠d':=by rintro rfl;exact hji (hf.one i j d hd hj)
    have:l j=true:=by rw[hl'] at hl;simpa [hji] using hl
    simp only[Act.put,Array.getElem?_setIfInBounds_ne hne];rw[hV j this];exact h.set j d' hj this
  ·have hne:d≠t:=by rintro rfl;have:=ht i hd;rw[hl'] at this;simp at this
   simp only[Act.put,Array.getElem?_setIfInBounds_ne hne];refine h.old t fun j hj=>?_;have:=ht j hj;rw[hl'] at this;simp at this;exact this.2
theorem eY.oO {L:Nat->Nat->Bool} {n:Nat} (hf:Fair L ops n) (V:Nat->Value) (a0:Act) (hn:a0.tmps.size=n):∀ k,eY ops V a0 (fun j=>decide (j<k)) (oO ops V a0 k)
 | 0=>by
  have e:(fun j=>decide (j<0))=fun _=>false:=funext fun j=>sZ;rw[e];exact eY.start V a0
 | k+1=>eY.put hf (eY.oO hf V a0 hn k) hn k (fun j=>by rw[Bool.eq_iff_iff];simp;omega) sZ (fun _ _=>rfl)
theorem eY.same {V:Nat->Value} {a0 a b:Act} {l l':Nat->Bool} (h:eY ops V a0 l a) (h':eY ops V a0 l' b) (hl:∀ j,j<ops.size->l j=true) (hl':∀ j,j<ops.size->l' j=true):a=b:=by
 have ht:a.tmps=b.tmps:=by
  apply Array.ext_getElem?;intro t;by_cases e:∃ j,gH ops j=some t
  ·obtain⟨j,hj⟩:=e;rw[h.set j t hj (hl j (lS hj)),h'.set j t hj (hl' j (lS hj))]
  ·rw[h.old t fun j hj=>absurd ⟨j,hj⟩ e,h'.old t fun j hj=>absurd ⟨j,hj⟩ e]
 have hd:a.defers=b.defers:=h.defers.trans h'.defers.symm;cases a;cases b;simp_all
theorem eY.looks {L:Nat->Nat->Bool} {n:Nat} (hf:Fair L ops n) {V:Nat->Value} {a0 a b:Act} {l:Nat->Bool} (h:eY ops V a0 l a) (h':eY ops V a0 (fun j=>decide (j<ops.size)) b) {i:Nat} {o:Oper} (ho:ops[i]?=some o)
  (hl:∀ e∈o.after,Region.binds .any e=true->l e.on=true) (hL:∀ j d,L i j=true->gH ops j=some d->l j=false/\a0.tmps[d]?=some (V j)) (d:Tmp) (hd:d∈o.looksAt ops):a.tmps[d]?=b.tmps[d]?:=by
 by_cases e:∃ j,gH ops j=some d
 ·obtain⟨j,hj⟩:=e;rcases hf.looks i o ho j d hj hd with ⟨e,he,hb,rfl⟩ | hlj
  ·rw[h.set _ d hj (hl e he hb),h'.set _ d hj (by simpa using lS hj)]
  ·obtain⟨h1,h2⟩:=hL j d hlj hj;rw[h.old d (fun k hk=>by rw[hf.one j k d hj hk];exact h1),h'.set _ d hj (by simpa using lS hj)];exact h2
 ·rw[h.old d fun j hj=>absurd ⟨j,hj⟩ e,h'.old d fun j hj=>absurd ⟨j,hj⟩ e]
theorem eY.exec {L:Nat->Nat->Bool} {n:Nat} (hf:Fair L ops n) {V:Nat->Value} {a0 a b:Act} {l:Nat->Bool} (h:eY ops V a0 l a) (h':eY ops V a0 (fun j=>decide (j<ops.size)) b) {i:Nat} {o:Oper} (ho:ops[i]?=some o)
  (hl:∀ e∈o.after,Region.binds .any e=true->l e.on=true) (hL:∀ j d,L i j=true->gH ops j=some d->l j=false/\a0.tmps[d]?=some (V j)):execOp a.eval o=execOp b.eval o :=
 execOp_congr o (hf.sel i o ho) fun x hx=>by
  cases x with
  | tmp t =>
   have:=h.looks hf h' ho hl hL t (List.mem_append_left _ (List.mem_filterMap.2 ⟨.tmp t,by simpa using hx,rfl⟩));simp[Act.eval,this]
  | const v=>rfl
  | global g=>rfl
  | func f=>rfl
theorem eY.wanted {L:Nat->Nat->Bool} {n:Nat} (hf:Fair L ops n) {V:Nat->Value} {a0 a b:Act} {l:Nat->Bool} (h:eY ops V a0 l a) (h':eY ops V a0 (fun j=>decide (j<ops.size)) b) {i:Nat} {o:Oper} (ho:ops[i]?=some o)
  (hl:∀ e∈o.after,Region.binds .any e=true->l e.on=true) (hL:∀ j d,L i j=true->gH ops j=some d->l j=false/\a0.tmps[d]?=some (V j)):Region.wanted o (yielded ops a.tmps)=Region.wanted o (yielded ops b.tmps):=by
 unfold Region.wanted;cases hg:o.guard with
 | none=>rfl
 | some gw =>
  obtain⟨g,want⟩:=gw
  have hy:yielded ops a.tmps g=yielded ops b.tmps g:=by
   unfold yielded;cases ht:(ops[g]?).bind (·.dst) with
   | none=>rfl
   | some t =>
    have:=h.looks hf h' ho hl hL t (by simp[Oper.looksAt,hg,ht]);simp[this]
  simp only[hy]
theorem NoWay.Kk {x:Prop} (h:LetsOut NoWay):x:=by obtain⟨_,_,h⟩:=h;exact h.elim
theorem IB {Q:Exit->Act->World->Prop} {o:Oper} {a b:Act} {w:World} {K:Act->World->Prop} (he:execOp a.eval o=execOp b.eval o)
  (h:o.wp P b w (fun a' w'=>∃ v,a'=b.put o.dst v/\K (a.put o.dst v) w' ) NoWay) (hinj:∀ v u,b.put o.dst v=b.put o.dst u->a.put o.dst v=a.put o.dst u):o.wp P a w K Q:=by
 unfold Oper.wp at *;rw[he];generalize (execOp b.eval o).run P w=r at *;cases r with
 | ok n w' =>
  cases n <;> simp only[Oper.upon] at h ⊢
  case value v =>
   obtain⟨u,hu,hk⟩:=h;rw[hinj v u hu];exact hk
  case skip =>
   obtain⟨u,hu,hk⟩:=h;rw[hinj undef u hu];exact hk
  case defer d =>
   obtain⟨u,hu,_⟩:=h;have:=congrArg Act.defers hu;cases hd:o.dst <;> simp[Act.put,hd] at this
  case enter f args =>
   refine Calls.mono h fun e w'' hh=>?_;cases e with
   | returned v =>
    obtain⟨u,hu,hk⟩:=hh;show K (a.put o.dst v) w'';rw[hinj v u hu];exact hk
   | panicked c=>exact hh.elim
   | outgrown=>exact NoWay.Kk hh
  case row row args =>
   refine Rows.mono h fun v w'' hh=>?_;obtain⟨u,hu,hk⟩:=hh;rw[hinj v u hu];exact hk
 | halt x w'=>cases x <;> simp only[Oper.upon] at h ⊢;exact h.elim
theorem E8 {n:Nat} {a b:Act} {d:Option Tmp} (_ha:a.tmps.size=n) (hb:b.tmps.size=n) (hd:∀ x,d=some x->x<n) (v u:Value) (h:b.put d v=b.put d u):a.put d v=a.put d u:=by
 cases d with
 | none=>rfl
 | some x =>
  have hx:=hd x rfl;have:=congrArg (fun c:Act=>c.tmps[x]?) h;simp[Act.put,hb,hx] at this;rw[this]
theorem Bj (listed:Array Bool) (i j:Nat) (hi:i<listed.size):(listed.setIfInBounds i true).getD j false=(j==i||listed.getD j false):=by
 by_cases e:i=j
 ·subst e;simp[hi]
 ·have e':¬ j=i:=fun h=>e h.symm;simp[Array.getElem?_setIfInBounds_ne e,e']
theorem CP {L:Nat->Nat->Bool} {n:Nat} (hf:Fair L ops n) {listed:Array Bool} (hs:listed.size=ops.size) (hr:Region.ready .any ops listed=[]):∀ j,j<ops.size->listed.getD j false=true:=by
 intro j;induction j using Nat.strongRecOn with
 | _ j ih =>
  intro hj;cases hl:listed.getD j false with
  | true=>rfl
  | false =>
   obtain⟨o,ho⟩:∃ o,ops[j]?=some o:=⟨_,Array.getElem?_eq_getElem hj⟩
   have:j∈Region.ready .any ops listed:=mem_ready.2 ⟨getD_in oZ hl,o,ho,fun e he hb=>by
    have hlt:=hf.back j o ho e he hb;exact ih e.on hlt oZ⟩
   rw[hr] at this;cases this
def mI (ops:Array Oper) (l:Nat->Bool):Prop:=∀ (i:Nat) (o:Oper),ops[i]?=some o->l i=true->∀ e∈o.after,Region.binds .any e=true->l e.on=true
theorem fZ {σ:Type} {id:Nat} {a0:Act} {w:World} {Q:Exit->Act->World->Prop} (V:σ->Nat->Value) (R:σ->(Nat->Bool)->World->Prop) (aT:σ->Act)
  (hm:P.follows .mixedOrders=true) (L:Nat->Nat->Bool) (hB:zJ L ops a0.tmps.size=true) (hT:∀ s,aT s=oO ops (V s) a0 ops.size) (s0:σ) (h0:R s0 (fun _=>false) w.drew)
  (hcon:∀ l,mI ops l->∀ i j,L i j=true->l j=true->l i=true) (hlate:∀ s l wx,R s l wx->∀ i j d,L i j=true->gH ops j=some d->l j=false->a0.tmps[d]?=some (V s j))
  (step:∀ (i:Nat) (o:Oper),ops[i]?=some o->∀ (s:σ) (l:Nat->Bool) (wx:World),R s l wx->l i=false->(∀ e∈o.after,Region.binds .any e=true->l e.on=true) ->
   ∀ K:Act->World->Prop,(∀ (s':σ) (w':World),(∀ j,l j=true->V s' j=V s j)->R s' (fun j=>j==i||l j) w'->K ((aT s).put o.dst (V s' i)) w') ->
    if Region.wanted o (yielded ops (aT s).tmps) then o.wp P (aT s) wx K NoWay else K ((aT s).put o.dst undef) wx)
  (fin:∀ (s:σ) (l:Nat->Bool) (wx:World),(∀ j,j<ops.size->l j=true)->R s l wx->Q .normal (aT s) wx):(Code.region id ops true).wp P Q a0 w:=by
 have hf:=Fair.of hB;refine wp_region_any hm ?_
 have main:∀ (fuel:Nat) (listed:Array Bool) (a:Act) (wx:World) (s:σ),listed.size=ops.size->listed.toList.count false<=fuel->eY ops (V s) a0 (fun j=>listed.getD j false) a->mI ops (fun j=>listed.getD j false)->R s (fun j=>listed.getD j false) wx ->
   wpAny P .any ops Q fuel listed a wx:=by
  intro fuel
  have done:∀ (listed:Array Bool) (a:Act) (wx:World) (s:σ),listed.size=ops.size->eY ops (V s) a0 (fun j=>listed.getD j false) a->R s (fun j=>listed.getD j false) wx->Region.ready .any ops listed=[]->Q .normal a wx:=by
   intro listed a wx s hs hS hR hr;have hl:=CP hf hs hr;have:=hS.same (eY.oO hf (V s) a0 rfl ops.size) hl (fun j hj=>by simpa using hj);rw[this,<- hT];exact fin s _ wx hl hR
  induction fuel with
  | zero =>
   intro listed a wx s hs hc hS hCl hR
   have hr:Region.ready .any ops listed=[]:=by
    cases hr:Region.ready .any ops listed with
    | nil=>rfl
    | cons i is =>
     have hi:i∈Region.ready .any ops listed:=by rw[hr];exact List.mem_cons_self
     obtain⟨h1,o,ho,_⟩:=mem_ready.1 hi;have hlt:=(Array.getElem?_eq_some_iff.1 ho).1
     have:false∈listed.toList:=by
      have hlt':i<listed.size:=oZ;have h2:listed[i]=false:=by simpa [hlt'] using h1
      rw[<- h2];exact List.mem_of_getElem (i:=i) (h:=by simpa using hlt') sZ
     have:=List.count_pos_iff.2 this;omega
   exact⟨hr,done listed a wx s hs hS hR hr⟩
  | succ fuel ih =>
   intro listed a wx s hs hc hS hCl hR;refine⟨done listed a wx s hs hS hR,fun i hi=>?_⟩;obtain⟨h1,o,ho,hedge⟩:=mem_ready.1 hi;have hlt:=(Array.getElem?_eq_some_iff.1 ho).1;have hlt':i<listed.size:=oZ;have h1':=getD_both h1;have hTs:=eY.oO hf (V s) a0 rfl ops.size;rw[<- hT] at hTs;have hd:∀ x,o.dst=some x->x<a0.tmps.size:=fun x hx=>hf.lt i x ((Bg ho).trans hx)
   have hcount:(listed.setIfInBounds i true).toList.count false<=fuel:=by
    have h2:listed[i]=false:=by simpa [hlt'] using h1
    have:listed.toList.count false=(listed.setIfInBounds i true).toList.count false+1:=by
     rw[Array.toList_setIfInBounds,List.count_set (by simpa using hlt')]
     have hp:0<listed.toList.count false:=List.count_pos_iff.2 (by
      rw[<- h2];exact List.mem_of_getElem (i:=i) (h:=by simpa using hlt') sZ)
     rw[Array.count_toList] at hp;simp[h2];omega
    omega
   have next:∀ (s':σ) (w':World),(∀ j,listed.getD j false=true->V s' j=V s j)->R s' (fun j=>j==i||listed.getD j false) w' ->
     wpAny P .any ops Q fuel (listed.setIfInBounds i true) (a.put o.dst (V s' i)) w':=by
    intro s' w' hV hR';have e:(fun j=>(listed.setIfInBounds i true).getD j false)=(fun j=>j==i||listed.getD j false):=funext fun j=>Bj listed i j hlt';refine ih _ _ w' s' (by simpa using hs) hcount ?_ ?_ (by rw[e];exact hR');rotate_left
    ·rw[e];intro k ok hok hk e2 he2 hb2;simp only[Bool.or_eq_true,beq_iff_eq] at hk ⊢;rcases hk with rfl | hk
     ·obtain rfl:o=ok:=Option.some.inj (ho.symm.trans hok);exact .inr (hedge e2 he2 hb2)
     ·exact .inr (hCl k ok hok hk e2 he2 hb2)
    have:=eY.put hf hS rfl i (fun j=>Bj listed i j hlt') h1' hV;rw[Bg ho] at this;exact this
   have st:=step i o ho s _ wx hR h1' (fun e he hb=>hedge e he hb)
   have hL:∀ j d,L i j=true->gH ops j=some d->listed.getD j false=false/\a0.tmps[d]?=some (V s j):=by
    intro j d hlj hdj
    have hj:listed.getD j false=false:=by
     cases hx:listed.getD j false with
     | false=>rfl
     | true=>have:=hcon _ hCl i j hlj hx;rw[h1'] at this;cases this
    exact⟨hj,hlate s _ wx hR i j d hlj hdj hj⟩
   unfold wpOp;simp only[ho];rw[eY.wanted hf hS hTs ho (fun e he hb=>hedge e he hb) hL];have hsz:(aT s).tmps.size=a0.tmps.size:=hTs.size;by_cases hw:Region.wanted o (yielded ops (aT s).tmps)=true
   ·simp only[hw,if_true] at st ⊢;refine .inl (IB (eY.exec hf hS hTs ho (fun e he hb=>hedge e he hb) hL) (st _ ?_) (E8 hS.size hsz hd));intro s' w' hV hR';exact⟨V s' i,rfl,next s' w' hV hR'⟩
   ·simp only[hw,if_false,Bool.false_eq_true] at st ⊢;have:=st (fun a' w'=>∃ v,a'=(aT s).put o.dst v/\wpAny P .any ops Q fuel (listed.setIfInBounds i true) (a.put o.dst v) w') (fun s' w' hV hR'=>⟨V s' i,rfl,next s' w' hV hR'⟩);obtain⟨v,hv,hk⟩:=this;rw[E8 hS.size hsz hd undef v hv];exact hk
 refine main ops.size _ a0 _ s0 sZ sZ ?_ ?_ ?_;rotate_left
 ·have e:(fun j=>(Array.replicate ops.size false).getD j false)=fun _=>false:=funext fun j=>getD_replicate_false _ _;rw[e];intro k ok hok hk;cases hk
 rotate_left
 ·have e:(fun j=>(Array.replicate ops.size false).getD j false)=fun _=>false:=funext fun j=>getD_replicate_false _ _;rw[e];exact eY.start _ _
 ·have e:(fun j=>(Array.replicate ops.size false).getD j false)=fun _=>false:=funext fun j=>getD_replicate_false _ _;rw[e];exact h0
theorem aL {σ:Type} {id:Nat} {a0:Act} {w:World} {Q:Exit->Act->World->Prop} (V:σ->Nat->Value) (R:σ->(Nat->Bool)->World->Prop) {aT:σ->Act}
  (hm:P.follows .mixedOrders=true) (hB:EW ops a0.tmps.size=true) (hT:∀ s,oO ops (V s) a0 ops.size=aT s) (s0:σ) (h0:R s0 (fun _=>false) w.drew)
  (step:∀ (i:Nat) (o:Oper),ops[i]?=some o->∀ (s:σ) (l:Nat->Bool) (wx:World),R s l wx->l i=false->(∀ e∈o.after,Region.binds .any e=true->l e.on=true) ->
   ∀ K:Act->World->Prop,(∀ (s':σ) (w':World),(∀ j,l j=true->V s' j=V s j)->R s' (fun j=>j==i||l j) w'->K ((aT s).put o.dst (V s' i)) w') ->
    if Region.wanted o (yielded ops (aT s).tmps) then o.wp P (aT s) wx K NoWay else K ((aT s).put o.dst undef) wx)
  (fin:∀ (s:σ) (l:Nat->Bool) (wx:World),(∀ j,j<ops.size->l j=true)->R s l wx->Q .normal (aT s) wx):(Code.region id ops true).wp P Q a0 w :=
 fZ V R aT hm (fun _ _=>false) hB (fun s=>(hT s).symm) s0 h0 (fun _ _ _ _ h=>by cases h) (fun _ _ _ _ _ _ _ h=>by cases h) step fin
theorem aP {o:Oper} {a:Act} {w:World} {K:Act->World->Prop} {Q:Exit->Act->World->Prop} (hw:Region.wanted o (yielded ops a.tmps)=true) (ty:TypeId) (x:Operand) (ho:o.op=.load ty x)
  (g:Nat) (hx:a.eval x=.pointer (some ⟨g,0,none⟩)) (t:TypeId) (cs:Array Value) (fr:Nat×Nat) (d:TypeDesc) (hg:w.heap[g]?=some (.cells cs t fr))
  (hu:P.underlying ty=some d) (hd:(match d with | .struct _ | .array _ _=>true | _=>false)=true) (hi:(P.info? ty).map (·.size)=some cs.size)
  (h:K (a.put o.dst (.agg cs)) w):if Region.wanted o (yielded ops a.tmps) then o.wp P a w K Q else K (a.put o.dst undef) w:=by
 rw[if_pos hw];exact wp_load_row ty x ho g hx t cs fr d hg hu hd hi h
end
/-! ### Rows in memory -/
abbrev Sn:=Int×Int×Int
def Cy (x:Sn):List Value:=[.int .i64 x.1,.int .u32 x.2.1,.int .i64 x.2.2]
def pJ (l:List Sn):List Value:=l.flatMap Cy
theorem tN (a b:List Sn):pJ (a++b)=pJ a++pJ b:=List.flatMap_append
theorem Bw:∀ (l:List Sn) (j:Nat) (x:Sn),l[j]?=some x->(pJ l)[j*3]?=some (.int .i64 x.1)/\(pJ l)[j*3+1]?=some (.int .u32 x.2.1)/\(pJ l)[j*3+2]?=some (.int .i64 x.2.2)
 | [],j,x,h=>by simp at h
 | y :: l,0,x,h=>by
  simp at h;subst h;exact⟨rfl,rfl,rfl⟩
 | y :: l,j+1,x,h=>by
  have:=Bw l j x (by simpa using h);have e:pJ (y :: l)=Cy y++pJ l:=rfl;rw[e,show (j+1)*3=(Cy y).length+j*3 by simp[Cy];omega];refine⟨?_,?_,?_⟩
  ·rw[List.getElem?_append_right oZ,Nat.add_sub_cancel_left];exact this.1
  ·rw[Nat.add_assoc,List.getElem?_append_right oZ,Nat.add_sub_cancel_left];exact this.2.1
  ·rw[Nat.add_assoc,List.getElem?_append_right oZ,Nat.add_sub_cancel_left];exact this.2.2
def nC (w:World) (base:Nat) (v:Value) (l:List Sn):Prop:=w.ownsRow base 133 3 v l.length (pJ l)
def sK (w:World) (oa:Option Addr) (l:List Sn):Prop:=∀ (j:Nat) (x:Sn),l[j]?=some x->∃ g o:Nat,oa=some ⟨g,o,none⟩/\w.cell? ⟨g,o+j*3,none⟩=some (.int .i64 x.1)/\w.cell? ⟨g,o+j*3+1,none⟩=some (.int .u32 x.2.1)/\w.cell? ⟨g,o+j*3+2,none⟩=some (.int .i64 x.2.2)
theorem sK.below {w w':World} {oa:Option Addr} {l:List Sn} (h:sK w oa l) (hb:Below w.heap.size w w'):sK w' oa l:=fun j x hj=>by
 obtain⟨g,o,h0,h1,h2,h3⟩:=h j x hj;exact⟨g,o,h0,az h1 hb,az h2 hb,az h3 hb⟩
theorem yB {w:World} {base:Nat} {v:Value} {l:List Sn} (h:nC w base v l):∃ oa cap,v=.slice oa l.length cap/\l.length<=cap/\cap<=maxLen/\sK w oa l:=by
 rcases h.2 with ⟨rfl,h0⟩ | ⟨g,cap,cur,rfl,hb,hg,hn,hm,hs,ht⟩
 ·have:l=[]:=List.eq_nil_of_length_eq_zero h0;subst this;exact⟨none,0,rfl,sZ,by simp[maxLen],fun j x hj=>by simp at hj⟩
 ·refine⟨_,cap,rfl,hn,hm,fun j x hj=>⟨g,0,rfl,?_⟩⟩;have h3:=Bw l j x hj;have hc:=World.ownsRow.cells h (g:=g) rfl;simp only[Addr.add_lit] at hc;exact⟨hc _ _ h3.1,by simpa [Nat.add_assoc] using hc _ _ h3.2.1,by simpa [Nat.add_assoc] using hc _ _ h3.2.2⟩
theorem Mm (f g p q s t:Int) (w:World):(Op.equalIn 10000 133 (.agg #[.int .i64 f,.int .u32 s,.int .i64 p]) (.agg #[.int .i64 g,.int .u32 t,.int .i64 q])).run Tryz.prog w=.ok (f==g&&(s==t&&p==q)) w:=by
 have u5:=Tryz.underlying32;have a5:=Tryz.isAgg32;have z5:=Tryz.sizeOf32;have u3:=Tryz.underlying3;have a3:=Tryz.isAgg3;have z3:=Tryz.sizeOf3;have hS:Tryz.prog.underlying 133=some (.struct (Tryz.prog.fieldsOf 133)):=kZ;rw[show (10000:Nat)=9999+1 from rfl,run_equalIn_agg w 9999 133 _ _ hS kZ];simp only[Program.fieldsOf,Tryz.underlying133];cases h1:(f==g)
 ·go_simp
 ·go_simp;by_cases hs:s=t <;> by_cases hp:p=q <;> simp[hs,hp]
theorem Jl (x y:Sn) (w:World):(Op.equalIn 10000 133 (.agg #[.int .i64 x.1,.int .u32 x.2.1,.int .i64 x.2.2]) (.agg #[.int .i64 y.1,.int .u32 y.2.1,.int .i64 y.2.2])).run Tryz.prog w=.ok (decide (x=y)) w:=by
 obtain⟨f,s,p⟩:=x;obtain⟨g,t,q⟩:=y;rw[Mm];congr 1
 by_cases h1:f=g <;> by_cases h2:s=t <;> by_cases h3:p=q <;> simp[h1,h2,h3]
theorem I1 (w:World) (oa ob:Option Addr) (ca cb:Nat) (A B:List Sn) (ha:sK w oa A) (hb:sK w ob B) (hn:A.length<=1000000) :
  Calls Tryz.prog 27 #[.slice oa A.length ca,.slice ob B.length cb] w fun e w'=>e=.returned (.bool (decide (A=B)))/\Below w.heap.size w w':=by
 have HA:=hJ ha;have HB:=hJ hb;clear ha hb;by_cases hl:A.length=B.length
 ·have hI:(A.length:Int)=(B.length:Int):=oZ;have HL:=hJ hl;clear hl;go_enter Tryz.func27,Tryz.ntmps27
  go_wp2_with fail
  go_loopw [13] (fun iv wr=>∃ i:Nat,i<=A.length/\iv=.int .i64 i/\Hid (A.take i=B.take i)/\∃ m,wr=w.drewN m) (fun i _=>A.length-(intOf i).toNat)
  case atStart=>exact⟨0,oZ,rfl,hJ rfl,0,rfl⟩
  case round =>
   obtain⟨i,hi,rfl,HT,m,rfl⟩:=hrel;by_cases hlt:i<A.length
   ·obtain⟨x,hx⟩:∃ x,A[i]?=some x:=⟨_,gZ hlt⟩;obtain⟨y,hy⟩:∃ y,B[i]?=some y:=⟨_,gZ (by have:=HL.out;omega)⟩;obtain⟨gx,ox,rfl,x0,x1,x2⟩:=HA.out i x hx;obtain⟨gy,oy,rfl,y0,y1,y2⟩:=HB.out i y hy;have hlt1:(i:Int)<(A.length:Int):=oZ;have hlt2:(i:Int)<(B.length:Int):=oZ;have HX:=hJ (And.intro hx hy);have heq:=Jl x y;clear hx hy;by_cases hxy:x=y
    ·rw[decide_eq_true hxy] at heq;have HXY:=hJ hxy;obtain⟨f,s,p⟩:=x;obtain⟨g,t,q⟩:=y;simp only at x0 x1 x2 y0 y1 y2 heq;clear hxy;go_wp2_with fail
     go_quiet (fail)
     go_wp2_with fail
     go_roundw
     case rel=>exact⟨i+1,oZ,by go_num,hJ (by rw[List.take_add_one,List.take_add_one,HX.out.1,HX.out.2,HT.out,HXY.out]),_,rfl⟩
     case measure=>simp[intOf];omega
    ·rw[decide_eq_false hxy] at heq;have HXY:=hJ hxy;have HD:=hJ (show A≠B from fun e=>hxy (by have:=HX.out.1;rw[e,HX.out.2] at this;simpa using this.symm));obtain⟨f,s,p⟩:=x;obtain⟨g,t,q⟩:=y;simp only at x0 x1 x2 y0 y1 y2 heq;clear hxy;go_wp2_with fail
     go_quiet (fail)
     go_wp2_with fail
     go_ret;have:=HD.out;exact⟨by simp[this],dm (dm (Below.refl _ _) _) _⟩
   ·go_wp2_with fail
    go_ret
    have:A=B:=by
     have:=HT.out;rwa [List.take_of_length_le oZ,List.take_of_length_le (by have:=HL.out;omega)] at this
    exact⟨by simp[this],dm (Below.refl _ _) _⟩
 ·have hI:(A.length:Int)≠(B.length:Int):=oZ;have:A≠B:=fun e=>hl (by rw[e]);have HD:=hJ this;clear hl this;go_enter Tryz.func27,Tryz.ntmps27
  go_wp2_with fail
  go_ret;have:=HD.out;exact⟨by simp[this],Below.refl _ _⟩
section
variable {P:Program}
theorem wX (w:World) (g o:Nat) (t ty:TypeId) (cur cs:Array Value) (fr:Nat×Nat) (d:TypeDesc) (hg:w.heap[g]?=some (.cells cur t fr)) (hp:∀ (j:Nat) (v:Value),cs.toList[j]?=some v->cur[o+j]?=some v)
  (hu:P.underlying ty=some d) (hd:(match d with | .struct _ | .array _ _=>true | _=>false)=true) (hi:(P.info? ty).map (·.size)=some cs.size) :
  (loadVar ty ⟨g,o,none⟩).run P w=.ok (.agg cs) w:=by
 have hl:(loadCells ⟨g,o,none⟩ cs.toList.length).run P w=.ok cs.toList.toArray w :=
  run_loadCells_list (P:=P) w ⟨g,o,none⟩ cs.toList (fun j v hv=>by
   rw[Addr.add_lit,cell_of_row w g (o+j) cur t fr hg];exact hp j v hv)
 cases hq:P.info? ty with
 | none=>simp[hq] at hi
 | some i =>
  have hs:i.size=cs.size:=by simpa [hq] using hi
  have hagg:(isAgg ty).run P w=.ok true w:=by
   unfold isAgg;rw[Sem.run_bind,run_underlying hu w];cases d <;> simp_all
  simp only[Array.length_toList,Array.toArray_toList] at hl;simp[loadVar,Sem.run_bind,hagg,sizeOf,typeInfo,hq,hs,hl]
theorem aR {o:Oper} {a:Act} {w:World} {K:Act->World->Prop} {Q:Exit->Act->World->Prop} (ty:TypeId) (x:Operand) (ho:o.op=.load ty x)
  (g f:Nat) (hx:a.eval x=.pointer (some ⟨g,f,none⟩)) (t:TypeId) (cur cs:Array Value) (fr:Nat×Nat) (d:TypeDesc) (hg:w.heap[g]?=some (.cells cur t fr)) (hp:∀ (j:Nat) (v:Value),cs.toList[j]?=some v->cur[f+j]?=some v)
  (hu:P.underlying ty=some d) (hd:(match d with | .struct _ | .array _ _=>true | _=>false)=true) (hi:(P.info? ty).map (·.size)=some cs.size)
  (h:K (a.put o.dst (.agg cs)) w):o.wp P a w K Q:=by
 unfold Oper.wp execOp;simp only[ho,hx,Instr.loadAt,Instr.sureAddr,Sem.run_bind,Sem.run_pure,Result.andThen_ok,wX w g f t ty cur cs fr d hg hp hu hd hi];exact h
theorem dC {ops:Array Oper} {rest:List Oper} {o:Oper} {a:Act} {w:World} {Q:Exit->Act->World->Prop} (hgd:o.guard=none) (ty:TypeId) (x:Operand) (ho:o.op=.load ty x)
  (g f:Nat) (hx:a.eval x=.pointer (some ⟨g,f,none⟩)) (t:TypeId) (cur cs:Array Value) (fr:Nat×Nat) (d:TypeDesc) (hg:w.heap[g]?=some (.cells cur t fr)) (hp:∀ (j:Nat) (v:Value),cs.toList[j]?=some v->cur[f+j]?=some v)
  (hu:P.underlying ty=some d) (hd:(match d with | .struct _ | .array _ _=>true | _=>false)=true) (hi:(P.info? ty).map (·.size)=some cs.size)
  (h:wpList P ops Q rest (a.put o.dst (.agg cs)) w):wpList P ops Q (o :: rest) a w :=
 wpList_plain hgd fun _ hK=>aR ty x ho g f hx t cur cs fr d hg hp hu hd hi (hK _ _ h)
theorem vD (w:World) (g o:Nat) (t ty:TypeId) (cur cells new:Array Value) (hg:w.heap[g]?=some (.cells cur t (0,0))) (hl:o+cells.size<=cur.size) (hi:(P.info? ty).map (·.size)=some cells.size) (h1:cells.all (·.oneCell')=true)
  (hn:cur.toList.take o++cells.toList++cur.toList.drop (o+cells.size)=new.toList) :
  (storeVar ty ⟨g,o,none⟩ (.agg cells)).run P w=.ok () (w.setRow g new):=by
 have h:=run_storeCells_at P g o t cells.toList 0 cur w hg uZ (fun v hv=>(Array.all_eq_true_iff_forall_mem.1 h1) v (by simpa using hv));rw[Nat.add_zero,Array.length_toList,hn,Array.toArray_toList] at h;cases hq:P.info? ty with
 | none=>simp[hq] at hi
 | some i =>
  have hs:cells.size=i.size:=by simp[hq] at hi;omega
  simp[storeVar,sizeOf,typeInfo,hq,Value.cells,hs,h]
theorem jC {o:Oper} {a:Act} {w:World} {K:Act->World->Prop} {Q:Exit->Act->World->Prop} (ty:TypeId) (x y:Operand) (ho:o.op=.store ty x y)
  (g f:Nat) (cells:Array Value) (hx:a.eval x=.pointer (some ⟨g,f,none⟩)) (hy:a.eval y=.agg cells)
  (t:TypeId) (cur new:Array Value) (hg:w.heap[g]?=some (.cells cur t (0,0))) (hl:f+cells.size<=cur.size) (hi:(P.info? ty).map (·.size)=some cells.size) (h1:cells.all (·.oneCell')=true)
  (hn:cur.toList.take f++cells.toList++cur.toList.drop (f+cells.size)=new.toList)
  (h:K (a.put o.dst undef) (w.setRow g new)):o.wp P a w K Q:=by
 unfold Oper.wp execOp;simp only[ho,hx,hy,Instr.storeAt,Instr.sureAddr,Sem.run_bind,Sem.run_pure,Result.andThen_ok,vD w g f t ty cur cells new hg hl hi h1 hn];exact h
theorem dw {ops:Array Oper} {rest:List Oper} {o:Oper} {a:Act} {w:World} {Q:Exit->Act->World->Prop} (hgd:o.guard=none) (ty:TypeId) (x y:Operand) (ho:o.op=.store ty x y)
  (g f:Nat) (cells:Array Value) (hx:a.eval x=.pointer (some ⟨g,f,none⟩)) (hy:a.eval y=.agg cells)
  (t:TypeId) (cur new:Array Value) (hg:w.heap[g]?=some (.cells cur t (0,0))) (hl:f+cells.size<=cur.size) (hi:(P.info? ty).map (·.size)=some cells.size) (h1:cells.all (·.oneCell')=true)
  (hn:cur.toList.take f++cells.toList++cur.toList.drop (f+cells.size)=new.toList)
  (h:wpList P ops Q rest (a.put o.dst undef) (w.setRow g new)):wpList P ops Q (o :: rest) a w :=
 wpList_plain hgd fun _ hK=>jC ty x y ho g f cells hx hy t cur new hg hl hi h1 hn (hK _ _ h)
end
section
variable {P:Program} {ops:Array Oper}
theorem A9:mI ops (fun _=>false):=fun _ _ _ h=>by cases h
theorem Di {l:Nat->Bool} (h:mI ops l) {i:Nat} {o:Oper} (ho:ops[i]?=some o) (he:∀ e∈o.after,Region.binds .any e=true->l e.on=true):mI ops (fun j=>j==i||l j):=by
 intro j o' hj hl e hm hb;by_cases hji:j=i
 ·subst hji;rw[ho] at hj;cases hj;simp[he e hm hb]
 ·have:l j=true:=by simpa [hji] using hl
  simp[h j o' hj this e hm hb]
end
theorem aI {P:Program} {ops:Array Oper} {σ:Type} {id:Nat} {a0:Act} {w:World} {Q:Exit->Act->World->Prop} (V:σ->Nat->Value) (R:σ->(Nat->Bool)->World->Prop) {aT:σ->Act}
  (hm:P.follows .mixedOrders=true) (hB:EW ops a0.tmps.size=true) (hT:∀ s,oO ops (V s) a0 ops.size=aT s) (s0:σ) (h0:R s0 (fun _=>false) w.drew)
  (step:∀ (i:Nat) (o:Oper),ops[i]?=some o->∀ (s:σ) (l:Nat->Bool) (wx:World),R s l wx->l i=false->(∀ e∈o.after,Region.binds .any e=true->l e.on=true)->mI ops l ->
   ∀ K:Act->World->Prop,(∀ (s':σ) (w':World),(∀ j,l j=true->V s' j=V s j)->R s' (fun j=>j==i||l j) w'->K ((aT s).put o.dst (V s' i)) w') ->
    if Region.wanted o (yielded ops (aT s).tmps) then o.wp P (aT s) wx K NoWay else K ((aT s).put o.dst undef) wx)
  (fin:∀ (s:σ) (l:Nat->Bool) (wx:World),(∀ j,j<ops.size->l j=true)->R s l wx->Q .normal (aT s) wx):(Code.region id ops true).wp P Q a0 w :=
 aL V (fun s l wx=>R s l wx/\mI ops l) hm hB hT s0 ⟨h0,A9⟩
  (fun i o ho s l wx hR hl he K hK=>step i o ho s l wx hR.1 hl he hR.2 K (fun s' w' hV hR'=>hK s' w' hV ⟨hR',Di hR.2 ho he⟩))
  (fun s l wx hall hR=>fin s l wx hall hR.1)
end Go.Proofs.YtafaohnhlgcnpaaGreatDoor
