/-
 What stage 12 rests on.
-/
import Derived.Test.YtafaohnhlgcnpaaGreatDoorWrAlA1
import Derived.LaidMore
import Derived.Stop.Joined
set_option maxRecDepth 100000
set_option maxHeartbeats 16000000
namespace Go.Proofs.YtafaohnhlgcnpaaGreatDoor
def kG (r:Int):Prop:=(48<=r/\r<=57)∨(1632<=r/\r<=1641)
def jk (r:Int):Prop:=(65<=r/\r<=90)∨(97<=r/\r<=122)∨(192<=r/\r<=591/\r≠215/\r≠247)∨r=902∨(904<=r/\r<=906)∨r=908∨(910<=r/\r<=929)∨(931<=r/\r<=974) ∨
 (1024<=r/\r<=1153)∨(1162<=r/\r<=1327)∨(1488<=r/\r<=1514)∨(19968<=r/\r<=40959)∨(44032<=r/\r<=55203)
instance (r:Int):Decidable (kG r):=by unfold kG;exact inferInstance
instance (r:Int):Decidable (jk r):=by unfold jk;exact inferInstance
def cO (r:Int):Int:=if kG r then 2 else if jk r then 1 else 0
def Lc (r:Int):Prop:=(65<=r/\r<=90)∨(192<=r/\r<=222/\r≠215)∨(913<=r/\r<=939/\r≠930)∨(1040<=r/\r<=1071)
def wM (r:Int):Prop:=(256<=r/\r<=311)∨(330<=r/\r<=375)∨(1120<=r/\r<=1153)∨(1162<=r/\r<=1215)∨(1232<=r/\r<=1327)
def De (r:Int):Prop:=(313<=r/\r<=328)∨(377<=r/\r<=382)
instance (r:Int):Decidable (Lc r):=by unfold Lc;exact inferInstance
instance (r:Int):Decidable (wM r):=by unfold wM;exact inferInstance
instance (r:Int):Decidable (De r):=by unfold De;exact inferInstance
def fK (r:Int):Int :=
 if Lc r then r+32
 else if(wM r/\r % 2=0)∨(De r/\r % 2=1) then r+1
 else if r=376 then 255 else if r=383 then 115 else if r=902 then 940 else if r=908 then 972 else if r=962 then 963
 else if 904<=r/\r<=906 then r+37 else if 910<=r/\r<=911 then r+63 else if 1024<=r/\r<=1039 then r+80 else if 1632<=r/\r<=1641 then r-1584
 else r
theorem mW {r:Int} (h:r<0∨1641<r):fK r=r:=by
 unfold fK Lc wM De;repeat' split
 all_goals omega
theorem Fx:∀ n:Nat,n<1642->fK (fK ((n:Nat):Int))=fK ((n:Nat):Int)/\cO (fK ((n:Nat):Int))=cO ((n:Nat):Int):=by decide +kernel
theorem GD (r:Int):fK (fK r)=fK r/\cO (fK r)=cO r:=by
 by_cases h:r<0∨1641<r
 ·rw[mW h,mW h];exact⟨rfl,rfl⟩
 ·obtain⟨n,rfl⟩:=Int.eq_ofNat_of_zero_le (by omega:0<=r);exact Fx n oZ
/-! ### No more than three -/
def first (f:Int):Int :=
 if 97<=f/\f<=122∨224<=f/\f<=254∨945<=f/\f<=971∨1072<=f/\f<=1103 then f-32
 else if f=255 then 376 else if f=940 then 902 else if f=972 then 908
 else if 941<=f/\f<=943 then f-37 else if 973<=f/\f<=974 then f-63 else if 1104<=f/\f<=1119 then f-80 else if 48<=f/\f<=57 then f+1584
 else f-1
def second (f:Int):Int:=if f=115 then 383 else if f=963 then 962 else f
end Go.Proofs.YtafaohnhlgcnpaaGreatDoor
namespace Go.Proofs.YtafaohnhlgcnpaaGreatDoor
open Go.ChangeShapes Go.WideShapes Go.ChangeAt Go.RowKit
/-! ### A plain datum's cells -/
def iA (P:Program) (f:TypeId->DataW Unit->Option (List Value)) (tot:Nat):Nat->List (TypeId×Nat)->List (DataW Unit)->Option (List Value)
 | o,[],[]=>if o=tot then some [] else none
 | o,(t,off) :: ps,d :: ds=>if off=o then(f t d).bind fun x=>(iA P f tot (o+P.cellsOf t) ps ds).map fun r=>x++r else none
 | _,_,_=>none
def vX (P:Program):Nat->TypeId->DataW Unit->Option (List Value)
 | 0,_,_=>none
 | n+1,t,d =>
  match P.underlying t,d with
  | some .bool,.lit (.bool b)=>some [.bool b]
  | some (.int _),.lit (.int k' z)=>some [.int k' z]
  | some .string,.lit (.string l)=>some [.string ⟨l.toArray⟩]
  | some (.struct fs),.agg ds=>iA P (vX P n) (P.cellsOf t) 0 (fs.toList.map fun f=>(f.type,f.offset)) ds
  | some (.array m e),.agg ds=>iA P (vX P n) (P.cellsOf t) 0 ((List.range m).map fun i=>(e,i*P.cellsOf e)) ds
  | _,_=>none
theorem qA {P:Program} {f:TypeId->DataW Unit->Option (List Value)} {Good:TypeId->List Value->DataW Unit->Prop} (hf:∀ t d cs x,Good t cs d->f t d=some x->cs=x) {cs:List Value} :
  ∀ (ps:List (TypeId×Nat)) (ds:List (DataW Unit)) (o:Nat) (r:List Value),(∀ (i:Nat) (t:TypeId) (off:Nat),ps[i]?=some (t,off)->∃ d,ds[i]?=some d/\Good t ((cs.drop off).take (P.cellsOf t)) d)->iA P f cs.length o ps ds=some r->cs.drop o=r
 | [],[],o,r,_,h=>by
  simp only[iA] at h;split at h
  ·injection h with h
   subst h;rw[List.drop_eq_nil_of_le oZ]
  ·cases h
 | [],d :: ds,o,r,_,h=>by simp[iA] at h
 | p :: ps,[],o,r,_,h=>by obtain⟨t,off⟩:=p;simp[iA] at h
 | (t,off) :: ps,d :: ds,o,r,hg,h=>by
  simp only[iA] at h;split at h
  ·rename_i ho
   subst ho;obtain⟨x,hx,h2⟩:=Option.bind_eq_some_iff.1 h;obtain⟨r2,hr2,rfl⟩:=Option.map_eq_some_iff.1 h2;obtain⟨d',hd',hgd⟩:=hg 0 t off rfl;simp only[List.getElem?_cons_zero,Option.some.injEq] at hd';subst hd';have h1:=hf t d _ x hgd hx;have h3:=qA hf ps ds (off+P.cellsOf t) r2 (fun i t' o' hi=>by simpa using hg (i+1) t' o' (by simpa using hi)) hr2;rw[<- h1,<- h3,<- List.drop_drop,List.take_append_drop]
  ·cases h
theorem xD {P:Program} {w:World} {base:Nat} {sp:Nat->Bool} {held:Bool}:∀ (n fuel:Nat) (t:TypeId) (cs:List Value) (d:DataW Unit) (p:List MemPlace) (xs:List Value),
  DataW.trod (fun _=>()) P w base sp held fuel t cs=some (d,p)->vX P n t d=some xs->cs=xs
 | 0,_,_,_,_,_,_,_,h=>by simp[vX] at h
 | n+1,fuel,t,cs,d,p,xs,ht,h=>by
  have parts:∀ (ps:List (TypeId×Nat)) (ys:List (DataW Unit×List MemPlace)) (m:Nat),cs.length=P.cellsOf t ->
    (∀ (i:Nat) (t':TypeId) (off:Nat),ps[i]?=some (t',off)->DataW.trod (fun _=>()) P w base sp held m t' ((cs.drop off).take (P.cellsOf t'))=ys[i]?/\i<ys.length)->iA P (vX P n) (P.cellsOf t) 0 ps (ys.map (·.1))=some xs->cs=xs:=by
   intro ps ys m hl hp hfl;rw[<- hl] at hfl
   have:=qA (Good:=fun t cs d=>∃ m p,DataW.trod (fun _=>()) P w base sp held m t cs=some (d,p)) (fun t d cs x ⟨m,p,hg⟩ hx=>xD n m t cs d p x hg hx) ps _ 0 xs (fun i t' off hi=>by
    obtain⟨h1,h2⟩:=hp i t' off hi;refine⟨(ys[i]).1,by simp[h2],m,(ys[i]).2,?_⟩;rw[h1];simp[h2]) hfl
   simpa using this
  unfold vX at h;split at h
  ·rename_i hu
   obtain⟨b',rfl,hx⟩:=DataW.trod_bool hu ht;simp at hx h;rw[<- h,hx.1]
  ·rename_i hu
   obtain⟨z',rfl,hx,_⟩:=DataW.trod_int hu ht;simp at hx h;rw[<- h,hx.1.1,hx.1.2]
  ·rename_i hu
   obtain⟨s,rfl,hx,_⟩:=DataW.trod_string hu ht;simp at hx h;rw[<- h,hx.1]
  ·rename_i hu
   obtain⟨ys,m,rfl,hx,hl,hn,he⟩:=DataW.trod_struct hu ht;simp only[Prod.mk.injEq,DataW.agg.injEq] at hx;rw[hx.1] at h;refine parts _ ys m hl (fun i t' off hi=>?_) h;rw[List.getElem?_map] at hi;obtain⟨f,hf,hft⟩:=Option.map_eq_some_iff.1 hi;injection hft with h1 h2
   subst h1 h2;refine⟨he i f (by simpa using hf),?_⟩;have:=(eZ.1 hf).1;simp at this;omega
  ·rename_i hu
   obtain⟨ys,m,rfl,hx,hl,hn,he⟩:=DataW.trod_array hu ht;simp only[Prod.mk.injEq,DataW.agg.injEq] at hx;rw[hx.1] at h;refine parts _ ys m hl (fun i t' off hi=>?_) h;rw[List.getElem?_map] at hi;obtain⟨j,hj,hft⟩:=Option.map_eq_some_iff.1 hi;obtain⟨hj1,rfl⟩:=eZ.1 hj;simp at hj1;simp only[List.getElem_range,Prod.mk.injEq] at hft;obtain⟨rfl,rfl⟩:=hft;exact⟨he i hj1,oZ⟩
  ·cases h
def VarReads (P:Program) (w:World) (name:String) (d:DataW Unit):Prop :=
 ∃ g t cs fuel p,P.globalNamed name=some g/\(P.globals[g]?).map (·.type)=some t/\w.var? P name=some cs/\DataW.trod (fun _=>()) P w 0 (fun _=>true) false fuel t cs.toList=some (d,p)
theorem mY {P:Program} {w:World}:∀ {laid:List (String×DataW Unit)} {ps:List MemPlace},DataW.LaidVars P w laid ps->∀ n d,(n,d)∈laid->VarReads P w n d
 | [],_,_,n,d,hm=>by simp at hm
 | (n',d') :: r,ps,h,n,d,hm=>by
  obtain⟨g,t,cs,fuel,p,q,h1,h2,h3,h4,h5,_⟩:=h;rcases List.mem_cons.1 hm with e | hm
  ·cases e;exact⟨g,t,cs,fuel,p,h1,h2,h3,h4⟩
  ·exact mY h5 n d hm
theorem vN {P:Program} {w:World} {laid:List (String×DataW Unit)} (hp:(laid.all fun x=>x.2.handleName?.isNone)=true) (h:laidMetH P laid w) (n:String) (d:DataW Unit) (hm:(n,d)∈laid):VarReads P w n d:=by
 rw[MakeChecks.laidMetH_plain _ _ _ hp] at h;obtain⟨ps,hl,_⟩:=h;exact mY hl n d hm
/-! ### The frame of a law that reads such variables -/
section
variable {H:Type} {enc:TypeId×Value->H}
theorem Ji {C:Checked} {os:Os} {F:FuncId} {f:Func} {s:ChangeSpec} {tb:TypeId} {conds:List PathCond} (laid:List (String×DataW Unit)) (own:ownKnob C.prog.godebug=none) (started:os.Started) (noInit:C.prog.inits.idxOf? F=none)
  (hfn:C.prog.funcs[F]?=some f) (hl:laidOutB C.prog=true) (hr:(f.params.toList.all fun t=>C.prog.readableRec t&&decide (t<C.prog.types.size))=true) (hres:f.resultTypes=#[tb])
  (hub:C.prog.underlying tb=some .bool) (hvars:s.vars=[])
  (witness:∃ (w:World) (tape:Tape) (i:Input),w.os=os/\(w.forCall tape i).Shaped C.prog/\i.vars=[]/\Input.okWide C.prog (w.forCall tape i) .any w.heap.size F i /\
   ((s.pre enc C.prog f conds false (w.forCall tape i).memory i.args/\laidMetH C.prog laid (w.forCall tape i).memory)/\sizedMet enc C.prog f (OpenSpec.ofChange s) false (w.forCall tape i).memory i.args)/\({}:Assume).holds C.prog (lone (Frame.enter C.prog F i.args .normal) [] (w.forCall tape i)))
  (hs:∀ ds:List (DataW H),ds.length=f.params.size->s.fn H ds={results:=[.lit (.bool true)],args:=ds})
  (walk:∀ (W:World) (args:Array Value) (ds:List (DataW H)),qw enc C.prog f.params.toList W args ds->laidMetH C.prog laid W->Calls C.prog F args W fun e W'=>e=.returned (.bool true)/\Below W.heap.size W W') :
  ReturnsInHanded {} C os F .any (fun w args=>(s.pre enc C.prog f conds false w args/\laidMetH C.prog laid w)/\sizedMet enc C.prog f (OpenSpec.ofChange s) false w args) (s.post enc C.prog f false true false false):=by
 refine returnsInHanded_of_change_and (C:=C) (X:=fun w _=>laidMetH C.prog laid w) (fun _ _ _ hh h=>h.of_heap hh) own started noInit hfn witness ?_;intro W base args ds gs before hval hW _ hsz hX _;refine(walk W args ds (qw.of_whole hvars hval hW hsz) hX).mono fun e W' ⟨he,hb⟩=>⟨_,he,?_⟩;refine Bu hl hr hres hub hvars hW ?_ hb;obtain⟨p,q,hA,hV,_⟩:=hW;rw[hvars] at hV;obtain⟨rfl,rfl⟩:=trodVars_none hV;rw[List.append_nil];exact hs ds (by rw[<- CB.trodAll_len hA];simp)
end
theorem Jo {laid:List (String×DataW Unit)} {n fuel:Nat} (os:Os) (args:Array Value)
  (h1:(DataW.laidRun Tryz.prog ((World.doorLaid Tryz.prog n os).forCall (fun _ _=>0) ⟨#[],args,[]⟩).memory fuel ((laid.filter fun x=>x.2.handleName?.isNone).map (·.1))).map (·.1)=some (laid.filter fun x=>x.2.handleName?.isNone))
  (h2:(DataW.laidRun Tryz.prog ((World.doorLaid Tryz.prog n os).forCall (fun _ _=>0) ⟨#[],args,[]⟩).memory fuel ((laid.filter fun x=>x.2.handleName?.isNone).map (·.1))).map (fun x=>decide x.2.Nodup&&laidRowsB Tryz.prog ((World.doorLaid Tryz.prog n os).forCall (fun _ _=>0) ⟨#[],args,[]⟩).memory x.2)=some true)
  (h3:(laid.filter fun x=>x.2.handleName?.isSome&&x.2.funcsIn?.isNone).all (handleAtB Tryz.prog ((World.doorLaid Tryz.prog n os).forCall (fun _ _=>0) ⟨#[],args,[]⟩).memory)=true)
  (h4:funcsRun Tryz.prog ((World.doorLaid Tryz.prog n os).forCall (fun _ _=>0) ⟨#[],args,[]⟩).memory fuel ((funcsListed laid).map (·.1))=some ((funcsListed laid).map (·.2.funcsOut))) :
  laidMetH Tryz.prog laid ((World.doorLaid Tryz.prog n os).forCall (fun _ _=>0) ⟨#[],args,[]⟩).memory :=
 laidMetH_of_parts3 (fuel:=fuel) (laidMet_of_run' fuel h1 h2) h3 h4
end Go.Proofs.YtafaohnhlgcnpaaGreatDoor
namespace Go.Proofs.YtafaohnhlgcnpaaGreatDoor
open Go.RowKit
theorem zO (w:World) (r lo hi:Int) (h:lo<=r/\r<=hi):Calls Tryz.prog 209 #[.int .i32 r,.int .i32 lo,.int .i32 hi] w fun e w'=>e=.returned (.bool true)/\w'=w:=by
 obtain⟨h1,h2⟩:=h;go_enter Tryz.func209,Tryz.ntmps209
 go_wp2_with fail
 go_ret;exact⟨rfl,rfl⟩
theorem tV (w:World) (r lo hi:Int) (h:¬ (lo<=r/\r<=hi)):Calls Tryz.prog 209 #[.int .i32 r,.int .i32 lo,.int .i32 hi] w fun e w'=>e=.returned (.bool false)/\w'=w:=by
 by_cases h1:lo<=r
 ·have h2:¬ r<=hi:=fun h2=>h ⟨h1,h2⟩;clear h;go_enter Tryz.func209,Tryz.ntmps209
  go_wp2_with fail
  go_ret;exact⟨rfl,rfl⟩
 ·clear h;go_enter Tryz.func209,Tryz.ntmps209
  go_wp2_with fail
  go_ret;exact⟨rfl,rfl⟩
def xQ (w:World) (r k:Int):Prop:=Calls Tryz.prog 192 #[.int .i32 r] w fun e w'=>e=.returned (.int .i64 k)/\w'=w
def pE (w:World) (r k:Int):Prop:=Calls Tryz.prog 194 #[.int .i32 r] w fun e w'=>e=.returned (.int .i32 k)/\w'=w
theorem tC {p:Prop} (h:p:=by
 have q902:(r==902)=false:=beq_eq_false_iff_ne.2 oZ;have q908:(r==908)=false:=beq_eq_false_iff_ne.2 oZ;try have b215:(r != 215)=true:=bne_iff_ne.2 oZ
 try have b247:(r != 247)=true:=bne_iff_ne.2 oZ
 unfold xQ;go_enter Tryz.func192,Tryz.ntmps192
 go_wp2_with (go_at_call 209;first | (refine(tV _ _ _ _ aZ).mono ?_;rintro _ _ ⟨rfl,rfl⟩) | (refine(zO _ _ _ _ oZ).mono ?_;rintro _ _ ⟨rfl,rfl⟩) | (refine(tV _ _ _ _ oZ).mono ?_;rintro _ _ ⟨rfl,rfl⟩))
 go_ret;exact⟨rfl,rfl⟩):p:=h
theorem Mv {p:Prop} (h:p:=by
 unfold xQ;go_enter Tryz.func192,Tryz.ntmps192
 go_wp2_with (go_at_call 209;first | (refine(tV _ _ _ _ aZ).mono ?_;rintro _ _ ⟨rfl,rfl⟩) | (refine(zO _ _ _ _ oZ).mono ?_;rintro _ _ ⟨rfl,rfl⟩) | (refine(tV _ _ _ _ oZ).mono ?_;rintro _ _ ⟨rfl,rfl⟩))
 go_ret;exact⟨rfl,rfl⟩):p:=h
theorem tF {p:Prop} (h:p:=by
 have q376:(r==376)=false:=beq_eq_false_iff_ne.2 oZ;have q383:(r==383)=false:=beq_eq_false_iff_ne.2 oZ;have q902:(r==902)=false:=beq_eq_false_iff_ne.2 oZ;have q908:(r==908)=false:=beq_eq_false_iff_ne.2 oZ;have q962:(r==962)=false:=beq_eq_false_iff_ne.2 oZ;try have b215:(r != 215)=true:=bne_iff_ne.2 oZ
 try have b930:(r != 930)=true:=bne_iff_ne.2 oZ
 unfold pE;go_enter Tryz.func194,Tryz.ntmps194
 go_wp2_with (go_at_call 209;first | (refine(tV _ _ _ _ aZ).mono ?_;rintro _ _ ⟨rfl,rfl⟩) | (refine(zO _ _ _ _ oZ).mono ?_;rintro _ _ ⟨rfl,rfl⟩) | (refine(tV _ _ _ _ oZ).mono ?_;rintro _ _ ⟨rfl,rfl⟩))
 go_ret;exact⟨rfl,rfl⟩):p:=h
theorem L9 {p:Prop} (h:p:=by
 unfold pE;go_enter Tryz.func194,Tryz.ntmps194
 go_wp2_with (go_at_call 209;first | (refine(tV _ _ _ _ aZ).mono ?_;rintro _ _ ⟨rfl,rfl⟩) | (refine(zO _ _ _ _ oZ).mono ?_;rintro _ _ ⟨rfl,rfl⟩) | (refine(tV _ _ _ _ oZ).mono ?_;rintro _ _ ⟨rfl,rfl⟩))
 go_ret;exact⟨rfl,rfl⟩):p:=h
theorem Kv (w:World) (r:Int) (h:48<=r/\r<=57):xQ w r 2:=by
 obtain⟨h1,h2⟩:=h;exact tC
theorem FN (w:World) (r:Int) (h:1632<=r/\r<=1641):xQ w r 2:=by
 obtain⟨h1,h2⟩:=h;exact tC
theorem Kq (w:World) (r:Int) (h:65<=r/\r<=90):xQ w r 1:=by
 obtain⟨h1,h2⟩:=h;exact tC
theorem Ku (w:World) (r:Int) (h:97<=r/\r<=122):xQ w r 1:=by
 obtain⟨h1,h2⟩:=h;exact tC
theorem Ig (w:World) (r:Int) (h1:192<=r) (h2:r<=591) (h3:r≠215) (h4:r≠247):xQ w r 1:=by
 exact tC
theorem JH (w:World) (r:Int) (h:r=215):xQ w r 0:=by
 subst h;exact Mv
theorem Ip (w:World) (r:Int) (h:r=247):xQ w r 0:=by
 subst h;exact Mv
theorem Ju (w:World) (r:Int) (h:r=902):xQ w r 1:=by
 subst h;exact Mv
theorem I7 (w:World) (r:Int) (h:904<=r/\r<=906):xQ w r 1:=by
 obtain⟨h1,h2⟩:=h;exact tC
theorem IU (w:World) (r:Int) (h:r=908):xQ w r 1:=by
 subst h;exact Mv
theorem I8 (w:World) (r:Int) (h:910<=r/\r<=929):xQ w r 1:=by
 obtain⟨h1,h2⟩:=h;exact tC
theorem Jz (w:World) (r:Int) (h:931<=r/\r<=974):xQ w r 1:=by
 obtain⟨h1,h2⟩:=h;exact tC
theorem F8 (w:World) (r:Int) (h:1024<=r/\r<=1153):xQ w r 1:=by
 obtain⟨h1,h2⟩:=h;exact tC
theorem Fw (w:World) (r:Int) (h:1162<=r/\r<=1327):xQ w r 1:=by
 obtain⟨h1,h2⟩:=h;exact tC
theorem FH (w:World) (r:Int) (h:1488<=r/\r<=1514):xQ w r 1:=by
 obtain⟨h1,h2⟩:=h;exact tC
theorem C9 (w:World) (r:Int) (h:19968<=r/\r<=40959):xQ w r 1:=by
 obtain⟨h1,h2⟩:=h;exact tC
theorem Ec (w:World) (r:Int) (h:44032<=r/\r<=55203):xQ w r 1:=by
 obtain⟨h1,h2⟩:=h;exact tC
theorem Gw (w:World) (r:Int) (n48:¬ (48<=r/\r<=57)) (n1632:¬ (1632<=r/\r<=1641)) (n65:¬ (65<=r/\r<=90)) (n97:¬ (97<=r/\r<=122)) (n192:¬ (192<=r/\r<=591)) (n902:r≠902) (n904:¬ (904<=r/\r<=906)) (n908:r≠908) (n910:¬ (910<=r/\r<=929)) (n931:¬ (931<=r/\r<=974)) (n1024:¬ (1024<=r/\r<=1153)) (n1162:¬ (1162<=r/\r<=1327)) (n1488:¬ (1488<=r/\r<=1514)) (n19968:¬ (19968<=r/\r<=40959)) (n44032:¬ (44032<=r/\r<=55203)):xQ w r 0:=by
 exact tC
theorem FE (w:World) (r:Int):Calls Tryz.prog 192 #[.int .i32 r] w fun e w'=>e=.returned (.int .i64 (cO r))/\w'=w:=by
 have two:kG r->cO r=2:=fun h=>by unfold cO;rw[if_pos h]
 have one:¬ kG r->jk r->cO r=1:=fun h k=>by unfold cO;rw[if_neg h,if_pos k]
 have zero:¬ kG r->¬ jk r->cO r=0:=fun h k=>by unfold cO;rw[if_neg h,if_neg k]
 unfold kG jk at *;by_cases n48:48<=r/\r<=57
 ·rw[two oZ];exact Kv w r n48
 by_cases n1632:1632<=r/\r<=1641
 ·rw[two oZ];exact FN w r n1632
 by_cases n65:65<=r/\r<=90
 ·rw[one oZ oZ];exact Kq w r n65
 by_cases n97:97<=r/\r<=122
 ·rw[one oZ oZ];exact Ku w r n97
 by_cases n192:192<=r/\r<=591
 ·clear n48 n1632 n65 n97;by_cases e1:r=215
  ·rw[zero oZ oZ];exact JH w r e1
  by_cases e2:r=247
  ·rw[zero oZ oZ];exact Ip w r e2
  rw[one oZ oZ];exact Ig w r n192.1 n192.2 e1 e2
 by_cases n902:r=902
 ·rw[one oZ oZ];exact Ju w r n902
 by_cases n904:904<=r/\r<=906
 ·rw[one oZ oZ];exact I7 w r n904
 by_cases n908:r=908
 ·rw[one oZ oZ];exact IU w r n908
 by_cases n910:910<=r/\r<=929
 ·rw[one oZ oZ];exact I8 w r n910
 by_cases n931:931<=r/\r<=974
 ·rw[one oZ oZ];exact Jz w r n931
 by_cases n1024:1024<=r/\r<=1153
 ·rw[one oZ oZ];exact F8 w r n1024
 by_cases n1162:1162<=r/\r<=1327
 ·rw[one oZ oZ];exact Fw w r n1162
 by_cases n1488:1488<=r/\r<=1514
 ·rw[one oZ oZ];exact FH w r n1488
 by_cases n19968:19968<=r/\r<=40959
 ·rw[one oZ oZ];exact C9 w r n19968
 by_cases n44032:44032<=r/\r<=55203
 ·rw[one oZ oZ];exact Ec w r n44032
 rw[zero oZ oZ];exact Gw w r n48 n1632 n65 n97 n192 n902 n904 n908 n910 n931 n1024 n1162 n1488 n19968 n44032
theorem Kj (w:World) (r:Int) (h:65<=r/\r<=90):pE w r (r+32):=by
 obtain⟨h1,h2⟩:=h;exact tF
theorem JK (w:World) (r:Int) (h1:192<=r) (h2:r<=222) (h3:r≠215):pE w r (r+32):=by
 exact tF
theorem IP (w:World) (r:Int) (h:r=215):pE w r (r):=by
 subst h;exact L9
theorem Ie (w:World) (r:Int) (h1:913<=r) (h2:r<=939) (h3:r≠930):pE w r (r+32):=by
 exact tF
theorem Iy (w:World) (r:Int) (h:r=930):pE w r (r):=by
 subst h;exact L9
theorem Gd (w:World) (r:Int) (h:1040<=r/\r<=1071):pE w r (r+32):=by
 obtain⟨h1,h2⟩:=h;exact tF
theorem DX (w:World) (r:Int) (h1:256<=r) (h2:r<=311) (hm:r % 2=0):pE w r (r+1):=by
 have m0:(r % 2==0)=true:=by simp;omega
 have m1:(r % 2==1)=false:=by simp;omega
 exact tF
theorem C8 (w:World) (r:Int) (h1:256<=r) (h2:r<=311) (hm:r % 2=1):pE w r (r):=by
 have m0:(r % 2==0)=false:=by simp;omega
 have m1:(r % 2==1)=true:=by simp;omega
 exact tF
theorem Dr (w:World) (r:Int) (h1:330<=r) (h2:r<=375) (hm:r % 2=0):pE w r (r+1):=by
 have m0:(r % 2==0)=true:=by simp;omega
 have m1:(r % 2==1)=false:=by simp;omega
 exact tF
theorem DR (w:World) (r:Int) (h1:330<=r) (h2:r<=375) (hm:r % 2=1):pE w r (r):=by
 have m0:(r % 2==0)=false:=by simp;omega
 have m1:(r % 2==1)=true:=by simp;omega
 exact tF
theorem A7 (w:World) (r:Int) (h1:1120<=r) (h2:r<=1153) (hm:r % 2=0):pE w r (r+1):=by
 have m0:(r % 2==0)=true:=by simp;omega
 have m1:(r % 2==1)=false:=by simp;omega
 exact tF
theorem BU (w:World) (r:Int) (h1:1120<=r) (h2:r<=1153) (hm:r % 2=1):pE w r (r):=by
 have m0:(r % 2==0)=false:=by simp;omega
 have m1:(r % 2==1)=true:=by simp;omega
 exact tF
theorem Ch (w:World) (r:Int) (h1:1162<=r) (h2:r<=1215) (hm:r % 2=0):pE w r (r+1):=by
 have m0:(r % 2==0)=true:=by simp;omega
 have m1:(r % 2==1)=false:=by simp;omega
 exact tF
theorem Bb (w:World) (r:Int) (h1:1162<=r) (h2:r<=1215) (hm:r % 2=1):pE w r (r):=by
 have m0:(r % 2==0)=false:=by simp;omega
 have m1:(r % 2==1)=true:=by simp;omega
 exact tF
theorem Ba (w:World) (r:Int) (h1:1232<=r) (h2:r<=1327) (hm:r % 2=0):pE w r (r+1):=by
 have m0:(r % 2==0)=true:=by simp;omega
 have m1:(r % 2==1)=false:=by simp;omega
 exact tF
theorem Ce (w:World) (r:Int) (h1:1232<=r) (h2:r<=1327) (hm:r % 2=1):pE w r (r):=by
 have m0:(r % 2==0)=false:=by simp;omega
 have m1:(r % 2==1)=true:=by simp;omega
 exact tF
theorem DZ (w:World) (r:Int) (h1:313<=r) (h2:r<=328) (hm:r % 2=0):pE w r (r):=by
 have m0:(r % 2==0)=true:=by simp;omega
 have m1:(r % 2==1)=false:=by simp;omega
 exact tF
theorem Dl (w:World) (r:Int) (h1:313<=r) (h2:r<=328) (hm:r % 2=1):pE w r (r+1):=by
 have m0:(r % 2==0)=false:=by simp;omega
 have m1:(r % 2==1)=true:=by simp;omega
 exact tF
theorem Ea (w:World) (r:Int) (h1:377<=r) (h2:r<=382) (hm:r % 2=0):pE w r (r):=by
 have m0:(r % 2==0)=true:=by simp;omega
 have m1:(r % 2==1)=false:=by simp;omega
 exact tF
theorem Dx (w:World) (r:Int) (h1:377<=r) (h2:r<=382) (hm:r % 2=1):pE w r (r+1):=by
 have m0:(r % 2==0)=false:=by simp;omega
 have m1:(r % 2==1)=true:=by simp;omega
 exact tF
theorem Jb (w:World) (r:Int) (h:r=376):pE w r (255):=by
 subst h;exact L9
theorem Jd (w:World) (r:Int) (h:r=383):pE w r (115):=by
 subst h;exact L9
theorem JQ (w:World) (r:Int) (h:r=902):pE w r (940):=by
 subst h;exact L9
theorem JZ (w:World) (r:Int) (h:r=908):pE w r (972):=by
 subst h;exact L9
theorem H7 (w:World) (r:Int) (h:r=962):pE w r (963):=by
 subst h;exact L9
theorem IC (w:World) (r:Int) (h:904<=r/\r<=906):pE w r (r+37):=by
 obtain⟨h1,h2⟩:=h;exact tF
theorem JV (w:World) (r:Int) (h:910<=r/\r<=911):pE w r (r+63):=by
 obtain⟨h1,h2⟩:=h;exact tF
theorem Ff (w:World) (r:Int) (h:1024<=r/\r<=1039):pE w r (r+80):=by
 obtain⟨h1,h2⟩:=h;exact tF
theorem FD (w:World) (r:Int) (h:1632<=r/\r<=1641):pE w r (r-1584):=by
 obtain⟨h1,h2⟩:=h;exact tF
theorem GX (w:World) (r:Int) (n65:¬ (65<=r/\r<=90)) (n192:¬ (192<=r/\r<=222)) (n913:¬ (913<=r/\r<=939)) (n1040:¬ (1040<=r/\r<=1071)) (n256:¬ (256<=r/\r<=311)) (n330:¬ (330<=r/\r<=375)) (n1120:¬ (1120<=r/\r<=1153)) (n1162:¬ (1162<=r/\r<=1215)) (n1232:¬ (1232<=r/\r<=1327)) (n313:¬ (313<=r/\r<=328)) (n377:¬ (377<=r/\r<=382)) (n376:r≠376) (n383:r≠383) (n902:r≠902) (n908:r≠908) (n962:r≠962) (n904:¬ (904<=r/\r<=906)) (n910:¬ (910<=r/\r<=911)) (n1024:¬ (1024<=r/\r<=1039)) (n1632:¬ (1632<=r/\r<=1641)):pE w r (r):=by
 exact tF
theorem Ib (w:World) (r:Int):Calls Tryz.prog 194 #[.int .i32 r] w fun e w'=>e=.returned (.int .i32 (fK r))/\w'=w:=by
 have up:Lc r->fK r=r+32:=fun h=>by unfold fK;rw[if_pos h]
 have ne:¬ Lc r->((wM r/\r % 2=0)∨(De r/\r % 2=1))->fK r=r+1:=fun h k=>by unfold fK;rw[if_neg h,if_pos k]
 have el:∀ x,¬ Lc r->¬ ((wM r/\r % 2=0)∨(De r/\r % 2=1))->(if r=376 then(255:Int) else if r=383 then 115 else if r=902 then 940 else if r=908 then 972 else if r=962 then 963
  else if 904<=r/\r<=906 then r+37 else if 910<=r/\r<=911 then r+63 else if 1024<=r/\r<=1039 then r+80 else if 1632<=r/\r<=1641 then r-1584 else r)=x->fK r=x:=fun x h k hx=>by unfold fK;rw[if_neg h,if_neg k];exact hx
 unfold Lc wM De at *;by_cases n65:65<=r/\r<=90
 ·rw[up oZ];exact Kj w r n65
 by_cases n192:192<=r/\r<=222
 ·clear n65;by_cases e1:r=215
  ·rw[el r oZ oZ rZ];exact IP w r e1
  rw[up oZ];exact JK w r n192.1 n192.2 e1
 by_cases n913:913<=r/\r<=939
 ·clear n65 n192;by_cases e1:r=930
  ·rw[el r oZ oZ rZ];exact Iy w r e1
  rw[up oZ];exact Ie w r n913.1 n913.2 e1
 by_cases n1040:1040<=r/\r<=1071
 ·rw[up oZ];exact Gd w r n1040
 by_cases n256:256<=r/\r<=311
 ·clear n65 n192 n913 n1040 ;by_cases hm:r % 2=0
  ·rw[ne oZ oZ];exact DX w r n256.1 n256.2 hm
  ·rw[el r oZ oZ rZ];exact C8 w r n256.1 n256.2 oZ
 by_cases n330:330<=r/\r<=375
 ·clear n65 n192 n913 n1040 n256;by_cases hm:r % 2=0
  ·rw[ne oZ oZ];exact Dr w r n330.1 n330.2 hm
  ·rw[el r oZ oZ rZ];exact DR w r n330.1 n330.2 oZ
 by_cases n1120:1120<=r/\r<=1153
 ·clear n65 n192 n913 n1040 n256 n330;by_cases hm:r % 2=0
  ·rw[ne oZ oZ];exact A7 w r n1120.1 n1120.2 hm
  ·rw[el r oZ oZ rZ];exact BU w r n1120.1 n1120.2 oZ
 by_cases n1162:1162<=r/\r<=1215
 ·clear n65 n192 n913 n1040 n256 n330 n1120;by_cases hm:r % 2=0
  ·rw[ne oZ oZ];exact Ch w r n1162.1 n1162.2 hm
  ·rw[el r oZ oZ rZ];exact Bb w r n1162.1 n1162.2 oZ
 by_cases n1232:1232<=r/\r<=1327
 ·clear n65 n192 n913 n1040 n256 n330 n1120 n1162;by_cases hm:r % 2=0
  ·rw[ne oZ oZ];exact Ba w r n1232.1 n1232.2 hm
  ·rw[el r oZ oZ rZ];exact Ce w r n1232.1 n1232.2 oZ
 by_cases n313:313<=r/\r<=328
 ·clear n65 n192 n913 n1040 n256 n330 n1120 n1162 n1232;by_cases hm:r % 2=0
  ·rw[el r oZ oZ rZ];exact DZ w r n313.1 n313.2 hm
  ·rw[ne oZ oZ];exact Dl w r n313.1 n313.2 oZ
 by_cases n377:377<=r/\r<=382
 ·clear n65 n192 n913 n1040 n256 n330 n1120 n1162 n1232 n313;by_cases hm:r % 2=0
  ·rw[el r oZ oZ rZ];exact Ea w r n377.1 n377.2 hm
  ·rw[ne oZ oZ];exact Dx w r n377.1 n377.2 oZ
 by_cases n376:r=376
 ·clear n65 n192 n913 n1040 n256 n330 n1120 n1162 n1232 n313 n377;clear up;rw[el 255 oZ oZ rZ];exact Jb w r n376
 by_cases n383:r=383
 ·clear n65 n192 n913 n1040 n256 n330 n1120 n1162 n1232 n313 n377;clear  n376;rw[el 115 oZ oZ rZ];exact Jd w r n383
 by_cases n902:r=902
 ·clear n65 n192 n913 n1040 n256 n330 n1120 n1162 n1232 n313 n377;clear  n376 n383;rw[el 940 oZ oZ rZ];exact JQ w r n902
 by_cases n908:r=908
 ·clear n65 n192 n913 n1040 n256 n330 n1120 n1162 n1232 n313 n377;clear  n376 n383 n902;rw[el 972 oZ oZ rZ];exact JZ w r n908
 by_cases n962:r=962
 ·clear n65 n192 n913 n1040 n256 n330 n1120 n1162 n1232 n313 n377;clear  n376 n383 n902 n908;rw[el 963 oZ oZ rZ];exact H7 w r n962
 by_cases n904:904<=r/\r<=906
 ·clear n65 n192 n913 n1040 n256 n330 n1120 n1162 n1232 n313 n377;clear  n376 n383 n902 n908 n962;rw[el (r+37) oZ oZ rZ];exact IC w r n904
 by_cases n910:910<=r/\r<=911
 ·clear n65 n192 n913 n1040 n256 n330 n1120 n1162 n1232 n313 n377;clear  n376 n383 n902 n908 n962 n904;rw[el (r+63) oZ oZ rZ];exact JV w r n910
 by_cases n1024:1024<=r/\r<=1039
 ·clear n65 n192 n913 n1040 n256 n330 n1120 n1162 n1232 n313 n377;clear  n376 n383 n902 n908 n962 n904 n910;rw[el (r+80) oZ oZ rZ];exact Ff w r n1024
 by_cases n1632:1632<=r/\r<=1641
 ·clear n65 n192 n913 n1040 n256 n330 n1120 n1162 n1232 n313 n377;clear  n376 n383 n902 n908 n962 n904 n910 n1024;rw[el (r-1584) oZ oZ rZ];exact FD w r n1632
 have k1:¬ ((65<=r/\r<=90)∨(192<=r/\r<=222/\r≠215)∨(913<=r/\r<=939/\r≠930)∨(1040<=r/\r<=1071)):=by
  rintro(h | h | h | h)
  ·exact n65 h
  ·exact n192 ⟨h.1,h.2.1⟩
  ·exact n913 ⟨h.1,h.2.1⟩
  ·exact n1040 h
 have k2:¬ ((((256<=r/\r<=311)∨(330<=r/\r<=375)∨(1120<=r/\r<=1153)∨(1162<=r/\r<=1215)∨(1232<=r/\r<=1327))/\r % 2=0)∨(((313<=r/\r<=328)∨(377<=r/\r<=382))/\r % 2=1)):=by
  rintro(⟨h | h | h | h | h,_⟩ | ⟨h | h,_⟩)
  ·exact n256 h
  ·exact n330 h
  ·exact n1120 h
  ·exact n1162 h
  ·exact n1232 h
  ·exact n313 h
  ·exact n377 h
 rw[el r k1 k2 (by rw[if_neg n376,if_neg n383,if_neg n902,if_neg n908,if_neg n962,if_neg n904,if_neg n910,if_neg n1024,if_neg n1632])];exact GX w r n65 n192 n913 n1040 n256 n330 n1120 n1162 n1232 n313 n377 n376 n383 n902 n908 n962 n904 n910 n1024 n1632
def iL:List (Int×Int×Int):=[(48,57,2),(65,90,1),(97,122,1),(192,214,1),(216,246,1),(248,591,1),(902,902,1),(904,906,1),(908,908,1),(910,929,1),(931,974,1),(1024,1153,1),(1162,1327,1),(1488,1514,1),(1632,1641,2),(19968,40959,1),(44032,55203,1)]
def gW:List (Int×Int×Int×Int):=[(65,90,1,32),(192,214,1,32),(216,222,1,32),(256,311,2,1),(313,328,2,1),(330,375,2,1),(376,376,1,-121),(377,382,2,1),(383,383,1,-268),(902,902,1,38),(904,906,1,37),(908,908,1,64),(910,911,1,63),(913,929,1,32),(931,939,1,32),(962,962,1,1),(1024,1039,1,80),(1040,1071,1,32),(1120,1153,2,1),(1162,1215,2,1),(1232,1327,2,1),(1632,1641,1,-1584)]
def zS:Array Value:=(iL.flatMap fun e=>[Value.int .i32 e.1,.int .i32 e.2.1,.int .i64 e.2.2]).toArray
def uP:Array Value:=(gW.flatMap fun e=>[Value.int .i32 e.1,.int .i32 e.2.1,.int .i32 e.2.2.1,.int .i32 e.2.2.2]).toArray
def eG (r:Int):List (Int×Int×Int)->Int
 | []=>0
 | e :: es=>if r<e.1 then 0 else if r<=e.2.1 then e.2.2 else eG r es
def gD (r:Int):List (Int×Int×Int×Int)->Int
 | []=>r
 | e :: es=>if r<e.1 then r else if r<=e.2.1/\(r-e.1) % e.2.2.1=0 then r+e.2.2.2 else gD r es
theorem qY {r:Int}:∀ es:List (Int×Int×Int×Int),(∀ e∈es,e.2.1<r)->gD r es=r
 | [],_=>rfl
 | e :: es,h=>by
  unfold gD;have:=h e sZ;split
  ·rfl
  ·rw[if_neg oZ,qY es fun x hx=>h x (by simp[hx])]
theorem vS:∀ n:Nat,n<1642->gD ((n:Nat):Int) gW=fK ((n:Nat):Int):=by decide +kernel
theorem Gp (r:Int):gD r gW=fK r:=by
 by_cases h:r<0
 ·rw[mW (.inl h)];show (if r<65 then r else _)=r;rw[if_pos oZ]
 by_cases h2:1641<r
 ·rw[mW (.inr h2)];refine qY _ fun e he=>?_;have:∀ e∈gW,e.2.1<=1641:=by decide +kernel
  have:=this e he;omega
 obtain⟨n,rfl⟩:=Int.eq_ofNat_of_zero_le (by omega:0<=r);exact vS n oZ
theorem uI:∀ n:Nat,n<1642->eG ((n:Nat):Int) iL=cO ((n:Nat):Int):=by decide +kernel
theorem ni {r:Int}:∀ (es fs:List (Int×Int×Int)),(∀ e∈es,e.1<=e.2.1/\e.2.1<r)->eG r (es++fs)=eG r fs
 | [],_,_=>rfl
 | e :: es,fs,h=>by
  have:=h e sZ;rw[List.cons_append];show (if r<e.1 then 0 else if r<=e.2.1 then e.2.2 else eG r (es++fs))=_;rw[if_neg oZ,if_neg oZ,ni es fs fun x hx=>h x (by simp[hx])]
theorem D7 (r:Int):eG r iL=cO r:=by
 by_cases h:r<0
 ·have hd:¬ kG r:=by unfold kG;omega
  have hl:¬ jk r:=by unfold jk;omega
  unfold cO;rw[if_neg hd,if_neg hl];show (if r<48 then 0 else _)=(0:Int);rw[if_pos oZ]
 by_cases h2:1641<r
 ·have hs:iL=iL.take 15++[(19968,40959,1),(44032,55203,1)]:=by decide +kernel
  rw[hs,ni]
  ·have hd:¬ kG r:=by unfold kG;omega
   have hl:jk r↔(19968<=r/\r<=40959)∨(44032<=r/\r<=55203):=by unfold jk;omega
   unfold cO;rw[if_neg hd];show (if r<19968 then 0 else if r<=40959 then 1 else if r<44032 then 0 else if r<=55203 then 1 else(0:Int))=_;by_cases hz:jk r
   ·rw[if_pos hz];have:=hl.1 hz;clear hl hz hd;repeat' split
    all_goals omega
   ·rw[if_neg hz];have:¬ ((19968<=r/\r<=40959)∨(44032<=r/\r<=55203)):=fun h=>hz (hl.2 h);clear hl hz hd;repeat' split
    all_goals omega
  ·have:∀ e∈iL.take 15,e.1<=e.2.1/\e.2.1<=1641:=by decide +kernel
   intro e he;have:=this e he;omega
 obtain⟨n,rfl⟩:=Int.eq_ofNat_of_zero_le (by omega:0<=r);exact uI n oZ
/-! ### The rows, by their places -/
theorem Gg (i:Nat) (hi:i<17):∃ lo hi2 c:Int,iL.drop i=(lo,hi2,c) :: iL.drop (i+1)/\48<=lo/\lo<=hi2/\hi2<=55203/\0<=c/\c<=2 /\
  ∀ w:World,(Instr.index 302 (.agg zS) (.int .i64 (i:Int))).run Tryz.prog w=.ok (.agg #[.int .i32 lo,.int .i32 hi2,.int .i64 c]) w:=by
 obtain rfl | rfl | rfl | rfl | rfl | rfl | rfl | rfl | rfl | rfl | rfl | rfl | rfl | rfl | rfl | rfl | rfl:i=0∨i=1∨i=2∨i=3∨i=4∨i=5∨i=6∨i=7∨i=8∨i=9∨i=10∨i=11∨i=12∨i=13∨i=14∨i=15∨i=16:=oZ
 all_goals exact⟨_,_,_,rfl,dZ,dZ,dZ,dZ,dZ,fun _=>kZ⟩
theorem CU (i:Nat) (hi:i<22):∃ lo hi2 st y:Int,gW.drop i=(lo,hi2,st,y) :: gW.drop (i+1)/\65<=lo/\lo<=hi2/\hi2<=1641/\(st=1∨st=2)/\-1584<=y/\y<=80 /\
  ∀ w:World,(Instr.index 305 (.agg uP) (.int .i64 (i:Int))).run Tryz.prog w=.ok (.agg #[.int .i32 lo,.int .i32 hi2,.int .i32 st,.int .i32 y]) w:=by
 obtain rfl | rfl | rfl | rfl | rfl | rfl | rfl | rfl | rfl | rfl | rfl | rfl | rfl | rfl | rfl | rfl | rfl | rfl | rfl | rfl | rfl | rfl:i=0∨i=1∨i=2∨i=3∨i=4∨i=5∨i=6∨i=7∨i=8∨i=9∨i=10∨i=11∨i=12∨i=13∨i=14∨i=15∨i=16∨i=17∨i=18∨i=19∨i=20∨i=21:=oZ
 all_goals exact⟨_,_,_,_,rfl,dZ,dZ,dZ,dZ,dZ,dZ,fun _=>kZ⟩
/-! ### The world -/
def dE (w:World):Prop:=(∃ t fr,w.heap[0]?=some (.cells zS t fr))/\∃ t fr,w.heap[1]?=some (.cells uP t fr)
theorem dE.below {w w':World} (h:dE w) (hb:Below w.heap.size w w'):dE w':=by
 obtain⟨⟨t,fr,h1⟩,⟨t2,fr2,h2⟩⟩:=h;exact⟨⟨t,fr,by rw[hb.block _ (lt_of_heap h1)];exact h1⟩,⟨t2,fr2,by rw[hb.block _ (lt_of_heap h2)];exact h2⟩⟩
theorem yC {P:Program} {w:World} {name:String} {d:DataW Unit} {g:Nat} {t:TypeId} {xs:List Value} (n:Nat) (hg:P.globalNamed name=some g) (ht:(P.globals[g]?).map (·.type)=some t) (hx:vX P n t d=some xs) (h:VarReads P w name d) :
  ∃ t' fr,w.heap[g]?=some (.cells xs.toArray t' fr):=by
 obtain⟨g',t',cs,fuel,p,h1,h2,h3,h4⟩:=h;obtain rfl:=Option.some.inj (hg.symm.trans h1);obtain rfl:=Option.some.inj (ht.symm.trans h2);have:=xD n fuel t cs.toList d p xs h4 hx;unfold World.var? at h3;rw[hg] at h3;simp only[Option.bind_some] at h3;split at h3
 ·rename_i cs' t'' fr' hh
  cases h3;exact⟨t'',fr',by rw[hh,<- this]⟩
 ·cases h3
theorem GJ (W:World) (r:Int) (hT:dE W) :
  Calls Tryz.prog 183 #[.int .i32 r] W fun e w'=>e=.returned (.int .i64 (cO r))/\Below W.heap.size W w':=by
 obtain⟨⟨tt,fr,hg⟩,-⟩:=hT;have HG:=hJ hg;clear hg;rw[<- D7];go_enter Tryz.func183,Tryz.ntmps183
 go_wp2_with fail
 go_step3
 go_wp2_with fail
 go_step3
 go_wp2_with first
  | (refine yZ rfl 302 (.global 0) rfl 0 rfl tt zS fr (.array 17 301) HG.out Tryz.underlying302 rfl kZ ?_)
  | fail
 go_loopw [3,7] (fun cv iv wr=>∃ i:Nat,i<=17/\iv=.int .i64 i/\cv=.int .i64 0/\eG r (iL.drop i)=eG r iL/\Below W.heap.size W wr) (fun _ iv _=>17-(intOf iv).toNat)
 case atStart=>exact⟨0,oZ,rfl,rfl,rfl,Below.refl _ _⟩
 case round =>
  obtain⟨i,hi,rfl,rfl,hr,hb⟩:=hrel;by_cases hlt:i<17
  ·obtain⟨lo,hi2,c,hd,b1,b2,b3,b4,b5,hix⟩:=Gg i hlt;rw[hd] at hr;have HR:=hJ hr;have HB:=hJ hb;have hsz:=hb.size;have HA:=hJ (fun o=>HB.out.alloc hsz o);clear hr hb hd
   have nxt:∀ w':World,Below W.heap.size W w'->¬ r<lo->¬ r<=hi2->(∃ i1:Nat,i1<=17/\Value.int IntKind.i64 ((i:Int)+1)=Value.int IntKind.i64 i1/\Value.int IntKind.i64 0=Value.int IntKind.i64 0/\eG r (iL.drop i1)=eG r iL/\Below W.heap.size W w')/\17-(intOf (.int .i64 ((i:Int)+1))).toNat<17-(intOf (.int .i64 (i:Int))).toNat:=by
    intro w' hb' n1 n2;refine⟨⟨i+1,oZ,sZ,rfl,?_,hb'⟩,by simp[intOf];omega⟩;rw[<- HR.out];show _=(if r<lo then 0 else if r<=hi2 then c else eG r (iL.drop (i+1)));rw[if_neg n1,if_neg n2]
   have HX:=hJ nxt;clear nxt;by_cases t1:r<lo
   ·have hc:eG r iL=0:=by rw[<- HR.out];show (if r<lo then 0 else _)=(0:Int);rw[if_pos t1]
    go_wp2_with fail
    try rw[Exit.noGoto_ret]
    go_ret;exact⟨by rw[hc];rfl,HA.out _⟩
   ·by_cases t2:r<=hi2
    ·have hc:eG r iL=c:=by rw[<- HR.out];show (if r<lo then 0 else if r<=hi2 then c else _)=c;rw[if_neg t1,if_pos t2]
     go_wp2_with fail
     try rw[Exit.noGoto_ret]
     go_ret;exact⟨by rw[hc];rfl,HA.out _⟩
    ·go_wp2_with fail
     exact HX.out _ (HA.out _) t1 t2
  ·have hi':i=17:=oZ;subst hi';have hc:eG r iL=0:=by rw[<- hr];rfl
   clear hr;go_wp2_with fail
   try rw[Exit.noGoto_ret]
   go_ret;exact⟨by rw[hc];rfl,hb⟩
theorem I6 (W:World) (r:Int) (h0:-2147483648<=r) (h1:r<=2147483647) (hT:dE W) :
  Calls Tryz.prog 185 #[.int .i32 r] W fun e w'=>e=.returned (.int .i32 (fK r))/\Below W.heap.size W w':=by
 obtain⟨-,⟨tt,fr,hg⟩⟩:=hT;have HG:=hJ hg;clear hg;rw[<- Gp];go_enter Tryz.func185,Tryz.ntmps185
 go_wp2_with fail
 go_step3
 go_wp2_with fail
 go_step3
 go_wp2_with first
  | (refine yZ rfl 305 (.global 1) rfl 1 rfl tt uP fr (.array 22 304) HG.out Tryz.underlying305 rfl kZ ?_)
  | fail
 go_loopw [3,8] (fun cv iv wr=>∃ i:Nat,i<=22/\iv=.int .i64 i/\cv=.int .i32 r/\gD r (gW.drop i)=gD r gW/\Below W.heap.size W wr) (fun _ iv _=>22-(intOf iv).toNat)
 case atStart=>exact⟨0,oZ,rfl,rfl,rfl,Below.refl _ _⟩
 case round =>
  obtain⟨i,hi,rfl,rfl,hr,hb⟩:=hrel;by_cases hlt:i<22
  ·obtain⟨lo,hi2,st,y,hd,b1,b2,b3,b4,b5,b6,hix⟩:=CU i hlt;rw[hd] at hr;have HR:=hJ hr;have HB:=hJ hb;have hsz:=hb.size;have HA:=hJ (fun o=>HB.out.alloc hsz o);clear hr hb hd
   have nxt:∀ w':World,Below W.heap.size W w'->¬ r<lo->¬ (r<=hi2/\(r-lo) % st=0)->(∃ i1:Nat,i1<=22/\Value.int IntKind.i64 ((i:Int)+1)=Value.int IntKind.i64 i1/\Value.int IntKind.i32 r=Value.int IntKind.i32 r/\gD r (gW.drop i1)=gD r gW/\Below W.heap.size W w')/\22-(intOf (.int .i64 ((i:Int)+1))).toNat<22-(intOf (.int .i64 (i:Int))).toNat:=by
    intro w' hb' n1 n2;refine⟨⟨i+1,oZ,sZ,rfl,?_,hb'⟩,by simp[intOf];omega⟩;rw[<- HR.out];show _=(if r<lo then r else if r<=hi2/\(r-lo) % st=0 then r+y else gD r (gW.drop (i+1)));rw[if_neg n1,if_neg n2]
   have HX:=hJ nxt;clear nxt;by_cases t1:r<lo
   ·have hc:gD r gW=r:=by rw[<- HR.out];show (if r<lo then r else _)=r;rw[if_pos t1]
    go_wp2_with fail
    try rw[Exit.noGoto_ret]
    go_ret;exact⟨by rw[hc];rfl,HA.out _⟩
   ·by_cases t2:r<=hi2
    ·by_cases t3:(r-lo) % st=0
     ·have hc:gD r gW=r+y:=by rw[<- HR.out];show (if r<lo then r else if r<=hi2/\(r-lo) % st=0 then r+y else _)=r+y;rw[if_neg t1,if_pos ⟨t2,t3⟩]
      go_wp2_with fail
      try rw[Exit.noGoto_ret]
      go_ret;exact⟨by rw[hc];rfl,HA.out _⟩
     ·have t4:¬ (r<=hi2/\(r-lo) % st=0):=fun h=>t3 h.2;have HX:=hJ fun w' hb'=>HX.out w' hb' t1 t4;go_wp2_with fail
      exact HX.out _ (HA.out _)
    ·have t4:¬ (r<=hi2/\(r-lo) % st=0):=fun h=>t2 h.1;have HX:=hJ fun w' hb'=>HX.out w' hb' t1 t4;go_wp2_with fail
     exact HX.out _ (HA.out _)
  ·have hi':i=22:=oZ;subst hi';have hc:gD r gW=r:=by rw[<- hr];rfl
   clear hr;go_wp2_with fail
   try rw[Exit.noGoto_ret]
   go_ret;exact⟨by rw[hc];rfl,hb⟩
theorem KP {W : World} (h : laidMetH Tryz.prog [("plover/fold.kinds", Rows.laid_plover_fold_kinds), ("plover/fold.shifts", Rows.laid_plover_fold_shifts)] W) : dE W :=
 ⟨yC (t:=302) (xs:=zS.toList) 4 kZ kZ kZ (vN kZ h _ _ (.head _)),yC (t:=305) (xs:=uP.toList) 4 kZ kZ kZ (vN kZ h _ _ (.tail _ (.head _)))⟩
end Go.Proofs.YtafaohnhlgcnpaaGreatDoor
