/-
 What stage 12 rests on.
-/
import Derived.Test.YtafaohnhlgcnpaaGreatDoorWrAlA1
import Derived.Lib.BufferRead
import Derived.Deep.Slices
import Derived.Laws.AppendOwnNone
set_option maxRecDepth 100000
set_option maxHeartbeats 16000000
namespace Go.Proofs.YtafaohnhlgcnpaaGreatDoor
open Go.RowKit
def ax (s:ByteArray):List Nat:=s.data.toList.map (·.toNat)
theorem aD (s:ByteArray):(ax s).length=s.size:=by simp[ax]
def ay (l:List Nat):ByteArray:=⟨(l.map UInt8.ofNat).toArray⟩
theorem iX (s:ByteArray):ay (ax s)=s:=by
 unfold ay ax;apply ByteArray.ext;apply Array.toList_inj.1;simp only[List.map_map];conv=>rhs;rw[<- List.map_id s.data.toList]
 apply List.map_congr_left;intro b _;simp
theorem aX (l:List Nat) (h:∀ b∈l,b<256):ax (ay l)=l:=by
 unfold ay ax;simp only[List.map_map];conv=>rhs;rw[<- List.map_id l]
 apply List.map_congr_left;intro b hb;simpa using Nat.mod_eq_of_lt (h b hb)
def BytesIn (w:World) (base:Nat) (v:Value) (l:List Nat):Prop:=w.ownsRow base 5 1 v l.length (l.map fun(b:Nat)=>Value.int .u8 (b:Int))
theorem jE:(Tryz.prog.info? 5).map (fun i=>(i.zero,i.size,i.bytes))=some (some (.int .u8 0),1,1):=kZ
theorem iD (s:ByteArray):∀ b∈ax s,b<256:=by
 intro b hb;unfold ax at hb;obtain⟨u,_,rfl⟩:=List.mem_map.1 hb;exact u.toNat_lt
theorem Db {a b:ByteArray} (h:ax a=ax b):a=b:=by rw[<- iX a,<- iX b,h]
theorem mr {w:World} {base:Nat} {v:Value} {l:List Nat} (h:BytesIn w base v l) (hl:∀ b∈l,b<256):(convert 256 9 v).run Tryz.prog w=.ok (.string (ay l)) w:=by
 rcases h.2 with ⟨rfl,h0⟩ | ⟨g,cap,cur,rfl,_,hg,_,_,_,ht⟩
 ·have:l=[]:=List.eq_nil_of_length_eq_zero h0;subst this;rw[Lib.run_convert_nil_bytes (P:=Tryz.prog) w 256 9 5 0 Tryz.underlying256 Tryz.underlying5 Tryz.underlying9];rfl
 ·have hc:=World.ownsRow.cells h (g:=g) rfl
  have:=run_convert_bytes_back (P:=Tryz.prog) w 256 9 5 ⟨g,0,none⟩ cap (l.map UInt8.ofNat) Tryz.underlying256 Tryz.underlying5 Tryz.underlying9 (fun j hj=>by
   have hj':j<l.length:=by simpa using hj
   rw[hc j (.int .u8 ((l[j]:Nat):Int)) (by simp[gZ hj'])];have:=hl l[j] (List.getElem_mem hj');simp[Nat.mod_eq_of_lt this])
  simpa [ay] using this
end Go.Proofs.YtafaohnhlgcnpaaGreatDoor
namespace Go.Proofs.YtafaohnhlgcnpaaGreatDoor
open Go.ChangeShapes Go.WideShapes Go.ChangeAt Go.RowKit Go.Deep
theorem lt_of_cell {W:World} {a:Addr} {v:Value} (h:W.cell? a=some v):a.block<W.heap.size:=by
 unfold World.cell? at h;split at h
 ·rename_i hh;exact(Array.getElem?_eq_some_iff.1 hh).1
 ·cases h
theorem plain_of_cell {W:World} {a:Addr} {v:Value} (h:W.cell? a=some v):a.spot=none:=by
 unfold World.cell? at h;split at h
 ·split at h
  ·cases h
  ·rename_i hs;simpa using hs
 ·cases h
theorem FL {W:World} {base:Nat} {t:TypeId} {v:Value} (hu:(match Tryz.prog.underlying t with | some (.struct _) | some (.array _ _)=>true | _=>false)=true) (h:Value.okWide Tryz.prog W .any base t v) {ts:List TypeId} (hts:Tryz.prog.cellTypes Tryz.prog.depth t=some ts) :
  ∃ cs,v=.agg cs/\cs.size=Tryz.prog.cellsOf t/\∀ (i:Nat) (c:Value) (u:TypeId),cs[i]?=some c->ts[i]?=some u->Cell.okWide Tryz.prog W .any base u c:=by
 have key:∃ cs,v=.agg cs/\cs.size=Tryz.prog.cellsOf t/\Row.okWide Tryz.prog W .any base t cs:=by
  unfold Value.okWide at h;split at h
  ·exact h
  ·exact h
  ·rename_i h1 h2
   split at hu
   ·rename_i fs hf;exact absurd hf (h1 fs)
   ·rename_i n e hf;exact absurd hf (h2 n e)
   ·cases hu
 obtain⟨cs,hv,hs,ts',hts',_,hc⟩:=key;obtain rfl:ts=ts':=Option.some.inj (hts.symm.trans hts');refine⟨cs,hv,hs,fun i c u hi ht=>?_⟩;obtain⟨u',hu',hc'⟩:=hc i c hi;have hlt:i<ts.length:=(eZ.1 ht).1;rw[Nat.mod_eq_of_lt hlt,ht] at hu';obtain rfl:u=u':=Option.some.inj hu';exact hc'
theorem jK {W:World} {base:Nat} {u:TypeId} {c:Value} {k:IntKind} (hu:Tryz.prog.underlying u=some (.int k)) (h:Cell.okWide Tryz.prog W .any base u c):∃ n,c=.int k n/\k.min<=n/\n<=k.max:=by
 simp only[hu,Cell.okWide] at h;cases c <;> simp_all [Cell.ok,IntKind.has]
theorem wP {W:World} {base:Nat} {u:TypeId} {c:Value} {k:FloatKind} (hu:Tryz.prog.underlying u=some (.float k)) (h:Cell.okWide Tryz.prog W .any base u c):∃ b,c=.float k b:=by
 simp only[hu,Cell.okWide] at h;cases c <;> simp_all [Cell.ok]
end Go.Proofs.YtafaohnhlgcnpaaGreatDoor
namespace Go.Proofs.YtafaohnhlgcnpaaGreatDoor
def cellAt (L:List Nat) (j:Nat):Nat:=L.getD (4*j) 0+256*L.getD (4*j+1) 0+65536*L.getD (4*j+2) 0+16777216*L.getD (4*j+3) 0
def gM (L:List Nat) (n:Nat):List Nat:=(List.range n).map (cellAt L)
def aF (L:List Nat):List Nat:=gM L ((L.length+3) / 4)
theorem zR (L:List Nat) (n:Nat):gM L (n+1)=gM L n++[cellAt L n]:=by simp[gM,List.range_succ]
theorem mV (L:List Nat) (n:Nat):(gM L n).length=n:=by simp[gM]
theorem bC (L:List Nat):(aF L).length=(L.length+3) / 4:=mV _ _
def qV (v:Nat):List Nat:=[v % 256,v / 256 % 256,v / 65536 % 256,v / 16777216 % 256]
def qx (l:List Nat):List Nat:=l.flatMap qV
theorem wG:∀ (l:List Nat) (j k:Nat) (v:Nat),l[j]?=some v->k<4->(qx l)[4*j+k]?=(qV v)[k]?
 | [],j,k,v,h,_=>by simp at h
 | x :: l,0,k,v,h,hk=>by
  simp at h;subst h;have e:qx (x :: l)=qV x++qx l:=rfl;rw[e,Nat.mul_zero,Nat.zero_add,List.getElem?_append_left (by simp[qV];omega)]
 | x :: l,j+1,k,v,h,hk=>by
  have:=wG l j k v (by simpa using h) hk;have e:qx (x :: l)=qV x++qx l:=rfl;rw[e,show 4*(j+1)+k=(qV x).length+(4*j+k) by simp[qV];omega,List.getElem?_append_right oZ,Nat.add_sub_cancel_left];exact this
theorem getD_lt {L:List Nat} (h:∀ b∈L,b<256) (i:Nat):L.getD i 0<256:=by
 rw[List.getD_eq_getElem?_getD];cases hi:L[i]? with
 | none=>simp
 | some b=>exact h b (List.mem_of_getElem? hi)
theorem GU {L:List Nat} (h:∀ b∈L,b<256) (j:Nat):cellAt L j<4294967296:=by
 have h0:=getD_lt h (4*j);have h1:=getD_lt h (4*j+1);have h2:=getD_lt h (4*j+2);have h3:=getD_lt h (4*j+3);unfold cellAt;omega
theorem DD {L:List Nat} (h:∀ b∈L,b<256) (j k:Nat) (hk:k<4):(qV (cellAt L j))[k]?=some (L.getD (4*j+k) 0):=by
 have h0:=getD_lt h (4*j);have h1:=getD_lt h (4*j+1);have h2:=getD_lt h (4*j+2);have h3:=getD_lt h (4*j+3);have hc:k=0∨k=1∨k=2∨k=3:=oZ;unfold qV cellAt;rcases hc with rfl | rfl | rfl | rfl
 all_goals (simp only[List.getElem?_cons_zero,List.getElem?_cons_succ,Nat.add_zero,Option.some.injEq];omega)
theorem xu {L:List Nat} (h:∀ b∈L,b<256):(qx (aF L)).take L.length=L:=by
 apply List.ext_getElem?;intro i;rw[List.getElem?_take];split
 ·rename_i hi
  have hc:(aF L)[i / 4]?=some (cellAt L (i / 4)):=by
   unfold aF gM;rw[List.getElem?_map,List.getElem?_range oZ];rfl
  have:=wG (aF L) (i / 4) (i % 4) _ hc oZ;rw[show 4*(i / 4)+i % 4=i by omega,DD h _ _ oZ,show 4*(i / 4)+i % 4=i by omega] at this;rw[this,List.getD_eq_getElem?_getD,gZ hi];rfl
 ·rw[List.getElem?_eq_none oZ]
theorem BB {a b:List Nat} (ha:∀ x∈a,x<256) (hb:∀ x∈b,x<256) (hl:a.length=b.length) (h:aF a=aF b):a=b:=by
 rw[<- xu ha,<- xu hb,h,hl]
/-! ### By Horner's rule -/
def iO (L:List Nat) (b:Nat):Nat->Nat
 | 0=>0
 | m+1=>256*iO L b m+L.getD (b+(3-m)) 0
theorem CL (L:List Nat) (j:Nat):iO L (4*j) 4=cellAt L j:=by
 simp only[iO,cellAt];show 256*(256*(256*(256*0+L.getD (4*j+3) 0)+L.getD (4*j+2) 0)+L.getD (4*j+1) 0)+L.getD (4*j+0) 0=_;rw[Nat.add_zero (4*j)];omega
theorem II {L:List Nat} (h:∀ b∈L,b<256) (b:Nat):iO L b 1<256/\iO L b 2<65536/\iO L b 3<16777216/\iO L b 4<4294967296:=by
 have h0:=getD_lt h (b+3);have h1:=getD_lt h (b+2);have h2:=getD_lt h (b+1);have h3:=getD_lt h (b+0);have e1:iO L b 1=256*0+L.getD (b+3) 0:=rfl;have e2:iO L b 2=256*iO L b 1+L.getD (b+2) 0:=rfl;have e3:iO L b 3=256*iO L b 2+L.getD (b+1) 0:=rfl;have e4:iO L b 4=256*iO L b 3+L.getD (b+0) 0:=rfl;omega
theorem Cq {L:List Nat} (h:∀ b∈L,b<256) (b m:Nat) (hm:m<=3):iO L b m<16777216:=by
 have:=II h b;rcases (show m=0∨m=1∨m=2∨m=3 by omega) with rfl | rfl | rfl | rfl
 ·show 0<16777216;omega
 ·omega
 ·omega
 ·omega
def Iz (L:List Nat) (n:Int):Int:=if n<0 then 1 else if(4*L.length:Int)<n then 12 else 0
def Li (L:List Nat) (n:Int):ByteArray:=if Iz L n=0 then ay ((qx L).take n.toNat) else ay []
def ic (h b:Nat):Nat:=(h ^^^ b)*16777619 % 4294967296
theorem DL (f:Nat->Nat->Nat) (x:Nat) (L:List Nat) (b:Nat):(L++[b]).foldl f x=f (L.foldl f x) b:=sZ
def EL:Nat:=2166136261
theorem IV:EL=2166136261:=rfl
def bZ (L:List Nat):Nat:=L.foldl ic EL
theorem yl (L:List Nat) (b:Nat):bZ (L++[b])=ic (bZ L) b:=DL ic EL L b
theorem Ak (h b:Nat):ic h b<4294967296:=by
 unfold ic;exact Nat.mod_lt _ oZ
theorem Hm {f:Nat->Nat->Nat} {N:Nat} (h:∀ x b,f x b<N):∀ (L:List Nat) (x:Nat),x<N->L.foldl f x<N:=by
 intro L;induction L with
 | nil=>intro x hx;exact hx
 | cons b L ih=>intro x _;exact ih _ (h x b)
theorem oG (L:List Nat):bZ L<4294967296:=Hm Ak L EL (by rw[IV];omega)
def J6 (d p:Int):Prop:=0<=d/\d<=65535/\0<=p/\p<=65535
instance (d p:Int):Decidable (J6 d p):=by unfold J6;exact inferInstance
def dV (d p:Int):Int:=if J6 d p then 65536*d+p else 0
def fE (d p:Int):Int:=if J6 d p then 0 else 1
end Go.Proofs.YtafaohnhlgcnpaaGreatDoor
namespace Go.Proofs.YtafaohnhlgcnpaaGreatDoor
open Go.ChangeShapes Go.WideShapes Go.ChangeAt Go.RowKit Go.Deep
def gN (k:IntKind) (l:List Nat):List Value:=l.map fun(x:Nat)=>Value.int k (x:Int)
theorem eU (k:IntKind) (l:List Nat):(gN k l).length=l.length:=by simp[gN]
theorem nR {k:IntKind} {l:List Nat} {j x:Nat} (h:l[j]?=some x):(gN k l)[j]?=some (.int k (x:Int)):=by simp[gN,h]
theorem tY (k:IntKind) (l m:List Nat):gN k (l++m)=gN k l++gN k m:=by simp[gN]
theorem Jq (k:IntKind) (l:List Nat):∀ v∈gN k l,v.oneCell'=true:=by
 intro v hv;obtain⟨x,_,rfl⟩:=List.mem_map.1 hv;rfl
def bQ (k:IntKind) (w:World) (oa:Option Addr) (l:List Nat):Prop:=∀ j x:Nat,l[j]?=some x->∃ g o:Nat,oa=some ⟨g,o,none⟩/\w.cell? ⟨g,o+j,none⟩=some (.int k (x:Int))
theorem bQ.below {k:IntKind} {w w':World} {oa:Option Addr} {l:List Nat} (h:bQ k w oa l) (hb:Below w.heap.size w w'):bQ k w' oa l:=by
 intro j x hj;obtain⟨g,o,e,hc⟩:=h j x hj;exact⟨g,o,e,az hc hb⟩
theorem bQ.alloc {k:IntKind} {w:World} {oa:Option Addr} {l:List Nat} (h:bQ k w oa l) (o:Obj):bQ k (w.alloc o) oa l:=h.below ((Below.refl _ _).alloc (Nat.le_refl _) o)
theorem bQ.nil (k:IntKind) (w:World) (oa:Option Addr):bQ k w oa []:=by intro j x hj;simp at hj
theorem one_cell {w:World} {v:Value} {t:TypeId}:∀ (j:Nat) (u:Value),[v][j]?=some u->(w.alloc (.cells #[v] t)).cell? ((⟨w.heap.size,0,none⟩:Addr).add j)=some u:=by
 intro j u hj;rcases j with _ | j
 ·simp at hj;subst hj;rw[Addr.add_lit];exact aa (nZ w _) 0
 ·simp at hj
def fP (t:TypeId) (k:IntKind) (w:World) (base:Nat) (v:Value) (l:List Nat):Prop:=w.ownsRow base t 1 v l.length (gN k l)
theorem ak {w w':World} {e:TypeId} {size n base:Nat} {v:Value} {xs:List Value} (h:w.ownsRow base e size v n xs) (hb:Below w.heap.size w w'):w'.ownsRow base e size v n xs:=by
 obtain⟨h0,h | ⟨g,cap,cur,h1,h2,h3,h4⟩⟩:=h
 ·exact⟨h0,.inl h⟩
 ·refine⟨h0,.inr ⟨g,cap,cur,h1,h2,?_,h4⟩⟩;rw[hb.block g (lt_of_heap h3)];exact h3
theorem fP.below {t:TypeId} {k:IntKind} {w w':World} {base:Nat} {v:Value} {l:List Nat} (h:fP t k w base v l) (hb:Below w.heap.size w w'):fP t k w' base v l:=ak h hb
theorem fP.new (t:TypeId) (k:IntKind) (w:World) (base:Nat) (h:base<=w.heap.size):fP t k (w.alloc (.cells #[] t)) base (.slice (some ⟨w.heap.size,0,none⟩) 0 0) [] :=
 World.ownsRow_lit (base:=base) (e:=t) (size:=1) w #[] 0 h dZ sZ
theorem fP.more {t:TypeId} {k:IntKind} {W w1 w2:World} {v v':Value} {l m:List Nat} {o:Obj} (hl:Below W.heap.size W w1) (hr:fP t k w1 W.heap.size v l) (ho:w2.ownsRow W.heap.size t 1 v' (l.length+m.length) (gN k l++gN k m)) (hg:(w1.alloc o).grownBy w2 v.ownBlock) :
  fP t k w2 W.heap.size v' (l++m)/\Below W.heap.size W w2 :=
 ⟨by unfold fP;rw[tY,List.length_append];exact ho,(hl.alloc hl.size _).grown hg (by have:=hl.size;simp;omega) (fun k hk=>(World.ownsRow.lt hr k hk).1)⟩
theorem fP.reads {t:TypeId} {k:IntKind} {w:World} {base:Nat} {v:Value} {l:List Nat} (h:fP t k w base v l):∃ oa cap,v=.slice oa l.length cap/\l.length<=cap/\cap<=maxLen/\(oa=none->cap=0)/\bQ k w oa l:=by
 by_cases hn:v=.slice none 0 0
 ·subst hn;rcases h.2 with ⟨_,h0⟩ | ⟨g,cap,cur,e,_⟩
  ·have:l=[]:=List.eq_nil_of_length_eq_zero h0;subst this;exact⟨none,0,rfl,sZ,by simp[maxLen],fun _=>rfl,bQ.nil _ _ _⟩
  ·cases e
 ·obtain⟨h0,h1 | ⟨g,cap,cur,rfl,h2,h3,h4,h5,h6⟩⟩:=h
  ·exact absurd h1.1 hn
  ·refine⟨some ⟨g,0,none⟩,cap,rfl,h4,h5,(by intro e;cases e),?_⟩;intro j x hj;have:=World.ownsRow.cells (w:=w) (base:=base) (e:=t) (size:=1) (n:=l.length) (xs:=gN k l) (v:=.slice (some ⟨g,0,none⟩) l.length cap) ⟨h0,.inr ⟨g,cap,cur,rfl,h2,h3,h4,h5,h6⟩⟩ (g:=g) rfl j _ (nR hj);rw[Addr.add_lit] at this;exact⟨g,0,rfl,this⟩
theorem fP.wL {t:TypeId} {k:IntKind} {w:World} {base:Nat} {v:Value} {l:List Nat} (h:fP t k w base v l) (n:Nat) (hn:l.length=n):∃ oa cap,v=.slice oa n cap/\n<=cap/\cap<=maxLen/\(oa=none->cap=0)/\bQ k w oa l:=by
 subst hn;exact h.reads
theorem E9 {a b:World} {o:Obj} (h:Below a.heap.size a b):Below a.heap.size a (b.alloc o):=h.alloc h.size o
theorem ag {a b c:World} (h:Below a.heap.size a b) (k:Below b.heap.size b c):Below a.heap.size a c:=h.trans (k.mono h.size)
theorem fP.at_ {t:TypeId} {k:IntKind} {w:World} {base:Nat} {v:Value} {l:List Nat} (h:fP t k w base v l) (hn:v≠.slice none 0 0) (m:Nat) (hm:l.length=m):∃ g cap,v=.slice (some ⟨g,0,none⟩) m cap/\m<=cap/\cap<=maxLen:=by
 obtain⟨_,h1 | ⟨g,cap,_,e,_,_,h2,h3,_⟩⟩:=h
 ·exact absurd h1.1 hn
 ·exact⟨g,cap,by rw[e,hm],oZ,h3⟩
/-! ### A list that comes in -/
theorem CQ {w:World} {a:Addr} {v:Value} (h:w.cell? a=some v):∃ g o,a=⟨g,o,none⟩:=by
 obtain⟨g,o,q⟩:=a;cases q with
 | none=>exact⟨g,o,rfl⟩
 | some q =>
  simp only[World.cell?] at h;split at h <;> simp_all
end Go.Proofs.YtafaohnhlgcnpaaGreatDoor
namespace Go.Proofs.YtafaohnhlgcnpaaGreatDoor
open Go.ChangeShapes Go.WideShapes Go.ChangeAt Go.RowKit Go.Deep
def fU (w:World) (oa:Option Addr) (F:List ByteArray):Prop:=∀ (j:Nat) (x:ByteArray),F[j]?=some x->∃ g o:Nat,oa=some ⟨g,o,none⟩/\w.cell? ⟨g,o+j,none⟩=some (.string x)
theorem fU.below {w w':World} {oa:Option Addr} {F:List ByteArray} (h:fU w oa F) (hb:Below w.heap.size w w'):fU w' oa F:=fun j x hj=>by
 obtain⟨g,o,h0,h1⟩:=h j x hj;exact⟨g,o,h0,az h1 hb⟩
end Go.Proofs.YtafaohnhlgcnpaaGreatDoor
namespace Go.Proofs.YtafaohnhlgcnpaaGreatDoor
open Go.ChangeShapes Go.WideShapes Go.ChangeAt Go.RowKit Go.Deep
theorem Ml {H:Type} {P:Program} {ts:List TypeId} {ds:List (DataW H)} (j:Nat) (h:(DataW.weightsEach P ts ds).all (·<=reachBytes)=true) {t:TypeId} {d:DataW H} (ht:ts[j]?=some t) (hd:ds[j]?=some d):∀ n∈d.weights P t,n<=reachBytes:=by
 intro n hn;have:=List.all_eq_true.1 h n (DataW.weights_mem_each ht hd n hn);simpa using this
theorem kr {H:Type} {P:Program} {e:TypeId}:∀ {l:List (DataW H)} {i:Nat} {d:DataW H},l[i]?=some d->∀ n∈d.weights P e,n∈DataW.weightsAll P e l
 | d0 :: l,0,d,hd,n,hn=>by
  simp only[List.getElem?_cons_zero,Option.some.injEq] at hd;subst hd;simp only[DataW.weightsAll,List.mem_append];exact Or.inl hn
 | d0 :: l,i+1,d,hd,n,hn=>by
  simp only[List.getElem?_cons_succ] at hd;simp only[DataW.weightsAll,List.mem_append];exact Or.inr (kr hd n hn)
 | [],_,_,hd,_,_=>by simp at hd
end Go.Proofs.YtafaohnhlgcnpaaGreatDoor
