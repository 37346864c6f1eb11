/-
 What stage 12 rests on.
-/
import Derived.Test.YtlfndoclbebdaaaGreatDoorWrErA1
import Derived.OwnWalk
import Derived.Laws.AppendOwn
import Derived.Lib.BufferRead
import Derived.Lib.AppendStr
import Derived.Deep.Slices
import Derived.ChangeSlices
import Derived.Laws.AppendOwnNone
import Derived.ChangeMaps5
import Derived.SizedLaws
set_option maxRecDepth 100000
set_option maxHeartbeats 16000000
namespace Go.Proofs.YtlfndoclbebdaaaGreatDoor
open Go.RowKit
def ax (s:ByteArray):List Nat:=s.data.toList.map (·.toNat)
theorem aG (s:ByteArray):(ax s).length=s.size:=by simp[ax]
def ay (l:List Nat):ByteArray:=⟨(l.map UInt8.ofNat).toArray⟩
theorem jI (s:ByteArray):ay (ax s)=s:=by
 unfold ay ax
 apply ByteArray.ext
 apply Array.toList_inj.1
 simp only[List.map_map]
 conv=>rhs;rw[<- List.map_id s.data.toList]
 apply List.map_congr_left
 intro b _
 simp
theorem bi (l:List Nat) (h:∀ b∈l,b<256):ax (ay l)=l:=by
 unfold ay ax
 simp only[List.map_map]
 conv=>rhs;rw[<- List.map_id l]
 apply List.map_congr_left
 intro b hb
 simpa using Nat.mod_eq_of_lt (h b hb)
def BytesIn (w:World) (base:Nat) (v:Value) (l:List Nat):Prop:=w.ownsRow base 5 1 v l.length (l.map fun(b:Nat)=>Value.int .u8 (b:Int))
theorem kM:(Tryz.prog.info? 5).map (fun i=>(i.zero,i.size,i.bytes))=some (some (.int .u8 0),1,1):=kZ
theorem jo (s:ByteArray):∀ b∈ax s,b<256:=by
 intro b hb
 unfold ax at hb
 obtain⟨u,_,rfl⟩:=List.mem_map.1 hb
 exact u.toNat_lt
theorem Hw {a b:ByteArray} (h:ax a=ax b):a=b:=by rw[<- jI a,<- jI b,h]
theorem oC {w:World} {base:Nat} {v:Value} {l:List Nat} (h:BytesIn w base v l) (hl:∀ b∈l,b<256):(convert 256 9 v).run Tryz.prog w=.ok (.string (ay l)) w:=by
 rcases h.2 with ⟨rfl,h0⟩ | ⟨g,cap,cur,rfl,_,hg,_,_,_,ht⟩
 ·have:l=[]:=List.eq_nil_of_length_eq_zero h0
  subst this
  rw[Lib.run_convert_nil_bytes (P:=Tryz.prog) w 256 9 5 0 Tryz.underlying256 Tryz.underlying5 Tryz.underlying9]
  rfl
 ·have hc:=World.ownsRow.cells h (g:=g) rfl
  have:=run_convert_bytes_back (P:=Tryz.prog) w 256 9 5 ⟨g,0,none⟩ cap (l.map UInt8.ofNat) Tryz.underlying256 Tryz.underlying5 Tryz.underlying9 (fun j hj=>by
   have hj':j<l.length:=by simpa using hj
   rw[hc j (.int .u8 ((l[j]:Nat):Int)) (by simp[gZ hj'])]
   have:=hl l[j] (List.getElem_mem hj')
   simp[Nat.mod_eq_of_lt this])
  simpa [ay] using this
end Go.Proofs.YtlfndoclbebdaaaGreatDoor
namespace Go.Proofs.YtlfndoclbebdaaaGreatDoor
open Go.ChangeShapes Go.WideShapes Go.ChangeAt Go.RowKit Go.Deep
theorem lt_of_cell {W:World} {a:Addr} {v:Value} (h:W.cell? a=some v):a.block<W.heap.size:=by
 unfold World.cell? at h
 split at h
 ·rename_i hh;exact(Array.getElem?_eq_some_iff.1 hh).1
 ·cases h
end Go.Proofs.YtlfndoclbebdaaaGreatDoor
namespace Go.Proofs.YtlfndoclbebdaaaGreatDoor
def cellAt (L:List Nat) (j:Nat):Nat:=L.getD (4*j) 0+256*L.getD (4*j+1) 0+65536*L.getD (4*j+2) 0+16777216*L.getD (4*j+3) 0
def iO (L:List Nat) (n:Nat):List Nat:=(List.range n).map (cellAt L)
def aF (L:List Nat):List Nat:=iO L ((L.length+3) / 4)
theorem BO (L:List Nat) (n:Nat):iO L (n+1)=iO L n++[cellAt L n]:=by simp[iO,List.range_succ]
theorem pI (L:List Nat) (n:Nat):(iO L n).length=n:=by simp[iO]
theorem bH (L:List Nat):(aF L).length=(L.length+3) / 4:=pI _ _
def uF (v:Nat):List Nat:=[v % 256,v / 256 % 256,v / 65536 % 256,v / 16777216 % 256]
def rX (l:List Nat):List Nat:=l.flatMap uF
theorem yH:∀ (l:List Nat) (j k:Nat) (v:Nat),l[j]?=some v->k<4->(rX l)[4*j+k]?=(uF v)[k]?
 | [],j,k,v,h,_=>by simp at h
 | x :: l,0,k,v,h,hk=>by
  simp at h
  subst h
  have e:rX (x :: l)=uF x++rX l:=rfl
  rw[e,Nat.mul_zero,Nat.zero_add,List.getElem?_append_left (by simp[uF];omega)]
 | x :: l,j+1,k,v,h,hk=>by
  have:=yH l j k v (by simpa using h) hk
  have e:rX (x :: l)=uF x++rX l:=rfl
  rw[e,show 4*(j+1)+k=(uF x).length+(4*j+k) by simp[uF];omega,List.getElem?_append_right oZ,Nat.add_sub_cancel_left]
  exact this
theorem getD_lt {L:List Nat} (h:∀ b∈L,b<256) (i:Nat):L.getD i 0<256:=by
 rw[List.getD_eq_getElem?_getD]
 cases hi:L[i]? with
 | none=>simp
 | some b=>exact h b (List.mem_of_getElem? hi)
theorem J9 {L:List Nat} (h:∀ b∈L,b<256) (j:Nat):cellAt L j<4294967296:=by
 have h0:=getD_lt h (4*j)
 have h1:=getD_lt h (4*j+1)
 have h2:=getD_lt h (4*j+2)
 have h3:=getD_lt h (4*j+3)
 unfold cellAt
 omega
theorem GR {L:List Nat} (h:∀ b∈L,b<256) (j k:Nat) (hk:k<4):(uF (cellAt L j))[k]?=some (L.getD (4*j+k) 0):=by
 have h0:=getD_lt h (4*j)
 have h1:=getD_lt h (4*j+1)
 have h2:=getD_lt h (4*j+2)
 have h3:=getD_lt h (4*j+3)
 have hc:k=0∨k=1∨k=2∨k=3:=oZ
 unfold uF cellAt
 rcases hc with rfl | rfl | rfl | rfl
 all_goals (simp only[List.getElem?_cons_zero,List.getElem?_cons_succ,Nat.add_zero,Option.some.injEq];omega)
theorem Ah {L:List Nat} (h:∀ b∈L,b<256):(rX (aF L)).take L.length=L:=by
 apply List.ext_getElem?
 intro i
 rw[List.getElem?_take]
 split
 ·rename_i hi
  have hc:(aF L)[i / 4]?=some (cellAt L (i / 4)):=by
   unfold aF iO
   rw[List.getElem?_map,List.getElem?_range oZ]
   rfl
  have:=yH (aF L) (i / 4) (i % 4) _ hc oZ
  rw[show 4*(i / 4)+i % 4=i by omega,GR h _ _ oZ,show 4*(i / 4)+i % 4=i by omega] at this
  rw[this,List.getD_eq_getElem?_getD,gZ hi]
  rfl
 ·rw[List.getElem?_eq_none oZ]
theorem EU {a b:List Nat} (ha:∀ x∈a,x<256) (hb:∀ x∈b,x<256) (hl:a.length=b.length) (h:aF a=aF b):a=b:=by
 rw[<- Ah ha,<- Ah hb,h,hl]
/-! ### By Horner's rule -/
def jE (L:List Nat) (b:Nat):Nat->Nat
 | 0=>0
 | m+1=>256*jE L b m+L.getD (b+(3-m)) 0
theorem Hl (L:List Nat) (j:Nat):jE L (4*j) 4=cellAt L j:=by
 simp only[jE,cellAt]
 show 256*(256*(256*(256*0+L.getD (4*j+3) 0)+L.getD (4*j+2) 0)+L.getD (4*j+1) 0)+L.getD (4*j+0) 0=_
 rw[Nat.add_zero (4*j)]
 omega
theorem NG {L:List Nat} (h:∀ b∈L,b<256) (b:Nat):jE L b 1<256/\jE L b 2<65536/\jE L b 3<16777216/\jE L b 4<4294967296:=by
 have h0:=getD_lt h (b+3)
 have h1:=getD_lt h (b+2)
 have h2:=getD_lt h (b+1)
 have h3:=getD_lt h (b+0)
 have e1:jE L b 1=256*0+L.getD (b+3) 0:=rfl
 have e2:jE L b 2=256*jE L b 1+L.getD (b+2) 0:=rfl
 have e3:jE L b 3=256*jE L b 2+L.getD (b+1) 0:=rfl
 have e4:jE L b 4=256*jE L b 3+L.getD (b+0) 0:=rfl
 omega
theorem D7 {L:List Nat} (h:∀ b∈L,b<256) (b m:Nat) (hm:m<=3):jE L b m<16777216:=by
 have:=NG h b
 rcases (show m=0∨m=1∨m=2∨m=3 by omega) with rfl | rfl | rfl | rfl
 ·show 0<16777216;omega
 ·omega
 ·omega
 ·omega
def Oz (L:List Nat) (n:Int):Int:=if n<0 then 1 else if(4*L.length:Int)<n then 12 else 0
def Qp (L:List Nat) (n:Int):ByteArray:=if Oz L n=0 then ay ((rX L).take n.toNat) else ay []
def jb (h b:Nat):Nat:=(h ^^^ b)*16777619 % 4294967296
theorem foldl_snoc (f:Nat->Nat->Nat) (x:Nat) (L:List Nat) (b:Nat):(L++[b]).foldl f x=f (L.foldl f x) b:=sZ
def Ii:Nat:=2166136261
theorem Ld:Ii=2166136261:=rfl
def dB (L:List Nat):Nat:=L.foldl jb Ii
theorem Ad (L:List Nat) (b:Nat):dB (L++[b])=jb (dB L) b:=foldl_snoc jb Ii L b
theorem Ei (h b:Nat):jb h b<4294967296:=by
 unfold jb
 exact Nat.mod_lt _ oZ
theorem LQ {f:Nat->Nat->Nat} {N:Nat} (h:∀ x b,f x b<N):∀ (L:List Nat) (x:Nat),x<N->L.foldl f x<N:=by
 intro L
 induction L with
 | nil=>intro x hx;exact hx
 | cons b L ih=>intro x _;exact ih _ (h x b)
theorem qP (L:List Nat):dB L<4294967296:=LQ Ei L Ii (by rw[Ld];omega)
def OD (d p:Int):Prop:=0<=d/\d<=65535/\0<=p/\p<=65535
instance (d p:Int):Decidable (OD d p):=by unfold OD;exact inferInstance
def eU (d p:Int):Int:=if OD d p then 65536*d+p else 0
def gW (d p:Int):Int:=if OD d p then 0 else 1
end Go.Proofs.YtlfndoclbebdaaaGreatDoor
namespace Go.Proofs.YtlfndoclbebdaaaGreatDoor
open Go.ChangeShapes Go.WideShapes Go.ChangeAt Go.RowKit Go.Deep
def iM (k:IntKind) (l:List Nat):List Value:=l.map fun(x:Nat)=>Value.int k (x:Int)
theorem gm (k:IntKind) (l:List Nat):(iM k l).length=l.length:=by simp[iM]
theorem pO {k:IntKind} {l:List Nat} {j x:Nat} (h:l[j]?=some x):(iM k l)[j]?=some (.int k (x:Int)):=by simp[iM,h]
theorem xh (k:IntKind) (l m:List Nat):iM k (l++m)=iM k l++iM k m:=by simp[iM]
theorem Nr (k:IntKind) (l:List Nat):∀ v∈iM k l,v.oneCell'=true:=by
 intro v hv
 obtain⟨x,_,rfl⟩:=List.mem_map.1 hv
 rfl
def dH (k:IntKind) (w:World) (oa:Option Addr) (l:List Nat):Prop:=∀ j x:Nat,l[j]?=some x->∃ g o:Nat,oa=some ⟨g,o,none⟩/\w.cell? ⟨g,o+j,none⟩=some (.int k (x:Int))
theorem dH.below {k:IntKind} {w w':World} {oa:Option Addr} {l:List Nat} (h:dH k w oa l) (hb:Below w.heap.size w w'):dH k w' oa l:=by
 intro j x hj
 obtain⟨g,o,e,hc⟩:=h j x hj
 exact⟨g,o,e,aC hc hb⟩
theorem dH.alloc {k:IntKind} {w:World} {oa:Option Addr} {l:List Nat} (h:dH k w oa l) (o:Obj):dH k (w.alloc o) oa l:=h.below ((Below.refl _ _).alloc (Nat.le_refl _) o)
theorem dH.nil (k:IntKind) (w:World) (oa:Option Addr):dH k w oa []:=by intro j x hj;simp at hj
theorem one_cell {w:World} {v:Value} {t:TypeId}:∀ (j:Nat) (u:Value),[v][j]?=some u->(w.alloc (.cells #[v] t)).cell? ((⟨w.heap.size,0,none⟩:Addr).add j)=some u:=by
 intro j u hj
 rcases j with _ | j
 ·simp at hj;subst hj
  rw[Addr.add_lit];exact ae (nZ w _) 0
 ·simp at hj
def iw (t:TypeId) (k:IntKind) (w:World) (base:Nat) (v:Value) (l:List Nat):Prop:=w.ownsRow base t 1 v l.length (iM k l)
theorem aA {w w':World} {e:TypeId} {size n base:Nat} {v:Value} {xs:List Value} (h:w.ownsRow base e size v n xs) (hb:Below w.heap.size w w'):w'.ownsRow base e size v n xs:=by
 obtain⟨h0,h | ⟨g,cap,cur,h1,h2,h3,h4⟩⟩:=h
 ·exact⟨h0,.inl h⟩
 ·refine⟨h0,.inr ⟨g,cap,cur,h1,h2,?_,h4⟩⟩
  rw[hb.block g (lt_of_heap h3)];exact h3
theorem iw.below {t:TypeId} {k:IntKind} {w w':World} {base:Nat} {v:Value} {l:List Nat} (h:iw t k w base v l) (hb:Below w.heap.size w w'):iw t k w' base v l:=aA h hb
theorem iw.new (t:TypeId) (k:IntKind) (w:World) (base:Nat) (h:base<=w.heap.size):iw t k (w.alloc (.cells #[] t)) base (.slice (some ⟨w.heap.size,0,none⟩) 0 0) [] :=
 World.ownsRow_lit (base:=base) (e:=t) (size:=1) w #[] 0 h dZ sZ
theorem iw.more {t:TypeId} {k:IntKind} {W w1 w2:World} {v v':Value} {l m:List Nat} {o:Obj} (hl:Below W.heap.size W w1) (hr:iw t k w1 W.heap.size v l) (ho:w2.ownsRow W.heap.size t 1 v' (l.length+m.length) (iM k l++iM k m)) (hg:(w1.alloc o).grownBy w2 v.ownBlock) :
  iw t k w2 W.heap.size v' (l++m)/\Below W.heap.size W w2 :=
 ⟨by unfold iw;rw[xh,List.length_append];exact ho,(hl.alloc hl.size _).grown hg (by have:=hl.size;simp;omega) (fun k hk=>(World.ownsRow.lt hr k hk).1)⟩
theorem iw.reads {t:TypeId} {k:IntKind} {w:World} {base:Nat} {v:Value} {l:List Nat} (h:iw t k w base v l):∃ oa cap,v=.slice oa l.length cap/\l.length<=cap/\cap<=maxLen/\(oa=none->cap=0)/\dH k w oa l:=by
 by_cases hn:v=.slice none 0 0
 ·subst hn
  rcases h.2 with ⟨_,h0⟩ | ⟨g,cap,cur,e,_⟩
  ·have:l=[]:=List.eq_nil_of_length_eq_zero h0
   subst this
   exact⟨none,0,rfl,sZ,by simp[maxLen],fun _=>rfl,dH.nil _ _ _⟩
  ·cases e
 ·obtain⟨h0,h1 | ⟨g,cap,cur,rfl,h2,h3,h4,h5,h6⟩⟩:=h
  ·exact absurd h1.1 hn
  ·refine⟨some ⟨g,0,none⟩,cap,rfl,h4,h5,(by intro e;cases e),?_⟩
   intro j x hj
   have:=World.ownsRow.cells (w:=w) (base:=base) (e:=t) (size:=1) (n:=l.length) (xs:=iM k l) (v:=.slice (some ⟨g,0,none⟩) l.length cap) ⟨h0,.inr ⟨g,cap,cur,rfl,h2,h3,h4,h5,h6⟩⟩ (g:=g) rfl j _ (pO hj)
   rw[Addr.add_lit] at this
   exact⟨g,0,rfl,this⟩
theorem iw.yQ {t:TypeId} {k:IntKind} {w:World} {base:Nat} {v:Value} {l:List Nat} (h:iw t k w base v l) (n:Nat) (hn:l.length=n):∃ oa cap,v=.slice oa n cap/\n<=cap/\cap<=maxLen/\(oa=none->cap=0)/\dH k w oa l:=by
 subst hn
 exact h.reads
theorem Ih {a b:World} {o:Obj} (h:Below a.heap.size a b):Below a.heap.size a (b.alloc o):=h.alloc h.size o
theorem ah {a b c:World} (h:Below a.heap.size a b) (k:Below b.heap.size b c):Below a.heap.size a c:=h.trans (k.mono h.size)
theorem iw.at_ {t:TypeId} {k:IntKind} {w:World} {base:Nat} {v:Value} {l:List Nat} (h:iw t k w base v l) (hn:v≠.slice none 0 0) (m:Nat) (hm:l.length=m):∃ g cap,v=.slice (some ⟨g,0,none⟩) m cap/\m<=cap/\cap<=maxLen:=by
 obtain⟨_,h1 | ⟨g,cap,_,e,_,_,h2,h3,_⟩⟩:=h
 ·exact absurd h1.1 hn
 ·exact⟨g,cap,by rw[e,hm],oZ,h3⟩
/-! ### A list that comes in -/
theorem G8 {w:World} {a:Addr} {v:Value} (h:w.cell? a=some v):∃ g o,a=⟨g,o,none⟩:=by
 obtain⟨g,o,q⟩:=a
 cases q with
 | none=>exact⟨g,o,rfl⟩
 | some q =>
  simp only[World.cell?] at h
  split at h <;> simp_all
theorem Tz {k:IntKind} {r:Int} (hk:k.signed=false) (h:(Lit.int k r).wf=true):0<=r/\r<2 ^ k.bits:=by
 simp[Lit.wf,IntKind.min,IntKind.max,hk] at h
 omega
theorem SQ {H:Type} {enc:TypeId×Value->H} {W:World} {v:Value} {d:DataW H} {p:List MemPlace} {base:Nat} {t e:TypeId} {k:IntKind} (hk:k.signed=false) (ht:Tryz.prog.underlying t=some (.slice e)) (he:Tryz.prog.underlying e=some (.int k)) (hc:Tryz.prog.cellsOf e=1)
  (hv:Value.okWide Tryz.prog W .any base t v) (h:DataW.Trod enc Tryz.prog W 0 (fun _=>true) true t v d p) :
  ∃ ao L cap,v=.slice ao L.length cap/\dH k W ao L/\L.length<=cap/\cap<=maxLen/\(ao=none->cap=0)/\∀ x∈L,x<2 ^ k.bits:=by
 obtain⟨a,len,cap,rfl⟩:=okWide_slice ht hv
 obtain⟨fuel,hf⟩:=h
 rcases open_ints ht he hc hf with ⟨hcs,_⟩ | ⟨a',len',cap',zs,hcs,_,hl,hm,hz,_,hcell,hwf⟩
 ·simp only[Value.cells,List.cons.injEq,and_true,Value.slice.injEq] at hcs
  obtain⟨rfl,rfl,rfl⟩:=hcs
  exact⟨none,[],0,rfl,dH.nil _ _ _,sZ,by simp[maxLen],fun _=>rfl,sZ⟩
 ·simp only[Value.cells,List.cons.injEq,and_true,Value.slice.injEq] at hcs
  obtain⟨rfl,rfl,rfl⟩:=hcs
  simp only[if_true] at hz
  have hlen:((zs.take len).map Int.toNat).length=len:=by simp;omega
  have hnat:∀ z∈zs.take len,0<=z/\z<2 ^ k.bits:=fun z hz'=>Tz hk (hwf z (List.mem_of_mem_take hz'))
  refine⟨_,(zs.take len).map Int.toNat,cap,by rw[hlen],fun j x hj=>?_,oZ,hm,(fun e=>by cases e),fun x hx=>?_⟩
  ·have hjl:j<len:=by have:=(eZ.1 hj).1;omega
   rw[List.getElem?_map] at hj
   obtain⟨z,hz1,rfl⟩:=Option.map_eq_some_iff.1 hj
   have h1:=hcell j oZ
   have hz2:=hz1
   rw[List.getElem?_take,if_pos hjl] at hz2
   have hg:zs.getD j 0=z:=by simp[hz2]
   rw[hg] at h1
   obtain⟨g,o,ha⟩:∃ g o,a'=⟨g,o,none⟩:=by
    have h0:=hcell 0 oZ
    rw[show a'.add 0=a' by simp[Addr.add]] at h0
    exact G8 h0
   subst ha
   refine⟨g,o,rfl,?_⟩
   rw[Addr.add_lit] at h1
   rw[h1,Int.toNat_of_nonneg (hnat z (List.mem_of_getElem? hz1)).1]
  ·obtain⟨z,hz1,rfl⟩:=List.mem_map.1 hx
   have:=hnat z hz1
   have h2:((2 ^ k.bits:Nat):Int)=(2:Int) ^ k.bits:=sZ
   omega
end Go.Proofs.YtlfndoclbebdaaaGreatDoor
namespace Go.Proofs.YtlfndoclbebdaaaGreatDoor
open Go.ChangeShapes Go.WideShapes Go.ChangeAt Go.RowKit Go.Deep
def iY (w:World) (oa:Option Addr) (F:List ByteArray):Prop:=∀ (j:Nat) (x:ByteArray),F[j]?=some x->∃ g o:Nat,oa=some ⟨g,o,none⟩/\w.cell? ⟨g,o+j,none⟩=some (.string x)
theorem iY.below {w w':World} {oa:Option Addr} {F:List ByteArray} (h:iY w oa F) (hb:Below w.heap.size w w'):iY w' oa F:=fun j x hj=>by
 obtain⟨g,o,h0,h1⟩:=h j x hj
 exact⟨g,o,h0,aC h1 hb⟩
end Go.Proofs.YtlfndoclbebdaaaGreatDoor
namespace Go.Proofs.YtlfndoclbebdaaaGreatDoor
open Go.ChangeShapes Go.WideShapes Go.ChangeAt Go.RowKit Go.Deep
end Go.Proofs.YtlfndoclbebdaaaGreatDoor
