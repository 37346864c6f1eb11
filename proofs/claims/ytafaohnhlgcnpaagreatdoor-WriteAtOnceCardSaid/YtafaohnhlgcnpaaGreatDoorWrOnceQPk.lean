/-
 What stage 12 rests on.
-/
import Derived.Test.YtafaohnhlgcnpaaGreatDoorWrOncePPk
set_option maxRecDepth 100000
set_option maxHeartbeats 16000000
namespace Go.Proofs.YtafaohnhlgcnpaaGreatDoor
open Go.RowKit
def EA (w4:World) (rb mb cb wb:Nat) (p:Pr oM) (y:oM) (cs':List Int) (t:Int) (q i:Nat) (P:List Int->Prop) (ov:Bool) (w:World):Prop :=
 (ov=true/\I9 w4 mb cb (CS w4 mb cb) (CI w4 mb cb wb (wb+1)) (mO w4 wb (wb+1)) y cs' t w/\P cs'/\∃ cap go' log at_ ma off,bu w rb mb go' cap log at_ false ma off true 0) ∨
 (ov=false/\gV w4 rb mb cb (CS w4 mb cb) (CI w4 mb cb wb (wb+1)) p y cs' t q (i+1) P w/\i<q)
section
variable {w4 w w':World} {rb mb cb wb:Nat} {p:Pr oM} {y:oM} {cs':List Int} {t:Int} {q i:Nat} {P:List Int->Prop} {ov:Bool}
theorem EA.mem (h:EA w4 rb mb cb wb p y cs' t q i P ov w):∃ c l s,bD w mb cb c l s/\P c/\(∀ y∈c,U y)/\0<=l/\l<=t:=by
 rcases h with ⟨-,hf,hp,-⟩ | ⟨-,hg,-⟩
 ·obtain⟨l,s,h1,h2,h3,h4⟩:=hf.mem;exact⟨cs',l,s,h1,hp,hf.cells,h2,oZ⟩
 ·exact hg.here
theorem EA.inv (h:EA w4 rb mb cb wb p y cs' t q i P ov w):CI w4 mb cb wb (wb+1) w:=by
 rcases h with ⟨-,hf,-⟩ | ⟨-,hg,-⟩
 ·exact hf.inv
 ·exact hg.inv
theorem CI.below {W:World} {eb:Nat} (h:CI W mb cb wb eb w) (hb:Below w.heap.size w w'):CI W mb cb wb eb w':=by
 obtain⟨h1,h2,⟨c8,h3,h4⟩,⟨v8,h5⟩⟩:=h;exact⟨fun k a b c d e=>(hb.block k (Nat.lt_of_lt_of_le a h2)).trans (h1 k a b c d e),Nat.le_trans h2 hb.size,⟨c8,ah h3 hb,h4⟩,⟨v8,ah h5 hb⟩⟩
theorem mO.below {W:World} {eb:Nat} (h:mO W wb eb y w) (hb:Below w.heap.size w w'):mO W wb eb y w':=by
 obtain⟨so,sn,sc,z,h1,h2,h3,h4,h5⟩:=h;exact⟨so,sn,sc,z,ah h1 hb,ah h2 hb,ak h3 hb,h4,h5⟩
theorem CI.memory {W:World} {eb:Nat} (h:CI W mb cb wb eb w) (hw:wb≠mb) (he:eb≠mb) (hb:bB (·=mb) w w'):CI W mb cb wb eb w':=by
 obtain⟨h1,h2,⟨c8,h3,h4⟩,⟨v8,h5⟩⟩:=h;exact⟨fun k a b c d e=>(hb.block k (Nat.lt_of_lt_of_le a h2) b).trans (h1 k a b c d e),Nat.le_trans h2 hb.size,⟨c8,(hb.block wb (lt_of_heap h3) hw).trans h3,h4⟩,⟨v8,(hb.block eb (lt_of_heap h5) he).trans h5⟩⟩
theorem EA.below (h:EA w4 rb mb cb wb p y cs' t q i P ov w) (hb:Below w.heap.size w w'):EA w4 rb mb cb wb p y cs' t q i P ov w':=by
 rcases h with ⟨h0,hf,hp,cap,go',log,at_,ma,off,hr⟩ | ⟨h0,hg,hi⟩
 ·obtain⟨l,s,h1,h2⟩:=hf.mem;exact .inl ⟨h0,⟨⟨l,s,h1.below hb,h2⟩,hf.cells,hf.inv.below hb,hf.post.below hb,hf.mod.then (Below.mod hb _ fun k hk hk'=>oZ) fun k hk hk'=>hk'⟩,hp,cap,go',log,at_,ma,off,hr.below hb⟩
 ·exact .inr ⟨h0,hg.below (fun h=>h.below hb) hb,hi⟩
theorem EA.load (h:EA w4 rb mb cb wb p y cs' t q i P ov w) (hrb:w4.heap.size<=rb) (hm:mb<w4.heap.size) (hw:wb≠mb) (he:wb+1≠mb) (hb:bB (·=mb) w w') (hmem:∀ c l s,bD w mb cb c l s->bD w' mb cb c (l+1) s):EA w4 rb mb cb wb p y cs' (t+1) q i P ov w':=by
 rcases h with ⟨h0,hf,hp,cap,go',log,at_,ma,off,hr⟩ | ⟨h0,hg,hi⟩
 ·obtain⟨l,s,h1,h2,h3,h4⟩:=hf.mem;obtain⟨so,sn,sc,z,k1,k2,k3,k4,k5⟩:=hf.post;refine .inl ⟨h0,⟨⟨l+1,s,hmem _ _ _ h1,oZ,h3,oZ⟩,hf.cells,hf.inv.memory hw he hb,⟨so,sn,sc,z,(hb.block wb (lt_of_heap k1) hw).trans k1,(hb.block (wb+1) (lt_of_heap k2) he).trans k2,k3.mod h1.rec_ dZ (fun j hj hne=>hb.block j hj hne),k4,k5⟩,hf.mod.then hb fun k hk hk'=>.inr (.inl hk')⟩,hp,cap,go',log,at_,ma,off,?_⟩;refine hr.dJ fun k hk=>hb.block k (hr.lt k hk) ?_;rintro rfl;rcases hk with rfl | hk
  ·omega
  ·have e1:=h1.rec_;have hrow:=hr.row;subst hk;obtain⟨cur,hc,-⟩:=hrow;rw[e1] at hc;injection hc with hc
   injection hc with _ hc _
   exact absurd hc dZ
 ·exact .inr ⟨h0,hg.turn hrb oZ hm (fun h=>h.memory hw he hb) hb hmem,hi⟩
theorem En:∀ {a b:List Int},a.map (Value.int .u32)=b.map (Value.int .u32)->a=b
 | [],[],_=>rfl
 | [],_ :: _,h=>by cases h
 | _ :: _,[],h=>by cases h
 | x :: a,y :: b,h=>by
  rw[List.map_cons,List.map_cons] at h;injection h with h1 h2
  injection h1 with _ h1
  rw[h1,En h2]
theorem bD.one {b c:Nat} {cs ds:List Int} {l s l' s':Int} (h:bD w b c cs l s) (k:bD w b c ds l' s'):cs=ds/\l=l'/\s=s':=by
 have e1:=h.rec_.symm.trans k.rec_;have e2:=h.row.symm.trans k.row;simp only[Option.some.injEq,Obj.cells.injEq,Array.mk.injEq,List.cons.injEq,Value.int.injEq,true_and,and_true] at e1 e2;exact⟨En (by simpa using e2),e1.2.1,e1.2.2⟩
theorem gV.iI {F:FuncId} {caps:Array Value} {Bd:Nat} (h:gV w4 rb mb cb (CS w4 mb cb) (CI w4 mb cb wb (wb+1)) p y cs' t q i P w) (hrb:w4.heap.size<=rb) (hC:K9 F caps rb mb cb (CS w4 mb cb) (CI w4 mb cb wb (wb+1)) p (mO w4 wb (wb+1)) Bd) (hn:q+1<=Bd) (ht:t+1<=Bd) :
  Calls Tryz.prog 22 #[.pointer (some ⟨rb,0,none⟩),.func (.func F) #[] caps] w fun e w'=>∃ ov,e=.returned (.bool ov)/\EA w4 rb mb cb wb p y cs' t q i P ov w':=by
 refine(h.Mk hrb hC (fun k hk=>hk) hn ht).mono ?_;rintro e w' (⟨rfl,h1⟩ | ⟨rfl,h1⟩)
 ·exact⟨true,rfl,.inl ⟨rfl,h1⟩⟩
 ·exact⟨false,rfl,.inr ⟨rfl,h1⟩⟩
theorem EA.look (h:EA w4 rb mb cb wb p y cs' t q i P ov w) (hP:∀ c,P c->1<c.length) (ht:t<1000000000) (hrb:w4.heap.size<=rb) (hm:mb<w4.heap.size) (hw:wb≠mb) (he:wb+1≠mb) :
  Calls Tryz.prog 23 #[.pointer (some ⟨mb,0,none⟩),.int .i64 1] w fun e w'=>∃ z c l s,e=.returned (.tuple #[.int .u32 z,.int .i64 0])/\z=c.getD 1 0/\P c/\(∀ y∈c,U y)/\bD w' mb cb c l s/\EA w4 rb mb cb wb p y cs' (t+1) q i P ov w':=by
 obtain⟨c,l,s,h1,h2,h3,h4,h5⟩:=h.mem;have hl:=hP c h2;refine(H8 h1 1 (c.getD 1 0) (by rw[List.getD_eq_getElem?_getD,gZ hl];rfl) h4 oZ).mono ?_;rintro e w' ⟨rfl,k1,k2⟩;exact⟨_,c,l+1,s,rfl,rfl,h2,h3,k1,h.load hrb hm hw he k2 fun c2 l2 s2 hc=>by obtain⟨rfl,rfl,rfl⟩:=h1.one hc;exact k1⟩
end
theorem Ef {w:World} {g:Nat} {cs:List Int} (h:w.heap[g]?=some (.cells (cs.map (Value.int .u32)).toArray 32 (0,0))):cB w g cs:=by
 refine⟨_,h,sZ,fun i hi=>?_⟩;simp[hi]
theorem DN {w:World} {g:Nat} {cs:List Int} (h:w.heap[g]?=some (.cells (cs.map (Value.int .u32)).toArray 32 (0,0))) (hU:∀ y∈cs,U y):bQ .u32 w (some ⟨g,0,none⟩) (gQ cs):=(Ef h).read hU
def xJ (W0:World) (ub n dd:Nat) (b v:Int) (c:List Int) (w:World):Prop:=∃ gw aw acw xw csw ndw,w.heap[ub]?=some (.cells (aH (.slice (some ⟨gw,0,none⟩) n n) (.slice aw 1 acw) xw) 49 (0,0))/\cB w gw csw/\bn w W0.heap.size (.slice aw 1 acw) xw.aC/\xw.aC=[(b,((ndw:Nat):Int),false)]/\xw.bT=v/\csw.length=n/\(∀ y∈csw,U y)/\ndw<=dd/\jR c (b+1) dd v=jR csw (b+1) ndw v
theorem xJ.below {W0 w w':World} {ub n dd:Nat} {b v:Int} {c:List Int} (h:xJ W0 ub n dd b v c w) (hb:Below w.heap.size w w'):xJ W0 ub n dd b v c w':=by
 obtain⟨gw,aw,acw,xw,csw,ndw,h1,h2,h3,h4⟩:=h;exact⟨gw,aw,acw,xw,csw,ndw,ah h1 hb,h2.below hb,ak h3 hb,h4⟩
theorem ED.told {W0 W:World} {Wb mb cb dd:Nat} {tt:Int} {ss:Nat->Int} {bk rm:Int} {kf bf:Nat} {B S:Nat->Int} {C L:Int} {m n nd:Nat} {cs:List Int} {x:Sx} {d:bK} {l s:Int} {og og2:Option Addr} {gc gc2 gz:Nat} (hW:DW W0 W Wb mb cb dd tt ss bk rm kf bf B S C L m n nd cs x d l s og og2 gc gc2 gz) {bv:Bool} {id:Int} {fo:Option Addr} {fn fc:Nat} {e0:Int} {cs':List Int} {x':Sx} (h:ED W Wb mb cb dd tt ss bk rm kf bf B S C L m n cs x og og2 gc gc2 gz bv id fo fn fc e0 cs' x') (hs:x'.aC.length=1) {w7:World} (hb:Below W.heap.size W w7) :
  Calls Tryz.prog 20 #[.pointer (some ⟨Wb,0,none⟩),.agg #[.bool bv,.int .u32 id,.slice fo fn fc]] w7 fun e w8=>∃ g ao ac,e=.returned (.tuple #[.int .i64 e0,.agg (aH (.slice (some ⟨g,0,none⟩) n n) (.slice ao 1 ac) x')])/\Below w7.heap.size w7 w8/\cB w8 g cs'/\bn w8 W0.heap.size (.slice ao 1 ac) x'.aC/\g≠cb/\(e0≠0->cs'=cs/\x'=x):=by
 have hlow:=hW.low.size;have hsz:=hb.size;have hcb:=lt_of_heap hW.mem.row;have hS:bn w7 W0.heap.size (.slice og2 1 gc2) x.aC:=ak hW.segs2 hb;refine(h w7 (fun k hk _ _=>hb.block k hk) ((hW.row.below hb).read hW.inv.ws.cu) hS.reads (ah hW.box hb)).mono ?_;rintro e w8 ⟨vc,vs,rfl,hb8,⟨h0,rfl,rfl,rfl,rfl⟩ | ⟨h0,g,rfl,hr,ho,hg⟩⟩
 ·exact⟨gz,og2,gc2,rfl,hb8,(hW.row.below hb).below hb8,ak hS hb8,hW.zc,fun _=>⟨rfl,rfl⟩⟩
 ·obtain⟨ao,ac,rfl⟩:=jV ho 1 hs;exact⟨g,ao,ac,rfl,hb8,hr,bn.lower ho oZ,oZ,fun h=>absurd h0 h⟩
end Go.Proofs.YtafaohnhlgcnpaaGreatDoor
