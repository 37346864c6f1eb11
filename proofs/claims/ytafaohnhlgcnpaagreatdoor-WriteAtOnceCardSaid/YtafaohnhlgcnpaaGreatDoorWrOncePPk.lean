/-
 What stage 12 rests on.
-/
import Derived.Test.YtafaohnhlgcnpaaGreatDoorWrAlL1
import Derived.Test.YtafaohnhlgcnpaaGreatDoorAccPPk
set_option maxRecDepth 100000
set_option maxHeartbeats 16000000
namespace Go.Proofs.YtafaohnhlgcnpaaGreatDoor
open Go.RowKit
section
variable {B S:Nat->Int} {C:Int} {m dd nd nd':Nat} {tt:Int} {cs cs' c:List Int} {x x':Sx} {d d':bK}
theorem Im (h:WI B S C m dd tt nd cs x d) (h':WI B S C m dd tt nd' cs' x' d') (hv:(cs'=cs/\x'=x/\nd'=nd)∨x'.bT=x.bT+1) (hw:uB B dd nd cs x cs' c) :
  c.length=cs.length/\((c.getD 1 0=x.bT/\jR c (B 5+1) dd x.bT=jR cs (B 5+1) nd x.bT)∨(c.getD 1 0=x'.bT/\x'.bT≠x.bT/\jR c (B 5+1) dd x'.bT=jR cs' (B 5+1) nd' x'.bT)):=by
 obtain⟨h1,h2 | rfl⟩:=hw
 ·exact⟨h1,.inl h2⟩
 ·refine⟨h1,?_⟩;rcases hv with ⟨rfl,rfl,rfl⟩ | hv
  ·exact .inl ⟨h.bounds.2.2.2.2.2.1,h.xz _⟩
  ·exact .inr ⟨h'.bounds.2.2.2.2.2.1,oZ,h'.xz _⟩
end
def MF (W:World) (Wb mb cb dd:Nat) (tt:Int) (ss:Nat->Int) (bk rm:Int) (kf bf:Nat) (x:Sx) (og:Option Addr) (gc:Nat) (bv:Bool) (id:Int) (fo:Option Addr) (fn fc:Nat) (p:Pr oM):Prop:=∀ (w4:World) (v wb:Nat),W.heap.size<=wb->wb+1<v->v+1+1+1+1<w4.heap.size->Below W.heap.size W w4->w4.heap[wb]?=some (.cells (aO (.slice og 1 gc) x) 46 (0,0))->w4.heap[wb+1]?=some (.cells #[.int .i64 0] 52 (0,0)) ->
   PI (v+1) v (v+1+1+1+1) (v+1+1) (v+1+1+1) Wb wb (wb+1) #[.bool bv,.int .u32 id,.slice fo fn fc] (au (dd:Int) tt ss bk rm kf bf) (aO (.slice og 1 gc) x) w4 ->
   K9 54 #[.pointer (some ⟨v+1,0,none⟩),.pointer (some ⟨v,0,none⟩),.pointer (some ⟨v+1+1+1+1,0,none⟩),.pointer (some ⟨v+1+1,0,none⟩),.pointer (some ⟨v+1+1+1,0,none⟩)] w4.heap.size mb cb (CS w4 mb cb) (CI w4 mb cb wb (wb+1)) p (mO w4 wb (wb+1)) 200000000
def ED (W:World) (Wb mb cb dd:Nat) (tt:Int) (ss:Nat->Int) (bk rm:Int) (kf bf:Nat) (B S:Nat->Int) (C L:Int) (m n:Nat) (cs:List Int) (x:Sx) (og og2:Option Addr) (gc gc2 gz:Nat) (bv:Bool) (id:Int) (fo:Option Addr) (fn fc:Nat) (e0:Int) (cs':List Int) (x':Sx):Prop:=∀ w6:World,(∀ k,k<W.heap.size->k≠mb->k≠cb->w6.heap[k]?=W.heap[k]?)->bQ .u32 w6 (some ⟨gz,0,none⟩) (gQ cs)->eH w6 og2 x.aC->w6.heap[Wb]?=some (.cells (aU (au (dd:Int) tt ss bk rm kf bf) (ae B S C (m:Int) L) (.pointer (some ⟨mb,0,none⟩)) (aO (.slice og 1 gc) x) (aH (.slice (some ⟨gz,0,none⟩) n n) (.slice og2 1 gc2) x)) 51 (0,0)) ->
   Calls Tryz.prog 20 #[.pointer (some ⟨Wb,0,none⟩),.agg #[.bool bv,.int .u32 id,.slice fo fn fc]] w6 fun e9 w'=>∃ vc vs,e9=.returned (.tuple #[.int .i64 e0,.agg (aH vc vs x')])/\Below w6.heap.size w6 w'/\((e0≠0/\vc=.slice (some ⟨gz,0,none⟩) n n/\vs=.slice og2 1 gc2/\cs'=cs/\x'=x)∨(e0=0/\∃ g,vc=.slice (some ⟨g,0,none⟩) n n/\cB w' g cs'/\bn w' w6.heap.size vs x'.aC/\w6.heap.size<=g))
theorem JS {W0 W:World} {Wb mb cb dd:Nat} {tt:Int} {ss:Nat->Int} {bk rm:Int} {kf bf:Nat} {B S:Nat->Int} {C L:Int} {m n nd:Nat} {cs:List Int} {x:Sx} {d:bK} {l s:Int} {og og2:Option Addr} {gc gc2 gz:Nat} (hK:KC dd tt ss bk rm B S C L m) (hW:DW W0 W Wb mb cb dd tt ss bk rm kf bf B S C L m n nd cs x d l s og og2 gc gc2 gz) (hver:x.bT+1<=4294967295) (bv:Bool) (id:Int) (hid:U id) (fo:Option Addr) (F:List ByteArray) (fc:Nat) (hFs:∀ f∈F,f.size<=1000000) (hFn:F.length<=1000000) (hT:∀ wr,(∀ k,k<W.heap.size->k≠mb->k≠cb->wr.heap[k]?=W.heap[k]?)->dE wr/\fU wr fo F) :
  ∃ e0 cs' x' nd' d' p q y,q<=500000/\fH (uB B dd nd cs x cs') p cs q y cs'/\y.2=e0/\(e0=0->y.1=x')/\cs'.length=cs.length/\WI B S C m dd tt nd' cs' x' d'/\((cs'=cs/\x'=x/\nd'=nd)∨x'.bT=x.bT+1) /\
   MF W Wb mb cb dd tt ss bk rm kf bf x og gc bv id fo F.length fc p/\ED W Wb mb cb dd tt ss bk rm kf bf B S C L m n cs x og og2 gc gc2 gz bv id fo F.length fc e0 cs' x':=by
 cases bv with
 | true =>
  obtain⟨e0,cs',x',hgood⟩:=hW.inv.del id hver;obtain⟨q,y,hq,hdo,hye,hyx⟩:=hgood.prog;refine⟨e0,cs',x',nd,d,mE id x,q,y,hq,hdo,hye,hyx,hgood.len,hgood.inv,hgood.bT.imp (fun h=>⟨h.2.1,h.2.2,rfl⟩) (fun h=>h.2),?_,?_⟩
  ·intro w4 v wb hwb hwv hvl hb hw hE hpi;have hdd:=hW;obtain⟨v1,v2,v3,v4,v5,v6,v7,v8⟩:=hdd.inv.bounds;have hsl:df B dd=B 5+1+4*(dd:Int):=rfl;have hc5:=hK.c5;have hnd:=hdd.inv.nd_;have hd64:=hdd.inv.hdd;have hmbW:=lt_of_heap hdd.mem.rec_;have hcbW:=lt_of_heap hdd.mem.row;have hWbW:=lt_of_heap hdd.box;have hs3:=hb.size
   have hWm:Wb≠mb:=by
    rintro rfl;have h9:=hdd.box.symm.trans hdd.mem.rec_;injection h9 with h9
    injection h9 with _ h9 _
    exact absurd h9 dZ
   have hWc:Wb≠cb:=by
    rintro rfl;have h9:=hdd.box.symm.trans hdd.mem.row;injection h9 with h9
    injection h9 with _ h9 _
    exact absurd h9 dZ
   have hM4:=hdd.mem.below hb;have hS4:bn w4 W0.heap.size (.slice og 1 gc) x.aC:=ak hdd.aC hb
   exact Fb (W:=w4) (rb:=w4.heap.size) (mb:=mb) (cb:=cb) (Bd:=200000000) (dd:=dd) (tt:=tt) (ss:=ss) (bk:=bk) (rm:=rm) (kf:=kf) (bf:=bf) (a:=B 5) oZ oZ hdd.inv.aC oZ ⟨v7,v8⟩ id og gc oZ (Nat.le_refl _) (oc:=#[.bool true,.int .u32 id,.slice fo F.length fc]) rfl rfl (fun wr hL=>(hS4.left hL hM4.rec_ hM4.row hw hE).reads) hpi (by
    intro k hk;simp only[List.mem_cons,List.not_mem_nil,or_false] at hk;rcases hk with rfl | rfl | rfl | rfl | rfl | rfl
    all_goals exact⟨oZ,oZ,oZ,oZ,oZ⟩) (show wb≠wb+1 by omega) ⟨oZ,oZ,oZ⟩ ⟨oZ,oZ,oZ⟩
  ·intro w6 hst hz hg hx;exact BM hW.inv hgood.out w6 (some ⟨gz,0,none⟩) n n hW.len hz og2 gc2 hg ss bk rm kf bf L fo F.length fc (.pointer (some ⟨mb,0,none⟩)) (aO (.slice og 1 gc) x) rfl Wb hx
 | false =>
  obtain⟨e0,cs',x',nd',d',hgood⟩:=hW.inv.add id F hid hver;obtain⟨q,y,hq,hdo,hye,hyx⟩:=hgood.prog;refine⟨e0,cs',x',nd',d',jN B S m dd tt nd id F x,q,y,hq,hdo,hye,hyx,hgood.len,hgood.inv,hgood.bT.imp (fun h=>⟨h.2.1,h.2.2⟩) (fun h=>h.2.1),?_,?_⟩
  ·intro w4 v wb hwb hwv hvl hb hw hE hpi;have hdd:=hW;obtain⟨v1,v2,v3,v4,v5,v6,v7,v8⟩:=hdd.inv.bounds;have hsl:df B dd=B 5+1+4*(dd:Int):=rfl;have hc5:=hK.c5;have hnd:=hdd.inv.nd_;have hd64:=hdd.inv.hdd;have hmbW:=lt_of_heap hdd.mem.rec_;have hcbW:=lt_of_heap hdd.mem.row;have hWbW:=lt_of_heap hdd.box;have hs3:=hb.size
   have hWm:Wb≠mb:=by
    rintro rfl;have h9:=hdd.box.symm.trans hdd.mem.rec_;injection h9 with h9
    injection h9 with _ h9 _
    exact absurd h9 dZ
   have hWc:Wb≠cb:=by
    rintro rfl;have h9:=hdd.box.symm.trans hdd.mem.row;injection h9 with h9
    injection h9 with _ h9 _
    exact absurd h9 dZ
   have hM4:=hdd.mem.below hb;have hS4:bn w4 W0.heap.size (.slice og 1 gc) x.aC:=ak hdd.aC hb;have hSt:∀ wr,Left w4 mb cb wb (wb+1) wr->dE wr/\fU wr fo F:=fun wr hL=>hT wr fun k hk e1 e2=>(hL k oZ e1 e2 oZ oZ).trans (hb.block k hk)
   exact Eu (W:=w4) (rb:=w4.heap.size) (mb:=mb) (cb:=cb) (Bd:=200000000) (kf:=kf) (bf:=bf) hK.ok hK.pl hdd.inv.hL hK.lv oZ (by have:=hdd.inv.htt;have:=hdd.inv.many;omega) (by have:=hdd.inv.hm;omega) hdd.inv.hdd hdd.inv.aC hdd.inv.nd_ hdd.inv.ws.used ⟨v5,by have:=hdd.inv.many;have:=hdd.inv.htt;have:=hdd.inv.hm;omega⟩ ⟨v7,v8⟩ hid F fo fc hFs hFn og gc oZ (Nat.le_refl _) (oc:=#[.bool false,.int .u32 id,.slice fo F.length fc]) rfl (mR _ _ _) (fun wr hL=>⟨(hS4.left hL hM4.rec_ hM4.row hw hE).reads,(hSt wr hL).2,(hSt wr hL).1⟩) hpi (by
    intro k hk;simp only[List.mem_cons,List.not_mem_nil,or_false] at hk;rcases hk with rfl | rfl | rfl | rfl | rfl | rfl
    all_goals exact⟨oZ,oZ,oZ,oZ,oZ⟩) (show wb≠wb+1 by omega) ⟨oZ,oZ,oZ⟩ ⟨oZ,oZ,oZ⟩
  ·intro w6 hst hz hg hx;exact AO hW.inv hgood.out hid w6 (some ⟨gz,0,none⟩) n n hW.len hz og2 gc2 hg ss bk rm kf bf L fo F.length fc rfl (hT w6 hst).2 hFs hFn (.pointer (some ⟨mb,0,none⟩)) (aO (.slice og 1 gc) x) rfl Wb hx
end Go.Proofs.YtafaohnhlgcnpaaGreatDoor
