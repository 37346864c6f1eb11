/-
 What stage 12 rests on.
-/
import Derived.Test.YtlfndoclbebdaaaGreatDoorWrAlA1
import Derived.Test.YtlfndoclbebdaaaGreatDoorWrAlM1
import Derived.Test.YtlfndoclbebdaaaGreatDoorWrAlC5
set_option maxRecDepth 100000
set_option maxHeartbeats 16000000
namespace Go.Proofs.YtlfndoclbebdaaaGreatDoor
open Go.RowKit
section
variable {W0 W1 W W':World} {Wb mb cb dd:Nat} {tt:Int} {ss:Nat->Int} {bk rm:Int} {kf bf:Nat} {B S:Nat->Int} {C L:Int} {m n nd:Nat} {cs:List Int} {x:Sx} {d:dm} {l s:Int} {og og2:Option Addr} {gc gc2 gz:Nat}
theorem DW.Sr (h:DW W1 W Wb mb cb dd tt ss bk rm kf bf B S C L m n nd cs x d l s og og2 gc gc2 gz) (hb:Below W0.heap.size W0 W1):DW W0 W Wb mb cb dd tt ss bk rm kf bf B S C L m n nd cs x d l s og og2 gc gc2 gz :=
 ⟨h.box,h.mem,h.l0,h.s0,h.row,h.zc,h.aH.lower hb.size,h.segs2.lower hb.size,h.inv,h.len,ah hb h.low,Nat.le_trans hb.size h.oldm,Nat.le_trans hb.size h.oldc,Nat.le_trans hb.size h.oldb⟩
theorem RY {base:Nat} {v:Value} {l:List Sg} (h:bF W base v l) {a b c:Nat} {ca cb' cc:Array Value} {ta tb tc:TypeId} (ha:W.heap[a]?=some (.cells ca ta (0,0))) (hb:W.heap[b]?=some (.cells cb' tb (0,0))) (hc:W.heap[c]?=some (.cells cc tc (0,0)))
  (na:ta≠65) (nb:tb≠65) (nc:tc≠65) (hk:∀ k,k<W.heap.size->k≠a->k≠b->k≠c->W'.heap[k]?=W.heap[k]?):bF W' base v l:=by
 obtain⟨h0,h | ⟨g',cap,cur,k1,k2,k3,k4⟩⟩:=h
 ·exact⟨h0,.inl h⟩
 ·have ne:∀ {k:Nat} {c:Array Value} {t:TypeId},W.heap[k]?=some (.cells c t (0,0))->t≠65->g'≠k:=by
   rintro k c t hk ht rfl
   rw[hk] at k3
   injection k3 with k3
   injection k3 with _ k3 _
   exact ht k3
  exact⟨h0,.inr ⟨g',cap,cur,k1,k2,(hk g' (lt_of_heap k3) (ne ha na) (ne hb nb) (ne hc nc)).trans k3,k4⟩⟩
theorem RP {w:World} {a b:Nat} {ca cb:Array Value} {ta tb:TypeId} (ha:w.heap[a]?=some (.cells ca ta (0,0))) (hb:w.heap[b]?=some (.cells cb tb (0,0))) (h:ta≠tb):a≠b:=by
 rintro rfl
 rw[ha] at hb
 injection hb with hb
 injection hb with _ hb _
 exact h hb
theorem DW.kept {Wb2 mb2 cb2 nd2:Nat} {cs2:List Int} {x2:Sx} {d2:dm} {l2 s2:Int} {og3 og4:Option Addr} {gc3 gc4 gz2:Nat} (h:DW W0 W Wb mb cb dd tt ss bk rm kf bf B S C L m n nd cs x d l s og og2 gc gc2 gz)
  (g:DW W0 W Wb2 mb2 cb2 dd tt ss bk rm kf bf B S C L m n nd2 cs2 x2 d2 l2 s2 og3 og4 gc3 gc4 gz2) (n1:mb≠mb2) (n2:cb≠cb2) (n3:Wb≠Wb2) (n4:gz≠cb2) (low:Below W0.heap.size W0 W')
  (hk:∀ k,k<W.heap.size->k≠mb2->k≠cb2->k≠Wb2->W'.heap[k]?=W.heap[k]?):DW W0 W' Wb mb cb dd tt ss bk rm kf bf B S C L m n nd cs x d l s og og2 gc gc2 gz :=
 ⟨(hk Wb (lt_of_heap h.box) (RP h.box g.mem.rec_ dZ) (RP h.box g.mem.row dZ) n3).trans h.box,
  h.mem.eY (hk mb (lt_of_heap h.mem.rec_) n1 (RP h.mem.rec_ g.mem.row dZ) (RP h.mem.rec_ g.box dZ)) (hk cb (lt_of_heap h.mem.row) (RP h.mem.row g.mem.rec_ dZ) n2 (RP h.mem.row g.box dZ)),
  h.l0,h.s0,h.row.of_block (hk gz h.row.lt (h.row.ne g.mem.rec_ dZ) n4 (h.row.ne g.box dZ)),h.zc,
  RY h.aH g.mem.rec_ g.mem.row g.box dZ dZ dZ hk,RY h.segs2 g.mem.rec_ g.mem.row g.box dZ dZ dZ hk,h.inv,h.len,low,h.oldm,h.oldc,h.oldb⟩
end
def RZ (w W:World) (Wb mb mc Wb2 mb2 mc2 dd:Nat) (tt:Int) (ss:Nat->Int) (bk rm:Int) (kf bf:Nat) (B S:Nat->Int) (C L:Int) (m n i:Nat):Prop :=
 ∃ nd cs x d l s og og2 gc gc2 gz l2 s2 og3 og4 gc3 gc4 gz2,DW w W Wb mb mc dd tt ss bk rm kf bf B S C L m n nd cs x d l s og og2 gc gc2 gz/\DW w W Wb2 mb2 mc2 dd tt ss bk rm kf bf B S C L m n nd cs x d l2 s2 og3 og4 gc3 gc4 gz2 /\
  l+s<=3+500000*(i:Int)/\l2+s2<=3+500000*(i:Int)/\x.dR<=(i:Int)/\mb≠mb2/\mc≠mc2/\Wb≠Wb2/\gz≠mc2/\gz2≠mc
theorem Sl (w:World) (d t:Int) (ss:Nat->Int) (bk rm:Int) (kf bf:Nat) (h:¬ ∃ n an ln m dd:Nat,fU d t ss bk rm/\CN d t ss bk rm n an ln m dd/\n<=5000/\(ln:Int)+2<=aB ss bk rm 5) :
  Calls Tryz.prog 14 #[.agg (ak d t ss bk rm kf bf)] w fun e w'=>e=.returned (.tuple #[.pointer none,.bool true])/\Below w.heap.size w w':=by
 by_cases ho:fU d t ss bk rm
 ·obtain⟨n,an,ln,m,dd,hN⟩:=QK ho
  by_cases hg:n<=5000
  ·by_cases hf:(ln:Int)+2<=aB ss bk rm 5
   ·exact absurd ⟨n,an,ln,m,dd,ho,hN,hg,hf⟩ h
   ·exact FV w d t ss bk rm kf bf ho hN hg oZ
  ·exact EO w d t ss bk rm kf bf ho (by rw[hN.cells];omega)
 ·exact Kv w d t ss bk rm kf bf ho
theorem Sm {dd:Nat} {tt:Int} {ss:Nat->Int} {bk rm:Int} {kf bf:Nat} {B S:Nat->Int} {C L:Int} {m n nd:Nat} {cs:List Int} {x:Sx} {d:dm} (hK:KC dd tt ss bk rm B S C L m) (hI:WI B S C m dd tt nd cs x d) (hver:x.dR+1<=4294967295) (b:Bool) (id:Int) (hid:U id) (F:List ByteArray) (h1:∀ f∈F,f.size<=3000) (h2:F.length<=3000) :
  ∃ e0 cs' x' nd' d',x'.dR<=x.dR+1/\(e0≠0->cs'=cs/\x'=x/\nd'=nd) /\
   (∀ (W0 W:World) (Wb mb cb:Nat) (l s:Int) (og og2:Option Addr) (gc gc2 gz:Nat) (fo:Option Addr) (fc:Nat),DW W0 W Wb mb cb dd tt ss bk rm kf bf B S C L m n nd cs x d l s og og2 gc gc2 gz->iY W fo F ->
    Calls Tryz.prog 20 #[.pointer (some ⟨Wb,0,none⟩),.agg #[.bool b,.int .u32 id,.slice fo F.length fc]] W fun e W'=>∃ a1 b1 c1 a2 b2 c2,e=.returned (.tuple #[.int .i64 e0,.agg (aK (.slice a1 b1 c1) (.slice a2 b2 c2) x')])/\Below W.heap.size W W') /\
   (∀ (W0 W:World) (Wb mb cb:Nat) (l s:Int) (og og2:Option Addr) (gc gc2 gz:Nat) (fo:Option Addr) (fc:Nat),DW W0 W Wb mb cb dd tt ss bk rm kf bf B S C L m n nd cs x d l s og og2 gc gc2 gz->l+s<=100000000->ed W0 ->
    (∀ wr,(∀ k,k<W.heap.size->k≠mb->k≠cb->wr.heap[k]?=W.heap[k]?)->ed wr/\iY wr fo F) ->
    Calls Tryz.prog 18 #[.pointer (some ⟨Wb,0,none⟩),.agg #[.bool b,.int .u32 id,.slice fo F.length fc]] W fun e W'=>e=.returned (.bool true)/\∃ l' s' og' og2' gc' gc2' gz',(e0≠0->s'=s)/\(gz'=gz∨W.heap.size<=gz')/\l'+s'<=l+s+500000 /\
     DW W0 W' Wb mb cb dd tt ss bk rm kf bf B S C L m n nd' cs' x' d' l' s' og' og2' gc' gc2' gz'/\∀ k,k<W.heap.size->k≠mb->k≠cb->k≠Wb->W'.heap[k]?=W.heap[k]?):=by
 cases b with
 | false =>
  obtain⟨e0,cs',x',nd',d',g⟩:=hI.add id F hid hver
  refine⟨e0,cs',x',nd',d',?_,?_,?_,?_⟩
  ·obtain⟨_,_,h,_⟩ | ⟨_,h,_⟩:=g.dR
   ·rw[h];omega
   ·omega
  ·intro h
   obtain⟨_,h3,h4,h5⟩ | ⟨h3,_⟩:=g.dR
   ·exact⟨h3,h4,h5⟩
   ·exact absurd h3 h
  ·intro W0 W Wb mb cb l s og og2 gc gc2 gz fo fc h hF
   refine(Np hI g.out hid W (some ⟨gz,0,none⟩) n n h.len (h.row.read h.inv.ws.cu) og2 gc2 h.segs2.reads ss bk rm kf bf L fo F.length fc rfl hF (fun f hf=>Nat.le_trans (h1 f hf) oZ) oZ (.pointer (some ⟨mb,0,none⟩)) (aQ (.slice og 1 gc) x) rfl Wb h.box).mono ?_
   rintro e w' ⟨vc,vs,he,hb,hout⟩
   rcases hout with ⟨_,hc,hs,_⟩ | ⟨_,g1,hc,_,hs,_⟩
   ·subst hc hs
    exact⟨_,_,_,_,_,_,he,hb⟩
   ·obtain⟨ao,c2,hv⟩:=mg hs _ rfl
    subst hc hv
    exact⟨_,_,_,_,_,_,he,hb⟩
  ·intro W0 W Wb mb cb l s og og2 gc gc2 gz fo fc h hls hT0 hT
   exact RU hK h id hver hls fo F fc (fun f hf=>Nat.le_trans (h1 f hf) oZ) oZ hid g hT
 | true =>
  obtain⟨e0,cs',x',g⟩:=hI.del id hver
  refine⟨e0,cs',x',nd,d,?_,?_,?_,?_⟩
  ·obtain⟨_,_,h⟩ | ⟨_,h⟩:=g.dR
   ·rw[h];omega
   ·omega
  ·intro h
   obtain⟨_,h3,h4⟩ | ⟨h3,_⟩:=g.dR
   ·exact⟨h3,h4,rfl⟩
   ·exact absurd h3 h
  ·intro W0 W Wb mb cb l s og og2 gc gc2 gz fo fc h hF
   refine(Me hI g.out W (some ⟨gz,0,none⟩) n n h.len (h.row.read h.inv.ws.cu) og2 gc2 h.segs2.reads ss bk rm kf bf L fo F.length fc (.pointer (some ⟨mb,0,none⟩)) (aQ (.slice og 1 gc) x) rfl Wb h.box).mono ?_
   rintro e w' ⟨vc,vs,he,hb,hout⟩
   rcases hout with ⟨_,hc,hs,_⟩ | ⟨_,g1,hc,_,hs,_⟩
   ·subst hc hs
    exact⟨_,_,_,_,_,_,he,hb⟩
   ·obtain⟨ao,c2,hv⟩:=mg hs _ rfl
    subst hc hv
    exact⟨_,_,_,_,_,_,he,hb⟩
  ·intro W0 W Wb mb cb l s og og2 gc gc2 gz fo fc h hls hT0 hT
   exact RV hK h id hver hls fo F.length fc g hT0
end Go.Proofs.YtlfndoclbebdaaaGreatDoor
