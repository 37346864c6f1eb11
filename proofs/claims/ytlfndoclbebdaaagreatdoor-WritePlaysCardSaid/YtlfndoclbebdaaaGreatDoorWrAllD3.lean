/-
 What stage 12 rests on.
-/
import Derived.Test.YtlfndoclbebdaaaGreatDoorWrAllA1
import Derived.Test.YtlfndoclbebdaaaGreatDoorWrAllC5
import Derived.Deep.CutBlock
import Derived.Deep.DeepCutAuto
import Derived.Test.YtlfndoclbebdaaaGreatDoorWrAllB1
import Derived.StillTailTactics
set_option maxRecDepth 100000
set_option maxHeartbeats 16000000
namespace Go.Proofs.YtlfndoclbebdaaaGreatDoor
open Go.RowKit
variable {α:Type}
def Rest (p q:Pr α) (st0 st:St):Prop:=(st.off=true/\p.on st0=(none,st))∨q.on st=p.on st0
theorem yF (a:Int) (k:Int->Pr α) (st:St):(Pr.load a k).on st=if(st.load a).2.off=true then(none,(st.load a).2) else(k (st.load a).1).on (st.load a).2:=rfl
theorem vW (a v:Int) (k:Pr α) (st:St):(Pr.store a v k).on st=if(st.store a (u32 v)).off=true then(none,st.store a (u32 v)) else k.on (st.store a (u32 v)):=rfl
section
variable {p q:Pr α} {st0 st:St} {Bd:Nat}
theorem Rest.start (p:Pr α) (st:St):Rest p p st st:=.inr rfl
theorem Rest.load {a:Int} {k:Int->Pr α} (h:Rest p (.load a k) st0 st) (hf:st.Fine Bd):Rest p (k (st.load a).1) st0 (st.load a).2:=by
 rcases h with ⟨h1,h2⟩ | h
 ·have e:=St.zk hf.good h1 a
  rw[e]
  exact .inl ⟨h1,h2⟩
 ·rw[yF] at h
  split at h
  ·rename_i h2
   exact .inl ⟨h2,h.symm⟩
  ·exact .inr h
theorem Rest.store {a v:Int} {k:Pr α} (h:Rest p (.store a v k) st0 st) (hf:st.Fine Bd):Rest p k st0 (st.store a (u32 v)):=by
 rcases h with ⟨h1,h2⟩ | h
 ·have e:=St.qJ hf.good h1 a (u32 v)
  rw[e]
  exact .inl ⟨h1,h2⟩
 ·rw[vW] at h
  split at h
  ·rename_i h2
   exact .inl ⟨h2,h.symm⟩
  ·exact .inr h
def gG (p:Pr α) (x:α) (st0 st:St):Prop:=(p.on st0).2=st/\∀ y,(p.on st0).1=some y->y=x
theorem Rest.ret {x:α} (h:Rest p (.ret x) st0 st):gG p x st0 st:=by
 unfold gG
 rcases h with ⟨_,h2⟩ | h
 ·rw[h2]
  exact⟨rfl,fun y hy=>by cases hy⟩
 ·rw[<- h]
  exact⟨rfl,fun y hy=>by cases hy;rfl⟩
theorem Rest.off (h:Rest p q st0 st) (hf:st.Fine Bd) (ho:st.off=true) (hq:q.wV=false) (x:α):gG p x st0 st:=by
 have e:p.on st0=(none,st):=by
  rcases h with ⟨_,h2⟩ | h
  ·exact h2
  ·rw[<- h]
   cases q with
   | ret y=>cases hq
   | load a k=>unfold Pr.on;rw[St.zk hf.good ho a,if_pos ho]
   | store a v k=>unfold Pr.on;rw[St.qJ hf.good ho a (u32 v),if_pos ho]
 unfold gG
 rw[e]
 exact⟨rfl,fun y hy=>by cases hy⟩
theorem Rest.same {q':Pr α} (h:Rest p q st0 st) (e:q=q'):Rest p q' st0 st:=e ▸ h
end
theorem vY {β:Type} (q:Pr β) {st:St} (hg:st.Good) (ho:st.off=true):(q.on st).2=st:=by
 cases q with
 | ret x=>rfl
 | load a k=>rw[yF,St.zk hg ho a,if_pos ho]
 | store a v k=>rw[vW,St.qJ hg ho a (u32 v),if_pos ho]
structure iI (W:World) (rb mb cb:Nat) (go0:Option Nat) (st:St) (go:Option Nat) (w:World):Prop where
 old:rb<W.heap.size/\mb<W.heap.size/\cb<W.heap.size
 rm:RM w rb mb cb go true st
 adv:jY rb mb cb W go0 w go
section
variable {W w w':World} {rb mb cb:Nat} {go0 go go':Option Nat} {st st':St}
theorem iI.start (h:RM W rb mb cb go true st):iI W rb mb cb go st go W:=⟨⟨h.lt rb (.inl rfl),h.lt mb (.inr (.inr (.inl rfl))),h.lt cb (.inr (.inr (.inr rfl)))⟩,h,jY.of_below (Below.refl _ _)⟩
theorem iI.below (h:iI W rb mb cb go0 st go w) (hb:Below w.heap.size w w'):iI W rb mb cb go0 st go w':=⟨h.old,h.rm.below hb,h.adv.trans (jY.of_below hb)⟩
theorem iI.access (h:iI W rb mb cb go0 st go w) (hr:RM w' rb mb cb go' true st') (ha:jY rb mb cb w go w' go'):iI W rb mb cb go0 st' go' w':=⟨h.old,hr,h.adv.trans ha⟩
theorem iI.far (h:iI W rb mb cb go0 st go w) {k:Nat} {c:Array Value} {t:TypeId} (hk:w.heap[k]?=some (.cells c t (0,0))) (hW:W.heap.size<=k) (ht:t≠32):¬ gY rb mb cb go k:=by
 obtain⟨o1,o2,o3⟩:=h.old
 rintro(e | e | e | e)
 ·omega
 ·obtain⟨cap,hr⟩:=h.rm.run
  have hl:=hr.row
  rw[e] at hl
  obtain⟨cur,h4,_⟩:=hl
  rw[h4] at hk
  injection hk with hk
  injection hk with _ h5
  exact ht h5.symm
 ·omega
 ·omega
theorem iI.stays (h:iI W rb mb cb go0 st go w) (ha:jY rb mb cb w go w' go') {k:Nat} {c:Array Value} {t:TypeId} (hk:w.heap[k]?=some (.cells c t (0,0))) (hW:W.heap.size<=k) (ht:t≠32):w'.heap[k]?=some (.cells c t (0,0)) :=
 (ha.mod.block k (lt_of_heap hk) (h.far hk hW ht)).trans hk
theorem iI.turn (h:iI W rb mb cb go0 st go w) {k:Nat} (hk:¬ gY rb mb cb go k) (hW:W.heap.size<=k) (hm:bI (fun j=>j=k) w w'):iI W rb mb cb go0 st go w' :=
 ⟨h.old,h.rm.mod hm fun j hj e=>by subst e;exact hk hj,h.adv.grows,h.adv.mod.then hm fun i hi e=>oZ⟩
end
variable {α:Type}
def Own (S:Nat->Prop) (mb cb:Nat) (k:Nat):Prop:=S k∨k=mb∨k=cb
structure QL (W:World) (mb cb:Nat) (S:Nat->Prop) (I:World->Prop) (Post:α->World->Prop) (x:α) (cs':List Int) (t:Int) (wx:World):Prop where
 mem:∃ l s,dD wx mb cb cs' l s/\0<=l/\0<=s/\l+s<=t
 cells:∀ y∈cs',U y
 inv:I wx
 post:Post x wx
 mod:bI (Own S mb cb) W wx
structure Going (W:World) (rb mb cb:Nat) (S:Nat->Prop) (I:World->Prop) (p:Pr α) (x:α) (cs':List Int) (t:Int) (n i:Nat) (wx:World):Prop where
 at_:∃ q st go m,RM wx rb mb cb go false st/\At p q st/\Does q st.cs m x cs'/\m+i=n/\st.log.length<=i/\0<=st.l/\0<=st.s/\st.l+st.s+m<=t/\(∀ y∈st.log,U y)/\(∀ y∈st.cs,U y)/\(∀ g,go=some g->W.heap.size<=g)
 inv:I wx
 mod:bI (Own S mb cb) W wx
theorem O5 {p:Pr α} {st:St} {B:Nat} (h:({st with at_:=0,made:=false}:St).Fine B) (ho:st.over=false):(∀ y∈(st.nV p).log,U y)/\∀ y∈(st.nV p).cs,U y:=by
 have:=gB p _ h
 unfold St.nV
 rw[if_neg (by simp[ho])]
 exact⟨this.ok.log_u,this.ok.cs_u⟩
theorem Going.new {W w0 w1:World} {rb mb cb:Nat} {S:Nat->Prop} {I:World->Prop} {p:Pr α} {x:α} {cs cs':List Int} {l s:Int} {n:Nat} (hm:dD W mb cb cs l s) (h0:0<=l) (h1:0<=s) (hcu:∀ y∈cs,U y) (hd:Does p cs n x cs') (hb:Below W.heap.size W w1) (hr:bM w1 rb mb none 0 [] 0 false false false false 0) (hI:I w1) (hw:w0=W) :
  Going W rb mb cb S I p x cs' (l+s+n) n 0 w1:=by
 subst hw
 exact⟨⟨p,⟨[],0,false,false,false,0,cs,l,s⟩,none,n,⟨⟨0,hr⟩,hm.below hb,sZ⟩,At.new p cs l s,hd,oZ,sZ,h0,h1,by show l+s+(n:Int)<=l+s+(n:Int);omega,sZ,hcu,sZ⟩,hI,Below.mod hb _ fun k hk hk'=>oZ⟩
variable {α:Type}
variable {α:Type}
variable {α:Type}
variable {α:Type}
variable {α:Type}
theorem Going.PN {W w:World} {rb mb cb:Nat} {F:FuncId} {caps:Array Value} {S:Nat->Prop} {I:World->Prop} {p:Pr α} {Post:α->World->Prop} {x:α} {cs':List Int} {t:Int} {n i B:Nat} (h:Going W rb mb cb S I p x cs' t n i w) (hrb:W.heap.size<=rb)
  (hC:QP F caps rb mb cb S I p Post B) (hS:∀ k,S k->k<W.heap.size/\k≠mb/\k≠cb) (hn:n+1<=B) (ht:t+1<=B) :
  Calls Tryz.prog 22 #[.pointer (some ⟨rb,0,none⟩),.func (.func F) #[] caps] w fun e w'=>(e=.returned (.bool true)/\QL W mb cb S I Post x cs' t w'/\∃ cap go' log at_ ma off,bM w' rb mb go' cap log at_ false ma off true 0)∨(e=.returned (.bool false)/\Going W rb mb cb S I p x cs' t n (i+1) w'/\i<n):=by
 obtain⟨⟨q,st,go,m,hrm,hat,hd,hmi,hlog,h0,h1,hsum,hlu,hcu,hgo⟩,hI,hmod⟩:=h
 have hfine:=hat.fine (B:=B) oZ h0 h1 oZ hlu hcu
 have hfar:∀ k,S k->¬ gY rb mb cb go k:=by
  intro k hk
  obtain⟨a1,a2,a3⟩:=hS k hk
  rintro(e | e | e | e)
  ·omega
  ·have:=hgo k e;omega
  ·exact a2 e
  ·exact a3 e
 obtain⟨hin,hd',hnx⟩:=hd.step
 have hst:=step_next hat hin
 refine(Om hrm hat.over hat.off hfine hC hI hfar).mono ?_
 rintro e w' ⟨rfl,go',hrm',hadv,hI',hP'⟩
 have hu:=O5 (p:=p) hfine hat.over
 generalize hst1:st.nV p=st' at *
 rw[hst.over]
 have hgo':∀ g,go'=some g->W.heap.size<=g:=by
  intro g hg
  rcases hadv.grows with e | ⟨g',e,hg'⟩
  ·exact hgo g (by rw[<- e];exact hg)
  ·rw[e] at hg;cases hg
   exact Nat.le_trans hmod.size hg'
 have hmod':bI (Own S mb cb) W w':=hmod.then hadv.mod (by
  rintro k hk (e | e | e | e | e)
  ·exact .inl e
  ·omega
  ·have:=hgo k e;omega
  ·exact .inr (.inl e)
  ·exact .inr (.inr e))
 have hs:=hst.sum
 have hl0:=hst.l0
 have hs0:=hst.s0
 have hcount:=hst.count
 cases hr:(q.next st.cs).1.wV with
 | true =>
  left
  have hn1:∃ y,(q.next st.cs).1=.ret y:=by
   generalize (q.next st.cs).1=r at hr
   cases r with
   | ret y=>exact⟨y,rfl⟩
   | load a k=>cases hr
   | store a v k=>cases hr
  obtain⟨y,hy⟩:=hn1
  rw[hy] at hd'
  obtain⟨rfl,hcs,hz⟩:=hd'.FP
  refine⟨rfl,⟨⟨st'.l,st'.s,?_,oZ,oZ,?_⟩,?_,hI',hP' y ?_,hmod'⟩,?_⟩
  ·rw[hcs,<- hst.cells];exact hrm'.mem
  ·rcases q with _|_|_
   ·have e:st'=st.nV p:=hst1.symm
    have ho:=Ew hat
    have:st'.l=st.l/\st'.s=st.s:=by
     rw[e]
     unfold St.nV St.shut
     rw[if_neg (by simp[hat.over]),ho]
     exact⟨rfl,rfl⟩
    omega
   ·cases hd with
    | load _ _ hd3=>omega
   ·cases hd with
    | store _ _ hd3=>omega
  ·rw[hcs,<- hst.cells];exact hu.2
  ·rw[hst.ans,hy];rfl
  ·obtain⟨cap,hr2⟩:=hrm'.run
   rw[hst.err,hst.over,hr] at hr2
   exact⟨cap,go',_,_,_,_,hr2⟩
 | false =>
  right
  have hm0:0<m:=by
   rcases hnx with h | h
   ·exact h
   ·rw[h] at hr;cases hr
  refine⟨rfl,⟨⟨(q.next st.cs).1,st',go',m-1,hrm',hst.at_ hr,?_,oZ,oZ,oZ,oZ,oZ,hu.1,hu.2,hgo'⟩,hI',hmod'⟩,oZ⟩
  rw[hst.cells]
  exact hd'
def fB:Nat->Int->Nat->Nat->Int
 | 0,_,_,_=>0
 | n+1,l,k,j=>if l=0 then(if j=k then aS k else 0)+fB n (aS k-2) (up k) j else fB n (l-1) k j
def eQ (B S:Nat->Int) (t n:Int) (j:Nat):Int:=if bP B S t then fB n.toNat (dC B S t) (bT B S t) j else 0
theorem iw.far {t:TypeId} {k:IntKind} {w:World} {base:Nat} {v:Value} {l:List Nat} (h:iw t k w base v l):∃ oa cap,v=.slice oa l.length cap/\l.length<=cap/\cap<=maxLen/\(oa=none->cap=0)/\dH k w oa l/\∀ ad,oa=some ad->base<=ad.block:=by
 obtain⟨oa,cap,rfl,h1,h2,h3,h4⟩:=h.reads
 refine⟨oa,cap,rfl,h1,h2,h3,h4,?_⟩
 rintro ad rfl
 obtain⟨_,⟨h5,_⟩ | ⟨g,cap',cur,e,hg,_⟩⟩:=h
 ·cases h5
 ·injection e with e1 e2 e3
  injection e1 with e1
  rw[e1]
  exact hg
/-! ### The closure of a Put -/
/-! ### The closures of a Walk -/
structure R4 where
 b:Int
 i:Int
 l:Int
 t:Int
def zq (x:R4):Array Value:=#[.int .u32 x.b,.int .u32 x.i,.int .u32 x.l,.int .u32 x.t]
theorem Ar (x:R4):(Tryz.prog.info? 147).map (·.size)=some (zq x).size:=kZ
theorem N8 (x:R4):(zq x).all (·.oneCell')=true:=by simp[zq,Value.oneCell']
variable {α:Type}
theorem PL {B S:Nat->Int} {C:Int} (hL:Laid B S C) (t:Int):0<=iE B S t/\iE B S t<256:=by
 by_cases h:lX B S t<4
 ·have:=(hL.IW h).2
  have:=fC (lX B S t)
  omega
 ·unfold iE
  rw[if_neg h]
  omega
theorem Po (B S:Nat->Int) (t:Int):-1<=o5 B S t/\o5 B S t<=3:=by
 unfold o5
 split <;> omega
theorem qw {B S:Nat->Int} {C:Int} (hL:Laid B S C) (T L t:Int) (w:World):Calls Tryz.prog 134 #[.agg (af B S C T L),.int .i64 t] w fun e w'=>e=.returned (.bool (decide (bP B S t)))/\Below w.heap.size w w':=by
 obtain⟨q,hq⟩:∃ q,q=iE B S t:=⟨_,rfl⟩
 obtain⟨k,hk⟩:∃ k,k=o5 B S t:=⟨_,rfl⟩
 have hk0:=Po B S t
 have hq0:=PL hL t
 have hkq:0<q->0<=k:=by
  intro h
  rw[hq] at h
  have:=(hL.at_ h).1
  rw[hk]
  unfold o5
  rw[if_pos this]
  omega
 have HC:=hJ (fun w=>(mY w B S C T L t hL.fit).mono fun _ _ h=>qE h)
 rw[<- hq,<- hk] at HC
 rw[<- hq] at hq0
 rw[<- hk] at hk0
 have HR:=hJ (show decide (bP B S t)=(decide (t=0)||decide (0<q)) from Bool.eq_iff_iff.2 (by rw[decide_eq_true_iff,hq];unfold bP;simp))
 clear hL hq hk
 go_enter Tryz.func134,Tryz.ntmps134
 go_wp2_with (refine yZ rfl 42 (.tmp 2) rfl w.heap.size rfl 42 (af B S C T L) (0,0) _ (nZ w _) Tryz.underlying42 rfl (ai _ _ _ _ _) ?_)
 refine(HC.out _).mono ?_;rintro e w1 ⟨rfl,hb⟩
 have HB:=hJ (ah au hb)
 clear hb HC
 by_cases h0:t=0
 ·subst h0
  go_wp2_with fail
  go_ret
  exact⟨by rw[HR.out];simp,HB.out⟩
 ·have e0:(t==0)=false:=by simpa using h0
  by_cases h1:0<q
  ·have h2:=hkq h1
   have h3:(0:Int)<=k:=h2
   clear hkq
   go_wp2_with fail
   go_ret
   exact⟨by rw[HR.out];simp[h1],HB.out⟩
  ·have h1':¬ (0:Int)<q:=h1
   by_cases h2:0<=k
   ·clear hkq
    go_wp2_with fail
    go_ret
    exact⟨by rw[HR.out];simp[h0],HB.out⟩
   ·have h2':¬ (0:Int)<=k:=h2
    clear hkq
    go_wp2_with fail
    go_ret
    exact⟨by rw[HR.out];simp[h0];omega,HB.out⟩
theorem xP {U V:Nat->Int} (h:∀ j,j<6->U j=V j):six U=six V:=by
 unfold six
 rw[h 0 oZ,h 1 oZ,h 2 oZ,h 3 oZ,h 4 oZ,h 5 oZ]
/-! ### Word by word -/
theorem iQ (n:Nat) (l:Int) (k j:Nat):fB (n+1) l k j=if l=0 then(if j=k then aS k else 0)+fB n (aS k-2) (up k) j else fB n (l-1) k j:=rfl
theorem lF:∀ (n:Nat) (l:Int) (k j:Nat),0<=fB n l k j
 | 0,_,_,_=>by unfold fB;omega
 | n+1,l,k,j=>by
  unfold fB
  have:=dM k
  have h1:=lF n (aS k-2) (up k) j
  have h2:=lF n (l-1) k j
  split
  ·split <;> omega
  ·exact h2
theorem tJ:∀ (n:Nat) (l:Int) (k j:Nat),fB n l k j<=256*n
 | 0,_,_,_=>by unfold fB;omega
 | n+1,l,k,j=>by
  unfold fB
  have:=fC k
  have h1:=tJ n (aS k-2) (up k) j
  have h2:=tJ n (l-1) k j
  split
  ·split <;> omega
  ·omega
theorem nJ {B S:Nat->Int} {C:Int} (hL:Laid B S C) {t:Int} (h:bP B S t):0<=dC B S t/\dC B S t<=254/\bT B S t<4:=by
 unfold dC bT
 by_cases h0:t=0
 ·rw[if_pos h0,if_pos h0]
  omega
 ·rw[if_neg h0,if_neg h0]
  rcases h with h | h
  ·exact absurd h h0
  ·have:=hL.at_ h
   have:=fC (lX B S t)
   refine⟨oZ,oZ,?_⟩
   split <;> omega
theorem Nq (k:Nat):up k<4:=by unfold up;split <;> omega
def mF (w:World) (O:Nat->Int) (wr:World):Prop :=
 wr.heap[w.heap.size+1]?=some (.cells (six fun _=>0) 40 (0,0))/\wr.heap[w.heap.size+2]?=some (.cells (six O) 40 (0,0))/\Below w.heap.size w wr
theorem E8 {B S:Nat->Int} {C:Int} (hL:Laid B S C) (T L t n:Int) (n0:-9223372036854775808<=n) (n1:n<=3000) (w:World) :
  Calls Tryz.prog 96 #[.agg (af B S C T L),.int .i64 t,.int .i64 n] w fun e w'=>e=.returned (.agg (six (eQ B S t n)))/\Below w.heap.size w w':=by
 have HR:=hJ (fun w=>qw hL T L t w)
 by_cases hr:bP B S t
 ·have hrb:decide (bP B S t)=true:=decide_eq_true hr
  rw[hrb] at HR
  obtain⟨l0,hl0⟩:∃ l0,l0=dC B S t:=⟨_,rfl⟩
  obtain⟨k0,hk0⟩:∃ k0,k0=bT B S t:=⟨_,rfl⟩
  obtain⟨N,hN⟩:∃ N,N=n.toNat:=⟨_,rfl⟩
  have hin:=nJ hL hr
  rw[<- hl0,<- hk0] at hin
  have HZ:=hJ (show ∀ j,eQ B S t n j=fB N l0 k0 j from fun j=>by unfold eQ;rw[if_pos hr,hN,hl0,hk0])
  have HCall:=hJ (fun w=>(mY w B S C T L t hL.fit).mono fun _ _ h=>qE h)
  have HT:Hid (t≠0->∃ k:Nat,k<4/\o5 B S t=(k:Int)/\0<=iE B S t/\iE B S t<=255/\l0=aS k-1-iE B S t/\k0=up k):=hJ (by
   intro ht
   rcases hr with h | h
   ·exact absurd h ht
   ·have ha:=hL.at_ h
    have:=fC (lX B S t)
    refine⟨lX B S t,ha.1,by unfold o5;rw[if_pos ha.1],oZ,oZ,?_,?_⟩
    ·rw[hl0];unfold dC;rw[if_neg ht]
    ·rw[hk0];unfold bT up;rw[if_neg ht])
  have HT0:Hid (t=0->l0=0/\k0=0):=hJ (by
   intro ht
   rw[hl0,hk0]
   unfold dC bT
   rw[if_pos ht,if_pos ht]
   exact⟨rfl,rfl⟩)
  clear hr hrb hl0 hk0 hL
  have HSl:=hJ (fun(w:World) (k:Nat) (hk:k<4)=>jc w k hk)
  go_enter Tryz.func96,Tryz.ntmps96
  go_upto_region 2 with fail
  have hw:(((w.alloc (.cells (af B S C T L) 42)).alloc (.cells #[.int .i64 0,.int .i64 0,.int .i64 0,.int .i64 0,.int .i64 0,.int .i64 0] 40)).alloc (.cells #[.int .i64 0,.int .i64 0,.int .i64 0,.int .i64 0,.int .i64 0,.int .i64 0] 40))=(((w.alloc (.cells (af B S C T L) 42)).alloc (.cells (six fun _=>0) 40)).alloc (.cells (six fun _=>0) 40)):=rfl
  rw[hw]
  have hF:mF w (fun _=>0) (((w.alloc (.cells (af B S C T L) 42)).alloc (.cells (six fun _=>0) 40)).alloc (.cells (six fun _=>0) 40)):=⟨dX w _ _ _,eH w _ _ _,bu⟩
  have hP:(((w.alloc (.cells (af B S C T L) 42)).alloc (.cells (six fun _=>0) 40)).alloc (.cells (six fun _=>0) 40)).heap[w.heap.size]?=some (.cells (af B S C T L) 42 (0,0)):=dV w _ _ _
  generalize (((w.alloc (.cells (af B S C T L) 42)).alloc (.cells (six fun _=>0) 40)).alloc (.cells (six fun _=>0) 40))=w1 at hF hP ⊢
  have HF:=hJ hF
  have HP:=hJ hP
  clear hw hF hP
  go_wp2_with (refine yZ rfl 42 (.tmp 3) rfl w.heap.size rfl 42 (af B S C T L) (0,0) _ HP.out Tryz.underlying42 rfl (ai _ _ _ _ _) ?_)
  refine(HR.out _).mono ?_;rintro e w2 ⟨rfl,hb⟩
  have HF:=hJ (show mF w (fun _=>0) w2 from⟨(hb.block _ (lt_of_heap HF.out.1)).trans HF.out.1,(hb.block _ (lt_of_heap HF.out.2.1)).trans HF.out.2.1,ah HF.out.2.2 hb⟩)
  have HP:=hJ ((hb.block _ (lt_of_heap HP.out)).trans HP.out)
  clear hb HR
  have hN2:¬ (1000000:Int)<n:=oZ
  have HNN:=hJ hN
  have hN3:N<=3000:=oZ
  by_cases ht:t=0
  ·obtain⟨e1,e2⟩:=HT0.out ht
   have htb:(t != 0)=false:=by simp[ht]
   have E12:=hJ (And.intro e1 e2)
   clear ht HT HT0 HCall hN e1 e2
   go_wp2_with fail
   go_loopw [8,9,12] (fun lv kv iv wr=>∃ (i:Nat) (l:Int) (k:Nat) (O:Nat->Int),i<=N/\iv=.int .i64 i/\lv=.int .i64 l/\kv=.int .i64 (k:Int)/\0<=l/\l<=254/\k<4/\Hid (∀ j,O j+fB (N-i) l k j=fB N l0 k0 j)/\Hid (∀ j,0<=O j/\O j<=256*i)/\mF w O wr) (fun _ _ iv _=>N-(intOf iv).toNat)
   case atStart=>exact⟨0,l0,k0,fun _=>0,oZ,rfl,(by rw[E12.out.1]),(by rw[E12.out.2];rfl),hin.1,hin.2.1,hin.2.2,hJ fun j=>sZ,hJ fun j=>⟨Int.le_refl _,sZ⟩,HF.out⟩
   case round =>
    clear HF
    obtain⟨i,l,k,O,hi,rfl,rfl,rfl,hl0,hl1,hk4,HS,HO,hF⟩:=hrel
    have HF:=hJ hF
    clear hF
    by_cases hlt:i<N
    ·have hlt1:(i:Int)<n:=by have:=HNN.out;omega
     obtain⟨m,hm⟩:∃ m,N-i=m+1:=⟨N-i-1,oZ⟩
     have hm2:N-(i+1)=m:=oZ
     have HMM:=hJ (And.intro hm hm2)
     clear hm hm2
     by_cases hl:l=0
     ·have hsl:=fC k
      have hsl2:=dM k
      have hok:=HO.out k
      obtain⟨o,ho⟩:∃ o,o=O k:=⟨_,rfl⟩
      obtain⟨y,hy⟩:∃ y,y=aS k:=⟨_,rfl⟩
      have HY:=hJ hy
      have HOo:=hJ ho
      have HSk:=hJ (fun w=>HSl.out w k hk4)
      rw[<- hy] at hsl hsl2 HSk
      have c1:wr.cell? ⟨w.heap.size+1+1,k,none⟩=some (.int .i64 o):=by rw[ho];exact(ae HF.out.2.1 k).trans (dW _ k oZ)
      have f1:wr.frozen? ⟨w.heap.size+1+1,k,none⟩=false:=free_at HF.out.2.1 k
      rw[<- ho] at hok
      have o1:IntKind.i64.wrap (o+y)=o+y:=iZ _ (by have:=HNN.out;omega)
      have hk6:(k:Int)<6:=oZ
      have i1:IntKind.i64.wrap (y-1)=y-1:=iZ _ oZ
      have i2:IntKind.i64.wrap (y-1-1)=y-1-1:=iZ _ oZ
      obtain⟨k1,hk1⟩:∃ k1,k1=k+1:=⟨_,rfl⟩
      have i3:(k:Int)+1=(k1:Int):=oZ
      have i4:IntKind.i64.wrap (k1:Int)=(k1:Int):=iZ _ oZ
      have hkn:(if(3:Int)<(k1:Int) then(3:Int) else(k1:Int))=((up k:Nat):Int):=by unfold up;split <;> split <;> omega
      obtain⟨k2,hk2⟩:∃ k2,k2=up k:=⟨_,rfl⟩
      rw[<- hk2] at hkn
      have hkb:∀ (ts:Array TypeId) (t:TypeId) (w:World),(Builtin.min_ ts t #[.int .i64 (k1:Int),.int .i64 3]).run Tryz.prog w=.ok (.int .i64 (k2:Int)) w:=fun ts t w=>by rw[run_min_int2,hkn]
      have HK2:=hJ hk2
      subst hl
      clear hkn hy ho hk2 hk1
      go_wp2_with fail
      refine wp_region_still_tail 7 kZ kZ ?_
      simp only[List.take_succ_cons,List.take_zero,List.drop_succ_cons,List.drop_zero]
      repeat still_step
      still_call (HSk.out _)
      repeat still_step
      refine wpStill_nil ?_
      change wpList _ _ _ _ _ (World.drew _)
      go_wp2_with fail
      refine(HSk.out _).mono ?_;rintro e w4 ⟨rfl,rfl⟩
      go_wp2_with fail
      go_roundw
      case rel =>
       refine⟨i+1,y-1-1,k2,more O k y,oZ,by go_num,rfl,rfl,oZ,oZ,by rw[HK2.out];exact Nq k,hJ fun j=>?_,hJ fun j=>?_,?_⟩
       ·have h:=HS.out j
        rw[HMM.out.1,iQ,if_pos rfl] at h
        rw[HMM.out.2,HK2.out,show y-1-1=aS k-2 by rw[<- HY.out];omega,<- h,HY.out]
        unfold more
        split <;> rename_i e <;> simp[e] <;> omega
       ·have h:=HO.out j
        unfold more
        split
        ·subst j;omega
        ·omega
       ·refine⟨(Below.heap_setCell _ _ _ _ sZ).trans HF.out.1,?_,(HF.out.2.2.setCell uZ _).drew⟩
        show (World.setCell _ _ _).heap[w.heap.size+1+1]?=_
        rw[heap_setCell_same _ _ _ _ _ _ (show wr.heap[w.heap.size+1+1]?=_ from HF.out.2.1),HOo.out,jm O (more O k y) k _ oZ (fun j _=>rfl)]
      case measure=>simp[intOf];omega
     ·have hlb:(l==0)=false:=by simpa using hl
      have i1:IntKind.i64.wrap (l-1)=l-1:=iZ _ oZ
      have HL1:=hJ (show 0<=l-1/\l-1<=254 by omega)
      have HL0:=hJ hl
      clear hl
      go_wp2_with fail
      go_roundw
      case rel =>
       refine⟨i+1,l-1,k,O,oZ,by go_num,rfl,rfl,HL1.out.1,HL1.out.2,hk4,hJ fun j=>?_,hJ fun j=>?_,HF.out⟩
       ·have h:=HS.out j
        rw[HMM.out.1,iQ,if_neg HL0.out] at h
        rw[HMM.out.2,<- h]
       ·have:=HO.out j;omega
      case measure=>simp[intOf];omega
    ·have hlt1:¬ (i:Int)<n:=by have:=HNN.out;omega
     have hfin:six O=six (eQ B S t n):=xP fun j _=>by
      have h:=HS.out j
      rw[show N-i=0 by omega] at h
      rw[HZ.out j,<- h]
      simp[fB]
     have G1:=hJ HF.out.1
     have G2:Hid (wr.heap[w.heap.size+1+1]?=some (.cells (six (eQ B S t n)) 40 (0,0))):=hJ (by rw[<- hfin];exact HF.out.2.1)
     have HB:=hJ HF.out.2.2
     clear hfin HF
     go_wp2_with (first
      | (refine yZ rfl 40 (.tmp 7) rfl (w.heap.size+1+1) rfl 40 (six (eQ B S t n)) (0,0) _ G2.out Tryz.underlying40 rfl (ag _) ?_)
      | (refine zZ rfl 40 (.tmp 6) (.tmp 59) rfl (w.heap.size+1) (six (eQ B S t n)) rfl rfl 40 (six fun _=>0) G1.out (ag _) rfl (aX _) ?_)
      | fail)
     refine tZ (v:=.agg (six (eQ B S t n))) (results_cell_row rfl _ _ (w.heap.size+1) _ _ (0,0) _ rfl (setRow_heap _ _ _ _ _ _ G1.out) Tryz.underlying40 rfl (ag _)) rfl ⟨rfl,below_setRow HB.out oZ _⟩
  ·obtain⟨k,hk4,hki,ha0,ha1,hl,hkk⟩:=HT.out ht
   have htb:(t != 0)=true:=by simpa using ht
   have hsl:=fC k
   have hsl2:=dM k
   obtain⟨a,ha⟩:∃ a,a=iE B S t:=⟨_,rfl⟩
   rw[hki,<- ha] at HCall
   rw[<- ha] at ha0 ha1 hl
   obtain⟨y,hy⟩:∃ y,y=aS k:=⟨_,rfl⟩
   have HSk:=hJ (fun w=>HSl.out w k hk4)
   rw[<- hy] at HSk hsl hsl2 hl
   have i1:IntKind.i64.wrap (y-1)=y-1:=iZ _ oZ
   have i2:IntKind.i64.wrap (y-1-a)=l0:=by rw[hl];exact iZ _ oZ
   have i2':y-1-a=l0:=hl.symm
   obtain⟨k1,hk1⟩:∃ k1,k1=k+1:=⟨_,rfl⟩
   have i3:(k:Int)+1=(k1:Int):=oZ
   have i4:IntKind.i64.wrap (k1:Int)=(k1:Int):=iZ _ oZ
   have hkn:(if(3:Int)<(k1:Int) then(3:Int) else(k1:Int))=(k0:Int):=by rw[hkk];unfold up;split <;> split <;> omega
   have hkb:∀ (ts:Array TypeId) (t:TypeId) (w:World),(Builtin.min_ ts t #[.int .i64 (k1:Int),.int .i64 3]).run Tryz.prog w=.ok (.int .i64 (k0:Int)) w:=fun ts t w=>by rw[run_min_int2,hkn]
   clear ht hki ha hy hl hkk hkn HT HT0 hN hk1
   go_wp2_with (refine yZ rfl 42 (.tmp 3) rfl w.heap.size rfl 42 (af B S C T L) (0,0) _ HP.out Tryz.underlying42 rfl (ai _ _ _ _ _) ?_)
   refine(HCall.out _).mono ?_;rintro e w3 ⟨rfl,hb⟩
   have HF:=hJ (show mF w (fun _=>0) w3 from⟨(hb.block _ (lt_of_heap HF.out.1)).trans HF.out.1,(hb.block _ (lt_of_heap HF.out.2.1)).trans HF.out.2.1,ah HF.out.2.2 hb⟩)
   clear hb HCall HP
   go_wp2_with fail
   refine(HSk.out _).mono ?_;rintro e w4 ⟨rfl,rfl⟩
   clear HSk ha0 ha1
   go_wp2_with fail
   clear i1 i2 i2' i3 i4 hkb hsl hsl2 hk4
   go_loopw [8,9,12] (fun lv kv iv wr=>∃ (i:Nat) (l:Int) (k:Nat) (O:Nat->Int),i<=N/\iv=.int .i64 i/\lv=.int .i64 l/\kv=.int .i64 (k:Int)/\0<=l/\l<=254/\k<4/\Hid (∀ j,O j+fB (N-i) l k j=fB N l0 k0 j)/\Hid (∀ j,0<=O j/\O j<=256*i)/\mF w O wr) (fun _ _ iv _=>N-(intOf iv).toNat)
   case atStart=>exact⟨0,l0,k0,fun _=>0,oZ,rfl,rfl,rfl,hin.1,hin.2.1,hin.2.2,hJ fun j=>sZ,hJ fun j=>⟨Int.le_refl _,sZ⟩,HF.out⟩
   case round =>
    clear HF
    obtain⟨i,l,k,O,hi,rfl,rfl,rfl,hl0,hl1,hk4,HS,HO,hF⟩:=hrel
    have HF:=hJ hF
    clear hF
    by_cases hlt:i<N
    ·have hlt1:(i:Int)<n:=by have:=HNN.out;omega
     obtain⟨m,hm⟩:∃ m,N-i=m+1:=⟨N-i-1,oZ⟩
     have hm2:N-(i+1)=m:=oZ
     have HMM:=hJ (And.intro hm hm2)
     clear hm hm2
     by_cases hl:l=0
     ·have hsl:=fC k
      have hsl2:=dM k
      have hok:=HO.out k
      obtain⟨o,ho⟩:∃ o,o=O k:=⟨_,rfl⟩
      obtain⟨y,hy⟩:∃ y,y=aS k:=⟨_,rfl⟩
      have HY:=hJ hy
      have HOo:=hJ ho
      have HSk:=hJ (fun w=>HSl.out w k hk4)
      rw[<- hy] at hsl hsl2 HSk
      have c1:wr.cell? ⟨w.heap.size+1+1,k,none⟩=some (.int .i64 o):=by rw[ho];exact(ae HF.out.2.1 k).trans (dW _ k oZ)
      have f1:wr.frozen? ⟨w.heap.size+1+1,k,none⟩=false:=free_at HF.out.2.1 k
      rw[<- ho] at hok
      have o1:IntKind.i64.wrap (o+y)=o+y:=iZ _ (by have:=HNN.out;omega)
      have hk6:(k:Int)<6:=oZ
      have i1:IntKind.i64.wrap (y-1)=y-1:=iZ _ oZ
      have i2:IntKind.i64.wrap (y-1-1)=y-1-1:=iZ _ oZ
      obtain⟨k1,hk1⟩:∃ k1,k1=k+1:=⟨_,rfl⟩
      have i3:(k:Int)+1=(k1:Int):=oZ
      have i4:IntKind.i64.wrap (k1:Int)=(k1:Int):=iZ _ oZ
      have hkn:(if(3:Int)<(k1:Int) then(3:Int) else(k1:Int))=((up k:Nat):Int):=by unfold up;split <;> split <;> omega
      obtain⟨k2,hk2⟩:∃ k2,k2=up k:=⟨_,rfl⟩
      rw[<- hk2] at hkn
      have hkb:∀ (ts:Array TypeId) (t:TypeId) (w:World),(Builtin.min_ ts t #[.int .i64 (k1:Int),.int .i64 3]).run Tryz.prog w=.ok (.int .i64 (k2:Int)) w:=fun ts t w=>by rw[run_min_int2,hkn]
      have HK2:=hJ hk2
      subst hl
      clear hkn hy ho hk2 hk1
      go_wp2_with fail
      refine wp_region_still_tail 7 kZ kZ ?_
      simp only[List.take_succ_cons,List.take_zero,List.drop_succ_cons,List.drop_zero]
      repeat still_step
      still_call (HSk.out _)
      repeat still_step
      refine wpStill_nil ?_
      change wpList _ _ _ _ _ (World.drew _)
      go_wp2_with fail
      refine(HSk.out _).mono ?_;rintro e w4 ⟨rfl,rfl⟩
      go_wp2_with fail
      go_roundw
      case rel =>
       refine⟨i+1,y-1-1,k2,more O k y,oZ,by go_num,rfl,rfl,oZ,oZ,by rw[HK2.out];exact Nq k,hJ fun j=>?_,hJ fun j=>?_,?_⟩
       ·have h:=HS.out j
        rw[HMM.out.1,iQ,if_pos rfl] at h
        rw[HMM.out.2,HK2.out,show y-1-1=aS k-2 by rw[<- HY.out];omega,<- h,HY.out]
        unfold more
        split <;> rename_i e <;> simp[e] <;> omega
       ·have h:=HO.out j
        unfold more
        split
        ·subst j;omega
        ·omega
       ·refine⟨(Below.heap_setCell _ _ _ _ sZ).trans HF.out.1,?_,(HF.out.2.2.setCell uZ _).drew⟩
        show (World.setCell _ _ _).heap[w.heap.size+1+1]?=_
        rw[heap_setCell_same _ _ _ _ _ _ (show wr.heap[w.heap.size+1+1]?=_ from HF.out.2.1),HOo.out,jm O (more O k y) k _ oZ (fun j _=>rfl)]
      case measure=>simp[intOf];omega
     ·have hlb:(l==0)=false:=by simpa using hl
      have i1:IntKind.i64.wrap (l-1)=l-1:=iZ _ oZ
      have HL1:=hJ (show 0<=l-1/\l-1<=254 by omega)
      have HL0:=hJ hl
      clear hl
      go_wp2_with fail
      go_roundw
      case rel =>
       refine⟨i+1,l-1,k,O,oZ,by go_num,rfl,rfl,HL1.out.1,HL1.out.2,hk4,hJ fun j=>?_,hJ fun j=>?_,HF.out⟩
       ·have h:=HS.out j
        rw[HMM.out.1,iQ,if_neg HL0.out] at h
        rw[HMM.out.2,<- h]
       ·have:=HO.out j;omega
      case measure=>simp[intOf];omega
    ·have hlt1:¬ (i:Int)<n:=by have:=HNN.out;omega
     have hfin:six O=six (eQ B S t n):=xP fun j _=>by
      have h:=HS.out j
      rw[show N-i=0 by omega] at h
      rw[HZ.out j,<- h]
      simp[fB]
     have G1:=hJ HF.out.1
     have G2:Hid (wr.heap[w.heap.size+1+1]?=some (.cells (six (eQ B S t n)) 40 (0,0))):=hJ (by rw[<- hfin];exact HF.out.2.1)
     have HB:=hJ HF.out.2.2
     clear hfin HF
     go_wp2_with (first
      | (refine yZ rfl 40 (.tmp 7) rfl (w.heap.size+1+1) rfl 40 (six (eQ B S t n)) (0,0) _ G2.out Tryz.underlying40 rfl (ag _) ?_)
      | (refine zZ rfl 40 (.tmp 6) (.tmp 59) rfl (w.heap.size+1) (six (eQ B S t n)) rfl rfl 40 (six fun _=>0) G1.out (ag _) rfl (aX _) ?_)
      | fail)
     refine tZ (v:=.agg (six (eQ B S t n))) (results_cell_row rfl _ _ (w.heap.size+1) _ _ (0,0) _ rfl (setRow_heap _ _ _ _ _ _ G1.out) Tryz.underlying40 rfl (ag _)) rfl ⟨rfl,below_setRow HB.out oZ _⟩
 ·have hrb:decide (bP B S t)=false:=decide_eq_false hr
  rw[hrb] at HR
  have HZ:=hJ (show six (eQ B S t n)=six fun _=>0 from xP fun j _=>by unfold eQ;rw[if_neg hr])
  clear hr hrb hL
  go_enter Tryz.func96,Tryz.ntmps96
  go_wp2_with (refine yZ rfl 42 (.tmp 3) rfl w.heap.size rfl 42 (af B S C T L) (0,0) _ (dV w _ _ _) Tryz.underlying42 rfl (ai _ _ _ _ _) ?_)
  refine(HR.out _).mono ?_;rintro e w1 ⟨rfl,hb⟩
  have g1:w1.heap[w.heap.size+1]?=some (.cells (six fun _=>0) 40 (0,0)):=(hb.block _ sZ).trans (dX w _ _ _)
  have g2:w1.heap[w.heap.size+1+1]?=some (.cells (six fun _=>0) 40 (0,0)):=(hb.block _ sZ).trans (eH w _ _ _)
  have G1:=hJ g1
  have G2:=hJ g2
  have HB:=hJ (bu.trans (hb.mono uZ))
  clear g1 g2 hb HR
  go_wp2_with (first
   | (refine yZ rfl 40 (.tmp 7) rfl (w.heap.size+1+1) rfl 40 (six fun _=>0) (0,0) _ G2.out Tryz.underlying40 rfl (ag _) ?_)
   | (refine zZ rfl 40 (.tmp 6) (.tmp 18) rfl (w.heap.size+1) (six fun _=>0) rfl rfl 40 (six fun _=>0) G1.out (ag _) rfl (aX _) ?_)
   | fail)
  refine tZ (v:=.agg (six fun _=>0)) (results_cell_row rfl _ _ (w.heap.size+1) _ _ (0,0) _ rfl (setRow_heap _ _ _ _ _ _ G1.out) Tryz.underlying40 rfl (ag _)) rfl ⟨by rw[HZ.out],below_setRow HB.out oZ _⟩
theorem jW (b d k:Int) (hb0:0<=b) (hb1:b<=60000) (hd0:0<=d) (hd1:d<=60000) (hk0:0<=k) (hk1:k<=3) (w:World):Calls Tryz.prog 115 #[.int .i64 b,.int .i64 d,.int .i64 k] w fun e w'=>e=.returned (.int .i64 (b+4*d+k))/\w'=w:=by
 obtain⟨p,hp⟩:∃ p,p=b / 8:=⟨_,rfl⟩
 obtain⟨q,hq⟩:∃ q,q=d / 2:=⟨_,rfl⟩
 have p0:0<=p/\p<=10000:=oZ
 have q0:0<=q/\q<=40000:=oZ
 have p1:b.tdiv 8=p:=by rw[Int.tdiv_eq_ediv_of_nonneg hb0];exact hp.symm
 have q1:d.tdiv 2=q:=by rw[Int.tdiv_eq_ediv_of_nonneg hd0];exact hq.symm
 clear hp hq
 obtain⟨pp0,pp1⟩:=p0
 obtain⟨qq0,qq1⟩:=q0
 have r1:IntKind.i64.wrap p=p:=iZ _ oZ
 have r2:IntKind.i64.wrap q=q:=iZ _ oZ
 have r3:IntKind.i64.wrap (p+q)=p+q:=iZ _ oZ
 have t1:¬ p+q < -65536:=oZ
 have t2:¬ 65536<p+q:=oZ
 have s1:IntKind.i64.wrap (4*d)=4*d:=iZ _ oZ
 have s2:IntKind.i64.wrap (b+4*d)=b+4*d:=iZ _ oZ
 have s3:IntKind.i64.wrap (b+4*d+k)=b+4*d+k:=iZ _ oZ
 go_enter Tryz.func115,Tryz.ntmps115
 go_wp2_with fail
 go_ret
 exact⟨rfl,rfl⟩
section
variable {w:World} {rb mb cb:Nat} {go:Option Nat} {st:St} {Bd:Nat}
theorem Px (b d id l v:Int) (hrm:RM w rb mb cb go true st) (hf:st.Fine Bd) (hB:Bd<1000000000) (hb0:0<=b) (hb1:b<=60000) (hd0:0<=d) (hd1:d<=60000) (h1:U id) (h2:U l) (h3:U v) :
  Calls Tryz.prog 89 #[.pointer (some ⟨rb,0,none⟩),.int .i64 b,.int .i64 d,.int .u32 id,.int .u32 l,.int .u32 v] w fun e w'=>∃ go',e=.returned (.tuple #[])/\RM w' rb mb cb go' true ((zu b d id l v).on st).2/\jY rb mb cb w go w' go':=by
 have HR:=hJ (iI.start hrm)
 have HF:=hJ hf
 have HQ:=hJ (Rest.start (zu b d id l v) st)
 have h01:=jW b d 1 hb0 hb1 hd0 hd1 dZ dZ
 have h02:=jW b d 2 hb0 hb1 hd0 hd1 dZ dZ
 have h00:=jW b d 0 hb0 hb1 hd0 hd1 dZ dZ
 have HU:=hJ (And.intro h1 (And.intro h2 h3))
 obtain⟨a,ha⟩:∃ a,a=b+4*d:=⟨_,rfl⟩
 simp only[Int.add_zero,<- ha] at h00 h01 h02
 have H0:=hJ h00
 have H1:=hJ h01
 have H2:=hJ h02
 have HE:=hJ ha
 clear hrm hf ha h1 h2 h3 h00 h01 h02
 go_enter Tryz.func89,Tryz.ntmps89
 go_wp2_with fail
 refine(H1.out _).mono ?_;rintro e w1 ⟨rfl,rfl⟩
 go_wp2_with fail
 refine(run_store HR.out.rm hB HF.out.ok (a+1) id).mono ?_;rintro e w2 ⟨rfl,go2,hr2,ha2⟩
 have HR:=hJ (HR.out.access hr2 ha2)
 have hq:=HQ.out
 unfold zu at hq
 rw[<- HE.out] at hq
 have hq2:=hq.store HF.out
 have hf2:=HF.out.store (a+1) id
 rw[u32_in HU.out.1] at hq2 hf2
 have HQ:=hJ hq2
 have HF:=hJ hf2
 clear hr2 ha2 hq hq2 hf2
 go_wp2_with fail
 refine(H2.out _).mono ?_;rintro e w1 ⟨rfl,rfl⟩
 go_wp2_with fail
 refine(run_store HR.out.rm hB HF.out.ok (a+2) l).mono ?_;rintro e w3 ⟨rfl,go3,hr3,ha3⟩
 have HR:=hJ (HR.out.access hr3 ha3)
 have hq2:=HQ.out.store HF.out
 have hf2:=HF.out.store (a+2) l
 rw[u32_in HU.out.2.1] at hq2 hf2
 have HQ:=hJ hq2
 have HF:=hJ hf2
 clear hr3 ha3 hq2 hf2
 go_wp2_with fail
 refine(H0.out _).mono ?_;rintro e w1 ⟨rfl,rfl⟩
 go_wp2_with fail
 refine(run_store HR.out.rm hB HF.out.ok a v).mono ?_;rintro e w4 ⟨rfl,go4,hr4,ha4⟩
 have HR:=hJ (HR.out.access hr4 ha4)
 have hq2:=HQ.out.store HF.out
 rw[u32_in HU.out.2.2] at hq2
 have HQ:=hJ hq2.ret
 clear hr4 ha4 hq2
 go_wp2_with fail
 go_end0
 have hq:=HQ.out
 unfold gG at hq
 have hrm:=HR.out.rm
 rw[<- hq.1] at hrm
 refine⟨go4,rfl,?_,HR.out.adv⟩
 unfold zu
 rw[<- HE.out]
 exact hrm
theorem MI (b d v:Int) (hrm:RM w rb mb cb go true st) (hf:st.Fine Bd) (hB:Bd<1000000000) (hb0:0<=b) (hb1:b<=60000) (hd0:0<=d) (hd1:d<=60000) (h3:U v) :
  Calls Tryz.prog 82 #[.pointer (some ⟨rb,0,none⟩),.int .i64 b,.int .i64 d,.int .u32 v] w fun e w'=>∃ go',e=.returned (.tuple #[])/\RM w' rb mb cb go' true ((uV b d v).on st).2/\jY rb mb cb w go w' go':=by
 have HR:=hJ (iI.start hrm)
 have HF:=hJ hf
 have HQ:=hJ (Rest.start (uV b d v) st)
 have h03:=jW b d 3 hb0 hb1 hd0 hd1 dZ dZ
 have HU:=hJ h3
 obtain⟨a,ha⟩:∃ a,a=b+4*d:=⟨_,rfl⟩
 simp only[<- ha] at h03
 have HA:=hJ h03
 have HE:=hJ ha
 clear hrm hf ha h3 h03
 go_enter Tryz.func82,Tryz.ntmps82
 go_wp2_with fail
 refine(HA.out _).mono ?_;rintro e w1 ⟨rfl,rfl⟩
 go_wp2_with fail
 refine(run_store HR.out.rm hB HF.out.ok (a+3) v).mono ?_;rintro e w2 ⟨rfl,go2,hr2,ha2⟩
 have HR:=hJ (HR.out.access hr2 ha2)
 have hq:=HQ.out
 unfold uV at hq
 rw[<- HE.out] at hq
 have hq2:=hq.store HF.out
 rw[u32_in HU.out] at hq2
 have HQ:=hJ hq2.ret
 clear hr2 ha2 hq hq2
 go_wp2_with fail
 go_end0
 have hq:=HQ.out
 unfold gG at hq
 have hrm:=HR.out.rm
 rw[<- hq.1] at hrm
 refine⟨go2,rfl,?_,HR.out.adv⟩
 unfold uV
 rw[<- HE.out]
 exact hrm
/-! ### Find -/
def wL (b x:Int):Nat->Nat->Pr Int
 | 0,_=>.ret (-1)
 | m+1,d=>.load (b+4*(d:Int)+1) fun y=>if y=x then .ret (d:Int) else wL b x m (d+1)
def jr (b n x:Int):Pr Int:=wL b x n.toNat 0
theorem AQ {cs:List Int} {b x:Int} (hb:0<=b):∀ (m d:Nat),b+4*((d+m:Nat):Int)<=cs.length->∃ k,k<=m/\Does (wL b x m d) cs k (mM cs b x m d) cs
 | 0,d,_=>⟨0,Nat.le_refl _,.ret _ _⟩
 | m+1,d,h=>by
  unfold wL mM
  by_cases hx:bK cs (b+4*(d:Int)+1)=x
  ·refine⟨1,oZ,.load oZ oZ ?_⟩
   have e:cs.getD (b+4*(d:Int)+1).toNat 0=x:=hx
   rw[if_pos hx,e,if_pos rfl]
   exact .ret _ _
  ·obtain⟨k,hk,hd⟩:=AQ (cs:=cs) hb m (d+1) oZ
   refine⟨k+1,oZ,.load oZ oZ ?_⟩
   rw[if_neg hx]
   have e:¬ cs.getD (b+4*(d:Int)+1).toNat 0=x:=hx
   rw[if_neg e]
   exact hd
theorem KE (b n x:Int) (hrm:RM w rb mb cb go true st) (hf:st.Fine Bd) (hB:Bd<1000000000) (hb0:0<=b) (hb1:b<=60000) (hn0:0<=n) (hn1:n<=60000) :
  Calls Tryz.prog 113 #[.pointer (some ⟨rb,0,none⟩),.int .i64 b,.int .i64 n,.int .u32 x] w fun e w'=>∃ k go',e=.returned (.int .i64 k)/\RM w' rb mb cb go' true ((jr b n x).on st).2/\jY rb mb cb w go w' go'/\(∀ y,((jr b n x).on st).1=some y->y=k)/\-1<=k/\k<=60000:=by
 obtain⟨m,rfl⟩:=Int.eq_ofNat_of_zero_le hn0
 have HR:=hJ (iI.start hrm)
 have HF:=hJ hf
 have HQ:=hJ (show Rest (jr b (m:Int) x) (wL b x (m-0) 0) st st from Rest.start _ _)
 have HA:=hJ (fun(d:Nat) (h:d<=m)=>jW b (d:Int) 1 hb0 hb1 oZ oZ dZ dZ)
 have hkn:(if(65536:Int)<(m:Int) then(65536:Int) else(m:Int))=(m:Int):=by split <;> omega
 have hkb:∀ (ts:Array TypeId) (t:TypeId) (w:World),(Builtin.min_ ts t #[.int .i64 (m:Int),.int .i64 65536]).run Tryz.prog w=.ok (.int .i64 (m:Int)) w:=fun ts t w=>by rw[run_min_int2,hkn]
 clear hrm hf
 go_enter Tryz.func113,Tryz.ntmps113
 go_wp2_with fail
 go_loopw [12] (fun iv wr=>∃ (i:Nat) (st':St) (go':Option Nat),i<=m/\iv=.int .i64 i/\Hid (iI w rb mb cb go st' go' wr)/\Hid (st'.Fine Bd)/\Hid (Rest (jr b (m:Int) x) (wL b x (m-i) i) st st')) (fun iv _=>m-(intOf iv).toNat)
 case atStart=>exact⟨0,st,go,oZ,rfl,HR,HF,HQ⟩
 case round =>
  clear HR HF HQ
  obtain⟨i,st1,go1,hi,rfl,HR,HF,HQ⟩:=hrel
  by_cases hlt:i<m
  ·have hlt1:(i:Int)<(m:Int):=oZ
   have hq:=HQ.out
   obtain⟨j,hj⟩:∃ j,m-i=j+1:=⟨m-i-1,oZ⟩
   have hj2:m-(i+1)=j:=oZ
   rw[hj] at hq
   unfold wL at hq
   have hq2:=hq.load HF.out
   have HOff:Hid (st1.off=true->gG (jr b (m:Int) x) (-1) st st1):=hJ (fun ho=>hq.off HF.out ho rfl _)
   obtain⟨a,ha⟩:∃ a,a=b+4*(i:Int):=⟨_,rfl⟩
   rw[<- ha] at hq2
   have hai:=HA.out i hi
   rw[<- ha] at hai
   have HAi:=hJ hai
   have HQ2:=hJ hq2
   clear hq hq2 ha HQ hai
   obtain⟨capo,hro⟩:=HR.out.rm.run
   obtain⟨of,hoff⟩:∃ of,of=st1.off:=⟨_,rfl⟩
   rw[<- hoff] at hro HOff
   clear hoff
   have HRo:=hJ hro
   clear hro
   cases of with
   | true =>
    go_wp2_with fail
    refine(qj HRo.out).mono ?_;rintro e w6 ⟨rfl,rfl⟩
    clear HRo
    go_wp2_with fail
    try rw[Exit.noGoto_ret]
    go_ret
    have hq:=HOff.out (by trivial)
    unfold gG at hq
    refine⟨-1,go1,rfl,?_,HR.out.adv,hq.2,oZ,oZ⟩
    have:=HR.out.rm
    rw[<- hq.1] at this
    exact this
   | false =>
   go_wp2_with fail
   refine(qj HRo.out).mono ?_;rintro e w6 ⟨rfl,rfl⟩
   clear HRo HOff
   go_wp2_with fail
   refine(HAi.out _).mono ?_;rintro e w1 ⟨rfl,rfl⟩
   go_wp2_with fail
   refine(run_load HR.out.rm hB HF.out.ok (a+1)).mono ?_;rintro e w2 ⟨rfl,go2,hr2,ha2⟩
   have HR:=hJ (HR.out.access hr2 ha2)
   have HF:=hJ (HF.out.load (a+1))
   clear hr2 ha2
   obtain⟨st2,hst2⟩:∃ st2,st2=(st1.load (a+1)).2:=⟨_,rfl⟩
   obtain⟨y,hy⟩:∃ y,y=(st1.load (a+1)).1:=⟨_,rfl⟩
   rw[<- hst2] at HR HF HQ2
   rw[<- hy] at HQ2 ⊢
   clear hst2 hy
   by_cases hyx:y=x
   ·have b1:(y==x)=true:=by simpa using hyx
    have hq2:=HQ2.out
    rw[if_pos hyx] at hq2
    have HQ:=hJ hq2.ret
    clear hq2 hyx
    go_wp2_with fail
    go_ret
    have hq:=HQ.out
    unfold gG at hq
    refine⟨(i:Int),go2,rfl,?_,HR.out.adv,hq.2,oZ,oZ⟩
    have:=HR.out.rm
    rw[<- hq.1] at this
    exact this
   ·have b1:(y==x)=false:=by simpa using hyx
    have hq2:=HQ2.out
    rw[if_neg hyx] at hq2
    have HQ:=hJ hq2
    clear hq2 hyx
    go_wp2_with fail
    go_roundw
    case rel=>exact⟨i+1,st2,go2,oZ,by go_num,HR,HF,by rw[hj2];exact HQ⟩
    case measure=>simp[intOf];omega
  ·obtain rfl:i=m:=oZ
   have hq:=HQ.out
   rw[Nat.sub_self] at hq
   have HQ2:=hJ hq.ret
   clear hq
   go_wp2_with fail
   go_ret
   have hq:=HQ2.out
   unfold gG at hq
   refine⟨-1,go1,rfl,?_,HR.out.adv,hq.2,oZ,oZ⟩
   have:=HR.out.rm
   rw[<- hq.1] at this
   exact this
end
/-! ### A walk -/
theorem I7 {n:Nat} (h:n<=reachBytes):(n:Int)<=9223372036854775807:=by unfold reachBytes at h;omega
def uA (a:Int):Pr Int:=.load a fun v=>.ret v
def iD (a t:Int):Pr Unit:=.store a t (.ret ())
/-! ### The closure of a Find -/
/-! ### The closure of a Put -/
/-! ### The closure of a Read -/
/-! ### The closures of tails -/
/-! ### The closure of a Find on its way -/
end Go.Proofs.YtlfndoclbebdaaaGreatDoor
