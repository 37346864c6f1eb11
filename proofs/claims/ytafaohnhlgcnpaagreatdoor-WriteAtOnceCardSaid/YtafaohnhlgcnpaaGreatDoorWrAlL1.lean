/-
 What stage 12 rests on.
-/
import Derived.Test.YtafaohnhlgcnpaaGreatDoorWrAlK1
import Derived.Test.YtafaohnhlgcnpaaGreatDoorWrAlI3
set_option maxRecDepth 100000
set_option maxHeartbeats 16000000
namespace Go.Proofs.YtafaohnhlgcnpaaGreatDoor
open Go.RowKit
variable {α:Type}
theorem dx.next {A:Int->Prop} {q:Pr α} {cs cs':List Int} {n:Nat} {x:α} (h:dx A q cs n x cs'):dx A (q.next cs).1 (q.next cs).2 (n-1) x cs':=by
 cases h with
 | ret=>exact .ret _ _
 | load h1 h2 h3=>exact h3
 | store h1 h2 _ h3=>exact h3
theorem FY {p q:Pr α} {st:St} (h:At p q st) (hin:q.In st.cs.length) {cs cs':List Int} {n:Nat} {x:α} (hq:dx (fun _=>False) q cs n x cs'):(st.iI p).s=st.s:=by
 have ho:=qG h
 have e1:st.iI p=(q.on {st with at_:=st.log.length,made:=false}).2.shut:=by
  unfold St.iI;rw[if_neg (by simp[h.over]),ho]
 rw[e1];clear e1 ho;unfold St.shut;cases q with
 | ret x=>simp[Pr.on]
 | load a k =>
  obtain⟨h1,h2⟩:=hin
  have e:({st with at_:=st.log.length,made:=false}:St).load a=(st.cs.getD a.toNat 0,{st with made:=true,off:=false,log:=st.log++[st.cs.getD a.toNat 0],at_:=st.log.length+1,l:=st.l+1}):=by
   have hk:=nA h1 h2;simp[St.load,hk]
  have hf:=zg (k (st.cs.getD a.toNat 0)) {st with made:=true,off:=false,log:=st.log++[st.cs.getD a.toNat 0],at_:=st.log.length+1,l:=st.l+1} rfl sZ rfl;simp only[Pr.on,e];rw[if_neg sZ,hf.2]
 | store a v k =>
  cases hq with
  | store _ _ hn _=>exact hn.elim
structure pQ (W:World) (rb mb cb:Nat) (S:Nat->Prop) (I:World->Prop) (p:Pr α) (x:α) (cs':List Int) (t:Int) (n i:Nat) (N:Prop) (s0:Int) (wx:World):Prop where
 at_:∃ q st go m,RM wx rb mb cb go false st/\At p q st/\Does q st.cs m x cs'/\m+i=n/\st.log.length<=i/\0<=st.l/\0<=st.s/\st.l+st.s+m<=t/\(∀ y∈st.log,U y)/\(∀ y∈st.cs,U y)/\(∀ g,go=some g->W.heap.size<=g)/\(N->dx (fun _=>False) q st.cs m x cs'/\st.s=s0)
 inv:I wx
 mod:bB (Own S mb cb) W wx
theorem pQ.new {W w0 w1:World} {rb mb cb:Nat} {S:Nat->Prop} {I:World->Prop} {p:Pr α} {x:α} {cs cs':List Int} {l s:Int} {n:Nat} {N:Prop} (hm:bD W mb cb cs l s) (h0:0<=l) (h1:0<=s) (hcu:∀ y∈cs,U y) (hd:Does p cs n x cs') (hN:N->dx (fun _=>False) p cs n x cs') (hb:Below W.heap.size W w1) (hr:bu w1 rb mb none 0 [] 0 false false false false 0) (hI:I w1) (hw:w0=W) :
  pQ W rb mb cb S I p x cs' (l+s+n) n 0 N s w1:=by
 subst hw;exact⟨⟨p,⟨[],0,false,false,false,0,cs,l,s⟩,none,n,⟨⟨0,hr⟩,hm.below hb,sZ⟩,At.new p cs l s,hd,oZ,sZ,h0,h1,by show l+s+(n:Int)<=l+s+(n:Int);omega,sZ,hcu,sZ,fun h=>⟨hN h,rfl⟩⟩,hI,Below.mod hb _ fun k hk hk'=>oZ⟩
theorem pQ.Mr {W w:World} {rb mb cb:Nat} {F:FuncId} {caps:Array Value} {S:Nat->Prop} {I:World->Prop} {p:Pr α} {Post:α->World->Prop} {x:α} {cs':List Int} {t s0:Int} {n i B:Nat} {N:Prop} (h:pQ W rb mb cb S I p x cs' t n i N s0 w) (hrb:W.heap.size<=rb)
  (hC:K9 F caps rb mb cb S I p Post B) (hS:∀ k,S k->k<W.heap.size/\k≠mb/\k≠cb) (hn:n+1<=B) (ht:t+1<=B) :
  Calls Tryz.prog 22 #[.pointer (some ⟨rb,0,none⟩),.func (.func F) #[] caps] w fun e w'=>(e=.returned (.bool true)/\I9 W mb cb S I Post x cs' t w'/\(N->∃ l,bD w' mb cb cs' l s0)/\∃ cap go' log at_ ma off,bu w' rb mb go' cap log at_ false ma off true 0)∨(e=.returned (.bool false)/\pQ W rb mb cb S I p x cs' t n (i+1) N s0 w'/\i<n):=by
 obtain⟨⟨q,st,go,m,hrm,hat,hd,hmi,hlog,h0,h1,hsum,hlu,hcu,hgo,hns⟩,hI,hmod⟩:=h;have hfine:=hat.fine (B:=B) oZ h0 h1 oZ hlu hcu
 have hfar:∀ k,S k->¬ fD rb mb cb go k:=by
  intro k hk;obtain⟨a1,a2,a3⟩:=hS k hk;rintro(e | e | e | e)
  ·omega
  ·have:=hgo k e;omega
  ·exact a2 e
  ·exact a3 e
 obtain⟨hin,hd',hnx⟩:=hd.step;have hst:=xI hat hin;refine(BX hrm hat.over hat.off hfine hC hI hfar).mono ?_;rintro e w' ⟨rfl,go',hrm',hadv,hI',hP'⟩;have hu:=EO (p:=p) hfine hat.over;have hks:N->(st.iI p).s=s0:=fun h=>(FY hat hin (hns h).1).trans (hns h).2;generalize hst1:st.iI p=st' at *;rw[hst.over]
 have hgo':∀ g,go'=some g->W.heap.size<=g:=by
  intro g hg;rcases hadv.grows with e | ⟨g',e,hg'⟩
  ·exact hgo g (by rw[<- e];exact hg)
  ·rw[e] at hg;cases hg;exact Nat.le_trans hmod.size hg'
 have hmod':bB (Own S mb cb) W w':=hmod.then hadv.mod (by
  rintro k hk (e | e | e | e | e)
  ·exact .inl e
  ·omega
  ·have:=hgo k e;omega
  ·exact .inr (.inl e)
  ·exact .inr (.inr e))
 have hs:=hst.sum;have hl0:=hst.l0;have hs0:=hst.s0;have hcount:=hst.count;cases hr:(q.next st.cs).1.qE with
 | true =>
  left
  have hn1:∃ y,(q.next st.cs).1=.ret y:=by
   generalize (q.next st.cs).1=r at hr;cases r with
   | ret y=>exact⟨y,rfl⟩
   | load a k=>cases hr
   | store a v k=>cases hr
  obtain⟨y,hy⟩:=hn1;rw[hy] at hd';obtain⟨rfl,hcs,hz⟩:=hd'.yN;refine⟨rfl,⟨⟨st'.l,st'.s,?_,oZ,oZ,?_⟩,?_,hI',hP' y ?_,hmod'⟩,fun h=>⟨st'.l,?_⟩,?_⟩
  ·rw[hcs,<- hst.cells];exact hrm'.mem
  ·rcases q with _|_|_
   ·have e:st'=st.iI p:=hst1.symm;have ho:=qG hat
    have:st'.l=st.l/\st'.s=st.s:=by
     rw[e];unfold St.iI St.shut;rw[if_neg (by simp[hat.over]),ho];exact⟨rfl,rfl⟩
    omega
   ·cases hd with
    | load _ _ hd3=>omega
   ·cases hd with
    | store _ _ hd3=>omega
  ·rw[hcs,<- hst.cells];exact hu.2
  ·rw[hst.ans,hy];rfl
  ·rw[<- hks h,hcs,<- hst.cells];exact hrm'.mem
  ·obtain⟨cap,hr2⟩:=hrm'.run;rw[hst.err,hst.over,hr] at hr2;exact⟨cap,go',_,_,_,_,hr2⟩
 | false =>
  right
  have hm0:0<m:=by
   rcases hnx with h | h
   ·exact h
   ·rw[h] at hr;cases hr
  refine⟨rfl,⟨⟨(q.next st.cs).1,st',go',m-1,hrm',hst.at_ hr,?_,oZ,oZ,oZ,oZ,oZ,hu.1,hu.2,hgo',fun h=>⟨?_,hks h⟩⟩,hI',hmod'⟩,oZ⟩
  ·rw[hst.cells];exact hd'
  ·rw[hst.cells];exact(hns h).1.next
section
variable {B S:Nat->Int} {C:Int} {m dd:Nat} {tt:Int} {nd:Nat} {cs:List Int} {x:Sx} {d:bK}
theorem kL.quiet {id:Int} {F:List ByteArray} {e:Int} {cs':List Int} {x':Sx} {nd':Nat} {d':bK} (h:WI B S C m dd tt nd cs x d) (g:kL B S C m dd tt nd id F cs x d e cs' x' nd' d') :
  ∃ q y,q<=500000/\Does (jN B S m dd tt nd id F x) cs q y cs'/\y.2=e/\(e=0->y.1=x')/\(e≠0->dx (fun _=>False) (jN B S m dd tt nd id F x) cs q y cs'):=by
 by_cases he:e=0
 ·obtain⟨q,y,h1,h2,h3,h4⟩:=g.prog;exact⟨q,y,h1,h2.does,h3,h4,fun h=>absurd he h⟩
 have hc:cs'=cs:=by
  obtain⟨_,hc,_⟩ | ⟨h0,_⟩:=g.bT
  ·exact hc
  ·exact absurd h0 he
 have key:∃ q y,q<=500000/\dx (fun _=>False) (jN B S m dd tt nd id F x) cs q y cs/\y.2=e:=by
  obtain⟨b1,b2,b3,b4,b5,b6,b7,b8⟩:=h.bounds;have hsl:df B dd=B 5+1+4*(dd:Int):=rfl;have hdd:=h.hdd;have hnd:=h.nd_;have hm:=h.hm;have hocc:qo d m<m:=by have:=h.terms;have:=h.many;have:=h.htt;omega
  obtain⟨q1,f,hq1,hf1,hf2,_⟩:=kM (A:=fun _=>False) cs id (B 5+1) nd false (B 5) rfl oZ oZ;rw[<- h.aC] at hf1 hf2
  have hKb:∀ k∈(bg (dz F)).1,(∀ b∈k,b<256)/\k.length<=17:=by
   intro k hk;obtain⟨tk,htk,rfl⟩:=List.mem_map.1 (((gU (dz F)).mem k).1 hk);have:=iy htk;refine⟨iE oZ oZ,?_⟩;unfold aM;rw[List.length_cons,aD];omega
  have hlen64:=nP F;have hKl:=lV (dz F);obtain⟨q2,hq2,hl2⟩:=WS.look (A:=fun _=>False) h.ws oZ hm hocc (dY (dz F)) (bg (dz F)).1 [] hKb;rw[List.nil_append,show (bg (dz F)).1.map (mX cs d m (dY (dz F)))=gm cs d m (dz F) from rfl] at hl2;have ho:=g.out;clear g hc;cases ho with
  | long hE =>
   refine⟨0,(aJ,iN F),oZ,?_,rfl⟩;unfold jN;rw[if_pos hE];exact .ret _ _
  | dup hE hpl =>
   refine⟨q1+0,(aJ,6),oZ,?_,rfl⟩;unfold jN;rw[if_neg oZ];refine hf1.bind ?_;rw[hf2,hpl,if_pos rfl];exact .ret _ _
  | Ee hE hpl hd =>
   refine⟨q1+(q2+0),(aJ,5),oZ,?_,rfl⟩;unfold jN;rw[if_neg oZ];refine hf1.bind ?_;rw[hf2,hpl,if_neg dZ];refine hl2.bind ?_;rw[if_pos (.inl oZ)];exact .ret _ _
  | terms hE hpl hd ht =>
   refine⟨q1+(q2+0),(aJ,5),oZ,?_,rfl⟩;unfold jN;rw[if_neg oZ];refine hf1.bind ?_;rw[hf2,hpl,if_neg dZ];refine hl2.bind ?_;rw[if_pos (.inr ht)];exact .ret _ _
  | full hE hpl hd ht hf =>
   refine⟨q1+(q2+0),(aJ,3),oZ,?_,rfl⟩;unfold jN;rw[if_neg oZ];refine hf1.bind ?_;rw[hf2,hpl,if_neg dZ];refine hl2.bind ?_;rw[if_neg oZ,if_pos hf];exact .ret _ _
  | ok=>exact absurd rfl he
 obtain⟨q,y,h1,h2,h3⟩:=key;exact⟨q,y,h1,by rw[hc];exact h2.does,h3,fun h=>absurd h he,fun _=>by rw[hc];exact h2⟩
theorem kJ.quiet {id:Int} {e:Int} {cs':List Int} {x':Sx} (h:WI B S C m dd tt nd cs x d) (g:kJ B S C m dd tt nd id cs x d e cs' x') :
  ∃ q y,q<=500000/\Does (mE id x) cs q y cs'/\y.2=e/\(e=0->y.1=x')/\(e≠0->dx (fun _=>False) (mE id x) cs q y cs'):=by
 by_cases he:e=0
 ·obtain⟨q,y,h1,h2,h3,h4⟩:=g.prog;exact⟨q,y,h1,h2.does,h3,h4,fun h=>absurd he h⟩
 have hc:cs'=cs:=by
  obtain⟨_,hc,_⟩ | ⟨h0,_⟩:=g.bT
  ·exact hc
  ·exact absurd h0 he
 have key:∃ q y,q<=500000/\dx (fun _=>False) (mE id x) cs q y cs/\y.2=e:=by
  obtain⟨b1,b2,b3,b4,b5,b6,b7,b8⟩:=h.bounds;have hsl:df B dd=B 5+1+4*(dd:Int):=rfl;have hdd:=h.hdd;have hnd:=h.nd_;obtain⟨q1,f,hq1,hf1,hf2,hf3⟩:=kM (A:=fun _=>False) cs id (B 5+1) nd false (B 5) rfl oZ oZ;rw[<- h.aC] at hf1 hf2;have ho:=g.out;clear g hc;cases ho with
  | none hpl =>
   rw[hpl] at hf2;refine⟨q1+0,(aJ,7),oZ,?_,rfl⟩;unfold mE;refine hf1.bind ?_;rw[if_pos hf2];exact .ret _ _
  | dead hpl hk ha hal hdead =>
   rename_i k a
   replace hf2:f.2.2=true:=by rw[hf2,hpl]
   obtain⟨f1,f2,f3⟩:=hf3 hf2
   have hkz:iU cs (B 5+1) nd id=(k:Int):=by
    rw[h.aC] at hpl;unfold bO at hpl;have e1:(if 0<=iU cs (bP (B 5,(nd:Int),false)) (nd:Int).toNat id then(((0:Nat):Int),iU cs (bP (B 5,(nd:Int),false)) (nd:Int).toNat id,true) else bO cs id (0+1) [])=(((0:Nat):Int),(k:Int),true):=hpl;rw[show bP (B 5,(nd:Int),false)=B 5+1 from rfl,Int.toNat_natCast,if_pos f3] at e1;exact congrArg (fun z=>z.2.1) e1
   rw[hkz] at f2;obtain⟨q2,hq2,hrow⟩:=JJ cs (B 5+1) k oZ oZ
   have hrow2:=hrow.stores (A:=fun _=>False) (by
    unfold jM;intro _ _ _ _;trivial)
   rw[show bA cs (B 5+1+4*(k:Int)+3)=cs.getD a 0 by rw[ha,eX]] at hrow2;have hff:f=(B 5+1,(k:Int),true):=by rw[<- f1,<- f2,<- hf2]
   refine⟨q1+(q2+0),(aJ,7),oZ,?_,rfl⟩;unfold mE;refine hf1.bind ?_;rw[hff,if_neg sZ];refine hrow2.bind ?_;rw[if_pos hdead];exact .ret _ _
  | live=>exact absurd rfl he
 obtain⟨q,y,h1,h2,h3⟩:=key;exact⟨q,y,h1,by rw[hc];exact h2.does,h3,fun h=>absurd h he,fun _=>by rw[hc];exact h2⟩
end
theorem cB.cells {w:World} {g:Nat} {cs:List Int} (h:cB w g cs):w.heap[g]?=some (.cells (cs.map (Value.int .u32)).toArray 32 (0,0)):=by
 have h':=h;obtain⟨cur,hc,hs,hf⟩:=h';rw[hc]
 have:cur=(cs.map (Value.int .u32)).toArray:=by
  apply Array.ext
  ·simp[hs]
  ·intro i h1 h2;have h3:i<cs.length:=by rw[<- hs];exact h1
   have h4:=h.cell h3;have h5:=aa hc i;rw[h4] at h5;rw[Array.getElem?_eq_getElem h1] at h5;rw[<- Option.some.inj h5];simp[h3]
 rw[this]
theorem bn.left {W wr:World} {mb cb wb eb base:Nat} {v:Value} {l:List Sg} {c1 c2 c3 c4:Array Value} (h:bn W base v l) (hL:Left W mb cb wb eb wr) (h1:W.heap[mb]?=some (.cells c1 129 (0,0))) (h2:W.heap[cb]?=some (.cells c2 32 (0,0))) (h3:W.heap[wb]?=some (.cells c3 46 (0,0))) (h4:W.heap[eb]?=some (.cells c4 52 (0,0))):bn wr base v l:=by
 obtain⟨h0,h | ⟨g',cap,cur,k1,k2,k3,k4⟩⟩:=h
 ·exact⟨h0,.inl h⟩
 ·have ne:∀ {k:Nat} {c:Array Value} {t:TypeId},W.heap[k]?=some (.cells c t (0,0))->t≠65->g'≠k:=by
   rintro k c t hk ht rfl;rw[hk] at k3;injection k3 with k3
   injection k3 with _ k3 _
   exact ht k3
  exact⟨h0,.inr ⟨g',cap,cur,k1,k2,(hL g' (lt_of_heap k3) (ne h1 dZ) (ne h2 dZ) (ne h3 dZ) (ne h4 dZ)).trans k3,k4⟩⟩
theorem bn.reads {W:World} {base gc n:Nat} {og:Option Addr} {l:List Sg} (h:bn W base (.slice og n gc) l):eH W og l:=by
 obtain⟨oa,cap,hv,_,_,hr⟩:=Gv h;injection hv with e1 e2 e3
 subst e1;exact hr
def kS (N:Nat) (w w':World):Prop:=∀ k,k<N->w'.heap[k]?=w.heap[k]?
theorem kS.cell {N:Nat} {w w':World} (h:kS N w w') (hN:w.heap.size<=N) {a:Addr} {v:Value} (hc:w.cell? a=some v):w'.cell? a=some v:=by
 rw[World.cell?_of_block (h a.block ?_)]
 ·exact hc
 ·unfold World.cell? at hc;rcases Nat.lt_or_ge a.block w.heap.size with h1 | h1
  ·omega
  ·rw[Array.getElem?_eq_none h1] at hc;cases hc
theorem kS.texts {w w':World} (h:kS w.heap.size w w') {oa:Option Addr} {F:List ByteArray} (hF:fU w oa F):fU w' oa F:=fun j x hj=>by
 obtain⟨g,o,h0,h1⟩:=hF j x hj;exact⟨g,o,h0,h.cell (Nat.le_refl _) h1⟩
theorem kS.tabs {w w':World} (h:kS w.heap.size w w') (hT:dE w):dE w':=by
 obtain⟨⟨t1,f1,h1⟩,⟨t2,f2,h2⟩⟩:=hT;exact⟨⟨t1,f1,(h _ (lt_of_heap h1)).trans h1⟩,⟨t2,f2,(h _ (lt_of_heap h2)).trans h2⟩⟩
structure KC (dd:Nat) (tt:Int) (ss:Nat->Int) (bk rm:Int) (B S:Nat->Int) (C L:Int) (m:Nat):Prop where
 ok:ek (dd:Int) tt ss bk rm
 pl:ae (aA (aB ss bk rm)) (aB ss bk rm) (aA (aB ss bk rm) 6) (slotsOf tt) (bN (dd:Int) tt)=ae B S C (m:Int) L
 lv:L=1+4*(dd:Int)+(m:Int)
 c5:C<=5000
structure DW (W0 W:World) (Wb mb cb dd:Nat) (tt:Int) (ss:Nat->Int) (bk rm:Int) (kf bf:Nat) (B S:Nat->Int) (C L:Int) (m n nd:Nat) (cs:List Int) (x:Sx) (d:bK) (l s:Int) (og og2:Option Addr) (gc gc2 gz:Nat):Prop where
 box:W.heap[Wb]?=some (.cells (aU (au (dd:Int) tt ss bk rm kf bf) (ae B S C (m:Int) L) (.pointer (some ⟨mb,0,none⟩)) (aO (.slice og 1 gc) x) (aH (.slice (some ⟨gz,0,none⟩) n n) (.slice og2 1 gc2) x)) 51 (0,0))
 mem:bD W mb cb cs l s
 l0:0<=l
 s0:0<=s
 row:cB W gz cs
 zc:gz≠cb
 aC:bn W W0.heap.size (.slice og 1 gc) x.aC
 segs2:bn W W0.heap.size (.slice og2 1 gc2) x.aC
 inv:WI B S C m dd tt nd cs x d
 len:cs.length=n
 low:Below W0.heap.size W0 W
 oldm:W0.heap.size<=mb
 oldc:W0.heap.size<=cb
 oldb:W0.heap.size<=Wb
theorem KZ (vc vs:Value) (x:Sx) {cf pl wr:Array Value} {m:Value} (h1:cf.size=10) (h2:pl.size=15) (h3:wr.size=9):∀ (j:Nat) (v:Value),(aO vs x).toList[j]?=some v->(aU cf pl m wr (aH vc vs x))[36+j]?=some v:=fun j v h=>by
 have h9:=lG (st:=aH vc vs x) (m:=m) h1 h2 h3 (1+j) v (by rw[Nat.add_comm];exact h);rwa [<- Nat.add_assoc] at h9
theorem l8 (a b c:Value):(Tryz.prog.info? 37).map (·.size)=some (#[a,b,c]:Array Value).size:=by
 rw[show (#[a,b,c]:Array Value).size=3 from rfl];kernel_rfl
theorem rJ {W w w':World} {k:Nat} (hk:k<W.heap.size) (h:w.heap[k]?=W.heap[k]?) (hb:Below w.heap.size w w'):w'.heap[k]?=W.heap[k]?:=by
 have:k<w.heap.size:=by
  rw[Array.getElem?_eq_getElem hk] at h;exact(Array.getElem?_eq_some_iff.1 h).1
 exact(hb.block k this).trans h
theorem Mg {w:World} {b c:Nat} {cs:List Int} {l s l' s':Int} (h:bD w b c cs l s) (k:bD w b c cs l' s'):s=s':=by
 have e:=h.c2.symm.trans k.c2;injection e with e
 injection e
theorem K6 {W0 W:World} {Wb mb cb dd:Nat} {tt:Int} {ss:Nat->Int} {bk rm:Int} {kf bf:Nat} {B S:Nat->Int} {C L:Int} {m n nd:Nat} {cs:List Int} {x:Sx} {d:bK} {l s:Int} {og og2:Option Addr} {gc gc2 gz:Nat} (hK:KC dd tt ss bk rm B S C L m) (hW:DW W0 W Wb mb cb dd tt ss bk rm kf bf B S C L m n nd cs x d l s og og2 gc gc2 gz) (bv:Bool) (id:Int) (hls:l+s<=100000000) (fo:Option Addr) (fn fc:Nat) {e0:Int} {cs':List Int} {x':Sx} {nd':Nat} {d':bK} (p:Pr oM) (q:Nat) (y:oM) (hq:q<=500000) (hdo:Does p cs q y cs') (hye:y.2=e0) (hyx:e0=0->y.1=x') (hlen9:cs'.length=cs.length) (hinv9:WI B S C m dd tt nd' cs' x' d') (hns:e0≠0->dx (fun _=>False) p cs q y cs')
  (hclo:∀ (w4:World) (v wb:Nat),wb=W.heap.size+1->wb+1<v->v+1+1+1+1<w4.heap.size->Below W.heap.size W w4->w4.heap[wb]?=some (.cells (aO (.slice og 1 gc) x) 46 (0,0))->w4.heap[wb+1]?=some (.cells #[.int .i64 0] 52 (0,0)) ->
   PI (v+1) v (v+1+1+1+1) (v+1+1) (v+1+1+1) Wb wb (wb+1) #[.bool bv,.int .u32 id,.slice fo fn fc] (au (dd:Int) tt ss bk rm kf bf) (aO (.slice og 1 gc) x) w4 ->
   K9 54 #[.pointer (some ⟨v+1,0,none⟩),.pointer (some ⟨v,0,none⟩),.pointer (some ⟨v+1+1+1+1,0,none⟩),.pointer (some ⟨v+1+1,0,none⟩),.pointer (some ⟨v+1+1+1,0,none⟩)] w4.heap.size mb cb (CS w4 mb cb) (CI w4 mb cb wb (wb+1)) p (mO w4 wb (wb+1)) 200000000)
  (hwant:∀ w6:World,(∀ k,k<W.heap.size->k≠mb->k≠cb->w6.heap[k]?=W.heap[k]?)->bQ .u32 w6 (some ⟨gz,0,none⟩) (gQ cs)->eH w6 og2 x.aC->w6.heap[Wb]?=some (.cells (aU (au (dd:Int) tt ss bk rm kf bf) (ae B S C (m:Int) L) (.pointer (some ⟨mb,0,none⟩)) (aO (.slice og 1 gc) x) (aH (.slice (some ⟨gz,0,none⟩) n n) (.slice og2 1 gc2) x)) 51 (0,0)) ->
   Calls Tryz.prog 20 #[.pointer (some ⟨Wb,0,none⟩),.agg #[.bool bv,.int .u32 id,.slice fo fn fc]] w6 fun e9 w'=>∃ vc vs,e9=.returned (.tuple #[.int .i64 e0,.agg (aH vc vs x')])/\Below w6.heap.size w6 w'/\((e0≠0/\vc=.slice (some ⟨gz,0,none⟩) n n/\vs=.slice og2 1 gc2/\cs'=cs/\x'=x)∨(e0=0/\∃ g,vc=.slice (some ⟨g,0,none⟩) n n/\cB w' g cs'/\bn w' w6.heap.size vs x'.aC/\w6.heap.size<=g))) :
  Calls Tryz.prog 18 #[.pointer (some ⟨Wb,0,none⟩),.agg #[.bool bv,.int .u32 id,.slice fo fn fc]] W fun e W'=>e=.returned (.bool true)/\∃ l' s' og' og2' gc' gc2' gz',(e0≠0->s'=s)/\(gz'=gz∨W.heap.size<=gz')/\l'+s'<=l+s+500000/\DW W0 W' Wb mb cb dd tt ss bk rm kf bf B S C L m n nd' cs' x' d' l' s' og' og2' gc' gc2' gz'/\∀ k,k<W.heap.size->k≠mb->k≠cb->k≠Wb->W'.heap[k]?=W.heap[k]?:=by
 have HK:=hJ hK;have HD:=hJ hW;have H9:=hJ (And.intro (hlen9.trans hW.len) hinv9);have HDo:=hJ hdo;have HY:=hJ (And.intro hye hyx);have HCl:=hJ hclo;have HWa:=hJ hwant;have HNs:=hJ hns;clear hW hK hdo hye hyx hlen9 hinv9 hclo hwant hns;go_enter Tryz.func18,Tryz.ntmps18
 go_upto_region 1 with fail
 have hb1:=aj (w:=W) (A:=.cells #[.bool bv,.int .u32 id,.slice fo fn fc] 37);have HO:=hJ (nZ W (.cells #[.bool bv,.int .u32 id,.slice fo fn fc] 37));have HZ1:=hJ (show (W.alloc (.cells #[.bool bv,.int .u32 id,.slice fo fn fc] 37)).heap.size=W.heap.size+1 by simp);generalize W.alloc (.cells #[.bool bv,.int .u32 id,.slice fo fn fc] 37)=w1 at hb1 HO HZ1 ⊢;have HB1:=hJ hb1;have HX1:=hJ (ah HD.out.box hb1);clear hb1
 go_upto_region 2 with (first
  | (refine dC rfl 46 (.tmp 13) rfl Wb 26 rfl 51 (aU (au (dd:Int) tt ss bk rm kf bf) (ae B S C (m:Int) L) (.pointer (some ⟨mb,0,none⟩)) (aO (.slice og 1 gc) x) (aH (.slice (some ⟨gz,0,none⟩) n n) (.slice og2 1 gc2) x)) (aO (.slice og 1 gc) x) (0,0) _ HX1.out (lD rfl rfl) Tryz.underlying46 rfl (aK _ _) ?_)
  | (refine zZ rfl 46 (.tmp 5) (.tmp 14) rfl w1.heap.size (aO (.slice og 1 gc) x) rfl rfl 46 (aO (.slice none 0 0) aJ) (ed w1 _ _) (aK _ _) rfl (dL _ _ _ _) ?_;obtain⟨w2,hw2⟩:∃ w2,w2=((w1.alloc (.cells (aO (.slice none 0 0) aJ) 46)).alloc (.cells #[.int .i64 0] 52)).setRow w1.heap.size (aO (.slice og 1 gc) x):=⟨_,rfl⟩;rw[show ((w1.alloc (.cells #[.slice none 0 0,.int .i64 0,.int .u32 0,.int .i64 0,.int .i64 0,.int .i64 0,.int .i64 0,.int .i64 0,.int .i64 0] 46)).alloc (.cells #[.int .i64 0] 52)).setRow w1.heap.size (aO (.slice og 1 gc) x)=w2 from hw2.symm];have HE2:=hJ (show w2.heap[w1.heap.size+1]?=some (.cells #[.int .i64 0] 52 (0,0)) by(rw[hw2];exact(qZ _ _ _ _ oZ).trans (eO w1 _ _)));have HW2:=hJ (show w2.heap[w1.heap.size]?=some (.cells (aO (.slice og 1 gc) x) 46 (0,0)) by(rw[hw2];exact setRow_heap _ _ _ _ _ _ (ed w1 _ _)));have HB2:=hJ (show Below w1.heap.size w1 w2 by(rw[hw2];exact below_setRow dh (Nat.le_refl _) _));have qe:=aa HE2.out 0;have fe:=free_at HE2.out 0;clear hw2)
  | fail)
 have HB3:=hJ (dD HB2.out (show w1.heap.size<=w1.heap.size+1 by omega) 0 (.int .i64 0));have HW3:=hJ ((Below.heap_setCell w2 ⟨w1.heap.size+1,0,none⟩ (.int .i64 0) w1.heap.size (show w1.heap.size≠w1.heap.size+1 by omega)).trans HW2.out);have HE3:=hJ (show (w2.setCell ⟨w1.heap.size+1,0,none⟩ (.int .i64 0)).heap[w1.heap.size+1]?=some (.cells #[.int .i64 0] 52 (0,0)) by rw[heap_setCell_same _ _ _ _ _ _ HE2.out];rfl);generalize w2.setCell ⟨w1.heap.size+1,0,none⟩ (.int .i64 0)=w3 at HB3 HW3 HE3 ⊢;clear qe fe HB2 HW2 HE2;obtain⟨wb,hwb⟩:∃ wb,w1.heap.size=wb:=⟨_,rfl⟩;rw[hwb] at HW3 HE3 HZ1 ⊢;have HWB:=hJ hwb;clear hwb HX1;have HO3:=hJ (ah HO.out HB3.out);have HBW3:=hJ (ag HB1.out HB3.out);have HX3:=hJ (ah HD.out.box HBW3.out)
 go_wp2_with (first
  | (refine yZ rfl 37 (.tmp 3) rfl W.heap.size rfl 37 #[.bool bv,.int .u32 id,.slice fo fn fc] (0,0) _ HO3.out Tryz.underlying37 rfl (l8 _ _ _) ?_)
  | fail)
 refine(qD w3 (dd:Int) tt ss bk rm kf bf (ae B S C (m:Int) L) (aH (.slice (some ⟨gz,0,none⟩) n n) (.slice og2 1 gc2) x) rfl (.pointer (some ⟨mb,0,none⟩)) (.slice og 1 gc) rfl x Wb wb (wb+1) bv id (.slice fo fn fc) HX3.out).mono ?_;rintro e w4 ⟨rfl,hb4,hpi,hlt4⟩;have HB4:=hJ hb4;have HPI:=hJ hpi;have HLt4:=hJ hlt4;have HX4:=hJ (ah HX3.out hb4);have cm:w4.cell? ⟨Wb,25,none⟩=some (.pointer (some ⟨mb,0,none⟩)):=(aa HX4.out 25).trans (jW rfl rfl);clear hb4 hpi hlt4;go_wp2_with fail
 refine(EZ _ mb).mono ?_;rintro e w5 ⟨rfl,hr,hb⟩;have hdd:=HD.out;obtain⟨v1,v2,v3,v4,v5,v6,v7,v8⟩:=hdd.inv.bounds;have hsl:df B dd=B 5+1+4*(dd:Int):=rfl;have hc5:=HK.out.c5;have hnd:=hdd.inv.nd_;have hd64:=hdd.inv.hdd;have hmbW:=lt_of_heap hdd.mem.rec_;have hcbW:=lt_of_heap hdd.mem.row;have hWbW:=lt_of_heap hdd.box;have hgzW:=hdd.row.lt;have hz1:=HZ1.out;have hwb3:=lt_of_heap HE3.out;have hlt4:=HLt4.out;have hs3:=HBW3.out.size
 have hWm:Wb≠mb:=by
  rintro rfl;have h9:=hdd.box.symm.trans hdd.mem.rec_;injection h9 with h9
  injection h9 with _ h9 _
  exact absurd h9 dZ
 have hWc:Wb≠cb:=by
  rintro rfl;have h9:=hdd.box.symm.trans hdd.mem.row;injection h9 with h9
  injection h9 with _ h9 _
  exact absurd h9 dZ
 have hgm:gz≠mb:=hdd.row.ne hdd.mem.rec_ dZ;have HBW4:=hJ (ag HBW3.out HB4.out);have HM4:=hJ (hdd.mem.below HBW4.out);have HW4:=hJ (ah HW3.out HB4.out);have HE4:=hJ (ah HE3.out HB4.out);have HS4:=hJ (show bn w4 W0.heap.size (.slice og 1 gc) x.aC from ak hdd.aC HBW4.out);have HS42:=hJ (show bn w4 W0.heap.size (.slice og2 1 gc2) x.aC from ak hdd.segs2 HBW4.out);have HZ4:=hJ (hdd.row.below HBW4.out);have HSt:=hJ (show ∀ wr,Left w4 mb cb wb (wb+1) wr->∀ k,k<W.heap.size->k≠mb->k≠cb->wr.heap[k]?=W.heap[k]? from fun wr hL k hk e1 e2=>(hL k (by have:=HBW4.out.size;omega) e1 e2 oZ oZ).trans (HBW4.out.block k hk));have HC:=hJ (HCl.out w4 w3.heap.size wb oZ oZ hlt4 HBW4.out HW4.out HE4.out HPI.out);have HG:=hJ (pQ.new (rb:=w4.heap.size) (S:=CS w4 mb cb) (I:=CI w4 mb cb wb (wb+1)) (w0:=w4) HM4.out hdd.l0 hdd.s0 hdd.inv.ws.cu HDo.out HNs.out hb hr (HC.out.o7 w4 w5 ⟨fun _ _ _ _ _ _=>rfl,Nat.le_refl _,⟨_,HW4.out,rfl⟩,⟨_,HE4.out⟩⟩ hb.size fun k hk hl=>hb.block k hl) rfl);have HNum:=hJ (And.intro hmbW (And.intro hcbW (And.intro hWbW (And.intro hgzW (And.intro hz1 (And.intro hwb3 (And.intro hlt4 (And.intro hs3 (And.intro hWm (And.intro hWc hgm))))))))));have HCS:=hJ (show ∀ k,CS w4 mb cb k->k<w4.heap.size/\k≠mb/\k≠cb from fun k hk=>hk);have HT1:=hJ (show l+s+(q:Int)+1<=((200000000:Nat):Int) by omega);clear hb hr cm hdd v1 v2 v3 v4 v5 v6 v7 v8 hsl hc5 hnd hd64 hmbW hcbW hWbW hgzW hz1 hwb3 hlt4 hs3 hWm hWc hgm;go_wp2_with fail
 go_loopw [23] (fun iv wr=>∃ i:Nat,i<=q/\iv=.int .i64 i/\pQ w4 w4.heap.size mb cb (CS w4 mb cb) (CI w4 mb cb wb (wb+1)) p y cs' (l+s+q) q i (e0≠0) s wr) (fun iv _=>1048576-(intOf iv).toNat)
 case atStart=>exact⟨0,oZ,rfl,HG.out⟩
 case round =>
  clear HG;obtain⟨i,hi,rfl,hg⟩:=hrel;have hlt:(i:Int)<1048576:=oZ;have HKs:=hJ (hg.Mr (Nat.le_refl _) HC.out HCS.out oZ HT1.out);clear hg;go_wp2_with fail
  refine HKs.out.mono ?_;clear HKs;rintro e w6 (⟨rfl,hf,hkn,cap,go',log,at_,ma,off,hr⟩ | ⟨rfl,hg,hin⟩)
  ·have HF:=hJ hf;have HR:=hJ hr;obtain⟨n1,n2,n3,n4,n5,n6,n7,n8,n9,n10,n11⟩:=HNum.out;have hleft:=hf.inv.left;have HO6:=hJ ((hleft W.heap.size oZ oZ oZ oZ oZ).trans (ah HO3.out HB4.out));have HX6:=hJ ((hleft Wb oZ n9 n10 oZ oZ).trans HX4.out);have HZ6:=hJ (HZ4.out.of_block (hleft gz oZ n11 HD.out.zc oZ oZ));have HS6:=hJ (HS42.out.left hleft HM4.out.rec_ HM4.out.row HW4.out HE4.out);have HS16:=hJ (HS4.out.left hleft HM4.out.rec_ HM4.out.row HW4.out HE4.out);obtain⟨so,sn,sc,y9,p1,p2,p3,p4,p5⟩:=hf.post;rw[HY.out.1] at p2 p5;have HP1:=hJ p1;have HP2:=hJ p2;have HP3:=hJ (And.intro p3 (And.intro p4 p5));clear hf hr hleft p1 p2 p3 p4 p5 n1 n2 n3 n4 n5 n6 n7 n8 n9 n10 n11
   go_wp2_with (first
    | (refine yZ rfl 37 (.tmp 3) rfl W.heap.size rfl 37 #[.bool bv,.int .u32 id,.slice fo fn fc] (0,0) _ HO6.out Tryz.underlying37 rfl (l8 _ _ _) ?_)
    | fail)
   refine(HWa.out w6 (HSt.out w6 HF.out.inv.left) (HZ6.out.read HD.out.inv.ws.cu) HS6.out.reads HX6.out).mono ?_;rintro e w7 ⟨vc,vs,rfl,hb7,hout⟩;have HB67:=hJ hb7;obtain⟨n1,n2,n3,n4,n5,n6,n7,n8,n9,n10,n11⟩:=HNum.out;have k1:=HF.out.mod.size;have k2:=HBW4.out.size;have k3:=HD.out.low.size;have k4:=HD.out.oldm;have k5:=HD.out.oldc;have hLow6:Below W0.heap.size W0 w6:=⟨HF.out.mod.os.trans (HBW4.out.os.trans HD.out.low.os),HF.out.mod.tape.trans (HBW4.out.tape.trans HD.out.low.tape),HF.out.mod.output.trans (HBW4.out.output.trans HD.out.low.output),oZ,fun k hk=>(HF.out.inv.left k oZ oZ oZ oZ oZ).trans ((HBW4.out.block k oZ).trans (HD.out.low.block k hk))⟩;have HFr6:=hJ (fun(k:Nat) (hk:k<W.heap.size) (a:k≠mb) (b:k≠cb)=>(HF.out.inv.left k oZ a b oZ oZ).trans (HBW4.out.block k hk));obtain⟨l',s',hm6,hl',hs',hsum⟩:=HF.out.mem;have HSs:=hJ (show e0≠0->s'=s from fun h=>Mg hm6 (hkn h).choose_spec);clear hkn;have hcb6:=lt_of_heap hm6.row;clear k4 k5;rcases hout with hA | hA
   ·obtain⟨he,hvc,hvs,hcs,hx⟩:=hA;subst hvc hvs;have hcs:=hcs.symm;have hx:=hx.symm;subst hcs hx;have hz7:=HZ6.out.below hb7;have hs7:bn w7 W0.heap.size (.slice og2 1 gc2) x.aC:=ak HS6.out hb7;have hs17:bn w7 W0.heap.size (.slice og 1 gc) x.aC:=ak HS16.out hb7;have hzc:=HD.out.zc;have hd1:decide (e0=0)=false:=decide_eq_false he;have hd2:(e0==0)=false:=by simp[he]
    have HZ7:=hJ hz7;have HS7:=hJ hs7;have HS17:=hJ hs17;have HZC:=hJ hzc;clear hz7 hs7 hs17 hzc hb7;have HTW0:=hJ (show w7.heap.size≠Wb by have:=HB67.out.size;omega);clear n1 n2 n3 n4 n5 n6 n7 n8 n9 n10 n11 k1 k2 k3 hcb6
    go_upto_region 9 with (first
     | (refine zZ rfl 49 (.tmp 10) (.tmp 34) rfl w7.heap.size (aH (.slice (some ⟨gz,0,none⟩) n n) (.slice og2 1 gc2) x) rfl rfl 49 cK (nZ w7 _) (aG _ _ _) rfl cZ ?_)
     | fail)
    rw[World.setRow_alloc_new];have hb8:=aj (w:=w7) (A:=.cells (aH (.slice (some ⟨gz,0,none⟩) n n) (.slice og2 1 gc2) x) 49);have HT8:=hJ (nZ w7 (.cells (aH (.slice (some ⟨gz,0,none⟩) n n) (.slice og2 1 gc2) x) 49));have HB78:=hJ (ag HB67.out hb8);have HZ8:=hJ (HZ7.out.below hb8);have HS8:=hJ (show bn (w7.alloc (.cells (aH (.slice (some ⟨gz,0,none⟩) n n) (.slice og2 1 gc2) x) 49)) W0.heap.size (.slice og2 1 gc2) x.aC from ak HS7.out hb8);have HS18:=hJ (show bn (w7.alloc (.cells (aH (.slice (some ⟨gz,0,none⟩) n n) (.slice og2 1 gc2) x) 49)) W0.heap.size (.slice og 1 gc) x.aC from ak HS17.out hb8);generalize w7.alloc (.cells (aH (.slice (some ⟨gz,0,none⟩) n n) (.slice og2 1 gc2) x) 49)=w8 at HT8 HB78 HZ8 HS8 HS18 ⊢;obtain⟨tb,htb⟩:∃ tb,w7.heap.size=tb:=⟨_,rfl⟩;rw[htb] at HT8 ⊢;have hTW:tb≠Wb:=by rw[<- htb];exact HTW0.out
    have HR8:=hJ (HR.out.below HB78.out);have HX8:=hJ (ah HX6.out HB78.out);have HW8:=hJ (ah HP1.out HB78.out);have qe:w8.cell? ⟨wb+1,0,none⟩=some (.int .i64 e0):=aa (ah HP2.out HB78.out) 0;have hLow8:=ag hLow6 HB78.out;have HFr8:=hJ (fun(k:Nat) (hk:k<W.heap.size) (a:k≠mb) (b:k≠cb)=>rJ hk (HFr6.out k hk a b) HB78.out);have HM8:=hJ (hm6.below HB78.out);clear htb hb8 hm6 hLow6
    go_upto_region 13 with (first
     | (go_at_call 29;refine(qI HR8.out).mono ?_;rintro e9 w9 ⟨rfl,rfl⟩)
     | (go_at_call 53;refine(IY HR8.out).mono ?_;rintro e9 w9 ⟨rfl,rfl⟩)
     | fail)
    have HX9:=hJ HX8.out;have HT9:=hJ HT8.out;have hLow9:=hLow8;have HOth9:∀ j,j≠Wb->w8.heap[j]?=w8.heap[j]?:=fun _ _=>rfl;clear qe
    go_upto_region 14 with (first
     | (refine yZ rfl 49 (.tmp 10) rfl tb rfl 49 (aH (.slice (some ⟨gz,0,none⟩) n n) (.slice og2 1 gc2) x) (0,0) _ HT9.out Tryz.underlying49 rfl (aG _ _ _) ?_)
     | (refine dw rfl 49 (.tmp 57) (.tmp 55) rfl Wb 35 (aH (.slice (some ⟨gz,0,none⟩) n n) (.slice og2 1 gc2) x) rfl rfl 51 (aU (au (dd:Int) tt ss bk rm kf bf) (ae B S C (m:Int) L) (.pointer (some ⟨mb,0,none⟩)) (aO (.slice og 1 gc) x) (aH (.slice (some ⟨gz,0,none⟩) n n) (.slice og2 1 gc2) x)) (aU (au (dd:Int) tt ss bk rm kf bf) (ae B S C (m:Int) L) (.pointer (some ⟨mb,0,none⟩)) (aO (.slice og 1 gc) x) (aH (.slice (some ⟨gz,0,none⟩) n n) (.slice og2 1 gc2) x)) HX9.out (Nat.le_of_ble_eq_true rfl) (aG _ _ _) cZ rfl ?_)
     | fail)
    have HX10:=hJ (setRow_heap w8 Wb _ (aU (au (dd:Int) tt ss bk rm kf bf) (ae B S C (m:Int) L) (.pointer (some ⟨mb,0,none⟩)) (aO (.slice og 1 gc) x) (aH (.slice (some ⟨gz,0,none⟩) n n) (.slice og2 1 gc2) x)) _ _ HX9.out);have hLow10:=below_setRow hLow9 HD.out.oldb (aU (au (dd:Int) tt ss bk rm kf bf) (ae B S C (m:Int) L) (.pointer (some ⟨mb,0,none⟩)) (aO (.slice og 1 gc) x) (aH (.slice (some ⟨gz,0,none⟩) n n) (.slice og2 1 gc2) x));have HOth:∀ j,j≠Wb->(w8.setRow Wb (aU (au (dd:Int) tt ss bk rm kf bf) (ae B S C (m:Int) L) (.pointer (some ⟨mb,0,none⟩)) (aO (.slice og 1 gc) x) (aH (.slice (some ⟨gz,0,none⟩) n n) (.slice og2 1 gc2) x))).heap[j]?=w8.heap[j]?:=fun j hj=>(qZ _ _ _ _ hj).trans (HOth9 j hj);generalize w8.setRow Wb (aU (au (dd:Int) tt ss bk rm kf bf) (ae B S C (m:Int) L) (.pointer (some ⟨mb,0,none⟩)) (aO (.slice og 1 gc) x) (aH (.slice (some ⟨gz,0,none⟩) n n) (.slice og2 1 gc2) x))=w10 at HX10 hLow10 HOth ⊢;obtain⟨n1,n2,n3,n4,n5,n6,n7,n8,n9,n10,n11⟩:=HNum.out;have HM10:=hJ (HM8.out.dJ (HOth mb (Ne.symm n9)) (HOth cb (Ne.symm n10)));have HZ10:=hJ (HZ8.out.of_block (HOth gz (HZ8.out.ne HX8.out dZ)));have HS10:=hJ (bn.keep HS8.out HX8.out dZ (fun j hj=>HOth j hj));have HS110:=hJ (bn.keep HS18.out HX8.out dZ (fun j hj=>HOth j hj));have HLow10:=hJ hLow10;have hlen:cs.length=n:=H9.out.1;have hbn:=H9.out.2.bounds
    have hn65:n<=65536:=by
     obtain⟨b1,b2,b3,b4,b5,b6,b7,b8⟩:=hbn;rw[hlen] at b3;omega
    have hs1:x.aC.length=1:=by rw[H9.out.2.aC];rfl
    have HSM:=hJ (fun(wx:World) (hb:Below w10.heap.size w10 wx)=>sO wx og og2 1 gc gc2 x hs1 oZ (HS110.out.reads.below hb) (HS10.out.reads.below hb));have HCE:=hJ (fun(wx:World) (hb:Below w10.heap.size w10 wx)=>rR (HM10.out.below hb) (by rw[hlen];exact hn65));rw[hlen] at HCE;have HSA:=hJ (fun(wx:World) (p:Nat) (hb:Below w10.heap.size w10 wx) (h:wx.heap[p]?=some (.cells (cs.map (Value.int .u32)).toArray 32 (0,0)))=>same_eq wx p gz n cs 32 32 hlen.symm oZ h (HZ10.out.below hb).cells);have HFr:=hJ (fun(k:Nat) (hk:k<W.heap.size) (a:k≠mb) (b:k≠cb) (c:k≠Wb)=>(HOth k c).trans (HFr8.out k hk a b));clear hLow8 hLow9 hLow10 HOth HOth9 hbn hs1 hTW n1 n2 n3 n4 n5 n6 n7 n8 n9 n10 n11
    refine aI (fun(p:Nat) jz=>[.pointer (some ⟨Wb,0,none⟩),.pointer (some ⟨Wb,0,none⟩),.pointer (some ⟨Wb,26,none⟩),.agg (aO (.slice og 1 gc) x),.pointer (some ⟨Wb,0,none⟩),.pointer (some ⟨Wb,0,none⟩),.pointer (some ⟨Wb,35,none⟩),.pointer (some ⟨Wb,36,none⟩),.agg (aO (.slice og2 1 gc2) x),.bool true,.bool true,.pointer (some ⟨Wb,0,none⟩),.pointer (some ⟨Wb,0,none⟩),.pointer (some ⟨Wb,25,none⟩),.pointer (some ⟨mb,0,none⟩),.slice (some ⟨p,0,none⟩) n n,.pointer (some ⟨Wb,0,none⟩),.pointer (some ⟨Wb,0,none⟩),.pointer (some ⟨Wb,35,none⟩),.pointer (some ⟨Wb,35,none⟩),.slice (some ⟨gz,0,none⟩) n n,.bool true,.bool true,.bool true].getD jz undef)
     (fun p l9 wx=>Below w10.heap.size w10 wx/\(l9 15=true->wx.heap[p]?=some (.cells (cs.map (Value.int .u32)).toArray 32 (0,0))))
     kZ kZ pZ 0 ?_ ?_ ?_
    ·exact⟨(Below.refl _ _).drew,fun h=>jZ⟩
    ·intro i o ho p l9 wx hR hl he hcl K hK;rcases i with _|_|_|_|_|_|_|_|_|_|_|_|_|_|_|_|_|_|_|_|_|_|_|_|i
     any_goals first | (cases ho;go_simp;exact hK p wx (fun _ _=>rfl) hR;done) | fail
     ·cases ho;refine aR 46 (.tmp 60) rfl Wb 26 rfl 51 (aU (au (dd:Int) tt ss bk rm kf bf) (ae B S C (m:Int) L) (.pointer (some ⟨mb,0,none⟩)) (aO (.slice og 1 gc) x) (aH (.slice (some ⟨gz,0,none⟩) n n) (.slice og2 1 gc2) x)) (aO (.slice og 1 gc) x) (0,0) _ (ah HX10.out hR.1) (lD rfl rfl) Tryz.underlying46 rfl (aK _ _) ?_;exact hK p wx (fun _ _=>rfl) hR
     ·cases ho;refine aR 46 (.tmp 65) rfl Wb 36 rfl 51 (aU (au (dd:Int) tt ss bk rm kf bf) (ae B S C (m:Int) L) (.pointer (some ⟨mb,0,none⟩)) (aO (.slice og 1 gc) x) (aH (.slice (some ⟨gz,0,none⟩) n n) (.slice og2 1 gc2) x)) (aO (.slice og2 1 gc2) x) (0,0) _ (ah HX10.out hR.1) (KZ _ _ _ rfl rfl rfl) Tryz.underlying46 rfl (aK _ _) ?_;exact hK p wx (fun _ _=>rfl) hR
     ·cases ho;have HRr:=hJ hR;clear hR;go_simp;refine(HSM.out wx HRr.out.1).mono ?_;rintro e9 w9 ⟨rfl,hb9⟩;exact hK p w9 (fun _ _=>rfl) ⟨ag HRr.out.1 hb9,fun h=>ah (HRr.out.2 h) hb9⟩
     ·cases ho;have q:=(show wx.cell? ⟨Wb,25,none⟩=some (.pointer (some ⟨mb,0,none⟩)) from(aa (ah HX10.out hR.1) 25).trans (jW rfl rfl));go_simp;exact hK p wx (fun _ _=>rfl) hR
     ·cases ho;have HRr:=hJ hR;clear hR;go_simp;refine(HCE.out wx HRr.out.1).mono ?_;rintro e9 w9 ⟨rfl,hr9,hb9⟩;refine hK wx.heap.size w9 (fun j hj=>?_) ⟨ag HRr.out.1 hb9,fun _=>hr9⟩;rcases j with _|_|_|_|_|_|_|_|_|_|_|_|_|_|_|_|_|_|_|_|_|_|_|_|j
      all_goals first | rfl | (rw[hl] at hj;cases hj)
     ·cases ho;have q:=(show wx.cell? ⟨Wb,35,none⟩=some (.slice (some ⟨gz,0,none⟩) n n) from(aa (ah HX10.out hR.1) 35).trans (lG rfl rfl rfl 0 _ rfl));go_simp;exact hK p wx (fun _ _=>rfl) hR
     ·cases ho;have h15:l9 15=true:=he ⟨15,.data⟩ sZ rfl;have HRr:=hJ hR;have H15:=hJ h15;clear hR h15;go_simp;refine(HSA.out wx p HRr.out.1 (HRr.out.2 H15.out)).mono ?_;rintro e9 w9 ⟨rfl,hb9⟩;exact hK p w9 (fun _ _=>rfl) ⟨ag HRr.out.1 hb9,fun h=>ah (HRr.out.2 h) hb9⟩
     ·simp at ho
    ·intro p lz wx hl hR;have HRr:=hJ hR.1;clear hR hl;go_wp2_with fail
     go_ret;exact⟨rfl,l',s',og,og2,gc,gc2,gz,HSs.out,.inl rfl,oZ,⟨ah HX10.out HRr.out,HM10.out.below HRr.out,hl',hs',HZ10.out.below HRr.out,HZC.out,ak HS110.out HRr.out,ak HS10.out HRr.out,H9.out.2,hlen,ag HLow10.out HRr.out,HD.out.oldm,HD.out.oldc,HD.out.oldb⟩,fun k hk a b c=>rJ hk (HFr.out k hk a b c) HRr.out⟩
   ·obtain⟨he,g,hvc,hz7,hs7,hgo⟩:=hA;have HGn:=hJ (show W.heap.size<=g by omega);subst he hvc;obtain⟨ao,ac,hvs⟩:=jV hs7 1 (by rw[H9.out.2.aC];rfl);subst hvs;obtain⟨p3,p4,p5⟩:=HP3.out;obtain⟨r1,r2⟩:=p5 rfl;rw[HY.out.2 rfl] at r1 r2;have hsn:sn=1:=by rw[p4,<- r2,H9.out.2.aC];rfl
    subst hsn;rw[<- r1] at HP1;have hs7:=hs7.lower (a:=W0.heap.size) oZ
    have hs17:bn w7 W0.heap.size (.slice so 1 sc) x'.aC:=by
     rw[r2];rw[<- r2] at p3;rw[<- r2];exact ak (bn.lower p3 oZ) hb7
    have hzc:g≠cb:=oZ;clear p3 p4 p5 r1 r2 hgo;have HZ7:=hJ hz7;have HS7:=hJ hs7;have HS17:=hJ hs17;have HZC:=hJ hzc;clear hz7 hs7 hs17 hzc hb7;have HTW0:=hJ (show w7.heap.size≠Wb by have:=HB67.out.size;omega);clear n1 n2 n3 n4 n5 n6 n7 n8 n9 n10 n11 k1 k2 k3 hcb6
    go_upto_region 9 with (first
     | (refine zZ rfl 49 (.tmp 10) (.tmp 34) rfl w7.heap.size (aH (.slice (some ⟨g,0,none⟩) n n) (.slice ao 1 ac) x') rfl rfl 49 cK (nZ w7 _) (aG _ _ _) rfl cZ ?_)
     | fail)
    rw[World.setRow_alloc_new];have hb8:=aj (w:=w7) (A:=.cells (aH (.slice (some ⟨g,0,none⟩) n n) (.slice ao 1 ac) x') 49);have HT8:=hJ (nZ w7 (.cells (aH (.slice (some ⟨g,0,none⟩) n n) (.slice ao 1 ac) x') 49));have HB78:=hJ (ag HB67.out hb8);have HZ8:=hJ (HZ7.out.below hb8);have HS8:=hJ (show bn (w7.alloc (.cells (aH (.slice (some ⟨g,0,none⟩) n n) (.slice ao 1 ac) x') 49)) W0.heap.size (.slice ao 1 ac) x'.aC from ak HS7.out hb8);have HS18:=hJ (show bn (w7.alloc (.cells (aH (.slice (some ⟨g,0,none⟩) n n) (.slice ao 1 ac) x') 49)) W0.heap.size (.slice so 1 sc) x'.aC from ak HS17.out hb8);generalize w7.alloc (.cells (aH (.slice (some ⟨g,0,none⟩) n n) (.slice ao 1 ac) x') 49)=w8 at HT8 HB78 HZ8 HS8 HS18 ⊢;obtain⟨tb,htb⟩:∃ tb,w7.heap.size=tb:=⟨_,rfl⟩;rw[htb] at HT8 ⊢;have hTW:tb≠Wb:=by rw[<- htb];exact HTW0.out
    have HR8:=hJ (HR.out.below HB78.out);have HX8:=hJ (ah HX6.out HB78.out);have HW8:=hJ (ah HP1.out HB78.out);have qe:w8.cell? ⟨wb+1,0,none⟩=some (.int .i64 0):=aa (ah HP2.out HB78.out) 0;have hLow8:=ag hLow6 HB78.out;have HFr8:=hJ (fun(k:Nat) (hk:k<W.heap.size) (a:k≠mb) (b:k≠cb)=>rJ hk (HFr6.out k hk a b) HB78.out);have HM8:=hJ (hm6.below HB78.out);clear htb hb8 hm6 hLow6
    go_upto_region 13 with (first
     | (go_at_call 29;refine(qI HR8.out).mono ?_;rintro e9 w9 ⟨rfl,rfl⟩)
     | (go_at_call 53;refine(IY HR8.out).mono ?_;rintro e9 w9 ⟨rfl,rfl⟩)
     | (refine yZ rfl 46 (.tmp 5) rfl wb rfl 46 (aO (.slice so 1 sc) x') (0,0) _ HW8.out Tryz.underlying46 rfl (aK _ _) ?_)
     | (refine dw rfl 46 (.tmp 53) (.tmp 51) rfl Wb 26 (aO (.slice so 1 sc) x') rfl rfl 51 (aU (au (dd:Int) tt ss bk rm kf bf) (ae B S C (m:Int) L) (.pointer (some ⟨mb,0,none⟩)) (aO (.slice og 1 gc) x) (aH (.slice (some ⟨gz,0,none⟩) n n) (.slice og2 1 gc2) x)) (aU (au (dd:Int) tt ss bk rm kf bf) (ae B S C (m:Int) L) (.pointer (some ⟨mb,0,none⟩)) (aO (.slice so 1 sc) x') (aH (.slice (some ⟨gz,0,none⟩) n n) (.slice og2 1 gc2) x)) HX8.out (Nat.le_of_ble_eq_true rfl) (aK _ _) (dL _ _ _ _) rfl ?_)
     | fail)
    have HX9:=hJ (setRow_heap w8 Wb _ (aU (au (dd:Int) tt ss bk rm kf bf) (ae B S C (m:Int) L) (.pointer (some ⟨mb,0,none⟩)) (aO (.slice so 1 sc) x') (aH (.slice (some ⟨gz,0,none⟩) n n) (.slice og2 1 gc2) x)) _ _ HX8.out);have hLow9:=below_setRow hLow8 HD.out.oldb (aU (au (dd:Int) tt ss bk rm kf bf) (ae B S C (m:Int) L) (.pointer (some ⟨mb,0,none⟩)) (aO (.slice so 1 sc) x') (aH (.slice (some ⟨gz,0,none⟩) n n) (.slice og2 1 gc2) x));have HOth9:∀ j,j≠Wb->(w8.setRow Wb (aU (au (dd:Int) tt ss bk rm kf bf) (ae B S C (m:Int) L) (.pointer (some ⟨mb,0,none⟩)) (aO (.slice so 1 sc) x') (aH (.slice (some ⟨gz,0,none⟩) n n) (.slice og2 1 gc2) x))).heap[j]?=w8.heap[j]?:=fun j hj=>qZ _ _ _ _ hj;have HT9:=hJ ((HOth9 tb hTW).trans HT8.out);clear qe;generalize w8.setRow Wb (aU (au (dd:Int) tt ss bk rm kf bf) (ae B S C (m:Int) L) (.pointer (some ⟨mb,0,none⟩)) (aO (.slice so 1 sc) x') (aH (.slice (some ⟨gz,0,none⟩) n n) (.slice og2 1 gc2) x))=w9 at HX9 hLow9 HOth9 HT9 ⊢
    go_upto_region 14 with (first
     | (refine yZ rfl 49 (.tmp 10) rfl tb rfl 49 (aH (.slice (some ⟨g,0,none⟩) n n) (.slice ao 1 ac) x') (0,0) _ HT9.out Tryz.underlying49 rfl (aG _ _ _) ?_)
     | (refine dw rfl 49 (.tmp 57) (.tmp 55) rfl Wb 35 (aH (.slice (some ⟨g,0,none⟩) n n) (.slice ao 1 ac) x') rfl rfl 51 (aU (au (dd:Int) tt ss bk rm kf bf) (ae B S C (m:Int) L) (.pointer (some ⟨mb,0,none⟩)) (aO (.slice so 1 sc) x') (aH (.slice (some ⟨gz,0,none⟩) n n) (.slice og2 1 gc2) x)) (aU (au (dd:Int) tt ss bk rm kf bf) (ae B S C (m:Int) L) (.pointer (some ⟨mb,0,none⟩)) (aO (.slice so 1 sc) x') (aH (.slice (some ⟨g,0,none⟩) n n) (.slice ao 1 ac) x')) HX9.out (Nat.le_of_ble_eq_true rfl) (aG _ _ _) cZ rfl ?_)
     | fail)
    have HX10:=hJ (setRow_heap w9 Wb _ (aU (au (dd:Int) tt ss bk rm kf bf) (ae B S C (m:Int) L) (.pointer (some ⟨mb,0,none⟩)) (aO (.slice so 1 sc) x') (aH (.slice (some ⟨g,0,none⟩) n n) (.slice ao 1 ac) x')) _ _ HX9.out);have hLow10:=below_setRow hLow9 HD.out.oldb (aU (au (dd:Int) tt ss bk rm kf bf) (ae B S C (m:Int) L) (.pointer (some ⟨mb,0,none⟩)) (aO (.slice so 1 sc) x') (aH (.slice (some ⟨g,0,none⟩) n n) (.slice ao 1 ac) x'));have HOth:∀ j,j≠Wb->(w9.setRow Wb (aU (au (dd:Int) tt ss bk rm kf bf) (ae B S C (m:Int) L) (.pointer (some ⟨mb,0,none⟩)) (aO (.slice so 1 sc) x') (aH (.slice (some ⟨g,0,none⟩) n n) (.slice ao 1 ac) x'))).heap[j]?=w8.heap[j]?:=fun j hj=>(qZ _ _ _ _ hj).trans (HOth9 j hj);generalize w9.setRow Wb (aU (au (dd:Int) tt ss bk rm kf bf) (ae B S C (m:Int) L) (.pointer (some ⟨mb,0,none⟩)) (aO (.slice so 1 sc) x') (aH (.slice (some ⟨g,0,none⟩) n n) (.slice ao 1 ac) x'))=w10 at HX10 hLow10 HOth ⊢;obtain⟨n1,n2,n3,n4,n5,n6,n7,n8,n9,n10,n11⟩:=HNum.out;have HM10:=hJ (HM8.out.dJ (HOth mb (Ne.symm n9)) (HOth cb (Ne.symm n10)));have HZ10:=hJ (HZ8.out.of_block (HOth g (HZ8.out.ne HX8.out dZ)));have HS10:=hJ (bn.keep HS8.out HX8.out dZ (fun j hj=>HOth j hj));have HS110:=hJ (bn.keep HS18.out HX8.out dZ (fun j hj=>HOth j hj));have HLow10:=hJ hLow10;have hlen:cs'.length=n:=H9.out.1;have hbn:=H9.out.2.bounds
    have hn65:n<=65536:=by
     obtain⟨b1,b2,b3,b4,b5,b6,b7,b8⟩:=hbn;rw[hlen] at b3;omega
    have hs1:x'.aC.length=1:=by rw[H9.out.2.aC];rfl
    have HSM:=hJ (fun(wx:World) (hb:Below w10.heap.size w10 wx)=>sO wx so ao 1 sc ac x' hs1 oZ (HS110.out.reads.below hb) (HS10.out.reads.below hb));have HCE:=hJ (fun(wx:World) (hb:Below w10.heap.size w10 wx)=>rR (HM10.out.below hb) (by rw[hlen];exact hn65));rw[hlen] at HCE;have HSA:=hJ (fun(wx:World) (p:Nat) (hb:Below w10.heap.size w10 wx) (h:wx.heap[p]?=some (.cells (cs'.map (Value.int .u32)).toArray 32 (0,0)))=>same_eq wx p g n cs' 32 32 hlen.symm oZ h (HZ10.out.below hb).cells);have HFr:=hJ (fun(k:Nat) (hk:k<W.heap.size) (a:k≠mb) (b:k≠cb) (c:k≠Wb)=>(HOth k c).trans (HFr8.out k hk a b));clear hLow8 hLow9 hLow10 HOth HOth9 hbn hs1 hTW n1 n2 n3 n4 n5 n6 n7 n8 n9 n10 n11
    refine aI (fun(p:Nat) jz=>[.pointer (some ⟨Wb,0,none⟩),.pointer (some ⟨Wb,0,none⟩),.pointer (some ⟨Wb,26,none⟩),.agg (aO (.slice so 1 sc) x'),.pointer (some ⟨Wb,0,none⟩),.pointer (some ⟨Wb,0,none⟩),.pointer (some ⟨Wb,35,none⟩),.pointer (some ⟨Wb,36,none⟩),.agg (aO (.slice ao 1 ac) x'),.bool true,.bool true,.pointer (some ⟨Wb,0,none⟩),.pointer (some ⟨Wb,0,none⟩),.pointer (some ⟨Wb,25,none⟩),.pointer (some ⟨mb,0,none⟩),.slice (some ⟨p,0,none⟩) n n,.pointer (some ⟨Wb,0,none⟩),.pointer (some ⟨Wb,0,none⟩),.pointer (some ⟨Wb,35,none⟩),.pointer (some ⟨Wb,35,none⟩),.slice (some ⟨g,0,none⟩) n n,.bool true,.bool true,.bool true].getD jz undef)
     (fun p l9 wx=>Below w10.heap.size w10 wx/\(l9 15=true->wx.heap[p]?=some (.cells (cs'.map (Value.int .u32)).toArray 32 (0,0))))
     kZ kZ pZ 0 ?_ ?_ ?_
    ·exact⟨(Below.refl _ _).drew,fun h=>jZ⟩
    ·intro i o ho p l9 wx hR hl he hcl K hK;rcases i with _|_|_|_|_|_|_|_|_|_|_|_|_|_|_|_|_|_|_|_|_|_|_|_|i
     any_goals first | (cases ho;go_simp;exact hK p wx (fun _ _=>rfl) hR;done) | fail
     ·cases ho;refine aR 46 (.tmp 60) rfl Wb 26 rfl 51 (aU (au (dd:Int) tt ss bk rm kf bf) (ae B S C (m:Int) L) (.pointer (some ⟨mb,0,none⟩)) (aO (.slice so 1 sc) x') (aH (.slice (some ⟨g,0,none⟩) n n) (.slice ao 1 ac) x')) (aO (.slice so 1 sc) x') (0,0) _ (ah HX10.out hR.1) (lD rfl rfl) Tryz.underlying46 rfl (aK _ _) ?_;exact hK p wx (fun _ _=>rfl) hR
     ·cases ho;refine aR 46 (.tmp 65) rfl Wb 36 rfl 51 (aU (au (dd:Int) tt ss bk rm kf bf) (ae B S C (m:Int) L) (.pointer (some ⟨mb,0,none⟩)) (aO (.slice so 1 sc) x') (aH (.slice (some ⟨g,0,none⟩) n n) (.slice ao 1 ac) x')) (aO (.slice ao 1 ac) x') (0,0) _ (ah HX10.out hR.1) (KZ _ _ _ rfl rfl rfl) Tryz.underlying46 rfl (aK _ _) ?_;exact hK p wx (fun _ _=>rfl) hR
     ·cases ho;have HRr:=hJ hR;clear hR;go_simp;refine(HSM.out wx HRr.out.1).mono ?_;rintro e9 w9 ⟨rfl,hb9⟩;exact hK p w9 (fun _ _=>rfl) ⟨ag HRr.out.1 hb9,fun h=>ah (HRr.out.2 h) hb9⟩
     ·cases ho;have q:=(show wx.cell? ⟨Wb,25,none⟩=some (.pointer (some ⟨mb,0,none⟩)) from(aa (ah HX10.out hR.1) 25).trans (jW rfl rfl));go_simp;exact hK p wx (fun _ _=>rfl) hR
     ·cases ho;have HRr:=hJ hR;clear hR;go_simp;refine(HCE.out wx HRr.out.1).mono ?_;rintro e9 w9 ⟨rfl,hr9,hb9⟩;refine hK wx.heap.size w9 (fun j hj=>?_) ⟨ag HRr.out.1 hb9,fun _=>hr9⟩;rcases j with _|_|_|_|_|_|_|_|_|_|_|_|_|_|_|_|_|_|_|_|_|_|_|_|j
      all_goals first | rfl | (rw[hl] at hj;cases hj)
     ·cases ho;have q:=(show wx.cell? ⟨Wb,35,none⟩=some (.slice (some ⟨g,0,none⟩) n n) from(aa (ah HX10.out hR.1) 35).trans (lG rfl rfl rfl 0 _ rfl));go_simp;exact hK p wx (fun _ _=>rfl) hR
     ·cases ho;have h15:l9 15=true:=he ⟨15,.data⟩ sZ rfl;have HRr:=hJ hR;have H15:=hJ h15;clear hR h15;go_simp;refine(HSA.out wx p HRr.out.1 (HRr.out.2 H15.out)).mono ?_;rintro e9 w9 ⟨rfl,hb9⟩;exact hK p w9 (fun _ _=>rfl) ⟨ag HRr.out.1 hb9,fun h=>ah (HRr.out.2 h) hb9⟩
     ·simp at ho
    ·intro p lz wx hl hR;have HRr:=hJ hR.1;clear hR hl;go_wp2_with fail
     go_ret;exact⟨rfl,l',s',so,ao,sc,ac,g,HSs.out,.inr HGn.out,oZ,⟨ah HX10.out HRr.out,HM10.out.below HRr.out,hl',hs',HZ10.out.below HRr.out,HZC.out,ak HS110.out HRr.out,ak HS10.out HRr.out,H9.out.2,hlen,ag HLow10.out HRr.out,HD.out.oldm,HD.out.oldc,HD.out.oldb⟩,fun k hk a b c=>rJ hk (HFr.out k hk a b c) HRr.out⟩
  ·have HG:=hJ hg;clear hg;go_wp2_with fail
   go_roundw
   case rel=>exact⟨i+1,oZ,by go_num,HG.out⟩
   case measure=>simp[intOf];omega
theorem BC {W0 W:World} {Wb mb cb dd:Nat} {tt:Int} {ss:Nat->Int} {bk rm:Int} {kf bf:Nat} {B S:Nat->Int} {C L:Int} {m n nd:Nat} {cs:List Int} {x:Sx} {d:bK} {l s:Int} {og og2:Option Addr} {gc gc2 gz:Nat} (hK:KC dd tt ss bk rm B S C L m) (hW:DW W0 W Wb mb cb dd tt ss bk rm kf bf B S C L m n nd cs x d l s og og2 gc gc2 gz) (id:Int) (_hver:x.bT+1<=4294967295) (hls:l+s<=100000000) (fo:Option Addr) (fn fc:Nat) {e0:Int} {cs':List Int} {x':Sx} (hgood:kJ B S C m dd tt nd id cs x d e0 cs' x') (_hT:dE W0) :
  Calls Tryz.prog 18 #[.pointer (some ⟨Wb,0,none⟩),.agg #[.bool true,.int .u32 id,.slice fo fn fc]] W fun e W'=>e=.returned (.bool true)/\∃ l' s' og' og2' gc' gc2' gz',(e0≠0->s'=s)/\(gz'=gz∨W.heap.size<=gz')/\l'+s'<=l+s+500000/\DW W0 W' Wb mb cb dd tt ss bk rm kf bf B S C L m n nd cs' x' d l' s' og' og2' gc' gc2' gz'/\∀ k,k<W.heap.size->k≠mb->k≠cb->k≠Wb->W'.heap[k]?=W.heap[k]?:=by
 obtain⟨q,y,hq,hdo,hye,hyx,hns⟩:=hgood.quiet hW.inv;refine K6 hK hW true id hls fo fn fc (mE id x) q y hq hdo hye hyx hgood.len hgood.inv hns ?_ ?_
 ·intro w4 v wb hwb hwv hvl hb hw hE hpi;have hdd:=hW;obtain⟨v1,v2,v3,v4,v5,v6,v7,v8⟩:=hdd.inv.bounds;have hsl:df B dd=B 5+1+4*(dd:Int):=rfl;have hc5:=hK.c5;have hnd:=hdd.inv.nd_;have hd64:=hdd.inv.hdd;have hmbW:=lt_of_heap hdd.mem.rec_;have hcbW:=lt_of_heap hdd.mem.row;have hWbW:=lt_of_heap hdd.box;have hs3:=hb.size
  have hWm:Wb≠mb:=by
   rintro rfl;have h9:=hdd.box.symm.trans hdd.mem.rec_;injection h9 with h9
   injection h9 with _ h9 _
   exact absurd h9 dZ
  have hWc:Wb≠cb:=by
   rintro rfl;have h9:=hdd.box.symm.trans hdd.mem.row;injection h9 with h9
   injection h9 with _ h9 _
   exact absurd h9 dZ
  have hM4:=hdd.mem.below hb;have hS4:bn w4 W0.heap.size (.slice og 1 gc) x.aC:=ak hdd.aC hb
  exact Fb (W:=w4) (rb:=w4.heap.size) (mb:=mb) (cb:=cb) (Bd:=200000000) (dd:=dd) (tt:=tt) (ss:=ss) (bk:=bk) (rm:=rm) (kf:=kf) (bf:=bf) (a:=B 5) oZ oZ hdd.inv.aC oZ ⟨v7,v8⟩ id og gc oZ (Nat.le_refl _) (oc:=#[.bool true,.int .u32 id,.slice fo fn fc]) rfl rfl (fun wr hL=>(hS4.left hL hM4.rec_ hM4.row hw hE).reads) hpi (by
   intro k hk;simp only[List.mem_cons,List.not_mem_nil,or_false] at hk;rcases hk with rfl | rfl | rfl | rfl | rfl | rfl
   all_goals exact⟨oZ,oZ,oZ,oZ,oZ⟩) (show wb≠wb+1 by omega) ⟨oZ,oZ,oZ⟩ ⟨oZ,oZ,oZ⟩
 ·intro w6 hst hz hg hx;exact BM hW.inv hgood.out w6 (some ⟨gz,0,none⟩) n n hW.len hz og2 gc2 hg ss bk rm kf bf L fo fn fc (.pointer (some ⟨mb,0,none⟩)) (aO (.slice og 1 gc) x) rfl Wb hx
theorem FQ {W0 W:World} {Wb mb cb dd:Nat} {tt:Int} {ss:Nat->Int} {bk rm:Int} {kf bf:Nat} {B S:Nat->Int} {C L:Int} {m n nd:Nat} {cs:List Int} {x:Sx} {d:bK} {l s:Int} {og og2:Option Addr} {gc gc2 gz:Nat} (hK:KC dd tt ss bk rm B S C L m) (hW:DW W0 W Wb mb cb dd tt ss bk rm kf bf B S C L m n nd cs x d l s og og2 gc gc2 gz) (id:Int) (hver:x.bT+1<=4294967295) (hls:l+s<=100000000) (fo:Option Addr) (fn fc:Nat) {e0:Int} {cs':List Int} {x':Sx} (hgood:kJ B S C m dd tt nd id cs x d e0 cs' x') (hT:dE W0) :
  Calls Tryz.prog 18 #[.pointer (some ⟨Wb,0,none⟩),.agg #[.bool true,.int .u32 id,.slice fo fn fc]] W fun e W'=>e=.returned (.bool true)/\∃ l' s' og' og2' gc' gc2' gz',l'+s'<=l+s+500000/\DW W0 W' Wb mb cb dd tt ss bk rm kf bf B S C L m n nd cs' x' d l' s' og' og2' gc' gc2' gz'/\∀ k,k<W.heap.size->k≠mb->k≠cb->k≠Wb->W'.heap[k]?=W.heap[k]?:=by
 refine(BC hK hW id hver hls fo fn fc hgood hT).mono ?_;rintro e w' ⟨he,l',s',og',og2',gc',gc2',gz',_,_,h⟩;exact⟨he,l',s',og',og2',gc',gc2',gz',h⟩
theorem Mc {W0 W:World} {Wb mb cb dd:Nat} {tt:Int} {ss:Nat->Int} {bk rm:Int} {kf bf:Nat} {B S:Nat->Int} {C L:Int} {m n nd:Nat} {cs:List Int} {x:Sx} {d:bK} {l s:Int} {og og2:Option Addr} {gc gc2 gz:Nat} (hK:KC dd tt ss bk rm B S C L m) (hW:DW W0 W Wb mb cb dd tt ss bk rm kf bf B S C L m n nd cs x d l s og og2 gc gc2 gz) (id:Int) (hver:x.bT+1<=4294967295) (hls:l+s<=100000000) (fo:Option Addr) (fn fc:Nat) (hT:dE W0) :
  Calls Tryz.prog 18 #[.pointer (some ⟨Wb,0,none⟩),.agg #[.bool true,.int .u32 id,.slice fo fn fc]] W fun e W'=>e=.returned (.bool true)/\∃ e0 cs' x' l' s' og' og2' gc' gc2' gz',kJ B S C m dd tt nd id cs x d e0 cs' x'/\l'+s'<=l+s+500000/\DW W0 W' Wb mb cb dd tt ss bk rm kf bf B S C L m n nd cs' x' d l' s' og' og2' gc' gc2' gz'/\∀ k,k<W.heap.size->k≠mb->k≠cb->k≠Wb->W'.heap[k]?=W.heap[k]?:=by
 obtain⟨e0,cs',x',hgood⟩:=hW.inv.del id hver;refine(FQ hK hW id hver hls fo fn fc hgood hT).mono ?_;rintro e w' ⟨he,l',s',og',og2',gc',gc2',gz',h1,h2,h3⟩;exact⟨he,e0,cs',x',l',s',og',og2',gc',gc2',gz',hgood,h1,h2,h3⟩
theorem BS {W0 W:World} {Wb mb cb dd:Nat} {tt:Int} {ss:Nat->Int} {bk rm:Int} {kf bf:Nat} {B S:Nat->Int} {C L:Int} {m n nd:Nat} {cs:List Int} {x:Sx} {d:bK} {l s:Int} {og og2:Option Addr} {gc gc2 gz:Nat} (hK:KC dd tt ss bk rm B S C L m) (hW:DW W0 W Wb mb cb dd tt ss bk rm kf bf B S C L m n nd cs x d l s og og2 gc gc2 gz) (id:Int) (_hver:x.bT+1<=4294967295) (hls:l+s<=100000000) (fo:Option Addr) (F:List ByteArray) (fc:Nat) (hFs:∀ f∈F,f.size<=1000000) (hFn:F.length<=1000000) (hid:U id) {e0:Int} {cs':List Int} {x':Sx} {nd':Nat} {d':bK} (hgood:kL B S C m dd tt nd id F cs x d e0 cs' x' nd' d') (hT:∀ wr,(∀ k,k<W.heap.size->k≠mb->k≠cb->wr.heap[k]?=W.heap[k]?)->dE wr/\fU wr fo F) :
  Calls Tryz.prog 18 #[.pointer (some ⟨Wb,0,none⟩),.agg #[.bool false,.int .u32 id,.slice fo F.length fc]] W fun e W'=>e=.returned (.bool true)/\∃ l' s' og' og2' gc' gc2' gz',(e0≠0->s'=s)/\(gz'=gz∨W.heap.size<=gz')/\l'+s'<=l+s+500000/\DW W0 W' Wb mb cb dd tt ss bk rm kf bf B S C L m n nd' cs' x' d' l' s' og' og2' gc' gc2' gz'/\∀ k,k<W.heap.size->k≠mb->k≠cb->k≠Wb->W'.heap[k]?=W.heap[k]?:=by
 obtain⟨q,y,hq,hdo,hye,hyx,hns⟩:=hgood.quiet hW.inv;refine K6 hK hW false id hls fo F.length fc (jN B S m dd tt nd id F x) q y hq hdo hye hyx hgood.len hgood.inv hns ?_ ?_
 ·intro w4 v wb hwb hwv hvl hb hw hE hpi;have hdd:=hW;obtain⟨v1,v2,v3,v4,v5,v6,v7,v8⟩:=hdd.inv.bounds;have hsl:df B dd=B 5+1+4*(dd:Int):=rfl;have hc5:=hK.c5;have hnd:=hdd.inv.nd_;have hd64:=hdd.inv.hdd;have hmbW:=lt_of_heap hdd.mem.rec_;have hcbW:=lt_of_heap hdd.mem.row;have hWbW:=lt_of_heap hdd.box;have hs3:=hb.size
  have hWm:Wb≠mb:=by
   rintro rfl;have h9:=hdd.box.symm.trans hdd.mem.rec_;injection h9 with h9
   injection h9 with _ h9 _
   exact absurd h9 dZ
  have hWc:Wb≠cb:=by
   rintro rfl;have h9:=hdd.box.symm.trans hdd.mem.row;injection h9 with h9
   injection h9 with _ h9 _
   exact absurd h9 dZ
  have hM4:=hdd.mem.below hb;have hS4:bn w4 W0.heap.size (.slice og 1 gc) x.aC:=ak hdd.aC hb;have hSt:∀ wr,Left w4 mb cb wb (wb+1) wr->dE wr/\fU wr fo F:=fun wr hL=>hT wr fun k hk e1 e2=>(hL k oZ e1 e2 oZ oZ).trans (hb.block k hk)
  exact Eu (W:=w4) (rb:=w4.heap.size) (mb:=mb) (cb:=cb) (Bd:=200000000) (kf:=kf) (bf:=bf) hK.ok hK.pl hdd.inv.hL hK.lv oZ (by have:=hdd.inv.htt;have:=hdd.inv.many;omega) (by have:=hdd.inv.hm;omega) hdd.inv.hdd hdd.inv.aC hdd.inv.nd_ hdd.inv.ws.used ⟨v5,by have:=hdd.inv.many;have:=hdd.inv.htt;have:=hdd.inv.hm;omega⟩ ⟨v7,v8⟩ hid F fo fc hFs hFn og gc oZ (Nat.le_refl _) (oc:=#[.bool false,.int .u32 id,.slice fo F.length fc]) rfl (mR _ _ _) (fun wr hL=>⟨(hS4.left hL hM4.rec_ hM4.row hw hE).reads,(hSt wr hL).2,(hSt wr hL).1⟩) hpi (by
   intro k hk;simp only[List.mem_cons,List.not_mem_nil,or_false] at hk;rcases hk with rfl | rfl | rfl | rfl | rfl | rfl
   all_goals exact⟨oZ,oZ,oZ,oZ,oZ⟩) (show wb≠wb+1 by omega) ⟨oZ,oZ,oZ⟩ ⟨oZ,oZ,oZ⟩
 ·intro w6 hst hz hg hx;exact AO hW.inv hgood.out hid w6 (some ⟨gz,0,none⟩) n n hW.len hz og2 gc2 hg ss bk rm kf bf L fo F.length fc rfl (hT w6 hst).2 hFs hFn (.pointer (some ⟨mb,0,none⟩)) (aO (.slice og 1 gc) x) rfl Wb hx
theorem Gu {W0 W:World} {Wb mb cb dd:Nat} {tt:Int} {ss:Nat->Int} {bk rm:Int} {kf bf:Nat} {B S:Nat->Int} {C L:Int} {m n nd:Nat} {cs:List Int} {x:Sx} {d:bK} {l s:Int} {og og2:Option Addr} {gc gc2 gz:Nat} (hK:KC dd tt ss bk rm B S C L m) (hW:DW W0 W Wb mb cb dd tt ss bk rm kf bf B S C L m n nd cs x d l s og og2 gc gc2 gz) (id:Int) (hver:x.bT+1<=4294967295) (hls:l+s<=100000000) (fo:Option Addr) (F:List ByteArray) (fc:Nat) (hFs:∀ f∈F,f.size<=1000000) (hFn:F.length<=1000000) (hid:U id) {e0:Int} {cs':List Int} {x':Sx} {nd':Nat} {d':bK} (hgood:kL B S C m dd tt nd id F cs x d e0 cs' x' nd' d') (hT:∀ wr,(∀ k,k<W.heap.size->k≠mb->k≠cb->wr.heap[k]?=W.heap[k]?)->dE wr/\fU wr fo F) :
  Calls Tryz.prog 18 #[.pointer (some ⟨Wb,0,none⟩),.agg #[.bool false,.int .u32 id,.slice fo F.length fc]] W fun e W'=>e=.returned (.bool true)/\∃ l' s' og' og2' gc' gc2' gz',l'+s'<=l+s+500000/\DW W0 W' Wb mb cb dd tt ss bk rm kf bf B S C L m n nd' cs' x' d' l' s' og' og2' gc' gc2' gz'/\∀ k,k<W.heap.size->k≠mb->k≠cb->k≠Wb->W'.heap[k]?=W.heap[k]?:=by
 refine(BS hK hW id hver hls fo F fc hFs hFn hid hgood hT).mono ?_;rintro e w' ⟨he,l',s',og',og2',gc',gc2',gz',_,_,h⟩;exact⟨he,l',s',og',og2',gc',gc2',gz',h⟩
theorem Lm {W0 W:World} {Wb mb cb dd:Nat} {tt:Int} {ss:Nat->Int} {bk rm:Int} {kf bf:Nat} {B S:Nat->Int} {C L:Int} {m n nd:Nat} {cs:List Int} {x:Sx} {d:bK} {l s:Int} {og og2:Option Addr} {gc gc2 gz:Nat} (hK:KC dd tt ss bk rm B S C L m) (hW:DW W0 W Wb mb cb dd tt ss bk rm kf bf B S C L m n nd cs x d l s og og2 gc gc2 gz) (id:Int) (hver:x.bT+1<=4294967295) (hls:l+s<=100000000) (fo:Option Addr) (F:List ByteArray) (fc:Nat) (hFs:∀ f∈F,f.size<=1000000) (hFn:F.length<=1000000) (hid:U id) (hT:∀ wr,(∀ k,k<W.heap.size->k≠mb->k≠cb->wr.heap[k]?=W.heap[k]?)->dE wr/\fU wr fo F) :
  Calls Tryz.prog 18 #[.pointer (some ⟨Wb,0,none⟩),.agg #[.bool false,.int .u32 id,.slice fo F.length fc]] W fun e W'=>e=.returned (.bool true)/\∃ e0 cs' x' nd' d' l' s' og' og2' gc' gc2' gz',kL B S C m dd tt nd id F cs x d e0 cs' x' nd' d'/\l'+s'<=l+s+500000/\DW W0 W' Wb mb cb dd tt ss bk rm kf bf B S C L m n nd' cs' x' d' l' s' og' og2' gc' gc2' gz'/\∀ k,k<W.heap.size->k≠mb->k≠cb->k≠Wb->W'.heap[k]?=W.heap[k]?:=by
 obtain⟨e0,cs',x',nd',d',hgood⟩:=hW.inv.add id F hid hver;refine(Gu hK hW id hver hls fo F fc hFs hFn hid hgood hT).mono ?_;rintro e w' ⟨he,l',s',og',og2',gc',gc2',gz',h1,h2,h3⟩;exact⟨he,e0,cs',x',nd',d',l',s',og',og2',gc',gc2',gz',hgood,h1,h2,h3⟩
theorem GQ (w:World) (d t:Int) (ss:Nat->Int) (bk rm:Int) (kf bf:Nat) (h:¬ ek d t ss bk rm) :
  Calls Tryz.prog 14 #[.agg (au d t ss bk rm kf bf)] w fun e w'=>e=.returned (.tuple #[.pointer none,.bool true])/\Below w.heap.size w w':=by
 go_enter Tryz.func14,Tryz.ntmps14
 go_upto_region 1 with fail
 have HC0:=hJ (nZ w (.cells (au d t ss bk rm kf bf) 25));have HB0:=hJ (aj (w:=w) (A:=.cells (au d t ss bk rm kf bf) 25));generalize w.alloc (.cells (au d t ss bk rm kf bf) 25)=w0 at HC0 HB0 ⊢
 go_wp2_with (first
  | (refine yZ rfl 25 (.tmp 1) rfl w.heap.size rfl 25 (au d t ss bk rm kf bf) (0,0) _ HC0.out Tryz.underlying25 rfl (dQ _ _ _ _ _ _ _) ?_)
  | fail)
 refine(Cw w0 d t ss bk rm kf bf h).mono ?_;rintro e w1 ⟨rfl,hb⟩;have HC1:=hJ (ah HC0.out hb);have HB1:=hJ (ag HB0.out hb);clear hb
 go_upto_region 2 with (first
  | (refine zZ rfl 42 (.tmp 4) (.tmp 16) rfl w1.heap.size (ae (fun _=>0) (fun _=>0) 0 0 0) rfl rfl 42 (ae (fun _=>0) (fun _=>0) 0 0 0) (nZ w1 _) (ai _ _ _ _ _) rfl (by simp[ae,Value.oneCell']) ?_)
  | fail)
 rw[World.setRow_alloc_new];have HP2:=hJ (nZ w1 (.cells (ae (fun _=>0) (fun _=>0) 0 0 0) 42));have hb2:=aj (w:=w1) (A:=.cells (ae (fun _=>0) (fun _=>0) 0 0 0) 42);have HC2:=hJ (ah HC1.out hb2);have HB2:=hJ (ag HB1.out hb2);generalize w1.alloc (.cells (ae (fun _=>0) (fun _=>0) 0 0 0) 42)=w2 at HP2 HC2 HB2 ⊢;clear hb2;go_wp2_with fail
 go_ret2
 exact⟨rfl,HB2.out⟩
theorem Ay (w:World) (d t:Int) (ss:Nat->Int) (bk rm:Int) (kf bf:Nat) (h:ek d t ss bk rm) (hg:5000<aA (aB ss bk rm) 6) :
  Calls Tryz.prog 14 #[.agg (au d t ss bk rm kf bf)] w fun e w'=>e=.returned (.tuple #[.pointer none,.bool true])/\Below w.heap.size w w':=by
 go_enter Tryz.func14,Tryz.ntmps14
 go_upto_region 1 with fail
 have HC0:=hJ (nZ w (.cells (au d t ss bk rm kf bf) 25));have HB0:=hJ (aj (w:=w) (A:=.cells (au d t ss bk rm kf bf) 25));generalize w.alloc (.cells (au d t ss bk rm kf bf) 25)=w0 at HC0 HB0 ⊢
 go_wp2_with (first
  | (refine yZ rfl 25 (.tmp 1) rfl w.heap.size rfl 25 (au d t ss bk rm kf bf) (0,0) _ HC0.out Tryz.underlying25 rfl (dQ _ _ _ _ _ _ _) ?_)
  | fail)
 refine(j5 w0 d t ss bk rm kf bf h).mono ?_;rintro e w1 ⟨rfl,hb⟩;have HC1:=hJ (ah HC0.out hb);have HB1:=hJ (ag HB0.out hb);clear hb
 go_upto_region 2 with (first
  | (refine zZ rfl 42 (.tmp 4) (.tmp 16) rfl w1.heap.size (ae (aA (aB ss bk rm)) (aB ss bk rm) (aA (aB ss bk rm) 6) (slotsOf t) (bN d t)) rfl rfl 42 (ae (fun _=>0) (fun _=>0) 0 0 0) (nZ w1 _) (ai _ _ _ _ _) rfl (by simp[ae,Value.oneCell']) ?_)
  | fail)
 rw[World.setRow_alloc_new];have HP2:=hJ (nZ w1 (.cells (ae (aA (aB ss bk rm)) (aB ss bk rm) (aA (aB ss bk rm) 6) (slotsOf t) (bN d t)) 42));have hb2:=aj (w:=w1) (A:=.cells (ae (aA (aB ss bk rm)) (aB ss bk rm) (aA (aB ss bk rm) 6) (slotsOf t) (bN d t)) 42);have HC2:=hJ (ah HC1.out hb2);have HB2:=hJ (ag HB1.out hb2);generalize w1.alloc (.cells (ae (aA (aB ss bk rm)) (aB ss bk rm) (aA (aB ss bk rm) 6) (slotsOf t) (bN d t)) 42)=w2 at HP2 HC2 HB2 ⊢;clear hb2;have c12:w2.cell? ⟨w1.heap.size,12,none⟩=some (.int .i64 (aA (aB ss bk rm) 6)):=aa HP2.out 12;go_wp2_with fail
 go_ret2
 exact⟨rfl,HB2.out⟩
theorem CE (w:World) (d t:Int) (ss:Nat->Int) (bk rm:Int) (kf bf:Nat) {n an ln m dd:Nat} (h:ek d t ss bk rm) (hN:CN d t ss bk rm n an ln m dd) (hg:n<=5000) (hfull:aB ss bk rm 5<(ln:Int)+2) :
  Calls Tryz.prog 14 #[.agg (au d t ss bk rm kf bf)] w fun e w'=>e=.returned (.tuple #[.pointer none,.bool true])/\Below w.heap.size w w':=by
 go_enter Tryz.func14,Tryz.ntmps14
 go_upto_region 1 with fail
 have HC0:=hJ (nZ w (.cells (au d t ss bk rm kf bf) 25));have HB0:=hJ (aj (w:=w) (A:=.cells (au d t ss bk rm kf bf) 25));generalize w.alloc (.cells (au d t ss bk rm kf bf) 25)=w0 at HC0 HB0 ⊢
 go_wp2_with (first
  | (refine yZ rfl 25 (.tmp 1) rfl w.heap.size rfl 25 (au d t ss bk rm kf bf) (0,0) _ HC0.out Tryz.underlying25 rfl (dQ _ _ _ _ _ _ _) ?_)
  | fail)
 refine(j5 w0 d t ss bk rm kf bf h).mono ?_;rintro e w1 ⟨rfl,hb⟩;have HC1:=hJ (ah HC0.out hb);have HB1:=hJ (ag HB0.out hb);clear hb
 go_upto_region 2 with (first
  | (refine zZ rfl 42 (.tmp 4) (.tmp 16) rfl w1.heap.size (ae (aA (aB ss bk rm)) (aB ss bk rm) (aA (aB ss bk rm) 6) (slotsOf t) (bN d t)) rfl rfl 42 (ae (fun _=>0) (fun _=>0) 0 0 0) (nZ w1 _) (ai _ _ _ _ _) rfl (by simp[ae,Value.oneCell']) ?_)
  | fail)
 rw[World.setRow_alloc_new];have HP2:=hJ (nZ w1 (.cells (ae (aA (aB ss bk rm)) (aB ss bk rm) (aA (aB ss bk rm) 6) (slotsOf t) (bN d t)) 42));have hb2:=aj (w:=w1) (A:=.cells (ae (aA (aB ss bk rm)) (aB ss bk rm) (aA (aB ss bk rm) 6) (slotsOf t) (bN d t)) 42);have HC2:=hJ (ah HC1.out hb2);have HB2:=hJ (ag HB1.out hb2);generalize w1.alloc (.cells (ae (aA (aB ss bk rm)) (aB ss bk rm) (aA (aB ss bk rm) 6) (slotsOf t) (bN d t)) 42)=w2 at HP2 HC2 HB2 ⊢;clear hb2;have hcells:=hN.cells;have c12:w2.cell? ⟨w1.heap.size,12,none⟩=some (.int .i64 (n:Int)):=by rw[<- hcells];exact aa HP2.out 12
 have hn5:¬ (5000:Int)<(n:Int):=oZ;have hln:=hN.ln_;have hm1:=hN.m1;have hd1:=hN.d1;have hs0:=hN.s0;have hfits:=hN.fits;have han:=hN.an_;have ha3:=hN.a3;have hn0:1<=(n:Int):=oZ;have hn6:(n:Int)<=65536:=oZ;have HNum:=hJ (And.intro hln (And.intro hm1 (And.intro hd1 (And.intro hs0 (And.intro hfits (And.intro han ha3))))));have HN:=hJ hN;have HFull:=hJ hfull;have HH:=hJ h;clear hln hm1 hd1 hs0 hfits han ha3 hcells hN hfull h;go_wp2_with fail
 refine(EY _ (n:Int) hn0 hn6).mono ?_;rintro e w3 ⟨rfl,hm,hb⟩;have HM3:=hJ hm;have HC3:=hJ (ah HC2.out hb);have HB3:=hJ (ag HB2.out hb);clear hm hb c12;obtain⟨mb,hmb⟩:∃ mb,w2.heap.size+1=mb:=⟨_,rfl⟩;rw[hmb] at HM3 ⊢;clear hmb
 go_wp2_with (first
  | (refine yZ rfl 25 (.tmp 1) rfl w.heap.size rfl 25 (au d t ss bk rm kf bf) (0,0) _ HC3.out Tryz.underlying25 rfl (dQ _ _ _ _ _ _ _) ?_)
  | fail)
 refine(FU HM3.out d t ss bk rm kf bf HH.out HN.out.plan sZ (by have:=HNum.out;omega) HFull.out HNum.out.2.2.2.1 (by have:=HNum.out;omega) (by have:=HNum.out;omega)).mono ?_;rintro e w4 ⟨rfl,hb⟩;have HM4:=hJ (HM3.out.below hb);have HC4:=hJ (ah HC3.out hb);have HB4:=hJ (ag HB3.out hb);clear hb
 go_upto_region 6 with (first
  | (refine zZ rfl 46 (.tmp 8) (.tmp 35) rfl w4.heap.size (aO (.slice none 0 0) aJ) rfl rfl 46 (aO (.slice none 0 0) aJ) (nZ w4 _) (aK _ _) rfl (dL _ _ _ _) ?_)
  | fail)
 rw[World.setRow_alloc_new];have hb5:=aj (w:=w4) (A:=.cells (aO (.slice none 0 0) aJ) 46);have HM5:=hJ (HM4.out.below hb5);have HC5:=hJ (ah HC4.out hb5);have HB5:=hJ (ag HB4.out hb5);generalize w4.alloc (.cells (aO (.slice none 0 0) aJ) 46)=w5 at HM5 HC5 HB5 ⊢;clear hb5
 go_wp2_with (first
  | (refine yZ rfl 25 (.tmp 1) rfl w.heap.size rfl 25 (au d t ss bk rm kf bf) (0,0) _ HC5.out Tryz.underlying25 rfl (dQ _ _ _ _ _ _ _) ?_)
  | fail)
 refine(zk _ d t ss bk rm kf bf HH.out HN.out.plan (by have:=HNum.out;omega) HFull.out).mono ?_;rintro e w6 ⟨rfl,hb⟩;have HM6:=hJ (HM5.out.below hb);have HB6:=hJ (ag HB5.out hb);clear hb
 go_upto_region 7 with (first
  | (refine zZ rfl 49 (.tmp 10) (.tmp 40) rfl w6.heap.size cK rfl rfl 49 cK (ed w6 _ _) (aG _ _ _) rfl (by simp[cK,aH,Value.oneCell']) ?_)
  | (refine zZ rfl 42 (.tmp 11) (.tmp 41) rfl (w6.heap.size+1) _ rfl rfl 42 (ae (fun _=>0) (fun _=>0) 0 0 0) ((qZ _ _ _ _ oZ).trans (eO w6 _ _)) (ai _ _ _ _ _) rfl (by simp[ae,Value.oneCell']) ?_)
  | fail)
 obtain⟨w7,hw7⟩:∃ w7,w7=(((w6.alloc (.cells cK 49)).alloc (.cells (ae (fun _=>0) (fun _=>0) 0 0 0) 42)).setRow w6.heap.size cK).setRow (w6.heap.size+1) (ae (aA (aB ss bk rm)) (aB ss bk rm) (n:Int) (m:Int) (ln:Int)):=⟨_,rfl⟩;rw[show (((w6.alloc (.cells #[.slice none 0 0,.slice none 0 0,.int .i64 0,.int .u32 0,.int .i64 0,.int .i64 0,.int .i64 0,.int .i64 0,.int .i64 0,.int .i64 0] 49)).alloc (.cells #[.int .i64 0,.int .i64 0,.int .i64 0,.int .i64 0,.int .i64 0,.int .i64 0,.int .i64 0,.int .i64 0,.int .i64 0,.int .i64 0,.int .i64 0,.int .i64 0,.int .i64 0,.int .i64 0,.int .i64 0] 42)).setRow w6.heap.size cK).setRow (w6.heap.size+1) (ae (aA (aB ss bk rm)) (aB ss bk rm) (n:Int) (m:Int) (ln:Int))=w7 from hw7.symm];have hb7:Below w6.heap.size w6 w7:=by rw[hw7];exact below_setRow (below_setRow dh (Nat.le_refl _) _) (Nat.le_succ _) _
 have HM7:=hJ (HM6.out.below hb7);have HB7:=hJ (ag HB6.out hb7);clear hw7 hb7
 go_wp2_with (first
  | (go_at_call 30;refine(FT HM7.out).mono ?_;rintro e9 w9 ⟨rfl,rfl⟩)
  | fail)
 go_ret2
 exact⟨rfl,HB7.out⟩
end Go.Proofs.YtafaohnhlgcnpaaGreatDoor
