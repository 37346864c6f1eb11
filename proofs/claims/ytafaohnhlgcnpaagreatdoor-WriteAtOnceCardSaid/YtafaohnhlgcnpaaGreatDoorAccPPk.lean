/-
 What stage 12 rests on.
-/
import Derived.Test.YtafaohnhlgcnpaaGreatDoorWrAlH1
set_option maxRecDepth 100000
set_option maxHeartbeats 16000000
namespace Go.Proofs.YtafaohnhlgcnpaaGreatDoor
open Go.RowKit
variable {α:Type}
theorem fH.next {P:List Int->Prop} {q:Pr α} {cs cs':List Int} {n:Nat} {x:α} (h:fH P q cs n x cs'):fH P (q.next cs).1 (q.next cs).2 (n-1) x cs':=by
 cases h with
 | ret _ _ h0=>exact .ret _ _ h0
 | load _ h1 h2 h3=>exact h3
 | store _ h1 h2 h3=>exact h3
theorem fH.last {P:List Int->Prop} {q:Pr α} {cs cs':List Int} {n:Nat} {x:α} (h:fH P q cs n x cs'):P cs':=by
 induction h with
 | ret _ _ h0=>exact h0
 | load _ _ _ _ ih=>exact ih
 | store _ _ _ _ ih=>exact ih
structure gV (W:World) (rb mb cb:Nat) (S:Nat->Prop) (I:World->Prop) (p:Pr α) (x:α) (cs':List Int) (t:Int) (n i:Nat) (P:List Int->Prop) (wx:World):Prop where
 at_:∃ q st go m,RM wx rb mb cb go false st/\At p q st/\Does q st.cs m x cs'/\m+i=n/\st.log.length<=i/\0<=st.l/\0<=st.s/\st.l+st.s+m<=t/\(∀ y∈st.log,U y)/\(∀ y∈st.cs,U y)/\(∀ g,go=some g->W.heap.size<=g)/\fH P q st.cs m x cs'
 inv:I wx
 mod:bB (Own S mb cb) W wx
theorem gV.new {W w0 w1:World} {rb mb cb:Nat} {S:Nat->Prop} {I:World->Prop} {p:Pr α} {x:α} {cs cs':List Int} {l s:Int} {n:Nat} {P:List Int->Prop} (hm:bD W mb cb cs l s) (h0:0<=l) (h1:0<=s) (hcu:∀ y∈cs,U y) (hd:fH P p cs n x cs') (hb:Below W.heap.size W w1) (hr:bu w1 rb mb none 0 [] 0 false false false false 0) (hI:I w1) (hw:w0=W) :
  gV W rb mb cb S I p x cs' (l+s+n) n 0 P w1:=by
 subst hw;exact⟨⟨p,⟨[],0,false,false,false,0,cs,l,s⟩,none,n,⟨⟨0,hr⟩,hm.below hb,sZ⟩,At.new p cs l s,hd.does,oZ,sZ,h0,h1,by show l+s+(n:Int)<=l+s+(n:Int);omega,sZ,hcu,sZ,hd⟩,hI,Below.mod hb _ fun k hk hk'=>oZ⟩
theorem gV.Mk {W w:World} {rb mb cb:Nat} {F:FuncId} {caps:Array Value} {S:Nat->Prop} {I:World->Prop} {p:Pr α} {Post:α->World->Prop} {x:α} {cs':List Int} {t:Int} {n i B:Nat} {P:List Int->Prop} (h:gV W rb mb cb S I p x cs' t n i P w) (hrb:W.heap.size<=rb)
  (hC:K9 F caps rb mb cb S I p Post B) (hS:∀ k,S k->k<W.heap.size/\k≠mb/\k≠cb) (hn:n+1<=B) (ht:t+1<=B) :
  Calls Tryz.prog 22 #[.pointer (some ⟨rb,0,none⟩),.func (.func F) #[] caps] w fun e w'=>(e=.returned (.bool true)/\I9 W mb cb S I Post x cs' t w'/\P cs'/\∃ cap go' log at_ ma off,bu w' rb mb go' cap log at_ false ma off true 0)∨(e=.returned (.bool false)/\gV W rb mb cb S I p x cs' t n (i+1) P w'/\i<n):=by
 obtain⟨⟨q,st,go,m,hrm,hat,hd,hmi,hlog,h0,h1,hsum,hlu,hcu,hgo,hns⟩,hI,hmod⟩:=h;have hfine:=hat.fine (B:=B) oZ h0 h1 oZ hlu hcu
 have hfar:∀ k,S k->¬ fD rb mb cb go k:=by
  intro k hk;obtain⟨a1,a2,a3⟩:=hS k hk;rintro(e | e | e | e)
  ·omega
  ·have:=hgo k e;omega
  ·exact a2 e
  ·exact a3 e
 obtain⟨hin,hd',hnx⟩:=hd.step;have hst:=xI hat hin;refine(BX hrm hat.over hat.off hfine hC hI hfar).mono ?_;rintro e w' ⟨rfl,go',hrm',hadv,hI',hP'⟩;have hu:=EO (p:=p) hfine hat.over;generalize hst1:st.iI p=st' at *;rw[hst.over]
 have hgo':∀ g,go'=some g->W.heap.size<=g:=by
  intro g hg;rcases hadv.grows with e | ⟨g',e,hg'⟩
  ·exact hgo g (by rw[<- e];exact hg)
  ·rw[e] at hg;cases hg;exact Nat.le_trans hmod.size hg'
 have hmod':bB (Own S mb cb) W w':=hmod.then hadv.mod (by
  rintro k hk (e | e | e | e | e)
  ·exact .inl e
  ·omega
  ·have:=hgo k e;omega
  ·exact .inr (.inl e)
  ·exact .inr (.inr e))
 have hs:=hst.sum;have hl0:=hst.l0;have hs0:=hst.s0;have hcount:=hst.count;cases hr:(q.next st.cs).1.qE with
 | true =>
  left
  have hn1:∃ y,(q.next st.cs).1=.ret y:=by
   generalize (q.next st.cs).1=r at hr;cases r with
   | ret y=>exact⟨y,rfl⟩
   | load a k=>cases hr
   | store a v k=>cases hr
  obtain⟨y,hy⟩:=hn1;rw[hy] at hd';obtain⟨rfl,hcs,hz⟩:=hd'.yN;refine⟨rfl,⟨⟨st'.l,st'.s,?_,oZ,oZ,?_⟩,?_,hI',hP' y ?_,hmod'⟩,hns.next.last,?_⟩
  ·rw[hcs,<- hst.cells];exact hrm'.mem
  ·rcases q with _|_|_
   ·have e:st'=st.iI p:=hst1.symm;have ho:=qG hat
    have:st'.l=st.l/\st'.s=st.s:=by
     rw[e];unfold St.iI St.shut;rw[if_neg (by simp[hat.over]),ho];exact⟨rfl,rfl⟩
    omega
   ·cases hd with
    | load _ _ hd3=>omega
   ·cases hd with
    | store _ _ hd3=>omega
  ·rw[hcs,<- hst.cells];exact hu.2
  ·rw[hst.ans,hy];rfl
  ·obtain⟨cap,hr2⟩:=hrm'.run;rw[hst.err,hst.over,hr] at hr2;exact⟨cap,go',_,_,_,_,hr2⟩
 | false =>
  right
  have hm0:0<m:=by
   rcases hnx with h | h
   ·exact h
   ·rw[h] at hr;cases hr
  refine⟨rfl,⟨⟨(q.next st.cs).1,st',go',m-1,hrm',hst.at_ hr,?_,oZ,oZ,oZ,oZ,oZ,hu.1,hu.2,hgo',?_⟩,hI',hmod'⟩,oZ⟩
  ·rw[hst.cells];exact hd'
  ·rw[hst.cells];exact hns.next
theorem gV.turn {W w w':World} {rb mb cb:Nat} {S:Nat->Prop} {I:World->Prop} {p:Pr α} {x:α} {cs':List Int} {t:Int} {n i:Nat} {P:List Int->Prop} (h:gV W rb mb cb S I p x cs' t n i P w) (hrb:W.heap.size<=rb) (hrc:rb≠mb) (hm:mb<W.heap.size) (hI:I w->I w') (hb:bB (·=mb) w w') (hmem:∀ c l s,bD w mb cb c l s->bD w' mb cb c (l+1) s) :
  gV W rb mb cb S I p x cs' (t+1) n i P w':=by
 obtain⟨⟨q,st,go,m,hrm,hat,hd,hmi,hlog,h0,h1,hsum,hlu,hcu,hgo,hns⟩,hi,hmod⟩:=h;obtain⟨⟨cap,hr⟩,hmm,hne⟩:=hrm
 have hrun:bu w' rb mb go cap st.log st.at_ false st.made st.off st.over st.err:=hr.dJ fun k hk=>by
  refine hb.block k (hr.lt k hk) ?_;rcases hk with rfl | hk
  ·exact hrc
  ·have:=hgo k hk;omega
 refine⟨⟨q,{st with l:=st.l+1},go,m,⟨⟨cap,hrun⟩,hmem _ _ _ hmm,hne⟩,hat.turn st.cs (st.l+1) st.s,hd,hmi,hlog,?_,h1,?_,hlu,hcu,hgo,hns⟩,hI hi,hmod.then hb fun k hk hk'=>.inr (.inl hk')⟩
 ·show 0<=st.l+1;omega
 ·show st.l+1+st.s+(m:Int)<=t+1;omega
theorem gV.here {W w:World} {rb mb cb:Nat} {S:Nat->Prop} {I:World->Prop} {p:Pr α} {x:α} {cs':List Int} {t:Int} {n i:Nat} {P:List Int->Prop} (h:gV W rb mb cb S I p x cs' t n i P w):∃ c l s,bD w mb cb c l s/\P c/\(∀ y∈c,U y)/\0<=l/\l<=t:=by
 obtain⟨⟨q,st,go,m,hrm,hat,hd,hmi,hlog,h0,h1,hsum,hlu,hcu,hgo,hns⟩,hI,hmod⟩:=h;exact⟨st.cs,st.l,st.s,hrm.mem,hns.here,hcu,h0,oZ⟩
theorem gV.below {W w w':World} {rb mb cb:Nat} {S:Nat->Prop} {I:World->Prop} {p:Pr α} {x:α} {cs':List Int} {t:Int} {n i:Nat} {P:List Int->Prop} (h:gV W rb mb cb S I p x cs' t n i P w) (hI:I w->I w') (hb:Below w.heap.size w w') :
  gV W rb mb cb S I p x cs' t n i P w':=by
 obtain⟨⟨q,st,go,m,hrm,hat,hd,hmi,hlog,h0,h1,hsum,hlu,hcu,hgo,hns⟩,hi,hmod⟩:=h;obtain⟨⟨cap,hr⟩,hmm,hne⟩:=hrm;exact⟨⟨q,st,go,m,⟨⟨cap,hr.below hb⟩,hmm.below hb,hne⟩,hat,hd,hmi,hlog,h0,h1,hsum,hlu,hcu,hgo,hns⟩,hI hi,hmod.then (Below.mod hb _ fun k hk hk'=>oZ) fun k hk hk'=>hk'⟩
end Go.Proofs.YtafaohnhlgcnpaaGreatDoor
