/-
 What stage 12 rests on.
-/
import Derived.Test.YtlfndoclbebdaaaGreatDoorWrErA1
import Derived.Test.YtlfndoclbebdaaaGreatDoorWrErH1
import Derived.Test.YtlfndoclbebdaaaGreatDoorWrErF1
import Derived.Test.YtlfndoclbebdaaaGreatDoorWrErG4
set_option maxRecDepth 100000
set_option maxHeartbeats 16000000
namespace Go.Proofs.YtlfndoclbebdaaaGreatDoor
open Go.RowKit
section
variable {B S:Nat->Int} {C:Int} {m:Nat} {s:Int}
theorem WS.SC (hL:Laid B S C) (hs5:B 5<=s) (hC:C<=65536) (hm:m<=512) {K:List (List Nat)} (hK:K.Nodup) {doc:Int} {tt:Int} (htt:tt<m) (c:List Nat->Nat):∀ (l:List Tk) (cs:List Int) (Us:Nat->Int) (d:dm),WS B S C m s cs Us d->uX K doc l ->
  (∀ j,j<6->Us j+lq K (jw B S cs d m l j)<=S j)->(sW d m:Int)+lq K (jf d m l)<=tt->∃ cs' Us' d',QS B S C m s doc K c l cs Us d cs' Us' d'/\∀ k,k ∉ l.map aP->fV d' k m=fV d k m
 | [],cs,Us,d,h,_,_,_=>by
  refine⟨cs,Us,d,⟨.nil _ _,⟨0,oZ,.ret _ _⟩,h,rfl,fun j hj=>?_,?_,fun _ _=>rfl⟩,fun _ _=>rfl⟩
  ·rw[vH fun k=>J7 j k]
   omega
  ·rw[vH fun k=>by unfold jf;rw[if_neg (fun h=>by have:=h.2;rw[show fJ [] k=0 from rfl] at this;omega)]]
   omega
 | tk :: l,cs,Us,d,h,hw,hfit,hocc=>by
  have hκK:=hw.mem tk sZ
  have hcnt:fJ (tk :: l) (aP tk)=fJ l (aP tk)+1:=by rw[zQ,if_pos rfl]
  have hcnt2:∀ k,k≠aP tk->fJ (tk :: l) k=fJ l k:=fun k hk=>by rw[zQ,if_neg (fun e=>hk e.symm)];rfl
  have hone:∀ j,jw B S cs d m (tk :: l) j (aP tk)<=lq K (jw B S cs d m (tk :: l) j):=fun j=>yf K hκK fun k _=>Ox B S cs d m (tk :: l) j k
  have hf1:jf d m (tk :: l) (aP tk)<=lq K (jf d m (tk :: l)):=yf K hκK fun k _=>Ae d m (tk :: l) k
  have hu4:=h.used 4 oZ
  have hocc2:sW d m<m:=by
   have:=Be K fun k _=>Ae d m (tk :: l) k
   omega
  have hbook:fV d (aP tk) m=0->2+((aF (aP tk)).length:Int)<=S 4-Us 4:=by
   intro e
   have h1:=hone 4
   have h2:=hfit 4 oZ
   have h3:jw B S cs d m (tk :: l) 4 (aP tk)=fB (fJ (tk :: l) (aP tk)) (dC B S (dn cs d (aP tk) m)) (bT B S (dn cs d (aP tk) m)) 4+(2+((aF (aP tk)).length:Int)):=by
    unfold jw uK
    rw[if_pos ⟨e,oZ,rfl⟩]
   have:=lF (fJ (tk :: l) (aP tk)) (dC B S (dn cs d (aP tk) m)) (bT B S (dn cs d (aP tk) m)) 4
   omega
  have hslab:∀ k,dh B S (dn cs d (aP tk) m)=some k->aS k<=S k-Us k:=by
   intro k hk
   obtain⟨e1,e2,e3⟩:=Fv hL (h.yP (aP tk)) hk
   have h1:=hone k
   have h2:=hfit k oZ
   have h3:jw B S cs d m (tk :: l) k (aP tk)=aS k+fB (fJ l (aP tk)) (aS k-2) (up k) k+uK (fV d (aP tk) m) (aP tk) (fJ l (aP tk)+1) k:=by
    unfold jw
    rw[hcnt,iQ,if_pos e1,e2,if_pos rfl]
   have:=lF (fJ l (aP tk)) (aS k-2) (up k) k
   have:=Dw (fV d (aP tk) m) (aP tk) (fJ l (aP tk)+1) k
   omega
  obtain⟨cs1,Us1,d1,a',t',hn⟩:=h.word hL hs5 hC hm (hw.tk0 tk sZ) (hw.tk17 tk sZ) (doc:=doc) rfl (hw.u tk sZ) hocc2 hbook hslab
  have hrest:∀ j,lq K (jw B S cs1 d1 m l j)=lq K (jw B S cs d m (tk :: l) j)-(Us1 j-Us j):=by
   intro j
   rw[yB (f:=jw B S cs d m (tk :: l) j) K hK hκK fun k _ hk=>by
    unfold jw
    rw[(hn.other k hk).1,(hn.other k hk).2,hcnt2 k hk]]
   have hneed:=hn.need (fJ l (aP tk)) j
   have e1:jw B S cs1 d1 m l j (aP tk)=fB (fJ l (aP tk)) (dC B S t') (bT B S t') j:=by
    unfold jw uK
    rw[hn.tail_,hn.rec_.1,if_neg (fun e=>hn.rec_.2 e.1)]
    omega
   have e2:jw B S cs d m (tk :: l) j (aP tk)=fB (fJ l (aP tk)+1) (dC B S (dn cs d (aP tk) m)) (bT B S (dn cs d (aP tk) m)) j+(if fV d (aP tk) m=0/\j=4 then 2+((aF (aP tk)).length:Int) else 0):=by
    unfold jw uK
    rw[hcnt]
    congr 1
    by_cases e:fV d (aP tk) m=0/\j=4
    ·rw[if_pos ⟨e.1,oZ,e.2⟩,if_pos e]
    ·rw[if_neg (fun x=>e ⟨x.1,x.2.2⟩),if_neg e]
   rw[e1,e2]
   omega
  have hfr:lq K (jf d1 m l)=lq K (jf d m (tk :: l))-(if fV d (aP tk) m=0 then 1 else 0):=by
   rw[yB (f:=jf d m (tk :: l)) K hK hκK fun k _ hk=>by
    unfold jf
    rw[(hn.other k hk).1,hcnt2 k hk]]
   have e1:jf d1 m l (aP tk)=0:=by unfold jf;rw[hn.rec_.1,if_neg (fun e=>hn.rec_.2 e.1)]
   have e2:jf d m (tk :: l) (aP tk)=if fV d (aP tk) m=0 then 1 else 0:=by
    unfold jf
    by_cases e:fV d (aP tk) m=0
    ·rw[if_pos ⟨e,oZ⟩,if_pos e]
    ·rw[if_neg (fun x=>e x.1),if_neg e]
   rw[e1,e2]
   omega
  have hoc1:(sW d1 m:Int)=sW d m+(if fV d (aP tk) m=0 then 1 else 0):=by
   rw[hn.occ_]
   split <;> simp
  obtain⟨cs2,Us2,d2,hall,hoth⟩:=WS.SC hL hs5 hC hm hK htt c l cs1 Us1 d1 hn.inv hw.tail (fun j hj=>by have:=hfit j hj;rw[hrest j];omega) (by rw[hoc1,hfr];omega)
  refine⟨cs2,Us2,d2,⟨?_,?_,hall.inv,hall.len.trans hn.len,fun j hj=>?_,?_,fun p hp=>(hall.out p hp).trans (hn.out p hp)⟩,fun k hk=>(hoth k fun h9=>hk (by rw[List.map_cons];exact List.mem_cons_of_mem _ h9)).trans (hn.other k fun h9=>hk (by rw[List.map_cons,h9];exact List.mem_cons_self)).1⟩
  ·exact .cons h.cu hn.ref hn.len hall.ref
  ·obtain⟨q1,hq1,hp1⟩:=hn.prog
   obtain⟨q2,hq2,hp2⟩:=hall.prog
   refine⟨q1+q2,by rw[List.length_cons];omega,?_⟩
   rw[List.map_cons]
   unfold storeT
   rw[if_neg (by show ¬ gW doc tk.2.2≠0;rw[hw.err tk sZ];simp)]
   rw[show (wpOf K doc tk).1=K.idxOf (aP tk) from rfl,show (wpOf K doc tk).2.1=eU doc tk.2.2 from rfl,P6 hκK]
   refine hp1.bind ?_
   show eF _ (if(0:Int)≠0 then _ else storeT B S s m Us1 ((K.map (qU cs d m c)).set (K.idxOf (aP tk)) (aP tk,c (aP tk),a',t')) (l.map (wpOf K doc))) _ _ _ _
   rw[if_neg sZ,Qk hK hκK hn.rec_.1 hn.tail_ hn.other]
   exact hp2
  ·rw[hall.used j hj,hrest j]
   omega
  ·rw[hall.occ_,hfr,hoc1]
   omega
end
section
variable {B S:Nat->Int} {C:Int} {m dd:Nat} {tt:Int} {nd:Nat} {cs:List Int} {x:Sx} {d:dm}
theorem WI.Tu (h:WI B S C m dd tt nd cs x d) (id:Int) (F:List ByteArray) (hid:U id) (hver:x.dR+1<=4294967295) (hE0:jM F=0) (hpl:(df cs id 0 x.aH).2.2=false) (hdocs:¬ dd<=nd) (hterms:¬ tt<x.terms+dJ (iK cs d m (dQ F))) (hfits:je x.used (fZ B S (iK cs d m (dQ F))) S=true) :
  ∃ cs' x' d',tN B S C m dd tt nd id F cs x d 0 cs' x' (nd+1) d'/\(∀ k,k ∉ (dQ F).map aP->fV d' k m=fV d k m)/\(∀ j,j<6->x'.used j=x.used j+fZ B S (iK cs d m (dQ F)) j)/\x'.terms=x.terms+dJ (iK cs d m (dQ F)):=by
 obtain⟨b1,b2,b3,b4,b5,b6,b7,b8⟩:=h.bounds
 have hsl:eP B dd=B 5+1+4*(dd:Int):=rfl
 have hhere:=h.here cs
 have hdd:=h.hdd
 have hnd:=h.nd_
 have hm:=h.hm
 have hocc:sW d m<m:=by have:=h.terms;have:=h.many;have:=h.htt;omega
 have hE:¬ jM F≠0:=oZ
 obtain⟨q1,f,hq1,hf1,hf2,_⟩:=wJ (A:=fun _=>False) cs id (B 5+1) nd false (B 5) rfl oZ oZ
 rw[<- h.aH] at hf1 hf2
 have toP:∀ {α:Type} {p:Pr α} {n:Nat} {y:α} {cs':List Int},eF (fun _=>False) p cs n y cs->jT (Dx B dd nd cs x cs') p cs n y cs:=fun {α p n y cs'} hd=>hd.p (cs0:=cs) (fun c h1 h2=>by
  have:c=cs:=List.ext_getElem? fun j=>by
   have e:=h2 j (fun x=>x)
   rw[List.getD_eq_getElem?_getD,List.getD_eq_getElem?_getD] at e
   by_cases hj:j<c.length
   ·rw[gZ hj,gZ oZ] at e ⊢
    simpa using e
   ·rw[List.getElem?_eq_none oZ,List.getElem?_eq_none oZ]
  rw[this]
  exact h.here cs') rfl fun _ _=>rfl
 rw[hpl] at hf2
 have hKb:∀ k∈(bC (dQ F)).1,(∀ b∈k,b<256)/\k.length<=17:=by
  intro k hk
  obtain⟨tk,htk,rfl⟩:=List.mem_map.1 (((jg (dQ F)).mem k).1 hk)
  have:=jH htk
  refine⟨jQ oZ oZ,?_⟩
  unfold aP
  rw[List.length_cons,aG]
  omega
 have hlen64:=tX F
 have hKl:=qB (dQ F)
 obtain⟨q2,hq2,hl2⟩:=WS.look (A:=fun _=>False) h.ws oZ hm hocc (fJ (dQ F)) (bC (dQ F)).1 [] hKb
 rw[List.nil_append,show (bC (dQ F)).1.map (qU cs d m (fJ (dQ F)))=iK cs d m (dQ F) from rfl] at hl2
 have hfe:=rM hfits
 have hkq:=jg (dQ F)
 have hterm:=h.terms
 obtain⟨cs1,Us1,d1,hall,hoth⟩:=WS.SC (S:=S) h.hL oZ b4 hm hkq.nd (doc:=(nd:Int)) h.htt (fJ (dQ F)) (dQ F) cs x.used d h.ws (WI.Nk F oZ) (fun j hj=>by rw[<- MJ h.ws];have:=hfe j hj;omega) (by rw[<- zX (cs:=cs)];omega)
 obtain⟨v,hv⟩:∃ v,v=x.dR+1:=⟨_,rfl⟩
 have huv:u32 (x.dR+1)=v:=by rw[<- hv];exact u32_in ⟨oZ,oZ⟩
 obtain⟨fr,hfr⟩:∃ fr,fr=dJ (iK cs d m (dQ F)):=⟨_,rfl⟩
 obtain⟨n,hn⟩:∃ n,n=(dQ F).length:=⟨_,rfl⟩
 obtain⟨cs',hcs'⟩:∃ cs',cs'=Dn B nd id n v cs1:=⟨_,rfl⟩
 have hl1:=hall.len
 obtain⟨r1,r2⟩:=AV (dd:=dd) (m:=m) (c:=cs1) (cs0:=cs) (B:=B) (fun q hq=>hall.out q (by unfold Area at hq;omega))
 have hlay:b4=b4:=rfl
 have hLl:(xu cs1 (B 5+1) nd id (n:Int) v).length=cs1.length:=wQ _ _ _ _ _ _
 have hget:∀ a:Int,0<=a->bK cs' a=if a=1 then v else if a=B 5+1+4*(nd:Int) then v else if a=B 5+1+4*(nd:Int)+2 then(n:Int) else if a=B 5+1+4*(nd:Int)+1 then id else bK cs1 a:=by
  intro a ha
  rw[hcs']
  unfold Dn
  rw[bU _ _ _ _ ha]
  by_cases e:a=1
  ·rw[if_pos ⟨oZ,oZ⟩,if_pos e]
  ·rw[if_neg (fun x=>e (by have:=x.1;omega)),if_neg e]
   exact Ll oZ oZ a ha
 have hl':cs'.length=cs.length:=by rw[hcs'];unfold Dn;rw[List.length_set,hLl,hl1]
 have hu1:∀ y∈cs1,U y:=hall.inv.cu
 have huvv:U v:=⟨oZ,oZ⟩
 have hun:U (n:Int):=⟨oZ,oZ⟩
 have hu':∀ y∈cs',U y:=by
  rw[hcs']
  unfold Dn xu
  exact kP (kP (kP (kP hu1 hid) hun) huvv) huvv
 have hws:WS B S C m (eP B dd) cs' Us1 d1:=hall.inv.away (by exact h.hL) (by rw[hl',hl1]) hu' (fun p h3 h4=>by
  have:=hget (p:Int) oZ
  rw[gI,gI] at this
  rw[this,if_neg oZ,if_neg oZ,if_neg oZ,if_neg oZ])
 refine⟨cs',xA B x nd fr Us1,d1,⟨?_,?_,hl',.inr ⟨rfl,by show u32 (x.dR+1)=_;rw[huv,hv],rfl⟩,(fun _=>⟨by rw[hget _ oZ,if_neg oZ,if_neg oZ,if_neg oZ,if_pos rfl],by rw[hget _ oZ,if_neg oZ,if_neg oZ,if_neg oZ,if_neg oZ,r2 _ oZ oZ];exact(h.rest nd (Nat.le_refl _) oZ).2,fun j i hj h0 h1=>by rw[hget _ oZ,if_neg oZ,if_neg oZ,if_neg oZ,if_neg oZ,r2 _ oZ oZ]⟩),?_⟩,fun k hk=>hoth k hk,fun j hj=>by rw[MJ h.ws];exact hall.used j hj,by rw[<- hfr];rfl⟩
 ·have:=ny.ok (B:=B) (S:=S) (m:=m) (dd:=dd) (tt:=tt) (nd:=nd) (id:=id) (F:=F) (cs:=cs) (x:=x) (d:=d) hE0 hpl oZ oZ hfits hall.ref hl1 hu1
  rw[<- hn,huv,<- hfr,<- hcs'] at this
  exact this
 ·refine⟨h.hL,h.room,hm,hdd,h.htt,hws,?_,oZ,?_,?_,?_,?_,?_,?_⟩
  ·show [(B 5,(nd:Int)+1,false)]=[(B 5,((nd+1:Nat):Int),false)]
   rfl
  ·show x.terms+fr=_
   rw[hall.occ_,<- zX (cs:=cs),<- hfr,hterm]
  ·show x.terms+fr<=tt
   omega
  ·show _=u32 (x.dR+1)
   rw[huv,<- gI,hget _ oZ,if_pos oZ]
  ·intro j hj
   show _/\_<=u32 (x.dR+1)
   rw[huv,hget _ oZ,if_neg oZ]
   by_cases e:j=nd
   ·rw[if_pos oZ]
    omega
   ·rw[if_neg oZ,if_neg oZ,if_neg oZ,r2 _ oZ oZ]
    have:=h.born j oZ
    omega
  ·intro j hj hj2
   rw[hget _ oZ,hget _ oZ,if_neg oZ,if_neg oZ,if_neg oZ,if_neg oZ,if_neg oZ,if_neg oZ,if_neg oZ,if_neg oZ,r2 _ oZ oZ,r2 _ oZ oZ]
   exact h.rest j oZ hj2
  ·intro j hj
   show _<=u32 (x.dR+1)
   rw[huv,hget _ oZ,if_neg oZ,if_neg oZ,if_neg oZ,if_neg oZ,r2 _ oZ oZ]
   by_cases e:j=nd
   ·have:=(h.rest nd (Nat.le_refl _) oZ).2
    rw[e,this]
    omega
   ·have:=h.tomb j oZ
    omega
 ·obtain⟨q3,hq3,hst⟩:=hall.prog
  refine⟨q1+(q2+(q3+(3+1))),(xA B x nd fr Us1,0),oZ,?_,rfl,fun _=>rfl⟩
  unfold qQ
  rw[if_neg hE]
  refine(toP hf1).bind ?_
  rw[hf2,if_neg dZ]
  refine(toP hl2).bind ?_
  rw[if_neg oZ,if_neg (by rw[hfits];decide),<- hfr]
  unfold xH
  rw[huv,<- hn]
  refine jT.bind (x:=(Us1,(0:Int))) (cs1:=cs1) (hst.p (cs0:=cs) (fun c g1 g2=>?_) rfl fun _ _=>rfl) ?_
  ·obtain⟨s1,s2⟩:=AV g2
   refine h.still g1 (by rw[s1];exact b6) (fun j hj i i0 i1=>s2 _ oZ oZ) fun hn2=>.inl ?_
   rw[s2 _ oZ oZ]
   exact(h.rest nd (Nat.le_refl _) hn2).1
  ·rw[if_neg sZ]
   have st:∀ c:List Int,c.length=cs.length->(∀ a:Int,0<=a->a≠B 5+1+4*(nd:Int)->a≠B 5+1+4*(nd:Int)+1->a≠B 5+1+4*(nd:Int)+2->bK c a=bK cs1 a)->(bK c (B 5+1+4*(nd:Int))=0∨x.dR<bK c (B 5+1+4*(nd:Int)))->Dx B dd nd cs x cs' c:=by
    intro c g1 g2 g3
    refine h.still g1 ?_ (fun j hj i i0 i1=>?_) fun _=>g3
    ·rw[<- gI,g2 _ oZ oZ oZ oZ,gI,r1]
     exact b6
    ·rw[g2 _ oZ oZ oZ oZ,r2 _ oZ oZ]
   have hb0:bK cs1 (B 5+1+4*(nd:Int))=0:=by
    rw[r2 _ oZ oZ]
    exact(h.rest nd (Nat.le_refl _) oZ).1
   obtain⟨p,hp⟩:∃ p:Nat,B 5+1+4*(nd:Int)=(p:Int):=⟨(B 5+1+4*(nd:Int)).toNat,oZ⟩
   have hcs2:cs'=(((cs1.set (p+1) id).set (p+2) (n:Int)).set p v).set 1 v:=by
    rw[hcs']
    unfold Dn xu
    rw[show (B 5+1+4*(nd:Int)+1).toNat=p+1 by omega,show (B 5+1+4*(nd:Int)+2).toNat=p+2 by omega,show (B 5+1+4*(nd:Int)).toNat=p by omega]
   unfold zu
   rw[hp] at st hb0 ⊢
   show jT _ (.store ((p:Int)+1) id (.store ((p:Int)+2) (n:Int) (.store (p:Int) v (.store 1 v (.ret (xA B x nd fr Us1,0)))))) cs1 _ _ _
   refine .store (st cs1 hl1 (fun _ _ _ _ _=>rfl) (.inl hb0)) oZ oZ ?_
   rw[u32_in hid,show ((p:Int)+1).toNat=p+1 by omega]
   refine .store (st _ (by rw[List.length_set];exact hl1) (fun a a0 a1 a2 a3=>by rw[bU _ _ _ _ a0,if_neg oZ]) (.inl (by rw[bU _ _ _ _ oZ,if_neg oZ];exact hb0))) oZ (by rw[List.length_set];omega) ?_
   rw[u32_in hun,show ((p:Int)+2).toNat=p+2 by omega]
   refine .store (st _ (by rw[List.length_set,List.length_set];exact hl1) (fun a a0 a1 a2 a3=>by rw[bU _ _ _ _ a0,if_neg oZ,bU _ _ _ _ a0,if_neg oZ]) (.inl (by rw[bU _ _ _ _ oZ,if_neg oZ,bU _ _ _ _ oZ,if_neg oZ];exact hb0))) oZ (by rw[List.length_set,List.length_set];omega) ?_
   rw[u32_in huvv,Int.toNat_natCast]
   refine .store (st _ (by rw[List.length_set,List.length_set,List.length_set];exact hl1) (fun a a0 a1 a2 a3=>by rw[bU _ _ _ _ a0,if_neg oZ,bU _ _ _ _ a0,if_neg oZ,bU _ _ _ _ a0,if_neg oZ]) (.inr (by rw[bU _ _ _ _ oZ,if_pos ⟨rfl,by rw[List.length_set,List.length_set];omega⟩];omega))) oZ (by rw[List.length_set,List.length_set,List.length_set];omega) ?_
   rw[u32_in huvv,show (1:Int).toNat=1 from rfl,<- hcs2]
   exact .ret _ _ ⟨hl',.inr rfl⟩
end
theorem wH:∀ n,sW (fun _=>none) n=0
 | 0=>rfl
 | n+1=>by
  show sW (fun _=>none) n+_=0
  rw[wH n]
  rfl
def nI (n an ln:Nat):List Int:=(((List.replicate n (0:Int)).set (an+ln) 1).set (an+ln+1) (an:Int)).set 2 ((an+ln:Nat):Int)
theorem qf (n an ln:Nat):(nI n an ln).length=n:=by simp[nI]
theorem oz (n an ln:Nat) {p:Nat} (h1:p≠2) (h2:p≠an+ln) (h3:p≠an+ln+1):(nI n an ln).getD p 0=0:=by
 unfold nI
 rw[List.getD_eq_getElem?_getD,List.getElem?_set,if_neg (Ne.symm h1),List.getElem?_set,if_neg (Ne.symm h3),List.getElem?_set,if_neg (Ne.symm h2),List.getElem?_replicate]
 split <;> rfl
theorem WI.new {B S:Nat->Int} {C:Int} {m dd:Nat} {tt:Int} {n an ln:Nat} (hL:Laid B S C) (hC:(n:Int)=C) (hA:B 5=(an:Int)) (hln:(ln:Int)=1+4*(dd:Int)+(m:Int)) (hfit:(ln:Int)+2<=S 5) (hm0:0<m) (hm:m<=512) (hdd:dd<=64) (h0:0<=tt) (htt:tt<m) :
  WI B S C m dd tt 0 (nI n an ln) (bn an ln) (fun _=>none):=by
 have h5:=hL.pool (show 5<6 by omega)
 have h4:=hL.pool (show 4<6 by omega)
 have hn4:=hL.next 4 oZ
 have hs:eP B dd=B 5+1+4*(dd:Int):=rfl
 have hlen:=qf n an ln
 have hu4:(bn an ln).used 4=0:=rfl
 simp only[Nat.reduceAdd] at hn4
 refine⟨hL,oZ,hm,hdd,htt,⟨oZ,fun y hy=>?_,⟨hm0,h4.1,oZ,oZ,oZ,fun i hi=>?_,fun i a k h=>jZ,fun i a k h=>jZ⟩,fun i a k h=>jZ,fun k hk=>?_,fun k hk=>⟨0,?_⟩,fun p h1 h2=>oz _ _ _ oZ oZ oZ,fun i a k h=>jZ,fun i j a b k k' _ h=>jZ⟩,(by show [((an:Int),0,false)]=_;rw[hA];rfl),Nat.zero_le _,(by show (0:Int)=_;rw[wH];rfl),h0,oz _ _ _ oZ oZ oZ,fun j hj=>oZ,fun j _ hj=>⟨?_,?_⟩,fun j hj=>oZ⟩
 ·unfold nI at hy
  unfold U
  rcases List.mem_or_eq_of_mem_set hy with hy | rfl
  ·rcases List.mem_or_eq_of_mem_set hy with hy | rfl
   ·rcases List.mem_or_eq_of_mem_set hy with hy | rfl
    ·rw[(List.mem_replicate.1 hy).2]
     omega
    ·omega
   ·omega
  ·omega
 ·exact oz _ _ _ oZ oZ oZ
 ·by_cases e:k=5
  ·subst e
   show 0<=(ln:Int)+2/\(ln:Int)+2<=S 5
   omega
  ·have hu:(bn an ln).used k=0:=if_neg e
   rw[hu]
   exact⟨oZ,hL.s0 k hk⟩
 ·have hu:(bn an ln).used k=0:=if_neg oZ
  rw[hu]
  simp
 ·exact oz _ _ _ oZ oZ oZ
 ·exact oz _ _ _ oZ oZ oZ
def SG (i:Nat):List ByteArray:=[⟨#[UInt8.ofNat (98+i)]⟩]
def Tj (i:Nat):List Nat:=[0,98+i]
def Ti:List ByteArray:=[⟨#[]⟩,⟨#[]⟩,⟨#[]⟩,⟨#[]⟩,⟨#[]⟩]
theorem SV:∀ i,i<13->jM (SG i)=0/\(dQ (SG i)).map aP=[Tj i]/\(bC (dQ (SG i))).1=[Tj i]:=by decide +kernel
theorem Tt:jM Ti=4:=by decide +kernel
theorem SH {cs:List Int} {b y:Int}:∀ (m d:Nat),(∃ j:Nat,d<=j/\j<d+m/\bK cs (b+4*(j:Int)+1)=y)->0<=mM cs b y m d
 | 0,d,⟨j,h1,h2,_⟩=>oZ
 | m+1,d,⟨j,h1,h2,h3⟩=>by
  unfold mM
  split
  ·omega
  ·rename_i hn
   refine SH m (d+1) ⟨j,?_,oZ,h3⟩
   by_cases e:j=d
   ·subst e;exact absurd h3 hn
   ·omega
theorem SE {cs:List Int} {b y:Int}:∀ (m d:Nat),(∀ j:Nat,d<=j->j<d+m->bK cs (b+4*(j:Int)+1)≠y)->mM cs b y m d=-1
 | 0,d,_=>rfl
 | m+1,d,h=>by
  unfold mM
  rw[if_neg (h d (Nat.le_refl _) oZ)]
  exact SE m (d+1) fun j h1 h2=>h j oZ oZ
theorem Tc {cs:List Int} {B5 id:Int} {nd:Nat}:(df cs id 0 [(B5,(nd:Int),false)]).2.2=decide (0<=mM cs (B5+1) id nd 0):=by
 unfold df
 show (if 0<=kD cs (dN (B5,(nd:Int),false)) (nd:Int).toNat id then _ else df cs id (0+1) []).2.2=_
 rw[show dN (B5,(nd:Int),false)=B5+1 from rfl,Int.toNat_natCast]
 unfold kD
 by_cases h:0<=mM cs (B5+1) id nd 0
 ·rw[if_pos h,decide_eq_true h]
 ·rw[if_neg h,decide_eq_false h]
  rfl
structure SA (B S:Nat->Int) (C:Int) (m dd:Nat) (nd:Nat) (cs:List Int) (x:Sx) (d:dm) (ids:List Int) (i:Nat):Prop where
 inv:WI B S C m dd 64 nd cs x d
 len:ids.length=nd
 ids_:∀ (j:Nat) (y:Int),ids[j]?=some y->bK cs (B 5+1+4*(j:Int)+1)=y
 fresh:∀ k,i<=k->k<13->fV d (Tj k) m=0
 u0:x.used 0=4*(nd:Int)
 u4:x.used 4=3*(nd:Int)
 terms:x.terms=(nd:Int)
 dR:x.dR<=(nd:Int)
section
variable {B S:Nat->Int} {C:Int} {m dd nd:Nat} {cs:List Int} {x:Sx} {d:dm} {ids:List Int} {i:Nat}
theorem SA.next (h:SA B S C m dd nd cs x d ids i):SA B S C m dd nd cs x d ids (i+1):=⟨h.inv,h.len,h.ids_,fun k h1 h2=>h.fresh k oZ h2,h.u0,h.u4,h.terms,h.dR⟩
theorem SA.dup (h:SA B S C m dd nd cs x d ids i) (id:Int):(df cs id 0 x.aH).2.2=decide (id∈ids):=by
 rw[h.inv.aH,Tc]
 by_cases hm:id∈ids
 ·obtain⟨j,hj,he⟩:=List.getElem_of_mem hm
  have hx:=h.ids_ j id (by rw[gZ hj,he])
  have:=h.len
  rw[decide_eq_true hm,decide_eq_true (SH nd 0 ⟨j,oZ,oZ,hx⟩)]
 ·rw[decide_eq_false hm,SE nd 0 (fun j _ hj he=>hm ?_)]
  ·rfl
  ·have hl:j<ids.length:=by rw[h.len];omega
   have:=h.ids_ j ids[j] (gZ hl)
   rw[he] at this
   rw[this]
   exact List.getElem_mem hl
theorem SA.need (h:SA B S C m dd nd cs x d ids i) (hi:i<13):dJ (iK cs d m (dQ (SG i)))=1/\∀ j,fZ B S (iK cs d m (dQ (SG i))) j=if j=0 then 4 else if j=4 then 3 else 0:=by
 have hr:=h.fresh i (Nat.le_refl _) hi
 obtain⟨_,hk,hz⟩:=SV i hi
 have ht:iK cs d m (dQ (SG i))=[(Tj i,1,0,0)]:=by
  unfold iK
  rw[hz]
  show [qU cs d m (fJ (dQ (SG i))) (Tj i)]=_
  unfold qU fJ dn
  rw[hk,hr,if_pos rfl]
  simp
 rw[ht]
 refine⟨rfl,fun j=>?_⟩
 have hn:eQ B S 0 1 j=if j=0 then 4 else 0:=by
  unfold eQ
  rw[if_pos (.inl rfl)]
  show fB 1 (dC B S 0) (bT B S 0) j=_
  unfold dC bT
  rw[if_pos rfl,if_pos rfl]
  unfold fB fB
  rw[if_pos rfl]
  by_cases e:j=0
  ·rw[if_pos e,if_pos e];rfl
  ·rw[if_neg e,if_neg e];rfl
 show (xq B S (Tj i,1,0,0) j)+0=_
 unfold xq
 show (if(0:Int)=0/\j=4 then 2+((aF (Tj i)).length:Int) else 0)+eQ B S 0 1 j+0=_
 rw[hn,bH]
 show (if(0:Int)=0/\j=4 then 2+(((2+3) / 4:Nat):Int) else 0)+(if j=0 then 4 else 0)+0=_
 by_cases e:j=0
 ·rw[if_neg oZ,if_pos e,if_pos e];rfl
 ·by_cases e4:j=4
  ·rw[if_pos ⟨rfl,e4⟩,if_neg e,if_neg e,if_pos e4];rfl
  ·rw[if_neg oZ,if_neg e,if_neg e,if_neg e4];rfl
def Sz (dd:Nat) (s0:Int) (nd:Nat) (ids:List Int) (id:Int) (long:Bool):Int:=if long then 4 else if id∈ids then 6 else if nd=dd then 5 else if(nd:Int)=s0 then 3 else 0
theorem SA.add (h:SA B S C m dd nd cs x d ids i) (hi:i<13) {s0:Int} (hs0:S 0=4*s0) (hs4:S 4=20) (hd3:dd<=3) (hn0:(nd:Int)<=s0) (id:Int) (hid:U id) (long:Bool) :
  ∃ cs' x' nd' d' d2 ids',tN B S C m dd 64 nd id (if long then Ti else SG i) cs x d (Sz dd s0 nd ids id long) cs' x' nd' d'/\SA B S C m dd nd' cs' x' d2 ids' (i+1) /\
   ((Sz dd s0 nd ids id long=0/\nd'=nd+1/\ids'=ids++[id])∨(Sz dd s0 nd ids id long≠0/\cs'=cs/\x'=x/\nd'=nd/\ids'=ids)):=by
 have hver:x.dR+1<=4294967295:=by have:=h.dR;have:=h.inv.nd_;omega
 have hdup:=h.dup id
 have hused:=h.inv.ws.used
 -- where it is refused
 have err:∀ F,(∀ e cs' x' nd' d',tN B S C m dd 64 nd id F cs x d e cs' x' nd' d'->e=Sz dd s0 nd ids id long)->Sz dd s0 nd ids id long≠0->∃ cs' x' nd' d' d2 ids',tN B S C m dd 64 nd id F cs x d (Sz dd s0 nd ids id long) cs' x' nd' d'/\SA B S C m dd nd' cs' x' d2 ids' (i+1) /\
   ((Sz dd s0 nd ids id long=0/\nd'=nd+1/\ids'=ids++[id])∨(Sz dd s0 nd ids id long≠0/\cs'=cs/\x'=x/\nd'=nd/\ids'=ids)):=by
  intro F hF hne
  obtain⟨e,cs',x',nd',d',g⟩:=h.inv.add id F hid hver
  obtain rfl:=hF e cs' x' nd' d' g
  obtain⟨_,hc,hx,hn⟩ | ⟨h0,_⟩:=g.dR
  ·subst hc hx hn
   exact⟨_,_,_,d',d,ids,g,h.next,.inr ⟨hne,rfl,rfl,rfl,rfl⟩⟩
  ·exact absurd h0 hne
 cases long with
 | true =>
  refine err Ti (fun e cs' x' nd' d' g=>?_) (by unfold Sz;simp)
  have ho:=g.out
  have hl:=Tt
  clear g
  have e4:Sz dd s0 nd ids id true=4:=rfl
  rw[e4]
  cases ho with
  | long=>exact hl
  | dup k=>rw[hl] at k;cases k
  | Jo k=>rw[hl] at k;cases k
  | terms k=>rw[hl] at k;cases k
  | full k=>rw[hl] at k;cases k
  | ok k=>rw[hl] at k;cases k
 | false =>
  obtain⟨hE,hk,hz⟩:=SV i hi
  obtain⟨hf1,hmj⟩:=h.need hi
  have hterms:¬ (64:Int)<x.terms+dJ (iK cs d m (dQ (SG i))):=by rw[hf1,h.terms];have:=h.inv.nd_;omega
  by_cases hin:id∈ids
  ·have ew:Sz dd s0 nd ids id false=6:=by unfold Sz;rw[if_neg dZ,if_pos hin]
   rw[decide_eq_true hin] at hdup
   refine err (SG i) (fun e cs' x' nd' d' g=>?_) (by rw[ew];decide)
   rw[ew]
   have ho:=g.out
   clear g
   cases ho with
   | long k=>exact absurd hE k
   | dup=>rfl
   | Jo _ k=>rw[hdup] at k;cases k
   | terms _ k=>rw[hdup] at k;cases k
   | full _ k=>rw[hdup] at k;cases k
   | ok _ k=>rw[hdup] at k;cases k
  rw[decide_eq_false hin] at hdup
  by_cases hdd:nd=dd
  ·have ew:Sz dd s0 nd ids id false=5:=by unfold Sz;rw[if_neg dZ,if_neg hin,if_pos hdd]
   refine err (SG i) (fun e cs' x' nd' d' g=>?_) (by rw[ew];decide)
   rw[ew]
   have ho:=g.out
   clear g
   cases ho with
   | long k=>exact absurd hE k
   | dup _ k=>rw[hdup] at k;cases k
   | Jo=>rfl
   | terms _ _ k=>omega
   | full _ _ k=>omega
   | ok _ _ k=>omega
  have hnd:=h.inv.nd_
  by_cases hs:(nd:Int)=s0
  ·have ew:Sz dd s0 nd ids id false=3:=by unfold Sz;rw[if_neg dZ,if_neg hin,if_neg hdd,if_pos hs]
   have hfit:je x.used (fZ B S (iK cs d m (dQ (SG i)))) S=false:=Fj (j:=0) oZ (by
    rw[hmj 0,if_pos rfl,h.u0,hs0]
    omega)
   refine err (SG i) (fun e cs' x' nd' d' g=>?_) (by rw[ew];decide)
   rw[ew]
   have ho:=g.out
   clear g
   cases ho with
   | long k=>exact absurd hE k
   | dup _ k=>rw[hdup] at k;cases k
   | Jo _ _ k=>omega
   | terms _ _ _ k=>exact absurd k hterms
   | full=>rfl
   | ok _ _ _ _ k=>rw[hfit] at k;cases k
  ·have ew:Sz dd s0 nd ids id false=0:=by unfold Sz;rw[if_neg dZ,if_neg hin,if_neg hdd,if_neg hs]
   have hfit:je x.used (fZ B S (iK cs d m (dQ (SG i)))) S=true:=qo fun j hj=>qH.2 (by
    have:=hused j hj
    rw[hmj j]
    refine⟨this.1,this.2,?_,?_⟩
    ·split
     ·omega
     ·split <;> omega
    ·by_cases e:j=0
     ·subst e
      rw[if_pos rfl,h.u0,hs0]
      omega
     ·rw[if_neg e]
      by_cases e4:j=4
      ·subst e4
       rw[if_pos rfl,h.u4,hs4]
       omega
      ·rw[if_neg e4]
       omega)
   obtain⟨cs',x',d',g,hoth,hus,hte⟩:=h.inv.Tu id (SG i) hid hver hE hdup oZ hterms hfit
   rw[ew]
   refine⟨cs',x',nd+1,d',d',ids++[id],g,⟨g.inv,by rw[List.length_append,h.len];rfl,fun j y hj=>?_,fun k k1 k2=>?_,?_,?_,?_,?_⟩,.inl ⟨rfl,rfl,rfl⟩⟩
   ·obtain⟨r1,_,r3⟩:=g.rows rfl
    by_cases hjl:j<ids.length
    ·rw[List.getElem?_append_left hjl] at hj
     rw[r3 j 1 (by have:=h.len;omega) oZ oZ]
     exact h.ids_ j y hj
    ·rw[List.getElem?_append_right oZ] at hj
     have hj0:j-ids.length=0:=by
      by_cases e:j-ids.length=0
      ·exact e
      ·rw[List.getElem?_eq_none uZ] at hj
       cases hj
     rw[hj0] at hj
     simp only[List.getElem?_cons_zero,Option.some.injEq] at hj
     rw[show j=nd by have:=h.len;omega,r1,hj]
   ·rw[hoth (Tj k) (by rw[hk];simp[Tj];omega)]
    exact h.fresh k oZ k2
   ·rw[hus 0 oZ,hmj 0,if_pos rfl,h.u0]
    omega
   ·rw[hus 4 oZ,hmj 4,if_neg oZ,if_pos rfl,h.u4]
    omega
   ·rw[hte,hf1,h.terms]
    omega
   ·obtain⟨h0,_⟩ | ⟨_,h1,_⟩:=g.dR
    ·exact absurd rfl h0
    ·have:=h.dR
     omega
end
structure CN (d t:Int) (s:Nat->Int) (bk rm:Int) (n an ln m dd:Nat):Prop where
 laid:Laid (az (aB s bk rm)) (aB s bk rm) (n:Int)
 plan:af (az (aB s bk rm)) (aB s bk rm) (az (aB s bk rm) 6) (slotsOf t) (bY d t)=af (az (aB s bk rm)) (aB s bk rm) (n:Int) (m:Int) (ln:Int)
 cells:az (aB s bk rm) 6=(n:Int)
 dd_:d=(dd:Int)
 an_:az (aB s bk rm) 5=(an:Int)
 ln_:(ln:Int)=1+4*(dd:Int)+(m:Int)
 m0:128<=m
 m1:m<=512
 tm:t<m
 t0:64<=t
 t1:t<=256
 d1:dd<=64
 a3:3<=an
 s0:0<=aB s bk rm 5
 fits:(an:Int)+aB s bk rm 5=(n:Int)
 n1:n<=65536
theorem QK {d t:Int} {s:Nat->Int} {bk rm:Int} (h:fU d t s bk rm):∃ n an ln m dd:Nat,CN d t s bk rm n an ln m dd:=by
 have hL:=IC h
 have h5:=hL.pool (show 5<6 by omega)
 have hd0:=h.1.d0
 have hd1:=h.1.d1
 have ht0:=h.1.t0
 have ht1:=h.1.t1
 have hc:=h.2
 have hb6:az (aB s bk rm) 6=az (aB s bk rm) 5+aB s bk rm 5:=rfl
 have hsl:128<=slotsOf t/\slotsOf t<=512/\t<slotsOf t:=by
  unfold slotsOf
  split
  ·omega
  ·split <;> omega
 have hlv:bY d t=1+4*d+slotsOf t:=rfl
 obtain⟨n,hn⟩:=Int.eq_ofNat_of_zero_le (show 0<=az (aB s bk rm) 6 by omega)
 obtain⟨an,han⟩:=Int.eq_ofNat_of_zero_le (show 0<=az (aB s bk rm) 5 by omega)
 obtain⟨m,hm⟩:=Int.eq_ofNat_of_zero_le (show 0<=slotsOf t by omega)
 obtain⟨dd,hdd⟩:=Int.eq_ofNat_of_zero_le (show 0<=d by omega)
 obtain⟨ln,hln⟩:=Int.eq_ofNat_of_zero_le (show 0<=bY d t by omega)
 refine⟨n,an,ln,m,dd,⟨by rw[<- hn];exact hL,by rw[hn,hm,hln],hn,hdd,han,oZ,oZ,oZ,oZ,ht0,ht1,oZ,oZ,h5.2.1,oZ,oZ⟩⟩
theorem CN.new {d t:Int} {s:Nat->Int} {bk rm:Int} {n an ln m dd:Nat} (h:CN d t s bk rm n an ln m dd) (hfit:(ln:Int)+2<=aB s bk rm 5):WI (az (aB s bk rm)) (aB s bk rm) (n:Int) m dd t 0 (nI n an ln) (bn an ln) (fun _=>none) :=
 WI.new h.laid rfl h.an_ h.ln_ hfit (by have:=h.m0;omega) h.m1 h.d1 (by have:=h.t0;omega) h.tm
def Qo (k:Nat):Int:=[2,1,0,0].getD k 0
def PU:List ByteArray:=[⟨#[102,111,120,32,102,111,120]⟩]
abbrev KZ:Nat->Int:=aB Qo 20 200
abbrev A7:Nat->Int:=az KZ
theorem LU:fU ((2:Nat):Int) 64 Qo 20 200 :=
 ⟨{d0:=dZ,d1:=dZ,t0:=dZ,t1:=dZ,s0:=dZ,s1:=dZ,b0:=dZ,b1:=dZ,r0:=dZ,r1:=by decide},dZ⟩
theorem PK:CN ((2:Nat):Int) 64 Qo 20 200 247 47 137 128 2 :=
 {laid:=IC LU,plan:=by
   rw[show az (aB Qo 20 200) 6=((247:Nat):Int) from by decide,show slotsOf 64=((128:Nat):Int) from by decide,show bY ((2:Nat):Int) 64=((137:Nat):Int) from by decide]
  cells:=dZ,dd_:=rfl,an_:=dZ,ln_:=dZ,m0:=dZ,m1:=dZ,tm:=dZ,t0:=dZ,t1:=dZ,d1:=dZ,a3:=dZ,s0:=dZ,fits:=dZ,n1:=by decide}
theorem PM:A7 5=47:=dZ
theorem QU:jM PU=0:=by decide +kernel
theorem Oq:(df (nI 247 47 137) 7 0 (bn 47 137).aH).2.2=false:=by decide +kernel
theorem MF:(bn 47 137).terms+dJ (iK (nI 247 47 137) (fun _=>none) 128 (dQ PU))<=64:=by decide +kernel
theorem OX:je (bn 47 137).used (fZ A7 KZ (iK (nI 247 47 137) (fun _=>none) 128 (dQ PU))) KZ=true:=by decide +kernel
def zJ (dead:Prop) (v:Int) (nd:Nat) (cs:List Int) (x:Sx):Prop:=nd=1/\bK cs (A7 5+1+1)=7/\(bK cs (A7 5+1+3)≠0↔dead)/\x.dR=v
theorem Qa {e:Int} {cs':List Int} {x':Sx} {nd':Nat} {d':dm} (g:tN A7 KZ (247:Nat) 128 2 64 0 7 PU (nI 247 47 137) (bn 47 137) (fun _=>none) e cs' x' nd' d'):zJ False 1 nd' cs' x':=by
 have he:e=0:=by
  cases g.out with
  | long h=>exact absurd QU h
  | dup _ h=>exact absurd h (by rw[Oq];decide)
  | Jo _ _ h=>omega
  | terms _ _ _ h=>exact absurd MF oZ
  | full _ _ _ _ h=>exact absurd h (by rw[OX];decide)
  | ok=>rfl
 obtain⟨r1,r2,-⟩:=g.rows he
 obtain⟨h0,-⟩ | ⟨-,h1,h2⟩:=g.dR
 ·exact absurd he h0
 ·refine⟨h2,?_,?_,h1⟩
  ·rw[<- r1];congr 1
  ·rw[show A7 5+1+3=A7 5+1+4*((0:Nat):Int)+3 by omega,r2];simp
theorem BC {cs:List Int} {x:Sx} {nd:Nat} (hs:x.aH=[(A7 5,(nd:Int),false)]) (h1:nd=1) (h7:bK cs (A7 5+1+1)=7):df cs 7 0 x.aH=(((0:Nat):Int),((0:Nat):Int),true):=by
 subst h1
 have hf:kD cs (dN (A7 5,((1:Nat):Int),false)) ((1:Nat):Int).toNat 7=0:=by
  show mM cs (A7 5+1) 7 1 0=0
  unfold mM
  rw[if_pos (by rw[<- h7];congr 1)]
  rfl
 rw[hs]
 unfold df
 rw[hf]
 rfl
section
variable {dead:Prop} {C:Int} {m dd:Nat} {tt:Int} {nd nd':Nat} {cs cs':List Int} {x x':Sx} {d d':dm} {e:Int} {v:Int}
theorem Qx (hI:WI A7 KZ C m dd tt nd cs x d) (hP:zJ dead v nd cs x) (g:tN A7 KZ C m dd tt nd 7 PU cs x d e cs' x' nd' d'):zJ dead v nd' cs' x':=by
 have hp:=BC hI.aH hP.1 hP.2.1
 have he:e≠0:=by
  cases g.out with
  | long h=>exact h
  | dup _ h=>decide
  | Jo _ h=>rw[hp] at h;cases h
  | terms _ h=>rw[hp] at h;cases h
  | full _ h=>rw[hp] at h;cases h
  | ok _ h=>rw[hp] at h;cases h
 obtain⟨-,h1,h2,h3⟩ | ⟨h0,-⟩:=g.dR
 ·rw[h1,h2,h3];exact hP
 ·exact absurd h0 he
theorem Ls (hI:WI A7 KZ C m dd tt nd cs x d) (hP:zJ False 1 nd cs x) (g:uI A7 KZ C m dd tt nd 7 cs x d e cs' x'):zJ True 2 nd cs' x':=by
 have hp:=BC hI.aH hP.1 hP.2.1
 have hb:=PM
 have ht:bK cs 51=0:=by
  have:=hP.2.2.1
  rw[hb] at this
  simpa using this
 have hv:=hP.2.2.2
 cases g.out with
 | none h=>rw[hp] at h;cases h
 | dead h hk ha _ h0 =>
  rw[hp] at h
  injection h with _ h
  injection h with h _
  exact absurd (show cs.getD _ 0=0 from by rw[<- ht];unfold bK;congr 1;omega) h0
 | live h hk ha _ h0 =>
  rename_i k a _
  rw[hp] at h
  injection h with _ h
  injection h with h _
  have ha51:a=51:=oZ
  subst ha51
  have hu:u32 (x.dR+1)=2:=by rw[hv];decide
  refine⟨hP.1,?_,?_,hu⟩
  ·rw[<- hP.2.1,bU _ _ _ _ oZ,if_neg oZ,bU _ _ _ _ oZ,if_neg oZ]
  ·rw[hb,hu,bU _ _ _ _ oZ,if_neg oZ,bU _ _ _ _ oZ,if_pos ⟨oZ,oZ⟩]
   simp
theorem PE (hI:WI A7 KZ C m dd tt nd cs x d) (hP:zJ True 2 nd cs x) (g:uI A7 KZ C m dd tt nd 7 cs x d e cs' x'):zJ True 2 nd cs' x':=by
 have hp:=BC hI.aH hP.1 hP.2.1
 have hb:=PM
 have ht:bK cs 51≠0:=by
  have:=hP.2.2.1
  rw[hb] at this
  exact this.2 trivial
 cases g.out with
 | none h=>exact hP
 | dead=>exact hP
 | live h hk ha _ h0 =>
  rename_i k a _
  rw[hp] at h
  injection h with _ h
  injection h with h _
  have ha51:a=51:=oZ
  subst ha51
  exact absurd h0 ht
end
end Go.Proofs.YtlfndoclbebdaaaGreatDoor
