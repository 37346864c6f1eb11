/-
 What stage 12 rests on.
-/
import Derived.Test.YtafaohnhlgcnpaaGreatDoorWrAlH3
set_option maxRecDepth 100000
set_option maxHeartbeats 16000000
namespace Go.Proofs.YtafaohnhlgcnpaaGreatDoor
open Go.RowKit
theorem rH:∀ (l c:List Nat),∀ q∈qj c l,q.length<=c.length+l.length
 | [],c,q,hq=>by
  rw[nQ] at hq;split at hq
  ·simp at hq
  ·simp at hq;subst hq;simp
 | r :: l,c,q,hq=>by
  rw[jw] at hq;rw[List.length_cons];split at hq
  ·split at hq
   ·have:=rH l [] q hq;simp at this;omega
   ·rcases List.mem_cons.1 hq with rfl | hq
    ·omega
    ·have:=rH l [] q hq;simp at this;omega
  ·have:=rH l (c++[r]) q hq;rw[List.length_append] at this;simp at this;omega
theorem Bo {w:World} {base:Nat} {v:Value} {vs:List Value} (h:kU w base v vs):∃ oa cap,v=.slice oa vs.length cap/\∀ j x,vs[j]?=some x->∃ ad,oa=some ad/\w.cell? (ad.add j)=some x:=by
 rcases h.2 with ⟨rfl,h0⟩ | ⟨g,cap,cur,rfl,hb,hg,hn,hm,hs,ht⟩
 ·have:vs=[]:=List.eq_nil_of_length_eq_zero h0;subst this;exact⟨none,0,rfl,fun j x hj=>by simp at hj⟩
 ·exact⟨_,cap,rfl,fun j x hj=>⟨_,rfl,World.ownsRow.cells h (g:=g) rfl j x hj⟩⟩
theorem Cr (W:World) (s:ByteArray) (hT:dE W) (hs:s.size<=1000000) :
  Calls Tryz.prog 120 #[.string s] W fun e w'=>∃ v,e=.returned v/\dW w' W.heap.size v (bR 0 (bF s))/\Below W.heap.size W w':=by
 obtain⟨iT,hi,hz0,hz1,hz2⟩:=info_parts nO;have HIT:=hJ (And.intro hi (And.intro hz0 (And.intro hz1 hz2)));have HT:=hJ hT;have HRn:=hJ (kept.runes W s hs);have hRl:=(iG s).1;have hok:=pI s;have hall:=IQ s;have HTm:=hJ (sN s);have HWs:=hJ (show bF s=bW 0 (allT s) from rfl);rw[hall] at HTm HWs;obtain⟨R,hRd⟩:∃ R,R=aW s:=⟨_,rfl⟩;rw[<- hRd] at HRn hRl hok hall HTm HWs;have hRl2:R.length<=1000000:=oZ;have hare:=qB R [] (by simp[bM]);have hlen:=rH R [];have hmany:=zP R [];obtain⟨qs,hqs⟩:∃ qs,qs=mQ R:=⟨_,rfl⟩;have HCut:Hid (∀ (w:World) (oa:Option Addr) (c:Nat),dE w->iR w oa (ints R)->R.length<=c->c<=maxLen->Calls Tryz.prog 153 #[.slice oa R.length c] w fun e w'=>∃ v vs,e=.returned v/\kU w' w.heap.size v vs/\nM w vs qs/\Below w.heap.size w w'):=hJ (fun w oa c h1 h2 h3 h4=>by rw[hqs];exact GA w oa c R h1 h2 hRl2 h3 h4)
 have HQ:Hid (∀ q∈qs,bM q/\(∀ r∈q,gI r)/\q.length<=1000000):=hJ (fun q hq=>by
  rw[hqs] at hq;obtain⟨h1,h2,h3⟩:=hare q hq;have h4:=hlen q hq;simp at h4;exact⟨h2,fun r hr=>hok r (by have:=h3 r hr;simpa using this),oZ⟩)
 rw[show mQ R=qs from hqs.symm] at HTm HWs;obtain⟨n,hn⟩:∃ n,n=qs.length:=⟨_,rfl⟩
 have hn2:n<=1000001:=by
  have:(mQ R).length<=R.length+1:=hmany;rw[<- hqs] at this;omega
 have HN:=hJ hn;clear hi hz0 hz1 hz2 hT hok hall hRd hare hlen hmany hqs hn hRl hs;go_enter Tryz.func120,Tryz.ntmps120
 go_wp2_with fail
 refine HRn.out.mono ?_;rintro e w1 ⟨oa1,c1,he,h1,h2,h3,hb1,_⟩;rw[ig] at he h1;subst he;have HC:=hJ (HCut.out w1 oa1 c1 (HT.out.below hb1) h3 h1 h2);have HB1:=hJ hb1;clear h1 h2 h3 hb1 HRn;go_wp2_with fail
 refine HC.out.mono ?_;rintro e w2 ⟨v,vs,rfl,hp,hps,hb2⟩;obtain⟨ov,cv,hv,hrd⟩:=Bo hp;rw[hps.1,<- HN.out] at hv;subst hv;have HP:=hJ hps;have HRd:=hJ hrd;have HB2:=hJ hb2;have hs2:=hb2.size;clear hp hps hrd hb2 HC HCut;go_wp2_with fail
 go_loopw [3,11] (fun vo iv wr=>∃ i:Nat,i<=n/\iv=.int .i64 i/\dW wr w2.heap.size vo (bR 0 (bW 0 ((qs.map gT).take i)))/\Below w2.heap.size w2 wr) (fun _ iv _=>n-(intOf iv).toNat)
 case atStart=>exact⟨0,oZ,rfl,World.ownsRow_nil _ _ _ _,Below.refl _ _⟩
 case round =>
  obtain⟨i,hi,rfl,hown,hlow⟩:=hrel;have hlow1:Below w1.heap.size w1 wr:=HB2.out.trans (hlow.mono hs2);have hlow0:Below W.heap.size W wr:=HB1.out.trans (hlow1.mono HB1.out.size);by_cases hlt:i<n
  ·obtain⟨q,hq⟩:∃ q,qs[i]?=some q:=⟨_,gZ (by rw[<- HN.out];exact hlt)⟩;obtain⟨x,hx⟩:∃ x,vs[i]?=some x:=⟨_,gZ (by rw[HP.out.1,<- HN.out];exact hlt)⟩;obtain⟨oq,cq,rfl,hq1,hq2,hq3⟩:=HP.out.2 i x q hx hq;obtain⟨ad,rfl,hcell0⟩:=HRd.out i _ hx;have hcell:=az hcell0 hlow;obtain⟨hql,hqo,hq6⟩:=HQ.out q (List.mem_of_getElem? hq);have ht:(qs.map gT)[i]?=some (gT q):=by rw[List.getElem?_map,hq];rfl
   have hlt2:=zT (HTm.out (gT q) (List.mem_of_getElem? ht));obtain⟨m,hm⟩:∃ m,q.length=m:=⟨_,rfl⟩;rw[hm] at hcell hq1 hq6;have HTe:=hJ (DI wr oq cq m q hm (HT.out.below hlow0) (hq3.below hlow1) hq1 hq6 hql hqo);have HS:=hJ (fun w=>DY w (ay (gT q)));rw[aX _ hlt2] at HS;have HPl:=hJ (uo (qs.map gT) i (gT q) ht);have HO:=hJ hown;have HL:=hJ hlow;have hpl:(bW 0 ((qs.map gT).take i)).length<=1000001:=by have:=mh ((qs.map gT).take i) 0;rw[List.length_take] at this;omega
   have HLn:=hJ (show (bR 0 (bW 0 ((qs.map gT).take i))).length<=1000001 by rw[gP];exact hpl);obtain⟨y,hy⟩:∃ y,y=ay (gT q):=⟨_,rfl⟩;rw[<- hy] at HTe HS;have HY:=hJ hy;generalize gT q=t at HS HPl HY;clear hown hlow hlow0 hlow1 ht hlt2 hpl hy hx hq hq1 hq2 hq3 hcell0 hql hqo hq6 hm;by_cases hst:kX t=true
   ·rw[hst] at HS HPl;go_wp2_with fail
    refine HTe.out.mono ?_;rintro e w5 ⟨rfl,hb5⟩;have HO5:=hJ (show dW w5 _ _ _ from ak HO.out hb5);have HL5:=hJ (HL.out.trans (hb5.mono HL.out.size));clear hb5 hcell;go_wp2_with fail
    refine(HS.out _).mono ?_;rintro e w6 ⟨rfl,rfl⟩;go_wp2_with fail
    go_roundw
    case rel=>exact⟨i+1,oZ,by go_num,by rw[HPl.out];simpa using HO5.out,HL5.out⟩
    case measure=>simp[intOf];omega
   ·have hsf:kX t=false:=by simpa using hst
    rw[hsf] at HS HPl;clear hst hsf;go_wp2_with fail
    refine HTe.out.mono ?_;rintro e w5 ⟨rfl,hb5⟩;have HO5:=hJ (show dW w5 _ _ _ from ak HO.out hb5);have HL5:=hJ (HL.out.trans (hb5.mono HL.out.size));clear hb5 hcell;go_wp2_with fail
    refine(HS.out _).mono ?_;rintro e w6 ⟨rfl,rfl⟩;go_wp2_with (at_builtin;refine wpList_append_own _ rfl (.tmp 21) (.tmp 25) 169 rfl w2.heap.size 195 iT _ 3 32 Tryz.underlying169 HIT.out.1 HIT.out.2.1 HIT.out.2.2.1 HIT.out.2.2.2 rfl dZ _ (bR 0 (bW 0 ((qs.map gT).take i))).length (je (bR 0 (bW 0 ((qs.map gT).take i)))) rfl (World.ownsRow.alloc HO5.out _) ⟨w6.heap.size,0,none⟩ 1 1 [.int .u8 0,.string y,.int .i64 i] rfl rfl nI vZ (by have:=HLn.out;unfold maxLen;omega) (by have:=HLn.out;omega) (by have:=HL5.out.size;simp;omega) ?_;intro v' w7 ho hg _;have HO6:=hJ (xS (x:=(0,y,(i:Int))) HL5.out HO5.out ho hg);clear ho hg)
    go_roundw
    case rel=>exact⟨i+1,oZ,by go_num,by rw[HPl.out];have:=HO6.out.1;rw[HY.out] at this;simpa [bR] using this,HO6.out.2⟩
    case measure=>simp[intOf];omega
  ·have hi':i=n:=oZ;rw[show (qs.map gT).take i=qs.map gT from List.take_of_length_le (by rw[List.length_map,<- HN.out];omega)] at hown;have HO:=hJ (show dW wr W.heap.size _ _ from Cn hown (Nat.le_trans HB1.out.size hs2));have HL:=hJ hlow0;clear hown hlow hlow0 hlow1;go_wp2_with fail
   go_ret;exact⟨_,rfl,by rw[HWs.out];exact HO.out,HL.out⟩
theorem yG (W:World) (oa:Option Addr) (c:Nat) (F:List ByteArray) (hT:dE W) (hF:fU W oa F) (hs:∀ x∈F,x.size<=1000000) (hn:F.length<=1000000) :
  Calls Tryz.prog 84 #[.slice oa F.length c] W fun e w'=>∃ v,e=.returned (.tuple #[v,.int .i64 (iN F)])/\dW w' W.heap.size v (dz F)/\Below W.heap.size W w':=by
 obtain⟨iT,hi,hz0,hz1,hz2⟩:=info_parts nO;have HIT:=hJ (And.intro hi (And.intro hz0 (And.intro hz1 hz2)));have HTb:=hJ hT;have HF:=hJ hF;have HS:=hJ hs;have bad:xg F->dz F=[]/\iN F=4:=fun h=>⟨by unfold dz;rw[if_pos h],by unfold iN;rw[if_pos h]⟩;have good:¬ xg F->dz F=bH F/\iN F=0:=fun h=>⟨by unfold dz;rw[if_neg h],by unfold iN;rw[if_neg h]⟩;have HBad:=hJ bad;have HGood:=hJ good;obtain⟨n,hnn⟩:∃ n,F.length=n:=⟨_,rfl⟩;have HN:=hJ hnn;rw[hnn] at hn ⊢;clear hi hz0 hz1 hz2 hT hF hs bad good hnn;by_cases h4:4<n
 ·obtain⟨hl,he⟩:=HBad.out (.inl (.inl (by rw[HN.out];exact h4)));rw[hl,he];clear hl he;go_enter Tryz.func84,Tryz.ntmps84
  go_wp2_with fail
  go_ret2
  exact⟨_,rfl,World.ownsRow_nil _ _ _ _,Below.refl _ _⟩
 have h4i:¬ (4:Int)<(n:Int):=oZ;go_enter Tryz.func84,Tryz.ntmps84
 go_wp2_with fail
 go_loopw [4,14] (fun vo iv wr=>∃ i:Nat,i<=n/\iv=.int .i64 i/\dW wr W.heap.size vo (bH (F.take i))/\(∀ j x,j<i->F[j]?=some x->x.size<=512)/\Below W.heap.size W wr) (fun _ iv _=>n-(intOf iv).toNat)
 case atStart=>exact⟨0,oZ,rfl,World.ownsRow_nil _ _ _ _,fun j x hj=>oZ,Below.refl _ _⟩
 case round =>
  obtain⟨i,hi,rfl,hown,hok,hlow⟩:=hrel;have HK:=hJ hok;clear hok;by_cases hlt:i<n
  ·obtain⟨x,hx⟩:∃ x,F[i]?=some x:=⟨_,gZ (by rw[HN.out];exact hlt)⟩;obtain⟨gF,oF,rfl,c0⟩:=(HF.out.below hlow) i x hx;have HX:=hJ hx;have HO:=hJ hown;have HL:=hJ hlow;clear hx hown hlow;by_cases hb:512<x.size
   ·have hbi:(512:Int)<(x.size:Int):=oZ;have HE:=hJ (HBad.out (.inl (.inr ⟨x,List.mem_of_getElem? HX.out,hb⟩)));go_wp2_with fail
    go_ret2
    exact⟨_,by rw[HE.out.2];rfl,by rw[HE.out.1];exact World.ownsRow_nil _ _ _ _,HL.out⟩
   ·have hbi:¬ (512:Int)<(x.size:Int):=oZ
    have HKn:Hid (∀ j y,j<i+1->F[j]?=some y->y.size<=512):=hJ (fun j y hj hy=>by
     by_cases hji:j<i
     ·exact HK.out j y hji hy
     ·obtain rfl:j=i:=oZ;rw[HX.out] at hy;cases hy;omega)
    have HWd:=hJ (Cr wr x (HTb.out.below HL.out) oZ)
    have HFt:=hJ (show bH (F.take (i+1))=bH (F.take i)++bR (i:Int) (bF x) by
     rw[List.take_add_one,HX.out];unfold bH;rw[Option.toList_some,mJ,List.length_take,Nat.min_eq_left (by rw[HN.out];omega),Nat.zero_add])
    have hfl:(bH (F.take i)).length<=4*513:=by
     have h1:=pM 512 (F.take i) 0 fun y hy=>by
      obtain⟨j,hj⟩:=List.getElem?_of_mem hy;rw[List.getElem?_take] at hj;split at hj
      ·exact HK.out j y aZ hj
      ·cases hj
     rw[List.length_take,HN.out] at h1;have h2:min i n*(512+1)<=4*513:=Nat.mul_le_mul oZ oZ;unfold bH;omega
    have hwl:=vI x;go_wp2_with fail
    refine HWd.out.mono ?_;rintro e w5 ⟨vl,rfl,hl5,hb5⟩;obtain⟨ol,cl,hvl,_,_,_⟩:=jA hl5;rw[gP] at hvl;obtain⟨m,hm⟩:∃ m,m=(bF x).length:=⟨_,rfl⟩;rw[<- hm] at hvl hwl;have HM:=hJ hm
    have hT0:Two W wr.heap.size u4 vl (bH (F.take i)) (bR 0 (bF x)) w5:=by
     refine⟨ak HO.out hb5,hl5,?_,HL.out.size,HL.out.trans (hb5.mono HL.out.size)⟩;cases h1:u4.ownBlock with
     | none=>exact .inl rfl
     | some k1 =>
      cases h2:vl.ownBlock with
      | none=>exact .inr (.inl rfl)
      | some k2 =>
       refine .inr (.inr fun e=>?_);injection e with e
       have a1:=(World.ownsRow.lt HO.out k1 h1).2;have a2:=(World.ownsRow.lt hl5 k2 h2).1;omega
    have HT0:=hJ hT0;obtain⟨b2,hb2⟩:∃ b2,b2=wr.heap.size:=⟨_,rfl⟩;rw[<- hb2] at HT0;subst hvl;clear hl5 hb5 hm hT0 HWd HO hb2 c0;go_wp2_with fail
    go_loopw [4,25] (fun vo kv wr=>∃ k:Nat,k<=m/\kv=.int .i64 k/\Two W b2 vo (.slice ol m cl) (bH (F.take i)++bR (i:Int) ((bF x).take k)) (bR 0 (bF x)) wr) (fun _ kv _=>m-(intOf kv).toNat)
    case atStart=>exact⟨0,oZ,rfl,by simpa [bR] using HT0.out⟩
    case round =>
     obtain⟨k,hk,rfl,hT⟩:=hrel;by_cases hkm:k<m
     ·obtain⟨y,hy⟩:∃ y,(bF x)[k]?=some y:=⟨_,gZ (by rw[<- HM.out];exact hkm)⟩;have hB:(bR 0 (bF x))[k]?=some ((0:Int),ay y.1,(y.2:Int)):=by simp[bR,hy]
      obtain⟨g,off,hol,d0,d1,d2⟩:=hT.reads k _ hB;subst hol;simp only at d0 d1 d2;have HAk:=hJ (show bR (i:Int) ((bF x).take (k+1))=bR (i:Int) ((bF x).take k)++[((i:Int),ay y.1,(y.2:Int))] by rw[List.take_add_one,hy];simp[bR])
      have hal:(bH (F.take i)++bR (i:Int) ((bF x).take k)).length<=4*513+513:=by
       rw[List.length_append,gP,List.length_take,<- HM.out];omega
      obtain⟨a,ha⟩:∃ a,(bH (F.take i)++bR (i:Int) ((bF x).take k)).length=a:=⟨_,rfl⟩;rw[ha] at hal;have HAl:=hJ ha;have HNext:=hJ (fun(vo:Value) (w':World) (h:Two W b2 vo (.slice (some ⟨g,off,none⟩) m cl) ((bH (F.take i)++bR (i:Int) ((bF x).take k))++[((i:Int),ay y.1,(y.2:Int))]) (bR 0 (bF x)) w')=>show Two W b2 vo (.slice (some ⟨g,off,none⟩) m cl) (bH (F.take i)++bR (i:Int) ((bF x).take (k+1))) (bR 0 (bF x)) w' by rw[HAk.out,<- List.append_assoc];exact h);have HTw:=hJ hT;generalize hAA:bH (F.take i)++bR (i:Int) ((bF x).take k)=A at HAl HNext HTw;generalize ay y.1=t at d1 HNext;generalize ((y.2:Nat):Int)=p at d2 HNext;clear hT hB hy ha hAA HAk;have hi4:i<4:=oZ;have hwr:IntKind.u8.wrap (i:Int)=(i:Int):=by rcases (show i=0∨i=1∨i=2∨i=3 by omega) with rfl | rfl | rfl | rfl <;> decide
      have HT2:=hJ ((HTw.out.alloc (.cells #[.int .u8 i,.string t,.int .i64 p] 195)).alloc (.cells #[.int .u8 i,.string t,.int .i64 p] 195));go_wp2_with (at_builtin;refine wpList_append_lies _ rfl (.tmp 32) (.tmp 34) 169 rfl W.heap.size 195 iT _ 3 32 Tryz.underlying169 HIT.out.1 HIT.out.2.1 HIT.out.2.2.1 HIT.out.2.2.2 rfl dZ u4 a (je A) rfl (by have:=HT2.out.out;unfold dW at this;rw[HAl.out] at this;exact this) ⟨wr.heap.size+1,0,none⟩ 1 1 [.int .u8 i,.string t,.int .i64 p] rfl rfl (Em (eO wr _ _)) vZ dZ mZ oZ HT2.out.low.size _ rfl ?_;intro g' c' w' ho2 hg2 hl2 _;have HN2:=hJ (HNext.out _ _ (by have hm:=HT2.out.more (x:=((i:Int),t,p)) (g:=g') (cap:=c') (by rw[HAl.out];exact ho2) hg2 hl2;rw[HAl.out] at hm;exact hm));clear ho2 hg2 hl2)
      go_roundw
      case rel=>exact⟨k+1,oZ,by go_num,HN2.out⟩
      case measure=>simp[intOf];omega
     ·have hk':k=m:=oZ
      have hT2:Two W b2 u4 (.slice ol m cl) (bH (F.take (i+1))) (bR 0 (bF x)) wr:=by
       rw[HFt.out];rw[show (bF x).take k=bF x from List.take_of_length_le (by rw[<- HM.out];omega)] at hT;exact hT
      have HT2:=hJ hT2;clear hT hT2;go_wp2_with fail
      go_roundw
      case rel=>exact⟨i+1,oZ,by go_num,HT2.out.out,HKn.out,HT2.out.low⟩
      case measure=>simp[intOf];omega
  ·have hi':i=n:=oZ
   have HSm:=hJ (show ∀ x∈F,x.size<=512 by
    intro x hx;obtain⟨j,hj⟩:=List.getElem?_of_mem hx;exact HK.out j x (by have:=(eZ.1 hj).1;rw[HN.out] at this;omega) hj)
   rw[show F.take i=F from List.take_of_length_le (by rw[HN.out];omega)] at hown;obtain⟨ao,co,rfl⟩:=dP hown (bH F).length rfl;have HO:=hJ hown;have HL:=hJ hlow;obtain⟨z,hz⟩:∃ z,(bH F).length=z:=⟨_,rfl⟩;have HZ:=hJ hz;rw[hz];clear hown hlow hz;by_cases h64:64<z
   ·have h64i:(64:Int)<(z:Int):=oZ;have HE:=hJ (HBad.out (.inr (by rw[HZ.out];exact h64)));go_wp2_with fail
    go_ret2
    exact⟨_,by rw[HE.out.2];rfl,by rw[HE.out.1];exact World.ownsRow_nil _ _ _ _,HL.out⟩
   ·have h64i:¬ (64:Int)<(z:Int):=oZ
    have HE:=hJ (HGood.out (by
     rintro((h | ⟨x,hx,hb⟩) | h)
     ·rw[HN.out] at h;omega
     ·have:=HSm.out x hx;omega
     ·rw[HZ.out] at h;omega))
    rw[HZ.out] at HO;go_wp2_with fail
    go_ret2
    exact⟨_,by rw[HE.out.2];rfl,by rw[HE.out.1];exact HO.out,HL.out⟩
theorem Co {W : World} (h : laidMetH Tryz.prog [("plover/fold.kinds", Rows.laid_plover_fold_kinds), ("plover/fold.shifts", Rows.laid_plover_fold_shifts)] W) : TW W := KP h
end Go.Proofs.YtafaohnhlgcnpaaGreatDoor
