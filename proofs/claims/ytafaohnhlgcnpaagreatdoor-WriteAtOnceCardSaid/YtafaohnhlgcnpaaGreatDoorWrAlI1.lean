/-
 What stage 12 rests on.
-/
import Derived.Test.YtafaohnhlgcnpaaGreatDoorWrAlH1
import Derived.Test.YtafaohnhlgcnpaaGreatDoorWrAlF1
set_option maxRecDepth 100000
set_option maxHeartbeats 16000000
namespace Go.Proofs.YtafaohnhlgcnpaaGreatDoor
open Go.RowKit
def xX {α:Type} (Q:α->Prop):Pr α->Prop
 | .ret x=>Q x
 | .load _ k=>∀ v,xX Q (k v)
 | .store _ _ k=>xX Q k
theorem xX.of {α:Type} {Q:α->Prop}:∀ {p:Pr α} {st:St} {x:α},xX Q p->(p.on st).1=some x->Q x
 | .ret y,st,x,h,e=>by
  cases e;exact h
 | .load a k,st,x,h,e=>by
  rw[vE] at e;split at e
  ·cases e
  ·exact(h _).of e
 | .store a v k,st,x,h,e=>by
  rw[tJ] at e;split at e
  ·cases e
  ·exact xX.of (p:=k) h e
theorem Aj {B S Us:Nat->Int} {t wd:Int} (hU:∀ k,k<6->0<=Us k/\Us k<=S k):xX (fun y=>∀ k,k<6->0<=y.2.1 k/\y.2.1 k<=S k) (eP B S Us t wd):=by
 have hz:∀ k,k<6->0<=(fun _:Nat=>(0:Int)) k/\(fun _:Nat=>(0:Int)) k<=S k:=fun k hk=>by have:=hU k hk;exact⟨Int.le_refl _,by show (0:Int)<=S k;omega⟩
 have hm:∀ k,aN k<=S k-Us k->∀ j,j<6->0<=more Us k (aN k) j/\more Us k (aN k) j<=S j:=by
  intro k hk j hj;have h1:=hU j hj;have:=dB k;unfold more;split
  ·rename_i e;subst e;omega
  ·exact h1
 unfold eP;split
 ·split
  ·exact hU
  ·split
   ·split
    ·exact hm _ aZ
    ·exact hm _ aZ
   ·exact hz
 ·exact hz
section
variable {w:World} {rb mb cb:Nat} {go:Option Nat} {st:St} {Bd:Nat}
theorem rO (a t:Int) (hrm:RM w rb mb cb go true st) (hf:st.dO Bd) (hB:Bd<1000000000) :
  Calls Tryz.prog 166 #[.pointer (some ⟨rb,0,none⟩),.int .i64 a,.int .i64 t] w fun e w'=>∃ go',e=.returned (.tuple #[])/\RM w' rb mb cb go' true ((gG a t).on st).2/\jl rb mb cb w go w' go':=by
 have HR:=hJ (fV.start hrm);have HF:=hJ hf;have HQ:=hJ (Rest.start (gG a t) st);obtain⟨y,hy⟩:∃ y,y=IntKind.u32.wrap t:=⟨_,rfl⟩;have s1:IntKind.u32.wrap t=y:=hy.symm;have HU:=hJ (show u32 t=y from s1);clear hrm hf hy;go_enter Tryz.func166,Tryz.ntmps166
 go_wp2_with fail
 refine(run_store HR.out.rm hB HF.out.ok a y).mono ?_;rintro e w2 ⟨rfl,go2,hr2,ha2⟩;have HR:=hJ (HR.out.access hr2 ha2);have hq:=HQ.out;unfold gG at hq;have hq2:=(hq.store HF.out).ret;rw[HU.out] at hq2;have HQ:=hJ hq2;clear hr2 ha2 hq hq2;go_wp2_with fail
 go_end0
 have hq:=HQ.out;unfold fw at hq;have hrm:=HR.out.rm;rw[<- hq.1] at hrm;exact⟨go2,rfl,hrm,HR.out.adv⟩
end
theorem Al {w:World} {rb mb cb:Nat} {go:Option Nat} {st:St} {Bd:Nat} {B S U:Nat->Int} {C T L t v:Int} (hrm:RM w rb mb cb go true st) (hf:st.dO Bd) (hB:Bd<1000000000) (hL:Laid B S C) (hU:∀ k,k<6->0<=U k/\U k<=S k) (v0:0<=v) (v1:v<=4294967295):Calls Tryz.prog 165 #[.pointer (some ⟨rb,0,none⟩),.agg (ae B S C T L),.agg (six U),.int .i64 t,.int .u32 v] w fun e w'=>∃ t' V er go',e=.returned (.tuple #[.int .i64 t',.agg (six V),.int .i64 er])/\RM w' rb mb cb go' true ((eP B S U t v).on st).2/\jl rb mb cb w go w' go'/\∀ y,((eP B S U t v).on st).1=some y->y=(t',V,er):=by
 refine(F3 (t:=t) (T:=T) (L:=L) hrm hf hB hL hU v0 v1).mono ?_;rintro e w' ⟨a,V,er,go',rfl,h1,h2,h3⟩;cases hs:((eP B S U t v).on st).1 with
 | none=>exact⟨a,V,er,go',rfl,h1,h2,(fun y hy=>by cases hy)⟩
 | some z =>
  obtain⟨z1,z2,z3⟩:=h3 z hs;exact⟨z.1,z.2.1,z.2.2,go',by rw[z1,z2,z3],h1,h2,(fun y hy=>by cases hy;rfl)⟩
def iQ (S0:Nat->Prop) (W:World) (rb mb cb:Nat) (go0:Option Nat) (g gt:Nat) (B S:Nat->Int) (C L sl:Int) (m:Nat) (Us:Nat->Int) (n cap:Nat) (vw:Value) (ts:List TR) (i:Nat) (x:TR) (wd:Int) (st:St) (e:Ending) (w':World):Prop :=
 ∃ a t V er go',e=.returned (.int .i64 er)/\(er=0->WF S0 W rb mb cb go0 g gt B S C (m:Int) L sl V n cap vw (ts.set i (x.1,x.2.1,a,t)) ((fB B S Us sl m x.1 x.2.2.1 x.2.2.2 wd).on st).2 go' w'/\(((fB B S Us sl m x.1 x.2.2.1 x.2.2.2 wd).on st).2.off=false->∀ k,k<6->0<=V k/\V k<=S k)) /\
  (er≠0->∃ V2 ts2,WF S0 W rb mb cb go0 g gt B S C (m:Int) L sl V2 n cap vw ts2 ((fB B S Us sl m x.1 x.2.2.1 x.2.2.2 wd).on st).2 go' w') /\
  ∀ y,((fB B S Us sl m x.1 x.2.2.1 x.2.2.2 wd).on st).1=some y->y.2.2.2=er/\(er=0->y.1=a/\y.2.1=t/\six y.2.2.1=six V)
theorem Iu {S0:Nat->Prop} {w:World} {rb mb cb:Nat} {go:Option Nat} {g gt:Nat} {B S:Nat->Int} {C L sl:Int} {m:Nat} {Us:Nat->Int} {n cap:Nat} {vw:Value} {ts:List TR} {st:St} {Bd:Nat} (h:WF S0 w rb mb cb go g gt B S C (m:Int) L sl Us n cap vw ts st go w) (hf:st.dO Bd) (hB:Bd<1000000000) {i:Nat} {x:TR} (hi:ts[i]?=some x) (hx:(∀ b∈x.1,b<256)/\x.1.length<=1000) (hs0:0<=sl) (hs1:sl<=1000000) (hm0:1<=m) (hm1:m<=1000000) (hL:Laid B S C) (hUs:∀ k,k<6->0<=Us k/\Us k<=S k) {wd:Int} (hv0:0<=wd) (hv1:wd<=4294967295) :
  Calls Tryz.prog 128 #[.pointer (some ⟨g,0,none⟩),.pointer (some ⟨gt,i*4,none⟩),.int .u32 wd] w fun e w'=>iQ S0 w rb mb cb go g gt B S C L sl m Us n cap vw ts i x wd st e w':=by
 have HF:=hJ hf;have HW:=hJ h;have hpool:=fun k (hk:k<6)=>hL.pool hk;have HEn:=hJ (FV h hf hB hi hx hs0 hs1 hm0 hm1 ⟨by have:=hpool 4 oZ;omega,by have:=hpool 4 oZ;omega⟩ (fun k hk=>⟨(hUs k hk).1,(hUs k hk).2,by have:=hpool k hk;omega⟩));obtain⟨c0,c1,c2,c3,c5,c6,c7⟩:=h.tr.cells hi;have hilt:=(eZ.1 hi).1;clear h hf hx hpool;by_cases hr0:x.2.2.1=0
 ·have b0:(x.2.2.1==0)=true:=by simpa using hr0
  have HQ0:=hJ (show Rest (fB B S Us sl m x.1 x.2.2.1 x.2.2.2 wd) ((jB B S Us sl m x.1).bind fun y=>if y.2.2≠0 then .ret (x.2.2.1,x.2.2.2,Us,y.2.2) else vP B S y.2.1 y.1 x.2.2.2 wd) st st from(Rest.start _ st).same (by unfold fB;rw[if_pos hr0]));clear hr0;go_enter Tryz.func128,Tryz.ntmps128
  go_wp2_with fail
  refine HEn.out.mono ?_;rintro e w1 ⟨a1,U1,er1,go1,rfl,hok,hbad,hans,hU1⟩;have hqb:=HQ0.out.bind HF.out (k:=(a1,U1,er1)) hans;have hF1:=fu (jB B S Us sl m x.1) st HF.out;obtain⟨st1,hst1⟩:∃ st1,st1=((jB B S Us sl m x.1).on st).2:=⟨_,rfl⟩;rw[<- hst1] at hok hbad hqb hF1;clear hst1 hans c0 c1 c2 c3 c5 c6 c7 HEn HQ0;by_cases her1:er1=0
  ·have b1:(er1 != 0)=false:=by simpa using her1
   have HF1:=hJ hF1;have HU1:=hJ hU1;have HW1:=hJ (hok her1);obtain⟨T1,hT1⟩:∃ T1,T1=ts.set i (x.1,x.2.1,a1,x.2.2.2):=⟨_,rfl⟩;obtain⟨x1,hx1⟩:∃ x1:TR,x1=(x.1,x.2.1,a1,x.2.2.2):=⟨_,rfl⟩;have hi1:T1[i]?=some x1:=by rw[hT1,hx1,List.getElem?_set,if_pos rfl,if_pos hilt]
   have HT1:=hJ (show (∀ z,T1.set i z=ts.set i z)/\x1.1=x.1/\x1.2.1=x.2.1 from⟨fun z=>by rw[hT1,List.set_set],by rw[hx1],by rw[hx1]⟩);have HQ1:=hJ (show Rest (fB B S Us sl m x.1 x.2.2.1 x.2.2.2 wd) (vP B S U1 x1.2.2.1 x1.2.2.2 wd) st st1 from hqb.same (by show (if er1≠0 then _ else _)=_;rw[if_neg oZ,hx1]));rw[<- hT1] at HW1;clear hok hbad hqb hF1 hU1 hT1 hx1 HF HW;subst her1;go_upto_region 5 with fail
   refine aI (fun(p:Int×(Nat->Int)×Int×Option Nat×Nat) j=>[.pointer (some ⟨g,0,none⟩),.pointer (some ⟨g,0,none⟩),.pointer (some ⟨g,0,none⟩),.pointer (some ⟨rb,0,none⟩),.pointer (some ⟨g,0,none⟩),.pointer (some ⟨g,0,none⟩),.pointer (some ⟨g,1,none⟩),.agg (ae B S C (m:Int) L),.pointer (some ⟨g,0,none⟩),.pointer (some ⟨g,0,none⟩),.pointer (some ⟨g,17,none⟩),.agg (six U1),.pointer (some ⟨gt,i*4,none⟩),.pointer (some ⟨gt,i*4,none⟩),.pointer (some ⟨gt,i*4+3,none⟩),.int .i64 x1.2.2.2,.int .u32 wd,.tuple #[.int .i64 p.1,.agg (six p.2.1),.int .i64 p.2.2.1],.tuple #[.int .i64 p.1,.agg (six p.2.1),.int .i64 p.2.2.1],.int .i64 p.1,.agg (six p.2.1),.int .i64 p.2.2.1,.pointer (some ⟨p.2.2.2.2,0,none⟩),.int .i64 p.1,undef,.int .i64 p.2.2.1].getD j undef)
    (fun p l wx=>(l 17=false->WF S0 w rb mb cb go g gt B S C (m:Int) L sl U1 n cap vw T1 st1 go1 wx)/\(l 17=true->WF S0 w rb mb cb go g gt B S C (m:Int) L sl U1 n cap vw T1 ((eP B S U1 x1.2.2.2 wd).on st1).2 p.2.2.2.1 wx/\(∀ y,((eP B S U1 x1.2.2.2 wd).on st1).1=some y->y=(p.1,p.2.1,p.2.2.1)))/\(l 22=true->w.heap.size<=p.2.2.2.2/\wx.heap[p.2.2.2.2]?=some (.cells (six (if l 24 then p.2.1 else fun _=>0)) 40 (0,0))))
    kZ kZ pZ (0,fun _=>0,0,none,0) ?_ ?_ ?_
   ·exact⟨fun _=>HW1.out.below (Below.refl _ _).drew,(fun h=>by cases h),(fun h=>by cases h)⟩
   ·intro i o ho p l wx hR hl he hcl K hK;rcases i with _|_|_|_|_|_|_|_|_|_|_|_|_|_|_|_|_|_|_|_|_|_|_|_|_|_|i
    any_goals first | (cases ho;go_simp;exact hK p wx (fun _ _=>rfl) hR;done) | fail
    ·cases ho
     obtain⟨stx,gox,hw⟩:∃ stx gox,WF S0 w rb mb cb go g gt B S C (m:Int) L sl U1 n cap vw T1 stx gox wx:=by
      cases h:l 17 with
      | false=>exact⟨_,_,hR.1 h⟩
      | true=>exact⟨_,_,(hR.2.1 h).1⟩
     have q:=aa hw.ad 0;go_simp;exact hK p wx (fun _ _=>rfl) hR
    ·cases ho
     obtain⟨stx,gox,hw⟩:∃ stx gox,WF S0 w rb mb cb go g gt B S C (m:Int) L sl U1 n cap vw T1 stx gox wx:=by
      cases h:l 17 with
      | false=>exact⟨_,_,hR.1 h⟩
      | true=>exact⟨_,_,(hR.2.1 h).1⟩
     refine aR 42 (.tmp 29) rfl g 1 rfl 176 (lC rb B S C (m:Int) L sl U1 (.slice (some ⟨gt,0,none⟩) n cap) vw) (ae B S C (m:Int) L) (0,0) _ hw.ad (kF _ _ _ _ _ _ _ _ _ _) Tryz.underlying42 rfl (ai _ _ _ _ _) ?_;exact hK p wx (fun _ _=>rfl) hR
    ·cases ho
     obtain⟨stx,gox,hw⟩:∃ stx gox,WF S0 w rb mb cb go g gt B S C (m:Int) L sl U1 n cap vw T1 stx gox wx:=by
      cases h:l 17 with
      | false=>exact⟨_,_,hR.1 h⟩
      | true=>exact⟨_,_,(hR.2.1 h).1⟩
     refine aR 40 (.tmp 33) rfl g 17 rfl 176 (lC rb B S C (m:Int) L sl U1 (.slice (some ⟨gt,0,none⟩) n cap) vw) (six U1) (0,0) _ hw.ad (oI _ _ _ _ _ _ _ _ _ _) Tryz.underlying40 rfl (af _) ?_;exact hK p wx (fun _ _=>rfl) hR
    ·cases ho
     obtain⟨stx,gox,hw⟩:∃ stx gox,WF S0 w rb mb cb go g gt B S C (m:Int) L sl U1 n cap vw T1 stx gox wx:=by
      cases h:l 17 with
      | false=>exact⟨_,_,hR.1 h⟩
      | true=>exact⟨_,_,(hR.2.1 h).1⟩
     have q:=(hw.tr.cells hi1).2.2.2.1;go_simp;exact hK p wx (fun _ _=>rfl) hR
    ·cases ho;have hw:=hR.1 hl;have HK:=Al (v:=wd) (t:=x1.2.2.2) (T:=(m:Int)) (L:=L) hw.run.rm HF1.out hB hL HU1.out hv0 hv1;go_simp;refine HK.mono ?_;rintro e w2 ⟨a,V,er,go2,rfl,hr2,ha2,hans⟩;refine hK (a,V,er,go2,p.2.2.2.2) w2 (fun j hj=>?_) ⟨(fun h=>by cases h),fun _=>⟨hw.access hr2 ha2,hans⟩,fun h=>?_⟩
     ·rcases j with _|_|_|_|_|_|_|_|_|_|_|_|_|_|_|_|_|_|_|_|_|_|_|_|_|_|j
      all_goals first | rfl | (rw[hl] at hj;cases hj) | (exact absurd (hcl 18 _ rfl hj ⟨17,.data⟩ sZ rfl) lZ) | (exact absurd (hcl 18 _ rfl (hcl 19 _ rfl hj ⟨18,.data⟩ sZ rfl) ⟨17,.data⟩ sZ rfl) lZ) | (exact absurd (hcl 18 _ rfl (hcl 20 _ rfl hj ⟨18,.data⟩ sZ rfl) ⟨17,.data⟩ sZ rfl) lZ) | (exact absurd (hcl 18 _ rfl (hcl 21 _ rfl hj ⟨18,.data⟩ sZ rfl) ⟨17,.data⟩ sZ rfl) lZ) | (exact absurd (hcl 18 _ rfl (hcl 19 _ rfl (hcl 23 _ rfl hj ⟨19,.data⟩ sZ rfl) ⟨18,.data⟩ sZ rfl) ⟨17,.data⟩ sZ rfl) lZ) | (exact absurd (hcl 18 _ rfl (hcl 20 _ rfl (hcl 24 _ rfl hj ⟨20,.data⟩ sZ rfl) ⟨18,.data⟩ sZ rfl) ⟨17,.data⟩ sZ rfl) lZ) | (exact absurd (hcl 18 _ rfl (hcl 21 _ rfl (hcl 25 _ rfl hj ⟨21,.data⟩ sZ rfl) ⟨18,.data⟩ sZ rfl) ⟨17,.data⟩ sZ rfl) lZ)
     ·have h24:l 24=false:=by
       cases h24:l 24 with
       | false=>rfl
       | true=>exact absurd (hcl 18 _ rfl (hcl 20 _ rfl (hcl 24 _ rfl h24 ⟨20,.data⟩ sZ rfl) ⟨18,.data⟩ sZ rfl) ⟨17,.data⟩ sZ rfl) lZ
      have hq:=hR.2.2 h;rw[h24] at hq;refine⟨hq.1,?_⟩;rw[if_neg (by show ¬ ((24==17||l 24)=true);rw[h24];decide)];exact hw.run.stays ha2 hq.2 (.inr hq.1) dZ
    ·cases ho;go_simp;have hb:Below wx.heap.size wx (wx.alloc (.cells (six fun _=>0) 40)):=aj
     have hsz:w.heap.size<=wx.heap.size:=by
      cases h:l 17 with
      | false=>exact(hR.1 h).run.size
      | true=>exact(hR.2.1 h).1.run.size
     refine hK (p.1,p.2.1,p.2.2.1,p.2.2.2.1,wx.heap.size) _ (fun j hj=>?_) ⟨fun h=>(hR.1 h).below hb,fun h=>⟨(hR.2.1 h).1.below hb,(hR.2.1 h).2⟩,fun _=>⟨hsz,?_⟩⟩
     ·rcases j with _|_|_|_|_|_|_|_|_|_|_|_|_|_|_|_|_|_|_|_|_|_|_|_|_|_|j
      all_goals first | rfl | (rw[hl] at hj;cases hj)
     ·have h24:l 24=false:=by
       cases h24:l 24 with
       | false=>rfl
       | true=>exact absurd (hcl 24 _ rfl h24 ⟨22,.data⟩ sZ rfl) lZ
      rw[if_neg (by show ¬ ((24==22||l 24)=true);rw[h24];decide)];exact nZ _ _
    ·cases ho;have h22:=he ⟨22,.data⟩ sZ rfl;have hq:=hR.2.2 h22;rw[if_neg lZ] at hq;have h17:=hcl 18 _ rfl (hcl 20 _ rfl (he ⟨20,.data⟩ sZ rfl) ⟨18,.data⟩ sZ rfl) ⟨17,.data⟩ sZ rfl;refine wp_store_row 40 (.tmp 9) (.tmp 42) rfl p.2.2.2.2 (six p.2.1) rfl rfl 40 _ hq.2 (af _) (aS _ _) (aQ _) ?_;have hm:bB (fun j=>j=p.2.2.2.2) wx (wx.setRow p.2.2.2.2 (six p.2.1)):=bB.setRow (S:=fun j=>j=p.2.2.2.2) (bB.refl _ _) (.inr rfl) _;exact hK p _ (fun _ _=>rfl) ⟨fun h=>absurd h17 (by rw[show l 17=false from h];decide),fun _=>⟨(hR.2.1 h17).1.turn hq.2 hq.1 dZ hm,(hR.2.1 h17).2⟩,fun _=>⟨hq.1,setRow_heap _ _ _ _ _ _ hq.2⟩⟩
    ·simp at ho
   ·intro p l wx hl hR;obtain⟨t2,V,er,go2,q2⟩:=p;obtain⟨hw2,hans2⟩:=hR.2.1 (hl 17 dZ);have hq2:=hR.2.2 (hl 22 dZ);rw[if_pos (hl 24 dZ)] at hq2;simp only at hw2 hans2 hq2;have hF2:=fu (eP B S U1 x1.2.2.2 wd) st1 HF1.out
    have hvo:((eP B S U1 x1.2.2.2 wd).on st1).2.off=false->∀ k,k<6->0<=V k/\V k<=S k:=by
     intro hoff;cases hs:((eP B S U1 x1.2.2.2 wd).on st1).1 with
     | none=>rw[oJ _ _ hs] at hoff;cases hoff
     | some y =>
      intro k hk;have h1:=(Aj HU1.out).of hs k hk;rw[hans2 y hs] at h1;exact h1
    have hqs:=HQ1.out.bind HF1.out (k:=(t2,V,er)) hans2;obtain⟨st2,hst2⟩:∃ st2,st2=((eP B S U1 x1.2.2.2 wd).on st1).2:=⟨_,rfl⟩;rw[<- hst2] at hw2 hF2 hvo hqs;have HW2:=hJ hw2;have HQ2:=hJ hq2;have HF2:=hJ hF2;have HVO:=hJ hvo;have HQ9:=hJ hqs;clear hw2 hans2 hq2 hF2 hvo hqs hst2 hR hl HW1 HQ1 HF1;by_cases her:er=0
    ·have b1:(er != 0)=false:=by simpa using her
     have HQS:=hJ (show Rest (fB B S Us sl m x.1 x.2.2.1 x.2.2.2 wd) (.store x1.2.2.1 t2 (.ret (x1.2.2.1,t2,V,(0:Int)))) st st2 from HQ9.out.same (by show (if er≠0 then _ else _)=_;rw[if_neg oZ]));clear HQ9;subst her;go_upto_region 8 with fail
     refine aI (fun(p:Option Nat) j=>[.pointer (some ⟨g,0,none⟩),.pointer (some ⟨g,0,none⟩),.pointer (some ⟨g,0,none⟩),.pointer (some ⟨rb,0,none⟩),.pointer (some ⟨gt,i*4,none⟩),.pointer (some ⟨gt,i*4,none⟩),.pointer (some ⟨gt,i*4+2,none⟩),.int .i64 x1.2.2.1,.int .i64 t2,.tuple #[]].getD j undef)
      (fun p l wx=>(l 9=false->WF S0 w rb mb cb go g gt B S C (m:Int) L sl U1 n cap vw T1 st2 go2 wx)/\(l 9=true->WF S0 w rb mb cb go g gt B S C (m:Int) L sl U1 n cap vw T1 ((gG x1.2.2.1 t2).on st2).2 p wx)/\w.heap.size<=q2/\wx.heap[q2]?=some (.cells (six V) 40 (0,0)))
      kZ kZ pZ none ?_ ?_ ?_
     ·exact⟨fun _=>HW2.out.below (Below.refl _ _).drew,(fun h=>by cases h),HQ2.out.1,HQ2.out.2⟩
     ·intro i o ho p l wx hR hl he hcl K hK;rcases i with _|_|_|_|_|_|_|_|_|_|i
      any_goals first | (cases ho;go_simp;exact hK p wx (fun _ _=>rfl) hR;done) | fail
      ·cases ho
       obtain⟨stx,gox,hw⟩:∃ stx gox,WF S0 w rb mb cb go g gt B S C (m:Int) L sl U1 n cap vw T1 stx gox wx:=by
        cases h:l 9 with
        | false=>exact⟨_,_,hR.1 h⟩
        | true=>exact⟨_,_,hR.2.1 h⟩
       have q:=aa hw.ad 0;go_simp;exact hK p wx (fun _ _=>rfl) hR
      ·cases ho
       obtain⟨stx,gox,hw⟩:∃ stx gox,WF S0 w rb mb cb go g gt B S C (m:Int) L sl U1 n cap vw T1 stx gox wx:=by
        cases h:l 9 with
        | false=>exact⟨_,_,hR.1 h⟩
        | true=>exact⟨_,_,hR.2.1 h⟩
       have q:=(hw.tr.cells hi1).2.2.1;go_simp;exact hK p wx (fun _ _=>rfl) hR
      ·cases ho;have hw:=hR.1 hl;go_simp;refine(rO x1.2.2.1 t2 hw.run.rm HF2.out hB).mono ?_;rintro e w2 ⟨go3,rfl,hr2,ha2⟩;refine hK go3 w2 (fun _ _=>rfl) ⟨(fun h=>by cases h),fun _=>hw.access hr2 ha2,hR.2.2.1,hw.run.stays ha2 hR.2.2.2 (.inr hR.2.2.1) dZ⟩
      ·simp at ho
     ·intro p l wx hl hR;have hw3:=hR.2.1 (hl 9 dZ);have hq3:=hR.2.2;have HW3:=hJ hw3;have HQ3:=hJ hq3;have he3:=(HQS.out.bind (q:=gG x1.2.2.1 t2) (f:=fun _=>.ret (x1.2.2.1,t2,V,(0:Int))) HF2.out (k:=()) (fun _ _=>rfl)).ret;have HE3:=hJ (show ((fB B S Us sl m x.1 x.2.2.1 x.2.2.2 wd).on st).2=((gG x1.2.2.1 t2).on st2).2/\∀ y,((fB B S Us sl m x.1 x.2.2.1 x.2.2.2 wd).on st).1=some y->y=(x1.2.2.1,t2,V,(0:Int)) from he3)
      have hvr:((gG x1.2.2.1 t2).on st2).2.off=false->∀ k,k<6->0<=V k/\V k<=S k:=by
       intro hoff;refine HVO.out ?_;cases ho:st2.off with
       | false=>rfl
       | true =>
        rw[sW _ HF2.out.good ho,ho] at hoff;exact hoff
      have HVR:=hJ hvr;obtain⟨st3,hst3⟩:∃ st3,st3=((gG x1.2.2.1 t2).on st2).2:=⟨_,rfl⟩;obtain⟨go3,hgo3⟩:∃ go3,go3=p:=⟨_,rfl⟩;rw[<- hst3] at HW3 HE3 HVR;rw[<- hgo3] at HW3;clear hw3 hq3 he3 hvr hst3 hgo3 hR hl HW2 HQ2 HQS HF2 HVO;go_upto_region 9 with fail
      refine aI (fun(p:Unit) j=>[.pointer (some ⟨gt,i*4,none⟩),.pointer (some ⟨g,0,none⟩),.int .i64 t2,.agg (six V),.pointer (some ⟨gt,i*4,none⟩),.pointer (some ⟨gt,i*4+3,none⟩),undef,.pointer (some ⟨g,0,none⟩),.pointer (some ⟨g,17,none⟩),undef].getD j undef)
       (fun p l wx=>WF S0 w rb mb cb go g gt B S C (m:Int) L sl (if l 9 then V else U1) n cap vw (if l 6 then T1.set i (x1.1,x1.2.1,x1.2.2.1,t2) else T1) st3 go3 wx/\w.heap.size<=q2/\wx.heap[q2]?=some (.cells (six V) 40 (0,0)))
       kZ kZ pZ () ?_ ?_ ?_
      ·exact⟨(by rw[if_neg dZ,if_neg dZ];exact HW3.out.below (Below.refl _ _).drew),HQ3.out.1,HQ3.out.2⟩
      ·intro i o ho p l wx hR hl he hcl K hK;rcases i with _|_|_|_|_|_|_|_|_|_|i
       any_goals first | (cases ho;go_simp;exact hK p wx (fun _ _=>rfl) hR;done) | fail
       ·cases ho;refine wp_load_row 40 (.tmp 9) rfl q2 rfl 40 (six V) (0,0) _ hR.2.2 Tryz.underlying40 rfl (af _) ?_;exact hK p wx (fun _ _=>rfl) hR
       ·cases ho;have hw:=hR.1;rw[show (if l 6 then T1.set i (x1.1,x1.2.1,x1.2.2.1,t2) else T1)=T1 by rw[hl];rfl] at hw;obtain⟨_,_,_,k3,k5,_,_⟩:=hw.tr.cells hi1;have f3:=k5 (i*4+3);have hgt:=(hw.run.own _ hw.mine.2).2;go_simp;refine hK p _ (fun _ _=>rfl) ⟨?_,hR.2.1,(Below.heap_setCell _ _ _ _ (by show q2≠gt;have:=hR.2.1;omega)).trans hR.2.2⟩;exact hw.setTail hi1 t2
       ·cases ho;have hw:=hR.1;rw[show (if l 9 then V else U1)=U1 by rw[hl];rfl] at hw;have hgg:=(hw.run.own _ hw.mine.1).2;refine jC 40 (.tmp 64) (.tmp 60) rfl g 17 (six V) rfl rfl 176 (lC rb B S C (m:Int) L sl U1 (.slice (some ⟨gt,0,none⟩) n cap) vw) (lC rb B S C (m:Int) L sl V (.slice (some ⟨gt,0,none⟩) n cap) vw) hw.ad (by simp[six,lC]) (af _) (aQ _) rfl ?_;refine hK p _ (fun _ _=>rfl) ⟨?_,hR.2.1,(qZ _ _ _ _ (by have:=hR.2.1;omega)).trans hR.2.2⟩;exact hw.zH V
       ·simp at ho
      ·intro p l wx hl hR;have hw:=hR.1;rw[if_pos (hl 9 dZ),if_pos (hl 6 dZ),HT1.out.1] at hw;have HW5:=hJ hw;clear hw hR hl HW3 HQ3;go_wp2_with fail
       go_ret;obtain⟨hs1,hs2⟩:=HE3.out;unfold iQ;obtain⟨ex1,ex2⟩:=HT1.out.2;rw[ex1,ex2] at HW5;refine⟨x1.2.2.1,t2,V,0,go3,rfl,fun _=>⟨?_,fun hoff=>?_⟩,fun h=>absurd rfl h,fun y hy=>?_⟩
       ·rw[hs1];exact HW5.out
       ·rw[hs1] at hoff;exact HVR.out hoff
       ·obtain rfl:=hs2 y hy;exact⟨rfl,fun _=>⟨rfl,rfl,rfl⟩⟩
    ·have b1:(er != 0)=true:=by simpa using her
     have HER:=hJ her;have he:=(HQ9.out.same (q':=.ret (x1.2.2.1,x1.2.2.2,U1,er)) (by show (if er≠0 then _ else _)=_;rw[if_pos her])).ret;have HE:=hJ (show ((fB B S Us sl m x.1 x.2.2.1 x.2.2.2 wd).on st).2=st2/\∀ y,((fB B S Us sl m x.1 x.2.2.1 x.2.2.2 wd).on st).1=some y->y=(x1.2.2.1,x1.2.2.2,U1,er) from he);clear her he HQ9;go_wp2_with fail
     go_ret;obtain⟨hs1,hs2⟩:=HE.out;unfold iQ;refine⟨0,0,V,er,go2,rfl,fun h=>absurd h HER.out,fun _=>⟨_,_,by rw[hs1];exact HW2.out⟩,fun y hy=>?_⟩;obtain rfl:=hs2 y hy;exact⟨rfl,fun h=>absurd h HER.out⟩
  ·have b1:(er1 != 0)=true:=by simpa using her1
   have HER:=hJ her1;have HWB:=hJ (hbad her1);have he:=(hqb.same (q':=.ret (x.2.2.1,x.2.2.2,Us,er1)) (by show (if er1≠0 then _ else _)=_;rw[if_pos her1])).ret;have HE:=hJ (show ((fB B S Us sl m x.1 x.2.2.1 x.2.2.2 wd).on st).2=st1/\∀ y,((fB B S Us sl m x.1 x.2.2.1 x.2.2.2 wd).on st).1=some y->y=(x.2.2.1,x.2.2.2,Us,er1) from he);clear hok hbad hqb hF1 hU1 her1 he;go_wp2_with fail
   go_ret;obtain⟨hs1,hs2⟩:=HE.out;unfold iQ;refine⟨0,0,U1,er1,go1,rfl,fun h=>absurd h HER.out,fun _=>⟨_,_,by rw[hs1];exact HWB.out⟩,fun y hy=>?_⟩;obtain rfl:=hs2 y hy;exact⟨rfl,fun h=>absurd h HER.out⟩
 ·have b0:(x.2.2.1==0)=false:=by simpa using hr0
  obtain⟨T1,hT1⟩:∃ T1,T1=ts:=⟨_,rfl⟩;obtain⟨x1,hx1⟩:∃ x1,x1=x:=⟨_,rfl⟩;obtain⟨U1,hU1⟩:∃ U1,U1=Us:=⟨_,rfl⟩;obtain⟨st1,hst1⟩:∃ st1,st1=st:=⟨_,rfl⟩;obtain⟨go1,hgo1⟩:∃ go1,go1=go:=⟨_,rfl⟩;have hi1:T1[i]?=some x1:=by rw[hT1,hx1];exact hi
  have HT1:=hJ (show (∀ z,T1.set i z=ts.set i z)/\x1.1=x.1/\x1.2.1=x.2.1 from⟨fun z=>by rw[hT1],by rw[hx1],by rw[hx1]⟩);have HQ1:=hJ (show Rest (fB B S Us sl m x.1 x.2.2.1 x.2.2.2 wd) (vP B S U1 x1.2.2.1 x1.2.2.2 wd) st st1 from by rw[hst1];exact(Rest.start _ st).same (by unfold fB;rw[if_neg hr0,hU1,hx1]));have HF1:=hJ (show st1.dO Bd by rw[hst1];exact HF.out);have HU1:=hJ (show ∀ k,k<6->0<=U1 k/\U1 k<=S k by rw[hU1];exact hUs);have HW1:=hJ (show WF S0 w rb mb cb go g gt B S C (m:Int) L sl U1 n cap vw T1 st1 go1 w by rw[hU1,hT1,hst1,hgo1];exact HW.out);clear hr0 hT1 hx1 hU1 hst1 hgo1 HF HW HEn;go_enter Tryz.func128,Tryz.ntmps128
  go_upto_region 5 with fail
  refine aI (fun(p:Int×(Nat->Int)×Int×Option Nat×Nat) j=>[.pointer (some ⟨g,0,none⟩),.pointer (some ⟨g,0,none⟩),.pointer (some ⟨g,0,none⟩),.pointer (some ⟨rb,0,none⟩),.pointer (some ⟨g,0,none⟩),.pointer (some ⟨g,0,none⟩),.pointer (some ⟨g,1,none⟩),.agg (ae B S C (m:Int) L),.pointer (some ⟨g,0,none⟩),.pointer (some ⟨g,0,none⟩),.pointer (some ⟨g,17,none⟩),.agg (six U1),.pointer (some ⟨gt,i*4,none⟩),.pointer (some ⟨gt,i*4,none⟩),.pointer (some ⟨gt,i*4+3,none⟩),.int .i64 x1.2.2.2,.int .u32 wd,.tuple #[.int .i64 p.1,.agg (six p.2.1),.int .i64 p.2.2.1],.tuple #[.int .i64 p.1,.agg (six p.2.1),.int .i64 p.2.2.1],.int .i64 p.1,.agg (six p.2.1),.int .i64 p.2.2.1,.pointer (some ⟨p.2.2.2.2,0,none⟩),.int .i64 p.1,undef,.int .i64 p.2.2.1].getD j undef)
   (fun p l wx=>(l 17=false->WF S0 w rb mb cb go g gt B S C (m:Int) L sl U1 n cap vw T1 st1 go1 wx)/\(l 17=true->WF S0 w rb mb cb go g gt B S C (m:Int) L sl U1 n cap vw T1 ((eP B S U1 x1.2.2.2 wd).on st1).2 p.2.2.2.1 wx/\(∀ y,((eP B S U1 x1.2.2.2 wd).on st1).1=some y->y=(p.1,p.2.1,p.2.2.1)))/\(l 22=true->w.heap.size<=p.2.2.2.2/\wx.heap[p.2.2.2.2]?=some (.cells (six (if l 24 then p.2.1 else fun _=>0)) 40 (0,0))))
   kZ kZ pZ (0,fun _=>0,0,none,0) ?_ ?_ ?_
  ·exact⟨fun _=>HW1.out.below (Below.refl _ _).drew,(fun h=>by cases h),(fun h=>by cases h)⟩
  ·intro i o ho p l wx hR hl he hcl K hK;rcases i with _|_|_|_|_|_|_|_|_|_|_|_|_|_|_|_|_|_|_|_|_|_|_|_|_|_|i
   any_goals first | (cases ho;go_simp;exact hK p wx (fun _ _=>rfl) hR;done) | fail
   ·cases ho
    obtain⟨stx,gox,hw⟩:∃ stx gox,WF S0 w rb mb cb go g gt B S C (m:Int) L sl U1 n cap vw T1 stx gox wx:=by
     cases h:l 17 with
     | false=>exact⟨_,_,hR.1 h⟩
     | true=>exact⟨_,_,(hR.2.1 h).1⟩
    have q:=aa hw.ad 0;go_simp;exact hK p wx (fun _ _=>rfl) hR
   ·cases ho
    obtain⟨stx,gox,hw⟩:∃ stx gox,WF S0 w rb mb cb go g gt B S C (m:Int) L sl U1 n cap vw T1 stx gox wx:=by
     cases h:l 17 with
     | false=>exact⟨_,_,hR.1 h⟩
     | true=>exact⟨_,_,(hR.2.1 h).1⟩
    refine aR 42 (.tmp 29) rfl g 1 rfl 176 (lC rb B S C (m:Int) L sl U1 (.slice (some ⟨gt,0,none⟩) n cap) vw) (ae B S C (m:Int) L) (0,0) _ hw.ad (kF _ _ _ _ _ _ _ _ _ _) Tryz.underlying42 rfl (ai _ _ _ _ _) ?_;exact hK p wx (fun _ _=>rfl) hR
   ·cases ho
    obtain⟨stx,gox,hw⟩:∃ stx gox,WF S0 w rb mb cb go g gt B S C (m:Int) L sl U1 n cap vw T1 stx gox wx:=by
     cases h:l 17 with
     | false=>exact⟨_,_,hR.1 h⟩
     | true=>exact⟨_,_,(hR.2.1 h).1⟩
    refine aR 40 (.tmp 33) rfl g 17 rfl 176 (lC rb B S C (m:Int) L sl U1 (.slice (some ⟨gt,0,none⟩) n cap) vw) (six U1) (0,0) _ hw.ad (oI _ _ _ _ _ _ _ _ _ _) Tryz.underlying40 rfl (af _) ?_;exact hK p wx (fun _ _=>rfl) hR
   ·cases ho
    obtain⟨stx,gox,hw⟩:∃ stx gox,WF S0 w rb mb cb go g gt B S C (m:Int) L sl U1 n cap vw T1 stx gox wx:=by
     cases h:l 17 with
     | false=>exact⟨_,_,hR.1 h⟩
     | true=>exact⟨_,_,(hR.2.1 h).1⟩
    have q:=(hw.tr.cells hi1).2.2.2.1;go_simp;exact hK p wx (fun _ _=>rfl) hR
   ·cases ho;have hw:=hR.1 hl;have HK:=Al (v:=wd) (t:=x1.2.2.2) (T:=(m:Int)) (L:=L) hw.run.rm HF1.out hB hL HU1.out hv0 hv1;go_simp;refine HK.mono ?_;rintro e w2 ⟨a,V,er,go2,rfl,hr2,ha2,hans⟩;refine hK (a,V,er,go2,p.2.2.2.2) w2 (fun j hj=>?_) ⟨(fun h=>by cases h),fun _=>⟨hw.access hr2 ha2,hans⟩,fun h=>?_⟩
    ·rcases j with _|_|_|_|_|_|_|_|_|_|_|_|_|_|_|_|_|_|_|_|_|_|_|_|_|_|j
     all_goals first | rfl | (rw[hl] at hj;cases hj) | (exact absurd (hcl 18 _ rfl hj ⟨17,.data⟩ sZ rfl) lZ) | (exact absurd (hcl 18 _ rfl (hcl 19 _ rfl hj ⟨18,.data⟩ sZ rfl) ⟨17,.data⟩ sZ rfl) lZ) | (exact absurd (hcl 18 _ rfl (hcl 20 _ rfl hj ⟨18,.data⟩ sZ rfl) ⟨17,.data⟩ sZ rfl) lZ) | (exact absurd (hcl 18 _ rfl (hcl 21 _ rfl hj ⟨18,.data⟩ sZ rfl) ⟨17,.data⟩ sZ rfl) lZ) | (exact absurd (hcl 18 _ rfl (hcl 19 _ rfl (hcl 23 _ rfl hj ⟨19,.data⟩ sZ rfl) ⟨18,.data⟩ sZ rfl) ⟨17,.data⟩ sZ rfl) lZ) | (exact absurd (hcl 18 _ rfl (hcl 20 _ rfl (hcl 24 _ rfl hj ⟨20,.data⟩ sZ rfl) ⟨18,.data⟩ sZ rfl) ⟨17,.data⟩ sZ rfl) lZ) | (exact absurd (hcl 18 _ rfl (hcl 21 _ rfl (hcl 25 _ rfl hj ⟨21,.data⟩ sZ rfl) ⟨18,.data⟩ sZ rfl) ⟨17,.data⟩ sZ rfl) lZ)
    ·have h24:l 24=false:=by
      cases h24:l 24 with
      | false=>rfl
      | true=>exact absurd (hcl 18 _ rfl (hcl 20 _ rfl (hcl 24 _ rfl h24 ⟨20,.data⟩ sZ rfl) ⟨18,.data⟩ sZ rfl) ⟨17,.data⟩ sZ rfl) lZ
     have hq:=hR.2.2 h;rw[h24] at hq;refine⟨hq.1,?_⟩;rw[if_neg (by show ¬ ((24==17||l 24)=true);rw[h24];decide)];exact hw.run.stays ha2 hq.2 (.inr hq.1) dZ
   ·cases ho;go_simp;have hb:Below wx.heap.size wx (wx.alloc (.cells (six fun _=>0) 40)):=aj
    have hsz:w.heap.size<=wx.heap.size:=by
     cases h:l 17 with
     | false=>exact(hR.1 h).run.size
     | true=>exact(hR.2.1 h).1.run.size
    refine hK (p.1,p.2.1,p.2.2.1,p.2.2.2.1,wx.heap.size) _ (fun j hj=>?_) ⟨fun h=>(hR.1 h).below hb,fun h=>⟨(hR.2.1 h).1.below hb,(hR.2.1 h).2⟩,fun _=>⟨hsz,?_⟩⟩
    ·rcases j with _|_|_|_|_|_|_|_|_|_|_|_|_|_|_|_|_|_|_|_|_|_|_|_|_|_|j
     all_goals first | rfl | (rw[hl] at hj;cases hj)
    ·have h24:l 24=false:=by
      cases h24:l 24 with
      | false=>rfl
      | true=>exact absurd (hcl 24 _ rfl h24 ⟨22,.data⟩ sZ rfl) lZ
     rw[if_neg (by show ¬ ((24==22||l 24)=true);rw[h24];decide)];exact nZ _ _
   ·cases ho;have h22:=he ⟨22,.data⟩ sZ rfl;have hq:=hR.2.2 h22;rw[if_neg lZ] at hq;have h17:=hcl 18 _ rfl (hcl 20 _ rfl (he ⟨20,.data⟩ sZ rfl) ⟨18,.data⟩ sZ rfl) ⟨17,.data⟩ sZ rfl;refine wp_store_row 40 (.tmp 9) (.tmp 42) rfl p.2.2.2.2 (six p.2.1) rfl rfl 40 _ hq.2 (af _) (aS _ _) (aQ _) ?_;have hm:bB (fun j=>j=p.2.2.2.2) wx (wx.setRow p.2.2.2.2 (six p.2.1)):=bB.setRow (S:=fun j=>j=p.2.2.2.2) (bB.refl _ _) (.inr rfl) _;exact hK p _ (fun _ _=>rfl) ⟨fun h=>absurd h17 (by rw[show l 17=false from h];decide),fun _=>⟨(hR.2.1 h17).1.turn hq.2 hq.1 dZ hm,(hR.2.1 h17).2⟩,fun _=>⟨hq.1,setRow_heap _ _ _ _ _ _ hq.2⟩⟩
   ·simp at ho
  ·intro p l wx hl hR;obtain⟨t2,V,er,go2,q2⟩:=p;obtain⟨hw2,hans2⟩:=hR.2.1 (hl 17 dZ);have hq2:=hR.2.2 (hl 22 dZ);rw[if_pos (hl 24 dZ)] at hq2;simp only at hw2 hans2 hq2;have hF2:=fu (eP B S U1 x1.2.2.2 wd) st1 HF1.out
   have hvo:((eP B S U1 x1.2.2.2 wd).on st1).2.off=false->∀ k,k<6->0<=V k/\V k<=S k:=by
    intro hoff;cases hs:((eP B S U1 x1.2.2.2 wd).on st1).1 with
    | none=>rw[oJ _ _ hs] at hoff;cases hoff
    | some y =>
     intro k hk;have h1:=(Aj HU1.out).of hs k hk;rw[hans2 y hs] at h1;exact h1
   have hqs:=HQ1.out.bind HF1.out (k:=(t2,V,er)) hans2;obtain⟨st2,hst2⟩:∃ st2,st2=((eP B S U1 x1.2.2.2 wd).on st1).2:=⟨_,rfl⟩;rw[<- hst2] at hw2 hF2 hvo hqs;have HW2:=hJ hw2;have HQ2:=hJ hq2;have HF2:=hJ hF2;have HVO:=hJ hvo;have HQ9:=hJ hqs;clear hw2 hans2 hq2 hF2 hvo hqs hst2 hR hl HW1 HQ1 HF1;by_cases her:er=0
   ·have b1:(er != 0)=false:=by simpa using her
    have HQS:=hJ (show Rest (fB B S Us sl m x.1 x.2.2.1 x.2.2.2 wd) (.store x1.2.2.1 t2 (.ret (x1.2.2.1,t2,V,(0:Int)))) st st2 from HQ9.out.same (by show (if er≠0 then _ else _)=_;rw[if_neg oZ]));clear HQ9;subst her;go_upto_region 8 with fail
    refine aI (fun(p:Option Nat) j=>[.pointer (some ⟨g,0,none⟩),.pointer (some ⟨g,0,none⟩),.pointer (some ⟨g,0,none⟩),.pointer (some ⟨rb,0,none⟩),.pointer (some ⟨gt,i*4,none⟩),.pointer (some ⟨gt,i*4,none⟩),.pointer (some ⟨gt,i*4+2,none⟩),.int .i64 x1.2.2.1,.int .i64 t2,.tuple #[]].getD j undef)
     (fun p l wx=>(l 9=false->WF S0 w rb mb cb go g gt B S C (m:Int) L sl U1 n cap vw T1 st2 go2 wx)/\(l 9=true->WF S0 w rb mb cb go g gt B S C (m:Int) L sl U1 n cap vw T1 ((gG x1.2.2.1 t2).on st2).2 p wx)/\w.heap.size<=q2/\wx.heap[q2]?=some (.cells (six V) 40 (0,0)))
     kZ kZ pZ none ?_ ?_ ?_
    ·exact⟨fun _=>HW2.out.below (Below.refl _ _).drew,(fun h=>by cases h),HQ2.out.1,HQ2.out.2⟩
    ·intro i o ho p l wx hR hl he hcl K hK;rcases i with _|_|_|_|_|_|_|_|_|_|i
     any_goals first | (cases ho;go_simp;exact hK p wx (fun _ _=>rfl) hR;done) | fail
     ·cases ho
      obtain⟨stx,gox,hw⟩:∃ stx gox,WF S0 w rb mb cb go g gt B S C (m:Int) L sl U1 n cap vw T1 stx gox wx:=by
       cases h:l 9 with
       | false=>exact⟨_,_,hR.1 h⟩
       | true=>exact⟨_,_,hR.2.1 h⟩
      have q:=aa hw.ad 0;go_simp;exact hK p wx (fun _ _=>rfl) hR
     ·cases ho
      obtain⟨stx,gox,hw⟩:∃ stx gox,WF S0 w rb mb cb go g gt B S C (m:Int) L sl U1 n cap vw T1 stx gox wx:=by
       cases h:l 9 with
       | false=>exact⟨_,_,hR.1 h⟩
       | true=>exact⟨_,_,hR.2.1 h⟩
      have q:=(hw.tr.cells hi1).2.2.1;go_simp;exact hK p wx (fun _ _=>rfl) hR
     ·cases ho;have hw:=hR.1 hl;go_simp;refine(rO x1.2.2.1 t2 hw.run.rm HF2.out hB).mono ?_;rintro e w2 ⟨go3,rfl,hr2,ha2⟩;refine hK go3 w2 (fun _ _=>rfl) ⟨(fun h=>by cases h),fun _=>hw.access hr2 ha2,hR.2.2.1,hw.run.stays ha2 hR.2.2.2 (.inr hR.2.2.1) dZ⟩
     ·simp at ho
    ·intro p l wx hl hR;have hw3:=hR.2.1 (hl 9 dZ);have hq3:=hR.2.2;have HW3:=hJ hw3;have HQ3:=hJ hq3;have he3:=(HQS.out.bind (q:=gG x1.2.2.1 t2) (f:=fun _=>.ret (x1.2.2.1,t2,V,(0:Int))) HF2.out (k:=()) (fun _ _=>rfl)).ret;have HE3:=hJ (show ((fB B S Us sl m x.1 x.2.2.1 x.2.2.2 wd).on st).2=((gG x1.2.2.1 t2).on st2).2/\∀ y,((fB B S Us sl m x.1 x.2.2.1 x.2.2.2 wd).on st).1=some y->y=(x1.2.2.1,t2,V,(0:Int)) from he3)
     have hvr:((gG x1.2.2.1 t2).on st2).2.off=false->∀ k,k<6->0<=V k/\V k<=S k:=by
      intro hoff;refine HVO.out ?_;cases ho:st2.off with
      | false=>rfl
      | true =>
       rw[sW _ HF2.out.good ho,ho] at hoff;exact hoff
     have HVR:=hJ hvr;obtain⟨st3,hst3⟩:∃ st3,st3=((gG x1.2.2.1 t2).on st2).2:=⟨_,rfl⟩;obtain⟨go3,hgo3⟩:∃ go3,go3=p:=⟨_,rfl⟩;rw[<- hst3] at HW3 HE3 HVR;rw[<- hgo3] at HW3;clear hw3 hq3 he3 hvr hst3 hgo3 hR hl HW2 HQ2 HQS HF2 HVO;go_upto_region 9 with fail
     refine aI (fun(p:Unit) j=>[.pointer (some ⟨gt,i*4,none⟩),.pointer (some ⟨g,0,none⟩),.int .i64 t2,.agg (six V),.pointer (some ⟨gt,i*4,none⟩),.pointer (some ⟨gt,i*4+3,none⟩),undef,.pointer (some ⟨g,0,none⟩),.pointer (some ⟨g,17,none⟩),undef].getD j undef)
      (fun p l wx=>WF S0 w rb mb cb go g gt B S C (m:Int) L sl (if l 9 then V else U1) n cap vw (if l 6 then T1.set i (x1.1,x1.2.1,x1.2.2.1,t2) else T1) st3 go3 wx/\w.heap.size<=q2/\wx.heap[q2]?=some (.cells (six V) 40 (0,0)))
      kZ kZ pZ () ?_ ?_ ?_
     ·exact⟨(by rw[if_neg dZ,if_neg dZ];exact HW3.out.below (Below.refl _ _).drew),HQ3.out.1,HQ3.out.2⟩
     ·intro i o ho p l wx hR hl he hcl K hK;rcases i with _|_|_|_|_|_|_|_|_|_|i
      any_goals first | (cases ho;go_simp;exact hK p wx (fun _ _=>rfl) hR;done) | fail
      ·cases ho;refine wp_load_row 40 (.tmp 9) rfl q2 rfl 40 (six V) (0,0) _ hR.2.2 Tryz.underlying40 rfl (af _) ?_;exact hK p wx (fun _ _=>rfl) hR
      ·cases ho;have hw:=hR.1;rw[show (if l 6 then T1.set i (x1.1,x1.2.1,x1.2.2.1,t2) else T1)=T1 by rw[hl];rfl] at hw;obtain⟨_,_,_,k3,k5,_,_⟩:=hw.tr.cells hi1;have f3:=k5 (i*4+3);have hgt:=(hw.run.own _ hw.mine.2).2;go_simp;refine hK p _ (fun _ _=>rfl) ⟨?_,hR.2.1,(Below.heap_setCell _ _ _ _ (by show q2≠gt;have:=hR.2.1;omega)).trans hR.2.2⟩;exact hw.setTail hi1 t2
      ·cases ho;have hw:=hR.1;rw[show (if l 9 then V else U1)=U1 by rw[hl];rfl] at hw;have hgg:=(hw.run.own _ hw.mine.1).2;refine jC 40 (.tmp 64) (.tmp 60) rfl g 17 (six V) rfl rfl 176 (lC rb B S C (m:Int) L sl U1 (.slice (some ⟨gt,0,none⟩) n cap) vw) (lC rb B S C (m:Int) L sl V (.slice (some ⟨gt,0,none⟩) n cap) vw) hw.ad (by simp[six,lC]) (af _) (aQ _) rfl ?_;refine hK p _ (fun _ _=>rfl) ⟨?_,hR.2.1,(qZ _ _ _ _ (by have:=hR.2.1;omega)).trans hR.2.2⟩;exact hw.zH V
      ·simp at ho
     ·intro p l wx hl hR;have hw:=hR.1;rw[if_pos (hl 9 dZ),if_pos (hl 6 dZ),HT1.out.1] at hw;have HW5:=hJ hw;clear hw hR hl HW3 HQ3;go_wp2_with fail
      go_ret;obtain⟨hs1,hs2⟩:=HE3.out;unfold iQ;obtain⟨ex1,ex2⟩:=HT1.out.2;rw[ex1,ex2] at HW5;refine⟨x1.2.2.1,t2,V,0,go3,rfl,fun _=>⟨?_,fun hoff=>?_⟩,fun h=>absurd rfl h,fun y hy=>?_⟩
      ·rw[hs1];exact HW5.out
      ·rw[hs1] at hoff;exact HVR.out hoff
      ·obtain rfl:=hs2 y hy;exact⟨rfl,fun _=>⟨rfl,rfl,rfl⟩⟩
   ·have b1:(er != 0)=true:=by simpa using her
    have HER:=hJ her;have he:=(HQ9.out.same (q':=.ret (x1.2.2.1,x1.2.2.2,U1,er)) (by show (if er≠0 then _ else _)=_;rw[if_pos her])).ret;have HE:=hJ (show ((fB B S Us sl m x.1 x.2.2.1 x.2.2.2 wd).on st).2=st2/\∀ y,((fB B S Us sl m x.1 x.2.2.1 x.2.2.2 wd).on st).1=some y->y=(x1.2.2.1,x1.2.2.2,U1,er) from he);clear her he HQ9;go_wp2_with fail
    go_ret;obtain⟨hs1,hs2⟩:=HE.out;unfold iQ;refine⟨0,0,V,er,go2,rfl,fun h=>absurd h HER.out,fun _=>⟨_,_,by rw[hs1];exact HW2.out⟩,fun y hy=>?_⟩;obtain rfl:=hs2 y hy;exact⟨rfl,fun h=>absurd h HER.out⟩
theorem Rest.G8 {α:Type} {p q:Pr α} {st0 st:St} (h:Rest p q st0 st) (hg:st.Good) (ho:st.off=true):(p.on st0).2=st/\(st0.off=false->p.on st0=(none,st)):=by
 rcases h with ⟨_,h2⟩ | h
 ·rw[h2];exact⟨rfl,fun _=>rfl⟩
 ·have e:=sW q hg ho;rw[<- h];refine⟨e,fun h0=>?_⟩;cases hs:(q.on st).1 with
  | none=>exact Prod.ext hs e
  | some x =>
   have:=yV p st0 x h0 (by rw[<- h];exact hs);rw[<- h,e,ho] at this;cases this
theorem Rest.any {α:Type} {p q q':Pr α} {st0 st:St} (h:Rest p q st0 st) (hg:st.Good) (h0:st0.off=false) (ho:st.off=true):Rest p q' st0 st:=.inl ⟨ho,(h.G8 hg ho).2 h0⟩
theorem ik.keeps {S:Nat->Prop} {W w:World} {rb mb cb:Nat} {go0 go:Option Nat} {st:St} (h:ik S W rb mb cb go0 st go w) {k:Nat} (hk:k<W.heap.size) (hn:¬ S k) (hf:¬ fD rb mb cb go0 k):w.heap[k]?=W.heap[k]?:=h.adv.mod.block k hk (fun e=>e.elim hn hf)
def lK (S0:Nat->Prop) (W:World) (rb mb cb:Nat) (go0:Option Nat) (g gt:Nat) (B S:Nat->Int) (C L sl:Int) (m:Nat) (n cap:Nat) (vw:Value) (p:Pr ((Nat->Int)×Int)) (st:St) (e:Ending) (w':World):Prop :=
 ∃ V ts er go',e=.returned (.int .i64 er)/\WF S0 W rb mb cb go0 g gt B S C (m:Int) L sl V n cap vw ts (p.on st).2 go' w'/\(st.off=false->∀ y,(p.on st).1=some y->y.2=er/\(er=0->six y.1=six V))
theorem iQ.zM {S0:Nat->Prop} {W w w':World} {rb mb cb:Nat} {go0 go:Option Nat} {g gt:Nat} {B S:Nat->Int} {C L sl:Int} {m:Nat} {Us:Nat->Int} {n cap:Nat} {vw:Value} {ts:List TR} {i:Nat} {x:TR} {wd:Int} {st:St} {e:Ending} (h:WF S0 W rb mb cb go0 g gt B S C (m:Int) L sl Us n cap vw ts st go w) (k:iQ S0 w rb mb cb go g gt B S C L sl m Us n cap vw ts i x wd st e w'):iQ S0 W rb mb cb go0 g gt B S C L sl m Us n cap vw ts i x wd st e w':=by
 obtain⟨a,t,V,er,go',h1,h2,h3,h4⟩:=k;refine⟨a,t,V,er,go',h1,fun h0=>⟨h.zM (h2 h0).1,(h2 h0).2⟩,fun h0=>?_,h4⟩;obtain⟨V2,ts2,h5⟩:=h3 h0;exact⟨V2,ts2,h.zM h5⟩
theorem Ka (d p:Int):0<=dV d p/\dV d p<=4294967295:=by
 unfold dV;split
 ·rename_i h
  unfold J6 at h;omega
 ·omega
structure Kh (S0:Nat->Prop) (w:World) (rb mb cb:Nat) (go:Option Nat) (g gt:Nat) (B S:Nat->Int) (C L sl:Int) (m n cap:Nat) (vw:Value) (ts:List TR) (tks:List Tk) (I:Tk->Nat) (doc:Int) (p:Pr ((Nat->Int)×Int)) (st:St) (Bd:Nat) (i:Nat) (st1:St) (go1:Option Nat) (V:Nat->Int) (ts1:List TR) (wr:World):Prop where
 wf:WF S0 w rb mb cb go g gt B S C (m:Int) L sl V n cap vw ts1 st1 go1 wr
 fine:st1.dO Bd
 rest:Rest p (storeT B S sl m V ts1 ((tks.drop i).map fun tk=>(I tk,dV doc tk.2.2,fE doc tk.2.2))) st st1
 keys:ts1.length=ts.length/\∀ x∈ts1,(∀ b∈x.1,b<256)/\x.1.length<=1000
 used:st1.off=false->∀ k,k<6->0<=V k/\V k<=S k
theorem zU {S0:Nat->Prop} {w:World} {rb mb cb:Nat} {go:Option Nat} {g gt:Nat} {B S:Nat->Int} {C L sl:Int} {m:Nat} {Us:Nat->Int} {n cap nw cw:Nat} {ow:Option Addr} {ts:List TR} {st:St} {Bd:Nat} (h:WF S0 w rb mb cb go g gt B S C (m:Int) L sl Us n cap (.slice ow nw cw) ts st go w) (hf:st.dO Bd) (hB:Bd<1000000000) (hts:∀ x∈ts,(∀ b∈x.1,b<256)/\x.1.length<=1000) (hn:n<=1000000) (hs0:0<=sl) (hs1:sl<=1000000) (hm0:1<=m) (hm1:m<=1000000) (hL:Laid B S C) (hUs:∀ k,k<6->0<=Us k/\Us k<=S k)
  (doc:Int) (hd0:0<=doc) (hd1:doc<=1000000) (tks:List Tk) (N:Nat) (hN:tks.length=N) (hN2:N<=1000000) (hNw:N=nw) (ol:Option Addr) (cl:Nat) (I:Tk->Nat) (hI:∀ tk∈tks,I tk<ts.length) (hpos:∀ tk∈tks,0<=tk.2.2/\tk.2.2<=1000000) (hRd:∀ wr:World,(∀ k,k<w.heap.size->¬ S0 k->¬ fD rb mb cb go k->wr.heap[k]?=w.heap[k]?)->lT wr ol tks/\bQ .i64 wr ow (tks.map I)) :
  Calls Tryz.prog 88 #[.pointer (some ⟨g,0,none⟩),.int .i64 doc,.slice ol N cl] w fun e w'=>lK S0 w rb mb cb go g gt B S C L sl m n cap (.slice ow nw cw) (storeT B S sl m Us ts (tks.map fun tk=>(I tk,dV doc tk.2.2,fE doc tk.2.2))) st e w':=by
 obtain⟨p,hp⟩:∃ p,p=storeT B S sl m Us ts (tks.map fun tk=>(I tk,dV doc tk.2.2,fE doc tk.2.2)):=⟨_,rfl⟩;have HQ:=hJ (show Rest p (storeT B S sl m Us ts ((tks.drop 0).map fun tk=>(I tk,dV doc tk.2.2,fE doc tk.2.2))) st st from(Rest.start p st).same hp);rw[<- hp];have HF:=hJ hf;have HW:=hJ h;have HTs:=hJ hts;have HV0:=hJ (show st.off=false->∀ k,k<6->0<=Us k/\Us k<=S k from fun _=>hUs);have HRd:=hJ hRd;have HI:=hJ hI;have HPos:=hJ hpos;have HNl:=hJ hN
 have hnlen:n=ts.length:=by
  obtain⟨h0,⟨h1,_⟩ | ⟨g',cap',cur,k1,_⟩⟩:=h.tr
  ·cases h1
  ·cases k1;rfl
 have HNT:=hJ hnlen;clear hf h hts hUs hRd hI hpos hN hp hnlen;go_enter Tryz.func88,Tryz.ntmps88
 go_wp2_with fail
 go_loopw [14] (fun iv wr=>∃ (i:Nat) (st1:St) (go1:Option Nat) (V:Nat->Int) (ts1:List TR),i<=N/\iv=.int .i64 (i:Int)/\Kh S0 w rb mb cb go g gt B S C L sl m n cap (.slice ow nw cw) ts tks I doc p st Bd i st1 go1 V ts1 wr) (fun iv _=>N-(intOf iv).toNat)
 case atStart=>exact⟨0,st,go,Us,ts,oZ,rfl,⟨HW.out,HF.out,HQ.out,⟨rfl,HTs.out⟩,HV0.out⟩⟩
 case round =>
  clear HW HF HQ HV0 HTs;obtain⟨i,st1,go1,V,ts1,hi,rfl,hat⟩:=hrel;have HW:=hJ hat.wf;have HF1:=hJ hat.fine;have HQ:=hJ hat.rest;have HKs:=hJ hat.keys;have HVr:=hJ hat.used;clear hat;by_cases hlt:i<N
  ·have hlt1:(i:Int)<(N:Int):=oZ;obtain⟨tk,htk⟩:∃ tk,tks[i]?=some tk:=⟨_,gZ (by rw[HNl.out];exact hlt)⟩;obtain⟨hRT,hRN⟩:=HRd.out wr (fun k h1 h2 h3=>HW.out.run.keeps h1 h2 h3);obtain⟨gb,ob,rfl,t0,t1,t2⟩:=hRT i tk htk;obtain⟨gw,oow,rfl,hcI⟩:=hRN i (I tk) (by rw[List.getElem?_map,htk];rfl);have hposi:=HPos.out tk (List.mem_of_getElem? htk);have hjl:=HI.out tk (List.mem_of_getElem? htk);obtain⟨j,hj⟩:∃ j,j=I tk:=⟨_,rfl⟩;obtain⟨x,hx⟩:∃ x,ts1[j]?=some x:=⟨_,gZ (by rw[HKs.out.1,hj];exact hjl)⟩
   have hdr:tks.drop i=tk :: tks.drop (i+1):=by
    have hl2:=(eZ.1 htk).1;rw[List.drop_eq_getElem_cons hl2,(eZ.1 htk).2]
   obtain⟨wd,hwd⟩:∃ wd,wd=dV doc tk.2.2:=⟨_,rfl⟩;obtain⟨we,hwe⟩:∃ we,we=fE doc tk.2.2:=⟨_,rfl⟩;obtain⟨ps,hps⟩:∃ ps,ps=tk.2.2:=⟨_,rfl⟩;have hu:=Ka doc tk.2.2;have HWord:=hJ (fun w=>CG w doc tk.2.2 oZ oZ oZ oZ);rw[<- hwd] at hu HWord;rw[<- hwe] at HWord;obtain⟨hv0,hv1⟩:=hu;have hgd:ts1.getD j ([],0,0,0)=x:=by rw[List.getD_eq_getElem?_getD,hx];rfl
   have hq:=HQ.out;rw[hdr,List.map_cons,<- hwd,<- hwe,<- hj] at hq;unfold storeT at hq;simp only[hgd] at hq;rw[<- hj] at hcI hjl;rw[<- hps] at t2 hposi HWord;have HQ1:=hJ hq;have HX:=hJ (HKs.out.2 x (List.mem_of_getElem? hx));have HI1:=hJ hx;have hjn:(j:Int)<(n:Int):=by rw[HNT.out];omega
   have hj0:(0:Int)<=(j:Int):=oZ;have hi0:(0:Int)<=(i:Int):=oZ;have hiw:(i:Int)<(nw:Int):=oZ;have c_ad:wr.cell? ⟨g,0,none⟩=some (.pointer (some ⟨rb,0,none⟩)):=aa HW.out.ad 0;obtain⟨of,hoff⟩:∃ of,of=st1.off:=⟨_,rfl⟩;have HJ:=hJ (show (tks.map I)[i]?=some j by rw[List.getElem?_map,htk,hj];rfl);have HW0:=hJ HW.out.run.size;clear hRT hRN htk hj hx hdr hwd hwe hps hgd hq HQ hcI;obtain⟨capo,hro⟩:=HW.out.run.rm.run;rw[<- hoff] at hro;have HOf:=hJ hoff;have HRo:=hJ hro;clear hro hoff;go_upto_region 4 with fail
   have HW:=hJ (HW.out.below (aj (A:=.cells #[.int .u8 tk.1,.string tk.2.1,.int .i64 ps] 195)));have HTk:=hJ (nZ wr (.cells #[.int .u8 tk.1,.string tk.2.1,.int .i64 ps] 195));have HRo:=hJ (HRo.out.below (aj (A:=.cells #[.int .u8 tk.1,.string tk.2.1,.int .i64 ps] 195)));obtain⟨qb,hqb⟩:∃ qb,qb=wr.heap.size:=⟨_,rfl⟩;have HQB:=hJ (show w.heap.size<=qb by rw[hqb];exact HW0.out);rw[<- hqb] at HTk ⊢;generalize wr.alloc (.cells #[.int .u8 tk.1,.string tk.2.1,.int .i64 ps] 195)=wa at HW HTk HRo ⊢;clear hqb t0 t1 t2 c_ad;have c_ad:wa.cell? ⟨g,0,none⟩=some (.pointer (some ⟨rb,0,none⟩)):=aa HW.out.ad 0;have t2:wa.cell? ⟨qb,2,none⟩=some (.int .i64 ps):=aa HTk.out 2;cases of with
   | true =>
    go_wp2_with fail
    refine(nJ HRo.out).mono ?_;rintro e w6 ⟨rfl,rfl⟩;clear HRo c_ad;go_wp2_with fail
    try rw[Exit.noGoto_ret]
    go_ret;obtain⟨h1,h2⟩:=HQ1.out.G8 HF1.out.good HOf.out.symm;unfold lK;refine⟨V,ts1,0,go1,rfl,by rw[h1];exact HW.out,fun h0 y hy=>?_⟩;rw[h2 h0] at hy;cases hy
   | false =>
    have HVo:=hJ (HVr.out HOf.out.symm);go_wp2_with fail
    refine(nJ HRo.out).mono ?_;rintro e w6 ⟨rfl,rfl⟩;clear HRo c_ad HVr;go_wp2_with fail
    refine(HWord.out _).mono ?_;rintro e w7 ⟨rfl,rfl⟩;clear HWord;by_cases hwe0:we=0
    ·have b1:(we != 0)=false:=by simpa using hwe0
     have hq:=HQ1.out;rw[if_neg (by show ¬ we≠0;omega)] at hq;have HQ2:=hJ hq;subst hwe0;clear hq HQ1 t2;go_upto_region 8 with fail
     refine aI (fun(p_:Int) jz=>[.pointer (some ⟨g,0,none⟩),.pointer (some ⟨g,0,none⟩),.pointer (some ⟨g,0,none⟩),.pointer (some ⟨g,23,none⟩),.slice (some ⟨gt,0,none⟩) n cap,.pointer (some ⟨g,0,none⟩),.pointer (some ⟨g,0,none⟩),.pointer (some ⟨g,24,none⟩),.slice (some ⟨gw,oow,none⟩) nw cw,.int .i64 (i:Int),.pointer (some ⟨gw,oow+i,none⟩),.int .i64 (j:Int),.pointer (some ⟨gt,j*4,none⟩),.int .u32 wd,.int .i64 p_,.int .i64 p_].getD jz undef)
      (fun p_ l wx=>(l 14=false->WF S0 w rb mb cb go g gt B S C (m:Int) L sl V n cap (.slice (some ⟨gw,oow,none⟩) nw cw) ts1 st1 go1 wx)/\(l 14=true->iQ S0 w rb mb cb go g gt B S C L sl m V n cap (.slice (some ⟨gw,oow,none⟩) nw cw) ts1 j x wd st1 (.returned (.int .i64 p_)) wx))
      kZ kZ pZ 0 ?_ ?_ ?_
     ·exact⟨fun _=>HW.out.below (Below.refl _ _).drew,(fun h=>by cases h)⟩
     ·intro i_ o ho p_ l wx hR hl he hcl K hK;rcases i_ with _|_|_|_|_|_|_|_|_|_|_|_|_|_|_|_|i_
      any_goals first | (cases ho;go_simp;exact hK p_ wx (fun _ _=>rfl) hR;done) | fail
      ·cases ho
       have hl14:l 14=false:=by
        cases h:l 14 with
        | false=>rfl
        | true=>exact absurd (hcl 12 _ rfl (hcl 14 _ rfl h ⟨12,.data⟩ sZ rfl) ⟨4,.data⟩ sZ rfl) lZ
       have hw:=hR.1 hl14;have q:=aa hw.ad 23;go_simp;exact hK p_ wx (fun _ _=>rfl) hR
      ·cases ho
       have hl14:l 14=false:=by
        cases h:l 14 with
        | false=>rfl
        | true=>exact absurd (hcl 10 _ rfl (hcl 11 _ rfl (hcl 12 _ rfl (hcl 14 _ rfl h ⟨12,.data⟩ sZ rfl) ⟨11,.data⟩ sZ rfl) ⟨10,.data⟩ sZ rfl) ⟨8,.data⟩ sZ rfl) lZ
       have hw:=hR.1 hl14;have q:=aa hw.ad 24;go_simp;exact hK p_ wx (fun _ _=>rfl) hR
      ·cases ho
       have hl14:l 14=false:=by
        cases h:l 14 with
        | false=>rfl
        | true=>exact absurd (hcl 12 _ rfl (hcl 14 _ rfl h ⟨12,.data⟩ sZ rfl) ⟨11,.data⟩ sZ rfl) lZ
       have hw:=hR.1 hl14;obtain⟨_,hRN⟩:=HRd.out wx (fun k h1 h2 h3=>hw.run.keeps h1 h2 h3);obtain⟨gw2,ow2,e2,q⟩:=hRN i j HJ.out;cases e2;go_simp;exact hK p_ wx (fun _ _=>rfl) hR
      ·cases ho;have hw:=hR.1 hl;have HK:=Iu hw.nU HF1.out hB HI1.out HX.out hs0 hs1 hm0 hm1 hL HVo.out hv0 hv1;go_simp;refine HK.mono ?_;rintro e w2 hd;have hd2:=hd;obtain⟨a,t,V2,er,go2,he2,_⟩:=hd2;obtain rfl:=he2;refine hK er w2 (fun jj hj=>?_) ⟨(fun h=>by cases h),fun _=>hd.zM hw⟩;rcases jj with _|_|_|_|_|_|_|_|_|_|_|_|_|_|_|_|jj
       all_goals first | rfl | (rw[hl] at hj;cases hj) | (exact absurd (hcl 15 _ rfl hj ⟨14,.data⟩ sZ rfl) lZ)
      ·simp at ho
     ·intro p_ l wx hl hR;have hd:=hR.2 (hl 14 dZ);obtain⟨a,t,V2,er,go2,he2,h2,h3,h4⟩:=hd
      obtain rfl:p_=er:=by
       injection he2 with he2
       injection he2
      have hF2:=fu (fB B S V sl m x.1 x.2.2.1 x.2.2.2 wd) st1 HF1.out
      obtain⟨V3,hV3,hrb⟩:∃ V3,(p_=0->six V3=six V2)/\Rest p (if p_≠0 then .ret (V,p_) else storeT B S sl m V3 (ts1.set j (x.1,x.2.1,a,t)) ((tks.drop (i+1)).map fun tk=>(I tk,dV doc tk.2.2,fE doc tk.2.2))) st ((fB B S V sl m x.1 x.2.2.1 x.2.2.2 wd).on st1).2:=by
       cases hs:((fB B S V sl m x.1 x.2.2.1 x.2.2.2 wd).on st1).1 with
       | none=>exact⟨V2,fun _=>rfl,HQ2.out.bind HF1.out (k:=(a,t,V2,p_)) (fun y hy=>by rw[hs] at hy;cases hy)⟩
       | some y =>
        obtain⟨y1,y2⟩:=h4 y hs;refine⟨y.2.2.1,fun h0=>(y2 h0).2.2,?_⟩;have hb:=HQ2.out.bind HF1.out (k:=y) (fun z hz=>by rw[hs] at hz;cases hz;rfl);refine hb.same ?_;show (if y.2.2.2≠0 then _ else _)=_;rw[y1];by_cases h0:p_=0
        ·rw[if_neg oZ,if_neg oZ,(y2 h0).1,(y2 h0).2.1]
        ·rw[if_pos h0,if_pos h0]
      obtain⟨st2,hst2⟩:∃ st2,st2=((fB B S V sl m x.1 x.2.2.1 x.2.2.2 wd).on st1).2:=⟨_,rfl⟩;rw[<- hst2] at h2 h3 hF2 hrb;clear hst2 h4 he2 hR hl HW HQ2 HF1;by_cases hp0:p_=0
      ·have b1:(p_ != 0)=false:=by simpa using hp0
       have hV3:=hV3 hp0;obtain⟨h5,h6⟩:=h2 hp0
       have h5:WF S0 w rb mb cb go g gt B S C (m:Int) L sl V3 n cap (.slice (some ⟨gw,oow,none⟩) nw cw) (ts1.set j (x.1,x.2.1,a,t)) st2 go2 wx:=by
        refine⟨h5.run,?_,h5.tr,h5.mine⟩;have e:=h5.ad
        rw[show lC rb B S C (m:Int) L sl V3 (.slice (some ⟨gt,0,none⟩) n cap) (.slice (some ⟨gw,oow,none⟩) nw cw)=lC rb B S C (m:Int) L sl V2 (.slice (some ⟨gt,0,none⟩) n cap) (.slice (some ⟨gw,oow,none⟩) nw cw) by
         unfold lC;rw[l7 hV3 0 oZ,l7 hV3 1 oZ,l7 hV3 2 oZ,l7 hV3 3 oZ,l7 hV3 4 oZ,l7 hV3 5 oZ]]
        exact e
       have HW9:=hJ h5;have HF9:=hJ hF2;have HQ9:=hJ (hrb.same (q':=storeT B S sl m V3 (ts1.set j (x.1,x.2.1,a,t)) ((tks.drop (i+1)).map fun tk=>(I tk,dV doc tk.2.2,fE doc tk.2.2))) (by rw[if_neg oZ]));have HV9:=hJ (show st2.off=false->∀ k,k<6->0<=V3 k/\V3 k<=S k from fun h0 k hk=>by rw[l7 hV3 k hk];exact h6 h0 k hk)
       have HK9:=hJ (show (ts1.set j (x.1,x.2.1,a,t)).length=ts.length/\∀ y∈ts1.set j (x.1,x.2.1,a,t),(∀ b∈y.1,b<256)/\y.1.length<=1000 from⟨by rw[List.length_set];exact HKs.out.1,fun y hy=>by
        rcases List.mem_or_eq_of_mem_set hy with hy | hy
        ·exact HKs.out.2 y hy
        ·rw[hy];exact HX.out⟩)
       clear h2 h3 h5 h6 hrb hF2 hV3;subst hp0;go_wp2_with fail
       go_roundw
       case rel=>exact⟨_,_,_,_,_,_,_,⟨i+1,oZ,by go_num,st2,go2,V3,_,⟨HW9.out,HF9.out,HQ9.out,HK9.out,HV9.out⟩⟩,rfl,rfl,rfl,rfl,rfl,rfl,rfl⟩
       case measure=>simp[intOf];omega
      ·have b1:(p_ != 0)=true:=by simpa using hp0
       obtain⟨V4,ts4,h5⟩:=h3 hp0;have HW9:=hJ h5;have HE:=hJ ((hrb.same (q':=.ret (V,p_)) (by rw[if_pos hp0])).ret);clear h2 h3 h5 hrb hF2 hV3;go_wp2_with fail
       try rw[Exit.noGoto_ret]
       go_ret;have hq:=HE.out;unfold fw at hq;unfold lK;refine⟨V4,ts4,p_,go2,rfl,by rw[hq.1];exact HW9.out,fun _ y hy=>?_⟩;rw[hq.2 y hy];exact⟨rfl,fun h=>absurd h hp0⟩
    ·have b1:(we != 0)=true:=by simpa using hwe0
     have hq:=HQ1.out;rw[if_pos (show we≠0 from hwe0)] at hq;have HE:=hJ hq.ret;clear hq HQ1;go_wp2_with fail
     try rw[Exit.noGoto_ret]
     go_ret;have hq:=HE.out;unfold fw at hq;unfold lK;refine⟨V,ts1,we,go1,rfl,by rw[hq.1];exact HW.out,fun _ y hy=>?_⟩;rw[hq.2 y hy];exact⟨rfl,fun h=>absurd h hwe0⟩
  ·obtain rfl:i=N:=oZ;have hq:=HQ.out;rw[List.drop_eq_nil_of_le (by rw[HNl.out];omega)] at hq;have HE:=hJ (show fw p (V,(0:Int)) st st1 from hq.ret);clear hq;go_wp2_with fail
   go_ret;have hq:=HE.out;unfold fw at hq;unfold lK;refine⟨V,ts1,0,go1,rfl,by rw[hq.1];exact HW.out,fun _ y hy=>?_⟩;rw[hq.2 y hy];exact⟨rfl,fun _=>rfl⟩
theorem uw (a:List TR) (x:TR):dA (a++[x])=dA a+if x.2.2.1=0 then 1 else 0:=by
 unfold dA;rw[List.map_append,List.sum_append,List.map_cons,List.map_nil,List.sum_cons,List.sum_nil];omega
theorem qd (B S:Nat->Int) (a:List TR) (x:TR) (j:Nat):eT B S (a++[x]) j=eT B S a j+uE B S x j:=by
 unfold eT;rw[List.map_append,List.sum_append,List.map_cons,List.map_nil,List.sum_cons,List.sum_nil];omega
theorem take_set (l:List TR) (i:Nat) (y:TR) (h:i<l.length):(l.set i y).take (i+1)=l.take i++[y]:=by
 refine List.ext_getElem? fun j=>?_;rw[List.getElem?_take,List.getElem?_set,List.getElem?_append,List.getElem?_take,List.length_take];rcases Nat.lt_trichotomy j i with e | e | e
 ·rw[if_pos oZ,if_neg oZ,if_pos oZ,if_pos e]
 ·subst e;rw[if_pos oZ,if_pos rfl,if_pos h,if_neg oZ,show j-min j l.length=0 by omega];rfl
 ·rw[if_neg oZ,if_neg oZ,List.getElem?_eq_none uZ]
theorem Ck (l:List TR) (i:Nat) (y:TR):(l.set i y).drop (i+1)=l.drop (i+1):=by
 refine List.ext_getElem? fun j=>?_;rw[List.getElem?_drop,List.getElem?_drop,List.getElem?_set,if_neg oZ]
theorem Ex {B S:Nat->Int} {x:TR} (hl:x.1.length<=1000) (hc:x.2.1<=3000) (j:Nat):0<=uE B S x j/\uE B S x j<=800000:=by
 have h1:0<=dU B S x.2.2.2 (x.2.1:Int) j/\dU B S x.2.2.2 (x.2.1:Int) j<=768000:=by
  unfold dU;split
  ·rw[Int.toNat_natCast];have a:=kD x.2.1 (bY B S x.2.2.2) (bI B S x.2.2.2) j;have b:=ru x.2.1 (bY B S x.2.2.2) (bI B S x.2.2.2) j;omega
  ·omega
 have h2:=bC x.1;unfold uE;split <;> omega
theorem xC (U:Nat->Int) (k:Nat) (hk:k<6) (w:World):(Instr.index 40 (.agg (six U)) (.int .i64 (k:Int))).run Tryz.prog w=.ok (.int .i64 (U k)) w:=by
 rcases (show k=0∨k=1∨k=2∨k=3∨k=4∨k=5 by omega) with rfl | rfl | rfl | rfl | rfl | rfl <;> kernel_rfl
def rP (S0:Nat->Prop) (W:World) (rb mb cb:Nat) (go0:Option Nat) (g gt:Nat) (B S:Nat->Int) (C L sl:Int) (m:Nat) (Us:Nat->Int) (n cap:Nat) (vw:Value) (ts0:List TR) (p:Pr (List TR)) (st:St) (e:Ending) (w':World):Prop :=
 ∃ ts1 fr M go',e=.returned (.tuple #[.int .i64 fr,.agg (six M)])/\WF S0 W rb mb cb go0 g gt B S C (m:Int) L sl Us n cap vw ts1 (p.on st).2 go' w'/\ts1.length=ts0.length/\(∀ x∈ts1,(∀ b∈x.1,b<256)/\x.1.length<=1000)/\(0<=fr/\fr<=1000000)/\(st.off=false->∀ y,(p.on st).1=some y->ts1=y/\fr=dA y/\∀ j,j<6->M j=eT B S y j)
structure LM (S0:Nat->Prop) (w:World) (rb mb cb:Nat) (go:Option Nat) (g gt qm:Nat) (B S:Nat->Int) (C L sl:Int) (m:Nat) (Us:Nat->Int) (n cap:Nat) (vw:Value) (ts0:List TR) (p:Pr (List TR)) (st:St) (Bd:Nat) (i:Nat) (st1:St) (go1:Option Nat) (ts1:List TR) (fr:Int) (M:Nat->Int) (wr:World):Prop where
 wf:WF S0 w rb mb cb go g gt B S C (m:Int) L sl Us n cap vw ts1 st1 go1 wr
 fine:st1.dO Bd
 rest:Rest p (jP sl m (ts1.take i) (ts0.drop i)) st st1
 tail0:ts1.drop i=ts0.drop i
 len:ts1.length=ts0.length
 keys:∀ x∈ts1,(∀ b∈x.1,b<256)/\x.1.length<=1000/\x.2.1<=3000
 fresh:fr=dA (ts1.take i)/\0<=fr/\fr<=i
 more_:∀ j,j<6->M j=eT B S (ts1.take i) j/\0<=M j/\M j<=i*800000
 blk:w.heap.size<=qm/\wr.heap[qm]?=some (.cells (six M) 40 (0,0))
theorem wK {B S:Nat->Int} {t:Int} {c:Nat} (hc:c<=3000) (j:Nat):0<=dU B S t (c:Int) j/\dU B S t (c:Int) j<=768000:=by
 unfold dU;split
 ·rw[Int.toNat_natCast];have a:=kD c (bY B S t) (bI B S t) j;have b:=ru c (bY B S t) (bI B S t) j;omega
 ·omega
theorem IL {S0:Nat->Prop} {w:World} {rb mb cb:Nat} {go:Option Nat} {g gt:Nat} {B S:Nat->Int} {C L sl:Int} {m:Nat} {Us:Nat->Int} {n cap:Nat} {vw:Value} {ts0:List TR} {st:St} {Bd:Nat} (h:WF S0 w rb mb cb go g gt B S C (m:Int) L sl Us n cap vw ts0 st go w) (hf:st.dO Bd) (hB:Bd<1000000000) (hts:∀ x∈ts0,(∀ b∈x.1,b<256)/\x.1.length<=1000/\x.2.1<=3000) (hz0:∀ x∈ts0,x.2.2.2=0) (hn:n<=1000) (hs0:0<=sl) (hs1:sl<=1000000) (hm0:1<=m) (hm1:m<=1000000) (hL:Laid B S C) :
  Calls Tryz.prog 86 #[.pointer (some ⟨g,0,none⟩)] w fun e w'=>rP S0 w rb mb cb go g gt B S C L sl m Us n cap vw ts0 (jP sl m [] ts0) st e w':=by
 obtain⟨pt,hp⟩:∃ pt,pt=jP sl m [] ts0:=⟨_,rfl⟩;have HQ:=hJ (show Rest pt (jP sl m (ts0.take 0) (ts0.drop 0)) st st from(Rest.start pt st).same hp);rw[<- hp];have HF:=hJ hf;have HW:=hJ h;have HTs:=hJ (And.intro hts hz0)
 have hnlen:n=ts0.length:=by
  obtain⟨h0,⟨h1,_⟩ | ⟨g',cap',cur,k1,_⟩⟩:=h.tr
  ·cases h1
  ·cases k1;rfl
 have HNT:=hJ hnlen;have c23:w.cell? ⟨g,23,none⟩=some (.slice (some ⟨gt,0,none⟩) n cap):=aa h.ad 23;clear hf h hts hz0 hp hnlen;go_enter Tryz.func86,Tryz.ntmps86
 go_upto_region 1 with fail
 have hz:(w.alloc (.cells #[.int .i64 0,.int .i64 0,.int .i64 0,.int .i64 0,.int .i64 0,.int .i64 0] 40))=(w.alloc (.cells (six fun _=>0) 40)):=rfl;rw[hz];have hb0:Below w.heap.size w (w.alloc (.cells (six fun _=>0) 40)):=aj;have HW:=hJ (HW.out.below hb0);have HQm:=hJ (nZ w (.cells (six fun _=>0) 40));obtain⟨qm,hqm⟩:∃ qm,qm=w.heap.size:=⟨_,rfl⟩;have HQM:=hJ (show w.heap.size<=qm by omega);rw[<- hqm] at HQm;rw[show (Value.pointer (some ⟨w.heap.size,0,none⟩))=.pointer (some ⟨qm,0,none⟩) by rw[hqm]];have c23:=az c23 hb0;generalize w.alloc (.cells (six fun _=>0) 40)=wa at HW HQm c23 ⊢;clear hqm hz hb0;go_wp2_with fail
 clear c23;go_loopg [2,13] n (fun gq fv iv wr=>∃ (i:Nat) (st1:St) (go1:Option Nat) (ts1:List TR) (fr:Int) (M:Nat->Int),i+gq=n/\fv=.int .i64 fr/\iv=.int .i64 (i:Int)/\LM S0 w rb mb cb go g gt qm B S C L sl m Us n cap vw ts0 pt st Bd i st1 go1 ts1 fr M wr)
 case atStart=>exact⟨0,st,go,ts0,0,fun _=>0,oZ,rfl,rfl,⟨HW.out,HF.out,HQ.out,rfl,rfl,HTs.out.1,⟨rfl,oZ,oZ⟩,fun j hj=>⟨rfl,oZ,oZ⟩,HQM.out,HQm.out⟩⟩
 case round =>
  clear HW HF HQ HQm HQM;obtain⟨i,st1,go1,ts1,fr,M,hig,rfl,rfl,hat⟩:=hrel;have HW1:=hJ hat.wf;have HF1:=hJ hat.fine;have HQ1:=hJ hat.blk;have HKs:=hJ hat.keys;have HFr:=hJ hat.fresh.1;have hfr0:=hat.fresh.2.1;have hfr1:=hat.fresh.2.2;have HM:=hJ hat.more_;cases gk with
  | zero =>
   obtain rfl:n=i:=oZ;have hq:=hat.rest;rw[List.drop_eq_nil_of_le (by rw[<- HNT.out];omega),List.take_of_length_le (by rw[hat.len,<- HNT.out];omega)] at hq;have hend:fw pt ts1 st st1:=hq.ret;have HWe:=HW1;have HQe:=HQ1
   have HE9:Hid ((pt.on st).2=st1/\ts1.length=ts0.length/\(∀ y∈ts1,(∀ b∈y.1,b<256)/\y.1.length<=1000)/\(0<=fr/\fr<=1000000)/\(st.off=false->∀ y,(pt.on st).1=some y->ts1=y/\fr=dA y/\∀ j,j<6->M j=eT B S y j)):=hJ ⟨hend.1,hat.len,fun y hy=>⟨(HKs.out y hy).1,(HKs.out y hy).2.1⟩,⟨hfr0,oZ⟩,fun h0 y hy=>by
    rw[hend.2 y hy];have ht:ts1.take n=ts1:=List.take_of_length_le (by rw[hat.len,<- HNT.out];omega);refine⟨rfl,by rw[HFr.out,ht],fun j hj=>?_⟩;rw[(HM.out j hj).1,ht]⟩
   obtain⟨ts9,hts9⟩:∃ x,x=ts1:=⟨_,rfl⟩;obtain⟨fr9,hfr9⟩:∃ x,x=fr:=⟨_,rfl⟩;obtain⟨M9,hM9⟩:∃ x,x=M:=⟨_,rfl⟩;obtain⟨st9,hst9⟩:∃ x,x=st1:=⟨_,rfl⟩;obtain⟨go9,hgo9⟩:∃ x,x=go1:=⟨_,rfl⟩;rw[<- hts9,<- hst9,<- hgo9] at HWe;rw[<- hM9] at HQe;rw[<- hfr9];rw[<- hts9,<- hst9,<- hM9,<- hfr9] at HE9;clear hts9 hfr9 hM9 hst9 hgo9;clear hat hq hend HW1 HQ1 HF1 HKs HFr HM hfr0 hfr1 hig;go_upto_region 17 with fail
   refine fZ (fun(p:Unit) jz=>[.int .i64 fr9,.agg (six M9),.int .i64 fr9,undef].getD jz undef)
    (fun p l wx=>WF S0 w rb mb cb go g gt B S C (m:Int) L sl Us n cap vw ts9 st9 go9 wx/\w.heap.size<=qm/\wx.heap[qm]?=some (.cells (six M9) 40 (0,0)))
    _ kZ (fun i j=>i==0&&j==2) kZ pZ () ?_ ?_ ?_ ?_ ?_
   ·exact⟨HWe.out.below (Below.refl _ _).drew,HQe.out.1,HQe.out.2⟩
   ·intro l hc i' j' hL hj;obtain⟨rfl,rfl⟩:i'=0/\j'=2:=by simpa using hL
    exact(hc 2 _ rfl hj ⟨0,.data⟩ sZ rfl)
   ·intro q l wx hR i' j' d hL hd hj;obtain⟨rfl,rfl⟩:i'=0/\j'=2:=by simpa using hL
    obtain rfl:2=d:=Option.some.inj hd;rfl
   ·intro i o ho p l wx hR hl he K hK;rcases i with _|_|_|_|i
    ·cases ho;go_simp;exact hK p wx (fun _ _=>rfl) hR
    ·cases ho;refine wp_load_row 40 (.tmp 3) rfl qm rfl 40 (six M9) (0,0) _ hR.2.2 Tryz.underlying40 rfl (af _) ?_;exact hK p wx (fun _ _=>rfl) hR
    ·cases ho;go_simp;exact hK p wx (fun _ _=>rfl) hR
    ·cases ho;refine wp_store_row 40 (.tmp 3) (.tmp 107) rfl qm (six M9) rfl rfl 40 _ hR.2.2 (af _) (aS _ _) (aQ _) ?_;exact hK p _ (fun _ _=>rfl) ⟨hR.1.turn hR.2.2 hR.2.1 dZ (bB.setRow (S:=fun j=>j=qm) (bB.refl _ _) (.inr rfl) _),hR.2.1,setRow_heap _ _ _ _ _ _ hR.2.2⟩
    ·simp at ho
   ·intro p l wx hl hR;have HW9:=hJ hR.1;have HQ9:=hJ hR.2;clear hR hl HWe HQe;go_wp2_with fail
    refine tZ (v:=.tuple #[.int .i64 fr9,.agg (six M9)]) (bX rfl _ _ qm _ _ (0,0) _ _ rfl rfl HQ9.out.2 Tryz.underlying40 rfl (af _)) rfl ?_;unfold rP;exact⟨ts9,fr9,M9,go9,rfl,by rw[HE9.out.1];exact HW9.out,HE9.out.2.1,HE9.out.2.2.1,HE9.out.2.2.2.1,HE9.out.2.2.2.2⟩
  | succ gq =>
   have hin:i<n:=oZ;have hin1:(i:Int)<(n:Int):=oZ;have hi0:(0:Int)<=(i:Int):=oZ;have hlen0:i<ts0.length:=by rw[<- HNT.out];omega
   obtain⟨x,hx⟩:∃ x,ts0[i]?=some x:=⟨_,gZ hlen0⟩
   have hdr0:ts0.drop i=x :: ts0.drop (i+1):=by
    rw[List.drop_eq_getElem_cons hlen0,(eZ.1 hx).2]
   have hx1:ts1[i]?=some x:=by
    have:=congrArg (fun l=>l[0]?) hat.tail0;simp only[List.getElem?_drop,Nat.add_zero] at this;rw[this,hx]
   have HD:=hJ (show ts1.drop (i+1)=ts0.drop (i+1) by
    have:=congrArg (fun l=>l.drop 1) hat.tail0;simpa [List.drop_drop,Nat.add_comm] using this)
   have HB8:=hJ (show ts1.length=ts0.length/\i<ts1.length from⟨hat.len,by rw[hat.len];exact hlen0⟩);have hr:=hat.rest;rw[hdr0] at hr;have HR1:=hJ (show Rest pt ((jf sl (m:Int) x.1).bind fun z=>if z.1≠0 then .load z.1 fun t=>jP sl m (ts1.take i++[(x.1,x.2.1,z.1,t)]) (ts0.drop (i+1)) else jP sl m (ts1.take i++[(x.1,x.2.1,0,0)]) (ts0.drop (i+1))) st st1 from hr);have HI1:=hJ hx1;have HX:=hJ (HTs.out.1 x (List.mem_of_getElem? hx));have HX0:=hJ (HTs.out.2 x (List.mem_of_getElem? hx));have hkey:ax (ay x.1)=x.1:=aX x.1 HX.out.1
   have hks:(ay x.1).size<=1000000:=by
    have e:=congrArg List.length hkey;rw[aD] at e;have:=HX.out.2.1;omega
   have HKey:=hJ hkey;have HKs2:=hJ hks;have HKl:=hJ (show (ay x.1).size<=reachBytes by unfold reachBytes;omega);have c23:wr.cell? ⟨g,23,none⟩=some (.slice (some ⟨gt,0,none⟩) n cap):=aa HW1.out.ad 23;clear hat hlen0 hx hdr0 hx1 hr hkey hks;go_upto_region 5 with fail
   clear c23
   refine aI (fun(p:Int×Int×Option Nat) jz=>[.pointer (some ⟨gt,i*4,none⟩),.pointer (some ⟨g,0,none⟩),.pointer (some ⟨g,0,none⟩),.pointer (some ⟨g,0,none⟩),.pointer (some ⟨rb,0,none⟩),.pointer (some ⟨g,0,none⟩),.pointer (some ⟨g,0,none⟩),.pointer (some ⟨g,16,none⟩),.int .i64 sl,.pointer (some ⟨g,0,none⟩),.pointer (some ⟨g,0,none⟩),.pointer (some ⟨g,1,none⟩),.pointer (some ⟨g,14,none⟩),.int .i64 (m:Int),.pointer (some ⟨gt,i*4,none⟩),.pointer (some ⟨gt,i*4,none⟩),.pointer (some ⟨gt,i*4,none⟩),Value.string (ay x.1),.tuple #[.int .i64 p.1,.int .i64 p.2.1],.tuple #[.int .i64 p.1,.int .i64 p.2.1],.int .i64 p.1,.int .i64 p.2.1,.pointer (some ⟨gt,i*4,none⟩),.pointer (some ⟨gt,i*4+2,none⟩),undef].getD jz undef)
    (fun p l wx=>(l 18=false->WF S0 w rb mb cb go g gt B S C (m:Int) L sl Us n cap vw ts1 st1 go1 wx)/\(l 18=true->WF S0 w rb mb cb go g gt B S C (m:Int) L sl Us n cap vw (if l 24 then ts1.set i (x.1,x.2.1,p.1,x.2.2.2) else ts1) ((jf sl (m:Int) x.1).on st1).2 p.2.2 wx/\(∀ y,((jf sl (m:Int) x.1).on st1).1=some y->y.1=p.1/\y.2=p.2.1)/\0<=p.1/\p.1<=4294967295)/\w.heap.size<=qm/\wx.heap[qm]?=some (.cells (six M) 40 (0,0)))
    kZ kZ pZ (0,0,none) ?_ ?_ ?_
   ·exact⟨fun _=>HW1.out.below (Below.refl _ _).drew,(fun h=>by cases h),HQ1.out.1,HQ1.out.2⟩
   ·intro i o ho p l wx hR hl he hcl K hK;rcases i with _|_|_|_|_|_|_|_|_|_|_|_|_|_|_|_|_|_|_|_|_|_|_|_|_|i
    any_goals first | (cases ho;go_simp;exact hK p wx (fun _ _=>rfl) hR;done) | fail
    ·cases ho
     have hlc:l 18=false:=by
      cases h:l 18 with
      | false=>rfl
      | true=>exact absurd (hcl 18 _ rfl h ⟨4,.data⟩ sZ rfl) lZ
     have hw:=hR.1 hlc;have q:=aa hw.ad 0;go_simp;exact hK p wx (fun _ _=>rfl) hR
    ·cases ho
     have hlc:l 18=false:=by
      cases h:l 18 with
      | false=>rfl
      | true=>exact absurd (hcl 18 _ rfl h ⟨8,.data⟩ sZ rfl) lZ
     have hw:=hR.1 hlc;have q:=aa hw.ad 16;go_simp;exact hK p wx (fun _ _=>rfl) hR
    ·cases ho
     have hlc:l 18=false:=by
      cases h:l 18 with
      | false=>rfl
      | true=>exact absurd (hcl 18 _ rfl h ⟨13,.data⟩ sZ rfl) lZ
     have hw:=hR.1 hlc;have q:=aa hw.ad 14;go_simp;exact hK p wx (fun _ _=>rfl) hR
    ·cases ho
     have hlc:l 18=false:=by
      cases h:l 18 with
      | false=>rfl
      | true=>exact absurd (hcl 18 _ rfl h ⟨17,.data⟩ sZ rfl) lZ
     have hw:=hR.1 hlc;have q:=(hw.tr.cells HI1.out).1;go_simp;exact hK p wx (fun _ _=>rfl) hR
    ·cases ho;have hw:=hR.1 hl;have HK:=Ag sl m (ay x.1) hw.run.rm HF1.out hB hs0 hs1 hm0 hm1 HKl.out;rw[HKey.out] at HK;go_simp;refine HK.mono ?_;rintro e w2 ⟨a,k,go2,rfl,hr2,ha2,hans,hk0,hk1⟩
     have h24:l 24=false:=by
      cases h24:l 24 with
      | false=>rfl
      | true=>exact absurd (hcl 19 _ rfl (hcl 20 _ rfl (hcl 24 _ rfl h24 ⟨20,.data⟩ sZ rfl) ⟨19,.data⟩ sZ rfl) ⟨18,.data⟩ sZ rfl) lZ
     refine hK (a,k,go2) w2 (fun j hj=>?_) ⟨(fun h=>by cases h),fun _=>⟨?_,hans,hk0⟩,hR.2.2.1,hw.run.stays ha2 hR.2.2.2 (.inr hR.2.2.1) dZ⟩
     ·rcases j with _|_|_|_|_|_|_|_|_|_|_|_|_|_|_|_|_|_|_|_|_|_|_|_|_|j
      all_goals first | rfl | (rw[hl] at hj;cases hj) | (exact absurd (hcl 19 _ rfl hj ⟨18,.data⟩ sZ rfl) lZ) | (exact absurd (hcl 19 _ rfl (hcl 20 _ rfl hj ⟨19,.data⟩ sZ rfl) ⟨18,.data⟩ sZ rfl) lZ) | (exact absurd (hcl 19 _ rfl (hcl 21 _ rfl hj ⟨19,.data⟩ sZ rfl) ⟨18,.data⟩ sZ rfl) lZ) | (exact absurd (hcl 19 _ rfl (hcl 20 _ rfl (hcl 24 _ rfl hj ⟨20,.data⟩ sZ rfl) ⟨19,.data⟩ sZ rfl) ⟨18,.data⟩ sZ rfl) lZ)
     ·rw[if_neg (by show ¬ ((24==18||l 24)=true);rw[h24];decide)];exact hw.access hr2 ha2
    ·cases ho;have h18:=hcl 19 _ rfl (hcl 20 _ rfl (he ⟨20,.data⟩ sZ rfl) ⟨19,.data⟩ sZ rfl) ⟨18,.data⟩ sZ rfl;obtain⟨hw,h2⟩:=hR.2.1 h18;rw[if_neg lZ] at hw;have k3:=(hw.tr.cells HI1.out).2.2.1;have k5:=(hw.tr.cells HI1.out).2.2.2.2.1;have f3:=k5 (i*4+2);have hgt:=(hw.run.own _ hw.mine.2).2;go_simp;refine hK p _ (fun _ _=>rfl) ⟨fun h=>absurd h18 (by rw[show l 18=false from h];decide),fun _=>⟨?_,h2⟩,hR.2.2.1,(Below.heap_setCell wx ⟨gt,i*4+2,none⟩ (.int .i64 p.1) qm (by show qm≠gt;have:=hR.2.2.1;omega)).trans hR.2.2.2⟩;exact hw.zI HI1.out p.1
    ·simp at ho
   ·intro p l wx hl hR;obtain⟨a,k5,go2⟩:=p;obtain⟨hw2,hans2,ha0,ha1⟩:=hR.2.1 (hl 18 dZ);rw[if_pos (hl 24 dZ)] at hw2;simp only at hw2 hans2 ha0 ha1;have HQ2:=hJ hR.2.2;have hF2:=fu (jf sl (m:Int) x.1) st1 HF1.out;have hr2:=HR1.out.bind HF1.out (k:=(a,k5)) (fun y hy=>Prod.ext (hans2 y hy).1 (hans2 y hy).2);obtain⟨st2,hst2⟩:∃ st2,st2=((jf sl (m:Int) x.1).on st1).2:=⟨_,rfl⟩;rw[<- hst2] at hw2 hF2 hr2;obtain⟨ts2,hts2⟩:∃ ts2,ts2=ts1.set i (x.1,x.2.1,a,x.2.2.2):=⟨_,rfl⟩;rw[<- hts2] at hw2;obtain⟨x2,hx2⟩:∃ x2:TR,x2=(x.1,x.2.1,a,x.2.2.2):=⟨_,rfl⟩;have HW2:=hJ hw2;have HF2:=hJ hF2;have HR2:=hJ hr2;have HT2:=hJ hts2;have hb8:=HB8.out;have HI2:=hJ (show ts2[i]?=some (x.1,x.2.1,a,x.2.2.2) by rw[hts2,List.getElem?_set,if_pos rfl,if_pos oZ]);clear hw2 hans2 hF2 hr2 hst2 hts2 hx2 hb8 hR hl HW1 HQ1 HR1 HF1 x2;have c_rec:wx.cell? ⟨gt,i*4+2,none⟩=some (.int .i64 a):=(HW2.out.tr.cells HI2.out).2.2.1;by_cases hz:a=0
    ·have b0:(a != 0)=false:=by simpa using hz
     subst hz;have sf:IntKind.i64.wrap (fr+1)=fr+1:=iZ _ oZ;obtain⟨cl,hcl⟩:∃ cl,cl=(aF x.1).length:=⟨_,rfl⟩;have HCl:=hJ hcl.symm;have hclb:cl<=251:=by rw[hcl,bC];have:=HX.out.2.1;omega
     have HClb:=hJ hclb;have hM4:=HM.out 4 oZ;have s1:IntKind.i64.wrap (2+(cl:Int))=2+(cl:Int):=iZ _ oZ;have s2:IntKind.i64.wrap (M 4+(2+(cl:Int)))=M 4+(2+(cl:Int)):=iZ _ oZ;obtain⟨M2,hM2⟩:∃ M2:Nat->Int,M2=fun j=>if j=4 then M 4+(2+(cl:Int)) else M j:=⟨_,rfl⟩
     have HM2:=hJ (show ∀ j,j<6->M2 j=if j=4 then M 4+(2+(cl:Int)) else M j from fun j _=>by rw[hM2]);clear hcl hclb hM4 hM2;go_upto_region 9 with fail
     clear c_rec
     refine aI (fun(p:Option Addr×Nat) jz=>[.pointer (some ⟨qm,4,none⟩),.int .i64 (M 4),.pointer (some ⟨gt,i*4,none⟩),.pointer (some ⟨gt,i*4,none⟩),.pointer (some ⟨gt,i*4,none⟩),Value.string (ay x.1),.slice p.1 cl p.2,.int .i64 (cl:Int),.int .i64 (2+(cl:Int)),.int .i64 (M 4+(2+(cl:Int))),.pointer (some ⟨qm,4,none⟩),undef].getD jz undef)
      (fun p l wx=>WF S0 w rb mb cb go g gt B S C (m:Int) L sl Us n cap vw ts2 st2 go2 wx/\w.heap.size<=qm/\wx.heap[qm]?=some (.cells (six (if l 11 then M2 else M)) 40 (0,0)))
      kZ kZ pZ (none,0) ?_ ?_ ?_
     ·exact⟨HW2.out.below (Below.refl _ _).drew,HQ2.out.1,by rw[if_neg dZ];exact HQ2.out.2⟩
     ·intro i o ho p l wx hR hl he hcl K hK;rcases i with _|_|_|_|_|_|_|_|_|_|_|_|i
      any_goals first | (cases ho;go_simp;exact hK p wx (fun _ _=>rfl) hR;done) | fail
      ·cases ho
       have q:wx.cell? ⟨qm,4,none⟩=some (.int .i64 (M 4)):=by
        have h11:l 11=false:=by
         cases h:l 11 with
         | false=>rfl
         | true=>exact absurd (hcl 9 _ rfl (hcl 11 _ rfl h ⟨9,.data⟩ sZ rfl) ⟨1,.data⟩ sZ rfl) lZ
        have hq:=hR.2.2;rw[if_neg (by rw[h11];decide)] at hq;exact aa hq 4
       go_simp;exact hK p wx (fun _ _=>rfl) hR
      ·cases ho;have q:=(hR.1.tr.cells HI2.out).1;go_simp;exact hK p wx (fun _ _=>rfl) hR
      ·cases ho;have HK:=Aa wx (ay x.1) HKs2.out;rw[HKey.out] at HK;go_simp;refine HK.mono ?_;rintro e w2 ⟨v,rfl,hown,hb⟩;obtain⟨oa,cp,rfl,_⟩:=hown.far;rw[HCl.out];refine hK (oa,cp) w2 (fun j hj=>?_) ⟨hR.1.below hb,hR.2.1,(hb.block _ (lt_of_heap hR.2.2)).trans hR.2.2⟩;rcases j with _|_|_|_|_|_|_|_|_|_|_|_|j
       all_goals first | rfl | (rw[hl] at hj;cases hj) | (exact absurd (hcl 7 _ rfl hj ⟨6,.data⟩ sZ rfl) lZ) | (exact absurd (hcl 7 _ rfl (hcl 8 _ rfl hj ⟨7,.data⟩ sZ rfl) ⟨6,.data⟩ sZ rfl) lZ) | (exact absurd (hcl 7 _ rfl (hcl 8 _ rfl (hcl 9 _ rfl hj ⟨8,.data⟩ sZ rfl) ⟨7,.data⟩ sZ rfl) ⟨6,.data⟩ sZ rfl) lZ) | (exact absurd (hcl 7 _ rfl (hcl 8 _ rfl (hcl 9 _ rfl (hcl 11 _ rfl hj ⟨9,.data⟩ sZ rfl) ⟨8,.data⟩ sZ rfl) ⟨7,.data⟩ sZ rfl) ⟨6,.data⟩ sZ rfl) lZ)
      ·cases ho;have hq:=hR.2.2;rw[if_neg lZ] at hq;have q:=aa hq 4;have f4:=free_at hq 4;go_simp;refine hK p _ (fun _ _=>rfl) ⟨hR.1.turn hq hR.2.1 dZ (bB.setCell (S:=fun j=>j=qm) (bB.refl _ _) (.inr rfl) _),hR.2.1,?_⟩;rw[if_pos (by show ((11==11||l 11)=true);rfl),heap_setCell_same _ _ _ _ _ _ hq];show some (Obj.cells ((six M).setIfInBounds 4 _) _ _)=_;rw[iC M M2 4 _ oZ HM2.out]
      ·simp at ho
     ·intro p l wx hl hR;have hw3:=hR.1;have hq3:=hR.2;rw[if_pos (hl 11 dZ)] at hq3;obtain⟨st3,hst3⟩:∃ st3,st3=st2:=⟨_,rfl⟩;obtain⟨go3,hgo3⟩:∃ go3,go3=go2:=⟨_,rfl⟩;obtain⟨ts3,hts3⟩:∃ ts3,ts3=ts2:=⟨_,rfl⟩;obtain⟨x3,hx3⟩:∃ x3:TR,x3=(x.1,x.2.1,(0:Int),(0:Int)):=⟨_,rfl⟩;have hr3:=HR2.out.same (q':=jP sl m (ts1.take i++[(x.1,x.2.1,0,0)]) (ts0.drop (i+1))) (by show (if(0:Int)≠0 then _ else _)=_;rw[if_neg sZ]);rw[<- hx3] at hr3;rw[<- hst3] at hw3 hr3;rw[<- hgo3,<- hts3] at hw3;have HW3:=hJ hw3;have HQ3:=hJ hq3;have HF3:=hJ (show st3.dO Bd by rw[hst3];exact HF2.out);have HR3:=hJ hr3;have hts3':ts3=ts1.set i x3:=by rw[hts3,HT2.out,hx3,HX0.out]
      have hb8:=HB8.out;have HI3:=hJ (show ts3[i]?=some x3 by rw[hts3',List.getElem?_set,if_pos rfl,if_pos oZ]);have HX3:=hJ (show x3.1.length<=1000/\x3.2.1<=3000 by rw[hx3];exact⟨HX.out.2.1,HX.out.2.2⟩);obtain⟨fr3,hfr3⟩:∃ fr3,fr3=fr+1:=⟨_,rfl⟩;rw[<- hfr3]
      have HK3:=hJ (show ts3.length=ts0.length/\(∀ y∈ts3,(∀ b∈y.1,b<256)/\y.1.length<=1000/\y.2.1<=3000)/\0<=fr3/\fr3<=(i:Int)+1 from⟨by rw[hts3',List.length_set];exact hb8.1,fun y hy=>by
       rw[hts3'] at hy;rcases List.mem_or_eq_of_mem_set hy with hy | hy
       ·exact HKs.out y hy
       ·rw[hy,hx3];exact HX.out,oZ,oZ⟩)
      have HT3:=hJ (show ts3.take (i+1)=ts1.take i++[x3]/\ts3.drop (i+1)=ts0.drop (i+1)/\fr3=dA (ts1.take i++[x3]) from⟨by rw[hts3'];exact take_set _ _ _ oZ,by rw[hts3',Ck];exact HD.out,by rw[uw,hx3,if_pos rfl,<- HFr.out];exact hfr3⟩)
      have HM3:=hJ (show ∀ j,j<6->M2 j=eT B S (ts1.take i) j+(if x3.2.2.1=0/\j=4 then 2+((aF x3.1).length:Int) else 0)/\0<=M2 j/\M2 j<=(i:Int)*800000+1000 from fun j hj=>by
       obtain⟨e1,e2,e3⟩:=HM.out j hj;have e5:=HCl.out;have e6:=HClb.out;by_cases ej:j=4
       ·subst ej;have e7:M2 4=M 4+(2+(cl:Int)):=by rw[HM2.out 4 oZ,if_pos rfl]
        rw[hx3,if_pos ⟨rfl,rfl⟩];show M2 4=eT B S (ts1.take i) 4+(2+((aF x.1).length:Int))/\0<=M2 4/\M2 4<=_;rw[e5];omega
       ·have e7:M2 j=M j:=by rw[HM2.out j hj,if_neg ej]
        rw[if_neg (fun e=>ej e.2)];omega)
      have HNz:=hJ (fun j=>wK (B:=B) (S:=S) (t:=x3.2.2.2) (c:=x3.2.1) HX3.out.2 j);obtain⟨M3,hM3⟩:∃ M3,M3=M2:=⟨_,rfl⟩;rw[<- hM3] at HQ3 HM3;clear hw3 hq3 hr3 hst3 hgo3 hx3 hts3 hts3' hb8 hfr3 hM3 hR hl HW2 HQ2 HR2 HF2 HT2 HI2 HM2;have c_ad:wx.cell? ⟨g,0,none⟩=some (.pointer (some ⟨rb,0,none⟩)):=aa HW3.out.ad 0;obtain⟨of,hoff⟩:∃ of,of=st3.off:=⟨_,rfl⟩;obtain⟨capo,hro⟩:=HW3.out.run.rm.run;rw[<- hoff] at hro;have HOf:=hJ hoff;have HRo:=hJ hro;clear hro hoff;cases of with
      | true =>
       have HWe:=HW3;have HQe:=HQ3
       have HE9:Hid ((pt.on st).2=st3/\ts3.length=ts0.length/\(∀ y∈ts3,(∀ b∈y.1,b<256)/\y.1.length<=1000)/\(0<=fr3/\fr3<=1000000)/\(st.off=false->∀ y,(pt.on st).1=some y->ts3=y/\fr3=dA y/\∀ j,j<6->M3 j=eT B S y j)):=hJ ⟨(HR3.out.G8 HF3.out.good HOf.out.symm).1,HK3.out.1,fun y hy=>⟨(HK3.out.2.1 y hy).1,(HK3.out.2.1 y hy).2.1⟩,⟨HK3.out.2.2.1,by have:=HK3.out.2.2.2;omega⟩,fun h0 y hy=>by
        rw[(HR3.out.G8 HF3.out.good HOf.out.symm).2 h0] at hy;cases hy⟩
       obtain⟨ts9,hts9⟩:∃ x,x=ts3:=⟨_,rfl⟩;obtain⟨fr9,hfr9⟩:∃ x,x=fr3:=⟨_,rfl⟩;obtain⟨M9,hM9⟩:∃ x,x=M3:=⟨_,rfl⟩;obtain⟨st9,hst9⟩:∃ x,x=st3:=⟨_,rfl⟩;obtain⟨go9,hgo9⟩:∃ x,x=go3:=⟨_,rfl⟩;rw[<- hts9,<- hst9,<- hgo9] at HWe;rw[<- hM9] at HQe;rw[<- hfr9];rw[<- hts9,<- hst9,<- hM9,<- hfr9] at HE9;clear hts9 hfr9 hM9 hst9 hgo9;clear HW3 HQ3 HR3 HF3 HK3 HM3 HT3 HOf;go_wp2_with fail
       refine(nJ HRo.out).mono ?_;rintro e w6 ⟨rfl,rfl⟩;clear HRo c_ad;go_upto_region 17 with fail
       refine fZ (fun(p:Unit) jz=>[.int .i64 fr9,.agg (six M9),.int .i64 fr9,undef].getD jz undef)
        (fun p l wx=>WF S0 w rb mb cb go g gt B S C (m:Int) L sl Us n cap vw ts9 st9 go9 wx/\w.heap.size<=qm/\wx.heap[qm]?=some (.cells (six M9) 40 (0,0)))
        _ kZ (fun i j=>i==0&&j==2) kZ pZ () ?_ ?_ ?_ ?_ ?_
       ·exact⟨HWe.out.below (Below.refl _ _).drew,HQe.out.1,HQe.out.2⟩
       ·intro l hc i' j' hL hj;obtain⟨rfl,rfl⟩:i'=0/\j'=2:=by simpa using hL
        exact(hc 2 _ rfl hj ⟨0,.data⟩ sZ rfl)
       ·intro q l wx hR i' j' d hL hd hj;obtain⟨rfl,rfl⟩:i'=0/\j'=2:=by simpa using hL
        obtain rfl:2=d:=Option.some.inj hd;rfl
       ·intro i o ho p l wx hR hl he K hK;rcases i with _|_|_|_|i
        ·cases ho;go_simp;exact hK p wx (fun _ _=>rfl) hR
        ·cases ho;refine wp_load_row 40 (.tmp 3) rfl qm rfl 40 (six M9) (0,0) _ hR.2.2 Tryz.underlying40 rfl (af _) ?_;exact hK p wx (fun _ _=>rfl) hR
        ·cases ho;go_simp;exact hK p wx (fun _ _=>rfl) hR
        ·cases ho;refine wp_store_row 40 (.tmp 3) (.tmp 107) rfl qm (six M9) rfl rfl 40 _ hR.2.2 (af _) (aS _ _) (aQ _) ?_;exact hK p _ (fun _ _=>rfl) ⟨hR.1.turn hR.2.2 hR.2.1 dZ (bB.setRow (S:=fun j=>j=qm) (bB.refl _ _) (.inr rfl) _),hR.2.1,setRow_heap _ _ _ _ _ _ hR.2.2⟩
        ·simp at ho
       ·intro p l wx hl hR;have HW9:=hJ hR.1;have HQ9:=hJ hR.2;clear hR hl HWe HQe;go_wp2_with fail
        refine tZ (v:=.tuple #[.int .i64 fr9,.agg (six M9)]) (bX rfl _ _ qm _ _ (0,0) _ _ rfl rfl HQ9.out.2 Tryz.underlying40 rfl (af _)) rfl ?_;unfold rP;exact⟨ts9,fr9,M9,go9,rfl,by rw[HE9.out.1];exact HW9.out,HE9.out.2.1,HE9.out.2.2.1,HE9.out.2.2.2.1,HE9.out.2.2.2.2⟩
      | false =>
       have HNeed:=hJ (fun w'=>ve w' B S C (m:Int) L x3.2.2.2 (x3.2.1:Int) hL oZ (by have:=HX3.out.2;omega));have HNb:=hJ (Ex (B:=B) (S:=S) (x:=x3) HX3.out.1 HX3.out.2);obtain⟨NZ,hNZ⟩:∃ NZ,NZ=dU B S x3.2.2.2 (x3.2.1:Int):=⟨_,rfl⟩;rw[<- hNZ] at HNeed;have HNZ:=hJ hNZ;clear hNZ;go_wp2_with fail
       refine(nJ HRo.out).mono ?_;rintro e w6 ⟨rfl,rfl⟩;clear HRo c_ad HOf;go_upto_region 11 with fail
       refine aI (fun(p:Unit) jz=>[.pointer (some ⟨g,0,none⟩),.pointer (some ⟨g,0,none⟩),.pointer (some ⟨g,1,none⟩),.agg (ae B S C (m:Int) L),.pointer (some ⟨gt,i*4,none⟩),.pointer (some ⟨gt,i*4,none⟩),.pointer (some ⟨gt,i*4+3,none⟩),.int .i64 x3.2.2.2,.pointer (some ⟨gt,i*4,none⟩),.pointer (some ⟨gt,i*4,none⟩),.pointer (some ⟨gt,i*4+1,none⟩),.int .i64 (x3.2.1:Int),.agg (six NZ),.int .i64 0].getD jz undef)
        (fun p l wx=>WF S0 w rb mb cb go g gt B S C (m:Int) L sl Us n cap vw ts3 st3 go3 wx/\w.heap.size<=qm/\wx.heap[qm]?=some (.cells (six M3) 40 (0,0)))
        kZ kZ pZ () ?_ ?_ ?_
       ·exact⟨HW3.out.below (Below.refl _ _).drew,HQ3.out.1,HQ3.out.2⟩
       ·intro i o ho p l wx hR hl he hcl K hK;rcases i with _|_|_|_|_|_|_|_|_|_|_|_|_|_|i
        any_goals first | (cases ho;go_simp;exact hK p wx (fun _ _=>rfl) hR;done) | fail
        ·cases ho;refine aR 42 (.tmp 83) rfl g 1 rfl 176 (lC rb B S C (m:Int) L sl Us (.slice (some ⟨gt,0,none⟩) n cap) vw) (ae B S C (m:Int) L) (0,0) _ hR.1.ad (kF _ _ _ _ _ _ _ _ _ _) Tryz.underlying42 rfl (ai _ _ _ _ _) ?_;exact hK p wx (fun _ _=>rfl) hR
        ·cases ho;have q:=(hR.1.tr.cells HI3.out).2.2.2.1;go_simp;exact hK p wx (fun _ _=>rfl) hR
        ·cases ho;have q:=(hR.1.tr.cells HI3.out).2.1;go_simp;exact hK p wx (fun _ _=>rfl) hR
        ·cases ho;go_simp;refine(HNeed.out wx).mono ?_;rintro e w2 ⟨rfl,hb⟩;exact hK p w2 (fun _ _=>rfl) ⟨hR.1.below hb,hR.2.1,(hb.block _ (lt_of_heap hR.2.2)).trans hR.2.2⟩
        ·simp at ho
       ·intro p l wx hl hR;have HW4:=hJ hR.1;have HQ4:=hJ hR.2;clear hR hl HW3 HQ3 HNeed;go_wp2_with fail
        go_loopg [94] 6 (fun g2 kv wy=>∃ k:Nat,k+g2=6/\kv=.int .i64 (k:Int)/\Hid (WF S0 w rb mb cb go g gt B S C (m:Int) L sl Us n cap vw ts3 st3 go3 wy)/\Hid (w.heap.size<=qm/\wy.heap[qm]?=some (.cells (six (fun j=>if j<k then M3 j+NZ j else M3 j)) 40 (0,0))))
        case atStart=>exact⟨0,oZ,rfl,HW4,hJ ⟨HQ4.out.1,by rw[show (fun j=>if j<0 then M3 j+NZ j else M3 j)=M3 from funext fun j=>by rw[if_neg oZ]];exact HQ4.out.2⟩⟩
        case round =>
         clear HW4 HQ4;obtain⟨k,hkg,rfl,HW4,HQ4⟩:=hrel;cases gk with
         | zero =>
          obtain rfl:k=6:=oZ;clear hkg;go_wp2_with fail
          go_roundg gq
          case measure=>omega
          case rel =>
           refine⟨i+1,st3,go3,ts3,fr3,(fun j=>if j<6 then M3 j+NZ j else M3 j),oZ,rfl,by go_num,⟨HW4.out,HF3.out,?_,HT3.out.2.1,HK3.out.1,HK3.out.2.1,⟨by rw[HT3.out.1];exact HT3.out.2.2,HK3.out.2.2.1,by have:=HK3.out.2.2.2;omega⟩,fun j hj=>?_,HQ4.out⟩⟩
           ·rw[HT3.out.1];exact HR3.out
           ·obtain⟨e1,e2,e3⟩:=HM3.out j hj;have e4:=HNb.out j;have e5:uE B S x3 j=(if x3.2.2.1=0/\j=4 then 2+((aF x3.1).length:Int) else 0)+NZ j:=by rw[HNZ.out];rfl
            show (if j<6 then M3 j+NZ j else M3 j)=_/\0<=(if j<6 then M3 j+NZ j else M3 j)/\(if j<6 then M3 j+NZ j else M3 j)<=_;rw[if_pos hj,HT3.out.1,qd];have e6:0<=NZ j/\NZ j<=768000:=by rw[HNZ.out];exact HNz.out j
            omega
         | succ g2 =>
          have hk6:k<6:=oZ;have hk1:(k:Int)<6:=oZ;have hk0:(0:Int)<=(k:Int):=oZ;have xi:∀ w,(Instr.index 40 (.agg (six NZ)) (.int .i64 (k:Int))).run Tryz.prog w=.ok (.int .i64 (NZ k)) w:=xC NZ k hk6;obtain⟨MK,hMK⟩:∃ MK,MK=(fun j=>if j<k then M3 j+NZ j else M3 j):=⟨_,rfl⟩;have hmk:MK k=M3 k:=by rw[hMK];show (if k<k then _ else _)=_;rw[if_neg oZ]
          rw[<- hMK] at HQ4;have cM:=aa HQ4.out.2 k;rw[dK MK k hk6,hmk] at cM;have fM:=free_at HQ4.out.2 k;have hb3:=HM3.out k hk6;have hbn:0<=NZ k/\NZ k<=768000:=by rw[HNZ.out];exact HNz.out k
          have sM:IntKind.i64.wrap (M3 k+NZ k)=M3 k+NZ k:=iZ _ oZ;have HMK:=hJ hMK;clear hMK hmk hb3 hbn;go_wp2_with fail
          go_roundg g2
          case measure=>omega
          case rel =>
           refine⟨k+1,oZ,by go_num,hJ (HW4.out.turn HQ4.out.2 HQ4.out.1 dZ (bB.setCell (S:=fun j=>j=qm) (bB.refl _ _) (.inr rfl) _)),hJ ⟨HQ4.out.1,?_⟩⟩;rw[heap_setCell_same _ _ _ _ _ _ HQ4.out.2];show some (Obj.cells ((six MK).setIfInBounds k _) _ _)=_
           rw[iC MK (fun j=>if j<k+1 then M3 j+NZ j else M3 j) k _ hk6 (fun j hj=>by
            rw[HMK.out];show (if j<k+1 then _ else _)=if j=k then _ else if j<k then _ else _
            by_cases e:j=k
            ·subst e;rw[if_pos oZ,if_pos rfl]
            ·rw[if_neg e];by_cases e2:j<k
             ·rw[if_pos oZ,if_pos e2]
             ·rw[if_neg oZ,if_neg e2])]
    ·have b0:(a != 0)=true:=by simpa using hz
     have HA0:=hJ (show a≠0 from hz);clear hz;go_upto_region 7 with fail
     clear c_rec
     refine aI (fun(p:Int×Option Nat) jz=>[.pointer (some ⟨gt,i*4,none⟩),.pointer (some ⟨g,0,none⟩),.pointer (some ⟨g,0,none⟩),.pointer (some ⟨g,0,none⟩),.pointer (some ⟨rb,0,none⟩),.pointer (some ⟨gt,i*4,none⟩),.pointer (some ⟨gt,i*4,none⟩),.pointer (some ⟨gt,i*4+2,none⟩),.int .i64 a,.int .i64 p.1,.pointer (some ⟨gt,i*4,none⟩),.pointer (some ⟨gt,i*4+3,none⟩),undef].getD jz undef)
      (fun p l wx=>(l 9=false->WF S0 w rb mb cb go g gt B S C (m:Int) L sl Us n cap vw ts2 st2 go2 wx)/\(l 9=true->WF S0 w rb mb cb go g gt B S C (m:Int) L sl Us n cap vw (if l 12 then ts2.set i (x.1,x.2.1,a,p.1) else ts2) ((qK a).on st2).2 p.2 wx/\∀ y,((qK a).on st2).1=some y->y=p.1)/\w.heap.size<=qm/\wx.heap[qm]?=some (.cells (six M) 40 (0,0)))
      kZ kZ pZ (0,none) ?_ ?_ ?_
     ·exact⟨fun _=>HW2.out.below (Below.refl _ _).drew,(fun h=>by cases h),HQ2.out.1,HQ2.out.2⟩
     ·intro i o ho p l wx hR hl he hcl K hK;rcases i with _|_|_|_|_|_|_|_|_|_|_|_|_|i
      any_goals first | (cases ho;go_simp;exact hK p wx (fun _ _=>rfl) hR;done) | fail
      ·cases ho
       have hlc:l 9=false:=by
        cases h:l 9 with
        | false=>rfl
        | true=>exact absurd (hcl 9 _ rfl h ⟨4,.data⟩ sZ rfl) lZ
       have hw:=hR.1 hlc;have q:=aa hw.ad 0;go_simp;exact hK p wx (fun _ _=>rfl) hR
      ·cases ho
       have hlc:l 9=false:=by
        cases h:l 9 with
        | false=>rfl
        | true=>exact absurd (hcl 9 _ rfl h ⟨8,.data⟩ sZ rfl) lZ
       have hw:=hR.1 hlc;have q:=(hw.tr.cells HI2.out).2.2.1;go_simp;exact hK p wx (fun _ _=>rfl) hR
      ·cases ho;have hw:=hR.1 hl;go_simp;refine(Hu a hw.run.rm HF2.out hB).mono ?_;rintro e w2 ⟨t,go3,rfl,hr2,ha2,hans⟩
       have h12:l 12=false:=by
        cases h12:l 12 with
        | false=>rfl
        | true=>exact absurd (hcl 12 _ rfl h12 ⟨9,.data⟩ sZ rfl) lZ
       refine hK (t,go3) w2 (fun j hj=>?_) ⟨(fun h=>by cases h),fun _=>⟨?_,hans⟩,hR.2.2.1,hw.run.stays ha2 hR.2.2.2 (.inr hR.2.2.1) dZ⟩
       ·rcases j with _|_|_|_|_|_|_|_|_|_|_|_|_|j
        all_goals first | rfl | (rw[hl] at hj;cases hj) | (exact absurd (hcl 12 _ rfl hj ⟨9,.data⟩ sZ rfl) lZ)
       ·rw[if_neg (by show ¬ ((12==9||l 12)=true);rw[h12];decide)];exact hw.access hr2 ha2
      ·cases ho;have h9:=he ⟨9,.data⟩ sZ rfl;obtain⟨hw,h2⟩:=hR.2.1 h9;rw[if_neg lZ] at hw;have k3:=(hw.tr.cells HI2.out).2.2.2.1;have k5:=(hw.tr.cells HI2.out).2.2.2.2.1;have f3:=k5 (i*4+3);have hgt:=(hw.run.own _ hw.mine.2).2;go_simp;refine hK p _ (fun _ _=>rfl) ⟨fun h=>absurd h9 (by rw[show l 9=false from h];decide),fun _=>⟨?_,h2⟩,hR.2.2.1,(Below.heap_setCell wx ⟨gt,i*4+3,none⟩ (.int .i64 p.1) qm (by show qm≠gt;have:=hR.2.2.1;omega)).trans hR.2.2.2⟩;exact hw.setTail HI2.out p.1
      ·simp at ho
     ·intro p l wx hl hR;obtain⟨t3,go3⟩:=p;obtain⟨hw3,hans3⟩:=hR.2.1 (hl 9 dZ);rw[if_pos (hl 12 dZ)] at hw3;simp only at hw3 hans3;have HQ3:=hJ hR.2.2;have hF3:=fu (qK a) st2 HF2.out;have hr3:=(HR2.out.same (q':=(qK a).bind fun t=>jP sl m (ts1.take i++[(x.1,x.2.1,a,t)]) (ts0.drop (i+1))) (by show (if a≠0 then _ else _)=_;rw[if_pos HA0.out];rfl)).bind HF2.out (k:=t3) hans3;obtain⟨st3,hst3⟩:∃ st3,st3=((qK a).on st2).2:=⟨_,rfl⟩;rw[<- hst3] at hw3 hF3 hr3;obtain⟨x3,hx3⟩:∃ x3:TR,x3=(x.1,x.2.1,a,t3):=⟨_,rfl⟩;obtain⟨ts3,hts3⟩:∃ ts3,ts3=ts2.set i (x.1,x.2.1,a,t3):=⟨_,rfl⟩;rw[<- hts3] at hw3;rw[<- hx3] at hr3;have HW3:=hJ hw3;have HF3:=hJ hF3;have HR3:=hJ hr3;have hts3':ts3=ts1.set i x3:=by rw[hts3,HT2.out,List.set_set,hx3]
      have hb8:=HB8.out;have HI3:=hJ (show ts3[i]?=some x3 by rw[hts3',List.getElem?_set,if_pos rfl,if_pos oZ]);have HX3:=hJ (show x3.1.length<=1000/\x3.2.1<=3000 by rw[hx3];exact⟨HX.out.2.1,HX.out.2.2⟩)
      have HK3:=hJ (show ts3.length=ts0.length/\(∀ y∈ts3,(∀ b∈y.1,b<256)/\y.1.length<=1000/\y.2.1<=3000)/\0<=fr/\fr<=(i:Int)+1 from⟨by rw[hts3',List.length_set];exact hb8.1,fun y hy=>by
       rw[hts3'] at hy;rcases List.mem_or_eq_of_mem_set hy with hy | hy
       ·exact HKs.out y hy
       ·rw[hy,hx3];exact HX.out,hfr0,oZ⟩)
      have HT3:=hJ (show ts3.take (i+1)=ts1.take i++[x3]/\ts3.drop (i+1)=ts0.drop (i+1)/\fr=dA (ts1.take i++[x3]) from⟨by rw[hts3'];exact take_set _ _ _ oZ,by rw[hts3',Ck];exact HD.out,by rw[uw,hx3,if_neg (by exact HA0.out),<- HFr.out];omega⟩)
      have HM3:=hJ (show ∀ j,j<6->M j=eT B S (ts1.take i) j+(if x3.2.2.1=0/\j=4 then 2+((aF x3.1).length:Int) else 0)/\0<=M j/\M j<=(i:Int)*800000+1000 from fun j hj=>by
       obtain⟨e1,e2,e3⟩:=HM.out j hj;rw[if_neg (by rw[hx3];exact fun e=>HA0.out e.1)];omega)
      have HNz:=hJ (fun j=>wK (B:=B) (S:=S) (t:=x3.2.2.2) (c:=x3.2.1) HX3.out.2 j);clear hw3 hans3 hF3 hr3 hst3 hx3 hts3 hts3' hb8 hR hl HW2 HQ2 HR2 HF2 HT2 HI2 HA0;obtain⟨M3,hM3⟩:∃ M3,M3=M:=⟨_,rfl⟩;rw[<- hM3] at HQ3 HM3;obtain⟨fr3,hfr3⟩:∃ fr3,fr3=fr:=⟨_,rfl⟩;rw[<- hfr3] at HK3 HT3 ⊢;clear hM3 hfr3;have c_ad:wx.cell? ⟨g,0,none⟩=some (.pointer (some ⟨rb,0,none⟩)):=aa HW3.out.ad 0;obtain⟨of,hoff⟩:∃ of,of=st3.off:=⟨_,rfl⟩;obtain⟨capo,hro⟩:=HW3.out.run.rm.run;rw[<- hoff] at hro;have HOf:=hJ hoff;have HRo:=hJ hro;clear hro hoff;cases of with
      | true =>
       have HWe:=HW3;have HQe:=HQ3
       have HE9:Hid ((pt.on st).2=st3/\ts3.length=ts0.length/\(∀ y∈ts3,(∀ b∈y.1,b<256)/\y.1.length<=1000)/\(0<=fr3/\fr3<=1000000)/\(st.off=false->∀ y,(pt.on st).1=some y->ts3=y/\fr3=dA y/\∀ j,j<6->M3 j=eT B S y j)):=hJ ⟨(HR3.out.G8 HF3.out.good HOf.out.symm).1,HK3.out.1,fun y hy=>⟨(HK3.out.2.1 y hy).1,(HK3.out.2.1 y hy).2.1⟩,⟨HK3.out.2.2.1,by have:=HK3.out.2.2.2;omega⟩,fun h0 y hy=>by
        rw[(HR3.out.G8 HF3.out.good HOf.out.symm).2 h0] at hy;cases hy⟩
       obtain⟨ts9,hts9⟩:∃ x,x=ts3:=⟨_,rfl⟩;obtain⟨fr9,hfr9⟩:∃ x,x=fr3:=⟨_,rfl⟩;obtain⟨M9,hM9⟩:∃ x,x=M3:=⟨_,rfl⟩;obtain⟨st9,hst9⟩:∃ x,x=st3:=⟨_,rfl⟩;obtain⟨go9,hgo9⟩:∃ x,x=go3:=⟨_,rfl⟩;rw[<- hts9,<- hst9,<- hgo9] at HWe;rw[<- hM9] at HQe;rw[<- hfr9];rw[<- hts9,<- hst9,<- hM9,<- hfr9] at HE9;clear hts9 hfr9 hM9 hst9 hgo9;clear HW3 HQ3 HR3 HF3 HK3 HM3 HT3 HOf;go_wp2_with fail
       refine(nJ HRo.out).mono ?_;rintro e w6 ⟨rfl,rfl⟩;clear HRo c_ad;go_upto_region 17 with fail
       refine fZ (fun(p:Unit) jz=>[.int .i64 fr9,.agg (six M9),.int .i64 fr9,undef].getD jz undef)
        (fun p l wx=>WF S0 w rb mb cb go g gt B S C (m:Int) L sl Us n cap vw ts9 st9 go9 wx/\w.heap.size<=qm/\wx.heap[qm]?=some (.cells (six M9) 40 (0,0)))
        _ kZ (fun i j=>i==0&&j==2) kZ pZ () ?_ ?_ ?_ ?_ ?_
       ·exact⟨HWe.out.below (Below.refl _ _).drew,HQe.out.1,HQe.out.2⟩
       ·intro l hc i' j' hL hj;obtain⟨rfl,rfl⟩:i'=0/\j'=2:=by simpa using hL
        exact(hc 2 _ rfl hj ⟨0,.data⟩ sZ rfl)
       ·intro q l wx hR i' j' d hL hd hj;obtain⟨rfl,rfl⟩:i'=0/\j'=2:=by simpa using hL
        obtain rfl:2=d:=Option.some.inj hd;rfl
       ·intro i o ho p l wx hR hl he K hK;rcases i with _|_|_|_|i
        ·cases ho;go_simp;exact hK p wx (fun _ _=>rfl) hR
        ·cases ho;refine wp_load_row 40 (.tmp 3) rfl qm rfl 40 (six M9) (0,0) _ hR.2.2 Tryz.underlying40 rfl (af _) ?_;exact hK p wx (fun _ _=>rfl) hR
        ·cases ho;go_simp;exact hK p wx (fun _ _=>rfl) hR
        ·cases ho;refine wp_store_row 40 (.tmp 3) (.tmp 107) rfl qm (six M9) rfl rfl 40 _ hR.2.2 (af _) (aS _ _) (aQ _) ?_;exact hK p _ (fun _ _=>rfl) ⟨hR.1.turn hR.2.2 hR.2.1 dZ (bB.setRow (S:=fun j=>j=qm) (bB.refl _ _) (.inr rfl) _),hR.2.1,setRow_heap _ _ _ _ _ _ hR.2.2⟩
        ·simp at ho
       ·intro p l wx hl hR;have HW9:=hJ hR.1;have HQ9:=hJ hR.2;clear hR hl HWe HQe;go_wp2_with fail
        refine tZ (v:=.tuple #[.int .i64 fr9,.agg (six M9)]) (bX rfl _ _ qm _ _ (0,0) _ _ rfl rfl HQ9.out.2 Tryz.underlying40 rfl (af _)) rfl ?_;unfold rP;exact⟨ts9,fr9,M9,go9,rfl,by rw[HE9.out.1];exact HW9.out,HE9.out.2.1,HE9.out.2.2.1,HE9.out.2.2.2.1,HE9.out.2.2.2.2⟩
      | false =>
       have HNeed:=hJ (fun w'=>ve w' B S C (m:Int) L x3.2.2.2 (x3.2.1:Int) hL oZ (by have:=HX3.out.2;omega));have HNb:=hJ (Ex (B:=B) (S:=S) (x:=x3) HX3.out.1 HX3.out.2);obtain⟨NZ,hNZ⟩:∃ NZ,NZ=dU B S x3.2.2.2 (x3.2.1:Int):=⟨_,rfl⟩;rw[<- hNZ] at HNeed;have HNZ:=hJ hNZ;clear hNZ;go_wp2_with fail
       refine(nJ HRo.out).mono ?_;rintro e w6 ⟨rfl,rfl⟩;clear HRo c_ad HOf;go_upto_region 11 with fail
       refine aI (fun(p:Unit) jz=>[.pointer (some ⟨g,0,none⟩),.pointer (some ⟨g,0,none⟩),.pointer (some ⟨g,1,none⟩),.agg (ae B S C (m:Int) L),.pointer (some ⟨gt,i*4,none⟩),.pointer (some ⟨gt,i*4,none⟩),.pointer (some ⟨gt,i*4+3,none⟩),.int .i64 x3.2.2.2,.pointer (some ⟨gt,i*4,none⟩),.pointer (some ⟨gt,i*4,none⟩),.pointer (some ⟨gt,i*4+1,none⟩),.int .i64 (x3.2.1:Int),.agg (six NZ),.int .i64 0].getD jz undef)
        (fun p l wx=>WF S0 w rb mb cb go g gt B S C (m:Int) L sl Us n cap vw ts3 st3 go3 wx/\w.heap.size<=qm/\wx.heap[qm]?=some (.cells (six M3) 40 (0,0)))
        kZ kZ pZ () ?_ ?_ ?_
       ·exact⟨HW3.out.below (Below.refl _ _).drew,HQ3.out.1,HQ3.out.2⟩
       ·intro i o ho p l wx hR hl he hcl K hK;rcases i with _|_|_|_|_|_|_|_|_|_|_|_|_|_|i
        any_goals first | (cases ho;go_simp;exact hK p wx (fun _ _=>rfl) hR;done) | fail
        ·cases ho;refine aR 42 (.tmp 83) rfl g 1 rfl 176 (lC rb B S C (m:Int) L sl Us (.slice (some ⟨gt,0,none⟩) n cap) vw) (ae B S C (m:Int) L) (0,0) _ hR.1.ad (kF _ _ _ _ _ _ _ _ _ _) Tryz.underlying42 rfl (ai _ _ _ _ _) ?_;exact hK p wx (fun _ _=>rfl) hR
        ·cases ho;have q:=(hR.1.tr.cells HI3.out).2.2.2.1;go_simp;exact hK p wx (fun _ _=>rfl) hR
        ·cases ho;have q:=(hR.1.tr.cells HI3.out).2.1;go_simp;exact hK p wx (fun _ _=>rfl) hR
        ·cases ho;go_simp;refine(HNeed.out wx).mono ?_;rintro e w2 ⟨rfl,hb⟩;exact hK p w2 (fun _ _=>rfl) ⟨hR.1.below hb,hR.2.1,(hb.block _ (lt_of_heap hR.2.2)).trans hR.2.2⟩
        ·simp at ho
       ·intro p l wx hl hR;have HW4:=hJ hR.1;have HQ4:=hJ hR.2;clear hR hl HW3 HQ3 HNeed;go_wp2_with fail
        go_loopg [94] 6 (fun g2 kv wy=>∃ k:Nat,k+g2=6/\kv=.int .i64 (k:Int)/\Hid (WF S0 w rb mb cb go g gt B S C (m:Int) L sl Us n cap vw ts3 st3 go3 wy)/\Hid (w.heap.size<=qm/\wy.heap[qm]?=some (.cells (six (fun j=>if j<k then M3 j+NZ j else M3 j)) 40 (0,0))))
        case atStart=>exact⟨0,oZ,rfl,HW4,hJ ⟨HQ4.out.1,by rw[show (fun j=>if j<0 then M3 j+NZ j else M3 j)=M3 from funext fun j=>by rw[if_neg oZ]];exact HQ4.out.2⟩⟩
        case round =>
         clear HW4 HQ4;obtain⟨k,hkg,rfl,HW4,HQ4⟩:=hrel;cases gk with
         | zero =>
          obtain rfl:k=6:=oZ;clear hkg;go_wp2_with fail
          go_roundg gq
          case measure=>omega
          case rel =>
           refine⟨i+1,st3,go3,ts3,fr3,(fun j=>if j<6 then M3 j+NZ j else M3 j),oZ,rfl,by go_num,⟨HW4.out,HF3.out,?_,HT3.out.2.1,HK3.out.1,HK3.out.2.1,⟨by rw[HT3.out.1];exact HT3.out.2.2,HK3.out.2.2.1,by have:=HK3.out.2.2.2;omega⟩,fun j hj=>?_,HQ4.out⟩⟩
           ·rw[HT3.out.1];exact HR3.out
           ·obtain⟨e1,e2,e3⟩:=HM3.out j hj;have e4:=HNb.out j;have e5:uE B S x3 j=(if x3.2.2.1=0/\j=4 then 2+((aF x3.1).length:Int) else 0)+NZ j:=by rw[HNZ.out];rfl
            show (if j<6 then M3 j+NZ j else M3 j)=_/\0<=(if j<6 then M3 j+NZ j else M3 j)/\(if j<6 then M3 j+NZ j else M3 j)<=_;rw[if_pos hj,HT3.out.1,qd];have e6:0<=NZ j/\NZ j<=768000:=by rw[HNZ.out];exact HNz.out j
            omega
         | succ g2 =>
          have hk6:k<6:=oZ;have hk1:(k:Int)<6:=oZ;have hk0:(0:Int)<=(k:Int):=oZ;have xi:∀ w,(Instr.index 40 (.agg (six NZ)) (.int .i64 (k:Int))).run Tryz.prog w=.ok (.int .i64 (NZ k)) w:=xC NZ k hk6;obtain⟨MK,hMK⟩:∃ MK,MK=(fun j=>if j<k then M3 j+NZ j else M3 j):=⟨_,rfl⟩;have hmk:MK k=M3 k:=by rw[hMK];show (if k<k then _ else _)=_;rw[if_neg oZ]
          rw[<- hMK] at HQ4;have cM:=aa HQ4.out.2 k;rw[dK MK k hk6,hmk] at cM;have fM:=free_at HQ4.out.2 k;have hb3:=HM3.out k hk6;have hbn:0<=NZ k/\NZ k<=768000:=by rw[HNZ.out];exact HNz.out k
          have sM:IntKind.i64.wrap (M3 k+NZ k)=M3 k+NZ k:=iZ _ oZ;have HMK:=hJ hMK;clear hMK hmk hb3 hbn;go_wp2_with fail
          go_roundg g2
          case measure=>omega
          case rel =>
           refine⟨k+1,oZ,by go_num,hJ (HW4.out.turn HQ4.out.2 HQ4.out.1 dZ (bB.setCell (S:=fun j=>j=qm) (bB.refl _ _) (.inr rfl) _)),hJ ⟨HQ4.out.1,?_⟩⟩;rw[heap_setCell_same _ _ _ _ _ _ HQ4.out.2];show some (Obj.cells ((six MK).setIfInBounds k _) _ _)=_
           rw[iC MK (fun j=>if j<k+1 then M3 j+NZ j else M3 j) k _ hk6 (fun j hj=>by
            rw[HMK.out];show (if j<k+1 then _ else _)=if j=k then _ else if j<k then _ else _
            by_cases e:j=k
            ·subst e;rw[if_pos oZ,if_pos rfl]
            ·rw[if_neg e];by_cases e2:j<k
             ·rw[if_pos oZ,if_pos e2]
             ·rw[if_neg oZ,if_neg e2])]
theorem vL (w:World) (s:Sg) (h0:-1100000000000<=s.1) (h1:s.1<=1100000000000):Calls Tryz.prog 36 #[.agg #[.int .i64 s.1,.int .i64 s.2.1,.bool s.2.2]] w fun e w'=>e=.returned (.int .i64 (bP s))/\Below w.heap.size w w':=by
 obtain⟨a,d,z⟩:=s;simp only at h0 h1;have s1:IntKind.i64.wrap (a+1)=a+1:=iZ _ oZ;have s2:IntKind.i64.wrap (a+2)=a+2:=iZ _ oZ;unfold bP;cases z
 all_goals
  go_enter Tryz.func36,Tryz.ntmps36
  go_wp2_with fail
  go_ret;exact⟨rfl,aj⟩
theorem Gi (w:World) (ga go gn gc:Nat) (l:List Sg) (eg:l.length=gn) (hgl:gn<=1000) (hg:eH w (some ⟨ga,go,none⟩) l) :
  Calls Tryz.prog 116 #[.slice (some ⟨ga,go,none⟩) gn gc] w fun e w'=>∃ v,e=.returned v/\bn w' w.heap.size v l/\Below w.heap.size w w':=by
 have HOne:=hJ (Cj l);obtain⟨i0,hi0,hz0,hz1,hz2⟩:=info_parts BV;have HI:=hJ (And.intro hi0 (And.intro hz0 (And.intro hz1 hz2)));have HEg:=hJ eg;have hb4:=aj (w:=w) (A:=.cells #[] 65);have HO4:=hJ (show bn (w.alloc (.cells #[] 65)) w.heap.size (.slice (some ⟨w.heap.size,0,none⟩) 0 0) [] from World.ownsRow_lit (base:=w.heap.size) (e:=65) (size:=3) w #[] 0 (Nat.le_refl _) dZ sZ);have HG4:=hJ (hg.below hb4);have HB4:=hJ hb4;have qN:∀ w:World,(binOp .eql 44 (.slice (some ⟨ga,go,none⟩) gn gc) (.slice none 0 0)).run Tryz.prog w=.ok (.bool false) w:=fun w=>rfl;clear hg eg hi0 hz0 hz1 hz2 hb4;go_enter Tryz.func116,Tryz.ntmps116
 have HFin:=hJ (show ∀ (v':Value) (w8:World),w8.ownsRow w.heap.size 65 3 v' (0+gn) (kC []++kC l)->(w.alloc (.cells #[] 65)).grownBy w8 (Value.slice (some ⟨w.heap.size,0,none⟩) 0 0).ownBlock->bn w8 w.heap.size v' l/\Below w.heap.size w w8 from fun v' w8 ho hgr=>by
  refine⟨?_,HB4.out.grown hgr HB4.out.size (fun k hk=>(World.ownsRow.lt HO4.out k hk).1)⟩;unfold bn;rw[HEg.out];simpa [kC] using ho)
 go_wp2_with (at_builtin;refine wpList_append_own _ rfl (.tmp 5) (.tmp 6) 44 rfl w.heap.size 65 i0 _ 3 24 Tryz.underlying44 HI.out.1 HI.out.2.1 HI.out.2.2.1 HI.out.2.2.2 rfl dZ (.slice (some ⟨w.heap.size,0,none⟩) 0 0) 0 (kC []) rfl HO4.out ⟨ga,go,none⟩ gn gc (kC l) rfl (by rw[lc,HEg.out]) HG4.out.cells HOne.out mZ oZ HB4.out.size ?_;intro v' w8 ho2 hg2 _;have HR8:=hJ (HFin.out v' w8 ho2 hg2);clear ho2 hg2)
 go_ret;exact⟨_,rfl,HR8.out.1,HR8.out.2⟩
theorem aK (vs:Value) (x:Sx):(Tryz.prog.info? 46).map (·.size)=some (aO vs x).size:=by
 rw[show (aO vs x).size=9 from rfl];kernel_rfl
theorem dL (so:Option Addr) (sn sc:Nat) (x:Sx):(aO (.slice so sn sc) x).all (·.oneCell')=true:=by simp[aO,Value.oneCell']
theorem BR (w:World) (ga go gn gc:Nat) (x:Sx) (eg:x.aC.length=gn) (hgl:gn<=1000) (hg:eH w (some ⟨ga,go,none⟩) x.aC) :
  Calls Tryz.prog 81 #[.agg (aO (.slice (some ⟨ga,go,none⟩) gn gc) x)] w fun e w'=>∃ so sc,e=.returned (.agg (aO (.slice so gn sc) {x with bT:=u32 (x.bT+1)}))/\bn w' w.heap.size (.slice so gn sc) x.aC/\Below w.heap.size w w':=by
 obtain⟨y,hy⟩:∃ y,y=u32 (x.bT+1):=⟨_,rfl⟩;have s1:IntKind.u32.wrap (x.bT+1)=y:=hy.symm;rw[<- hy];have HG:=hJ hg;have HEg:=hJ eg;clear hg eg hy;go_enter Tryz.func81,Tryz.ntmps81
 go_upto_region 1 with fail
 obtain⟨w1,hw1⟩:∃ w1,w1=(w.alloc (.cells (aO (.slice (some ⟨ga,go,none⟩) gn gc) x) 46)).alloc (.cells (aO (.slice none 0 0) aJ) 46):=⟨_,rfl⟩;rw[show (w.alloc (.cells (aO (.slice (some ⟨ga,go,none⟩) gn gc) x) 46)).alloc (.cells #[.slice none 0 0,.int .i64 0,.int .u32 0,.int .i64 0,.int .i64 0,.int .i64 0,.int .i64 0,.int .i64 0,.int .i64 0] 46)=w1 from hw1.symm];have HX1:=hJ (show w1.heap[w.heap.size]?=some (.cells (aO (.slice (some ⟨ga,go,none⟩) gn gc) x) 46 (0,0)) by rw[hw1];exact ed _ _ _);have HY1:=hJ (show w1.heap[w.heap.size+1]?=some (.cells (aO (.slice none 0 0) aJ) 46 (0,0)) by rw[hw1];exact eO _ _ _);have HB1:=hJ (show Below w.heap.size w w1 by rw[hw1];exact dh);clear hw1;have HC:=hJ (fun(w':World) (hb:Below w.heap.size w w')=>Gi w' ga go gn gc x.aC HEg.out hgl (HG.out.below hb));have c0:w1.cell? ⟨w.heap.size,0,none⟩=some (.slice (some ⟨ga,go,none⟩) gn gc):=aa HX1.out 0;go_wp2_with fail
 refine(HC.out _ HB1.out).mono ?_;rintro e w2 ⟨v,rfl,hown,hb⟩;obtain⟨so,sc,hv⟩:=jV hown gn HEg.out;subst hv;have hX2:=(hb.block _ (lt_of_heap HX1.out)).trans HX1.out;have HY2:=hJ ((hb.block _ (lt_of_heap HY1.out)).trans HY1.out);have HB2:=hJ (ag HB1.out hb);have HO2:=hJ (Cz hown HB1.out.size);have HX2:=hJ hX2;have c0:w2.cell? ⟨w.heap.size,0,none⟩=some (.slice (some ⟨ga,go,none⟩) gn gc):=aa hX2 0;have c2:w2.cell? ⟨w.heap.size,2,none⟩=some (.int .u32 x.bT):=aa hX2 2;have f0:=free_at hX2 0;have f2:=free_at hX2 2;clear hown hb HX1 HY1 HB1 HC hX2;go_upto_region 3 with fail
 have hX3:((w2.setCell ⟨w.heap.size,0,none⟩ (.slice so gn sc)).setCell ⟨w.heap.size,2,none⟩ (.int .u32 y)).heap[w.heap.size]?=some (.cells (aO (.slice so gn sc) {x with bT:=y}) 46 (0,0)):=by
  rw[heap_setCell_same _ _ _ _ _ _ (heap_setCell_same _ _ _ _ _ _ HX2.out)];rfl
 have hm:∀ k,k≠w.heap.size->((w2.setCell ⟨w.heap.size,0,none⟩ (.slice so gn sc)).setCell ⟨w.heap.size,2,none⟩ (.int .u32 y)).heap[k]?=w2.heap[k]?:=fun k hk=>(Below.heap_setCell _ _ _ _ hk).trans (Below.heap_setCell _ _ _ _ hk);have HX3:=hJ hX3;have HY3:=hJ ((hm (w.heap.size+1) oZ).trans HY2.out);have HO3:=hJ (show bn _ _ _ _ from bn.keep HO2.out HX2.out dZ hm);have HB3:=hJ (dD (dD HB2.out (Nat.le_refl w.heap.size) 0 (.slice so gn sc)) (Nat.le_refl w.heap.size) 2 (.int .u32 y));clear hX3 hm c0 c2 f0 f2 HX2 HY2 HB2 HO2;generalize (w2.setCell ⟨w.heap.size,0,none⟩ (.slice so gn sc)).setCell ⟨w.heap.size,2,none⟩ (.int .u32 y)=w3 at HX3 HY3 HO3 HB3 ⊢
 go_wp2_with (first
  | (refine yZ rfl 46 (.tmp 1) rfl w.heap.size rfl 46 (aO (.slice so gn sc) {x with bT:=y}) (0,0) _ HX3.out Tryz.underlying46 rfl (aK _ _) ?_)
  | (refine zZ rfl 46 (.tmp 2) (.tmp 11) rfl (w.heap.size+1) (aO (.slice so gn sc) {x with bT:=y}) rfl rfl 46 (aO (.slice none 0 0) aJ) HY3.out (aK _ _) rfl (dL _ _ _ _) ?_)
  | fail)
 refine tZ (v:=.agg (aO (.slice so gn sc) {x with bT:=y})) (jS rfl _ _ (w.heap.size+1) _ _ (0,0) _ rfl (setRow_heap _ _ _ _ _ _ HY3.out) Tryz.underlying46 rfl (aK _ _)) rfl ?_;exact⟨so,sc,rfl,bn.keep HO3.out HY3.out dZ (fun j hj=>qZ _ _ _ _ hj),below_setRow HB3.out oZ _⟩
/-! ### An id's row -/
def Br (W:World) (rb mb cb:Nat) (go0:Option Nat) (st:St) (p:Pr (Int×Int×Bool)) (e:Ending) (w':World):Prop :=
 ∃ b k z go',e=.returned (.tuple #[.int .i64 b,.int .i64 k,.bool z])/\RM w' rb mb cb go' true (p.on st).2/\jl rb mb cb W go0 w' go'/\(∀ y,(p.on st).1=some y->y=(b,k,z))/\(0<=b/\b<=60000)/\0<=k/\k<=60000
theorem pu {P:Program} {fn:Func} {p q r:Tmp} (h:fn.results=#[.tmp p,.tmp q,.tmp r]) (tmps:Array Value) (w:World) (a b c:Value) (hp:tmps.getD p undef=a) (hq:tmps.getD q undef=b) (hr:tmps.getD r undef=c):(results fn tmps).run P w=.ok (.tuple #[a,b,c]) w:=by
 have hp':tmps[p]?.getD undef=a:=by simpa using hp
 have hq':tmps[q]?.getD undef=b:=by simpa using hq
 have hr':tmps[r]?.getD undef=c:=by simpa using hr
 simp[results,h,hp',hq',hr']
structure Mt (w:World) (rb mb cb:Nat) (go:Option Nat) (id:Int) (aC:List Sg) (pt:Pr (Int×Int×Bool)) (st:St) (Bd:Nat) (i:Nat) (st1:St) (go1:Option Nat) (wr:World):Prop where
 run:fV w rb mb cb go st1 go1 wr
 fine:st1.dO Bd
 rest:Rest pt (fG id (aC.drop i)) st st1
theorem yh {w:World} {rb mb cb:Nat} {go:Option Nat} {st:St} {Bd:Nat} (og:Option Addr) (gn gc:Nat) (aC:List Sg) (id:Int) (hrm:RM w rb mb cb go true st) (hf:st.dO Bd) (hB:Bd<1000000000) (eg:aC.length=gn) (hgl:gn<=1000) (hg:∀ wr:World,(∀ k,k<w.heap.size->¬ fD rb mb cb go k->wr.heap[k]?=w.heap[k]?)->eH wr og aC) (hin:∀ s∈aC,0<=s.1/\s.1<=59000/\0<=s.2.1/\s.2.1<=60000) :
  Calls Tryz.prog 79 #[.pointer (some ⟨rb,0,none⟩),.slice og gn gc,.int .u32 id] w fun e w'=>Br w rb mb cb go st (fG id aC) e w':=by
 obtain⟨pt,hp⟩:∃ pt,pt=fG id aC:=⟨_,rfl⟩;have HA0:=hJ (show Mt w rb mb cb go id aC pt st Bd 0 st go w from⟨fV.start hrm,hf,(Rest.start pt st).same hp⟩);rw[<- hp];have HG:=hJ hg;have HIn:=hJ hin;have HEg:=hJ eg;clear hrm hf hg hin eg hp;go_enter Tryz.func79,Tryz.ntmps79
 go_wp2_with fail
 go_loopw [14] (fun iv wr=>∃ (i:Nat) (st1:St) (go1:Option Nat),i<=gn/\iv=.int .i64 (i:Int)/\Mt w rb mb cb go id aC pt st Bd i st1 go1 wr) (fun iv _=>gn-(intOf iv).toNat)
 case atStart=>exact⟨0,st,go,oZ,rfl,HA0.out⟩
 case round =>
  clear HA0;obtain⟨i,st1,go1,hi,rfl,hat⟩:=hrel;by_cases hlt:i<gn
  ·have hlt1:(i:Int)<(gn:Int):=oZ;have hi0:(0:Int)<=(i:Int):=oZ;obtain⟨s,hs⟩:∃ s,aC[i]?=some s:=⟨_,gZ (by rw[HEg.out];exact hlt)⟩;obtain⟨ga,oa,rfl,t1,t2,t3⟩:=HG.out wr (fun k h1 h2=>hat.run.adv.mod.block k h1 h2) i s hs;obtain⟨hs0,hs1,hsd0,hsd1⟩:=HIn.out s (List.mem_of_getElem? hs);have hbz:0<=bP s/\bP s<=60000:=by unfold bP;split <;> omega
   obtain⟨hbz0,hbz1⟩:=hbz
   have hdr:aC.drop i=s :: aC.drop (i+1):=by
    have hl2:=(eZ.1 hs).1;rw[List.drop_eq_getElem_cons hl2,(eZ.1 hs).2]
   have hq:=hat.rest;rw[hdr] at hq;have HQ1:=hJ (show Rest pt ((iH (bP s) s.2.1 id).bind fun k=>if 0<=k then .ret (bP s,k,true) else fG id (aC.drop (i+1))) st st1 from hq);have HF1:=hJ hat.fine;have HW0:=hJ hat.run;clear hs hdr hq hat;go_upto_region 4 with fail
   have hb:=aj (w:=wr) (A:=.cells #[.int .i64 s.1,.int .i64 s.2.1,.bool s.2.2] 65);have HW1:=hJ (HW0.out.below hb);have HQb:=hJ (nZ wr (.cells #[.int .i64 s.1,.int .i64 s.2.1,.bool s.2.2] 65));obtain⟨qb,hqb⟩:∃ qb,qb=wr.heap.size:=⟨_,rfl⟩;have HQB:=hJ (show w.heap.size<=qb by rw[hqb];exact HW0.out.adv.mod.size);rw[<- hqb] at HQb ⊢;generalize wr.alloc (.cells #[.int .i64 s.1,.int .i64 s.2.1,.bool s.2.2] 65)=wa at HW1 HQb ⊢;clear hb hqb t1 t2 t3 HW0
   refine aI (fun(p_:Int×Option Nat) jz=>[.pointer (some ⟨rb,0,none⟩),.agg #[.int .i64 s.1,.int .i64 s.2.1,.bool s.2.2],.int .i64 (bP s),.pointer (some ⟨qb,1,none⟩),.int .i64 s.2.1,.int .u32 id,.int .i64 p_.1,.int .i64 p_.1].getD jz undef)
    (fun p_ l wx=>(l 6=false->fV w rb mb cb go st1 go1 wx)/\(l 6=true->fV w rb mb cb go ((iH (bP s) s.2.1 id).on st1).2 p_.2 wx/\(∀ y,((iH (bP s) s.2.1 id).on st1).1=some y->y=p_.1)/\-1<=p_.1/\p_.1<=60000)/\w.heap.size<=qb/\wx.heap[qb]?=some (.cells #[.int .i64 s.1,.int .i64 s.2.1,.bool s.2.2] 65 (0,0)))
    kZ kZ pZ (0,none) ?_ ?_ ?_
   ·exact⟨fun _=>HW1.out.below (Below.refl _ _).drew,(fun h=>by cases h),HQB.out,HQb.out⟩
   ·intro i_ o ho p_ l wx hR hl he hcl K hK;rcases i_ with _|_|_|_|_|_|_|_|i_
    any_goals first | (cases ho;go_simp;exact hK p_ wx (fun _ _=>rfl) hR;done) | fail
    ·cases ho;refine wp_load_row 65 (.tmp 10) rfl qb rfl 65 #[.int .i64 s.1,.int .i64 s.2.1,.bool s.2.2] (0,0) _ hR.2.2.2 Tryz.underlying65 rfl (nT s) ?_;exact hK p_ wx (fun _ _=>rfl) hR
    ·cases ho
     have hl6:l 6=false:=by
      cases h:l 6 with
      | false=>rfl
      | true=>exact absurd (hcl 6 _ rfl h ⟨2,.data⟩ sZ rfl) lZ
     go_simp;refine(vL wx s oZ oZ).mono ?_;rintro e w2 ⟨rfl,hb⟩;exact hK p_ w2 (fun _ _=>rfl) ⟨fun h=>(hR.1 hl6).below hb,fun h=>absurd h (by show ¬ l 6=true;rw[hl6];decide),hR.2.2.1,(hb.block _ (lt_of_heap hR.2.2.2)).trans hR.2.2.2⟩
    ·cases ho;have q:=aa hR.2.2.2 1;go_simp;exact hK p_ wx (fun _ _=>rfl) hR
    ·cases ho;have hw:=hR.1 hl;go_simp;refine(FI (bP s) s.2.1 id hw.rm HF1.out hB hbz0 hbz1 hsd0 hsd1).mono ?_;rintro e w2 ⟨k,go2,rfl,hr2,ha2,hans,hk0,hk1⟩;refine hK (k,go2) w2 (fun j hj=>?_) ⟨(fun h=>by cases h),fun _=>⟨hw.access hr2 ha2,hans,hk0,hk1⟩,hR.2.2.1,hw.stays ha2 hR.2.2.2 hR.2.2.1 dZ⟩;rcases j with _|_|_|_|_|_|_|_|j
     all_goals first | rfl | (rw[hl] at hj;cases hj) | (exact absurd (hcl 7 _ rfl hj ⟨6,.data⟩ sZ rfl) lZ)
    ·simp at ho
   ·intro p_ l wx hl hR;obtain⟨k,go2⟩:=p_;obtain⟨hw2,hans2,hk0,hk1⟩:=hR.2.1 (hl 6 dZ);have HQb:=hJ hR.2.2;simp only at hw2 hans2 hk0 hk1;have hF2:=fu (iH (bP s) s.2.1 id) st1 HF1.out;have hr2:=HQ1.out.bind HF1.out (k:=k) hans2;obtain⟨st2,hst2⟩:∃ st2,st2=((iH (bP s) s.2.1 id).on st1).2:=⟨_,rfl⟩;rw[<- hst2] at hw2 hF2 hr2;have HW2:=hJ hw2;have HF2:=hJ hF2;have HR2:=hJ hr2;clear hw2 hans2 hF2 hr2 hst2 hR hl HW1 HQ1 HF1;by_cases hkk:0<=k
    ·have HE:=hJ ((HR2.out.same (q':=.ret (bP s,k,true)) (by show (if 0<=k then _ else _)=_;rw[if_pos hkk])).ret)
     go_wp2_with (first
      | (refine yZ rfl 65 (.tmp 10) rfl qb rfl 65 #[.int .i64 s.1,.int .i64 s.2.1,.bool s.2.2] (0,0) _ HQb.out.2 Tryz.underlying65 rfl (nT s) ?_)
      | fail)
     refine(vL _ s oZ oZ).mono ?_;rintro e w5 ⟨rfl,hb5⟩;have HW5:=hJ (HW2.out.below hb5);clear hb5;go_wp2_with fail
     try rw[Exit.noGoto_ret]
     refine tZ (v:=.tuple #[.int .i64 (bP s),.int .i64 k,.bool true]) (pu rfl _ _ _ _ _ rfl rfl rfl) rfl ?_;have hq:=HE.out;unfold fw at hq;exact⟨bP s,k,true,go2,rfl,by rw[hq.1];exact HW5.out.rm,HW5.out.adv,hq.2,⟨hbz0,hbz1⟩,oZ,hk1⟩
    ·have HQ3:=hJ (HR2.out.same (q':=fG id (aC.drop (i+1))) (by show (if 0<=k then _ else _)=_;rw[if_neg hkk]));have hk3:¬ (0:Int)<=k:=hkk;clear hkk;go_wp2_with fail
     go_roundw
     case rel=>exact⟨i+1,st2,go2,oZ,by go_num,⟨HW2.out,HF2.out,HQ3.out⟩⟩
     case measure=>simp[intOf];omega
  ·obtain rfl:gn=i:=oZ;have hq:=hat.rest;rw[List.drop_eq_nil_of_le (by rw[HEg.out];omega)] at hq;have hend:fw pt (0,0,false) st st1:=hq.ret;have HW1:=hJ hat.run;have HE:=hJ hend;clear hq hend hat;go_wp2_with fail
   refine tZ (v:=.tuple #[.int .i64 0,.int .i64 0,.bool false]) (pu rfl _ _ _ _ _ rfl rfl rfl) rfl ?_;have hq:=HE.out;unfold fw at hq;exact⟨0,0,false,go1,rfl,by rw[hq.1];exact HW1.out.rm,HW1.out.adv,hq.2,⟨oZ,oZ⟩,oZ,oZ⟩
end Go.Proofs.YtafaohnhlgcnpaaGreatDoor
