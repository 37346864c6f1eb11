/-
 What stage 12 rests on.
-/
import Derived.Test.YtafaohnhlgcnpaaGreatDoorWrAlF4
set_option maxRecDepth 100000
set_option maxHeartbeats 16000000
namespace Go.Proofs.YtafaohnhlgcnpaaGreatDoor
open Go.RowKit
section
variable {w:World} {rb mb cb:Nat} {go:Option Nat} {st:St} {Bd:Nat}
theorem Hu (a:Int) (hrm:RM w rb mb cb go true st) (hf:st.dO Bd) (hB:Bd<1000000000) :
  Calls Tryz.prog 123 #[.pointer (some ⟨rb,0,none⟩),.int .i64 a] w fun e w'=>∃ t go',e=.returned (.int .i64 t)/\RM w' rb mb cb go' true ((qK a).on st).2/\jl rb mb cb w go w' go'/\∀ x,((qK a).on st).1=some x->x=t:=by
 have HR:=hJ (fV.start hrm);have HF:=hJ hf;have HQ:=hJ (Rest.start (qK a) st);clear hrm hf;go_enter Tryz.func123,Tryz.ntmps123
 go_wp2_with fail
 refine(run_load HR.out.rm hB HF.out.ok a).mono ?_;rintro e w2 ⟨rfl,go2,hr2,ha2⟩;have HR:=hJ (HR.out.access hr2 ha2);have hq:=HQ.out;unfold qK at hq;have hq2:=(hq.load HF.out).ret;have hu:=(HF.out.ok.load a).2;obtain⟨y,hy⟩:∃ y,y=(st.load a).1:=⟨_,rfl⟩;obtain⟨st2,hst2⟩:∃ s,s=(st.load a).2:=⟨_,rfl⟩;rw[<- hst2] at HR hq2;rw[<- hy] at hq2 hu ⊢;have s1:IntKind.i64.wrap y=y:=iZ _ (by unfold U at hu;omega);have HQ:=hJ hq2;clear hr2 ha2 hq hq2 hy hst2 hu;go_wp2_with fail
 go_ret;have hq:=HQ.out;unfold fw at hq;have hrm:=HR.out.rm;rw[<- hq.1] at hrm;exact⟨y,go2,rfl,hrm,HR.out.adv,hq.2⟩
end
/-! ### A run, and a row of numbers beside it that is only read -/
structure CW (W:World) (rb mb cb:Nat) (go0:Option Nat) (oa:Option Addr) (l:List Nat) (st:St) (go:Option Nat) (w:World):Prop where
 run:fV W rb mb cb go0 st go w
 read:bQ .u32 w oa l
 far:∀ (g o:Nat),oa=some ⟨g,o,none⟩->¬ fD rb mb cb go g
section
variable {W w w':World} {rb mb cb:Nat} {go0 go go':Option Nat} {oa:Option Addr} {l:List Nat} {st st':St}
theorem F7 (h:bQ .u32 w oa l) (hb:∀ g o,oa=some ⟨g,o,none⟩->g<w.heap.size->w'.heap[g]?=w.heap[g]?):bQ .u32 w' oa l:=by
 intro j x hj;obtain⟨g,o,e,hc⟩:=h j x hj;refine⟨g,o,e,?_⟩;have:=hb g o e (lt_of_cell hc);unfold World.cell? at hc ⊢;simp only at hc ⊢;rw[this];exact hc
theorem CW.below (h:CW W rb mb cb go0 oa l st go w) (hb:Below w.heap.size w w'):CW W rb mb cb go0 oa l st go w':=⟨h.run.below hb,h.read.below hb,h.far⟩
theorem CW.access (h:CW W rb mb cb go0 oa l st go w) (hl:∀ g o,oa=some ⟨g,o,none⟩->g<w.heap.size) (hr:RM w' rb mb cb go' true st') (ha:jl rb mb cb w go w' go'):CW W rb mb cb go0 oa l st' go' w' :=
 ⟨h.run.access hr ha,F7 h.read fun g o e hg=>ha.mod.block g hg (h.far g o e),fun g o e=>(ha.JM (fun _=>False)).apart (hl g o e) (h.far g o e)⟩
end
theorem CW.start {W w w1:World} {rb mb cb:Nat} {go0:Option Nat} {st:St} {v:Value} {l:List Nat} (hr:fV W rb mb cb go0 st go0 w) (hg:RM W rb mb cb go0 true st) (hb:Below w.heap.size w w1) (hz:W.heap.size<=w.heap.size) (ho:fP 32 .u32 w1 w.heap.size v l) {n:Nat} (hn:l.length=n) :
  ∃ oa c,v=.slice oa n c/\n<=c/\c<=maxLen/\(oa=none->c=0)/\CW W rb mb cb go0 oa l st go0 w1/\∀ g o,oa=some ⟨g,o,none⟩->g<w1.heap.size:=by
 obtain⟨oa,c,hv,h1,h2,h3,h4⟩:=ho.wL n hn
 have hblk:∀ g o,oa=some ⟨g,o,none⟩->w.heap.size<=g/\g<w1.heap.size:=by
  intro g o e;obtain⟨h0,⟨h,_⟩ | ⟨g',cap,cur,k1,k2,k3,k4⟩⟩:=ho
  ·rw[hv] at h;cases h;cases e
  ·rw[hv,e] at k1;cases k1;exact⟨k2,lt_of_heap k3⟩
 refine⟨oa,c,hv,h1,h2,h3,⟨hr.below hb,h4,fun g o e hf=>?_⟩,fun g o e=>(hblk g o e).2⟩;have:=(hblk g o e).1;have:=hg.lt g hf;omega
/-! ### Find -/
theorem JE (w:World) (key:ByteArray) (n:Nat) (hk:key.size<=reachBytes) (h0:1<=n) (h1:n<=1000000):Calls Tryz.prog 157 #[.string key,.int .i64 (n:Int)] w fun e w'=>e=.returned (.int .i64 ((bZ (ax key) % n:Nat):Int))/\w'=w:=by
 have HH:=hJ (Gt w key (by unfold reachBytes at hk;omega));have hh:=oG (ax key);obtain⟨h,hE⟩:∃ h,h=bZ (ax key):=⟨_,rfl⟩;rw[<- hE] at HH hh ⊢;obtain⟨r,hr⟩:∃ r,r=h % n:=⟨_,rfl⟩;have hrn:r<n:=by rw[hr];exact Nat.mod_lt _ oZ
 have k1:IntKind.u64.wrap (h:Int)=(h:Int):=IntWalk.u64_in _ oZ;have k2:IntKind.u64.wrap (n:Int)=(n:Int):=IntWalk.u64_in _ oZ;have r1:(h:Int) % (n:Int)=(r:Int):=oZ;have r2:(h:Int).tmod (n:Int)=(r:Int):=by rw[Int.tmod_eq_emod_of_nonneg oZ];exact r1
 have k3:IntKind.u64.wrap (r:Int)=(r:Int):=IntWalk.u64_in _ oZ;have k4:IntKind.i64.wrap (r:Int)=(r:Int):=iZ _ oZ;have kz:((n:Int)==0)=false:=by simpa using (show n≠0 by omega)
 rw[<- hr];clear hE hr hk;go_enter Tryz.func157,Tryz.ntmps157
 go_wp2_with fail
 refine HH.out.mono ?_;rintro e w1 ⟨rfl,rfl⟩;go_wp2_with fail
 go_ret;exact⟨rfl,rfl⟩
theorem F9 (s:Int) (m:Nat) (k:List Nat) (hm:1<=m):jf s (m:Int) k=fR s m k m 0:=by
 unfold jf;rw[if_neg oZ,Int.toNat_natCast]
theorem GK (n h t:Nat):(bL n h t+1) % n=bL n h (t+1):=by
 unfold bL;rw[Nat.mod_add_mod,Nat.add_assoc]
def lH (W:World) (rb mb cb:Nat) (go0:Option Nat) (st:St) (p:Pr (Int×Int)) (e:Ending) (w':World):Prop :=
 ∃ a k go',e=.returned (.tuple #[.int .i64 a,.int .i64 k])/\RM w' rb mb cb go' true (p.on st).2/\jl rb mb cb W go0 w' go'/\(∀ x,(p.on st).1=some x->x.1=a/\x.2=k)/\(0<=a/\a<=4294967295)/\-1<=k/\k<=1000000
theorem lH.of {W w':World} {rb mb cb:Nat} {go0 go':Option Nat} {st st':St} {p:Pr (Int×Int)} {a k:Int} (hr:fV W rb mb cb go0 st' go' w') (hq:fw p (a,k) st st') (ha:0<=a/\a<=4294967295) (hk:-1<=k/\k<=1000000):lH W rb mb cb go0 st p (.returned (.tuple #[.int .i64 a,.int .i64 k])) w':=by
 unfold fw at hq;have:=hr.rm;rw[<- hq.1] at this;exact⟨a,k,go',rfl,this,hr.adv,(fun x hx=>by rw[hq.2 x hx];exact⟨rfl,rfl⟩),ha,hk⟩
section
variable {w:World} {rb mb cb:Nat} {go:Option Nat} {st:St} {Bd:Nat}
theorem Ag (s:Int) (n:Nat) (key:ByteArray) (hrm:RM w rb mb cb go true st) (hf:st.dO Bd) (hB:Bd<1000000000) (hs0:0<=s) (hs1:s<=1000000) (hn0:1<=n) (hn1:n<=1000000) (hk:key.size<=reachBytes) :
  Calls Tryz.prog 122 #[.pointer (some ⟨rb,0,none⟩),.int .i64 s,.int .i64 (n:Int),.string key] w fun e w'=>lH w rb mb cb go st (jf s (n:Int) (ax key)) e w':=by
 have HR:=hJ (fV.start hrm);have HRM:=hJ hrm;have HF:=hJ hf;obtain⟨p,hp⟩:∃ p,p=jf s (n:Int) (ax key):=⟨_,rfl⟩;have hq:=Rest.start p st;have hp2:=hp;rw[F9 s n _ hn0] at hp2;have HQ:=hJ (show Rest p (fR s n (ax key) n 0) st st from hq.same hp2);rw[<- hp];have HC:=hJ (fun w=>pG w key (by unfold reachBytes at hk;omega));have HH:=hJ (fun w=>JE w key n hk hn0 hn1);obtain⟨h,hh⟩:∃ h,h=bZ (ax key):=⟨_,rfl⟩;have hz:bZ (ax key) % n=bL n h 0:=by rw[<- hh];unfold bL;rw[Nat.add_zero]
 rw[hz] at HH;obtain⟨cl,hcl⟩:∃ cl,cl=(aF (ax key)).length:=⟨_,rfl⟩;have hcl1:cl<=100000000000000:=by rw[hcl,bC,aD];unfold reachBytes at hk;omega
 have kz:(key.size:Int)<=9223372036854775807:=Gz hk
 have kw:IntKind.u32.wrap (key.size:Int)=((key.size % 4294967296:Nat):Int):=by
  simp[IntKind.wrap,IntKind.signed,IntKind.bits]
 obtain⟨kl,hkl⟩:∃ kl,kl=key.size % 4294967296:=⟨_,rfl⟩;rw[<- hkl] at kw;have HL:=hJ (And.intro hcl (show ((ax key).length % 4294967296:Nat)=kl by rw[aD,hkl]));have HHash:=hJ hh;have nz:((n:Int)==0)=false:=by simpa using (show n≠0 by omega)
 have HSl:=hJ (fun t=>jX (show 0<n by omega) h t);have n1:¬ (n:Int)<1:=oZ;clear hrm hf hq hp hp2 hh hz hcl hkl hk;go_enter Tryz.func122,Tryz.ntmps122
 go_wp2_with fail
 go_step3
 go_wp2_with fail
 refine(HC.out _).mono ?_;rintro e w1 ⟨v,rfl,hown,hb⟩;obtain⟨oa,cp,rfl,hc1,hc2,hc3,hcw,hcb⟩:=CW.start HR.out HRM.out hb (Nat.le_refl _) hown HL.out.1.symm;have HC:=hJ hcw;have HCB:=hJ hcb;clear hown hb hcw hcb HR;go_wp2_with fail
 go_step3
 go_wp2_with fail
 refine(HH.out _).mono ?_;rintro e w2 ⟨rfl,rfl⟩;clear HH;go_wp2_with fail
 go_loopg [11,12] n (fun g iv sv wr=>∃ (t:Nat) (st1:St) (go1:Option Nat),t+g=n/\iv=.int .i64 (t:Int)/\sv=.int .i64 ((bL n h t:Nat):Int)/\Hid (CW w rb mb cb go oa (aF (ax key)) st1 go1 wr)/\Hid (∀ g o,oa=some ⟨g,o,none⟩->g<wr.heap.size)/\Hid (st1.dO Bd)/\Hid (Rest p (fR s n (ax key) g t) st st1))
 case atStart=>exact⟨0,st,go,oZ,rfl,rfl,HC,HCB,HF,HQ⟩
 case round =>
  clear HC HCB HF HQ;obtain⟨t,st1,go1,htg,rfl,rfl,HC,HCB,HF,HQ⟩:=hrel;cases gk with
  | zero =>
   have htn:t=n:=oZ;subst htn;have HE:=hJ (HQ.out.ret);clear htg;go_wp2_with fail
   try rw[Exit.noGoto_ret]
   go_ret2
   exact lH.of HC.out.run HE.out ⟨oZ,oZ⟩ ⟨oZ,oZ⟩
  | succ g =>
   have htn:t<n:=oZ;have htn1:(t:Int)<(n:Int):=oZ;have hsl:=HSl.out t;obtain⟨sl,hsl2⟩:∃ sl,sl=bL n h t:=⟨_,rfl⟩;have hq:=HQ.out;unfold fR at hq;rw[<- HHash.out,<- hsl2] at hq;have HQ2:=hJ (hq.load HF.out);rw[<- hsl2] at hsl ⊢;have s1:IntKind.i64.wrap (s+(sl:Int))=s+(sl:Int):=iZ _ oZ;have HNX:=hJ (show (sl+1) % n=bL n h (t+1) by rw[hsl2];exact GK n h t);clear hq hsl2 HQ;go_wp2_with fail
   refine(run_load HC.out.run.rm hB HF.out.ok (s+(sl:Int))).mono ?_;rintro e w3 ⟨rfl,go3,hr3,ha3⟩;have HC3:=hJ (HC.out.access HCB.out hr3 ha3);have HCB3:=hJ (fun g o e=>Nat.lt_of_lt_of_le (HCB.out g o e) ha3.mod.size);have hu:=(HF.out.ok.load (s+(sl:Int))).2;have HF3:=hJ (HF.out.load (s+(sl:Int)));clear hr3 ha3 HC HCB;obtain⟨st3,hst3⟩:∃ x,x=(st1.load (s+(sl:Int))).2:=⟨_,rfl⟩;obtain⟨a,ha⟩:∃ x,x=(st1.load (s+(sl:Int))).1:=⟨_,rfl⟩;rw[<- hst3] at HC3 HF3 HQ2;rw[<- ha] at HQ2 hu ⊢;unfold U at hu;obtain⟨hu0,hu1⟩:=hu;have s2:IntKind.i64.wrap a=a:=iZ _ oZ;clear hst3 ha HF;by_cases ha0:a=0
   ·have hq:=HQ2.out;rw[if_pos ha0] at hq;have HE:=hJ hq.ret;subst ha0;clear hq HQ2;go_wp2_with fail
    try rw[Exit.noGoto_ret]
    go_ret2
    exact lH.of HC3.out.run HE.out ⟨oZ,oZ⟩ ⟨oZ,oZ⟩
   have b0:(a==0)=false:=by simpa using ha0
   have hq:=HQ2.out;rw[if_neg ha0] at hq;have HQ3:=hJ (hq.load HF3.out);have s3:IntKind.i64.wrap (a+1)=a+1:=iZ _ oZ;have s4:IntKind.i64.wrap (a+2)=a+2:=iZ _ oZ;clear hq HQ2 ha0;go_wp2_with fail
   refine(run_load HC3.out.run.rm hB HF3.out.ok (a+1)).mono ?_;rintro e w4 ⟨rfl,go4,hr4,ha4⟩;have HC4:=hJ (HC3.out.access HCB3.out hr4 ha4);have HCB4:=hJ (fun g o e=>Nat.lt_of_lt_of_le (HCB3.out g o e) ha4.mod.size);have HF4:=hJ (HF3.out.load (a+1));clear hr4 ha4 HC3 HCB3;obtain⟨st4,hst4⟩:∃ x,x=(st3.load (a+1)).2:=⟨_,rfl⟩;obtain⟨y,hy⟩:∃ x,x=(st3.load (a+1)).1:=⟨_,rfl⟩;rw[<- hst4] at HC4 HF4 HQ3;rw[<- hy] at HQ3 ⊢;clear hst4 hy HF3;have HNo:=hJ (show ∀ (wx:World) (stx:St) (gox:Option Nat),Hid (CW w rb mb cb go oa (aF (ax key)) stx gox wx)->Hid (∀ g o,oa=some ⟨g,o,none⟩->g<wx.heap.size)->Hid (stx.dO Bd)->Hid (Rest p (fR s n (ax key) g (t+1)) st stx)->∃ (t':Nat) (st1:St) (go1:Option Nat),t'+g=n/\Value.int .i64 ((t:Int)+1)=.int .i64 (t':Int)/\Value.int .i64 ((bL n h (t+1):Nat):Int)=.int .i64 ((bL n h t':Nat):Int)/\Hid (CW w rb mb cb go oa (aF (ax key)) st1 go1 wx)/\Hid (∀ g o,oa=some ⟨g,o,none⟩->g<wx.heap.size)/\Hid (st1.dO Bd)/\Hid (Rest p (fR s n (ax key) g t') st st1) from fun wx stx gox h1 h2 h3 h4=>⟨t+1,stx,gox,oZ,by rw[show ((t+1:Nat):Int)=(t:Int)+1 by omega],rfl,h1,h2,h3,h4⟩);have m1:IntKind.i64.wrap ((t:Int)+1)=(t:Int)+1:=iZ _ oZ;have m2:IntKind.i64.wrap ((sl:Int)+1)=(sl:Int)+1:=iZ _ oZ;obtain⟨sn,hsn⟩:∃ sn,sn=bL n h (t+1):=⟨_,rfl⟩;have hsn2:(sl+1) % n=sn:=by rw[hsn];exact HNX.out
   rw[<- hsn] at HNo
   have m3:((sl:Int)+1) % (n:Int)=(sn:Int):=by
    have:=congrArg (fun x:Nat=>(x:Int)) hsn2;simpa using this
   have m4:((sl:Int)+1).tmod (n:Int)=(sn:Int):=by rw[Int.tmod_eq_emod_of_nonneg oZ];exact m3
   have m5:IntKind.i64.wrap (sn:Int)=(sn:Int):=iZ _ (by have:=HSl.out (t+1);rw[<- hsn] at this;omega);clear hsn hsn2;by_cases hyl:y=(kl:Int)
   ·have hq:=HQ3.out;rw[HL.out.2,if_pos hyl] at hq;have HQ4:=hJ hq;have b1:(y != (kl:Int))=false:=by simpa using hyl
    clear hq hyl HQ3;go_wp2_with fail
    go_loopg [51] cl (fun g2 jv wy=>∃ (j:Nat) (st5:St) (go5:Option Nat),j+g2=cl/\jv=.int .i64 (j:Int)/\Hid (CW w rb mb cb go oa (aF (ax key)) st5 go5 wy)/\Hid (∀ g o,oa=some ⟨g,o,none⟩->g<wy.heap.size)/\Hid (st5.dO Bd)/\Hid (Rest p (rG (.ret (a,(sl:Int))) (fR s n (ax key) g (t+1)) ((aF (ax key)).drop j) (a+2+(j:Int))) st st5))
    case atStart=>exact⟨0,st4,go4,oZ,rfl,HC4,HCB4,HF4,hJ (HQ4.out.same (by rw[List.drop_zero,show a+2+((0:Nat):Int)=a+2 by omega]))⟩
    case round =>
     clear HC4 HCB4 HF4 HQ4;obtain⟨j,st5,go5,hjg,rfl,HC5,HCB5,HF5,HQ5⟩:=hrel;cases gk with
     | zero =>
      have hjc:cl=j:=oZ;have hq:=HQ5.out;rw[List.drop_eq_nil_of_le (by rw[<- HL.out.1];omega)] at hq;have HE:=hJ (show fw p (a,(sl:Int)) st st5 from hq.ret);subst hjc;clear hq HQ5 hjg;go_wp2_with fail
      try rw[Exit.noGoto_ret]
      go_ret2
      exact lH.of HC5.out.run HE.out ⟨oZ,oZ⟩ ⟨oZ,oZ⟩
     | succ g2 =>
      have hjc:j<cl:=oZ;have hjc1:(j:Int)<(cl:Int):=oZ;obtain⟨x,hx⟩:∃ x,(aF (ax key))[j]?=some x:=⟨_,gZ (by rw[<- HL.out.1];exact hjc)⟩;obtain⟨gb,ob,rfl,hcell⟩:=HC5.out.read j x hx
      have hdr:(aF (ax key)).drop j=x :: (aF (ax key)).drop (j+1):=by
       have hlt:=(eZ.1 hx).1;rw[List.drop_eq_getElem_cons hlt,(eZ.1 hx).2]
      have hq:=HQ5.out;rw[hdr] at hq;unfold rG at hq;have hq2:=hq.load HF5.out;have s5:IntKind.i64.wrap (a+2+(j:Int))=a+2+(j:Int):=iZ _ oZ;obtain⟨st6,hst6⟩:∃ z,z=(st5.load (a+2+(j:Int))).2:=⟨_,rfl⟩;obtain⟨z,hz⟩:∃ z,z=(st5.load (a+2+(j:Int))).1:=⟨_,rfl⟩;have HF6:=hJ (HF5.out.load (a+2+(j:Int)));have HK:=hJ (run_load HC5.out.run.rm hB HF5.out.ok (a+2+(j:Int)));rw[<- hst6] at hq2 HF6 HK;rw[<- hz] at hq2 HK;clear hdr hq hst6 hz hx HQ5;by_cases hzx:z=(x:Int)
      ·rw[if_pos hzx] at hq2;have HQ6:=hJ (hq2.same (by rw[show a+2+(j:Int)+1=a+2+((j+1:Nat):Int) by omega]));have b2:(z != (x:Int))=false:=by simpa using hzx
       clear hzx hq2;go_wp2_with fail
       refine HK.out.mono ?_;rintro e w6 ⟨rfl,go6,hr6,ha6⟩;have HC6:=hJ (HC5.out.access HCB5.out hr6 ha6);have HCB6:=hJ (fun g o e=>Nat.lt_of_lt_of_le (HCB5.out g o e) ha6.mod.size);clear hr6 ha6 HK HC5 HCB5 hcell;go_wp2_with fail
       go_roundg g2
       case measure=>omega
       case rel=>exact⟨j+1,st6,go6,oZ,by go_num,HC6,HCB6,HF6,HQ6⟩
      ·rw[if_neg hzx] at hq2;have HQ6:=hJ hq2;have b2:(z != (x:Int))=true:=by simpa using hzx
       clear hzx hq2;go_wp2_with fail
       refine HK.out.mono ?_;rintro e w6 ⟨rfl,go6,hr6,ha6⟩;have HC6:=hJ (HC5.out.access HCB5.out hr6 ha6);have HCB6:=hJ (fun g o e=>Nat.lt_of_lt_of_le (HCB5.out g o e) ha6.mod.size);clear hr6 ha6 HK HC5 HCB5 hcell;go_wp2_with fail
       go_quiet (fail)
       go_wp2_with fail
       go_roundg g
       case measure=>omega
       case rel=>exact HNo.out _ st6 go6 (hJ (HC6.out.below (dm (Below.refl _ _) _))) HCB6 HF6 HQ6
   ·have hq:=HQ3.out;rw[HL.out.2,if_neg hyl] at hq;have HQ4:=hJ hq;have b1:(y != (kl:Int))=true:=by simpa using hyl
    clear hq hyl HQ3;go_wp2_with fail
    go_quiet (fail)
    go_wp2_with fail
    go_roundg g
    case measure=>omega
    case rel=>exact HNo.out _ st4 go4 (hJ (HC4.out.below (dm (Below.refl _ _) _))) HCB4 HF4 HQ4
end
structure PD (W:World) (rb mb cb:Nat) (go0:Option Nat) (B S U:Nat->Int) (C T L:Int) (st:St) (go:Option Nat) (w:World):Prop where
 run:fV W rb mb cb go0 st go w
 p:w.heap[W.heap.size]?=some (.cells (ae B S C T L) 42 (0,0))
 u:w.heap[W.heap.size+1]?=some (.cells (six U) 40 (0,0))
 r:w.heap[W.heap.size+1+1]?=some (.cells (six fun _=>0) 40 (0,0))
section
variable {W w w':World} {rb mb cb:Nat} {go0 go go':Option Nat} {B S U:Nat->Int} {C T L:Int} {st st':St}
theorem PD.below (h:PD W rb mb cb go0 B S U C T L st go w) (hb:Below w.heap.size w w'):PD W rb mb cb go0 B S U C T L st go w' :=
 ⟨h.run.below hb,(hb.block _ (lt_of_heap h.p)).trans h.p,(hb.block _ (lt_of_heap h.u)).trans h.u,(hb.block _ (lt_of_heap h.r)).trans h.r⟩
theorem PD.drew (h:PD W rb mb cb go0 B S U C T L st go w):PD W rb mb cb go0 B S U C T L st go w.drew:=h.below (Below.refl _ _).drew
theorem PD.access (h:PD W rb mb cb go0 B S U C T L st go w) (hr:RM w' rb mb cb go' true st') (ha:jl rb mb cb w go w' go'):PD W rb mb cb go0 B S U C T L st' go' w' :=
 ⟨h.run.access hr ha,h.run.stays ha h.p (Nat.le_refl _) dZ,h.run.stays ha h.u oZ dZ,h.run.stays ha h.r oZ dZ⟩
theorem PD.turn (h:PD W rb mb cb go0 B S U C T L st go w) {k:Nat} {c:Array Value} (hk:w.heap[k]?=some (.cells c 40 (0,0))) (hW:W.heap.size<=k) (cs:Array Value):fV W rb mb cb go0 st go (w.setRow k cs) :=
 h.run.turn (h.run.far hk hW dZ) hW (bB.setRow (S:=fun j=>j=k) (bB.refl _ _) (.inr rfl) _)
theorem PD.start {w:World} {rb mb cb:Nat} {go:Option Nat} {st:St} (hrm:RM w rb mb cb go true st) (B S U:Nat->Int) (C T L:Int):PD w rb mb cb go B S U C T L st go (((w.alloc (.cells (ae B S C T L) 42)).alloc (.cells (six U) 40)).alloc (.cells (six fun _=>0) 40)) :=
 ⟨(fV.start hrm).below bi,dN _ _ _ _,dM _ _ _ _,dS _ _ _ _⟩
end
def kE (S:Nat->Int) (W:World) (rb mb cb:Nat) (go0:Option Nat) (st:St) (p:Pr DJ) (e:Ending) (w':World):Prop :=
 ∃ a V er go',e=.returned (.tuple #[.int .i64 a,.agg (six V),.int .i64 er])/\RM w' rb mb cb go' true (p.on st).2/\jl rb mb cb W go0 w' go'/\(∀ x,(p.on st).1=some x->x.1=a/\six x.2.1=six V/\x.2.2=er)/\∀ k,k<6->0<=V k/\V k<=S k
theorem kE.of {S:Nat->Int} {W w':World} {rb mb cb:Nat} {go0 go':Option Nat} {st st':St} {p:Pr DJ} {a er:Int} {V:Nat->Int} (hr:fV W rb mb cb go0 st' go' w') (hq:fw p (a,V,er) st st') (hV:∀ k,k<6->0<=V k/\V k<=S k):kE S W rb mb cb go0 st p (.returned (.tuple #[.int .i64 a,.agg (six V),.int .i64 er])) w':=by
 unfold fw at hq;have:=hr.rm;rw[<- hq.1] at this;exact⟨a,V,er,go',rfl,this,hr.adv,(fun y hy=>by rw[hq.2 y hy];exact⟨rfl,rfl,rfl⟩),hV⟩
section
variable {w:World} {rb mb cb:Nat} {go:Option Nat} {st:St} {Bd:Nat}
theorem GG (B S U:Nat->Int) (C T L s slot:Int) (key:ByteArray) (hrm:RM w rb mb cb go true st) (hU:∀ k,k<6->0<=U k/\U k<=S k/\S k<=1000000) (hk:key.size<=1000000) (hfit:¬ 2+((aF (ax key)).length:Int)<=S 4-U 4) :
  Calls Tryz.prog 190 #[.pointer (some ⟨rb,0,none⟩),.agg (ae B S C T L),.agg (six U),.int .i64 s,.int .i64 slot,.string key] w fun e w'=>kE S w rb mb cb go st (gp B S U s slot (ax key)) e w':=by
 have HVS:Hid (∀ k,k<6->0<=(fun _=>(0:Int)) k/\(fun _=>(0:Int)) k<=S k):=hJ (fun k hk6=>by have:=hU k hk6;exact⟨Int.le_refl _,by show (0:Int)<=S k;omega⟩);obtain⟨p,hp⟩:∃ p,p=gp B S U s slot (ax key):=⟨_,rfl⟩;have hq:=(Rest.start p st).same hp;unfold gp at hq;rw[if_neg hfit] at hq;have HQ:=hJ hq.ret;rw[<- hp];have HRM:=hJ hrm;have HC:=hJ (fun w=>pG w key oZ);obtain⟨cl,hcl⟩:∃ cl,cl=(aF (ax key)).length:=⟨_,rfl⟩;have hcl1:cl<=1000000:=by rw[hcl,bC,aD];omega
 have h4:=hU 4 oZ;have HT:=hJ (fun w=>oh w B S U C T L (2+(cl:Int)) 4 oZ oZ h4.1 h4.2.1 h4.2.2 (by rw[hcl];omega));have s1:IntKind.i64.wrap (2+(cl:Int))=2+(cl:Int):=iZ _ oZ;have HL:=hJ hcl.symm;have hP:=PD.start hrm B S U C T L;clear hrm hq hp hcl hU hfit h4 hk;go_enter Tryz.func190,Tryz.ntmps190
 go_upto_region 1 with fail
 have hw:(((w.alloc (.cells (ae B S C T L) 42)).alloc (.cells (six U) 40)).alloc (.cells #[.int .i64 0,.int .i64 0,.int .i64 0,.int .i64 0,.int .i64 0,.int .i64 0] 40))=(((w.alloc (.cells (ae B S C T L) 42)).alloc (.cells (six U) 40)).alloc (.cells (six fun _=>0) 40)):=rfl;rw[hw];clear hw;generalize (((w.alloc (.cells (ae B S C T L) 42)).alloc (.cells (six U) 40)).alloc (.cells (six fun _=>0) 40))=w1 at hP ⊢;have HP:=hJ hP;clear hP;go_wp2_with fail
 refine(HC.out _).mono ?_;rintro e w2 ⟨v,rfl,hown,hb⟩;obtain⟨oa,cp,rfl,hc1,hc2,hc3,hcw,hcb⟩:=CW.start HP.out.run HRM.out hb HP.out.run.adv.mod.size hown HL.out;have HP:=hJ (HP.out.below hb);clear hown hb hcw hcb hc3
 go_wp2_with (first
  | (refine yZ rfl 42 (.tmp 7) rfl w.heap.size rfl 42 (ae B S C T L) (0,0) _ HP.out.p Tryz.underlying42 rfl (ai _ _ _ _ _) ?_)
  | (refine yZ rfl 40 (.tmp 8) rfl (w.heap.size+1) rfl 40 (six U) (0,0) _ HP.out.u Tryz.underlying40 rfl (af _) ?_)
  | fail)
 refine(HT.out _).mono ?_;rintro e w3 ⟨rfl,hb⟩;have HP:=hJ (HP.out.below hb);clear hb HT
 go_upto_region 3 with (first
  | (refine zZ rfl 40 (.tmp 17) (.tmp 31) rfl w3.heap.size (six fun _=>0) rfl rfl 40 (six fun _=>0) (nZ w3 _) (af _) rfl (aQ _) ?_)
  | fail)
 rw[World.setRow_alloc_new];have HP:=hJ (HP.out.below (aj (A:=.cells (six fun _=>0) 40)));generalize w3.alloc (.cells (six fun _=>0) 40)=w4 at HP ⊢;go_wp2_with (refine zZ rfl 40 (.tmp 13) (.tmp 35) rfl (w.heap.size+1+1) (six fun _=>0) rfl rfl 40 (six fun _=>0) HP.out.r (af _) (aS _ _) (aQ _) ?_)
 refine tZ (v:=.tuple #[.int .i64 0,.agg (six fun _=>0),.int .i64 3]) (bE rfl _ _ (w.heap.size+1+1) _ _ (0,0) _ _ _ rfl rfl rfl (setRow_heap _ _ _ _ _ _ HP.out.r) Tryz.underlying40 rfl (af _)) rfl ?_;exact kE.of (HP.out.turn HP.out.r oZ (six fun _=>0)) HQ.out HVS.out
theorem GM (B S U:Nat->Int) (C T L s slot:Int) (key:ByteArray) (hrm:RM w rb mb cb go true st) (hf:st.dO Bd) (hB:Bd<1000000000) (hb4:0<=B 4/\B 4<=1000000) (hU:∀ k,k<6->0<=U k/\U k<=S k/\S k<=1000000) (hs0:0<=s) (hs1:s<=1000000) (hi0:-1<=slot) (hi1:slot<=1000000) (hk:key.size<=1000000) (hfit:2+((aF (ax key)).length:Int)<=S 4-U 4) :
  Calls Tryz.prog 190 #[.pointer (some ⟨rb,0,none⟩),.agg (ae B S C T L),.agg (six U),.int .i64 s,.int .i64 slot,.string key] w fun e w'=>kE S w rb mb cb go st (gp B S U s slot (ax key)) e w':=by
 obtain⟨p,hp⟩:∃ p,p=gp B S U s slot (ax key):=⟨_,rfl⟩;have hq:=(Rest.start p st).same hp;unfold gp at hq;rw[if_pos hfit] at hq;rw[<- hp];have HRM:=hJ hrm;have HF:=hJ hf;have HC:=hJ (fun w=>pG w key oZ);obtain⟨cl,hcl⟩:∃ cl,cl=(aF (ax key)).length:=⟨_,rfl⟩;have hcl1:cl<=1000000:=by rw[hcl,bC,aD];omega
 have h4:=hU 4 oZ;have HT:=hJ (fun w=>om w B S U C T L (2+(cl:Int)) 4 oZ oZ h4.1 h4.2.1 h4.2.2 (by rw[hcl];omega) hb4.1 hb4.2);obtain⟨a,ha⟩:∃ a,a=B 4+U 4:=⟨_,rfl⟩;have ha0:0<=a:=oZ;have ha1:a<=2000000:=oZ;obtain⟨V,hV⟩:∃ V,V=more U 4 (2+(cl:Int)):=⟨_,rfl⟩
 have HVS:Hid (∀ k,k<6->0<=V k/\V k<=S k):=hJ (fun k hk6=>by
  have h6:=hU k hk6;rw[hV];unfold more;split
  ·rename_i e
   subst e;omega
  ·omega)
 rw[<- hcl,<- ha,<- hV] at hq;rw[<- ha,<- hV] at HT;have s1:IntKind.i64.wrap (2+(cl:Int))=2+(cl:Int):=iZ _ oZ;have s2:IntKind.i64.wrap (a+1)=a+1:=iZ _ oZ;have s3:IntKind.i64.wrap (a+2)=a+2:=iZ _ oZ;have s4:IntKind.i64.wrap (s+slot)=s+slot:=iZ _ oZ;have s5:IntKind.u32.wrap a=a:=IntWalk.u32_in _ oZ;have s6:IntKind.u32.wrap (key.size:Int)=(key.size:Int):=IntWalk.u32_in _ oZ;have kz:(key.size:Int)<=9223372036854775807:=oZ;rw[aD] at hq;have hq2:=hq.store hf;have HU:=hJ (show u32 (key.size:Int)=(key.size:Int)/\u32 a=a from⟨s6,s5⟩);have HF2:=hJ (hf.store (a+1) (key.size:Int));rw[HU.out.1] at hq2 HF2;have HQ:=hJ hq2;have HLt:=hJ (cells_lt (iD key));have HL:=hJ hcl.symm;have hP:=PD.start hrm B S U C T L;clear hrm hq hq2 hp hcl hU hfit h4 hk ha hV hb4 hf;go_enter Tryz.func190,Tryz.ntmps190
 go_upto_region 1 with fail
 have hw:(((w.alloc (.cells (ae B S C T L) 42)).alloc (.cells (six U) 40)).alloc (.cells #[.int .i64 0,.int .i64 0,.int .i64 0,.int .i64 0,.int .i64 0,.int .i64 0] 40))=(((w.alloc (.cells (ae B S C T L) 42)).alloc (.cells (six U) 40)).alloc (.cells (six fun _=>0) 40)):=rfl;rw[hw];clear hw;generalize (((w.alloc (.cells (ae B S C T L) 42)).alloc (.cells (six U) 40)).alloc (.cells (six fun _=>0) 40))=w1 at hP ⊢;have HP:=hJ hP;clear hP;go_wp2_with fail
 refine(HC.out _).mono ?_;rintro e w2 ⟨v,rfl,hown,hb⟩;obtain⟨oa,cp,rfl,hc1,hc2,hc3,hcw,hcb⟩:=CW.start HP.out.run HRM.out hb HP.out.run.adv.mod.size hown HL.out;have HP:=hJ (HP.out.below hb);have HCW:=hJ hcw;have HCB:=hJ hcb;clear hown hb hcw hcb HC
 go_wp2_with (first
  | (refine yZ rfl 42 (.tmp 7) rfl w.heap.size rfl 42 (ae B S C T L) (0,0) _ HP.out.p Tryz.underlying42 rfl (ai _ _ _ _ _) ?_)
  | (refine yZ rfl 40 (.tmp 8) rfl (w.heap.size+1) rfl 40 (six U) (0,0) _ HP.out.u Tryz.underlying40 rfl (af _) ?_)
  | fail)
 refine(HT.out _).mono ?_;rintro e w3 ⟨rfl,hb⟩;have HP:=hJ (HP.out.below hb);have HCW:=hJ (HCW.out.below hb);have HCB:=hJ (fun g o e=>Nat.lt_of_lt_of_le (HCB.out g o e) hb.size);clear hb HT
 go_upto_region 3 with (first
  | (refine zZ rfl 40 (.tmp 17) (.tmp 31) rfl w3.heap.size (six V) rfl rfl 40 (six fun _=>0) (nZ w3 _) (af _) rfl (aQ _) ?_)
  | fail)
 have hr3:=lt_of_heap HP.out.r;rw[World.setRow_alloc_new];have hb:=aj (w:=w3) (A:=.cells (six V) 40);have HV:=hJ (nZ w3 (.cells (six V) 40));have HP:=hJ (HP.out.below hb);have HCW:=hJ (HCW.out.below hb);have HCB:=hJ (fun g o e=>Nat.lt_of_lt_of_le (HCB.out g o e) hb.size);have hsz:=HP.out.run.adv.mod.size;generalize w3.alloc (.cells (six V) 40)=w4 at HP HV HCW HCB hb ⊢;obtain⟨q,hqe⟩:∃ q,q=w3.heap.size:=⟨_,rfl⟩;have hq2:w.heap.size+1+1<q:=by rw[hqe];exact hr3
 rw[<- hqe] at HV ⊢;clear hb hsz hqe hr3;go_wp2_with fail
 refine(run_store HP.out.run.rm hB HF.out.ok (a+1) (key.size:Int)).mono ?_;rintro e w5 ⟨rfl,go5,hr5,ha5⟩;have HV:=hJ (HP.out.run.stays ha5 HV.out oZ dZ);have HP:=hJ (HP.out.access hr5 ha5);have HCW:=hJ (HCW.out.access HCB.out hr5 ha5);have HCB:=hJ (fun g o e=>Nat.lt_of_lt_of_le (HCB.out g o e) ha5.mod.size);clear hr5 ha5 HF;go_wp2_with fail
 go_loopg [46] cl (fun r iv wr=>∃ (j:Nat) (st1:St) (go1:Option Nat),j+r=cl/\iv=.int .i64 (j:Int)/\Hid (PD w rb mb cb go B S U C T L st1 go1 wr)/\Hid (wr.heap[q]?=some (.cells (six V) 40 (0,0)))/\Hid (CW w rb mb cb go oa (aF (ax key)) st1 go1 wr)/\Hid (∀ g o,oa=some ⟨g,o,none⟩->g<wr.heap.size)/\Hid (st1.dO Bd)/\Hid (Rest p (iW (.store (s+slot) a (.ret (a,V,0))) ((aF (ax key)).drop j) (a+2+(j:Int))) st st1))
 case atStart=>exact⟨0,_,go5,oZ,rfl,HP,HV,HCW,HCB,HF2,hJ (HQ.out.same (by rw[List.drop_zero,show a+2+((0:Nat):Int)=a+2 by omega]))⟩
 case round =>
  clear HP HV HCW HCB HF2 HQ;obtain⟨j,st1,go1,hjr,rfl,HP,HV,HCW,HCB,HF,HQ⟩:=hrel;cases gk with
  | zero =>
   have hjc:cl=j:=oZ;have hq:=HQ.out;rw[List.drop_eq_nil_of_le (by rw[HL.out];omega)] at hq;unfold iW at hq;have hq3:=hq.store HF.out;rw[HU.out.2] at hq3;have HE:=hJ hq3.ret;subst hjc;clear hq hq3 HQ hjr;go_wp2_with fail
   refine(run_store HP.out.run.rm hB HF.out.ok (s+slot) a).mono ?_;rintro e w9 ⟨rfl,go9,hr9,ha9⟩;have HV:=hJ (HP.out.run.stays ha9 HV.out oZ dZ);have HP:=hJ (HP.out.access hr9 ha9);clear hr9 ha9 HCW HCB;go_upto_region 12 with fail
   clear hc1 hc2 hc3;obtain⟨st9,hst9⟩:∃ z,z=st1.store (s+slot) a:=⟨_,rfl⟩;rw[<- hst9] at HE HP
   refine aL (fun(_:Unit) j=>[.int .i64 a,.agg (six V),.int .i64 a,undef,.int .i64 0].getD j undef)
    (fun _ l wx=>fV w rb mb cb go st9 go9 wx/\wx.heap[q]?=some (.cells (six V) 40 (0,0))/\(∃ X,wx.heap[w.heap.size+1+1]?=some (.cells (six X) 40 (0,0)))/\(l 3=true->wx.heap[w.heap.size+1+1]?=some (.cells (six V) 40 (0,0))))
    kZ kZ pZ () ?_ ?_ ?_
   ·exact⟨HP.out.drew.run,HV.out,⟨_,HP.out.r⟩,(fun h=>by cases h)⟩
   ·intro i o ho q' l wx hR hl he K hK;rcases i with _|_|_|_|_|i
    any_goals first | (cases ho;go_simp;exact hK () wx (fun _ _=>rfl) hR;done) | fail
    ·cases ho;refine wp_load_row 40 (.tmp 17) rfl q rfl 40 (six V) (0,0) _ hR.2.1 Tryz.underlying40 rfl (af _) ?_;exact hK () wx (fun _ _=>rfl) hR
    ·cases ho;obtain⟨X,hX⟩:=hR.2.2.1;refine wp_store_row 40 (.tmp 13) (.tmp 67) rfl (w.heap.size+1+1) (six V) rfl rfl 40 (six X) hX (af _) (aS _ _) (aQ _) ?_;have hs:=setRow_heap wx (w.heap.size+1+1) _ (six V) _ _ hX;exact hK () _ (fun _ _=>rfl) ⟨hR.1.turn (hR.1.far hX oZ dZ) oZ (bB.setRow (S:=fun j=>j=w.heap.size+1+1) (bB.refl _ _) (.inr rfl) _),(qZ _ _ _ _ oZ).trans hR.2.1,⟨_,hs⟩,fun _=>hs⟩
    ·simp at ho
   ·intro q' l wx hl hR;have H4:Hid (wx.heap[w.heap.size+1+1]?=some (.cells (six V) 40 (0,0))):=hJ (hR.2.2.2 (hl 3 dZ));have HRX:=hJ hR.1;clear hR hl;go_wp2_with fail
    refine tZ (v:=.tuple #[.int .i64 a,.agg (six V),.int .i64 0]) (bE rfl _ _ (w.heap.size+1+1) _ _ (0,0) _ _ _ rfl rfl rfl H4.out Tryz.underlying40 rfl (af _)) rfl ?_;exact kE.of HRX.out HE.out HVS.out
  | succ r =>
   have hjc:j<cl:=oZ;have hjc1:(j:Int)<(cl:Int):=oZ;obtain⟨x,hx⟩:∃ x,(aF (ax key))[j]?=some x:=⟨_,gZ (by rw[HL.out];exact hjc)⟩;have hx32:=HLt.out x (List.mem_of_getElem? hx);obtain⟨gb,ob,rfl,hcell⟩:=HCW.out.read j x hx
   have hdr:(aF (ax key)).drop j=x :: (aF (ax key)).drop (j+1):=by
    have hlt:=(eZ.1 hx).1;rw[List.drop_eq_getElem_cons hlt,(eZ.1 hx).2]
   have hq:=HQ.out;rw[hdr] at hq;unfold iW at hq;have hq3:=hq.store HF.out;have hf3:=HF.out.store (a+2+(j:Int)) (x:Int);rw[u32_in (v:=(x:Int)) ⟨oZ,oZ⟩] at hq3 hf3;have s7:IntKind.i64.wrap (a+2+(j:Int))=a+2+(j:Int):=iZ _ oZ;have HQ3:=hJ (hq3.same (by rw[show a+2+(j:Int)+1=a+2+((j+1:Nat):Int) by omega]));have HF3:=hJ hf3;have HK:=hJ (run_store HP.out.run.rm hB HF.out.ok (a+2+(j:Int)) (x:Int));clear hdr hq hq3 hf3 hx HQ hx32;go_wp2_with fail
   refine HK.out.mono ?_;rintro e w6 ⟨rfl,go6,hr6,ha6⟩;have HV:=hJ (HP.out.run.stays ha6 HV.out oZ dZ);have HP:=hJ (HP.out.access hr6 ha6);have HCW:=hJ (HCW.out.access HCB.out hr6 ha6);have HCB:=hJ (fun g o e=>Nat.lt_of_lt_of_le (HCB.out g o e) ha6.mod.size);clear hr6 ha6 HK hcell;go_wp2_with fail
   go_roundg r
   case measure=>omega
   case rel=>exact⟨j+1,_,go6,oZ,by go_num,HP,HV,HCW,HCB,HF3,HQ3⟩
end
end Go.Proofs.YtafaohnhlgcnpaaGreatDoor
