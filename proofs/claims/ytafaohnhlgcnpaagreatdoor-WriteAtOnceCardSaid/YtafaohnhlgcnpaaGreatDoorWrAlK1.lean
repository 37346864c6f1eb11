/-
 What stage 12 rests on.
-/
import Derived.Test.YtafaohnhlgcnpaaGreatDoorWrAlJ1
set_option maxRecDepth 100000
set_option maxHeartbeats 16000000
namespace Go.Proofs.YtafaohnhlgcnpaaGreatDoor
open Go.RowKit
theorem Az {B S:Nat->Int} {C:Int} {m dd:Nat} {tt:Int} {nd:Nat} {cs:List Int} {x:Sx} {d:bK} (hI:WI B S C m dd tt nd cs x d) {id e:Int} {F:List ByteArray} {cs':List Int} {x':Sx} (hO:lm B S m dd tt nd id F cs x d e cs' x') (hid:U id) (w:World) (oa:Option Addr) (c n:Nat) (en:cs.length=n) (ha:bQ .u32 w oa (gQ cs)) (og:Option Addr) (gc:Nat) (hg:eH w og x.aC) (ss:Nat->Int) (bk rm:Int) (kf bf:Nat) (L:Int) (fo:Option Addr) (fc:Nat) (hF:fU w fo F) (hs:∀ x∈F,x.size<=1000000) (hFn:F.length<=1000000) :
  Calls Tryz.prog 58 #[.agg (aH (.slice oa n c) (.slice og 1 gc) x),.agg (au (dd:Int) tt ss bk rm kf bf),.agg (ae B S C (m:Int) L),.agg #[.int .u32 id,.slice fo F.length fc]] w fun e0 w'=>∃ vc vs,e0=.returned (.tuple #[.int .i64 e,.agg (aH vc vs x')])/\Below w.heap.size w w'/\((e≠0/\vc=.slice oa n c/\vs=.slice og 1 gc/\cs'=cs/\x'=x)∨(e=0/\∃ g,vc=.slice (some ⟨g,0,none⟩) n n/\cB w' g cs'/\bn w' w.heap.size vs x'.aC/\w.heap.size<=g)):=by
 obtain⟨b1,b2,b3,b4,b5,b6,b7,b8⟩:=hI.bounds;have eg:x.aC.length=1:=by rw[hI.aC];rfl
 have hs0:x.aC[1-1]?=some (B 5,(nd:Int),false):=by rw[hI.aC];rfl
 cases hO with
 | long h =>
  refine(yE w oa c n cs en oZ hI.ws.cu ha og 1 gc x eg hg oZ hI.pY (dd:Int) tt ss bk rm kf bf B S C (m:Int) L id fo fc F hF hs hFn h).mono ?_;rintro e w' ⟨rfl,hb⟩;exact⟨_,_,rfl,hb,.inl ⟨h,rfl,rfl,rfl,rfl⟩⟩
 | dup h h2 =>
  refine(Cm w oa c n cs en oZ hI.ws.cu ha og 1 gc x eg hg oZ hI.pY (dd:Int) tt ss bk rm kf bf B S C (m:Int) L id fo fc F hF hs hFn h h2).mono ?_;rintro e w' ⟨rfl,hb⟩;exact⟨_,_,rfl,hb,.inl ⟨dZ,rfl,rfl,rfl,rfl⟩⟩
 | Ee h h2 h3 =>
  refine(AJ w oa c n cs en oZ hI.ws.cu ha og 1 gc x eg hg oZ hI.pY (dd:Int) tt ss bk rm kf bf B S C (m:Int) L id fo fc F hF hs hFn hs0 h h2 (by show (dd:Int)<=(nd:Int);omega)).mono ?_;rintro e w' ⟨rfl,hb⟩;exact⟨_,_,rfl,hb,.inl ⟨dZ,rfl,rfl,rfl,rfl⟩⟩
 | terms h h2 h3 h4 =>
  refine(qa (cs1:=cs) (Us1:=x.used) hI w oa c n en ha og gc hg ss bk rm kf bf L id fo fc F hF hs hFn h h2 h3 5 (.inl ⟨rfl,h4⟩) hid).mono ?_;rintro e w' ⟨rfl,hb⟩;exact⟨_,_,rfl,hb,.inl ⟨dZ,rfl,rfl,rfl,rfl⟩⟩
 | full h h2 h3 h4 h5 =>
  refine(qa (cs1:=cs) (Us1:=x.used) hI w oa c n en ha og gc hg ss bk rm kf bf L id fo fc F hF hs hFn h h2 h3 3 (.inr (.inl ⟨rfl,h4,h5⟩)) hid).mono ?_;rintro e w' ⟨rfl,hb⟩;exact⟨_,_,rfl,hb,.inl ⟨dZ,rfl,rfl,rfl,rfl⟩⟩
 | ok h h2 h3 h4 h5 h6 h7 h8 =>
  refine(qa hI w oa c n en ha og gc hg ss bk rm kf bf L id fo fc F hF hs hFn h h2 h3 0 (.inr (.inr ⟨rfl,h4,h5,h6,h7,h8⟩)) hid).mono ?_;rintro e w' ⟨g,vs,rfl,hz,ho,hb,hg⟩;exact⟨_,vs,rfl,hb,.inr ⟨rfl,g,rfl,hz,ho,hg⟩⟩
theorem zq {w:World} {base base' size n:Nat} {e:TypeId} {v:Value} {xs:List Value} (h:w.ownsRow base e size v n xs) (hb:base'<=base):w.ownsRow base' e size v n xs :=
 ⟨h.1,h.2.imp id fun⟨g,cap,cur,a,b,c⟩=>⟨g,cap,cur,a,Nat.le_trans hb b,c⟩⟩
theorem Da (w:World) (xp xi xl xt:Int):(Instr.field 147 (.agg #[.int .u32 xp,.int .u32 xi,.int .u32 xl,.int .u32 xt]) 3).run Tryz.prog w=.ok (.int .u32 xt) w:=by
 unfold Instr.field;rw[Sem.run_bind,run_underlying Tryz.underlying147 w];simp[part,asAgg,isAgg,Sem.run_bind,run_underlying Tryz.underlying32]
theorem Jg {w:World} {rb mb cb:Nat} {go:Option Nat} {st:St} {Bd:Nat} {dd:Nat} {tt:Int} {ss:Nat->Int} {bk rm:Int} {kf bf:Nat} {a:Int} (ha0:0<=a) (ha1:a<=59000)
  {x:Sx} {nd:Nat} (hsegs:x.aC=[(a,(nd:Int),false)]) (hnd:nd<=60000) (hver:U x.bT) (id:Int) (og:Option Addr) (gc:Nat)
  (hrm:RM w rb mb cb go true st) (hf:st.dO Bd) (hB:Bd<1000000000) (hoff:st.off=false)
  (hArgs:∀ wr:World,(∀ k,k<w.heap.size->¬ fD rb mb cb go k->wr.heap[k]?=w.heap[k]?)->eH wr og x.aC) :
  Calls Tryz.prog 55 #[.pointer (some ⟨rb,0,none⟩),.agg (au (dd:Int) tt ss bk rm kf bf),.agg (aO (.slice og 1 gc) x),.int .u32 id] w fun e w'=>fQ w rb mb cb go (mE id x) st e w':=by
 obtain⟨pt,hpt⟩:∃ pt,pt=mE id x:=⟨_,rfl⟩;have hr0:Rest pt (mE id x) st st:=(Rest.start pt st).same hpt;unfold mE at hr0;rw[<- hpt];obtain⟨ga,oa,rfl,sg0,sg1,sg2⟩:=(hArgs w fun _ _ _=>rfl) 0 (a,(nd:Int),false) (by rw[hsegs];rfl);have HArgs:=hJ hArgs;have HF:=hJ hf;have HOff:=hJ hoff;have HRun:=hJ (fV.start hrm);have HSegs:=hJ hsegs;have HR1:=hJ hr0;have HVer:=hJ hver;clear hArgs hf hoff hrm hsegs hr0 hpt hver sg0 sg1 sg2;go_enter Tryz.func55,Tryz.ntmps55
 go_upto_region 1 with fail
 have hAW0:AW w rb mb cb go [(w.heap.size,(au (dd:Int) tt ss bk rm kf bf),25),(w.heap.size+1,(aO (.slice (some ⟨ga,oa,none⟩) 1 gc) x),46),(w.heap.size+1+1,(aO (.slice none 0 0) aJ),46)] st go (((w.alloc (.cells (au (dd:Int) tt ss bk rm kf bf) 25)).alloc (.cells (aO (.slice (some ⟨ga,oa,none⟩) 1 gc) x) 46)).alloc (.cells (aO (.slice none 0 0) aJ) 46)):=by
  refine⟨HRun.out.below (bi (A:=_) (B:=_) (C:=_)),fun y hy=>?_⟩;simp only[List.mem_cons,List.not_mem_nil,or_false] at hy;rcases hy with rfl | rfl | rfl
  ·exact⟨dN _ _ _ _,sZ,by show (25:TypeId)≠32;decide⟩
  ·exact⟨dM _ _ _ _,sZ,by show (46:TypeId)≠32;decide⟩
  ·exact⟨dS _ _ _ _,by simp <;> omega,by show (46:TypeId)≠32;decide⟩
 obtain⟨w3,hw3⟩:∃ w3,w3=(((w.alloc (.cells (au (dd:Int) tt ss bk rm kf bf) 25)).alloc (.cells (aO (.slice (some ⟨ga,oa,none⟩) 1 gc) x) 46)).alloc (.cells (aO (.slice none 0 0) aJ) 46)):=⟨_,rfl⟩;rw[show (((w.alloc (.cells (au (dd:Int) tt ss bk rm kf bf) 25)).alloc (.cells (aO (.slice (some ⟨ga,oa,none⟩) 1 gc) x) 46)).alloc (.cells #[.slice none 0 0,.int .i64 0,.int .u32 0,.int .i64 0,.int .i64 0,.int .i64 0,.int .i64 0,.int .i64 0,.int .i64 0] 46))=w3 from hw3.symm];rw[<- hw3] at hAW0;have HA:=hJ hAW0;clear hw3 hAW0 HRun;have c60:w3.cell? ⟨w.heap.size+1,0,none⟩=some (.slice (some ⟨ga,oa,none⟩) 1 gc):=aa (HA.out.get (k:=w.heap.size+1) (c:=(aO (.slice (some ⟨ga,oa,none⟩) 1 gc) x)) (t:=46) sZ) 0
 have HFi:=hJ (yh (some ⟨ga,oa,none⟩) 1 gc x.aC id HA.out.run.rm HF.out hB (by rw[HSegs.out];rfl) oZ (fun wr h=>(HArgs.out wr (fun k h1 h2=>(h k (Nat.lt_of_lt_of_le h1 HA.out.run.adv.mod.size) ((HA.out.run.adv.JM (fun _=>False)).apart h1 h2)).trans (HA.out.run.adv.mod.block k h1 h2)))) (fun s hs=>by
  rw[HSegs.out] at hs;simp at hs;subst hs;exact⟨ha0,ha1,by show (0:Int)<=(nd:Int);omega,by show (nd:Int)<=60000;omega⟩))
 go_wp2_with fail
 refine HFi.out.mono ?_;clear HFi c60;rintro e w4 ⟨bb,kk,zz,go4,rfl,hr4,ha4,hans,hbb,hk0,hk1⟩;obtain⟨hbb0,hbb1⟩:=hbb;have HA4:=hJ (HA.out.access hr4 ha4);have HF4:=hJ (fu (fG id x.aC) st HF.out);have hq:=HR1.out.bind HF.out (k:=(bb,kk,zz)) hans;obtain⟨st4,hst4⟩:∃ st4,st4=((fG id x.aC).on st).2:=⟨_,rfl⟩;rw[<- hst4] at HA4 HF4 hq;have HR4:=hJ hq;clear hr4 ha4 hans hq hst4 HA HF HR1;cases zz with
 | false =>
  have HE:=hJ ((HR4.out.same (q':=.ret (aJ,7)) (by show (if(false:Bool)=false then _ else _)=_;rw[if_pos rfl])).ret);clear HR4;have HRs:=hJ (HA4.out.get (k:=w.heap.size+1+1) (c:=(aO (.slice none 0 0) aJ)) (t:=46) sZ)
  go_wp2_with (first
   | (refine zZ rfl 46 (.tmp 8) (.tmp 32) rfl (w.heap.size+1+1) (aO (.slice none 0 0) aJ) rfl rfl 46 (aO (.slice none 0 0) aJ) HRs.out (aK _ _) rfl (dL _ _ _ _) ?_)
   | fail)
  refine tZ (v:=.tuple #[.agg (aO (.slice none 0 0) aJ),.int .i64 7]) (di rfl _ _ (w.heap.size+1+1) _ _ (0,0) _ _ rfl rfl (setRow_heap _ _ _ _ _ _ HRs.out) Tryz.underlying46 rfl (aK _ _)) rfl ?_;exact fQ.bad (HA4.out.turn (L':=[]) HRs.out oZ dZ (bB.setRow (S:=fun j=>j=w.heap.size+1+1) (bB.refl _ _) (.inr rfl) _) sZ).run HE.out dZ
 | true =>
  have HR5:=hJ (show Rest pt ((jM bb kk).bind fun r=>if r.t≠0 then .ret (aJ,7) else(rF bb kk (u32 (x.bT+1))).bind fun _=>.store 1 (u32 (x.bT+1)) (.ret ({x with bT:=u32 (x.bT+1)},0))) st st4 from HR4.out.same (by show (if(true:Bool)=false then _ else _)=_;rw[if_neg dZ]));clear HR4;go_wp2_with fail
  refine(Ki bb kk HA4.out.run.rm HF4.out hB hbb0 hbb1 hk0 hk1).mono ?_;rintro e w5 ⟨xr,go5,rfl,hr5,ha5,hans⟩;have HA5:=hJ (HA4.out.access hr5 ha5);have HF5:=hJ (fu (jM bb kk) st4 HF4.out);have hq:=HR5.out.bind HF4.out (k:=xr) hans;obtain⟨st5,hst5⟩:∃ st5,st5=((jM bb kk).on st4).2:=⟨_,rfl⟩;rw[<- hst5] at HA5 HF5 hq;obtain⟨xp,xi,xl,xt⟩:=xr;have HR6:=hJ hq;rw[show wS ⟨xp,xi,xl,xt⟩=#[.int .u32 xp,.int .u32 xi,.int .u32 xl,.int .u32 xt] from rfl];clear hr5 ha5 hans hq hst5 HA4 HF4 HR5;have htf:=Da w5 xp xi xl xt;by_cases ht:xt=0
  ·have b2:(xt != 0)=false:=by simpa using ht
   have HR7:=hJ (HR6.out.same (if_neg (by show ¬ xt≠0;simpa using ht)));subst ht;clear HR6;obtain⟨v,hv⟩:∃ v,v=u32 (x.bT+1):=⟨_,rfl⟩;have hg5:=HArgs.out w5 (fun k h1 h2=>HA5.out.run.adv.mod.block k h1 h2);have HNx:=hJ (BR w5 ga oa 1 gc x (by rw[HSegs.out];rfl) oZ hg5);rw[<- hv] at HNx HR7;have HV:=hJ hv;clear hv hg5
   go_wp2_with (first
    | (refine yZ rfl 46 (.tmp 6) rfl (w.heap.size+1) rfl 46 (aO (.slice (some ⟨ga,oa,none⟩) 1 gc) x) (0,0) _ (HA5.out.get (k:=w.heap.size+1) (c:=(aO (.slice (some ⟨ga,oa,none⟩) 1 gc) x)) (t:=46) sZ) Tryz.underlying46 rfl (aK _ _) ?_)
    | fail)
   refine HNx.out.mono ?_;rintro e w6 ⟨so,sc,rfl,hown,hb⟩;obtain⟨LS,hLS,hOw⟩:=zX hown;have HA6:=hJ ((HA5.out.below hb).all (LB:=LS) (fun y hy=>by obtain⟨h1,h2,h3⟩:=hLS y hy;exact⟨h1,Nat.le_trans HA5.out.run.adv.mod.size h2,by rw[h3];decide⟩));have HSz:=hJ (show w.heap.size<=w5.heap.size from HA5.out.run.adv.mod.size);have HOw:=hJ hOw;have HLS:=hJ (show ∀ y∈LS,y.2.2=65 from fun y hy=>(hLS y hy).2.2);clear hown hb HNx hLS hOw HA5;obtain⟨x1,hx1⟩:∃ x1:Sx,x1={x with bT:=v}:=⟨_,rfl⟩;rw[<- hx1];have HX1:=hJ hx1;clear hx1;have hM6:(w.heap.size+1,(aO (.slice (some ⟨ga,oa,none⟩) 1 gc) x),46)∈LS++[(w.heap.size,(au (dd:Int) tt ss bk rm kf bf),25),(w.heap.size+1,(aO (.slice (some ⟨ga,oa,none⟩) 1 gc) x),46),(w.heap.size+1+1,(aO (.slice none 0 0) aJ),46)]:=sZ;have H6:=hJ (HA6.out.get hM6)
   go_upto_region 5 with (first
    | (refine zZ rfl 46 (.tmp 6) (.tmp 34) rfl (w.heap.size+1) (aO (.slice so 1 sc) x1) rfl rfl 46 (aO (.slice (some ⟨ga,oa,none⟩) 1 gc) x) H6.out (aK _ _) rfl (dL _ _ _ _) ?_)
    | fail)
   have hT:=(HA6.out.turn (L':=LS++[(w.heap.size+1+1,(aO (.slice none 0 0) aJ),46)]) H6.out oZ dZ (bB.setRow (S:=fun j=>j=w.heap.size+1) (bB.refl _ _) (.inr rfl) (aO (.slice so 1 sc) x1)) (fun y hy=>by
    rcases List.mem_append.1 hy with h | h
    ·exact⟨List.mem_append_left _ h,HA6.out.ne (List.mem_append_left _ h) hM6 (by rw[HLS.out y h];dsimp only;decide)⟩
    ·have h:=List.mem_singleton.1 h;subst h;exact⟨sZ,by show w.heap.size+1+1≠w.heap.size+1;omega⟩)).add (setRow_heap _ _ _ _ _ _ H6.out) oZ (by show (46:TypeId)≠32;decide)
   obtain⟨w7,hw7⟩:∃ w7,w7=w6.setRow (w.heap.size+1) (aO (.slice so 1 sc) x1):=⟨_,rfl⟩;rw[<- hw7] at hT;rw[show w6.setRow (w.heap.size+1) (aO (.slice so 1 sc) x1)=w7 from hw7.symm];have HA7:=hJ hT;clear hT hw7 hM6 H6 HA6
   have c62:w7.cell? ⟨w.heap.size+1,2,none⟩=some (.int .u32 v):=by
    rw[show v=x1.bT from by rw[HX1.out]];exact aa (HA7.out.get (k:=w.heap.size+1) (c:=aO (.slice so 1 sc) x1) (t:=46) sZ) 2
   go_wp2_with fail
   refine(Hq bb kk v HA7.out.run.rm HF5.out hB hbb0 hbb1 hk0 hk1 (by rw[HV.out];exact qy _)).mono ?_;rintro e w8 ⟨go8,rfl,hr8,ha8⟩;have HA8:=hJ (HA7.out.access hr8 ha8);have hq:=HR7.out.bind HF5.out (k:=()) (fun _ _=>rfl);have hf8:=fu (rF bb kk v) st5 HF5.out;obtain⟨st8,hst8⟩:∃ st8,st8=((rF bb kk v).on st5).2:=⟨_,rfl⟩;rw[<- hst8] at HA8 hq hf8;have HR8:=hJ hq;have HF8:=hJ hf8;clear hr8 ha8 hq hf8 hst8 HA7 HF5 HR7 c62
   have c62:w8.cell? ⟨w.heap.size+1,2,none⟩=some (.int .u32 v):=by
    rw[show v=x1.bT from by rw[HX1.out]];exact aa (HA8.out.get (k:=w.heap.size+1) (c:=aO (.slice so 1 sc) x1) (t:=46) sZ) 2
   go_wp2_with fail
   refine(run_store HA8.out.run.rm hB HF8.out.ok 1 v).mono ?_;rintro e w9 ⟨rfl,go9,hr9,ha9⟩;clear c62;have hq:=HR8.out.store HF8.out;rw[u32_in (show U v by rw[HV.out];exact qy _)] at hq;have HE:=hJ hq.ret;have HA9:=hJ (HA8.out.access hr9 ha9);clear hr9 ha9 hq HA8 HR8;have HRs:=hJ (HA9.out.get (k:=w.heap.size+1+1) (c:=(aO (.slice none 0 0) aJ)) (t:=46) sZ)
   go_wp2_with (first
    | (refine yZ rfl 46 (.tmp 6) rfl (w.heap.size+1) rfl 46 (aO (.slice so 1 sc) x1) (0,0) _ (HA9.out.get (k:=w.heap.size+1) (c:=aO (.slice so 1 sc) x1) (t:=46) sZ) Tryz.underlying46 rfl (aK _ _) ?_)
    | (refine zZ rfl 46 (.tmp 8) (.tmp 45) rfl (w.heap.size+1+1) (aO (.slice so 1 sc) x1) rfl rfl 46 (aO (.slice none 0 0) aJ) HRs.out (aK _ _) rfl (dL _ _ _ _) ?_)
    | fail)
   refine tZ (v:=.tuple #[.agg (aO (.slice so 1 sc) x1),.int .i64 0]) (di rfl _ _ (w.heap.size+1+1) _ _ (0,0) _ _ rfl rfl (setRow_heap _ _ _ _ _ _ HRs.out) Tryz.underlying46 rfl (aK _ _)) rfl ?_;have hE:=HE.out;unfold fw at hE;refine fQ.good (st':=st8.store 1 v) (HA9.out.turn (L':=[]) HRs.out oZ dZ (bB.setRow (S:=fun j=>j=w.heap.size+1+1) (bB.refl _ _) (.inr rfl) _) sZ).run hE.1 (fun y hy=>?_) ?_ (by rw[HX1.out];show 1=x.aC.length;rw[HSegs.out];rfl)
   ·rw[hE.2 y hy,HX1.out];exact⟨rfl,rfl,rfl⟩
   ·rw[HX1.out];show bn _ _ _ x.aC;exact zq (HOw.out _ fun y hy=>(qZ _ _ _ _ (HA9.out.ne (y:=(w.heap.size+1+1,(aO (.slice none 0 0) aJ),46)) (by simp[hy]) sZ (by rw[HLS.out y hy];dsimp only;decide))).trans (HA9.out.keep y (by simp[hy])).1) HSz.out
  ·have b2:(xt != 0)=true:=by simpa using ht
   have HE:=hJ ((HR6.out.same (q':=.ret (aJ,7)) (by show (if xt≠0 then _ else _)=_;rw[if_pos ht])).ret);clear HR6;have HRs:=hJ (HA5.out.get (k:=w.heap.size+1+1) (c:=(aO (.slice none 0 0) aJ)) (t:=46) sZ)
   go_wp2_with (first
    | (refine zZ rfl 46 (.tmp 8) (.tmp 32) rfl (w.heap.size+1+1) (aO (.slice none 0 0) aJ) rfl rfl 46 (aO (.slice none 0 0) aJ) HRs.out (aK _ _) rfl (dL _ _ _ _) ?_)
    | fail)
   refine tZ (v:=.tuple #[.agg (aO (.slice none 0 0) aJ),.int .i64 7]) (di rfl _ _ (w.heap.size+1+1) _ _ (0,0) _ _ rfl rfl (setRow_heap _ _ _ _ _ _ HRs.out) Tryz.underlying46 rfl (aK _ _)) rfl ?_;exact fQ.bad (HA5.out.turn (L':=[]) HRs.out oZ dZ (bB.setRow (S:=fun j=>j=w.heap.size+1+1) (bB.refl _ _) (.inr rfl) _) sZ).run HE.out dZ
structure PI (bo bx bs pw pe Wb wb eb:Nat) (oc CF xr:Array Value) (w:World):Prop where
 o:w.heap[bo]?=some (.cells oc 37 (0,0))
 x:w.heap[bx]?=some (.cells #[.pointer (some ⟨Wb,0,none⟩)] 27 (0,0))
 W:∃ WC,w.heap[Wb]?=some (.cells WC 51 (0,0))/\∀ (j:Nat) (v:Value),CF.toList[j]?=some v->WC[0+j]?=some v
 s:w.heap[bs]?=some (.cells xr 46 (0,0))
 p:w.heap[pw]?=some (.cells #[.pointer (some ⟨wb,0,none⟩)] 55 (0,0))
 q:w.heap[pe]?=some (.cells #[.pointer (some ⟨eb,0,none⟩)] 56 (0,0))
theorem PI.keep {bo bx bs pw pe Wb wb eb:Nat} {oc CF xr:Array Value} {w w':World} (h:PI bo bx bs pw pe Wb wb eb oc CF xr w) (hk:∀ k∈[bo,bx,bs,pw,pe,Wb],k<w.heap.size->w'.heap[k]?=w.heap[k]?):PI bo bx bs pw pe Wb wb eb oc CF xr w':=by
 obtain⟨WC,hW,hC⟩:=h.W;exact⟨(hk bo sZ (lt_of_heap h.o)).trans h.o,(hk bx sZ (lt_of_heap h.x)).trans h.x,⟨WC,(hk Wb sZ (lt_of_heap hW)).trans hW,hC⟩,(hk bs sZ (lt_of_heap h.s)).trans h.s,(hk pw sZ (lt_of_heap h.p)).trans h.p,(hk pe sZ (lt_of_heap h.q)).trans h.q⟩
def S2 (wb eb:Nat) (k:Nat):Prop:=k=wb∨k=eb
def Bv (w:World) (rb mb cb:Nat) (go:Option Nat) (bo bx bs pw pe Wb wb eb:Nat) (oc CF xr:Array Value) (t:Pr oM) (st:St) (e:Ending) (w':World):Prop :=
 e=.returned (.tuple #[])/\∃ so sn sc y er go',ik (S2 wb eb) w rb mb cb go (t.on st).2 go' w'/\PI bo bx bs pw pe Wb wb eb oc CF xr w'/\w'.heap[wb]?=some (.cells (aO (.slice so sn sc) y) 46 (0,0))/\w'.heap[eb]?=some (.cells #[.int .i64 er] 52 (0,0))/\bn w' w.heap.size (.slice so sn sc) y.aC/\sn=y.aC.length/\∀ z,(t.on st).1=some z->z.2=er/\(er=0->aO (.slice so sn sc) z.1=aO (.slice so sn sc) y/\z.1.aC=y.aC)
theorem Ht {w:World} {rb mb cb:Nat} {go:Option Nat} {st:St} {Bd:Nat} {dd:Nat} {tt:Int} {ss:Nat->Int} {bk rm:Int} {kf bf:Nat} {a:Int} (ha0:0<=a) (ha1:a<=59000)
  {x:Sx} {nd:Nat} (hsegs:x.aC=[(a,(nd:Int),false)]) (hnd:nd<=60000) (hver:U x.bT) (id:Int) (og:Option Addr) (gc:Nat)
  (hrm:RM w rb mb cb go true st) (hf:st.dO Bd) (hB:Bd<1000000000) (hoff:st.off=false) {bo bx bs pw pe Wb wb eb:Nat}
  (hArgs:∀ wr:World,(∀ k,k<w.heap.size->¬ fD rb mb cb go k->¬ S2 wb eb k->wr.heap[k]?=w.heap[k]?)->eH wr og x.aC)
  {oc:Array Value} (hoc0:oc[0]?=some (.bool true)) (hoc:oc[1]?=some (.int .u32 id)) (hI:PI bo bx bs pw pe Wb wb eb oc (au (dd:Int) tt ss bk rm kf bf) (aO (.slice og 1 gc) x) w) (hD:∀ k∈[bo,bx,bs,pw,pe,Wb],k≠wb/\k≠eb/\¬ fD rb mb cb go k) (hwe:wb≠eb) (hwf:¬ fD rb mb cb go wb/\¬ fD rb mb cb go eb) (hw8:∃ c8,w.heap[wb]?=some (.cells c8 46 (0,0))/\c8.size=9) (he8:∃ v8,w.heap[eb]?=some (.cells #[v8] 52 (0,0))) :
  Calls Tryz.prog 54 #[.pointer (some ⟨rb,0,none⟩),.pointer (some ⟨bo,0,none⟩),.pointer (some ⟨bx,0,none⟩),.pointer (some ⟨bs,0,none⟩),.pointer (some ⟨pw,0,none⟩),.pointer (some ⟨pe,0,none⟩)] w fun e w'=>Bv w rb mb cb go bo bx bs pw pe Wb wb eb oc (au (dd:Int) tt ss bk rm kf bf) (aO (.slice og 1 gc) x) (mE id x) st e w':=by
 have HSegs:=hJ hsegs;have HVer:=hJ hver;have HF:=hJ hf;have HOff:=hJ hoff;have HArgs:=hJ hArgs;have HOc:=hJ hoc;have HD:=hJ hD;have HWe:=hJ hwe;have HWf:=hJ hwf;have HI:=hJ hI;have HW8:=hJ hw8;have HE8:=hJ he8
 have HRun:=hJ (ik.start (S:=S2 wb eb) hrm (fun k hk=>by
  obtain⟨c8,hc8,_⟩:=hw8;obtain⟨v8,hv8⟩:=he8;rcases hk with rfl | rfl
  ·exact⟨hwf.1,lt_of_heap hc8⟩
  ·exact⟨hwf.2,lt_of_heap hv8⟩))
 have c0:w.cell? ⟨bo,0,none⟩=some (.bool true):=(aa hI.o 0).trans hoc0;clear hsegs hver hf hoff hArgs hoc hoc0 hD hwe hwf hI hw8 he8 hrm;go_enter Tryz.func54,Tryz.ntmps54
 go_upto_region 1 with fail
 clear c0
 refine aI (fun(p:Sx×Option Addr×Nat×Nat×Int×Option Nat) jz=>[.pointer (some ⟨wb,0,none⟩),.pointer (some ⟨eb,0,none⟩),.pointer (some ⟨rb,0,none⟩),.pointer (some ⟨Wb,0,none⟩),.pointer (some ⟨Wb,0,none⟩),.pointer (some ⟨Wb,0,none⟩),.agg (au (dd:Int) tt ss bk rm kf bf),.agg (aO (.slice og 1 gc) x),.pointer (some ⟨bo,1,none⟩),.pointer (some ⟨bo,1,none⟩),.int .u32 id,.tuple #[.agg (aO (.slice p.2.1 p.2.2.1 p.2.2.2.1) p.1),.int .i64 p.2.2.2.2.1],.tuple #[.agg (aO (.slice p.2.1 p.2.2.1 p.2.2.2.1) p.1),.int .i64 p.2.2.2.2.1],.agg (aO (.slice p.2.1 p.2.2.1 p.2.2.2.1) p.1),.int .i64 p.2.2.2.2.1,.pointer (some ⟨wb,0,none⟩),undef,.pointer (some ⟨eb,0,none⟩),undef].getD jz undef)
  (fun p l_ wx=>PI bo bx bs pw pe Wb wb eb oc (au (dd:Int) tt ss bk rm kf bf) (aO (.slice og 1 gc) x) wx/\(l_ 11=false->ik (S2 wb eb) w rb mb cb go st go wx)/\(l_ 11=true->ik (S2 wb eb) w rb mb cb go ((mE id x).on st).2 p.2.2.2.2.2 wx/\bn wx w.heap.size (.slice p.2.1 p.2.2.1 p.2.2.2.1) p.1.aC/\p.2.2.1=p.1.aC.length/\∀ y,((mE id x).on st).1=some y->y.2=p.2.2.2.2.1/\(p.2.2.2.2.1=0->aO (.slice p.2.1 p.2.2.1 p.2.2.2.1) y.1=(aO (.slice p.2.1 p.2.2.1 p.2.2.2.1) p.1)/\y.1.aC=p.1.aC))/\(∃ c8,wx.heap[wb]?=some (.cells c8 46 (0,0))/\c8.size=9/\(l_ 16=true->c8=(aO (.slice p.2.1 p.2.2.1 p.2.2.2.1) p.1)))/\(∃ v8,wx.heap[eb]?=some (.cells #[v8] 52 (0,0))/\(l_ 18=true->v8=.int .i64 p.2.2.2.2.1)))
  kZ kZ pZ (aJ,none,0,0,0,none) ?_ ?_ ?_
 ·obtain⟨c8,hc8,hs8⟩:=HW8.out;obtain⟨v8,hv8⟩:=HE8.out;exact⟨HI.out.keep (fun _ _ _=>rfl),fun _=>HRun.out.below (Below.refl _ _).drew,(fun h=>by cases h),⟨c8,hc8,hs8,(fun h=>by cases h)⟩,⟨v8,hv8,(fun h=>by cases h)⟩⟩
 ·intro i o ho p l_ wx hR hl he hcl K hK;rcases i with _|_|_|_|_|_|_|_|_|_|_|_|_|_|_|_|_|_|_|i
  any_goals first | (cases ho;go_simp;exact hK p wx (fun _ _=>rfl) hR;done) | fail
  ·cases ho;have q:=(show wx.cell? ⟨pw,0,none⟩=_ from aa hR.1.p 0);go_simp;exact hK p wx (fun _ _=>rfl) hR
  ·cases ho;have q:=(show wx.cell? ⟨pe,0,none⟩=_ from aa hR.1.q 0);go_simp;exact hK p wx (fun _ _=>rfl) hR
  ·cases ho;have q:=(show wx.cell? ⟨bx,0,none⟩=_ from aa hR.1.x 0);go_simp;exact hK p wx (fun _ _=>rfl) hR
  ·cases ho;obtain⟨WC,hWC,hWf⟩:=hR.1.W;refine aR 25 (.tmp 15) rfl Wb 0 rfl 51 WC (au (dd:Int) tt ss bk rm kf bf) (0,0) _ hWC hWf Tryz.underlying25 rfl (dQ _ _ _ _ _ _ _) ?_;exact hK p wx (fun _ _=>rfl) hR
  ·cases ho;refine wp_load_row 46 (.tmp 3) rfl bs rfl 46 (aO (.slice og 1 gc) x) (0,0) _ hR.1.s Tryz.underlying46 rfl (aK _ _) ?_;exact hK p wx (fun _ _=>rfl) hR
  ·cases ho;have q:=(show wx.cell? ⟨bo,1,none⟩=some (.int .u32 id) from(aa hR.1.o 1).trans HOc.out);go_simp;exact hK p wx (fun _ _=>rfl) hR
  ·cases ho;have hrun:=hR.2.1 hl
   have h16:l_ 16=false:=by
    cases h:l_ 16 with
    | false=>rfl
    | true=>exact absurd (hcl 12 _ rfl (hcl 13 _ rfl (hcl 16 _ rfl h ⟨13,.data⟩ sZ rfl) ⟨12,.data⟩ sZ rfl) ⟨11,.data⟩ sZ rfl) lZ
   have h18:l_ 18=false:=by
    cases h:l_ 18 with
    | false=>rfl
    | true=>exact absurd (hcl 12 _ rfl (hcl 14 _ rfl (hcl 18 _ rfl h ⟨14,.data⟩ sZ rfl) ⟨12,.data⟩ sZ rfl) ⟨11,.data⟩ sZ rfl) lZ
   obtain⟨c8,hc8,hs8,_⟩:=hR.2.2.2.1;obtain⟨v8,hv8,_⟩:=hR.2.2.2.2;go_simp;refine(Jg ha0 ha1 HSegs.out hnd HVer.out id og gc hrun.rm HF.out hB HOff.out (fun wr h=>HArgs.out wr (fun k h1 h2 h3=>(h k (Nat.lt_of_lt_of_le h1 hrun.size) h2).trans (hrun.keeps h1 h3 h2)))).mono ?_;rintro e w2 ⟨so,sn,sc,y,er,go2,rfl,hr2,ha2,ho2,hn2,hans2⟩;refine hK (y,so,sn,sc,er,go2) w2 (fun j hj=>?_) ⟨hR.1.keep (fun k hk hlt=>ha2.mod.block k hlt (HD.out k hk).2.2),(fun h=>by cases h),fun _=>⟨hrun.access hr2 ha2,zq ho2 hrun.size,hn2,hans2⟩,⟨c8,(ha2.mod.block _ (lt_of_heap hc8) HWf.out.1).trans hc8,hs8,fun h=>absurd h (by show ¬ l_ 16=true;rw[h16];decide)⟩,⟨v8,(ha2.mod.block _ (lt_of_heap hv8) HWf.out.2).trans hv8,fun h=>absurd h (by show ¬ l_ 18=true;rw[h18];decide)⟩⟩;rcases j with _|_|_|_|_|_|_|_|_|_|_|_|_|_|_|_|_|_|_|j
   all_goals first | rfl | (rw[hl] at hj;cases hj) | (exact absurd (hcl 12 _ rfl hj ⟨11,.data⟩ sZ rfl) lZ) | (exact absurd (hcl 12 _ rfl (hcl 13 _ rfl hj ⟨12,.data⟩ sZ rfl) ⟨11,.data⟩ sZ rfl) lZ) | (exact absurd (hcl 12 _ rfl (hcl 14 _ rfl hj ⟨12,.data⟩ sZ rfl) ⟨11,.data⟩ sZ rfl) lZ)
  ·cases ho;have h13:l_ 13=true:=he ⟨13,.data⟩ sZ rfl;have h11:l_ 11=true:=hcl 12 _ rfl (hcl 13 _ rfl h13 ⟨12,.data⟩ sZ rfl) ⟨11,.data⟩ sZ rfl;obtain⟨hrun,ho2,hn2,hans2⟩:=hR.2.2.1 h11;obtain⟨c8,hc8,hs8,_⟩:=hR.2.2.2.1;obtain⟨v8,hv8,hv⟩:=hR.2.2.2.2;refine wp_store_row 46 (.tmp 24) (.tmp 22) rfl wb (aO (.slice p.2.1 p.2.2.1 p.2.2.2.1) p.1) rfl rfl 46 c8 hc8 (aK _ _) (by rw[hs8];rfl) (dL _ _ _ _) ?_;exact hK p _ (fun _ _=>rfl) ⟨hR.1.keep (fun k hk _=>qZ _ _ _ _ (HD.out k hk).1),fun h=>absurd h11 (by rw[show l_ 11=false from h];decide),fun _=>⟨hrun.turn hc8 (.inl (.inl rfl)) dZ (bB.setRow (S:=fun j=>j=wb) (bB.refl _ _) (.inr rfl) _),bn.keep ho2 hc8 dZ (fun j hj=>qZ _ _ _ _ hj),hn2,hans2⟩,⟨(aO (.slice p.2.1 p.2.2.1 p.2.2.2.1) p.1),setRow_heap _ _ _ _ _ _ hc8,rfl,fun _=>rfl⟩,⟨v8,(qZ _ _ _ _ (Ne.symm HWe.out)).trans hv8,hv⟩⟩
  ·cases ho;have h14:l_ 14=true:=he ⟨14,.data⟩ sZ rfl;have h11:l_ 11=true:=hcl 12 _ rfl (hcl 14 _ rfl h14 ⟨12,.data⟩ sZ rfl) ⟨11,.data⟩ sZ rfl;obtain⟨hrun,ho2,hn2,hans2⟩:=hR.2.2.1 h11;obtain⟨c8,hc8,hs8,hc⟩:=hR.2.2.2.1;obtain⟨v8,hv8,_⟩:=hR.2.2.2.2;have q:wx.cell? ⟨eb,0,none⟩=some v8:=aa hv8 0;have f:wx.frozen? ⟨eb,0,none⟩=false:=free_at hv8 0;have HN2:=hJ (And.intro hn2 hans2);have HR1:=hJ hR.1;have H11:=hJ h11;clear hn2 hans2 hR h11;go_simp;exact hK p (wx.setCell ⟨eb,0,none⟩ (.int .i64 p.2.2.2.2.1)) (fun _ _=>rfl) ⟨HR1.out.keep (fun k hk _=>Below.heap_setCell _ _ _ _ (HD.out k hk).2.1),fun h=>absurd H11.out (by rw[show l_ 11=false from h];decide),fun _=>⟨hrun.turn hv8 (.inl (.inr rfl)) dZ (bB.setCell (S:=fun j=>j=eb) (bB.refl _ _) (.inr rfl) _),bn.keep ho2 hv8 dZ (fun j hj=>Below.heap_setCell _ _ _ _ hj),HN2.out.1,HN2.out.2⟩,⟨c8,(Below.heap_setCell _ _ _ _ HWe.out).trans hc8,hs8,hc⟩,⟨.int .i64 p.2.2.2.2.1,(show (wx.setCell ⟨eb,0,none⟩ (.int .i64 p.2.2.2.2.1)).heap[eb]?=some (.cells #[.int .i64 p.2.2.2.2.1] 52 (0,0)) from heap_setCell_same _ _ _ _ _ _ hv8),fun _=>rfl⟩⟩
  ·simp at ho
 ·intro p lz wx hl hR;obtain⟨hrun,ho2,hn2,hans2⟩:=hR.2.2.1 (hl 11 dZ);obtain⟨c8,hc8,hs8,hc⟩:=hR.2.2.2.1;obtain⟨v8,hv8,hv⟩:=hR.2.2.2.2;have hc:=hc (hl 16 dZ);have hv:=hv (hl 18 dZ);subst hc;subst hv;have HE:=hJ (And.intro hrun (And.intro hR.1 (And.intro hc8 (And.intro hv8 (And.intro ho2 (And.intro hn2 hans2))))));clear hR hl hrun hc8 hv8 ho2 hn2 hans2 hs8;go_wp2_with fail
  go_end0
  exact⟨rfl,_,_,_,_,_,_,HE.out⟩
theorem FU {w:World} {b c:Nat} {cs:List Int} {l s:Int} (hM:bD w b c cs l s) (dd tt:Int) (ss:Nat->Int) (bk rm:Int) (kf bf:Nat) (hok:ek dd tt ss bk rm) {B S:Nat->Int} {T:Int} {n ln:Nat} (hpl:ae (aA (aB ss bk rm)) (aB ss bk rm) (aA (aB ss bk rm) 6) (slotsOf tt) (bN dd tt)=ae B S (n:Int) T (ln:Int))
  (hcs:cs.length=n) (hln:1<=ln/\ln<=100000) (hfull:S 5<(ln:Int)+2) (hS0:0<=S 5) (hS:S 5<=1000000) (hb5:0<=B 5/\B 5<=1000000) :
  Calls Tryz.prog 35 #[.pointer (some ⟨b,0,none⟩),.agg (au dd tt ss bk rm kf bf)] w fun e w'=>e=.returned (.tuple #[.agg (aO (.slice none 0 0) aJ),.int .i64 3])/\Below w.heap.size w w':=by
 have HLy:=hJ (fun w=>Dn w dd tt ss bk rm kf bf hok);rw[hpl] at HLy;have HCs:=hJ hcs;have HBC:=hJ (show b<w.heap.size/\c<w.heap.size from⟨lt_of_heap hM.rec_,lt_of_heap hM.row⟩);have HM:=hJ hM;clear hok hpl hM hcs;go_enter Tryz.func35,Tryz.ntmps35
 go_upto_region 1 with fail
 have hb0:Below w.heap.size w ((w.alloc (.cells (au dd tt ss bk rm kf bf) 25)).alloc (.cells (aO (.slice none 0 0) aJ) 46)):=aj.alloc sZ _;have hc0:((w.alloc (.cells (au dd tt ss bk rm kf bf) 25)).alloc (.cells (aO (.slice none 0 0) aJ) 46)).heap[w.heap.size]?=some (.cells (au dd tt ss bk rm kf bf) 25 (0,0)):=(Below.heap_alloc _ _ _ sZ).trans (nZ w _)
 have hz0:((w.alloc (.cells (au dd tt ss bk rm kf bf) 25)).alloc (.cells (aO (.slice none 0 0) aJ) 46)).heap[w.heap.size+1]?=some (.cells (aO (.slice none 0 0) aJ) 46 (0,0)):=by
  have:=nZ (w.alloc (.cells (au dd tt ss bk rm kf bf) 25)) (.cells (aO (.slice none 0 0) aJ) 46);simpa using this
 obtain⟨w0,hw0⟩:∃ w0,w0=((w.alloc (.cells (au dd tt ss bk rm kf bf) 25)).alloc (.cells (aO (.slice none 0 0) aJ) 46)):=⟨_,rfl⟩;rw[show (w.alloc (.cells (au dd tt ss bk rm kf bf) 25)).alloc (.cells #[.slice none 0 0,.int .i64 0,.int .u32 0,.int .i64 0,.int .i64 0,.int .i64 0,.int .i64 0,.int .i64 0,.int .i64 0] 46)=w0 from hw0.symm];rw[<- hw0] at hb0 hc0 hz0;have HC:=hJ hc0;have HZ:=hJ hz0;have HM:=hJ (HM.out.below hb0);have HB:=hJ hb0;clear hw0 hb0 hc0 hz0
 go_wp2_with (first
  | (refine yZ rfl 25 (.tmp 3) rfl w.heap.size rfl 25 (au dd tt ss bk rm kf bf) (0,0) _ HC.out Tryz.underlying25 rfl (dQ _ _ _ _ _ _ _) ?_)
  | fail)
 refine(HLy.out _).mono ?_;rintro e w1 ⟨rfl,hb⟩;have HM:=hJ (HM.out.below hb);have HB:=hJ (ag HB.out hb);have HZ:=hJ ((hb.block _ (lt_of_heap HZ.out)).trans HZ.out);clear hb HLy HC
 go_upto_region 2 with (first
  | (refine zZ rfl 42 (.tmp 6) (.tmp 14) rfl w1.heap.size (ae B S (n:Int) T (ln:Int)) rfl rfl 42 (ae (fun _=>0) (fun _=>0) 0 0 0) (nZ w1 _) (ai _ _ _ _ _) (pW _ _ _ _ _ _ _ _ _ _) (gB _ _ _ _ _) ?_)
  | fail)
 rw[World.setRow_alloc_new];have hb:=aj (w:=w1) (A:=.cells (ae B S (n:Int) T (ln:Int)) 42);have HQ:=hJ (nZ w1 (.cells (ae B S (n:Int) T (ln:Int)) 42));have HM:=hJ (HM.out.below hb);have HB:=hJ (ag HB.out hb);have HZ:=hJ ((hb.block _ (lt_of_heap HZ.out)).trans HZ.out);generalize w1.alloc (.cells (ae B S (n:Int) T (ln:Int)) 42)=w2 at HQ HM HB HZ ⊢;obtain⟨q,hq⟩:∃ q,q=w1.heap.size:=⟨_,rfl⟩;rw[<- hq] at HQ ⊢;clear hb hq;have C12:=hJ (show w2.cell? ⟨q,12,none⟩=some (.int .i64 (n:Int)) from aa HQ.out 12);go_upto_region 4 with fail
 refine aI (fun(p:Unit) jz=>[.pointer (some ⟨b,0,none⟩),.int .i64 (n:Int),.pointer (some ⟨q,12,none⟩),.int .i64 (n:Int),.bool false].getD jz undef)
  (fun p l wx=>Below w2.heap.size w2 wx)
  kZ kZ pZ () ?_ ?_ ?_
 ·exact(Below.refl _ _).drew
 ·intro i o ho p l wx hR hl he hcl K hK;rcases i with _|_|_|_|_|i
  any_goals first | (cases ho;go_simp;exact hK () wx (fun _ _=>rfl) hR;done) | fail
  ·cases ho;go_simp;refine(uV (HM.out.below hR)).mono ?_;rintro e w' ⟨he,rfl⟩;rw[HCs.out] at he;subst he;exact hK () wx (fun _ _=>rfl) hR
  ·cases ho;have q:=az C12.out hR;go_simp;exact hK () wx (fun _ _=>rfl) hR
  ·simp at ho
 ·intro p lz wx hl hR;have HM:=hJ (HM.out.below hR);have HB:=hJ (ag HB.out hR);have HZ:=hJ ((hR.block _ (lt_of_heap HZ.out)).trans HZ.out);have HQ:=hJ ((hR.block _ (lt_of_heap HQ.out)).trans HQ.out);clear hR hl C12;have cl:wx.cell? ⟨q,14,none⟩=some (.int .i64 (ln:Int)):=aa HQ.out 14;by_cases hf1:S 5<(ln:Int)
  ·have HT1:=hJ (oh wx B S (fun _=>0) (n:Int) T (ln:Int) (ln:Int) 5 oZ oZ dZ (by show (0:Int)<=S 5;omega) hS (by show S 5-0<(ln:Int);omega))
   go_wp2_with (first
    | (refine yZ rfl 42 (.tmp 6) rfl q rfl 42 (ae B S (n:Int) T (ln:Int)) (0,0) _ HQ.out Tryz.underlying42 rfl (ai _ _ _ _ _) ?_)
    | fail)
   refine HT1.out.mono ?_;rintro e w4 ⟨rfl,hb⟩;have HB:=hJ (ag HB.out hb);have HZ:=hJ ((hb.block _ (lt_of_heap HZ.out)).trans HZ.out);clear hb HT1 cl
   go_upto_region 7 with (first
    | (refine zZ rfl 40 (.tmp 9) (.tmp 33) rfl w4.heap.size (six fun _=>0) rfl rfl 40 (six fun _=>0) (nZ w4 _) (af _) (aS _ _) (aQ _) ?_)
    | fail)
   rw[World.setRow_alloc_new];have hb:=aj (w:=w4) (A:=.cells (six fun _=>0) 40);have HB:=hJ (ag HB.out hb);have HZ:=hJ ((hb.block _ (lt_of_heap HZ.out)).trans HZ.out);generalize w4.alloc (.cells (six fun _=>0) 40)=w5 at HB HZ ⊢;clear hb;have HZr:=hJ HZ.out
   go_wp2_with (first
    | (refine zZ rfl 46 (.tmp 4) (.tmp 37) rfl (w.heap.size+1) (aO (.slice none 0 0) aJ) rfl rfl 46 (aO (.slice none 0 0) aJ) HZr.out (aK _ _) rfl (dL _ _ _ _) ?_)
    | fail)
   refine tZ (v:=.tuple #[.agg (aO (.slice none 0 0) aJ),.int .i64 3]) (di rfl _ _ (w.heap.size+1) _ _ (0,0) _ _ rfl rfl (setRow_heap _ _ _ _ _ _ HZr.out) Tryz.underlying46 rfl (aK _ _)) rfl ?_;exact⟨rfl,below_setRow HB.out oZ _⟩
  ·skip
   have HT1:=hJ (om wx B S (fun _=>0) (n:Int) T (ln:Int) (ln:Int) 5 oZ oZ dZ (by show (0:Int)<=S 5;omega) hS (by show (ln:Int)<=S 5-0;omega) hb5.1 hb5.2);obtain⟨an,han⟩:∃ an,an=B 5+(fun _:Nat=>(0:Int)) 5:=⟨_,rfl⟩;rw[<- han] at HT1;clear han
   go_wp2_with (first
    | (refine yZ rfl 42 (.tmp 6) rfl q rfl 42 (ae B S (n:Int) T (ln:Int)) (0,0) _ HQ.out Tryz.underlying42 rfl (ai _ _ _ _ _) ?_)
    | fail)
   refine HT1.out.mono ?_;rintro e w4 ⟨rfl,hb⟩;clear HT1 cl;have HM:=hJ (HM.out.below hb);have HB:=hJ (ag HB.out hb);have HZ:=hJ ((hb.block _ (lt_of_heap HZ.out)).trans HZ.out);have HQ:=hJ ((hb.block _ (lt_of_heap HQ.out)).trans HQ.out);clear hb
   go_upto_region 7 with (first
    | (refine zZ rfl 40 (.tmp 9) (.tmp 33) rfl w4.heap.size (six (more (fun _=>0) 5 (ln:Int))) rfl rfl 40 (six fun _=>0) (nZ w4 _) (af _) (aS _ _) (aQ _) ?_)
    | fail)
   rw[World.setRow_alloc_new];have hb:=aj (w:=w4) (A:=.cells (six (more (fun _=>0) 5 (ln:Int))) 40);have H9:=hJ (nZ w4 (.cells (six (more (fun _=>0) 5 (ln:Int))) 40));have HM:=hJ (HM.out.below hb);have HB9:=hJ (show w.heap.size<=w4.heap.size from HB.out.size);have HB:=hJ (ag HB.out hb);have HZ:=hJ ((hb.block _ (lt_of_heap HZ.out)).trans HZ.out);have HQ:=hJ ((hb.block _ (lt_of_heap HQ.out)).trans HQ.out);generalize w4.alloc (.cells (six (more (fun _=>0) 5 (ln:Int))) 40)=w5 at H9 HM HB HZ HQ ⊢;obtain⟨q9,hq9⟩:∃ q9,q9=w4.heap.size:=⟨_,rfl⟩;rw[<- hq9] at H9 HB9 ⊢;clear hb hq9;have HT2:=hJ (oh w5 B S (more (fun _=>0) 5 (ln:Int)) (n:Int) T (ln:Int) 2 5 oZ oZ (by simp[more]) (by simp[more];omega) hS (by simp[more];omega))
   go_wp2_with (first
    | (refine yZ rfl 42 (.tmp 6) rfl q rfl 42 (ae B S (n:Int) T (ln:Int)) (0,0) _ HQ.out Tryz.underlying42 rfl (ai _ _ _ _ _) ?_)
    | (refine yZ rfl 40 (.tmp 9) rfl q9 rfl 40 (six (more (fun _=>0) 5 (ln:Int))) (0,0) _ H9.out Tryz.underlying40 rfl (af _) ?_)
    | fail)
   refine HT2.out.mono ?_;rintro e w6 ⟨rfl,hb⟩;have HB:=hJ (ag HB.out hb);have HZ:=hJ ((hb.block _ (lt_of_heap HZ.out)).trans HZ.out);have H9:=hJ ((hb.block _ (lt_of_heap H9.out)).trans H9.out);clear hb HT2 HQ
   go_upto_region 10 with (first
    | (refine zZ rfl 40 (.tmp 9) (.tmp 44) rfl q9 (six fun _=>0) rfl rfl 40 (six (more (fun _=>0) 5 (ln:Int))) H9.out (af _) (aS _ _) (aQ _) ?_)
    | fail)
   have hz9:w.heap.size+1≠q9:=fun e=>by
    have h1:=HZ.out;rw[e,H9.out] at h1;injection h1 with h1
    injection h1 with _ h3
    exact absurd h3 dZ
   have HZ:=hJ ((qZ _ _ _ (six fun _=>0) hz9).trans HZ.out);have HB:=hJ (below_setRow HB.out HB9.out (six fun _=>0));generalize w6.setRow q9 (six fun _=>0)=w7 at HZ HB ⊢;clear hz9 H9;have HZr:=hJ HZ.out
   go_wp2_with (first
    | (refine zZ rfl 46 (.tmp 4) (.tmp 48) rfl (w.heap.size+1) (aO (.slice none 0 0) aJ) rfl rfl 46 (aO (.slice none 0 0) aJ) HZr.out (aK _ _) rfl (dL _ _ _ _) ?_)
    | fail)
   refine tZ (v:=.tuple #[.agg (aO (.slice none 0 0) aJ),.int .i64 3]) (di rfl _ _ (w.heap.size+1) _ _ (0,0) _ _ rfl rfl (setRow_heap _ _ _ _ _ _ HZr.out) Tryz.underlying46 rfl (aK _ _)) rfl ?_;exact⟨rfl,below_setRow HB.out oZ _⟩
theorem Km {w:World} {b c:Nat} {cs:List Int} {l s:Int} (hM:bD w b c cs l s) (hs0:0<=s) (hs1:s<1000000) (dd tt:Int) (ss:Nat->Int) (bk rm:Int) (kf bf:Nat) (hok:ek dd tt ss bk rm) {B S:Nat->Int} {T:Int} {n ln an:Nat} (hpl:ae (aA (aB ss bk rm)) (aB ss bk rm) (aA (aB ss bk rm) 6) (slotsOf tt) (bN dd tt)=ae B S (n:Int) T (ln:Int))
  (hcs:cs.length=n) (hln:1<=ln/\ln<=100000) (hfit:(ln:Int)+2<=S 5) (hS:S 5<=1000000) (hn:n<=1000000) (hA:B 5=(an:Int)) (h3:3<=an) (hin:an+ln+2<=n) :
  Calls Tryz.prog 35 #[.pointer (some ⟨b,0,none⟩),.agg (au dd tt ss bk rm kf bf)] w fun e w'=>∃ sg,e=.returned (.tuple #[.agg (aO (.slice (some ⟨sg,0,none⟩) 1 1) (aY an ln)),.int .i64 0])/\bD w' b c (((cs.set (an+ln) 1).set (an+ln+1) (an:Int)).set 2 ((an+ln:Nat):Int)) l (s+1+1+1)/\bn w' w.heap.size (.slice (some ⟨sg,0,none⟩) 1 1) [((an:Int),0,false)]/\bB (fun k=>k=b∨k=c) w w':=by
 have HLy:=hJ (fun w=>Dn w dd tt ss bk rm kf bf hok);rw[hpl] at HLy;have HCs:=hJ hcs;have HBC:=hJ (show b<w.heap.size/\c<w.heap.size from⟨lt_of_heap hM.rec_,lt_of_heap hM.row⟩);have HM:=hJ hM;clear hok hpl hM hcs;go_enter Tryz.func35,Tryz.ntmps35
 go_upto_region 1 with fail
 have hb0:Below w.heap.size w ((w.alloc (.cells (au dd tt ss bk rm kf bf) 25)).alloc (.cells (aO (.slice none 0 0) aJ) 46)):=aj.alloc sZ _;have hc0:((w.alloc (.cells (au dd tt ss bk rm kf bf) 25)).alloc (.cells (aO (.slice none 0 0) aJ) 46)).heap[w.heap.size]?=some (.cells (au dd tt ss bk rm kf bf) 25 (0,0)):=(Below.heap_alloc _ _ _ sZ).trans (nZ w _)
 have hz0:((w.alloc (.cells (au dd tt ss bk rm kf bf) 25)).alloc (.cells (aO (.slice none 0 0) aJ) 46)).heap[w.heap.size+1]?=some (.cells (aO (.slice none 0 0) aJ) 46 (0,0)):=by
  have:=nZ (w.alloc (.cells (au dd tt ss bk rm kf bf) 25)) (.cells (aO (.slice none 0 0) aJ) 46);simpa using this
 obtain⟨w0,hw0⟩:∃ w0,w0=((w.alloc (.cells (au dd tt ss bk rm kf bf) 25)).alloc (.cells (aO (.slice none 0 0) aJ) 46)):=⟨_,rfl⟩;rw[show (w.alloc (.cells (au dd tt ss bk rm kf bf) 25)).alloc (.cells #[.slice none 0 0,.int .i64 0,.int .u32 0,.int .i64 0,.int .i64 0,.int .i64 0,.int .i64 0,.int .i64 0,.int .i64 0] 46)=w0 from hw0.symm];rw[<- hw0] at hb0 hc0 hz0;have HC:=hJ hc0;have HZ:=hJ hz0;have HM:=hJ (HM.out.below hb0);have HB:=hJ hb0;clear hw0 hb0 hc0 hz0
 go_wp2_with (first
  | (refine yZ rfl 25 (.tmp 3) rfl w.heap.size rfl 25 (au dd tt ss bk rm kf bf) (0,0) _ HC.out Tryz.underlying25 rfl (dQ _ _ _ _ _ _ _) ?_)
  | fail)
 refine(HLy.out _).mono ?_;rintro e w1 ⟨rfl,hb⟩;have HM:=hJ (HM.out.below hb);have HB:=hJ (ag HB.out hb);have HZ:=hJ ((hb.block _ (lt_of_heap HZ.out)).trans HZ.out);clear hb HLy HC
 go_upto_region 2 with (first
  | (refine zZ rfl 42 (.tmp 6) (.tmp 14) rfl w1.heap.size (ae B S (n:Int) T (ln:Int)) rfl rfl 42 (ae (fun _=>0) (fun _=>0) 0 0 0) (nZ w1 _) (ai _ _ _ _ _) (pW _ _ _ _ _ _ _ _ _ _) (gB _ _ _ _ _) ?_)
  | fail)
 rw[World.setRow_alloc_new];have hb:=aj (w:=w1) (A:=.cells (ae B S (n:Int) T (ln:Int)) 42);have HQ:=hJ (nZ w1 (.cells (ae B S (n:Int) T (ln:Int)) 42));have HM:=hJ (HM.out.below hb);have HB:=hJ (ag HB.out hb);have HZ:=hJ ((hb.block _ (lt_of_heap HZ.out)).trans HZ.out);generalize w1.alloc (.cells (ae B S (n:Int) T (ln:Int)) 42)=w2 at HQ HM HB HZ ⊢;obtain⟨q,hq⟩:∃ q,q=w1.heap.size:=⟨_,rfl⟩;rw[<- hq] at HQ ⊢;clear hb hq;have C12:=hJ (show w2.cell? ⟨q,12,none⟩=some (.int .i64 (n:Int)) from aa HQ.out 12);go_upto_region 4 with fail
 refine aI (fun(p:Unit) jz=>[.pointer (some ⟨b,0,none⟩),.int .i64 (n:Int),.pointer (some ⟨q,12,none⟩),.int .i64 (n:Int),.bool false].getD jz undef)
  (fun p l wx=>Below w2.heap.size w2 wx)
  kZ kZ pZ () ?_ ?_ ?_
 ·exact(Below.refl _ _).drew
 ·intro i o ho p l wx hR hl he hcl K hK;rcases i with _|_|_|_|_|i
  any_goals first | (cases ho;go_simp;exact hK () wx (fun _ _=>rfl) hR;done) | fail
  ·cases ho;go_simp;refine(uV (HM.out.below hR)).mono ?_;rintro e w' ⟨he,rfl⟩;rw[HCs.out] at he;subst he;exact hK () wx (fun _ _=>rfl) hR
  ·cases ho;have q:=az C12.out hR;go_simp;exact hK () wx (fun _ _=>rfl) hR
  ·simp at ho
 ·intro p lz wx hl hR;have HM:=hJ (HM.out.below hR);have HB:=hJ (ag HB.out hR);have HZ:=hJ ((hR.block _ (lt_of_heap HZ.out)).trans HZ.out);have HQ:=hJ ((hR.block _ (lt_of_heap HQ.out)).trans HQ.out);clear hR hl C12;have cl:wx.cell? ⟨q,14,none⟩=some (.int .i64 (ln:Int)):=aa HQ.out 14;have HT1:=hJ (om wx B S (fun _=>0) (n:Int) T (ln:Int) (ln:Int) 5 oZ oZ dZ (by show (0:Int)<=S 5;omega) hS (by show (ln:Int)<=S 5-0;omega) oZ oZ);rw[show B 5+(fun _:Nat=>(0:Int)) 5=(an:Int) by show B 5+0=_;omega] at HT1
  go_wp2_with (first
   | (refine yZ rfl 42 (.tmp 6) rfl q rfl 42 (ae B S (n:Int) T (ln:Int)) (0,0) _ HQ.out Tryz.underlying42 rfl (ai _ _ _ _ _) ?_)
   | fail)
  refine HT1.out.mono ?_;rintro e w4 ⟨rfl,hb⟩;clear HT1 cl;have HM:=hJ (HM.out.below hb);have HB:=hJ (ag HB.out hb);have HZ:=hJ ((hb.block _ (lt_of_heap HZ.out)).trans HZ.out);have HQ:=hJ ((hb.block _ (lt_of_heap HQ.out)).trans HQ.out);clear hb
  go_upto_region 7 with (first
   | (refine zZ rfl 40 (.tmp 9) (.tmp 33) rfl w4.heap.size (six (more (fun _=>0) 5 (ln:Int))) rfl rfl 40 (six fun _=>0) (nZ w4 _) (af _) (aS _ _) (aQ _) ?_)
   | fail)
  rw[World.setRow_alloc_new];have hb:=aj (w:=w4) (A:=.cells (six (more (fun _=>0) 5 (ln:Int))) 40);have H9:=hJ (nZ w4 (.cells (six (more (fun _=>0) 5 (ln:Int))) 40));have HM:=hJ (HM.out.below hb);have HB9:=hJ (show w.heap.size<=w4.heap.size from HB.out.size);have HB:=hJ (ag HB.out hb);have HZ:=hJ ((hb.block _ (lt_of_heap HZ.out)).trans HZ.out);have HQ:=hJ ((hb.block _ (lt_of_heap HQ.out)).trans HQ.out);generalize w4.alloc (.cells (six (more (fun _=>0) 5 (ln:Int))) 40)=w5 at H9 HM HB HZ HQ ⊢;obtain⟨q9,hq9⟩:∃ q9,q9=w4.heap.size:=⟨_,rfl⟩;rw[<- hq9] at H9 HB9 ⊢;clear hb hq9;have HT2:=hJ (om w5 B S (more (fun _=>0) 5 (ln:Int)) (n:Int) T (ln:Int) 2 5 oZ oZ (by simp[more]) (by simp[more];omega) hS (by simp[more];omega) oZ oZ);rw[show B 5+more (fun _=>(0:Int)) 5 (ln:Int) 5=((an+ln:Nat):Int) by simp[more];omega,show six (more (more (fun _=>0) 5 (ln:Int)) 5 2)=six (aY an ln).used from by simp[six,more,aY]] at HT2
  go_wp2_with (first
   | (refine yZ rfl 42 (.tmp 6) rfl q rfl 42 (ae B S (n:Int) T (ln:Int)) (0,0) _ HQ.out Tryz.underlying42 rfl (ai _ _ _ _ _) ?_)
   | (refine yZ rfl 40 (.tmp 9) rfl q9 rfl 40 (six (more (fun _=>0) 5 (ln:Int))) (0,0) _ H9.out Tryz.underlying40 rfl (af _) ?_)
   | fail)
  refine HT2.out.mono ?_;rintro e w6 ⟨rfl,hb⟩;have HM:=hJ (HM.out.below hb);have HB:=hJ (ag HB.out hb);have HZ:=hJ ((hb.block _ (lt_of_heap HZ.out)).trans HZ.out);have H9:=hJ ((hb.block _ (lt_of_heap H9.out)).trans H9.out);clear hb HT2 HQ;have HC:=hJ (show b<w.heap.size/\c<w.heap.size from HBC.out)
  go_upto_region 12 with (first
   | (refine zZ rfl 40 (.tmp 9) (.tmp 44) rfl q9 (six (aY an ln).used) rfl rfl 40 (six (more (fun _=>0) 5 (ln:Int))) H9.out (af _) (aS _ _) (aQ _) ?_)
   | fail)
  have hm:bB (fun k=>k=q9) w6 (w6.setRow q9 (six (aY an ln).used)):=bB.setRow (S:=fun k=>k=q9) (bB.refl _ _) (.inr rfl) _;have H9':=hJ (setRow_heap _ _ _ (six (aY an ln).used) _ _ H9.out)
  have hz9:w.heap.size+1≠q9:=fun e=>by
   have h1:=HZ.out;rw[e,H9.out] at h1;injection h1 with h1
   injection h1 with _ h3
   exact absurd h3 dZ
  have HZ:=hJ ((qZ _ _ _ (six (aY an ln).used) hz9).trans HZ.out);have HM:=hJ (HM.out.mod hm (by have:=HC.out.1;have:=HB9.out;omega) (by have:=HC.out.2;have:=HB9.out;omega));have HB:=hJ (below_setRow HB.out HB9.out (six (aY an ln).used));generalize w6.setRow q9 (six (aY an ln).used)=w7 at H9' HZ HM HB ⊢;clear hm hz9 H9;have hlen:=HCs.out;have s1:IntKind.i64.wrap (((an+ln:Nat):Int)+1)=((an+ln+1:Nat):Int):=by rw[iZ _ oZ];simp
  have u1:IntKind.u32.wrap (an:Int)=(an:Int):=IntWalk.u32_in _ oZ;have u2:IntKind.u32.wrap ((an+ln:Nat):Int)=((an+ln:Nat):Int):=IntWalk.u32_in _ oZ;have HK1:=hJ (lJ HM.out (an+ln) 1 oZ hs0 oZ);have HS1:=hJ s1;have HU1:=hJ u1;have HU2:=hJ u2;clear s1 u1 u2;go_wp2_with fail
  refine HK1.out.mono ?_;rintro e w8 ⟨rfl,hM8,hm8⟩;have HK2:=hJ (lJ hM8 (an+ln+1) (an:Int) (by rw[List.length_set];omega) oZ oZ);have s1:=HS1.out;have u1:=HU1.out;go_wp2_with fail
  refine HK2.out.mono ?_;rintro e w9 ⟨rfl,hM9,hm9⟩;have HK3:=hJ (lJ hM9 2 ((an+ln:Nat):Int) (by rw[List.length_set,List.length_set];omega) oZ oZ);have u2:=HU2.out;clear s1 u1;go_wp2_with fail
  refine HK3.out.mono ?_;rintro e w10 ⟨rfl,hM10,hm10⟩;clear u2;have hne:∀ k,w.heap.size<=k->¬ (k=b∨k=c):=fun k hk=>by have:=HBC.out;omega
  have k8:=(hm8.block _ (lt_of_heap HZ.out) (hne _ oZ)).trans HZ.out;have k9:=(hm9.block _ (lt_of_heap k8) (hne _ oZ)).trans k8;have HZ10:=hJ ((hm10.block _ (lt_of_heap k9) (hne _ oZ)).trans k9);have j8:=(hm8.block _ (lt_of_heap H9'.out) (hne _ HB9.out)).trans H9'.out;have j9:=(hm9.block _ (lt_of_heap j8) (hne _ HB9.out)).trans j8;have H910:=hJ ((hm10.block _ (lt_of_heap j9) (hne _ HB9.out)).trans j9);have HMd:=hJ ((((Below.mod HB.out (fun k=>k=b∨k=c) (fun k hk hb=>absurd hk oZ)).trans hm8).trans hm9).trans hm10);have HM10:=hJ hM10;have HSZ:=hJ (show w.heap.size<=w10.heap.size from HMd.out.size);have HZ11:=hJ (show (w10.alloc (.cells #[.int .i64 (an:Int),.int .i64 0,.bool false] 65)).heap[w.heap.size+1]?=some (.cells (aO (.slice none 0 0) aJ) 46 (0,0)) from(Below.heap_alloc _ _ _ (lt_of_heap HZ10.out)).trans HZ10.out);have H911:=hJ (show (w10.alloc (.cells #[.int .i64 (an:Int),.int .i64 0,.bool false] 65)).heap[q9]?=some (.cells #[.int .i64 ((aY an ln).used 0),.int .i64 ((aY an ln).used 1),.int .i64 ((aY an ln).used 2),.int .i64 ((aY an ln).used 3),.int .i64 ((aY an ln).used 4),.int .i64 ((aY an ln).used 5)] 40 (0,0)) from(Below.heap_alloc _ _ _ (lt_of_heap H910.out)).trans H910.out);clear hne k8 k9 j8 j9 hM8 hm8 hM9 hm9 hM10 hm10 HK1 HK2 HK3 HB HZ HM H9' HZ10 H910 hlen HS1 HU1 HU2
  go_wp2_with (first
   | (refine yZ rfl 40 (.tmp 9) rfl q9 rfl 40 #[.int .i64 ((aY an ln).used 0),.int .i64 ((aY an ln).used 1),.int .i64 ((aY an ln).used 2),.int .i64 ((aY an ln).used 3),.int .i64 ((aY an ln).used 4),.int .i64 ((aY an ln).used 5)] (0,0) _ H911.out Tryz.underlying40 rfl (af (aY an ln).used) ?_)
   | (refine zZ rfl 46 (.tmp 4) (.tmp 67) rfl (w.heap.size+1) (aO (.slice (some ⟨w10.heap.size,0,none⟩) 1 1) (aY an ln)) rfl rfl 46 (aO (.slice none 0 0) aJ) HZ11.out (aK _ _) rfl (dL _ _ _ _) ?_)
   | fail)
  refine tZ (v:=.tuple #[.agg (aO (.slice (some ⟨w10.heap.size,0,none⟩) 1 1) (aY an ln)),.int .i64 0]) (di rfl _ _ (w.heap.size+1) _ _ (0,0) _ _ rfl rfl (setRow_heap _ _ _ _ _ _ HZ11.out) Tryz.underlying46 rfl (aK _ _)) rfl ?_;have ho:bn (w10.alloc (.cells #[.int .i64 (an:Int),.int .i64 0,.bool false] 65)) w.heap.size (.slice (some ⟨w10.heap.size,0,none⟩) 1 1) [((an:Int),0,false)]:=World.ownsRow_lit (base:=w.heap.size) (e:=65) (size:=3) w10 #[.int .i64 (an:Int),.int .i64 0,.bool false] 1 HSZ.out dZ rfl;exact⟨w10.heap.size,rfl,(HM10.out.below aj).mod (bB.setRow (S:=fun k=>k=w.heap.size+1) (bB.refl _ _) (.inr rfl) _) (by have:=HBC.out;omega) (by have:=HBC.out;omega),ho.keep HZ11.out dZ (fun j hj=>qZ _ _ _ _ hj),(HMd.out.alloc _).setRow (.inl oZ) _⟩
theorem qX (a b:Value):(Tryz.prog.info? 35).map (·.size)=some (#[a,b]:Array Value).size:=by
 show _=some 2;kernel_rfl
theorem IR {w:World} {rb mb cb:Nat} {go:Option Nat} {st:St} {Bd:Nat} {dd:Nat} {tt:Int} {ss:Nat->Int} {bk rm:Int} {kf bf:Nat} (hok:ek (dd:Int) tt ss bk rm) {B S:Nat->Int} {C L:Int} {m:Nat} (hpl:ae (aA (aB ss bk rm)) (aB ss bk rm) (aA (aB ss bk rm) 6) (slotsOf tt) (bN (dd:Int) tt)=ae B S C (m:Int) L) (hL:Laid B S C) (hLv:L=1+4*(dd:Int)+(m:Int)) (hC:C<=50000) (hm0:1<=m) (hm1:m<=1000) (hdd:dd<=64)
  {x:Sx} {nd:Nat} (hsegs:x.aC=[(B 5,(nd:Int),false)]) (hnd:nd<=dd) (hused:∀ k,k<6->0<=x.used k/\x.used k<=S k) (hterms:0<=x.terms/\x.terms<=1000000) (hver:U x.bT) {id:Int} (hid:U id) (F:List ByteArray) (fo:Option Addr) (fc:Nat) (hFs:∀ f∈F,f.size<=1000000) (hFn:F.length<=1000000) (og:Option Addr) (gc:Nat)
  (hrm:RM w rb mb cb go true st) (hf:st.dO Bd) (hB:Bd<1000000000) (hoff:st.off=false) {bo bx bs pw pe Wb wb eb:Nat}
  (hArgs:∀ wr:World,(∀ k,k<w.heap.size->¬ fD rb mb cb go k->¬ S2 wb eb k->wr.heap[k]?=w.heap[k]?)->eH wr og x.aC/\fU wr fo F/\dE wr)
  {oc:Array Value} (hoc0:oc[0]?=some (.bool false)) (hoc:∀ (j:Nat) (v:Value),#[Value.int .u32 id,.slice fo F.length fc].toList[j]?=some v->oc[1+j]?=some v) (hI:PI bo bx bs pw pe Wb wb eb oc (au (dd:Int) tt ss bk rm kf bf) (aO (.slice og 1 gc) x) w) (hD:∀ k∈[bo,bx,bs,pw,pe,Wb],k≠wb/\k≠eb/\¬ fD rb mb cb go k) (hwe:wb≠eb) (hwf:¬ fD rb mb cb go wb/\¬ fD rb mb cb go eb) (hw8:∃ c8,w.heap[wb]?=some (.cells c8 46 (0,0))/\c8.size=9) (he8:∃ v8,w.heap[eb]?=some (.cells #[v8] 52 (0,0))) :
  Calls Tryz.prog 54 #[.pointer (some ⟨rb,0,none⟩),.pointer (some ⟨bo,0,none⟩),.pointer (some ⟨bx,0,none⟩),.pointer (some ⟨bs,0,none⟩),.pointer (some ⟨pw,0,none⟩),.pointer (some ⟨pe,0,none⟩)] w fun e w'=>Bv w rb mb cb go bo bx bs pw pe Wb wb eb oc (au (dd:Int) tt ss bk rm kf bf) (aO (.slice og 1 gc) x) (jN B S m dd tt nd id F x) st e w':=by
 have HSegs:=hJ hsegs;have HOk:=hJ hok;have HPl:=hJ hpl;have HLd:=hJ hL;have HLv:=hJ hLv;have HUsed:=hJ hused;have HTerms:=hJ hterms;have HId:=hJ hid;have HFs:=hJ hFs;have HVer:=hJ hver;have HF:=hJ hf;have HOff:=hJ hoff;have HArgs:=hJ hArgs;have HOc:=hJ hoc;have HD:=hJ hD;have HWe:=hJ hwe;have HWf:=hJ hwf;have HI:=hJ hI;have HW8:=hJ hw8;have HE8:=hJ he8
 have HRun:=hJ (ik.start (S:=S2 wb eb) hrm (fun k hk=>by
  obtain⟨c8,hc8,_⟩:=hw8;obtain⟨v8,hv8⟩:=he8;rcases hk with rfl | rfl
  ·exact⟨hwf.1,lt_of_heap hc8⟩
  ·exact⟨hwf.2,lt_of_heap hv8⟩))
 have c0:w.cell? ⟨bo,0,none⟩=some (.bool false):=(aa hI.o 0).trans hoc0;clear hok hpl hL hLv hused hterms hid hFs hsegs hver hf hoff hArgs hoc hoc0 hD hwe hwf hI hw8 he8 hrm;go_enter Tryz.func54,Tryz.ntmps54
 go_upto_region 2 with fail
 clear c0
 refine aI (fun(p:Sx×Option Addr×Nat×Nat×Int×Option Nat) jz=>[.pointer (some ⟨wb,0,none⟩),.pointer (some ⟨eb,0,none⟩),.pointer (some ⟨rb,0,none⟩),.pointer (some ⟨Wb,0,none⟩),.pointer (some ⟨Wb,0,none⟩),.pointer (some ⟨Wb,0,none⟩),.agg (au (dd:Int) tt ss bk rm kf bf),.agg (aO (.slice og 1 gc) x),.pointer (some ⟨bo,1,none⟩),.agg #[.int .u32 id,.slice fo F.length fc],.tuple #[.agg (aO (.slice p.2.1 p.2.2.1 p.2.2.2.1) p.1),.int .i64 p.2.2.2.2.1],.tuple #[.agg (aO (.slice p.2.1 p.2.2.1 p.2.2.2.1) p.1),.int .i64 p.2.2.2.2.1],.agg (aO (.slice p.2.1 p.2.2.1 p.2.2.2.1) p.1),.int .i64 p.2.2.2.2.1,.pointer (some ⟨wb,0,none⟩),undef,.pointer (some ⟨eb,0,none⟩),undef].getD jz undef)
  (fun p l_ wx=>PI bo bx bs pw pe Wb wb eb oc (au (dd:Int) tt ss bk rm kf bf) (aO (.slice og 1 gc) x) wx/\(l_ 10=false->ik (S2 wb eb) w rb mb cb go st go wx)/\(l_ 10=true->ik (S2 wb eb) w rb mb cb go ((jN B S m dd tt nd id F x).on st).2 p.2.2.2.2.2 wx/\bn wx w.heap.size (.slice p.2.1 p.2.2.1 p.2.2.2.1) p.1.aC/\p.2.2.1=p.1.aC.length/\∀ y,((jN B S m dd tt nd id F x).on st).1=some y->y.2=p.2.2.2.2.1/\(p.2.2.2.2.1=0->aO (.slice p.2.1 p.2.2.1 p.2.2.2.1) y.1=(aO (.slice p.2.1 p.2.2.1 p.2.2.2.1) p.1)/\y.1.aC=p.1.aC))/\(∃ c8,wx.heap[wb]?=some (.cells c8 46 (0,0))/\c8.size=9/\(l_ 15=true->c8=(aO (.slice p.2.1 p.2.2.1 p.2.2.2.1) p.1)))/\(∃ v8,wx.heap[eb]?=some (.cells #[v8] 52 (0,0))/\(l_ 17=true->v8=.int .i64 p.2.2.2.2.1)))
  kZ kZ pZ (aJ,none,0,0,0,none) ?_ ?_ ?_
 ·obtain⟨c8,hc8,hs8⟩:=HW8.out;obtain⟨v8,hv8⟩:=HE8.out;exact⟨HI.out.keep (fun _ _ _=>rfl),fun _=>HRun.out.below (Below.refl _ _).drew,(fun h=>by cases h),⟨c8,hc8,hs8,(fun h=>by cases h)⟩,⟨v8,hv8,(fun h=>by cases h)⟩⟩
 ·intro i o ho p l_ wx hR hl he hcl K hK;rcases i with _|_|_|_|_|_|_|_|_|_|_|_|_|_|_|_|_|_|i
  any_goals first | (cases ho;go_simp;exact hK p wx (fun _ _=>rfl) hR;done) | fail
  ·cases ho;have q:=(show wx.cell? ⟨pw,0,none⟩=_ from aa hR.1.p 0);go_simp;exact hK p wx (fun _ _=>rfl) hR
  ·cases ho;have q:=(show wx.cell? ⟨pe,0,none⟩=_ from aa hR.1.q 0);go_simp;exact hK p wx (fun _ _=>rfl) hR
  ·cases ho;have q:=(show wx.cell? ⟨bx,0,none⟩=_ from aa hR.1.x 0);go_simp;exact hK p wx (fun _ _=>rfl) hR
  ·cases ho;obtain⟨WC,hWC,hWf⟩:=hR.1.W;refine aR 25 (.tmp 32) rfl Wb 0 rfl 51 WC (au (dd:Int) tt ss bk rm kf bf) (0,0) _ hWC hWf Tryz.underlying25 rfl (dQ _ _ _ _ _ _ _) ?_;exact hK p wx (fun _ _=>rfl) hR
  ·cases ho;refine wp_load_row 46 (.tmp 3) rfl bs rfl 46 (aO (.slice og 1 gc) x) (0,0) _ hR.1.s Tryz.underlying46 rfl (aK _ _) ?_;exact hK p wx (fun _ _=>rfl) hR
  ·cases ho;refine aR 35 (.tmp 35) rfl bo 1 rfl 37 oc #[.int .u32 id,.slice fo F.length fc] (0,0) _ hR.1.o HOc.out Tryz.underlying35 rfl (qX _ _) ?_;exact hK p wx (fun _ _=>rfl) hR
  ·cases ho;have hrun:=hR.2.1 hl
   have h16:l_ 15=false:=by
    cases h:l_ 15 with
    | false=>rfl
    | true=>exact absurd (hcl 11 _ rfl (hcl 12 _ rfl (hcl 15 _ rfl h ⟨12,.data⟩ sZ rfl) ⟨11,.data⟩ sZ rfl) ⟨10,.data⟩ sZ rfl) lZ
   have h18:l_ 17=false:=by
    cases h:l_ 17 with
    | false=>rfl
    | true=>exact absurd (hcl 11 _ rfl (hcl 13 _ rfl (hcl 17 _ rfl h ⟨13,.data⟩ sZ rfl) ⟨11,.data⟩ sZ rfl) ⟨10,.data⟩ sZ rfl) lZ
   obtain⟨c8,hc8,hs8,_⟩:=hR.2.2.2.1;obtain⟨v8,hv8,_⟩:=hR.2.2.2.2;go_simp;refine(IE HOk.out HPl.out HLd.out HLv.out hC hm0 hm1 hdd HSegs.out hnd HUsed.out HTerms.out HVer.out HId.out F fo fc HFs.out hFn og gc hrun.rm HF.out hB HOff.out (fun wr h=>HArgs.out wr (fun k h1 h2 h3=>(h k (Nat.lt_of_lt_of_le h1 hrun.size) h2).trans (hrun.keeps h1 h3 h2)))).mono ?_;rintro e w2 ⟨so,sn,sc,y,er,go2,rfl,hr2,ha2,ho2,hn2,hans2⟩;refine hK (y,so,sn,sc,er,go2) w2 (fun j hj=>?_) ⟨hR.1.keep (fun k hk hlt=>ha2.mod.block k hlt (HD.out k hk).2.2),(fun h=>by cases h),fun _=>⟨hrun.access hr2 ha2,zq ho2 hrun.size,hn2,hans2⟩,⟨c8,(ha2.mod.block _ (lt_of_heap hc8) HWf.out.1).trans hc8,hs8,fun h=>absurd h (by show ¬ l_ 15=true;rw[h16];decide)⟩,⟨v8,(ha2.mod.block _ (lt_of_heap hv8) HWf.out.2).trans hv8,fun h=>absurd h (by show ¬ l_ 17=true;rw[h18];decide)⟩⟩;rcases j with _|_|_|_|_|_|_|_|_|_|_|_|_|_|_|_|_|_|j
   all_goals first | rfl | (rw[hl] at hj;cases hj) | (exact absurd (hcl 11 _ rfl hj ⟨10,.data⟩ sZ rfl) lZ) | (exact absurd (hcl 11 _ rfl (hcl 12 _ rfl hj ⟨11,.data⟩ sZ rfl) ⟨10,.data⟩ sZ rfl) lZ) | (exact absurd (hcl 11 _ rfl (hcl 13 _ rfl hj ⟨11,.data⟩ sZ rfl) ⟨10,.data⟩ sZ rfl) lZ)
  ·cases ho;have h13:l_ 12=true:=he ⟨12,.data⟩ sZ rfl;have h11:l_ 10=true:=hcl 11 _ rfl (hcl 12 _ rfl h13 ⟨11,.data⟩ sZ rfl) ⟨10,.data⟩ sZ rfl;obtain⟨hrun,ho2,hn2,hans2⟩:=hR.2.2.1 h11;obtain⟨c8,hc8,hs8,_⟩:=hR.2.2.2.1;obtain⟨v8,hv8,hv⟩:=hR.2.2.2.2;refine wp_store_row 46 (.tmp 40) (.tmp 38) rfl wb (aO (.slice p.2.1 p.2.2.1 p.2.2.2.1) p.1) rfl rfl 46 c8 hc8 (aK _ _) (by rw[hs8];rfl) (dL _ _ _ _) ?_;exact hK p _ (fun _ _=>rfl) ⟨hR.1.keep (fun k hk _=>qZ _ _ _ _ (HD.out k hk).1),fun h=>absurd h11 (by rw[show l_ 10=false from h];decide),fun _=>⟨hrun.turn hc8 (.inl (.inl rfl)) dZ (bB.setRow (S:=fun j=>j=wb) (bB.refl _ _) (.inr rfl) _),bn.keep ho2 hc8 dZ (fun j hj=>qZ _ _ _ _ hj),hn2,hans2⟩,⟨(aO (.slice p.2.1 p.2.2.1 p.2.2.2.1) p.1),setRow_heap _ _ _ _ _ _ hc8,rfl,fun _=>rfl⟩,⟨v8,(qZ _ _ _ _ (Ne.symm HWe.out)).trans hv8,hv⟩⟩
  ·cases ho;have h14:l_ 13=true:=he ⟨13,.data⟩ sZ rfl;have h11:l_ 10=true:=hcl 11 _ rfl (hcl 13 _ rfl h14 ⟨11,.data⟩ sZ rfl) ⟨10,.data⟩ sZ rfl;obtain⟨hrun,ho2,hn2,hans2⟩:=hR.2.2.1 h11;obtain⟨c8,hc8,hs8,hc⟩:=hR.2.2.2.1;obtain⟨v8,hv8,_⟩:=hR.2.2.2.2;have q:wx.cell? ⟨eb,0,none⟩=some v8:=aa hv8 0;have f:wx.frozen? ⟨eb,0,none⟩=false:=free_at hv8 0;have HN2:=hJ (And.intro hn2 hans2);have HR1:=hJ hR.1;have H11:=hJ h11;clear hn2 hans2 hR h11;go_simp;exact hK p (wx.setCell ⟨eb,0,none⟩ (.int .i64 p.2.2.2.2.1)) (fun _ _=>rfl) ⟨HR1.out.keep (fun k hk _=>Below.heap_setCell _ _ _ _ (HD.out k hk).2.1),fun h=>absurd H11.out (by rw[show l_ 10=false from h];decide),fun _=>⟨hrun.turn hv8 (.inl (.inr rfl)) dZ (bB.setCell (S:=fun j=>j=eb) (bB.refl _ _) (.inr rfl) _),bn.keep ho2 hv8 dZ (fun j hj=>Below.heap_setCell _ _ _ _ hj),HN2.out.1,HN2.out.2⟩,⟨c8,(Below.heap_setCell _ _ _ _ HWe.out).trans hc8,hs8,hc⟩,⟨.int .i64 p.2.2.2.2.1,(show (wx.setCell ⟨eb,0,none⟩ (.int .i64 p.2.2.2.2.1)).heap[eb]?=some (.cells #[.int .i64 p.2.2.2.2.1] 52 (0,0)) from heap_setCell_same _ _ _ _ _ _ hv8),fun _=>rfl⟩⟩
  ·simp at ho
 ·intro p lz wx hl hR;obtain⟨hrun,ho2,hn2,hans2⟩:=hR.2.2.1 (hl 10 dZ);obtain⟨c8,hc8,hs8,hc⟩:=hR.2.2.2.1;obtain⟨v8,hv8,hv⟩:=hR.2.2.2.2;have hc:=hc (hl 15 dZ);have hv:=hv (hl 17 dZ);subst hc;subst hv;have HE:=hJ (And.intro hrun (And.intro hR.1 (And.intro hc8 (And.intro hv8 (And.intro ho2 (And.intro hn2 hans2))))));clear hR hl hrun hc8 hv8 ho2 hn2 hans2 hs8;go_wp2_with fail
  go_end0
  exact⟨rfl,_,_,_,_,_,_,HE.out⟩
def aU (cf pl:Array Value) (m:Value) (wr st:Array Value):Array Value:=(cf.toList++(pl.toList++([m]++(wr.toList++st.toList)))).toArray
theorem lW {a b c:List Value} {f:Nat} (hf:a.length=f) {j:Nat} {v:Value} (h:b[j]?=some v):(a++(b++c))[f+j]?=some v:=by
 subst hf;rw[List.getElem?_append_right oZ,Nat.add_sub_cancel_left,List.getElem?_append_left (eZ.1 h).1];exact h
section
variable {cf pl wr st:Array Value} {m:Value}
theorem qi:∀ (j:Nat) (v:Value),cf.toList[j]?=some v->(aU cf pl m wr st)[0+j]?=some v:=fun j v h=>by
 unfold aU;rw[List.getElem?_toArray];exact lW (a:=[]) rfl h
theorem D5 (h1:cf.size=10):∀ (j:Nat) (v:Value),pl.toList[j]?=some v->(aU cf pl m wr st)[10+j]?=some v:=fun j v h=>by
 unfold aU;rw[List.getElem?_toArray];exact lW (by rw[Array.length_toList];exact h1) h
theorem jW (h1:cf.size=10) (h2:pl.size=15):(aU cf pl m wr st)[25]?=some m:=by
 unfold aU;rw[List.getElem?_toArray,<- List.append_assoc];exact lW (j:=0) (f:=25) (b:=[m]) (by rw[List.length_append,Array.length_toList,Array.length_toList,h1,h2]) rfl
theorem lD (h1:cf.size=10) (h2:pl.size=15):∀ (j:Nat) (v:Value),wr.toList[j]?=some v->(aU cf pl m wr st)[26+j]?=some v:=fun j v h=>by
 unfold aU;rw[List.getElem?_toArray,<- List.append_assoc,<- List.append_assoc];exact lW (by rw[List.length_append,List.length_append,Array.length_toList,Array.length_toList,h1,h2];rfl) h
theorem lG (h1:cf.size=10) (h2:pl.size=15) (h3:wr.size=9):∀ (j:Nat) (v:Value),st.toList[j]?=some v->(aU cf pl m wr st)[35+j]?=some v:=fun j v h=>by
 unfold aU;rw[List.getElem?_toArray,<- List.append_assoc,<- List.append_assoc,<- List.append_assoc];have h9:=lW (a:=cf.toList++pl.toList++[m]++wr.toList) (c:=[]) (f:=35) (by simp[h1,h2,h3]) h;rwa [List.append_nil] at h9
end
theorem mR (b:Bool) (id:Int) (vf:Value):∀ (j:Nat) (v:Value),(#[.int .u32 id,vf]:Array Value).toList[j]?=some v->(#[.bool b,.int .u32 id,vf]:Array Value)[1+j]?=some v:=by
 intro j v h;rcases j with _|_|j
 ·exact h
 ·exact h
 ·simp at h
theorem BM {B S:Nat->Int} {C:Int} {m dd:Nat} {tt:Int} {nd:Nat} {cs:List Int} {x:Sx} {d:bK} (hI:WI B S C m dd tt nd cs x d) {id e:Int} {cs':List Int} {x':Sx} (hO:p8 B nd id cs x e cs' x') (w:World) (oa:Option Addr) (c n:Nat) (en:cs.length=n) (ha:bQ .u32 w oa (gQ cs)) (og:Option Addr) (gc:Nat) (hg:eH w og x.aC) (ss:Nat->Int) (bk rm:Int) (kf bf:Nat) (L:Int) (fo:Option Addr) (fn fc:Nat) 
  (vm:Value) (vw:Array Value) (hw9:vw.size=9) (Wb:Nat) (hW:w.heap[Wb]?=some (.cells (aU (au (dd:Int) tt ss bk rm kf bf) (ae B S C (m:Int) L) vm vw (aH (.slice oa n c) (.slice og 1 gc) x)) 51 (0,0))) :
  Calls Tryz.prog 20 #[.pointer (some ⟨Wb,0,none⟩),.agg #[.bool true,.int .u32 id,.slice fo fn fc]] w fun e0 w'=>∃ vc vs,e0=.returned (.tuple #[.int .i64 e,.agg (aH vc vs x')])/\Below w.heap.size w w'/\((e≠0/\vc=.slice oa n c/\vs=.slice og 1 gc/\cs'=cs/\x'=x)∨(e=0/\∃ g,vc=.slice (some ⟨g,0,none⟩) n n/\cB w' g cs'/\bn w' w.heap.size vs x'.aC/\w.heap.size<=g)):=by
 have HCall:=hJ (fun(wx:World) (hb:Below w.heap.size w wx)=>ww hI hO wx oa c n en (ha.below hb) og gc (hg.below hb));clear hI hO en ha hg;have HW:=hJ hW;have HW9:=hJ hw9;clear hW hw9;go_enter Tryz.func20,Tryz.ntmps20
 go_upto_region 1 with fail
 obtain⟨w0,hw0⟩:∃ w0,w0=(w.alloc (.cells #[.bool true,.int .u32 id,.slice fo fn fc] 37)).alloc (.cells cK 49):=⟨_,rfl⟩;rw[show (w.alloc (.cells #[.bool true,.int .u32 id,.slice fo fn fc] 37)).alloc (.cells #[.slice none 0 0,.slice none 0 0,.int .i64 0,.int .u32 0,.int .i64 0,.int .i64 0,.int .i64 0,.int .i64 0,.int .i64 0,.int .i64 0] 49)=w0 from hw0.symm];have HX:=hJ (show w0.heap[w.heap.size]?=some (.cells #[.bool true,.int .u32 id,.slice fo fn fc] 37 (0,0)) by rw[hw0];exact ed _ _ _);have HY:=hJ (show w0.heap[w.heap.size+1]?=some (.cells cK 49 (0,0)) by rw[hw0];exact eO _ _ _);have HB:=hJ (show Below w.heap.size w w0 by rw[hw0];exact dh);clear hw0;have c0:w0.cell? ⟨w.heap.size,0,none⟩=some (.bool true):=aa HX.out 0;go_upto_region 2 with fail
 clear c0
 refine aI (fun(p:Value×Value) jz=>[.pointer (some ⟨Wb,0,none⟩),.pointer (some ⟨Wb,0,none⟩),.pointer (some ⟨Wb,35,none⟩),.agg (aH (.slice oa n c) (.slice og 1 gc) x),.pointer (some ⟨w.heap.size,1,none⟩),.pointer (some ⟨w.heap.size,1,none⟩),.int .u32 id,.tuple #[.int .i64 e,.agg (aH p.1 p.2 x')],.int .i64 e,.agg (aH p.1 p.2 x'),.int .i64 e,undef].getD jz undef)
  (fun p l_ wx=>Below w.heap.size w wx/\wx.heap[w.heap.size]?=some (.cells #[.bool true,.int .u32 id,.slice fo fn fc] 37 (0,0))/\(∃ X Y Z,wx.heap[w.heap.size+1]?=some (.cells (aH X Y Z) 49 (0,0)))/\(l_ 11=true->wx.heap[w.heap.size+1]?=some (.cells (aH p.1 p.2 x') 49 (0,0)))/\(l_ 7=true->(p.1.oneCell'=true/\p.2.oneCell'=true)/\((e≠0/\p.1=.slice oa n c/\p.2=.slice og 1 gc/\cs'=cs/\x'=x)∨(e=0/\∃ g,p.1=.slice (some ⟨g,0,none⟩) n n/\cB wx g cs'/\bn wx w.heap.size p.2 x'.aC/\w.heap.size<=g))))
  kZ kZ pZ (undef,undef) ?_ ?_ ?_
 ·exact⟨HB.out.drew,HX.out,⟨_,_,_,HY.out⟩,(fun h=>by cases h),(fun h=>by cases h)⟩
 ·intro i o ho p l_ wx hR hl he hcl K hK;rcases i with _|_|_|_|_|_|_|_|_|_|_|_|i
  any_goals first | (cases ho;go_simp;exact hK p wx (fun _ _=>rfl) hR;done) | fail
  ·cases ho;refine aR 49 (.tmp 10) rfl Wb 35 rfl 51 (aU (au (dd:Int) tt ss bk rm kf bf) (ae B S C (m:Int) L) vm vw (aH (.slice oa n c) (.slice og 1 gc) x)) (aH (.slice oa n c) (.slice og 1 gc) x) (0,0) _ (ah HW.out hR.1) (lG rfl rfl HW9.out) Tryz.underlying49 rfl (aG _ _ _) ?_;exact hK p wx (fun _ _=>rfl) hR
  ·cases ho;have q:=(show wx.cell? ⟨w.heap.size,1,none⟩=some (.int .u32 id) from aa hR.2.1 1);go_simp;exact hK p wx (fun _ _=>rfl) hR
  ·cases ho
   have hlast:l_ 11=false:=by
    cases h:l_ 11 with
    | false=>rfl
    | true=>exact absurd (hcl 9 _ rfl (hcl 11 _ rfl h ⟨9,.data⟩ sZ rfl) ⟨7,.data⟩ sZ rfl) lZ
   obtain⟨X,Y,Z,hrs⟩:=hR.2.2.1;have hbl:=hR.1;have hop:=hR.2.1;have HLast:=hJ hlast;have HRs:=hJ hrs;have HOp:=hJ hop;have HBl:=hJ hbl;clear hR hlast hrs hop hbl;go_simp;refine(HCall.out wx HBl.out).mono ?_;rintro e9 w9 ⟨vc,vs,rfl,hb9,hout⟩;refine hK (vc,vs) w9 (fun j hj=>?_) ⟨ag HBl.out hb9,ah HOp.out hb9,⟨X,Y,Z,ah HRs.out hb9⟩,fun h=>absurd (show l_ 11=true from h) (by rw[HLast.out];decide),fun _=>?_⟩
   ·rcases j with _|_|_|_|_|_|_|_|_|_|_|_|j
    all_goals first | rfl | (rw[hl] at hj;cases hj) | (exact absurd (hcl 9 _ rfl hj ⟨7,.data⟩ sZ rfl) lZ)
   ·rcases hout with h | ⟨h1,g,h2,h3,h4,h6⟩
    ·exact⟨by rw[h.2.1,h.2.2.1];exact⟨rfl,rfl⟩,.inl h⟩
    ·refine⟨⟨by rw[h2];rfl,?_⟩,.inr ⟨h1,g,h2,h3,h4.lower HBl.out.size,Nat.le_trans HBl.out.size h6⟩⟩;obtain⟨_,_,h5⟩:=jV h4 _ rfl;rw[h5];rfl
  ·cases ho;have h9:l_ 9=true:=he ⟨9,.data⟩ sZ rfl;have h7:l_ 7=true:=hcl 9 _ rfl h9 ⟨7,.data⟩ sZ rfl;obtain⟨hone,hout⟩:=hR.2.2.2.2 h7;obtain⟨X,Y,Z,hX⟩:=hR.2.2.1;refine wp_store_row 49 (.tmp 5) (.tmp 17) rfl (w.heap.size+1) (aH p.1 p.2 x') rfl rfl 49 (aH X Y Z) hX (aG _ _ _) rfl (by simp[aH,Value.oneCell'];exact hone) ?_;have hs:=setRow_heap wx (w.heap.size+1) _ (aH p.1 p.2 x') _ _ hX;refine hK p _ (fun _ _=>rfl) ⟨below_setRow hR.1 oZ _,(qZ _ _ _ _ oZ).trans hR.2.1,⟨_,_,_,hs⟩,(fun _=>hs),fun _=>⟨hone,?_⟩⟩;rcases hout with h | ⟨h1,g,h2,h3,h4,h6⟩
   ·exact .inl h
   ·exact .inr ⟨h1,g,h2,h3.of_block (qZ _ _ _ _ (h3.ne hX dZ)),h4.keep hX dZ (fun j hj=>qZ _ _ _ _ hj),h6⟩
  ·simp at ho
 ·intro p lz wx hl hR;have H4:=hJ (hR.2.2.2.1 (hl 11 dZ));have H5:=hJ ((hR.2.2.2.2 (hl 7 dZ)).2);have H6:=hJ hR.1;clear hR hl;go_wp2_with fail
  refine tZ (v:=.tuple #[.int .i64 e,.agg (aH p.1 p.2 x')]) (bX rfl _ _ (w.heap.size+1) _ _ (0,0) _ _ rfl rfl H4.out Tryz.underlying49 rfl (aG _ _ _)) rfl ?_;exact⟨p.1,p.2,rfl,H6.out,H5.out⟩
theorem AO {B S:Nat->Int} {C:Int} {m dd:Nat} {tt:Int} {nd:Nat} {cs:List Int} {x:Sx} {d:bK} (hI:WI B S C m dd tt nd cs x d) {id e:Int} {cs':List Int} {x':Sx} {F:List ByteArray} (hO:lm B S m dd tt nd id F cs x d e cs' x') (hid:U id) (w:World) (oa:Option Addr) (c n:Nat) (en:cs.length=n) (ha:bQ .u32 w oa (gQ cs)) (og:Option Addr) (gc:Nat) (hg:eH w og x.aC) (ss:Nat->Int) (bk rm:Int) (kf bf:Nat) (L:Int) (fo:Option Addr) (fn fc:Nat) (hfn:F.length=fn) (hF:fU w fo F) (hs:∀ x∈F,x.size<=1000000) (hFn:F.length<=1000000)
  (vm:Value) (vw:Array Value) (hw9:vw.size=9) (Wb:Nat) (hW:w.heap[Wb]?=some (.cells (aU (au (dd:Int) tt ss bk rm kf bf) (ae B S C (m:Int) L) vm vw (aH (.slice oa n c) (.slice og 1 gc) x)) 51 (0,0))) :
  Calls Tryz.prog 20 #[.pointer (some ⟨Wb,0,none⟩),.agg #[.bool false,.int .u32 id,.slice fo fn fc]] w fun e0 w'=>∃ vc vs,e0=.returned (.tuple #[.int .i64 e,.agg (aH vc vs x')])/\Below w.heap.size w w'/\((e≠0/\vc=.slice oa n c/\vs=.slice og 1 gc/\cs'=cs/\x'=x)∨(e=0/\∃ g,vc=.slice (some ⟨g,0,none⟩) n n/\cB w' g cs'/\bn w' w.heap.size vs x'.aC/\w.heap.size<=g)):=by
 have HCall:=hJ (fun(wx:World) (hb:Below w.heap.size w wx)=>Az hI hO hid wx oa c n en (ha.below hb) og gc (hg.below hb) ss bk rm kf bf L fo fc (hF.below hb) hs hFn);rw[hfn] at HCall;clear hI hO en ha hg hF hs hfn hFn hid;have HW:=hJ hW;have HW9:=hJ hw9;clear hW hw9;go_enter Tryz.func20,Tryz.ntmps20
 go_upto_region 1 with fail
 obtain⟨w0,hw0⟩:∃ w0,w0=(w.alloc (.cells #[.bool false,.int .u32 id,.slice fo fn fc] 37)).alloc (.cells cK 49):=⟨_,rfl⟩;rw[show (w.alloc (.cells #[.bool false,.int .u32 id,.slice fo fn fc] 37)).alloc (.cells #[.slice none 0 0,.slice none 0 0,.int .i64 0,.int .u32 0,.int .i64 0,.int .i64 0,.int .i64 0,.int .i64 0,.int .i64 0,.int .i64 0] 49)=w0 from hw0.symm];have HX:=hJ (show w0.heap[w.heap.size]?=some (.cells #[.bool false,.int .u32 id,.slice fo fn fc] 37 (0,0)) by rw[hw0];exact ed _ _ _);have HY:=hJ (show w0.heap[w.heap.size+1]?=some (.cells cK 49 (0,0)) by rw[hw0];exact eO _ _ _);have HB:=hJ (show Below w.heap.size w w0 by rw[hw0];exact dh);clear hw0;have c0:w0.cell? ⟨w.heap.size,0,none⟩=some (.bool false):=aa HX.out 0;go_upto_region 3 with fail
 clear c0
 refine aI (fun(p:Value×Value) jz=>[.pointer (some ⟨Wb,0,none⟩),.pointer (some ⟨Wb,0,none⟩),.pointer (some ⟨Wb,35,none⟩),.agg (aH (.slice oa n c) (.slice og 1 gc) x),.pointer (some ⟨Wb,0,none⟩),.pointer (some ⟨Wb,0,none⟩),.pointer (some ⟨Wb,0,none⟩),.agg (au (dd:Int) tt ss bk rm kf bf),.pointer (some ⟨Wb,0,none⟩),.pointer (some ⟨Wb,0,none⟩),.pointer (some ⟨Wb,10,none⟩),.agg (ae B S C (m:Int) L),.pointer (some ⟨w.heap.size,1,none⟩),.agg #[.int .u32 id,.slice fo fn fc],.tuple #[.int .i64 e,.agg (aH p.1 p.2 x')],.int .i64 e,.agg (aH p.1 p.2 x'),.int .i64 e,undef].getD jz undef)
  (fun p l_ wx=>Below w.heap.size w wx/\wx.heap[w.heap.size]?=some (.cells #[.bool false,.int .u32 id,.slice fo fn fc] 37 (0,0))/\(∃ X Y Z,wx.heap[w.heap.size+1]?=some (.cells (aH X Y Z) 49 (0,0)))/\(l_ 18=true->wx.heap[w.heap.size+1]?=some (.cells (aH p.1 p.2 x') 49 (0,0)))/\(l_ 14=true->(p.1.oneCell'=true/\p.2.oneCell'=true)/\((e≠0/\p.1=.slice oa n c/\p.2=.slice og 1 gc/\cs'=cs/\x'=x)∨(e=0/\∃ g,p.1=.slice (some ⟨g,0,none⟩) n n/\cB wx g cs'/\bn wx w.heap.size p.2 x'.aC/\w.heap.size<=g))))
  kZ kZ pZ (undef,undef) ?_ ?_ ?_
 ·exact⟨HB.out.drew,HX.out,⟨_,_,_,HY.out⟩,(fun h=>by cases h),(fun h=>by cases h)⟩
 ·intro i o ho p l_ wx hR hl he hcl K hK;rcases i with _|_|_|_|_|_|_|_|_|_|_|_|_|_|_|_|_|_|_|i
  any_goals first | (cases ho;go_simp;exact hK p wx (fun _ _=>rfl) hR;done) | fail
  ·cases ho;refine aR 49 (.tmp 20) rfl Wb 35 rfl 51 (aU (au (dd:Int) tt ss bk rm kf bf) (ae B S C (m:Int) L) vm vw (aH (.slice oa n c) (.slice og 1 gc) x)) (aH (.slice oa n c) (.slice og 1 gc) x) (0,0) _ (ah HW.out hR.1) (lG rfl rfl HW9.out) Tryz.underlying49 rfl (aG _ _ _) ?_;exact hK p wx (fun _ _=>rfl) hR
  ·cases ho;refine aR 25 (.tmp 24) rfl Wb 0 rfl 51 (aU (au (dd:Int) tt ss bk rm kf bf) (ae B S C (m:Int) L) vm vw (aH (.slice oa n c) (.slice og 1 gc) x)) (au (dd:Int) tt ss bk rm kf bf) (0,0) _ (ah HW.out hR.1) qi Tryz.underlying25 rfl (dQ _ _ _ _ _ _ _) ?_;exact hK p wx (fun _ _=>rfl) hR
  ·cases ho;refine aR 42 (.tmp 28) rfl Wb 10 rfl 51 (aU (au (dd:Int) tt ss bk rm kf bf) (ae B S C (m:Int) L) vm vw (aH (.slice oa n c) (.slice og 1 gc) x)) (ae B S C (m:Int) L) (0,0) _ (ah HW.out hR.1) (D5 rfl) Tryz.underlying42 rfl (ai _ _ _ _ _) ?_;exact hK p wx (fun _ _=>rfl) hR
  ·cases ho;refine aR 35 (.tmp 30) rfl w.heap.size 1 rfl 37 #[.bool false,.int .u32 id,.slice fo fn fc] #[.int .u32 id,.slice fo fn fc] (0,0) _ hR.2.1 (mR _ _ _) Tryz.underlying35 rfl (qX _ _) ?_;exact hK p wx (fun _ _=>rfl) hR
  ·cases ho
   have hlast:l_ 18=false:=by
    cases h:l_ 18 with
    | false=>rfl
    | true=>exact absurd (hcl 16 _ rfl (hcl 18 _ rfl h ⟨16,.data⟩ sZ rfl) ⟨14,.data⟩ sZ rfl) lZ
   obtain⟨X,Y,Z,hrs⟩:=hR.2.2.1;have hbl:=hR.1;have hop:=hR.2.1;have HLast:=hJ hlast;have HRs:=hJ hrs;have HOp:=hJ hop;have HBl:=hJ hbl;clear hR hlast hrs hop hbl;go_simp;refine(HCall.out wx HBl.out).mono ?_;rintro e9 w9 ⟨vc,vs,rfl,hb9,hout⟩;refine hK (vc,vs) w9 (fun j hj=>?_) ⟨ag HBl.out hb9,ah HOp.out hb9,⟨X,Y,Z,ah HRs.out hb9⟩,fun h=>absurd (show l_ 18=true from h) (by rw[HLast.out];decide),fun _=>?_⟩
   ·rcases j with _|_|_|_|_|_|_|_|_|_|_|_|_|_|_|_|_|_|_|j
    all_goals first | rfl | (rw[hl] at hj;cases hj) | (exact absurd (hcl 16 _ rfl hj ⟨14,.data⟩ sZ rfl) lZ)
   ·rcases hout with h | ⟨h1,g,h2,h3,h4,h6⟩
    ·exact⟨by rw[h.2.1,h.2.2.1];exact⟨rfl,rfl⟩,.inl h⟩
    ·refine⟨⟨by rw[h2];rfl,?_⟩,.inr ⟨h1,g,h2,h3,h4.lower HBl.out.size,Nat.le_trans HBl.out.size h6⟩⟩;obtain⟨_,_,h5⟩:=jV h4 _ rfl;rw[h5];rfl
  ·cases ho;have h9:l_ 16=true:=he ⟨16,.data⟩ sZ rfl;have h7:l_ 14=true:=hcl 16 _ rfl h9 ⟨14,.data⟩ sZ rfl;obtain⟨hone,hout⟩:=hR.2.2.2.2 h7;obtain⟨X,Y,Z,hX⟩:=hR.2.2.1;refine wp_store_row 49 (.tmp 5) (.tmp 34) rfl (w.heap.size+1) (aH p.1 p.2 x') rfl rfl 49 (aH X Y Z) hX (aG _ _ _) rfl (by simp[aH,Value.oneCell'];exact hone) ?_;have hs:=setRow_heap wx (w.heap.size+1) _ (aH p.1 p.2 x') _ _ hX;refine hK p _ (fun _ _=>rfl) ⟨below_setRow hR.1 oZ _,(qZ _ _ _ _ oZ).trans hR.2.1,⟨_,_,_,hs⟩,(fun _=>hs),fun _=>⟨hone,?_⟩⟩;rcases hout with h | ⟨h1,g,h2,h3,h4,h6⟩
   ·exact .inl h
   ·exact .inr ⟨h1,g,h2,h3.of_block (qZ _ _ _ _ (h3.ne hX dZ)),h4.keep hX dZ (fun j hj=>qZ _ _ _ _ hj),h6⟩
  ·simp at ho
 ·intro p lz wx hl hR;have H4:=hJ (hR.2.2.2.1 (hl 18 dZ));have H5:=hJ ((hR.2.2.2.2 (hl 14 dZ)).2);have H6:=hJ hR.1;clear hR hl;go_wp2_with fail
  refine tZ (v:=.tuple #[.int .i64 e,.agg (aH p.1 p.2 x')]) (bX rfl _ _ (w.heap.size+1) _ _ (0,0) _ _ rfl rfl H4.out Tryz.underlying49 rfl (aG _ _ _)) rfl ?_;exact⟨p.1,p.2,rfl,H6.out,H5.out⟩
def Left (W:World) (mb cb wb eb:Nat) (wr:World):Prop:=∀ k,k<W.heap.size->k≠mb->k≠cb->k≠wb->k≠eb->wr.heap[k]?=W.heap[k]?
structure CI (W:World) (mb cb wb eb:Nat) (w:World):Prop where
 left:Left W mb cb wb eb w
 size:W.heap.size<=w.heap.size
 w8:∃ c8,w.heap[wb]?=some (.cells c8 46 (0,0))/\c8.size=9
 e8:∃ v8,w.heap[eb]?=some (.cells #[v8] 52 (0,0))
def CS (W:World) (mb cb:Nat) (k:Nat):Prop:=k<W.heap.size/\k≠mb/\k≠cb
def mO (W:World) (wb eb:Nat) (z:oM) (w:World):Prop:=∃ so sn sc y,w.heap[wb]?=some (.cells (aO (.slice so sn sc) y) 46 (0,0))/\w.heap[eb]?=some (.cells #[.int .i64 z.2] 52 (0,0))/\bn w W.heap.size (.slice so sn sc) y.aC/\sn=y.aC.length/\(z.2=0->aO (.slice so sn sc) z.1=aO (.slice so sn sc) y/\z.1.aC=y.aC)
theorem CI.o7 {W w w':World} {mb cb wb eb:Nat} (hwb:CS W mb cb wb) (heb:CS W mb cb eb) (h:CI W mb cb wb eb w) (hs:w.heap.size<=w'.heap.size) (hb:∀ k,CS W mb cb k->k<w.heap.size->w'.heap[k]?=w.heap[k]?):CI W mb cb wb eb w':=by
 obtain⟨h1,h2,⟨c8,h3,h4⟩,⟨v8,h5⟩⟩:=h;exact⟨fun k a b c d e=>(hb k ⟨a,b,c⟩ oZ).trans (h1 k a b c d e),Nat.le_trans h2 hs,⟨c8,(hb _ hwb (lt_of_heap h3)).trans h3,h4⟩,⟨v8,(hb _ heb (lt_of_heap h5)).trans h5⟩⟩
theorem bn.mod {w w':World} {base:Nat} {v:Value} {l:List Sg} (h:bn w base v l) {k:Nat} {cc:Array Value} {t:TypeId} (hk:w.heap[k]?=some (.cells cc t (0,0))) (ht:t≠65) (hb:∀ j,j<w.heap.size->j≠k->w'.heap[j]?=w.heap[j]?):bn w' base v l:=by
 obtain⟨h0,h | ⟨g',cap,cur,k1,k2,k3,k4⟩⟩:=h
 ·exact⟨h0,.inl h⟩
 ·refine⟨h0,.inr ⟨g',cap,cur,k1,k2,(hb g' (lt_of_heap k3) (fun e=>?_)).trans k3,k4⟩⟩;subst e;rw[hk] at k3;injection k3 with k3
  injection k3 with _ k3 _
  exact absurd k3 ht
theorem mO.wu {W w w':World} {wb eb rb mb cb:Nat} {go:Option Nat} {st:St} {z:oM} (hwb:wb<W.heap.size) (heb:eb<W.heap.size) (hrb:W.heap.size<=rb) (h:mO W wb eb z w) (hr:RM w rb mb cb go true st) (hm:bB (fun k=>k=rb) w w'):mO W wb eb z w':=by
 obtain⟨so,sn,sc,y,h1,h2,h3,h4,h5⟩:=h;obtain⟨rcap,hrun⟩:=hr.run;exact⟨so,sn,sc,y,(hm.block _ (lt_of_heap h1) oZ).trans h1,(hm.block _ (lt_of_heap h2) oZ).trans h2,h3.mod hrun.rec_ dZ (fun j hj hne=>hm.block j hj hne),h4,h5⟩
theorem Fb {W:World} {rb mb cb:Nat} {Bd:Nat} {dd:Nat} {tt:Int} {ss:Nat->Int} {bk rm:Int} {kf bf:Nat} {a:Int} (ha0:0<=a) (ha1:a<=59000) {x:Sx} {nd:Nat} (hsegs:x.aC=[(a,(nd:Int),false)]) (hnd:nd<=60000) (hver:U x.bT) (id:Int) (og:Option Addr) (gc:Nat)
  (hB:Bd<1000000000) (hrb:W.heap.size<=rb) {bo bx bs pw pe Wb wb eb:Nat} {oc:Array Value} (hoc0:oc[0]?=some (.bool true)) (hoc:oc[1]?=some (.int .u32 id))
  (hT:∀ wr:World,Left W mb cb wb eb wr->eH wr og x.aC) (hPI:PI bo bx bs pw pe Wb wb eb oc (au (dd:Int) tt ss bk rm kf bf) (aO (.slice og 1 gc) x) W) (hD:∀ k∈[bo,bx,bs,pw,pe,Wb],k<W.heap.size/\k≠mb/\k≠cb/\k≠wb/\k≠eb) (hwe:wb≠eb) (hwb:CS W mb cb wb) (heb:CS W mb cb eb) :
  K9 54 #[.pointer (some ⟨bo,0,none⟩),.pointer (some ⟨bx,0,none⟩),.pointer (some ⟨bs,0,none⟩),.pointer (some ⟨pw,0,none⟩),.pointer (some ⟨pe,0,none⟩)] rb mb cb (CS W mb cb) (CI W mb cb wb eb) (mE id x) (mO W wb eb) Bd where
 enter:=fun args w=>rfl
 o7:=fun w w' h hs hb=>h.o7 hwb heb hs hb
 wu:=fun z w w' go st h hr hm=>h.wu hwb.1 heb.1 hrb hr hm
 old:=fun w h k hk=>Nat.lt_of_lt_of_le hk.1 h.size
 call:=fun w go st hrm hfine hoff hI hS=>by
  have hleft:∀ wr:World,(∀ k,k<w.heap.size->¬ fD rb mb cb go k->¬ S2 wb eb k->wr.heap[k]?=w.heap[k]?)->Left W mb cb wb eb wr:=fun wr h k a b c d e=>(h k (Nat.lt_of_lt_of_le a hI.size) (hS k ⟨a,b,c⟩) (by rintro(h1 | h1);exact d h1;exact e h1)).trans (hI.left k a b c d e);show Calls Tryz.prog 54 #[.pointer (some ⟨rb,0,none⟩),.pointer (some ⟨bo,0,none⟩),.pointer (some ⟨bx,0,none⟩),.pointer (some ⟨bs,0,none⟩),.pointer (some ⟨pw,0,none⟩),.pointer (some ⟨pe,0,none⟩)] w _
  have hpi:=hPI.keep (w':=w) (fun k hk _=>by
   obtain⟨a,b,c,d,e⟩:=hD k hk;exact hI.left k a b c d e)
  have hd2:∀ k∈[bo,bx,bs,pw,pe,Wb],k≠wb/\k≠eb/\¬ fD rb mb cb go k:=fun k hk=>by
   obtain⟨a,b,c,d,e⟩:=hD k hk;exact⟨d,e,hS k ⟨a,b,c⟩⟩
  refine(Ht ha0 ha1 hsegs hnd hver id og gc hrm hfine hB hoff (fun wr h=>hT wr (hleft wr h)) hoc0 hoc hpi hd2 hwe ⟨hS wb hwb,hS eb heb⟩ hI.w8 hI.e8).mono ?_;rintro e w' ⟨rfl,so,sn,sc,y,er,go',hrun,hpi2,h8,he,hown,hsn,hans⟩;refine⟨rfl,go',hrun.rm,⟨hrun.adv.grows,hrun.adv.mod.mono fun k _ hk=>hk.imp (fun h=>by rcases h with rfl | rfl;exact hwb;exact heb) (fun h=>h)⟩,⟨fun k a b c d e=>(hrun.keeps (Nat.lt_of_lt_of_le a hI.size) (by rintro(h1 | h1);exact d h1;exact e h1) (hS k ⟨a,b,c⟩)).trans (hI.left k a b c d e),Nat.le_trans hI.size hrun.size,⟨_,h8,rfl⟩,⟨_,he⟩⟩,?_⟩;intro z hz;obtain⟨h1,h2⟩:=hans z hz;exact⟨so,sn,sc,y,h8,by rw[h1];exact he,hown.lower hI.size,hsn,fun h0=>h2 (by rw[<- h1];exact h0)⟩
theorem Eu {W:World} {rb mb cb:Nat} {Bd:Nat} {dd:Nat} {tt:Int} {ss:Nat->Int} {bk rm:Int} {kf bf:Nat} (hok:ek (dd:Int) tt ss bk rm) {B S:Nat->Int} {C L:Int} {m:Nat} (hpl:ae (aA (aB ss bk rm)) (aB ss bk rm) (aA (aB ss bk rm) 6) (slotsOf tt) (bN (dd:Int) tt)=ae B S C (m:Int) L) (hL:Laid B S C) (hLv:L=1+4*(dd:Int)+(m:Int)) (hC:C<=50000) (hm0:1<=m) (hm1:m<=1000) (hdd:dd<=64) {x:Sx} {nd:Nat} (hsegs:x.aC=[(B 5,(nd:Int),false)]) (hnd:nd<=dd) (hused:∀ k,k<6->0<=x.used k/\x.used k<=S k) (hterms:0<=x.terms/\x.terms<=1000000) (hver:U x.bT) {id:Int} (hid:U id) (F:List ByteArray) (fo:Option Addr) (fc:Nat) (hFs:∀ f∈F,f.size<=1000000) (hFn:F.length<=1000000) (og:Option Addr) (gc:Nat)
  (hB:Bd<1000000000) (hrb:W.heap.size<=rb) {bo bx bs pw pe Wb wb eb:Nat} {oc:Array Value} (hoc0:oc[0]?=some (.bool false)) (hoc:∀ (j:Nat) (v:Value),#[Value.int .u32 id,.slice fo F.length fc].toList[j]?=some v->oc[1+j]?=some v)
  (hT:∀ wr:World,Left W mb cb wb eb wr->eH wr og x.aC/\fU wr fo F/\dE wr) (hPI:PI bo bx bs pw pe Wb wb eb oc (au (dd:Int) tt ss bk rm kf bf) (aO (.slice og 1 gc) x) W) (hD:∀ k∈[bo,bx,bs,pw,pe,Wb],k<W.heap.size/\k≠mb/\k≠cb/\k≠wb/\k≠eb) (hwe:wb≠eb) (hwb:CS W mb cb wb) (heb:CS W mb cb eb) :
  K9 54 #[.pointer (some ⟨bo,0,none⟩),.pointer (some ⟨bx,0,none⟩),.pointer (some ⟨bs,0,none⟩),.pointer (some ⟨pw,0,none⟩),.pointer (some ⟨pe,0,none⟩)] rb mb cb (CS W mb cb) (CI W mb cb wb eb) (jN B S m dd tt nd id F x) (mO W wb eb) Bd where
 enter:=fun args w=>rfl
 o7:=fun w w' h hs hb=>h.o7 hwb heb hs hb
 wu:=fun z w w' go st h hr hm=>h.wu hwb.1 heb.1 hrb hr hm
 old:=fun w h k hk=>Nat.lt_of_lt_of_le hk.1 h.size
 call:=fun w go st hrm hfine hoff hI hS=>by
  have hleft:∀ wr:World,(∀ k,k<w.heap.size->¬ fD rb mb cb go k->¬ S2 wb eb k->wr.heap[k]?=w.heap[k]?)->Left W mb cb wb eb wr:=fun wr h k a b c d e=>(h k (Nat.lt_of_lt_of_le a hI.size) (hS k ⟨a,b,c⟩) (by rintro(h1 | h1);exact d h1;exact e h1)).trans (hI.left k a b c d e);show Calls Tryz.prog 54 #[.pointer (some ⟨rb,0,none⟩),.pointer (some ⟨bo,0,none⟩),.pointer (some ⟨bx,0,none⟩),.pointer (some ⟨bs,0,none⟩),.pointer (some ⟨pw,0,none⟩),.pointer (some ⟨pe,0,none⟩)] w _
  have hpi:=hPI.keep (w':=w) (fun k hk _=>by
   obtain⟨a,b,c,d,e⟩:=hD k hk;exact hI.left k a b c d e)
  have hd2:∀ k∈[bo,bx,bs,pw,pe,Wb],k≠wb/\k≠eb/\¬ fD rb mb cb go k:=fun k hk=>by
   obtain⟨a,b,c,d,e⟩:=hD k hk;exact⟨d,e,hS k ⟨a,b,c⟩⟩
  refine(IR hok hpl hL hLv hC hm0 hm1 hdd hsegs hnd hused hterms hver hid F fo fc hFs hFn og gc hrm hfine hB hoff (fun wr h=>hT wr (hleft wr h)) hoc0 hoc hpi hd2 hwe ⟨hS wb hwb,hS eb heb⟩ hI.w8 hI.e8).mono ?_;rintro e w' ⟨rfl,so,sn,sc,y,er,go',hrun,hpi2,h8,he,hown,hsn,hans⟩;refine⟨rfl,go',hrun.rm,⟨hrun.adv.grows,hrun.adv.mod.mono fun k _ hk=>hk.imp (fun h=>by rcases h with rfl | rfl;exact hwb;exact heb) (fun h=>h)⟩,⟨fun k a b c d e=>(hrun.keeps (Nat.lt_of_lt_of_le a hI.size) (by rintro(h1 | h1);exact d h1;exact e h1) (hS k ⟨a,b,c⟩)).trans (hI.left k a b c d e),Nat.le_trans hI.size hrun.size,⟨_,h8,rfl⟩,⟨_,he⟩⟩,?_⟩;intro z hz;obtain⟨h1,h2⟩:=hans z hz;exact⟨so,sn,sc,y,h8,by rw[h1];exact he,hown.lower hI.size,hsn,fun h0=>h2 (by rw[<- h1];exact h0)⟩
theorem qD (w:World) (dd tt:Int) (ss:Nat->Int) (bk rm:Int) (kf bf:Nat) (pl st:Array Value) (hpl:pl.size=15) (vm vs:Value) (hone:vs.oneCell'=true) (x:Sx) (Wb wb eb:Nat) (b:Bool) (id:Int) (vf:Value) (hW:w.heap[Wb]?=some (.cells (aU (au dd tt ss bk rm kf bf) pl vm (aO vs x) st) 51 (0,0))) :
  Calls Tryz.prog 19 #[.pointer (some ⟨Wb,0,none⟩),.agg #[.bool b,.int .u32 id,vf],.pointer (some ⟨wb,0,none⟩),.pointer (some ⟨eb,0,none⟩)] w fun e w'=>e=.returned (.func (.func 54) #[] #[.pointer (some ⟨w.heap.size+1,0,none⟩),.pointer (some ⟨w.heap.size,0,none⟩),.pointer (some ⟨w.heap.size+1+1+1+1,0,none⟩),.pointer (some ⟨w.heap.size+1+1,0,none⟩),.pointer (some ⟨w.heap.size+1+1+1,0,none⟩)])/\Below w.heap.size w w'/\PI (w.heap.size+1) w.heap.size (w.heap.size+1+1+1+1) (w.heap.size+1+1) (w.heap.size+1+1+1) Wb wb eb #[.bool b,.int .u32 id,vf] (au dd tt ss bk rm kf bf) (aO vs x) w'/\w.heap.size+1+1+1+1<w'.heap.size:=by
 have HW:=hJ hW;have HPl:=hJ hpl;have HOne:=hJ hone;clear hW hpl hone;go_enter Tryz.func19,Tryz.ntmps19
 go_upto_region 1 with fail
 obtain⟨w0,hw0⟩:∃ w0,w0=(((w.alloc (.cells #[.pointer (some ⟨Wb,0,none⟩)] 27)).alloc (.cells #[.bool b,.int .u32 id,vf] 37)).alloc (.cells #[.pointer (some ⟨wb,0,none⟩)] 55)).alloc (.cells #[.pointer (some ⟨eb,0,none⟩)] 56):=⟨_,rfl⟩;rw[<- hw0];have hz:w0.heap.size=w.heap.size+1+1+1+1:=by rw[hw0];simp
 have HB:=hJ (show Below w.heap.size w w0 by rw[hw0];exact FZ);have H0:=hJ (show w0.heap[w.heap.size]?=some (.cells #[.pointer (some ⟨Wb,0,none⟩)] 27 (0,0)) by rw[hw0];exact Kl _ _ _ _ _);have H1:=hJ (show w0.heap[w.heap.size+1]?=some (.cells #[.bool b,.int .u32 id,vf] 37 (0,0)) by rw[hw0];exact Kw _ _ _ _ _);have H2:=hJ (show w0.heap[w.heap.size+1+1]?=some (.cells #[.pointer (some ⟨wb,0,none⟩)] 55 (0,0)) by rw[hw0];exact Ky _ _ _ _ _);have H3:=hJ (show w0.heap[w.heap.size+1+1+1]?=some (.cells #[.pointer (some ⟨eb,0,none⟩)] 56 (0,0)) by rw[hw0];exact Kz _ _ _ _ _);have HZ:=hJ hz;clear hw0 hz;have HW0:=hJ (ah HW.out HB.out);have c0:w0.cell? ⟨w.heap.size,0,none⟩=some (.pointer (some ⟨Wb,0,none⟩)):=aa H0.out 0
 go_upto_region 2 with (first
  | (refine dC rfl 46 (.tmp 12) rfl Wb 26 rfl 51 (aU (au dd tt ss bk rm kf bf) pl vm (aO vs x) st) (aO vs x) (0,0) _ HW0.out (lD rfl HPl.out) Tryz.underlying46 rfl (aK _ _) ?_)
  | (refine zZ rfl 46 (.tmp 9) (.tmp 13) rfl w0.heap.size (aO vs x) rfl rfl 46 (aO (.slice none 0 0) aJ) (nZ w0 _) (aK _ _) rfl (by simp[aO,Value.oneCell'];exact HOne.out) ?_)
  | fail)
 rw[World.setRow_alloc_new];have hb:=aj (w:=w0) (A:=.cells (aO vs x) 46);have HN:=hJ (nZ w0 (.cells (aO vs x) 46));have hz2:(w0.alloc (.cells (aO vs x) 46)).heap.size=w0.heap.size+1:=sZ;generalize w0.alloc (.cells (aO vs x) 46)=w1 at hb HN hz2 ⊢
 have HP:=hJ (show PI (w.heap.size+1) w.heap.size (w.heap.size+1+1+1+1) (w.heap.size+1+1) (w.heap.size+1+1+1) Wb wb eb #[.bool b,.int .u32 id,vf] (au dd tt ss bk rm kf bf) (aO vs x) w1 from
  ⟨ah H1.out hb,ah H0.out hb,⟨_,ah HW0.out hb,qi⟩,by rw[<- HZ.out];exact HN.out,ah H2.out hb,ah H3.out hb⟩)
 have HBw:=hJ (ag HB.out hb);have hlt:w.heap.size+1+1+1+1<w1.heap.size:=by rw[hz2,HZ.out];omega
 rw[HZ.out];clear c0 hb hz2;go_wp2_with fail
 go_ret;exact⟨rfl,HBw.out,HP.out,hlt⟩
end Go.Proofs.YtafaohnhlgcnpaaGreatDoor
