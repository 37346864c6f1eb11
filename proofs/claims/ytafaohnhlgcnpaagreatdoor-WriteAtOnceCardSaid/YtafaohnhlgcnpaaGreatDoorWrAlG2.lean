/-
 What stage 12 rests on.
-/
import Derived.Test.YtafaohnhlgcnpaaGreatDoorWrAlF3
set_option maxRecDepth 100000
set_option maxHeartbeats 16000000
namespace Go.Proofs.YtafaohnhlgcnpaaGreatDoor
open Go.RowKit
theorem Ar (w:World) (k:Nat) (hk:k<4):Calls Tryz.prog 162 #[.int .i64 k] w fun e w'=>e=.returned (.int .i64 (aN k-1))/\w'=w:=by
 have hs0:=dB k;have hs1:=d9 k;have HS:=hJ (fun w=>jq w k hk);obtain⟨s,hs⟩:∃ s,s=aN k:=⟨_,rfl⟩;rw[<- hs] at hs0 hs1 HS ⊢;have i1:IntKind.i64.wrap (s-1)=s-1:=iZ _ oZ;clear hs hk;go_enter Tryz.func162,Tryz.ntmps162
 go_wp2_with fail
 refine(HS.out _).mono ?_;rintro e w1 ⟨rfl,rfl⟩;go_wp2_with fail
 go_ret;exact⟨rfl,rfl⟩
theorem uO (w:World) (c:Int) (m k:Nat) (hc:c+1=(m:Int)) (hm:m<=4) (hk:k=if 3<m then 3 else m):Calls Tryz.prog 161 #[.int .i64 c] w fun e w'=>e=.returned (.int .i64 (k:Int))/\w'=w:=by
 have i4:IntKind.i64.wrap (m:Int)=(m:Int):=iZ _ oZ;have hkn:(if(3:Int)<(m:Int) then(3:Int) else(m:Int))=(k:Int):=by rw[hk];split <;> split <;> omega
 have hkb:∀ (ts:Array TypeId) (t:TypeId) (w:World),(Builtin.min_ ts t #[.int .i64 (m:Int),.int .i64 3]).run Tryz.prog w=.ok (.int .i64 (k:Int)) w:=fun ts t w=>by rw[run_min_int2,hkn]
 clear hk hkn;go_enter Tryz.func161,Tryz.ntmps161
 go_wp2_with fail
 go_ret;exact⟨rfl,rfl⟩
def j4 (B S:Nat->Int) (t:Int):Int:=if t=0 then -1 else if gu B S t=0 then 0 else mP B S t
def nD (B S:Nat->Int) (t:Int):Int:=if t=0 then 0 else if gu B S t=0 then 0 else aN (kI B S t)-1-gu B S t
theorem j6 {B S:Nat->Int} {C:Int} (hL:Laid B S C) {t:Int} (h:bG B S t):nD B S t=bY B S t/\∃ m:Nat,j4 B S t+1=(m:Int)/\m<=4/\bI B S t=if 3<m then 3 else m:=by
 unfold nD bY j4 bI;by_cases h0:t=0
 ·rw[if_pos h0,if_pos h0,if_pos h0,if_pos h0];exact⟨rfl,0,oZ,oZ,rfl⟩
 ·rw[if_neg h0,if_neg h0,if_neg h0,if_neg h0];rcases h with h | h
  ·exact absurd h h0
  ·have ha:=hL.at_ h;rw[if_neg oZ,if_neg oZ];refine⟨rfl,kI B S t+1,?_,oZ,?_⟩
   ·unfold mP;rw[if_pos ha.1];omega
   ·split <;> split <;> omega
theorem lM {B S:Nat->Int} {C:Int} (hL:Laid B S C) (T L t:Int) (w:World):Calls Tryz.prog 160 #[.agg (ae B S C T L),.int .i64 t] w fun e w'=>e=.returned (.tuple #[.int .i64 (j4 B S t),.int .i64 (nD B S t),.bool (decide (bG B S t))])/\Below w.heap.size w w':=by
 by_cases h0:t=0
 ·have hr:decide (bG B S t)=true:=decide_eq_true (.inl h0);have HE:=hJ (show j4 B S t=-1/\nD B S t=0/\decide (bG B S t)=true from⟨by unfold j4;rw[if_pos h0],by unfold nD;rw[if_pos h0],hr⟩);rw[HE.out.1,HE.out.2.1,HE.out.2.2];have hb:(t==0)=true:=by simpa using h0
  clear h0 hr HE;go_enter Tryz.func160,Tryz.ntmps160
  go_wp2_with fail
  refine tZ (v:=.tuple #[.int .i64 (-1),.int .i64 0,.bool true]) (by simp[results,Tryz.results160,go_sem]) rfl ⟨rfl,aj⟩
 ·have hb:(t==0)=false:=by simpa using h0
  have HC:=hJ (fun w=>(FX w B S C T L t hL.fit).mono fun _ _ h=>nV h);have hq0:=K7 hL t;by_cases h1:gu B S t=0
  ·have HE:=hJ (show j4 B S t=0/\nD B S t=0/\decide (bG B S t)=false from⟨by unfold j4;rw[if_neg h0,if_pos h1],by unfold nD;rw[if_neg h0,if_pos h1],decide_eq_false (by unfold bG;omega)⟩);rw[HE.out.1,HE.out.2.1,HE.out.2.2];rw[h1] at HC;obtain⟨k,hk⟩:∃ k,k=mP B S t:=⟨_,rfl⟩;rw[<- hk] at HC;clear h0 h1 HE hL hq0 hk;go_enter Tryz.func160,Tryz.ntmps160
   go_wp2_with (refine yZ rfl 42 (.tmp 2) rfl w.heap.size rfl 42 (ae B S C T L) (0,0) _ (nZ w _) Tryz.underlying42 rfl (ai _ _ _ _ _) ?_)
   refine(HC.out _).mono ?_;rintro e w1 ⟨rfl,hb1⟩;have HB:=hJ (ag aj hb1);clear hb1 HC;go_wp2_with fail
   refine tZ (v:=.tuple #[.int .i64 0,.int .i64 0,.bool false]) (by simp[results,Tryz.results160,go_sem]) rfl ⟨rfl,HB.out⟩
  ·have h2:0<gu B S t:=oZ;have ha:=hL.at_ h2;have HE:=hJ (show j4 B S t=((kI B S t:Nat):Int)/\nD B S t=aN (kI B S t)-1-gu B S t/\decide (bG B S t)=true from⟨by unfold j4 mP;rw[if_neg h0,if_neg h1,if_pos ha.1],by unfold nD;rw[if_neg h0,if_neg h1],decide_eq_true (.inr h2)⟩);rw[HE.out.1,HE.out.2.1,HE.out.2.2];have hki:mP B S t=((kI B S t:Nat):Int):=by unfold mP;rw[if_pos ha.1]
   rw[hki] at HC;obtain⟨ha1,ha2,ha3,ha4⟩:=ha;clear HE hki;obtain⟨k,hk⟩:∃ k,k=kI B S t:=⟨_,rfl⟩;obtain⟨q,hq⟩:∃ q,q=gu B S t:=⟨_,rfl⟩;rw[<- hk] at ha1 ha4 HC ⊢;rw[<- hq] at h1 h2 ha4 HC ⊢;have hs0:=dB k;have hs1:=d9 k;have HW:=hJ (fun w=>Ar w k ha1);obtain⟨s,hs⟩:∃ s,s=aN k:=⟨_,rfl⟩;rw[<- hs] at hs0 hs1 HW ha4 ⊢;have hqb:(q==0)=false:=by simpa using h1
   have i1:IntKind.i64.wrap (s-1-q)=s-1-q:=iZ _ oZ;clear h0 h1 hL hs hk hq;go_enter Tryz.func160,Tryz.ntmps160
   go_wp2_with (refine yZ rfl 42 (.tmp 2) rfl w.heap.size rfl 42 (ae B S C T L) (0,0) _ (nZ w _) Tryz.underlying42 rfl (ai _ _ _ _ _) ?_)
   refine(HC.out _).mono ?_;rintro e w1 ⟨rfl,hb1⟩;have HB:=hJ (ag aj hb1);clear hb1 HC;go_wp2_with fail
   refine(HW.out _).mono ?_;rintro e w2 ⟨rfl,rfl⟩;go_wp2_with fail
   refine tZ (v:=.tuple #[.int .i64 (k:Int),.int .i64 (s-1-q),.bool true]) (by simp[results,Tryz.results160,go_sem]) rfl ⟨rfl,HB.out⟩
/-! ### The program, case by case -/
section
variable {B S U:Nat->Int} {t v:Int}
theorem IM (h:¬ bG B S t):eP B S U t v=.ret (0,fun _=>0,1):=by unfold eP;rw[if_neg h]
theorem BL (h:0<bY B S t):bU B S t=none:=by
 unfold bY at h;unfold bU;by_cases h0:t=0
 ·rw[if_pos h0] at h;omega
 ·rw[if_neg h0] at h ⊢;rw[if_pos oZ]
theorem nN (h:bY B S t=0):bU B S t=some (bI B S t):=by
 unfold bY at h;unfold bU bI;by_cases h0:t=0
 ·rw[if_pos h0,if_pos h0]
 ·rw[if_neg h0] at h ⊢;rw[if_neg oZ,if_neg h0]
theorem Jt (hr:bG B S t) (h:0<bY B S t):eP B S U t v=.store (t+1) v (.ret (t+1,U,0)):=by
 unfold eP;rw[if_pos hr,BL h]
theorem Fj (hr:bG B S t) (h:bY B S t=0) {k:Nat} (hk:bI B S t=k) (hf:¬ aN k<=S k-U k):eP B S U t v=.ret (0,fun _=>0,3):=by
 unfold eP;rw[if_pos hr,nN h,hk];simp only;rw[if_neg hf]
theorem Ja (hr:bG B S t) (h:bY B S t=0) {k:Nat} (hk:bI B S t=k) (hf:aN k<=S k-U k) (h0:t=0):eP B S U t v=.store (B k+U k+1) v (.ret (B k+U k+1,more U k (aN k),0)):=by
 unfold eP;rw[if_pos hr,nN h,hk];simp only;rw[if_pos hf,if_pos h0]
theorem Fz (hr:bG B S t) (h:bY B S t=0) {k:Nat} (hk:bI B S t=k) (hf:aN k<=S k-U k) (h0:t≠0):eP B S U t v=.store (B k+U k) t (.store (B k+U k+1) v (.ret (B k+U k+1,more U k (aN k),0))):=by
 unfold eP;rw[if_pos hr,nN h,hk];simp only;rw[if_pos hf,if_neg h0]
end
/-! ### Where all lies -/
theorem RM.Je {w:World} {rb mb cb:Nat} {go:Option Nat} {st:St} (h:RM w rb mb cb go true st) {k:Nat} {c:Array Value} {t:TypeId} (hk:w.heap[k]?=some (.cells c t (0,0))) (h1:k≠rb) (h2:k≠mb) (h3:k≠cb) (ht:t≠32):¬ fD rb mb cb go k:=by
 rintro(e | e | e | e)
 ·exact h1 e
 ·obtain⟨cap,hr⟩:=h.run;have hl:=hr.row;rw[e] at hl;obtain⟨cur,h4,_⟩:=hl;rw[h4] at hk;injection hk with hk
  injection hk with _ h5
  exact ht h5.symm
 ·exact h2 e
 ·exact h3 e
structure PW (W:World) (rb mb cb:Nat) (go0:Option Nat) (B S U:Nat->Int) (C T L:Int) (st:St) (go:Option Nat) (w:World):Prop where
 old:rb<W.heap.size/\mb<W.heap.size/\cb<W.heap.size
 p:w.heap[W.heap.size]?=some (.cells (ae B S C T L) 42 (0,0))
 u:w.heap[W.heap.size+1]?=some (.cells (six U) 40 (0,0))
 r:w.heap[W.heap.size+1+1]?=some (.cells (six fun _=>0) 40 (0,0))
 rm:RM w rb mb cb go true st
 adv:jl rb mb cb W go0 w go
section
variable {W w w':World} {rb mb cb:Nat} {go0 go go':Option Nat} {B S U:Nat->Int} {C T L:Int} {st st':St}
theorem PW.below (h:PW W rb mb cb go0 B S U C T L st go w) (hb:Below w.heap.size w w'):PW W rb mb cb go0 B S U C T L st go w' :=
 ⟨h.old,(hb.block _ (lt_of_heap h.p)).trans h.p,(hb.block _ (lt_of_heap h.u)).trans h.u,(hb.block _ (lt_of_heap h.r)).trans h.r,h.rm.below hb,h.adv.trans (jl.of_below hb)⟩
theorem PW.drew (h:PW W rb mb cb go0 B S U C T L st go w):PW W rb mb cb go0 B S U C T L st go w.drew:=h.below (Below.refl _ _).drew
theorem PW.stays (h:PW W rb mb cb go0 B S U C T L st go w) (ha:jl rb mb cb w go w' go') {k:Nat} {c:Array Value} {t:TypeId} (hk:w.heap[k]?=some (.cells c t (0,0))) (hW:W.heap.size<=k) (ht:t≠32):w'.heap[k]?=some (.cells c t (0,0)):=by
 obtain⟨o1,o2,o3⟩:=h.old;exact(ha.mod.block k (lt_of_heap hk) (h.rm.Je hk oZ oZ oZ ht)).trans hk
theorem PW.access (h:PW W rb mb cb go0 B S U C T L st go w) (hr:RM w' rb mb cb go' true st') (ha:jl rb mb cb w go w' go'):PW W rb mb cb go0 B S U C T L st' go' w' :=
 ⟨h.old,h.stays ha h.p (Nat.le_refl _) dZ,h.stays ha h.u oZ dZ,h.stays ha h.r oZ dZ,hr,h.adv.trans ha⟩
theorem PW.turn (h:PW W rb mb cb go0 B S U C T L st go w) {k:Nat} {c:Array Value} (hk:w.heap[k]?=some (.cells c 40 (0,0))) (hW:W.heap.size<=k) (cs:Array Value):RM (w.setRow k cs) rb mb cb go true st/\jl rb mb cb W go0 (w.setRow k cs) go:=by
 obtain⟨o1,o2,o3⟩:=h.old;have hf:=h.rm.Je hk oZ oZ oZ dZ;have hm:bB (fun j=>j=k) w (w.setRow k cs):=bB.setRow (S:=fun j=>j=k) (bB.refl _ _) (.inr rfl) _;exact⟨h.rm.mod hm fun j hj e=>by subst e;exact hf hj,h.adv.grows,h.adv.mod.then hm fun i hi e=>oZ⟩
theorem PW.setRow (h:PW W rb mb cb go0 B S U C T L st go w) {k:Nat} {c:Array Value} (hk:w.heap[k]?=some (.cells c 40 (0,0))) (hW:W.heap.size+1+1<k) (cs:Array Value):PW W rb mb cb go0 B S U C T L st go (w.setRow k cs) :=
 ⟨h.old,(qZ _ _ _ _ oZ).trans h.p,(qZ _ _ _ _ oZ).trans h.u,(qZ _ _ _ _ oZ).trans h.r,(h.turn hk oZ cs).1,(h.turn hk oZ cs).2⟩
theorem PW.start {w:World} {rb mb cb:Nat} {go:Option Nat} {st:St} (hrm:RM w rb mb cb go true st) (B S U:Nat->Int) (C T L:Int):PW w rb mb cb go B S U C T L st go (((w.alloc (.cells (ae B S C T L) 42)).alloc (.cells (six U) 40)).alloc (.cells (six fun _=>0) 40)) :=
 ⟨⟨hrm.lt rb (.inl rfl),hrm.lt mb (.inr (.inr (.inl rfl))),hrm.lt cb (.inr (.inr (.inr rfl)))⟩,dN _ _ _ _,dM _ _ _ _,dS _ _ _ _,hrm.below bi,jl.of_below bi⟩
end
def nY (W:World) (rb mb cb:Nat) (go0:Option Nat) (st:St) (p:Pr su) (e:Ending) (w':World):Prop :=
 ∃ t' V er go',e=.returned (.tuple #[.int .i64 t',.agg (six V),.int .i64 er])/\RM w' rb mb cb go' true (p.on st).2/\jl rb mb cb W go0 w' go'/\∀ x,(p.on st).1=some x->x.1=t'/\six x.2.1=six V/\x.2.2=er
section
variable {w:World} {rb mb cb:Nat} {go:Option Nat} {st:St} {Bd:Nat} {B S U:Nat->Int} {C T L t v:Int}
theorem KA (hrm:RM w rb mb cb go true st) (hf:st.dO Bd) (hL:Laid B S C) (hr:¬ bG B S t):Calls Tryz.prog 165 #[.pointer (some ⟨rb,0,none⟩),.agg (ae B S C T L),.agg (six U),.int .i64 t,.int .u32 v] w fun e w'=>nY w rb mb cb go st (eP B S U t v) e w':=by
 have HQ:=hJ (IM (U:=U) (v:=v) hr);rw[HQ.out];have HRm:=hJ (fun w=>lM hL T L t w);rw[decide_eq_false hr] at HRm;obtain⟨rk,hrk⟩:∃ rk,rk=j4 B S t:=⟨_,rfl⟩;obtain⟨rf,hrf⟩:∃ rf,rf=nD B S t:=⟨_,rfl⟩;rw[<- hrk,<- hrf] at HRm;clear hrk hrf HQ hr hL;have hP:=PW.start hrm B S U C T L;have HF:=hJ hf;clear hrm hf;go_enter Tryz.func165,Tryz.ntmps165
 go_upto_region 1 with fail
 have hw:(((w.alloc (.cells (ae B S C T L) 42)).alloc (.cells (six U) 40)).alloc (.cells #[.int .i64 0,.int .i64 0,.int .i64 0,.int .i64 0,.int .i64 0,.int .i64 0] 40))=(((w.alloc (.cells (ae B S C T L) 42)).alloc (.cells (six U) 40)).alloc (.cells (six fun _=>0) 40)):=rfl;rw[hw];clear hw;generalize (((w.alloc (.cells (ae B S C T L) 42)).alloc (.cells (six U) 40)).alloc (.cells (six fun _=>0) 40))=w1 at hP ⊢;have HP:=hJ hP;clear hP;go_wp2_with (refine yZ rfl 42 (.tmp 6) rfl w.heap.size rfl 42 (ae B S C T L) (0,0) _ HP.out.p Tryz.underlying42 rfl (ai _ _ _ _ _) ?_)
 refine(HRm.out _).mono ?_;rintro e w2 ⟨rfl,hb⟩;have HP:=hJ (HP.out.below hb);clear hb HRm;go_wp2_with (refine zZ rfl 40 (.tmp 11) (.tmp 28) rfl (w.heap.size+1+1) (six fun _=>0) rfl rfl 40 (six fun _=>0) HP.out.r (af _) (aS _ _) (aQ _) ?_)
 refine tZ (v:=.tuple #[.int .i64 0,.agg (six fun _=>0),.int .i64 1]) (bE rfl _ _ (w.heap.size+1+1) _ _ (0,0) _ _ _ rfl rfl rfl (setRow_heap _ _ _ _ _ _ HP.out.r) Tryz.underlying40 rfl (af _)) rfl ?_;obtain⟨hr,ha⟩:=HP.out.turn HP.out.r oZ (six fun _=>0);exact⟨0,fun _=>0,1,go,rfl,hr,ha,fun x hx=>by cases hx;exact⟨rfl,rfl,rfl⟩⟩
theorem Ke (hrm:RM w rb mb cb go true st) (hf:st.dO Bd) (hB:Bd<1000000000) (hL:Laid B S C) (hr:bG B S t) (hl:0<bY B S t) (v0:0<=v) (v1:v<=4294967295):Calls Tryz.prog 165 #[.pointer (some ⟨rb,0,none⟩),.agg (ae B S C T L),.agg (six U),.int .i64 t,.int .u32 v] w fun e w'=>nY w rb mb cb go st (eP B S U t v) e w':=by
 have HQ:=hJ (Jt (U:=U) (v:=v) hr hl);rw[HQ.out];have HRm:=hJ (fun w=>lM hL T L t w);obtain⟨hrf,m,hm,hm4,hnx⟩:=j6 hL hr;rw[decide_eq_true hr,hrf] at HRm
 have ht:0<=t/\t<=65536:=by
  rcases hr with h | h
  ·omega
  ·have:=hL.at_ h;have:=hL.c1;omega
 obtain⟨ht0,ht1⟩:=ht;obtain⟨rf,hrf2⟩:∃ rf,rf=bY B S t:=⟨_,rfl⟩;obtain⟨rk,hrk⟩:∃ rk,rk=j4 B S t:=⟨_,rfl⟩;rw[<- hrk,<- hrf2] at HRm;rw[<- hrf2] at hl;have s1:IntKind.i64.wrap (t+1)=t+1:=iZ _ oZ;have HV:=hJ (show u32 v=v from u32_in ⟨v0,oZ⟩);clear hrk hrf hrf2 HQ hr hL hm hm4 hnx m v0 v1;have hP:=PW.start hrm B S U C T L;have HF:=hJ hf;clear hrm hf;go_enter Tryz.func165,Tryz.ntmps165
 go_upto_region 1 with fail
 have hw:(((w.alloc (.cells (ae B S C T L) 42)).alloc (.cells (six U) 40)).alloc (.cells #[.int .i64 0,.int .i64 0,.int .i64 0,.int .i64 0,.int .i64 0,.int .i64 0] 40))=(((w.alloc (.cells (ae B S C T L) 42)).alloc (.cells (six U) 40)).alloc (.cells (six fun _=>0) 40)):=rfl;rw[hw];clear hw;generalize (((w.alloc (.cells (ae B S C T L) 42)).alloc (.cells (six U) 40)).alloc (.cells (six fun _=>0) 40))=w1 at hP ⊢;have HP:=hJ hP;clear hP;go_wp2_with (refine yZ rfl 42 (.tmp 6) rfl w.heap.size rfl 42 (ae B S C T L) (0,0) _ HP.out.p Tryz.underlying42 rfl (ai _ _ _ _ _) ?_)
 refine(HRm.out _).mono ?_;rintro e w2 ⟨rfl,hb⟩;have HP:=hJ (HP.out.below hb);clear hb HRm;have HK:=hJ (run_store HP.out.rm hB HF.out.ok (t+1) v);go_wp2_with fail
 refine HK.out.mono ?_;clear HK;rintro e w9 ⟨rfl,go3,hr3,ha3⟩;have HP:=hJ (HP.out.access hr3 ha3);clear hr3 ha3;go_upto_region 6 with fail
 have e0:w9.cell? ⟨w.heap.size+1,0,none⟩=some (.int .i64 (U 0)):=aa HP.out.u 0;have e1:w9.cell? ⟨w.heap.size+1,1,none⟩=some (.int .i64 (U 1)):=aa HP.out.u 1;have e2:w9.cell? ⟨w.heap.size+1,2,none⟩=some (.int .i64 (U 2)):=aa HP.out.u 2;have e3:w9.cell? ⟨w.heap.size+1,3,none⟩=some (.int .i64 (U 3)):=aa HP.out.u 3;have e4:w9.cell? ⟨w.heap.size+1,4,none⟩=some (.int .i64 (U 4)):=aa HP.out.u 4;have e5:w9.cell? ⟨w.heap.size+1,5,none⟩=some (.int .i64 (U 5)):=aa HP.out.u 5;go_still_tail 4,kZ
 change wpList _ _ _ _ _ w9.drew;clear e0 e1 e2 e3 e4 e5
 go_wp2_with (first
  | (refine zZ rfl 40 (.tmp 11) (.tmp 38) rfl (w.heap.size+1+1) (six U) rfl rfl 40 (six fun _=>0) (show w9.drew.heap[w.heap.size+1+1]?=_ from HP.out.r) (af _) (aS _ _) (aQ _) ?_)
  | fail)
 refine tZ (v:=.tuple #[.int .i64 (t+1),.agg (six U),.int .i64 0]) (bE rfl _ _ (w.heap.size+1+1) _ _ (0,0) _ _ _ rfl rfl rfl (setRow_heap _ _ _ _ _ _ (show w9.drew.heap[w.heap.size+1+1]?=_ from HP.out.r)) Tryz.underlying40 rfl (af _)) rfl ?_;obtain⟨hr,ha⟩:=HP.out.drew.turn HP.out.r oZ (six U);have ho:=CZ (st:=st) (t+1) v ((t+1,U,0):su);rw[HV.out] at ho;exact⟨_,_,_,go3,rfl,by rw[ho.1];exact hr,ha,fun x hx=>by rw[ho.2 x hx];exact⟨rfl,rfl,rfl⟩⟩
theorem Jv (hrm:RM w rb mb cb go true st) (hf:st.dO Bd) (hL:Laid B S C) (hU:∀ k,k<6->0<=U k/\U k<=S k) (hr:bG B S t) (hl:bY B S t=0) (hf2:¬ aN (bI B S t)<=S (bI B S t)-U (bI B S t)) (v0:0<=v) (v1:v<=4294967295):Calls Tryz.prog 165 #[.pointer (some ⟨rb,0,none⟩),.agg (ae B S C T L),.agg (six U),.int .i64 t,.int .u32 v] w fun e w'=>nY w rb mb cb go st (eP B S U t v) e w':=by
 have HQ:=hJ (Fj (U:=U) (v:=v) hr hl rfl hf2);rw[HQ.out];have HRm:=hJ (fun w=>lM hL T L t w);obtain⟨hrf,m,hm,hm4,hnx⟩:=j6 hL hr;rw[decide_eq_true hr,hrf] at HRm;rw[hl] at HRm;have hk4:bI B S t<4:=(lL hL hr).2.2
 have ht:0<=t/\t<=65536:=by
  rcases hr with h | h
  ·omega
  ·have:=hL.at_ h;have:=hL.c1;omega
 obtain⟨ht0,ht1⟩:=ht;obtain⟨rk,hrk⟩:∃ rk,rk=j4 B S t:=⟨_,rfl⟩;rw[<- hrk] at HRm hm;obtain⟨k,hk⟩:∃ k,k=bI B S t:=⟨_,rfl⟩;rw[<- hk] at hk4 hnx hf2;have HN:=hJ (fun w=>uO w rk m k hm hm4 hnx);have HSl:=hJ (fun w=>jq w k hk4);have hp6:=hL.pool (show k<6 by omega);have hu6:=hU k oZ;have sl0:=dB k;have sl1:=d9 k;have HT:=hJ (fun w=>oh w B S U C T L (aN k) k oZ oZ hu6.1 hu6.2 oZ oZ);obtain⟨s,hs⟩:∃ s,s=aN k:=⟨_,rfl⟩;rw[<- hs] at HSl HT sl0 sl1;obtain⟨lk,hlk⟩:∃ lk,lk=B k+U k:=⟨_,rfl⟩;have hlk0:0<=lk/\lk<=65536:=oZ;obtain⟨lk0,lk1⟩:=hlk0;have s1:IntKind.i64.wrap (lk+1)=lk+1:=iZ _ oZ;have s2:IntKind.u32.wrap t=t:=IntWalk.u32_in _ oZ;have HV:=hJ (show u32 v=v/\u32 t=t from⟨u32_in ⟨v0,oZ⟩,u32_in ⟨ht0,oZ⟩⟩);clear hrk hrf HQ hr hL hm hm4 hnx m v0 v1 hk hs hlk hp6 hu6 hU hl hf2;have hP:=PW.start hrm B S U C T L;have HF:=hJ hf;clear hrm hf;go_enter Tryz.func165,Tryz.ntmps165
 go_upto_region 1 with fail
 have hw:(((w.alloc (.cells (ae B S C T L) 42)).alloc (.cells (six U) 40)).alloc (.cells #[.int .i64 0,.int .i64 0,.int .i64 0,.int .i64 0,.int .i64 0,.int .i64 0] 40))=(((w.alloc (.cells (ae B S C T L) 42)).alloc (.cells (six U) 40)).alloc (.cells (six fun _=>0) 40)):=rfl;rw[hw];clear hw;generalize (((w.alloc (.cells (ae B S C T L) 42)).alloc (.cells (six U) 40)).alloc (.cells (six fun _=>0) 40))=w1 at hP ⊢;have HP:=hJ hP;clear hP;go_wp2_with (refine yZ rfl 42 (.tmp 6) rfl w.heap.size rfl 42 (ae B S C T L) (0,0) _ HP.out.p Tryz.underlying42 rfl (ai _ _ _ _ _) ?_)
 refine(HRm.out _).mono ?_;rintro e w2 ⟨rfl,hb⟩;have HP:=hJ (HP.out.below hb);clear hb HRm;go_wp2_with fail
 refine(HN.out _).mono ?_;rintro e w3 ⟨rfl,rfl⟩;clear HN;go_upto_region 8 with fail
 go_cut [16,17,18] (fun lv pv ev wx=>∃ q,lv=.int .i64 0/\pv=.pointer (some ⟨q,0,none⟩)/\ev=.int .i64 3/\w.heap.size+1+1<q/\Hid (wx.heap[q]?=some (.cells (six (fun _=>0)) 40 (0,0)))/\Hid (PW w rb mb cb go B S U C T L st go wx))
 case first =>
  refine aL (fun(q:Nat) j=>[.agg (ae B S C T L),.agg (six U),.int .i64 (k:Int),.int .i64 (k:Int),.int .i64 s,.tuple #[.int .i64 0,.agg (six (fun _=>0)),.int .i64 3],.tuple #[.int .i64 0,.agg (six (fun _=>0)),.int .i64 3],.int .i64 0,.agg (six (fun _=>0)),.int .i64 3,.pointer (some ⟨q,0,none⟩),.int .i64 0,undef,.int .i64 3].getD j undef)
   (fun q l wx=>PW w rb mb cb go B S U C T L st go wx/\(l 12=true->l 10=true)/\(l 10=true->w.heap.size+1+1<q/\wx.heap[q]?=some (.cells (six (if l 12 then(fun _=>0) else fun _=>0)) 40 (0,0))))
   kZ kZ pZ 0 ?_ ?_ ?_
  ·exact⟨HP.out.drew,(fun h=>by cases h),fun h=>by cases h⟩
  ·intro i o ho q l wx hR hl he K hK;have hsz:=lt_of_heap hR.1.r;have hbel:∀ w2:World,Below wx.heap.size wx w2->PW w rb mb cb go B S U C T L st go w2/\(l 12=true->l 10=true)/\(l 10=true->w.heap.size+1+1<q/\w2.heap[q]?=some (.cells (six (if l 12 then(fun _=>0) else fun _=>0)) 40 (0,0))):=fun w2 hb2=>⟨hR.1.below hb2,hR.2.1,fun h6=>⟨(hR.2.2 h6).1,(hb2.block q (lt_of_heap (hR.2.2 h6).2)).trans (hR.2.2 h6).2⟩⟩;rcases i with _|_|_|_|_|_|_|_|_|_|_|_|_|_|i
   any_goals first | (cases ho;go_simp;exact hK q wx (fun _ _=>rfl) hR;done) | fail
   ·cases ho;exact aP rfl 42 (.tmp 6) rfl w.heap.size rfl 42 (ae B S C T L) (0,0) _ hR.1.p Tryz.underlying42 rfl (ai _ _ _ _ _) (hK q wx (fun _ _=>rfl) hR)
   ·cases ho;exact aP rfl 40 (.tmp 7) rfl (w.heap.size+1) rfl 40 (six U) (0,0) _ hR.1.u Tryz.underlying40 rfl (af _) (hK q wx (fun _ _=>rfl) hR)
   ·cases ho;go_simp;refine(HSl.out _).mono ?_;rintro e w2 ⟨rfl,rfl⟩;exact hK q _ (fun _ _=>rfl) hR
   ·cases ho;go_simp;refine(HT.out _).mono ?_;rintro e w2 ⟨rfl,hb2⟩;exact hK q w2 (fun _ _=>rfl) (hbel w2 hb2)
   ·cases ho;go_simp;refine hK wx.heap.size _ (fun j hj=>?_) ⟨hR.1.below aj,(fun _=>rfl),fun _=>⟨oZ,?_⟩⟩
    ·rcases j with _|_|_|_|_|_|_|_|_|_|_|_|_|_|j
     all_goals first | rfl | (rw[hl] at hj;cases hj)
    ·have h12:l 12=false:=by
      cases h:l 12 with
      | false=>rfl
      | true=>have:=hR.2.1 h;rw[hl] at this;cases this
     rw[if_neg (by show ¬ ((12==10||l 12)=true);rw[h12];decide)];exact nZ _ _
   ·cases ho;have h10:=he ⟨10,.data⟩ sZ rfl;obtain⟨hq1,hq2⟩:=hR.2.2 h10;rw[if_neg lZ] at hq2;refine wp_store_row 40 (.tmp 17) (.tmp 49) rfl q (six (fun _=>0)) rfl rfl 40 _ hq2 (af _) (aS _ _) (aQ _) ?_;exact hK q _ (fun _ _=>rfl) ⟨hR.1.setRow hq2 hq1 _,(fun _=>h10),fun _=>⟨hq1,setRow_heap _ _ _ _ _ _ hq2⟩⟩
   ·simp at ho
  ·intro q l wx hl hR;have h10:=hl 10 dZ;have h12:=hl 12 dZ;obtain⟨hq1,hq2⟩:=hR.2.2 h10;rw[if_pos h12] at hq2;have HR1:=hJ hR.1;have HQ2:=hJ hq2;clear hR hq2 HP HSl HT;go_wp2_with fail
   go_meet
   exact⟨q,rfl,rfl,rfl,hq1,HQ2,HR1⟩
 case rest =>
  clear HP HSl HT;obtain⟨q,rfl,rfl,rfl,hq1,HQ2,HP⟩:=hcut;go_wp2_with (refine zZ rfl 40 (.tmp 11) (.tmp 53) rfl (w.heap.size+1+1) (six fun _=>0) rfl rfl 40 (six fun _=>0) HP.out.r (af _) (aS _ _) (aQ _) ?_)
  refine tZ (v:=.tuple #[.int .i64 0,.agg (six fun _=>0),.int .i64 3]) (bE rfl _ _ (w.heap.size+1+1) _ _ (0,0) _ _ _ rfl rfl rfl (setRow_heap _ _ _ _ _ _ HP.out.r) Tryz.underlying40 rfl (af _)) rfl ?_;obtain⟨hr,ha⟩:=HP.out.turn HP.out.r oZ (six fun _=>0);exact⟨0,fun _=>0,3,go,rfl,hr,ha,fun x hx=>by cases hx;exact⟨rfl,rfl,rfl⟩⟩
theorem KJ (hrm:RM w rb mb cb go true st) (hf:st.dO Bd) (hB:Bd<1000000000) (hL:Laid B S C) (hU:∀ k,k<6->0<=U k/\U k<=S k) (hr:bG B S t) (hl:bY B S t=0) (hf2:aN (bI B S t)<=S (bI B S t)-U (bI B S t)) (hz:t=0) (v0:0<=v) (v1:v<=4294967295):Calls Tryz.prog 165 #[.pointer (some ⟨rb,0,none⟩),.agg (ae B S C T L),.agg (six U),.int .i64 t,.int .u32 v] w fun e w'=>nY w rb mb cb go st (eP B S U t v) e w':=by
 have HQ:=hJ (Ja (U:=U) (v:=v) hr hl rfl hf2 hz);rw[HQ.out];have HRm:=hJ (fun w=>lM hL T L t w);obtain⟨hrf,m,hm,hm4,hnx⟩:=j6 hL hr;rw[decide_eq_true hr,hrf] at HRm;rw[hl] at HRm;have hk4:bI B S t<4:=(lL hL hr).2.2
 have ht:0<=t/\t<=65536:=by
  rcases hr with h | h
  ·omega
  ·have:=hL.at_ h;have:=hL.c1;omega
 obtain⟨ht0,ht1⟩:=ht;obtain⟨rk,hrk⟩:∃ rk,rk=j4 B S t:=⟨_,rfl⟩;rw[<- hrk] at HRm hm;obtain⟨k,hk⟩:∃ k,k=bI B S t:=⟨_,rfl⟩;rw[<- hk] at hk4 hnx hf2 ⊢;have HN:=hJ (fun w=>uO w rk m k hm hm4 hnx);have HSl:=hJ (fun w=>jq w k hk4);have hp6:=hL.pool (show k<6 by omega);have hu6:=hU k oZ;have sl0:=dB k;have sl1:=d9 k;have HT:=hJ (fun w=>om w B S U C T L (aN k) k oZ oZ hu6.1 hu6.2 oZ oZ oZ oZ);obtain⟨s,hs⟩:∃ s,s=aN k:=⟨_,rfl⟩;rw[<- hs] at HSl HT sl0 sl1 hf2 ⊢;obtain⟨lk,hlk⟩:∃ lk,lk=B k+U k:=⟨_,rfl⟩;obtain⟨V,hV⟩:∃ V,V=more U k s:=⟨_,rfl⟩;rw[<- hlk] at HT ⊢;rw[<- hV] at HT ⊢;clear hV;have hlk0:0<=lk/\lk<=65536:=oZ;obtain⟨lk0,lk1⟩:=hlk0;have s1:IntKind.i64.wrap (lk+1)=lk+1:=iZ _ oZ;have HZ:=hJ hz;clear hz;have s2:IntKind.u32.wrap t=t:=IntWalk.u32_in _ oZ;have HV:=hJ (show u32 v=v/\u32 t=t from⟨u32_in ⟨v0,oZ⟩,u32_in ⟨ht0,oZ⟩⟩);clear hrk hrf HQ hr hL hm hm4 hnx m v0 v1 hk hs hlk hp6 hu6 hU hl hf2;have hP:=PW.start hrm B S U C T L;have HF:=hJ hf;clear hrm hf;go_enter Tryz.func165,Tryz.ntmps165
 go_upto_region 1 with fail
 have hw:(((w.alloc (.cells (ae B S C T L) 42)).alloc (.cells (six U) 40)).alloc (.cells #[.int .i64 0,.int .i64 0,.int .i64 0,.int .i64 0,.int .i64 0,.int .i64 0] 40))=(((w.alloc (.cells (ae B S C T L) 42)).alloc (.cells (six U) 40)).alloc (.cells (six fun _=>0) 40)):=rfl;rw[hw];clear hw;generalize (((w.alloc (.cells (ae B S C T L) 42)).alloc (.cells (six U) 40)).alloc (.cells (six fun _=>0) 40))=w1 at hP ⊢;have HP:=hJ hP;clear hP;go_wp2_with (refine yZ rfl 42 (.tmp 6) rfl w.heap.size rfl 42 (ae B S C T L) (0,0) _ HP.out.p Tryz.underlying42 rfl (ai _ _ _ _ _) ?_)
 refine(HRm.out _).mono ?_;rintro e w2 ⟨rfl,hb⟩;have HP:=hJ (HP.out.below hb);clear hb HRm;go_wp2_with fail
 refine(HN.out _).mono ?_;rintro e w3 ⟨rfl,rfl⟩;clear HN;go_upto_region 8 with fail
 go_cut [16,17,18] (fun lv pv ev wx=>∃ q,lv=.int .i64 lk/\pv=.pointer (some ⟨q,0,none⟩)/\ev=.int .i64 0/\w.heap.size+1+1<q/\Hid (wx.heap[q]?=some (.cells (six (V)) 40 (0,0)))/\Hid (PW w rb mb cb go B S U C T L st go wx))
 case first =>
  refine aL (fun(q:Nat) j=>[.agg (ae B S C T L),.agg (six U),.int .i64 (k:Int),.int .i64 (k:Int),.int .i64 s,.tuple #[.int .i64 lk,.agg (six (V)),.int .i64 0],.tuple #[.int .i64 lk,.agg (six (V)),.int .i64 0],.int .i64 lk,.agg (six (V)),.int .i64 0,.pointer (some ⟨q,0,none⟩),.int .i64 lk,undef,.int .i64 0].getD j undef)
   (fun q l wx=>PW w rb mb cb go B S U C T L st go wx/\(l 12=true->l 10=true)/\(l 10=true->w.heap.size+1+1<q/\wx.heap[q]?=some (.cells (six (if l 12 then(V) else fun _=>0)) 40 (0,0))))
   kZ kZ pZ 0 ?_ ?_ ?_
  ·exact⟨HP.out.drew,(fun h=>by cases h),fun h=>by cases h⟩
  ·intro i o ho q l wx hR hl he K hK;have hsz:=lt_of_heap hR.1.r;have hbel:∀ w2:World,Below wx.heap.size wx w2->PW w rb mb cb go B S U C T L st go w2/\(l 12=true->l 10=true)/\(l 10=true->w.heap.size+1+1<q/\w2.heap[q]?=some (.cells (six (if l 12 then(V) else fun _=>0)) 40 (0,0))):=fun w2 hb2=>⟨hR.1.below hb2,hR.2.1,fun h6=>⟨(hR.2.2 h6).1,(hb2.block q (lt_of_heap (hR.2.2 h6).2)).trans (hR.2.2 h6).2⟩⟩;rcases i with _|_|_|_|_|_|_|_|_|_|_|_|_|_|i
   any_goals first | (cases ho;go_simp;exact hK q wx (fun _ _=>rfl) hR;done) | fail
   ·cases ho;exact aP rfl 42 (.tmp 6) rfl w.heap.size rfl 42 (ae B S C T L) (0,0) _ hR.1.p Tryz.underlying42 rfl (ai _ _ _ _ _) (hK q wx (fun _ _=>rfl) hR)
   ·cases ho;exact aP rfl 40 (.tmp 7) rfl (w.heap.size+1) rfl 40 (six U) (0,0) _ hR.1.u Tryz.underlying40 rfl (af _) (hK q wx (fun _ _=>rfl) hR)
   ·cases ho;go_simp;refine(HSl.out _).mono ?_;rintro e w2 ⟨rfl,rfl⟩;exact hK q _ (fun _ _=>rfl) hR
   ·cases ho;go_simp;refine(HT.out _).mono ?_;rintro e w2 ⟨rfl,hb2⟩;exact hK q w2 (fun _ _=>rfl) (hbel w2 hb2)
   ·cases ho;go_simp;refine hK wx.heap.size _ (fun j hj=>?_) ⟨hR.1.below aj,(fun _=>rfl),fun _=>⟨oZ,?_⟩⟩
    ·rcases j with _|_|_|_|_|_|_|_|_|_|_|_|_|_|j
     all_goals first | rfl | (rw[hl] at hj;cases hj)
    ·have h12:l 12=false:=by
      cases h:l 12 with
      | false=>rfl
      | true=>have:=hR.2.1 h;rw[hl] at this;cases this
     rw[if_neg (by show ¬ ((12==10||l 12)=true);rw[h12];decide)];exact nZ _ _
   ·cases ho;have h10:=he ⟨10,.data⟩ sZ rfl;obtain⟨hq1,hq2⟩:=hR.2.2 h10;rw[if_neg lZ] at hq2;refine wp_store_row 40 (.tmp 17) (.tmp 49) rfl q (six (V)) rfl rfl 40 _ hq2 (af _) (aS _ _) (aQ _) ?_;exact hK q _ (fun _ _=>rfl) ⟨hR.1.setRow hq2 hq1 _,(fun _=>h10),fun _=>⟨hq1,setRow_heap _ _ _ _ _ _ hq2⟩⟩
   ·simp at ho
  ·intro q l wx hl hR;have h10:=hl 10 dZ;have h12:=hl 12 dZ;obtain⟨hq1,hq2⟩:=hR.2.2 h10;rw[if_pos h12] at hq2;have HR1:=hJ hR.1;have HQ2:=hJ hq2;clear hR hq2 HP HSl HT;go_wp2_with fail
   go_meet
   exact⟨q,rfl,rfl,rfl,hq1,HQ2,HR1⟩
 case rest =>
  clear HP HSl HT;obtain⟨q,rfl,rfl,rfl,hq1,HQ2,HP⟩:=hcut;have hzb:(t != 0)=false:=by simp[HZ.out]
  have HK:=hJ (run_store HP.out.rm hB HF.out.ok (lk+1) v);go_wp2_with fail
  refine HK.out.mono ?_;clear HK;rintro e w9 ⟨rfl,go3,hr3,ha3⟩;have HQ2:=hJ (HP.out.stays ha3 HQ2.out oZ dZ);have HP:=hJ (HP.out.access hr3 ha3);clear hr3 ha3;go_upto_region 14 with fail
  have e0:w9.cell? ⟨q,0,none⟩=some (.int .i64 ((V) 0)):=aa HQ2.out 0;have e1:w9.cell? ⟨q,1,none⟩=some (.int .i64 ((V) 1)):=aa HQ2.out 1;have e2:w9.cell? ⟨q,2,none⟩=some (.int .i64 ((V) 2)):=aa HQ2.out 2;have e3:w9.cell? ⟨q,3,none⟩=some (.int .i64 ((V) 3)):=aa HQ2.out 3;have e4:w9.cell? ⟨q,4,none⟩=some (.int .i64 ((V) 4)):=aa HQ2.out 4;have e5:w9.cell? ⟨q,5,none⟩=some (.int .i64 ((V) 5)):=aa HQ2.out 5;go_still_tail 4,kZ
  change wpList _ _ _ _ _ w9.drew;clear e0 e1 e2 e3 e4 e5
  go_wp2_with (first
   | (refine zZ rfl 40 (.tmp 11) (.tmp 69) rfl (w.heap.size+1+1) (six V) rfl rfl 40 (six fun _=>0) (show w9.drew.heap[w.heap.size+1+1]?=_ from HP.out.r) (af _) (aS _ _) (aQ _) ?_)
   | fail)
  refine tZ (v:=.tuple #[.int .i64 (lk+1),.agg (six V),.int .i64 0]) (bE rfl _ _ (w.heap.size+1+1) _ _ (0,0) _ _ _ rfl rfl rfl (setRow_heap _ _ _ _ _ _ (show w9.drew.heap[w.heap.size+1+1]?=_ from HP.out.r)) Tryz.underlying40 rfl (af _)) rfl ?_;obtain⟨hr,ha⟩:=HP.out.drew.turn HP.out.r oZ (six V);have ho:=CZ (st:=st) (lk+1) v ((lk+1,V,0):su);rw[HV.out.1] at ho;exact⟨_,_,_,go3,rfl,by rw[ho.1];exact hr,ha,fun x hx=>by rw[ho.2 x hx];exact⟨rfl,rfl,rfl⟩⟩
theorem St.dO.lJ {st:St} {Bd:Nat} {x:Int} (h:st.dO Bd) (hx:u32 x=x) (a:Int):(st.store a x).dO Bd:=by
 have:=h.store a x;rwa [hx] at this
theorem Jk (hrm:RM w rb mb cb go true st) (hf:st.dO Bd) (hB:Bd<1000000000) (hL:Laid B S C) (hU:∀ k,k<6->0<=U k/\U k<=S k) (hr:bG B S t) (hl:bY B S t=0) (hf2:aN (bI B S t)<=S (bI B S t)-U (bI B S t)) (hz:t≠0) (v0:0<=v) (v1:v<=4294967295):Calls Tryz.prog 165 #[.pointer (some ⟨rb,0,none⟩),.agg (ae B S C T L),.agg (six U),.int .i64 t,.int .u32 v] w fun e w'=>nY w rb mb cb go st (eP B S U t v) e w':=by
 have HQ:=hJ (Fz (U:=U) (v:=v) hr hl rfl hf2 hz);rw[HQ.out];have HRm:=hJ (fun w=>lM hL T L t w);obtain⟨hrf,m,hm,hm4,hnx⟩:=j6 hL hr;rw[decide_eq_true hr,hrf] at HRm;rw[hl] at HRm;have hk4:bI B S t<4:=(lL hL hr).2.2
 have ht:0<=t/\t<=65536:=by
  rcases hr with h | h
  ·omega
  ·have:=hL.at_ h;have:=hL.c1;omega
 obtain⟨ht0,ht1⟩:=ht;obtain⟨rk,hrk⟩:∃ rk,rk=j4 B S t:=⟨_,rfl⟩;rw[<- hrk] at HRm hm;obtain⟨k,hk⟩:∃ k,k=bI B S t:=⟨_,rfl⟩;rw[<- hk] at hk4 hnx hf2 ⊢;have HN:=hJ (fun w=>uO w rk m k hm hm4 hnx);have HSl:=hJ (fun w=>jq w k hk4);have hp6:=hL.pool (show k<6 by omega);have hu6:=hU k oZ;have sl0:=dB k;have sl1:=d9 k;have HT:=hJ (fun w=>om w B S U C T L (aN k) k oZ oZ hu6.1 hu6.2 oZ oZ oZ oZ);obtain⟨s,hs⟩:∃ s,s=aN k:=⟨_,rfl⟩;rw[<- hs] at HSl HT sl0 sl1 hf2 ⊢;obtain⟨lk,hlk⟩:∃ lk,lk=B k+U k:=⟨_,rfl⟩;obtain⟨V,hV⟩:∃ V,V=more U k s:=⟨_,rfl⟩;rw[<- hlk] at HT ⊢;rw[<- hV] at HT ⊢;clear hV;have hlk0:0<=lk/\lk<=65536:=oZ;obtain⟨lk0,lk1⟩:=hlk0;have s1:IntKind.i64.wrap (lk+1)=lk+1:=iZ _ oZ;have s2:IntKind.u32.wrap t=t:=IntWalk.u32_in _ oZ;have HV:=hJ (show u32 v=v/\u32 t=t from⟨u32_in ⟨v0,oZ⟩,u32_in ⟨ht0,oZ⟩⟩);clear hrk hrf HQ hr hL hm hm4 hnx m v0 v1 hk hs hlk hp6 hu6 hU hl hf2;have hP:=PW.start hrm B S U C T L;have HF:=hJ hf;clear hrm hf;go_enter Tryz.func165,Tryz.ntmps165
 go_upto_region 1 with fail
 have hw:(((w.alloc (.cells (ae B S C T L) 42)).alloc (.cells (six U) 40)).alloc (.cells #[.int .i64 0,.int .i64 0,.int .i64 0,.int .i64 0,.int .i64 0,.int .i64 0] 40))=(((w.alloc (.cells (ae B S C T L) 42)).alloc (.cells (six U) 40)).alloc (.cells (six fun _=>0) 40)):=rfl;rw[hw];clear hw;generalize (((w.alloc (.cells (ae B S C T L) 42)).alloc (.cells (six U) 40)).alloc (.cells (six fun _=>0) 40))=w1 at hP ⊢;have HP:=hJ hP;clear hP;go_wp2_with (refine yZ rfl 42 (.tmp 6) rfl w.heap.size rfl 42 (ae B S C T L) (0,0) _ HP.out.p Tryz.underlying42 rfl (ai _ _ _ _ _) ?_)
 refine(HRm.out _).mono ?_;rintro e w2 ⟨rfl,hb⟩;have HP:=hJ (HP.out.below hb);clear hb HRm;go_wp2_with fail
 refine(HN.out _).mono ?_;rintro e w3 ⟨rfl,rfl⟩;clear HN;go_upto_region 8 with fail
 go_cut [16,17,18] (fun lv pv ev wx=>∃ q,lv=.int .i64 lk/\pv=.pointer (some ⟨q,0,none⟩)/\ev=.int .i64 0/\w.heap.size+1+1<q/\Hid (wx.heap[q]?=some (.cells (six (V)) 40 (0,0)))/\Hid (PW w rb mb cb go B S U C T L st go wx))
 case first =>
  refine aL (fun(q:Nat) j=>[.agg (ae B S C T L),.agg (six U),.int .i64 (k:Int),.int .i64 (k:Int),.int .i64 s,.tuple #[.int .i64 lk,.agg (six (V)),.int .i64 0],.tuple #[.int .i64 lk,.agg (six (V)),.int .i64 0],.int .i64 lk,.agg (six (V)),.int .i64 0,.pointer (some ⟨q,0,none⟩),.int .i64 lk,undef,.int .i64 0].getD j undef)
   (fun q l wx=>PW w rb mb cb go B S U C T L st go wx/\(l 12=true->l 10=true)/\(l 10=true->w.heap.size+1+1<q/\wx.heap[q]?=some (.cells (six (if l 12 then(V) else fun _=>0)) 40 (0,0))))
   kZ kZ pZ 0 ?_ ?_ ?_
  ·exact⟨HP.out.drew,(fun h=>by cases h),fun h=>by cases h⟩
  ·intro i o ho q l wx hR hl he K hK;have hsz:=lt_of_heap hR.1.r;have hbel:∀ w2:World,Below wx.heap.size wx w2->PW w rb mb cb go B S U C T L st go w2/\(l 12=true->l 10=true)/\(l 10=true->w.heap.size+1+1<q/\w2.heap[q]?=some (.cells (six (if l 12 then(V) else fun _=>0)) 40 (0,0))):=fun w2 hb2=>⟨hR.1.below hb2,hR.2.1,fun h6=>⟨(hR.2.2 h6).1,(hb2.block q (lt_of_heap (hR.2.2 h6).2)).trans (hR.2.2 h6).2⟩⟩;rcases i with _|_|_|_|_|_|_|_|_|_|_|_|_|_|i
   any_goals first | (cases ho;go_simp;exact hK q wx (fun _ _=>rfl) hR;done) | fail
   ·cases ho;exact aP rfl 42 (.tmp 6) rfl w.heap.size rfl 42 (ae B S C T L) (0,0) _ hR.1.p Tryz.underlying42 rfl (ai _ _ _ _ _) (hK q wx (fun _ _=>rfl) hR)
   ·cases ho;exact aP rfl 40 (.tmp 7) rfl (w.heap.size+1) rfl 40 (six U) (0,0) _ hR.1.u Tryz.underlying40 rfl (af _) (hK q wx (fun _ _=>rfl) hR)
   ·cases ho;go_simp;refine(HSl.out _).mono ?_;rintro e w2 ⟨rfl,rfl⟩;exact hK q _ (fun _ _=>rfl) hR
   ·cases ho;go_simp;refine(HT.out _).mono ?_;rintro e w2 ⟨rfl,hb2⟩;exact hK q w2 (fun _ _=>rfl) (hbel w2 hb2)
   ·cases ho;go_simp;refine hK wx.heap.size _ (fun j hj=>?_) ⟨hR.1.below aj,(fun _=>rfl),fun _=>⟨oZ,?_⟩⟩
    ·rcases j with _|_|_|_|_|_|_|_|_|_|_|_|_|_|j
     all_goals first | rfl | (rw[hl] at hj;cases hj)
    ·have h12:l 12=false:=by
      cases h:l 12 with
      | false=>rfl
      | true=>have:=hR.2.1 h;rw[hl] at this;cases this
     rw[if_neg (by show ¬ ((12==10||l 12)=true);rw[h12];decide)];exact nZ _ _
   ·cases ho;have h10:=he ⟨10,.data⟩ sZ rfl;obtain⟨hq1,hq2⟩:=hR.2.2 h10;rw[if_neg lZ] at hq2;refine wp_store_row 40 (.tmp 17) (.tmp 49) rfl q (six (V)) rfl rfl 40 _ hq2 (af _) (aS _ _) (aQ _) ?_;exact hK q _ (fun _ _=>rfl) ⟨hR.1.setRow hq2 hq1 _,(fun _=>h10),fun _=>⟨hq1,setRow_heap _ _ _ _ _ _ hq2⟩⟩
   ·simp at ho
  ·intro q l wx hl hR;have h10:=hl 10 dZ;have h12:=hl 12 dZ;obtain⟨hq1,hq2⟩:=hR.2.2 h10;rw[if_pos h12] at hq2;have HR1:=hJ hR.1;have HQ2:=hJ hq2;clear hR hq2 HP HSl HT;go_wp2_with fail
   go_meet
   exact⟨q,rfl,rfl,rfl,hq1,HQ2,HR1⟩
 case rest =>
  clear HP HSl HT;obtain⟨q,rfl,rfl,rfl,hq1,HQ2,HP⟩:=hcut;have hzb:(t != 0)=true:=by simpa using hz
  have HK:=hJ (run_store HP.out.rm hB HF.out.ok lk t);go_wp2_with fail
  refine HK.out.mono ?_;clear HK;rintro e w8 ⟨rfl,go3,hr3,ha3⟩;have HQ2:=hJ (HP.out.stays ha3 HQ2.out oZ dZ);have HP:=hJ (HP.out.access hr3 ha3);clear hr3 ha3;have HK:=hJ (run_store HP.out.rm hB (HF.out.lJ HV.out.2 lk).ok (lk+1) v);go_wp2_with fail
  refine HK.out.mono ?_;clear HK;rintro e w9 ⟨rfl,go4,hr3,ha3⟩;have HQ2:=hJ (HP.out.stays ha3 HQ2.out oZ dZ);have HP:=hJ (HP.out.access hr3 ha3);clear hr3 ha3;go_upto_region 14 with fail
  have e0:w9.cell? ⟨q,0,none⟩=some (.int .i64 ((V) 0)):=aa HQ2.out 0;have e1:w9.cell? ⟨q,1,none⟩=some (.int .i64 ((V) 1)):=aa HQ2.out 1;have e2:w9.cell? ⟨q,2,none⟩=some (.int .i64 ((V) 2)):=aa HQ2.out 2;have e3:w9.cell? ⟨q,3,none⟩=some (.int .i64 ((V) 3)):=aa HQ2.out 3;have e4:w9.cell? ⟨q,4,none⟩=some (.int .i64 ((V) 4)):=aa HQ2.out 4;have e5:w9.cell? ⟨q,5,none⟩=some (.int .i64 ((V) 5)):=aa HQ2.out 5;go_still_tail 4,kZ
  change wpList _ _ _ _ _ w9.drew;clear e0 e1 e2 e3 e4 e5
  go_wp2_with (first
   | (refine zZ rfl 40 (.tmp 11) (.tmp 69) rfl (w.heap.size+1+1) (six V) rfl rfl 40 (six fun _=>0) (show w9.drew.heap[w.heap.size+1+1]?=_ from HP.out.r) (af _) (aS _ _) (aQ _) ?_)
   | fail)
  refine tZ (v:=.tuple #[.int .i64 (lk+1),.agg (six V),.int .i64 0]) (bE rfl _ _ (w.heap.size+1+1) _ _ (0,0) _ _ _ rfl rfl rfl (setRow_heap _ _ _ _ _ _ (show w9.drew.heap[w.heap.size+1+1]?=_ from HP.out.r)) Tryz.underlying40 rfl (af _)) rfl ?_;obtain⟨hr,ha⟩:=HP.out.drew.turn HP.out.r oZ (six V);have ho:=Ls HF.out lk t (lk+1) v ((lk+1,V,0):su);rw[HV.out.1,HV.out.2] at ho;exact⟨_,_,_,go4,rfl,by rw[ho.1];exact hr,ha,fun x hx=>by rw[ho.2 x hx];exact⟨rfl,rfl,rfl⟩⟩
theorem F3 (hrm:RM w rb mb cb go true st) (hf:st.dO Bd) (hB:Bd<1000000000) (hL:Laid B S C) (hU:∀ k,k<6->0<=U k/\U k<=S k) (v0:0<=v) (v1:v<=4294967295):Calls Tryz.prog 165 #[.pointer (some ⟨rb,0,none⟩),.agg (ae B S C T L),.agg (six U),.int .i64 t,.int .u32 v] w fun e w'=>nY w rb mb cb go st (eP B S U t v) e w':=by
 by_cases hr:bG B S t
 ·have hl:=lL hL hr;by_cases h0:0<bY B S t
  ·exact Ke hrm hf hB hL hr h0 v0 v1
  ·have h1:bY B S t=0:=oZ;by_cases h2:aN (bI B S t)<=S (bI B S t)-U (bI B S t)
   ·by_cases h3:t=0
    ·exact KJ hrm hf hB hL hU hr h1 h2 h3 v0 v1
    ·exact Jk hrm hf hB hL hU hr h1 h2 h3 v0 v1
   ·exact Jv hrm hf hL hU hr h1 h2 v0 v1
 ·exact KA hrm hf hL hr
end
/-! ### Slab by aN -/
def oN (m:Int) (k j:Nat):Int:=if 0<m then dX m.toNat 0 k j else 0
theorem pK:∀ (l n k j:Nat),dX n (l:Int) k j=oN ((n:Int)-(l:Int)) k j
 | 0,n,k,j=>by
  unfold oN;cases n with
  | zero=>rw[if_neg oZ];rfl
  | succ n=>rw[if_pos oZ];congr 1
 | l+1,n,k,j=>by
  cases n with
  | zero=>unfold oN;rw[if_neg oZ];rfl
  | succ n =>
   rw[gJ,if_neg oZ,show ((l+1:Nat):Int)-1=(l:Int) by omega,pK l n k j];congr 1
   omega
theorem Ei (m:Int) (hm:0<m) (k j:Nat):oN m k j=(if j=k then aN k else 0)+oN (m-(aN k-1)) (up k) j:=by
 obtain⟨n,rfl⟩:=Int.eq_ofNat_of_zero_le (show 0<=m by omega);obtain⟨q,rfl⟩:∃ q,n=q+1:=⟨n-1,oZ⟩;have hs:=dB k;obtain⟨s,hs2⟩:=Int.eq_ofNat_of_zero_le (show 0<=aN k-2 by omega)
 have e:oN ((q+1:Nat):Int) k j=dX (q+1) 0 k j:=by
  unfold oN;rw[if_pos hm];congr 1
 rw[e,gJ,if_pos rfl,hs2,pK s q (up k) j];congr 2
 omega
theorem LP (k:Nat):up k=if 3<k+1 then 3 else k+1:=by unfold up;split <;> split <;> omega
theorem ve (w:World) (B S:Nat->Int) (C T L t n:Int) (hL:Laid B S C) (n0:-9223372036854775808<=n) (n1:n<=3000) :
  Calls Tryz.prog 126 #[.agg (ae B S C T L),.int .i64 t,.int .i64 n] w fun e w'=>e=.returned (.agg (six (dU B S t n)))/\Below w.heap.size w w':=by
 have HR:=hJ (fun w=>lM hL T L t w);obtain⟨rk,hrk⟩:∃ rk,rk=j4 B S t:=⟨_,rfl⟩;obtain⟨rf,hrf⟩:∃ rf,rf=nD B S t:=⟨_,rfl⟩;rw[<- hrk,<- hrf] at HR;by_cases hr:bG B S t
 ·obtain⟨hlf,m0,hm0,hm4,hnx⟩:=j6 hL hr;have hin:=lL hL hr;rw[<- hlf,<- hrf] at hin;rw[<- hrk] at hm0;rw[decide_eq_true hr] at HR;obtain⟨N,hN⟩:∃ N,N=n.toNat:=⟨_,rfl⟩
  have HZ:=hJ (show ∀ j,oN ((N:Int)-rf) (bI B S t) j=dU B S t n j from fun j=>by
   obtain⟨l,hl⟩:=Int.eq_ofNat_of_zero_le hin.1;unfold dU;rw[if_pos hr,<- hlf,<- hrf,hl,pK,hN])
  obtain⟨k0,hk0⟩:∃ k0,k0=bI B S t:=⟨_,rfl⟩;rw[<- hk0] at HZ hin hnx;have hN3:N<=3000:=oZ;have hn6:(if(1000000:Int)<n then(1000000:Int) else n)=n:=by rw[if_neg oZ]
  have hkb1:∀ (ts:Array TypeId) (t:TypeId) (w:World),(Builtin.min_ ts t #[.int .i64 n,.int .i64 1000000]).run Tryz.prog w=.ok (.int .i64 n) w:=fun ts t w=>by rw[run_min_int2,hn6]
  have hkb2:∀ (ts:Array TypeId) (t:TypeId) (w:World),(Builtin.max_ ts t #[.int .i64 0,.int .i64 n]).run Tryz.prog w=.ok (.int .i64 (N:Int)) w:=fun ts t w=>by rw[run_max_int2];congr 3;split <;> omega
  have s1:IntKind.i64.wrap ((N:Int)-rf)=(N:Int)-rf:=iZ _ oZ;have HM:=hJ (And.intro hm0 hnx);clear hr hrk hrf hlf hL hN hk0 hn6 hm0 hnx;go_enter Tryz.func126,Tryz.ntmps126
  go_upto_region 2 with fail
  have hw:(((w.alloc (.cells (ae B S C T L) 42)).alloc (.cells #[.int .i64 0,.int .i64 0,.int .i64 0,.int .i64 0,.int .i64 0,.int .i64 0] 40)).alloc (.cells #[.int .i64 0,.int .i64 0,.int .i64 0,.int .i64 0,.int .i64 0,.int .i64 0] 40))=(((w.alloc (.cells (ae B S C T L) 42)).alloc (.cells (six fun _=>0) 40)).alloc (.cells (six fun _=>0) 40)):=rfl;rw[hw];have hF:kY w (fun _=>0) (((w.alloc (.cells (ae B S C T L) 42)).alloc (.cells (six fun _=>0) 40)).alloc (.cells (six fun _=>0) 40)):=⟨dM w _ _ _,dS w _ _ _,bi⟩;have hP:(((w.alloc (.cells (ae B S C T L) 42)).alloc (.cells (six fun _=>0) 40)).alloc (.cells (six fun _=>0) 40)).heap[w.heap.size]?=some (.cells (ae B S C T L) 42 (0,0)):=dN w _ _ _;generalize (((w.alloc (.cells (ae B S C T L) 42)).alloc (.cells (six fun _=>0) 40)).alloc (.cells (six fun _=>0) 40))=w1 at hF hP ⊢;have HF:=hJ hF;have HP:=hJ hP;clear hw hF hP;go_wp2_with (refine yZ rfl 42 (.tmp 3) rfl w.heap.size rfl 42 (ae B S C T L) (0,0) _ HP.out Tryz.underlying42 rfl (ai _ _ _ _ _) ?_)
  refine(HR.out _).mono ?_;rintro e w2 ⟨rfl,hb⟩;have HF:=hJ (show kY w (fun _=>0) w2 from⟨(hb.block _ (lt_of_heap HF.out.1)).trans HF.out.1,(hb.block _ (lt_of_heap HF.out.2.1)).trans HF.out.2.1,ag HF.out.2.2 hb⟩);clear hb HR HP;go_wp2_with fail
  go_loopw [8,11] (fun kv lv wr=>∃ (c:Int) (m k:Nat) (l:Int) (O:Nat->Int),kv=.int .i64 c/\lv=.int .i64 l/\Hid (c+1=(m:Int)/\k=if 3<m then 3 else m)/\m<=4/\k<4/\-256<=l/\l<=3000/\Hid (∀ j,O j+oN l k j=dU B S t n j)/\Hid (∀ j,0<=O j/\O j<=256*(3000-l))/\kY w O wr) (fun _ lv _=>(intOf lv).toNat)
  case atStart=>exact⟨rk,m0,k0,(N:Int)-rf,fun _=>0,rfl,rfl,HM,hm4,hin.2.2,oZ,oZ,hJ fun j=>by rw[HZ.out j];exact Int.zero_add _,hJ fun j=>by show (0:Int)<=0/\(0:Int)<=_;omega,HF.out⟩
  case round =>
   clear HF HZ HM hin hm4 s1 hkb1 hkb2;obtain⟨c,m,k,l,O,rfl,rfl,HM,hm4,hk4,hl0,hl1,HS,HO,hF⟩:=hrel;have HF:=hJ hF;clear hF;by_cases hlt:0<l
   ·have hsl:=d9 k;have hsl2:=dB k;have hok:=HO.out k;obtain⟨o,ho⟩:∃ o,o=O k:=⟨_,rfl⟩;obtain⟨y,hy⟩:∃ y,y=aN k:=⟨_,rfl⟩;have HY:=hJ hy;have HOo:=hJ ho;have HN:=hJ (fun w=>uO w c m k HM.out.1 hm4 HM.out.2);have HSk:=hJ (fun w=>jq w k hk4);have HWk:=hJ (fun w=>Ar w k hk4);rw[<- hy] at hsl hsl2 HSk HWk;have c1:wr.cell? ⟨w.heap.size+1+1,k,none⟩=some (.int .i64 o):=by rw[ho];exact(aa HF.out.2.1 k).trans (dK _ k oZ)
    have f1:wr.frozen? ⟨w.heap.size+1+1,k,none⟩=false:=free_at HF.out.2.1 k;rw[<- ho] at hok;have o1:IntKind.i64.wrap (o+y)=o+y:=iZ _ oZ;have i1:IntKind.i64.wrap (l-(y-1))=l-(y-1):=iZ _ oZ;have hk6:(k:Int)<6:=oZ;clear hy ho;go_wp2_with fail
    refine(HN.out _).mono ?_;rintro e w4 ⟨rfl,rfl⟩;go_upto_region 8 with fail
    refine wp_region_still_tail 7 kZ kZ ?_;simp only[List.take_succ_cons,List.take_zero,List.drop_succ_cons,List.drop_zero];repeat still_step
    still_call (HSk.out _)
    repeat still_step
    refine wpStill_nil ?_;change wpList _ _ _ _ _ (World.drew _);go_wp2_with fail
    refine(HWk.out _).mono ?_;rintro e w5 ⟨rfl,rfl⟩;go_wp2_with fail
    go_roundw
    case rel =>
     refine⟨(k:Int),k+1,up k,l-(y-1),more O k y,rfl,rfl,hJ ⟨oZ,LP k⟩,oZ,IX k,oZ,oZ,hJ fun j=>?_,hJ fun j=>?_,?_⟩
     ·have h:=HS.out j;rw[Ei l hlt k j] at h;rw[<- h,HY.out];unfold more;split <;> rename_i e <;> simp[e] <;> omega
     ·have h:=HO.out j;unfold more;split
      ·subst j;omega
      ·omega
     ·refine⟨(Below.heap_setCell _ _ _ _ sZ).trans HF.out.1,?_,(HF.out.2.2.setCell uZ _).drew⟩;show (World.setCell _ _ _).heap[w.heap.size+1+1]?=_;rw[heap_setCell_same _ _ _ _ _ _ (show w4.heap[w.heap.size+1+1]?=_ from HF.out.2.1),HOo.out,iC O (more O k y) k _ oZ (fun j _=>rfl)]
    case measure=>simp only[intOf];omega
   ·have hfin:six O=six (dU B S t n):=vW fun j _=>by
     have h:=HS.out j;unfold oN at h;rw[if_neg hlt] at h;omega
    have G1:=hJ HF.out.1;have G2:Hid (wr.heap[w.heap.size+1+1]?=some (.cells (six (dU B S t n)) 40 (0,0))):=hJ (by rw[<- hfin];exact HF.out.2.1);have HB:=hJ HF.out.2.2;clear hfin HF
    go_wp2_with (first
     | (refine yZ rfl 40 (.tmp 7) rfl (w.heap.size+1+1) rfl 40 (six (dU B S t n)) (0,0) _ G2.out Tryz.underlying40 rfl (af _) ?_)
     | (refine zZ rfl 40 (.tmp 6) (.tmp 42) rfl (w.heap.size+1) (six (dU B S t n)) rfl rfl 40 (six fun _=>0) G1.out (af _) rfl (aQ _) ?_)
     | fail)
    refine tZ (v:=.agg (six (dU B S t n))) (results_cell_row rfl _ _ (w.heap.size+1) _ _ (0,0) _ rfl (setRow_heap _ _ _ _ _ _ G1.out) Tryz.underlying40 rfl (af _)) rfl ⟨rfl,below_setRow HB.out oZ _⟩
 ·have HZ:=hJ (show six (dU B S t n)=six fun _=>0 from vW fun j _=>by unfold dU;rw[if_neg hr]);rw[decide_eq_false hr] at HR;clear hr hrk hrf hL n0 n1;go_enter Tryz.func126,Tryz.ntmps126
  go_wp2_with (refine yZ rfl 42 (.tmp 3) rfl w.heap.size rfl 42 (ae B S C T L) (0,0) _ (dN w _ _ _) Tryz.underlying42 rfl (ai _ _ _ _ _) ?_)
  refine(HR.out _).mono ?_;rintro e w2 ⟨rfl,hb⟩;have g1:w2.heap[w.heap.size+1]?=some (.cells (six fun _=>0) 40 (0,0)):=(hb.block _ sZ).trans (dM _ _ _ _);have g2:w2.heap[w.heap.size+1+1]?=some (.cells (six fun _=>0) 40 (0,0)):=(hb.block _ sZ).trans (dS _ _ _ _);have G1:=hJ g1;have G2:=hJ g2;have HB:=hJ (bi.trans (hb.mono uZ));clear g1 g2 hb HR
  go_wp2_with (first
   | (refine yZ rfl 40 (.tmp 7) rfl (w.heap.size+1+1) rfl 40 (six fun _=>0) (0,0) _ G2.out Tryz.underlying40 rfl (af _) ?_)
   | (refine zZ rfl 40 (.tmp 6) (.tmp 21) rfl (w.heap.size+1) (six fun _=>0) rfl rfl 40 (six fun _=>0) G1.out (af _) rfl (aQ _) ?_)
   | fail)
  refine tZ (v:=.agg (six fun _=>0)) (results_cell_row rfl _ _ (w.heap.size+1) _ _ (0,0) _ rfl (setRow_heap _ _ _ _ _ _ G1.out) Tryz.underlying40 rfl (af _)) rfl ⟨by rw[HZ.out],below_setRow HB.out oZ _⟩
end Go.Proofs.YtafaohnhlgcnpaaGreatDoor
