/-
 What stage 12 rests on.
-/
import Derived.Test.YtafaohnhlgcnpaaGreatDoorWrAlE5
import Derived.Test.YtafaohnhlgcnpaaGreatDoorWrAlD2
set_option maxRecDepth 100000
set_option maxHeartbeats 16000000
namespace Go.Proofs.YtafaohnhlgcnpaaGreatDoor
open Go.RowKit
variable {α:Type}
def dX:Nat->Int->Nat->Nat->Int
 | 0,_,_,_=>0
 | n+1,l,k,j=>if l=0 then(if j=k then aN k else 0)+dX n (aN k-2) (up k) j else dX n (l-1) k j
def dU (B S:Nat->Int) (t n:Int) (j:Nat):Int:=if bG B S t then dX n.toNat (bY B S t) (bI B S t) j else 0
theorem fP.far {t:TypeId} {k:IntKind} {w:World} {base:Nat} {v:Value} {l:List Nat} (h:fP t k w base v l):∃ oa cap,v=.slice oa l.length cap/\l.length<=cap/\cap<=maxLen/\(oa=none->cap=0)/\bQ k w oa l/\∀ ad,oa=some ad->base<=ad.block:=by
 obtain⟨oa,cap,rfl,h1,h2,h3,h4⟩:=h.reads;refine⟨oa,cap,rfl,h1,h2,h3,h4,?_⟩;rintro ad rfl;obtain⟨_,⟨h5,_⟩ | ⟨g,cap',cur,e,hg,_⟩⟩:=h
 ·cases h5
 ·injection e with e1 e2 e3
  injection e1 with e1
  rw[e1];exact hg
/-! ### The closure of a Put -/
/-! ### The closures of a Walk -/
theorem K7 {B S:Nat->Int} {C:Int} (hL:Laid B S C) (t:Int):0<=gu B S t/\gu B S t<256:=by
 by_cases h:kI B S t<4
 ·have:=(hL.Es h).2;have:=d9 (kI B S t);omega
 ·unfold gu;rw[if_neg h];omega
theorem KF (B S:Nat->Int) (t:Int):-1<=mP B S t/\mP B S t<=3:=by
 unfold mP;split <;> omega
theorem oo {B S:Nat->Int} {C:Int} (hL:Laid B S C) (T L t:Int) (w:World):Calls Tryz.prog 134 #[.agg (ae B S C T L),.int .i64 t] w fun e w'=>e=.returned (.bool (decide (bG B S t)))/\Below w.heap.size w w':=by
 obtain⟨q,hq⟩:∃ q,q=gu B S t:=⟨_,rfl⟩;obtain⟨k,hk⟩:∃ k,k=mP B S t:=⟨_,rfl⟩;have hk0:=KF B S t;have hq0:=K7 hL t
 have hkq:0<q->0<=k:=by
  intro h;rw[hq] at h;have:=(hL.at_ h).1;rw[hk];unfold mP;rw[if_pos this];omega
 have HC:=hJ (fun w=>(lq w B S C T L t hL.fit).mono fun _ _ h=>nV h);rw[<- hq,<- hk] at HC;rw[<- hq] at hq0;rw[<- hk] at hk0;have HR:=hJ (show decide (bG B S t)=(decide (t=0)||decide (0<q)) from Bool.eq_iff_iff.2 (by rw[decide_eq_true_iff,hq];unfold bG;simp));clear hL hq hk;go_enter Tryz.func134,Tryz.ntmps134
 go_wp2_with (refine yZ rfl 42 (.tmp 2) rfl w.heap.size rfl 42 (ae B S C T L) (0,0) _ (nZ w _) Tryz.underlying42 rfl (ai _ _ _ _ _) ?_)
 refine(HC.out _).mono ?_;rintro e w1 ⟨rfl,hb⟩;have HB:=hJ (ag aj hb);clear hb HC;by_cases h0:t=0
 ·subst h0;go_wp2_with fail
  go_ret;exact⟨by rw[HR.out];simp,HB.out⟩
 ·have e0:(t==0)=false:=by simpa using h0
  by_cases h1:0<q
  ·have h2:=hkq h1;have h3:(0:Int)<=k:=h2;clear hkq;go_wp2_with fail
   go_ret;exact⟨by rw[HR.out];simp[h1],HB.out⟩
  ·have h1':¬ (0:Int)<q:=h1;by_cases h2:0<=k
   ·clear hkq;go_wp2_with fail
    go_ret;exact⟨by rw[HR.out];simp[h0],HB.out⟩
   ·have h2':¬ (0:Int)<=k:=h2;clear hkq;go_wp2_with fail
    go_ret;exact⟨by rw[HR.out];simp[h0];omega,HB.out⟩
theorem vW {U V:Nat->Int} (h:∀ j,j<6->U j=V j):six U=six V:=by
 unfold six;rw[h 0 oZ,h 1 oZ,h 2 oZ,h 3 oZ,h 4 oZ,h 5 oZ]
/-! ### Word by word -/
theorem gJ (n:Nat) (l:Int) (k j:Nat):dX (n+1) l k j=if l=0 then(if j=k then aN k else 0)+dX n (aN k-2) (up k) j else dX n (l-1) k j:=rfl
theorem kD:∀ (n:Nat) (l:Int) (k j:Nat),0<=dX n l k j
 | 0,_,_,_=>by unfold dX;omega
 | n+1,l,k,j=>by
  unfold dX;have:=dB k;have h1:=kD n (aN k-2) (up k) j;have h2:=kD n (l-1) k j;split
  ·split <;> omega
  ·exact h2
theorem ru:∀ (n:Nat) (l:Int) (k j:Nat),dX n l k j<=256*n
 | 0,_,_,_=>by unfold dX;omega
 | n+1,l,k,j=>by
  unfold dX;have:=d9 k;have h1:=ru n (aN k-2) (up k) j;have h2:=ru n (l-1) k j;split
  ·split <;> omega
  ·omega
theorem lL {B S:Nat->Int} {C:Int} (hL:Laid B S C) {t:Int} (h:bG B S t):0<=bY B S t/\bY B S t<=254/\bI B S t<4:=by
 unfold bY bI;by_cases h0:t=0
 ·rw[if_pos h0,if_pos h0];omega
 ·rw[if_neg h0,if_neg h0];rcases h with h | h
  ·exact absurd h h0
  ·have:=hL.at_ h;have:=d9 (kI B S t);refine⟨oZ,oZ,?_⟩;split <;> omega
theorem IX (k:Nat):up k<4:=by unfold up;split <;> omega
def kY (w:World) (O:Nat->Int) (wr:World):Prop :=
 wr.heap[w.heap.size+1]?=some (.cells (six fun _=>0) 40 (0,0))/\wr.heap[w.heap.size+2]?=some (.cells (six O) 40 (0,0))/\Below w.heap.size w wr
theorem BD {B S:Nat->Int} {C:Int} (hL:Laid B S C) (T L t n:Int) (n0:-9223372036854775808<=n) (n1:n<=3000) (w:World) :
  Calls Tryz.prog 96 #[.agg (ae B S C T L),.int .i64 t,.int .i64 n] w fun e w'=>e=.returned (.agg (six (dU B S t n)))/\Below w.heap.size w w':=by
 have HR:=hJ (fun w=>oo hL T L t w);by_cases hr:bG B S t
 ·have hrb:decide (bG B S t)=true:=decide_eq_true hr;rw[hrb] at HR;obtain⟨l0,hl0⟩:∃ l0,l0=bY B S t:=⟨_,rfl⟩;obtain⟨k0,hk0⟩:∃ k0,k0=bI B S t:=⟨_,rfl⟩;obtain⟨N,hN⟩:∃ N,N=n.toNat:=⟨_,rfl⟩;have hin:=lL hL hr;rw[<- hl0,<- hk0] at hin;have HZ:=hJ (show ∀ j,dU B S t n j=dX N l0 k0 j from fun j=>by unfold dU;rw[if_pos hr,hN,hl0,hk0]);have HCall:=hJ (fun w=>(lq w B S C T L t hL.fit).mono fun _ _ h=>nV h)
  have HT:Hid (t≠0->∃ k:Nat,k<4/\mP B S t=(k:Int)/\0<=gu B S t/\gu B S t<=255/\l0=aN k-1-gu B S t/\k0=up k):=hJ (by
   intro ht;rcases hr with h | h
   ·exact absurd h ht
   ·have ha:=hL.at_ h;have:=d9 (kI B S t);refine⟨kI B S t,ha.1,by unfold mP;rw[if_pos ha.1],oZ,oZ,?_,?_⟩
    ·rw[hl0];unfold bY;rw[if_neg ht]
    ·rw[hk0];unfold bI up;rw[if_neg ht])
  have HT0:Hid (t=0->l0=0/\k0=0):=hJ (by
   intro ht;rw[hl0,hk0];unfold bY bI;rw[if_pos ht,if_pos ht];exact⟨rfl,rfl⟩)
  clear hr hrb hl0 hk0 hL;have HSl:=hJ (fun(w:World) (k:Nat) (hk:k<4)=>iw w k hk);go_enter Tryz.func96,Tryz.ntmps96
  go_upto_region 2 with fail
  have hw:(((w.alloc (.cells (ae B S C T L) 42)).alloc (.cells #[.int .i64 0,.int .i64 0,.int .i64 0,.int .i64 0,.int .i64 0,.int .i64 0] 40)).alloc (.cells #[.int .i64 0,.int .i64 0,.int .i64 0,.int .i64 0,.int .i64 0,.int .i64 0] 40))=(((w.alloc (.cells (ae B S C T L) 42)).alloc (.cells (six fun _=>0) 40)).alloc (.cells (six fun _=>0) 40)):=rfl;rw[hw];have hF:kY w (fun _=>0) (((w.alloc (.cells (ae B S C T L) 42)).alloc (.cells (six fun _=>0) 40)).alloc (.cells (six fun _=>0) 40)):=⟨dM w _ _ _,dS w _ _ _,bi⟩;have hP:(((w.alloc (.cells (ae B S C T L) 42)).alloc (.cells (six fun _=>0) 40)).alloc (.cells (six fun _=>0) 40)).heap[w.heap.size]?=some (.cells (ae B S C T L) 42 (0,0)):=dN w _ _ _;generalize (((w.alloc (.cells (ae B S C T L) 42)).alloc (.cells (six fun _=>0) 40)).alloc (.cells (six fun _=>0) 40))=w1 at hF hP ⊢;have HF:=hJ hF;have HP:=hJ hP;clear hw hF hP;go_wp2_with (refine yZ rfl 42 (.tmp 3) rfl w.heap.size rfl 42 (ae B S C T L) (0,0) _ HP.out Tryz.underlying42 rfl (ai _ _ _ _ _) ?_)
  refine(HR.out _).mono ?_;rintro e w2 ⟨rfl,hb⟩;have HF:=hJ (show kY w (fun _=>0) w2 from⟨(hb.block _ (lt_of_heap HF.out.1)).trans HF.out.1,(hb.block _ (lt_of_heap HF.out.2.1)).trans HF.out.2.1,ag HF.out.2.2 hb⟩);have HP:=hJ ((hb.block _ (lt_of_heap HP.out)).trans HP.out);clear hb HR;have hN2:¬ (1000000:Int)<n:=oZ;have HNN:=hJ hN;have hN3:N<=3000:=oZ;by_cases ht:t=0
  ·obtain⟨e1,e2⟩:=HT0.out ht;have htb:(t != 0)=false:=by simp[ht]
   have E12:=hJ (And.intro e1 e2);clear ht HT HT0 HCall hN e1 e2;go_wp2_with fail
   go_loopw [8,9,12] (fun lv kv iv wr=>∃ (i:Nat) (l:Int) (k:Nat) (O:Nat->Int),i<=N/\iv=.int .i64 i/\lv=.int .i64 l/\kv=.int .i64 (k:Int)/\0<=l/\l<=254/\k<4/\Hid (∀ j,O j+dX (N-i) l k j=dX N l0 k0 j)/\Hid (∀ j,0<=O j/\O j<=256*i)/\kY w O wr) (fun _ _ iv _=>N-(intOf iv).toNat)
   case atStart=>exact⟨0,l0,k0,fun _=>0,oZ,rfl,(by rw[E12.out.1]),(by rw[E12.out.2];rfl),hin.1,hin.2.1,hin.2.2,hJ fun j=>sZ,hJ fun j=>⟨Int.le_refl _,sZ⟩,HF.out⟩
   case round =>
    clear HF;obtain⟨i,l,k,O,hi,rfl,rfl,rfl,hl0,hl1,hk4,HS,HO,hF⟩:=hrel;have HF:=hJ hF;clear hF;by_cases hlt:i<N
    ·have hlt1:(i:Int)<n:=by have:=HNN.out;omega
     obtain⟨m,hm⟩:∃ m,N-i=m+1:=⟨N-i-1,oZ⟩;have hm2:N-(i+1)=m:=oZ;have HMM:=hJ (And.intro hm hm2);clear hm hm2;by_cases hl:l=0
     ·have hsl:=d9 k;have hsl2:=dB k;have hok:=HO.out k;obtain⟨o,ho⟩:∃ o,o=O k:=⟨_,rfl⟩;obtain⟨y,hy⟩:∃ y,y=aN k:=⟨_,rfl⟩;have HY:=hJ hy;have HOo:=hJ ho;have HSk:=hJ (fun w=>HSl.out w k hk4);rw[<- hy] at hsl hsl2 HSk;have c1:wr.cell? ⟨w.heap.size+1+1,k,none⟩=some (.int .i64 o):=by rw[ho];exact(aa HF.out.2.1 k).trans (dK _ k oZ)
      have f1:wr.frozen? ⟨w.heap.size+1+1,k,none⟩=false:=free_at HF.out.2.1 k;rw[<- ho] at hok;have o1:IntKind.i64.wrap (o+y)=o+y:=iZ _ (by have:=HNN.out;omega);have hk6:(k:Int)<6:=oZ;have i1:IntKind.i64.wrap (y-1)=y-1:=iZ _ oZ;have i2:IntKind.i64.wrap (y-1-1)=y-1-1:=iZ _ oZ;obtain⟨k1,hk1⟩:∃ k1,k1=k+1:=⟨_,rfl⟩;have i3:(k:Int)+1=(k1:Int):=oZ;have i4:IntKind.i64.wrap (k1:Int)=(k1:Int):=iZ _ oZ;have hkn:(if(3:Int)<(k1:Int) then(3:Int) else(k1:Int))=((up k:Nat):Int):=by unfold up;split <;> split <;> omega
      obtain⟨k2,hk2⟩:∃ k2,k2=up k:=⟨_,rfl⟩;rw[<- hk2] at hkn;have hkb:∀ (ts:Array TypeId) (t:TypeId) (w:World),(Builtin.min_ ts t #[.int .i64 (k1:Int),.int .i64 3]).run Tryz.prog w=.ok (.int .i64 (k2:Int)) w:=fun ts t w=>by rw[run_min_int2,hkn]
      have HK2:=hJ hk2;subst hl;clear hkn hy ho hk2 hk1;go_wp2_with fail
      refine wp_region_still_tail 7 kZ kZ ?_;simp only[List.take_succ_cons,List.take_zero,List.drop_succ_cons,List.drop_zero];repeat still_step
      still_call (HSk.out _)
      repeat still_step
      refine wpStill_nil ?_;change wpList _ _ _ _ _ (World.drew _);go_wp2_with fail
      refine(HSk.out _).mono ?_;rintro e w4 ⟨rfl,rfl⟩;go_wp2_with fail
      go_roundw
      case rel =>
       refine⟨i+1,y-1-1,k2,more O k y,oZ,by go_num,rfl,rfl,oZ,oZ,by rw[HK2.out];exact IX k,hJ fun j=>?_,hJ fun j=>?_,?_⟩
       ·have h:=HS.out j;rw[HMM.out.1,gJ,if_pos rfl] at h;rw[HMM.out.2,HK2.out,show y-1-1=aN k-2 by rw[<- HY.out];omega,<- h,HY.out];unfold more;split <;> rename_i e <;> simp[e] <;> omega
       ·have h:=HO.out j;unfold more;split
        ·subst j;omega
        ·omega
       ·refine⟨(Below.heap_setCell _ _ _ _ sZ).trans HF.out.1,?_,(HF.out.2.2.setCell uZ _).drew⟩;show (World.setCell _ _ _).heap[w.heap.size+1+1]?=_;rw[heap_setCell_same _ _ _ _ _ _ (show wr.heap[w.heap.size+1+1]?=_ from HF.out.2.1),HOo.out,iC O (more O k y) k _ oZ (fun j _=>rfl)]
      case measure=>simp[intOf];omega
     ·have hlb:(l==0)=false:=by simpa using hl
      have i1:IntKind.i64.wrap (l-1)=l-1:=iZ _ oZ;have HL1:=hJ (show 0<=l-1/\l-1<=254 by omega);have HL0:=hJ hl;clear hl;go_wp2_with fail
      go_roundw
      case rel =>
       refine⟨i+1,l-1,k,O,oZ,by go_num,rfl,rfl,HL1.out.1,HL1.out.2,hk4,hJ fun j=>?_,hJ fun j=>?_,HF.out⟩
       ·have h:=HS.out j;rw[HMM.out.1,gJ,if_neg HL0.out] at h;rw[HMM.out.2,<- h]
       ·have:=HO.out j;omega
      case measure=>simp[intOf];omega
    ·have hlt1:¬ (i:Int)<n:=by have:=HNN.out;omega
     have hfin:six O=six (dU B S t n):=vW fun j _=>by
      have h:=HS.out j;rw[show N-i=0 by omega] at h;rw[HZ.out j,<- h];simp[dX]
     have G1:=hJ HF.out.1;have G2:Hid (wr.heap[w.heap.size+1+1]?=some (.cells (six (dU B S t n)) 40 (0,0))):=hJ (by rw[<- hfin];exact HF.out.2.1);have HB:=hJ HF.out.2.2;clear hfin HF
     go_wp2_with (first
      | (refine yZ rfl 40 (.tmp 7) rfl (w.heap.size+1+1) rfl 40 (six (dU B S t n)) (0,0) _ G2.out Tryz.underlying40 rfl (af _) ?_)
      | (refine zZ rfl 40 (.tmp 6) (.tmp 59) rfl (w.heap.size+1) (six (dU B S t n)) rfl rfl 40 (six fun _=>0) G1.out (af _) rfl (aQ _) ?_)
      | fail)
     refine tZ (v:=.agg (six (dU B S t n))) (results_cell_row rfl _ _ (w.heap.size+1) _ _ (0,0) _ rfl (setRow_heap _ _ _ _ _ _ G1.out) Tryz.underlying40 rfl (af _)) rfl ⟨rfl,below_setRow HB.out oZ _⟩
  ·obtain⟨k,hk4,hki,ha0,ha1,hl,hkk⟩:=HT.out ht;have htb:(t != 0)=true:=by simpa using ht
   have hsl:=d9 k;have hsl2:=dB k;obtain⟨a,ha⟩:∃ a,a=gu B S t:=⟨_,rfl⟩;rw[hki,<- ha] at HCall;rw[<- ha] at ha0 ha1 hl;obtain⟨y,hy⟩:∃ y,y=aN k:=⟨_,rfl⟩;have HSk:=hJ (fun w=>HSl.out w k hk4);rw[<- hy] at HSk hsl hsl2 hl;have i1:IntKind.i64.wrap (y-1)=y-1:=iZ _ oZ;have i2:IntKind.i64.wrap (y-1-a)=l0:=by rw[hl];exact iZ _ oZ
   have i2':y-1-a=l0:=hl.symm;obtain⟨k1,hk1⟩:∃ k1,k1=k+1:=⟨_,rfl⟩;have i3:(k:Int)+1=(k1:Int):=oZ;have i4:IntKind.i64.wrap (k1:Int)=(k1:Int):=iZ _ oZ;have hkn:(if(3:Int)<(k1:Int) then(3:Int) else(k1:Int))=(k0:Int):=by rw[hkk];unfold up;split <;> split <;> omega
   have hkb:∀ (ts:Array TypeId) (t:TypeId) (w:World),(Builtin.min_ ts t #[.int .i64 (k1:Int),.int .i64 3]).run Tryz.prog w=.ok (.int .i64 (k0:Int)) w:=fun ts t w=>by rw[run_min_int2,hkn]
   clear ht hki ha hy hl hkk hkn HT HT0 hN hk1;go_wp2_with (refine yZ rfl 42 (.tmp 3) rfl w.heap.size rfl 42 (ae B S C T L) (0,0) _ HP.out Tryz.underlying42 rfl (ai _ _ _ _ _) ?_)
   refine(HCall.out _).mono ?_;rintro e w3 ⟨rfl,hb⟩;have HF:=hJ (show kY w (fun _=>0) w3 from⟨(hb.block _ (lt_of_heap HF.out.1)).trans HF.out.1,(hb.block _ (lt_of_heap HF.out.2.1)).trans HF.out.2.1,ag HF.out.2.2 hb⟩);clear hb HCall HP;go_wp2_with fail
   refine(HSk.out _).mono ?_;rintro e w4 ⟨rfl,rfl⟩;clear HSk ha0 ha1;go_wp2_with fail
   clear i1 i2 i2' i3 i4 hkb hsl hsl2 hk4;go_loopw [8,9,12] (fun lv kv iv wr=>∃ (i:Nat) (l:Int) (k:Nat) (O:Nat->Int),i<=N/\iv=.int .i64 i/\lv=.int .i64 l/\kv=.int .i64 (k:Int)/\0<=l/\l<=254/\k<4/\Hid (∀ j,O j+dX (N-i) l k j=dX N l0 k0 j)/\Hid (∀ j,0<=O j/\O j<=256*i)/\kY w O wr) (fun _ _ iv _=>N-(intOf iv).toNat)
   case atStart=>exact⟨0,l0,k0,fun _=>0,oZ,rfl,rfl,rfl,hin.1,hin.2.1,hin.2.2,hJ fun j=>sZ,hJ fun j=>⟨Int.le_refl _,sZ⟩,HF.out⟩
   case round =>
    clear HF;obtain⟨i,l,k,O,hi,rfl,rfl,rfl,hl0,hl1,hk4,HS,HO,hF⟩:=hrel;have HF:=hJ hF;clear hF;by_cases hlt:i<N
    ·have hlt1:(i:Int)<n:=by have:=HNN.out;omega
     obtain⟨m,hm⟩:∃ m,N-i=m+1:=⟨N-i-1,oZ⟩;have hm2:N-(i+1)=m:=oZ;have HMM:=hJ (And.intro hm hm2);clear hm hm2;by_cases hl:l=0
     ·have hsl:=d9 k;have hsl2:=dB k;have hok:=HO.out k;obtain⟨o,ho⟩:∃ o,o=O k:=⟨_,rfl⟩;obtain⟨y,hy⟩:∃ y,y=aN k:=⟨_,rfl⟩;have HY:=hJ hy;have HOo:=hJ ho;have HSk:=hJ (fun w=>HSl.out w k hk4);rw[<- hy] at hsl hsl2 HSk;have c1:wr.cell? ⟨w.heap.size+1+1,k,none⟩=some (.int .i64 o):=by rw[ho];exact(aa HF.out.2.1 k).trans (dK _ k oZ)
      have f1:wr.frozen? ⟨w.heap.size+1+1,k,none⟩=false:=free_at HF.out.2.1 k;rw[<- ho] at hok;have o1:IntKind.i64.wrap (o+y)=o+y:=iZ _ (by have:=HNN.out;omega);have hk6:(k:Int)<6:=oZ;have i1:IntKind.i64.wrap (y-1)=y-1:=iZ _ oZ;have i2:IntKind.i64.wrap (y-1-1)=y-1-1:=iZ _ oZ;obtain⟨k1,hk1⟩:∃ k1,k1=k+1:=⟨_,rfl⟩;have i3:(k:Int)+1=(k1:Int):=oZ;have i4:IntKind.i64.wrap (k1:Int)=(k1:Int):=iZ _ oZ;have hkn:(if(3:Int)<(k1:Int) then(3:Int) else(k1:Int))=((up k:Nat):Int):=by unfold up;split <;> split <;> omega
      obtain⟨k2,hk2⟩:∃ k2,k2=up k:=⟨_,rfl⟩;rw[<- hk2] at hkn;have hkb:∀ (ts:Array TypeId) (t:TypeId) (w:World),(Builtin.min_ ts t #[.int .i64 (k1:Int),.int .i64 3]).run Tryz.prog w=.ok (.int .i64 (k2:Int)) w:=fun ts t w=>by rw[run_min_int2,hkn]
      have HK2:=hJ hk2;subst hl;clear hkn hy ho hk2 hk1;go_wp2_with fail
      refine wp_region_still_tail 7 kZ kZ ?_;simp only[List.take_succ_cons,List.take_zero,List.drop_succ_cons,List.drop_zero];repeat still_step
      still_call (HSk.out _)
      repeat still_step
      refine wpStill_nil ?_;change wpList _ _ _ _ _ (World.drew _);go_wp2_with fail
      refine(HSk.out _).mono ?_;rintro e w4 ⟨rfl,rfl⟩;go_wp2_with fail
      go_roundw
      case rel =>
       refine⟨i+1,y-1-1,k2,more O k y,oZ,by go_num,rfl,rfl,oZ,oZ,by rw[HK2.out];exact IX k,hJ fun j=>?_,hJ fun j=>?_,?_⟩
       ·have h:=HS.out j;rw[HMM.out.1,gJ,if_pos rfl] at h;rw[HMM.out.2,HK2.out,show y-1-1=aN k-2 by rw[<- HY.out];omega,<- h,HY.out];unfold more;split <;> rename_i e <;> simp[e] <;> omega
       ·have h:=HO.out j;unfold more;split
        ·subst j;omega
        ·omega
       ·refine⟨(Below.heap_setCell _ _ _ _ sZ).trans HF.out.1,?_,(HF.out.2.2.setCell uZ _).drew⟩;show (World.setCell _ _ _).heap[w.heap.size+1+1]?=_;rw[heap_setCell_same _ _ _ _ _ _ (show wr.heap[w.heap.size+1+1]?=_ from HF.out.2.1),HOo.out,iC O (more O k y) k _ oZ (fun j _=>rfl)]
      case measure=>simp[intOf];omega
     ·have hlb:(l==0)=false:=by simpa using hl
      have i1:IntKind.i64.wrap (l-1)=l-1:=iZ _ oZ;have HL1:=hJ (show 0<=l-1/\l-1<=254 by omega);have HL0:=hJ hl;clear hl;go_wp2_with fail
      go_roundw
      case rel =>
       refine⟨i+1,l-1,k,O,oZ,by go_num,rfl,rfl,HL1.out.1,HL1.out.2,hk4,hJ fun j=>?_,hJ fun j=>?_,HF.out⟩
       ·have h:=HS.out j;rw[HMM.out.1,gJ,if_neg HL0.out] at h;rw[HMM.out.2,<- h]
       ·have:=HO.out j;omega
      case measure=>simp[intOf];omega
    ·have hlt1:¬ (i:Int)<n:=by have:=HNN.out;omega
     have hfin:six O=six (dU B S t n):=vW fun j _=>by
      have h:=HS.out j;rw[show N-i=0 by omega] at h;rw[HZ.out j,<- h];simp[dX]
     have G1:=hJ HF.out.1;have G2:Hid (wr.heap[w.heap.size+1+1]?=some (.cells (six (dU B S t n)) 40 (0,0))):=hJ (by rw[<- hfin];exact HF.out.2.1);have HB:=hJ HF.out.2.2;clear hfin HF
     go_wp2_with (first
      | (refine yZ rfl 40 (.tmp 7) rfl (w.heap.size+1+1) rfl 40 (six (dU B S t n)) (0,0) _ G2.out Tryz.underlying40 rfl (af _) ?_)
      | (refine zZ rfl 40 (.tmp 6) (.tmp 59) rfl (w.heap.size+1) (six (dU B S t n)) rfl rfl 40 (six fun _=>0) G1.out (af _) rfl (aQ _) ?_)
      | fail)
     refine tZ (v:=.agg (six (dU B S t n))) (results_cell_row rfl _ _ (w.heap.size+1) _ _ (0,0) _ rfl (setRow_heap _ _ _ _ _ _ G1.out) Tryz.underlying40 rfl (af _)) rfl ⟨rfl,below_setRow HB.out oZ _⟩
 ·have hrb:decide (bG B S t)=false:=decide_eq_false hr;rw[hrb] at HR;have HZ:=hJ (show six (dU B S t n)=six fun _=>0 from vW fun j _=>by unfold dU;rw[if_neg hr]);clear hr hrb hL;go_enter Tryz.func96,Tryz.ntmps96
  go_wp2_with (refine yZ rfl 42 (.tmp 3) rfl w.heap.size rfl 42 (ae B S C T L) (0,0) _ (dN w _ _ _) Tryz.underlying42 rfl (ai _ _ _ _ _) ?_)
  refine(HR.out _).mono ?_;rintro e w1 ⟨rfl,hb⟩;have g1:w1.heap[w.heap.size+1]?=some (.cells (six fun _=>0) 40 (0,0)):=(hb.block _ sZ).trans (dM w _ _ _);have g2:w1.heap[w.heap.size+1+1]?=some (.cells (six fun _=>0) 40 (0,0)):=(hb.block _ sZ).trans (dS w _ _ _);have G1:=hJ g1;have G2:=hJ g2;have HB:=hJ (bi.trans (hb.mono uZ));clear g1 g2 hb HR
  go_wp2_with (first
   | (refine yZ rfl 40 (.tmp 7) rfl (w.heap.size+1+1) rfl 40 (six fun _=>0) (0,0) _ G2.out Tryz.underlying40 rfl (af _) ?_)
   | (refine zZ rfl 40 (.tmp 6) (.tmp 18) rfl (w.heap.size+1) (six fun _=>0) rfl rfl 40 (six fun _=>0) G1.out (af _) rfl (aQ _) ?_)
   | fail)
  refine tZ (v:=.agg (six fun _=>0)) (results_cell_row rfl _ _ (w.heap.size+1) _ _ (0,0) _ rfl (setRow_heap _ _ _ _ _ _ G1.out) Tryz.underlying40 rfl (af _)) rfl ⟨by rw[HZ.out],below_setRow HB.out oZ _⟩
/-! ### A walk -/
end Go.Proofs.YtafaohnhlgcnpaaGreatDoor
