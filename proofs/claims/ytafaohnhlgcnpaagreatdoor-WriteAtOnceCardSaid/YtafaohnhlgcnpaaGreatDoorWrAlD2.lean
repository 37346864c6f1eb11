/-
 What stage 12 rests on.
-/
import Derived.Test.YtafaohnhlgcnpaaGreatDoorWrAlC1
set_option maxRecDepth 100000
set_option maxHeartbeats 16000000
namespace Go.Proofs.YtafaohnhlgcnpaaGreatDoor
open Go.RowKit
def tu (d t:Int) (s:Nat->Int) (bk rm:Int) (w:World) (e:Ending) (w':World):Prop :=
 Below w.heap.size w w'/\((ek d t s bk rm/\e=.returned (.tuple #[.agg (six (aB s bk rm)),.bool true]))∨(¬ ek d t s bk rm/\∃ U,e=.returned (.tuple #[.agg (six U),.bool false])))
def kP (S:Nat->Int) (i k:Nat):Int:=if k<i then S k else 0
theorem Dz (S:Nat->Int) (k j:Nat):kP S (k+1) j=if j=k then S k else kP S k j:=by
 unfold kP;by_cases e:j=k
 ·subst e;simp
 ·by_cases a:j<k
  ·simp[e,a,show j<k+1 by omega]
  ·simp[e,a,show ¬ j<k+1 by omega]
def uU (w:World) (d t:Int) (s:Nat->Int) (bk rm:Int) (kf bf:Nat) (i:Nat) (wr:World):Prop :=
 wr.heap[w.heap.size]?=some (.cells (au d t s bk rm kf bf) 25 (0,0))/\wr.heap[w.heap.size+1]?=some (.cells (six fun _=>0) 40 (0,0)) /\
 wr.heap[w.heap.size+1+1]?=some (.cells (six (kP (aB s bk rm) i)) 40 (0,0))/\Below w.heap.size w wr/\(∀ j,j<i->j<4->0<=s j/\s j<=512) /\
 3<=aA (aB s bk rm) i/\aA (aB s bk rm) i<=3+131072*i
theorem uU.put {w:World} {d t:Int} {s:Nat->Int} {bk rm:Int} {kf bf i:Nat} {wr w':World} (h:uU w d t s bk rm kf bf i wr) (hi:i<6) (h4:i<4->0<=s i/\s i<=512) (h0:0<=aB s bk rm i) (h1:aB s bk rm i<=131072)
  (hw:w'=wr.setCell ⟨w.heap.size+1+1,i,none⟩ (.int .i64 (aB s bk rm i))∨w'=(wr.setCell ⟨w.heap.size+1+1,i,none⟩ (.int .i64 (aB s bk rm i))).drew):uU w d t s bk rm kf bf (i+1) w':=by
 obtain⟨a,b,c,e,f,g0,g1⟩:=h
 have key:uU w d t s bk rm kf bf (i+1) (wr.setCell ⟨w.heap.size+1+1,i,none⟩ (.int .i64 (aB s bk rm i))):=by
  refine⟨?_,?_,?_,e.setCell uZ _,fun j hj hj4=>?_,?_,?_⟩
  ·rw[Below.heap_setCell _ _ _ _ uZ];exact a
  ·rw[Below.heap_setCell _ _ _ _ sZ];exact b
  ·rw[heap_setCell_same _ _ _ _ _ _ c,iC _ (kP (aB s bk rm) (i+1)) i _ hi (fun j _=>Dz _ i j)]
  ·by_cases e:j=i
   ·subst e;exact h4 hj4
   ·exact f j oZ hj4
  ·simp only[aA];omega
  ·simp only[aA];omega
 rcases hw with rfl | rfl
 ·exact key
 ·obtain⟨a,b,c,e,f,g⟩:=key;exact⟨a,b,c,e.drew,f,g⟩
theorem iw (w:World) (k:Nat) (hk:k<4):Calls Tryz.prog 100 #[.int .i64 k] w fun e w'=>e=.returned (.int .i64 (aN k))/\w'=w:=(kK w k hk).mono fun _ _ ⟨h,h'⟩=>⟨h,h'.symm⟩
theorem zL (w:World) (d t:Int) (s:Nat->Int) (bk rm:Int) (kf bf:Nat) (g0:1<=d) (g1:d<=64) (g2:64<=t) (g3:t<=256) (g4:0<=bk) (g5:bk<=65536) (g6:0<=rm) (g7:rm<=65536) :
  Calls Tryz.prog 62 #[.agg (au d t s bk rm kf bf)] w fun e w'=>tu d t s bk rm w e w':=by
 unfold au;go_enter Tryz.func62,Tryz.ntmps62
 go_wp2_with fail
 go_loopw [5,6] (fun al i wr=>∃ k:Nat,k<=6/\i=.int .i64 k/\al=.int .i64 (aA (aB s bk rm) k)/\uU w d t s bk rm kf bf k wr) (fun _ i _=>6-(intOf i).toNat)
 case atStart=>exact⟨0,oZ,rfl,rfl,dN _ _ _ _,dM _ _ _ _,dS _ _ _ _,bi,(fun j hj=>oZ),by simp[aA],by simp[aA]⟩
 case round =>
  obtain⟨k,hk,rfl,rfl,hrel⟩:=hrel;by_cases hlt:k<4
  ·have hlt4:(k:Int)<4:=oZ;have hlt6:(k:Int)<6:=oZ;have c1:=aa hrel.1 (2+k);rw[yj _ _ _ _ _ _ _ k hlt] at c1;have c3:=aa hrel.2.2.1 k;rw[dK _ k oZ] at c3;have f3:=free_at hrel.2.2.1 k;have hk4:((k:Int)==4)=false:=by simp;omega
   have hk5:((k:Int)==5)=false:=by simp;omega
   have hA0:=hrel.2.2.2.2.2.1;have hA1:=hrel.2.2.2.2.2.2;have H:=hJ hrel;clear hrel;by_cases h0:0<=s k
   ·by_cases h1:s k<=512
    ·have hm0:0<=s k*aN k:=Int.mul_nonneg h0 (by have:=dB k;omega)
     have hm1:s k*aN k<=131072:=by
      calc s k*aN k<=512*aN k:=Int.mul_le_mul_of_nonneg_right h1 (by have:=dB k;omega)
       _<=131072:=by have:=d9 k;omega
     have hwr:IntKind.i64.wrap (s k*aN k)=s k*aN k:=iZ _ oZ;go_upto_region 11 with fail
     refine wp_region_still_tail 9 kZ kZ ?_;simp only[List.take_succ_cons,List.take_zero,List.drop_succ_cons,List.drop_zero];repeat still_step
     still_call (iw _ k hlt)
     repeat still_step
     refine wpStill_nil ?_;change wpList _ _ _ _ _ (World.drew _);clear hwr;go_wp2_with fail
     go_roundw
     case rel =>
      have e1:aB s bk rm k=s k*aN k:=by unfold aB;rw[if_pos hlt]
      refine⟨k+1,oZ,by go_num,?_,?_⟩
      ·simp only[aA,e1]
      ·have:=H.out.put (w':=(wr.setCell ⟨w.heap.size+1+1,k,none⟩ (.int .i64 (aB s bk rm k))).drew) oZ (fun _=>⟨h0,h1⟩) (by rw[e1];exact hm0) (by rw[e1];exact hm1) (.inr rfl);rw[e1] at this;exact this
     case measure=>simp[intOf];omega
    ·have hn:¬ ek d t s bk rm:=fun h=>h1 (h.1.s1 k hlt);have HN:=hJ hn;clear hn;have H1:=hJ H.out.2.1;have H2:=hJ H.out.2.2.1
     go_wp2_with (first
      | (refine yZ rfl 40 (.tmp 4) rfl (w.heap.size+1+1) rfl 40 (six (kP (aB s bk rm) k)) (0,0) _ H2.out Tryz.underlying40 rfl (af _) ?_)
      | (refine zZ rfl 40 (.tmp 2) (.tmp 65) rfl (w.heap.size+1) (six (kP (aB s bk rm) k)) rfl rfl 40 (six fun _=>0) H1.out (af _) (aS _ _) (aQ _) ?_))
     refine tZ (v:=.tuple #[.agg (six (kP (aB s bk rm) k)),.bool false]) (results_cell_tmp rfl _ _ (w.heap.size+1) _ _ (0,0) _ _ rfl rfl (setRow_heap _ _ _ _ _ _ H1.out) Tryz.underlying40 rfl (af _)) rfl ⟨below_setRow H.out.2.2.2.1 oZ _,.inr ⟨HN.out,_,rfl⟩⟩
   ·have hn:¬ ek d t s bk rm:=fun h=>h0 (h.1.s0 k hlt);have HN:=hJ hn;clear hn;have H1:=hJ H.out.2.1;have H2:=hJ H.out.2.2.1
    go_wp2_with (first
     | (refine yZ rfl 40 (.tmp 4) rfl (w.heap.size+1+1) rfl 40 (six (kP (aB s bk rm) k)) (0,0) _ H2.out Tryz.underlying40 rfl (af _) ?_)
     | (refine zZ rfl 40 (.tmp 2) (.tmp 65) rfl (w.heap.size+1) (six (kP (aB s bk rm) k)) rfl rfl 40 (six fun _=>0) H1.out (af _) (aS _ _) (aQ _) ?_))
    refine tZ (v:=.tuple #[.agg (six (kP (aB s bk rm) k)),.bool false]) (results_cell_tmp rfl _ _ (w.heap.size+1) _ _ (0,0) _ _ rfl rfl (setRow_heap _ _ _ _ _ _ H1.out) Tryz.underlying40 rfl (af _)) rfl ⟨below_setRow H.out.2.2.2.1 oZ _,.inr ⟨HN.out,_,rfl⟩⟩
  ·have h45:k=4∨k=5∨k=6:=oZ;rcases h45 with rfl | rfl | rfl
   ·have c1:wr.cell? ⟨w.heap.size,6,none⟩=some (.int .i64 bk):=aa hrel.1 6;have c3:wr.cell? ⟨w.heap.size+1+1,4,none⟩=some (.int .i64 (kP (aB s bk rm) 4 4)):=aa hrel.2.2.1 4;have f3:=free_at hrel.2.2.1 4;have hA0:=hrel.2.2.2.2.2.1;have hA1:=hrel.2.2.2.2.2.2;have H:=hJ hrel;clear hrel;go_wp2_with fail
    go_roundw
    case rel=>exact⟨5,oZ,rfl,rfl,H.out.put oZ (fun h=>oZ) g4 (by simp[aB];omega) (.inl rfl)⟩
    case measure=>simp[intOf]
   ·have c1:wr.cell? ⟨w.heap.size,7,none⟩=some (.int .i64 rm):=aa hrel.1 7;have c3:wr.cell? ⟨w.heap.size+1+1,5,none⟩=some (.int .i64 (kP (aB s bk rm) 5 5)):=aa hrel.2.2.1 5;have f3:=free_at hrel.2.2.1 5;have hA0:=hrel.2.2.2.2.2.1;have hA1:=hrel.2.2.2.2.2.2;have H:=hJ hrel;clear hrel;go_wp2_with fail
    go_roundw
    case rel=>exact⟨6,oZ,rfl,rfl,H.out.put oZ (fun h=>oZ) g6 (by simp[aB];omega) (.inl rfl)⟩
    case measure=>simp[intOf]
   ·have hlim:Hd d t s bk rm:=⟨g0,g1,g2,g3,fun k hk=>(hrel.2.2.2.2.1 k oZ hk).1,fun k hk=>(hrel.2.2.2.2.1 k oZ hk).2,g4,g5,g6,g7⟩;have eo:six (kP (aB s bk rm) 6)=six (aB s bk rm):=rfl;have H1:=hJ hrel.2.1;have H2:=hJ (eo ▸ hrel.2.2.1);have HB:=hJ hrel.2.2.2.1;clear hrel eo;by_cases hc:aA (aB s bk rm) 6<=65536
    ·have HC:=hJ (show ek d t s bk rm from⟨hlim,hc⟩);clear hlim
     go_wp2_with (first
      | (refine yZ rfl 40 (.tmp 4) rfl (w.heap.size+1+1) rfl 40 (six (aB s bk rm)) (0,0) _ H2.out Tryz.underlying40 rfl (af _) ?_)
      | (refine zZ rfl 40 (.tmp 2) (.tmp 92) rfl (w.heap.size+1) (six (aB s bk rm)) rfl rfl 40 (six fun _=>0) H1.out (af _) (aS _ _) (aQ _) ?_))
     refine tZ (v:=.tuple #[.agg (six (aB s bk rm)),.bool true]) (results_cell_tmp rfl _ _ (w.heap.size+1) _ _ (0,0) _ _ rfl rfl (setRow_heap _ _ _ _ _ _ H1.out) Tryz.underlying40 rfl (af _)) rfl ⟨below_setRow HB.out oZ _,.inl ⟨HC.out,rfl⟩⟩
    ·have HC:=hJ (show ¬ ek d t s bk rm from fun h=>hc h.2);have hc':decide (aA (aB s bk rm) 6<=65536)=false:=decide_eq_false hc;clear hlim hc
     go_wp2_with (first
      | (refine yZ rfl 40 (.tmp 4) rfl (w.heap.size+1+1) rfl 40 (six (aB s bk rm)) (0,0) _ H2.out Tryz.underlying40 rfl (af _) ?_)
      | (refine zZ rfl 40 (.tmp 2) (.tmp 92) rfl (w.heap.size+1) (six (aB s bk rm)) rfl rfl 40 (six fun _=>0) H1.out (af _) (aS _ _) (aQ _) ?_))
     refine tZ (v:=.tuple #[.agg (six (aB s bk rm)),.bool false]) (results_cell_tmp rfl _ _ (w.heap.size+1) _ _ (0,0) _ _ rfl rfl (setRow_heap _ _ _ _ _ _ H1.out) Tryz.underlying40 rfl (af _)) rfl ⟨below_setRow HB.out oZ _,.inr ⟨HC.out,_,rfl⟩⟩
theorem oQ (w:World) (d t:Int) (s:Nat->Int) (bk rm:Int) (kf bf:Nat) :
  Calls Tryz.prog 62 #[.agg (au d t s bk rm kf bf)] w fun e w'=>tu d t s bk rm w e w':=by
 have no:∀ {e:Ending} {w':World},¬ Hd d t s bk rm->e=.returned (.tuple #[.agg (six fun _=>0),.bool false])/\Below w.heap.size w w'->tu d t s bk rm w e w':=fun hn h=>⟨h.2,.inr ⟨fun h'=>hn h'.1,_,h.1⟩⟩;by_cases g0:1<=d
 rotate_left;· exact(yI w d t s bk rm kf bf oZ).mono fun _ _ h=>no (fun h'=>g0 h'.d0) h
 by_cases g1:d<=64
 rotate_left;· exact(yP w d t s bk rm kf bf g0 oZ).mono fun _ _ h=>no (fun h'=>g1 h'.d1) h
 by_cases g2:64<=t
 rotate_left;· exact(zQ w d t s bk rm kf bf g0 g1 oZ).mono fun _ _ h=>no (fun h'=>g2 h'.t0) h
 by_cases g3:t<=256
 rotate_left;· exact(zF w d t s bk rm kf bf g0 g1 g2 oZ).mono fun _ _ h=>no (fun h'=>g3 h'.t1) h
 by_cases g4:0<=bk
 rotate_left;· exact(zl w d t s bk rm kf bf g0 g1 g2 g3 oZ).mono fun _ _ h=>no (fun h'=>g4 h'.b0) h
 by_cases g5:bk<=65536
 rotate_left;· exact(yQ w d t s bk rm kf bf g0 g1 g2 g3 g4 oZ).mono fun _ _ h=>no (fun h'=>g5 h'.b1) h
 by_cases g6:0<=rm
 rotate_left;· exact(zY w d t s bk rm kf bf g0 g1 g2 g3 g4 g5 oZ).mono fun _ _ h=>no (fun h'=>g6 h'.r0) h
 by_cases g7:rm<=65536
 rotate_left;· exact(zK w d t s bk rm kf bf g0 g1 g2 g3 g4 g5 g6 oZ).mono fun _ _ h=>no (fun h'=>g7 h'.r1) h
 exact zL w d t s bk rm kf bf g0 g1 g2 g3 g4 g5 g6 g7
theorem Cw (w:World) (d t:Int) (s:Nat->Int) (bk rm:Int) (kf bf:Nat) (h:¬ ek d t s bk rm) :
  Calls Tryz.prog 33 #[.agg (au d t s bk rm kf bf)] w fun e w'=>e=.returned (.tuple #[.agg (ae (fun _=>0) (fun _=>0) 0 0 0),.int .i64 1])/\Below w.heap.size w w':=by
 unfold au;go_enter Tryz.func33,Tryz.ntmps33
 go_wp2_with fail
 refine(oQ _ d t s bk rm kf bf).mono ?_;rintro e w1 ⟨hb1,⟨hok,rfl⟩ | ⟨_,U,rfl⟩⟩
 ·exact absurd hok h
 ·simp only[six];have h1:=(hb1.block (w.heap.size+1) sZ).trans (eO _ _ _);have hne:w.heap.size+1≠w1.heap.size:=by have:=lt_of_heap h1;omega
  have H1:=hJ h1;have HB:=hJ (dh.trans (hb1.mono uZ));clear h1 hb1
  go_wp2_with (first
   | (refine zZ rfl 42 (.tmp 2) (.tmp 16) rfl (w.heap.size+1) (ae (fun _=>0) (fun _=>0) 0 0 0) rfl rfl 42 (ae (fun _=>0) (fun _=>0) 0 0 0) ((Below.heap_alloc _ _ _ (lt_of_heap H1.out)).trans H1.out) (ai _ _ _ _ _) rfl (gB _ _ _ _ _) ?_))
  refine tZ (v:=.tuple #[.agg (ae (fun _=>0) (fun _=>0) 0 0 0),.int .i64 1]) (results_cell_tmp rfl _ _ (w.heap.size+1) _ _ (0,0) _ _ rfl rfl (setRow_heap _ _ _ _ _ _ ((Below.heap_alloc _ _ _ (lt_of_heap H1.out)).trans H1.out)) Tryz.underlying42 rfl (ai _ _ _ _ _)) rfl ⟨rfl,?_⟩;exact below_setRow (HB.out.alloc HB.out.size _) oZ _
def xn (w:World) (d t:Int) (s:Nat->Int) (bk rm:Int) (kf bf:Nat) (p q i:Nat) (wr:World):Prop :=
 iM w d t s bk rm kf bf wr/\wr.heap[p]?=some (.cells (six (aB s bk rm)) 40 (0,0))/\wr.heap[q]?=some (.cells (ae (ny (aB s bk rm) i) (aB s bk rm) 0 128 0) 42 (0,0))
theorem j5 (w:World) (d t:Int) (s:Nat->Int) (bk rm:Int) (kf bf:Nat) (h:ek d t s bk rm) :
  Calls Tryz.prog 33 #[.agg (au d t s bk rm kf bf)] w fun e w'=>e=.returned (.tuple #[.agg (ae (aA (aB s bk rm)) (aB s bk rm) (aA (aB s bk rm) 6) (slotsOf t) (bN d t)),.int .i64 0])/\Below w.heap.size w w':=by
 unfold au;go_enter Tryz.func33,Tryz.ntmps33
 go_wp2_with fail
 refine(oQ _ d t s bk rm kf bf).mono ?_;rintro e w1 ⟨hb1,⟨hok,rfl⟩ | ⟨hno,U,rfl⟩⟩;rotate_left
 ·exact absurd h hno
 ·simp only[six];have h1:=(hb1.block (w.heap.size+1) sZ).trans (eO _ _ _);have h0:=(hb1.block w.heap.size uZ).trans (ed _ _ _);have hL:iM w d t s bk rm kf bf w1:=⟨h0,h1,dh.trans (hb1.mono uZ)⟩;clear h0 h1 hb1 hok;have hlim:=h.1;go_wp2_with fail
  have hr:xn w d t s bk rm kf bf w1.heap.size (w1.heap.size+1) 0 ((w1.alloc (.cells (six (aB s bk rm)) 40)).alloc (.cells (ae (fun _=>0) (aB s bk rm) 0 128 0) 42)) :=
   ⟨(hL.below aj).below aj,ed _ _ _,eO _ _ _⟩
  obtain⟨p,hp⟩:∃ p,p=w1.heap.size:=⟨_,rfl⟩;have hpw:w.heap.size+2<=p:=by have:=lt_of_heap hL.2.1;omega
  rw[<- hp] at hr ⊢;have HH:=hJ h;clear hL h hp;go_loopw [7,8] (fun al i wr=>∃ k:Nat,k<=6/\i=.int .i64 k/\al=.int .i64 (aA (aB s bk rm) k)/\xn w d t s bk rm kf bf p (p+1) k wr) (fun _ i _=>6-(intOf i).toNat)
  case atStart=>exact⟨0,oZ,rfl,rfl,hr⟩
  case round =>
   clear hr;obtain⟨k,hk,rfl,rfl,hL,hp,hq⟩:=hrel;by_cases hlt:k<6
   ·have hlt6:(k:Int)<6:=oZ;have c1:wr.cell? ⟨p+1,k,none⟩=some (.int .i64 (ny (aB s bk rm) k k)):=(aa hq k).trans (iY _ _ _ _ _ k hlt);have c2:wr.cell? ⟨p,k,none⟩=some (.int .i64 (aB s bk rm k)):=(aa hp k).trans (dK _ k hlt);have f1:=free_at hq k;have b0:=tL hlim k;have b1:=tH hlim k;have s0:=uN hlim k;have s1:=zA hlim k;have HQ:=hJ hq;have HP:=hJ hp;have HL:=hJ hL;clear hq hp hL;go_wp2_with fail
    go_roundw
    case rel =>
     refine⟨k+1,oZ,by go_num,by simp only[aA],?_,?_,?_⟩
     ·exact HL.out.setCell uZ _
     ·rw[Below.heap_setCell _ _ _ _ sZ];exact HP.out
     ·rw[heap_setCell_same _ _ _ _ _ _ HQ.out,oV _ _ _ _ _ _ k _ hlt (fun j _=>tX _ k j)]
    case measure=>simp[intOf];omega
   ·obtain rfl:k=6:=oZ;have c1:wr.cell? ⟨p+1,12,none⟩=some (.int .i64 0):=aa hq 12;have f1:=free_at hq 12;have HQ:=hJ hq;have HL:=hJ hL;clear hq hp hL;go_upto_region 12 with fail
    obtain⟨w5,hw5⟩:∃ w5,w5=wr.setCell ⟨p+1,12,none⟩ (.int .i64 (aA (aB s bk rm) 6)):=⟨_,rfl⟩;rw[<- hw5]
    have hq5:w5.heap[p+1]?=some (.cells (ae (aA (aB s bk rm)) (aB s bk rm) (aA (aB s bk rm) 6) 128 0) 42 (0,0)):=by
     rw[hw5,heap_setCell_same _ _ _ _ _ _ HQ.out,nG];rfl
    have hL5:iM w d t s bk rm kf bf w5:=by
     rw[hw5];exact HL.out.setCell uZ _
    clear hw5 HQ HL c1 f1;have k0:w5.cell? ⟨w.heap.size,0,none⟩=some (.int .i64 d):=aa hL5.1 0;have k1:w5.cell? ⟨w.heap.size,1,none⟩=some (.int .i64 t):=aa hL5.1 1;have k3:w5.cell? ⟨p+1,13,none⟩=some (.int .i64 128):=aa hq5 13;have f3:=free_at hq5 13;have k4:w5.cell? ⟨p+1,14,none⟩=some (.int .i64 0):=aa hq5 14;have f4:=free_at hq5 14;have d0:=hlim.d0;have d1:=hlim.d1;have HQ5:=hJ hq5;have HL5:=hJ hL5;clear hq5 hL5;by_cases ht:t<128
    ·have HS:=hJ (show slotsOf t=128 by simp[slotsOf,ht]);have ht':¬ 128<=t:=oZ;have ht'':¬ 256<=t:=oZ;go_upto_region 17 with fail
     obtain⟨w6,hw6⟩:∃ w6,w6=w5.setCell ⟨p+1,14,none⟩ (.int .i64 (1+4*d+128)):=⟨_,rfl⟩;rw[<- hw6]
     have hq6:w6.heap[p+1]?=some (.cells (ae (aA (aB s bk rm)) (aB s bk rm) (aA (aB s bk rm) 6) (slotsOf t) (bN d t)) 42 (0,0)):=by
      rw[hw6,heap_setCell_same _ _ _ _ _ _ HQ5.out];simp only[bN,HS.out];rfl
     have hL6:iM w d t s bk rm kf bf w6:=by
      rw[hw6];exact(HL5.out.setCell (p:=⟨p+1,14,none⟩) uZ _)
     clear hw6;have H2:=hJ hL6.2.1;have HQ6:=hJ hq6;have HB:=hJ hL6.2.2;clear hq6 hL6
     go_wp2_with (first
      | (refine yZ rfl 42 (.tmp 6) rfl (p+1) rfl 42 (ae (aA (aB s bk rm)) (aB s bk rm) (aA (aB s bk rm) 6) (slotsOf t) (bN d t)) (0,0) _ HQ6.out Tryz.underlying42 rfl (ai _ _ _ _ _) ?_)
      | (refine zZ rfl 42 (.tmp 2) (.tmp 50) rfl (w.heap.size+1) (ae (aA (aB s bk rm)) (aB s bk rm) (aA (aB s bk rm) 6) (slotsOf t) (bN d t)) rfl rfl 42 (ae (fun _=>0) (fun _=>0) 0 0 0) H2.out (ai _ _ _ _ _) rfl (gB _ _ _ _ _) ?_))
     refine tZ (v:=.tuple #[.agg (ae (aA (aB s bk rm)) (aB s bk rm) (aA (aB s bk rm) 6) (slotsOf t) (bN d t)),.int .i64 0]) (results_cell_tmp rfl _ _ (w.heap.size+1) _ _ (0,0) _ _ rfl rfl (setRow_heap _ _ _ _ _ _ H2.out) Tryz.underlying42 rfl (ai _ _ _ _ _)) rfl ⟨rfl,below_setRow HB.out oZ _⟩
    ·by_cases hu:t<256
     ·have HS:=hJ (show slotsOf t=256 by simp[slotsOf,ht,hu]);have ht':128<=t:=oZ;have hu':¬ 256<=t:=oZ;clear ht;go_upto_region 17 with fail
      obtain⟨w6,hw6⟩:∃ w6,w6=(w5.setCell ⟨p+1,13,none⟩ (.int .i64 256)).setCell ⟨p+1,14,none⟩ (.int .i64 (1+4*d+256)):=⟨_,rfl⟩;rw[<- hw6]
      have hq6:w6.heap[p+1]?=some (.cells (ae (aA (aB s bk rm)) (aB s bk rm) (aA (aB s bk rm) 6) (slotsOf t) (bN d t)) 42 (0,0)):=by
       rw[hw6,heap_setCell_same _ _ _ _ _ _ (heap_setCell_same _ _ _ _ _ _ HQ5.out)];simp only[bN,HS.out];rfl
      have hL6:iM w d t s bk rm kf bf w6:=by
       rw[hw6];exact((HL5.out.setCell (p:=⟨p+1,13,none⟩) uZ _).setCell (p:=⟨p+1,14,none⟩) uZ _)
      clear hw6;have H2:=hJ hL6.2.1;have HQ6:=hJ hq6;have HB:=hJ hL6.2.2;clear hq6 hL6
      go_wp2_with (first
       | (refine yZ rfl 42 (.tmp 6) rfl (p+1) rfl 42 (ae (aA (aB s bk rm)) (aB s bk rm) (aA (aB s bk rm) 6) (slotsOf t) (bN d t)) (0,0) _ HQ6.out Tryz.underlying42 rfl (ai _ _ _ _ _) ?_)
       | (refine zZ rfl 42 (.tmp 2) (.tmp 50) rfl (w.heap.size+1) (ae (aA (aB s bk rm)) (aB s bk rm) (aA (aB s bk rm) 6) (slotsOf t) (bN d t)) rfl rfl 42 (ae (fun _=>0) (fun _=>0) 0 0 0) H2.out (ai _ _ _ _ _) rfl (gB _ _ _ _ _) ?_))
      refine tZ (v:=.tuple #[.agg (ae (aA (aB s bk rm)) (aB s bk rm) (aA (aB s bk rm) 6) (slotsOf t) (bN d t)),.int .i64 0]) (results_cell_tmp rfl _ _ (w.heap.size+1) _ _ (0,0) _ _ rfl rfl (setRow_heap _ _ _ _ _ _ H2.out) Tryz.underlying42 rfl (ai _ _ _ _ _)) rfl ⟨rfl,below_setRow HB.out oZ _⟩
     ·have HS:=hJ (show slotsOf t=512 by simp[slotsOf,ht,hu]);have ht':128<=t:=oZ;have hu':256<=t:=oZ;clear ht hu;go_upto_region 17 with fail
      obtain⟨w6,hw6⟩:∃ w6,w6=((w5.setCell ⟨p+1,13,none⟩ (.int .i64 256)).setCell ⟨p+1,13,none⟩ (.int .i64 512)).setCell ⟨p+1,14,none⟩ (.int .i64 (1+4*d+512)):=⟨_,rfl⟩;rw[<- hw6]
      have hq6:w6.heap[p+1]?=some (.cells (ae (aA (aB s bk rm)) (aB s bk rm) (aA (aB s bk rm) 6) (slotsOf t) (bN d t)) 42 (0,0)):=by
       rw[hw6,heap_setCell_same _ _ _ _ _ _ (heap_setCell_same _ _ _ _ _ _ (heap_setCell_same _ _ _ _ _ _ HQ5.out))];simp only[bN,HS.out];rfl
      have hL6:iM w d t s bk rm kf bf w6:=by
       rw[hw6];exact(((HL5.out.setCell (p:=⟨p+1,13,none⟩) uZ _).setCell (p:=⟨p+1,13,none⟩) uZ _).setCell (p:=⟨p+1,14,none⟩) uZ _)
      clear hw6;have H2:=hJ hL6.2.1;have HQ6:=hJ hq6;have HB:=hJ hL6.2.2;clear hq6 hL6
      go_wp2_with (first
       | (refine yZ rfl 42 (.tmp 6) rfl (p+1) rfl 42 (ae (aA (aB s bk rm)) (aB s bk rm) (aA (aB s bk rm) 6) (slotsOf t) (bN d t)) (0,0) _ HQ6.out Tryz.underlying42 rfl (ai _ _ _ _ _) ?_)
       | (refine zZ rfl 42 (.tmp 2) (.tmp 50) rfl (w.heap.size+1) (ae (aA (aB s bk rm)) (aB s bk rm) (aA (aB s bk rm) 6) (slotsOf t) (bN d t)) rfl rfl 42 (ae (fun _=>0) (fun _=>0) 0 0 0) H2.out (ai _ _ _ _ _) rfl (gB _ _ _ _ _) ?_))
      refine tZ (v:=.tuple #[.agg (ae (aA (aB s bk rm)) (aB s bk rm) (aA (aB s bk rm) 6) (slotsOf t) (bN d t)),.int .i64 0]) (results_cell_tmp rfl _ _ (w.heap.size+1) _ _ (0,0) _ _ rfl rfl (setRow_heap _ _ _ _ _ _ H2.out) Tryz.underlying42 rfl (ai _ _ _ _ _)) rfl ⟨rfl,below_setRow HB.out oZ _⟩
end Go.Proofs.YtafaohnhlgcnpaaGreatDoor
