/-
 What stage 12 rests on.
-/
import Derived.Test.YtafaohnhlgcnpaaGreatDoorWrAlB2
import Derived.Laws.CopyOwn
import Derived.Test.YtafaohnhlgcnpaaGreatDoorWrAlB4
set_option maxRecDepth 100000
set_option maxHeartbeats 16000000
namespace Go.Proofs.YtafaohnhlgcnpaaGreatDoor
open Go.RowKit
def aB (s:Nat->Int) (bk rm:Int) (k:Nat):Int:=if k<4 then s k*aN k else if k=4 then bk else if k=5 then rm else 0
def Aw (s:Nat->Int) (bk rm:Int) (i k:Nat):Int:=if k<4/\i<=k then 0 else aB s bk rm k
theorem dB (k:Nat):4<=aN k:=by unfold aN;split;omega;split;omega;split <;> omega
theorem d9 (k:Nat):aN k<=256:=by unfold aN;split;omega;split;omega;split <;> omega
theorem uN {d t:Int} {s:Nat->Int} {bk rm:Int} (h:Hd d t s bk rm) (k:Nat):0<=aB s bk rm k:=by
 have:=h.b0;have:=h.r0;unfold aB;split
 ·rename_i hk
  exact Int.mul_nonneg (h.s0 k hk) (by have:=dB k;omega)
 ·split
  ·assumption
  ·split <;> omega
theorem zA {d t:Int} {s:Nat->Int} {bk rm:Int} (h:Hd d t s bk rm) (k:Nat):aB s bk rm k<=131072:=by
 have:=h.b1;have:=h.r1;unfold aB;split
 ·rename_i hk
  calc s k*aN k<=512*aN k:=Int.mul_le_mul_of_nonneg_right (h.s1 k hk) (by have:=dB k;omega)
   _<=131072:=by have:=d9 k;omega
 ·split
  ·omega
  ·split <;> omega
theorem jq (w:World) (k:Nat) (hk:k<4):Calls Tryz.prog 138 #[.int .i64 k] w fun e w'=>e=.returned (.int .i64 (aN k))/\w'=w:=(EI w k hk).mono fun _ _ ⟨h,h'⟩=>⟨h,h'.symm⟩
def Mo (w:World) (d t:Int) (s:Nat->Int) (bk rm:Int) (kf bf:Nat) (i:Nat) (wr:World):Prop :=
 wr.heap[w.heap.size]?=some (.cells (au d t s bk rm kf bf) 25 (0,0))/\wr.heap[w.heap.size+1]?=some (.cells (six fun _=>0) 40 (0,0)) /\
 wr.heap[w.heap.size+1+1]?=some (.cells (six (Aw s bk rm i)) 40 (0,0))/\Below w.heap.size w wr
theorem aQ (U:Nat->Int):(six U).all (·.oneCell')=true:=by simp[six,Value.oneCell']
theorem aS (U V:Nat->Int):(six U).size=(six V).size:=rfl
theorem af (U:Nat->Int):(Tryz.prog.info? 40).map (·.size)=some (six U).size:=kZ
theorem dK (U:Nat->Int) (k:Nat) (hk:k<6):(six U)[k]?=some (.int .i64 (U k)):=by
 rcases lg hk with rfl | rfl | rfl | rfl | rfl | rfl <;> rfl
theorem iC (U V:Nat->Int) (k:Nat) (x:Int) (hk:k<6) (h:∀ j,j<6->V j=if j=k then x else U j):(six U).setIfInBounds k (.int .i64 x)=six V:=by
 have h0:=h 0 oZ;have h1:=h 1 oZ;have h2:=h 2 oZ;have h3:=h 3 oZ;have h4:=h 4 oZ;have h5:=h 5 oZ;rcases lg hk with rfl | rfl | rfl | rfl | rfl | rfl <;> simp at h0 h1 h2 h3 h4 h5 <;> simp[six,h0,h1,h2,h3,h4,h5]
theorem yj (d t:Int) (s:Nat->Int) (bk rm:Int) (kf bf:Nat) (k:Nat) (hk:k<4):(au d t s bk rm kf bf)[2+k]?=some (.int .i64 (s k)):=by
 have:k=0∨k=1∨k=2∨k=3:=oZ;rcases this with rfl | rfl | rfl | rfl <;> rfl
theorem GL (s:Nat->Int) (bk rm:Int) (i:Nat) (hi:i<4) (j:Nat):Aw s bk rm (i+1) j=if j=i then s i*aN i else Aw s bk rm i j:=by
 unfold Aw;by_cases e:j=i
 ·subst e;have:¬ (j<4/\j+1<=j):=oZ;rw[if_neg this,if_pos rfl];unfold aB;rw[if_pos hi]
 ·by_cases a:j<4/\i<=j
  ·have b:j<4/\i+1<=j:=oZ;simp[e,a,b]
  ·have b:¬ (j<4/\i+1<=j):=oZ;simp[e,a,b]
theorem Gc (w:World) (d t:Int) (s:Nat->Int) (bk rm:Int) (kf bf:Nat) (h:Hd d t s bk rm) :
  Calls Tryz.prog 102 #[.agg (au d t s bk rm kf bf)] w fun e w'=>e=.returned (.agg (six (aB s bk rm)))/\Below w.heap.size w w':=by
 unfold au;go_enter Tryz.func102,Tryz.ntmps102
 go_wp2_with fail
 go_loopw [10] (fun i wr=>∃ k:Nat,k<=4/\i=.int .i64 k/\Mo w d t s bk rm kf bf k wr) (fun i _=>4-(intOf i).toNat)
 case atStart =>
  exact⟨0,oZ,rfl,dN _ _ _ _,dM _ _ _ _,dS _ _ _ _,bi⟩
 case round =>
  obtain⟨k,hk,rfl,h1,h2,h3,hb⟩:=hrel;by_cases hlt:k<4
  ·have c1:=aa h1 (2+k);rw[yj _ _ _ _ _ _ _ k hlt] at c1;have f1:=free_at h3 k;have c3:=aa h3 k;rw[dK _ k oZ] at c3;have HH:=hJ (And.intro h1 (And.intro h2 (And.intro h3 hb)));clear h1 h2 h3 hb;have a0:=h.s0 k hlt;have a1:=h.s1 k hlt;have hlt':(k:Int)<4:=oZ;have hlt6:(k:Int)<6:=oZ;have hm0:0<=s k*aN k:=Int.mul_nonneg a0 (by have:=dB k;omega)
   have hm1:s k*aN k<=131072:=by
    calc s k*aN k<=512*aN k:=Int.mul_le_mul_of_nonneg_right a1 (by have:=dB k;omega)
     _<=131072:=by have:=d9 k;omega
   have hwr:IntKind.i64.wrap (s k*aN k)=s k*aN k:=iZ _ oZ;go_wp2_with fail
   refine wp_region_still_tail 9 kZ kZ ?_;simp only[List.take_succ_cons,List.take_zero,List.drop_succ_cons,List.drop_zero];repeat still_step
   still_call (jq _ k hlt)
   repeat still_step
   refine wpStill_nil ?_;change wpList _ _ _ _ _ (World.drew _);clear hwr;go_wp2_with fail
   go_roundw
   case rel =>
    obtain⟨h1,h2,h3,hb⟩:=HH.out;refine⟨k+1,oZ,by go_num,?_,?_,?_,?_⟩
    ·change (World.heap (World.setCell _ _ _))[_]?=_;rw[Below.heap_setCell _ _ _ _ uZ];exact h1
    ·change (World.heap (World.setCell _ _ _))[_]?=_;rw[Below.heap_setCell _ _ _ _ sZ];exact h2
    ·change (World.heap (World.setCell _ _ _))[_]?=_;rw[heap_setCell_same _ _ _ _ _ _ h3];rw[iC _ (Aw s bk rm (k+1)) k _ oZ (fun j _=>GL s bk rm k hlt j)]
    ·exact(hb.setCell uZ _).drew
   case measure=>simp[intOf];omega
  ·obtain rfl:k=4:=oZ
   have e4:six (Aw s bk rm 4)=six (aB s bk rm):=by
    have:∀ j,Aw s bk rm 4 j=aB s bk rm j:=fun j=>by
     unfold Aw;rw[if_neg oZ]
    simp only[six,this]
   rw[e4] at h3;have H2:=hJ h2;have H3:=hJ h3;have HB:=hJ hb;clear h1 h2 h3 hb e4
   go_wp2_with (first
    | (refine yZ rfl 40 (.tmp 3) rfl (w.heap.size+1+1) rfl 40 (six (aB s bk rm)) (0,0) _ H3.out Tryz.underlying40 rfl kZ ?_)
    | (refine zZ rfl 40 (.tmp 2) (.tmp 23) rfl (w.heap.size+1) (six (aB s bk rm)) rfl rfl 40 (six fun _=>0) H2.out (af _) (aS _ _) (aQ _) ?_))
   refine tZ (v:=.agg (six (aB s bk rm))) (results_cell_row rfl _ _ (w.heap.size+1) _ _ (0,0) _ rfl (setRow_heap _ _ _ _ _ _ H2.out) Tryz.underlying40 rfl (af _)) rfl ⟨rfl,below_setRow HB.out oZ _⟩
def aA (S:Nat->Int):Nat->Int
 | 0=>3
 | k+1=>aA S k+S k
def ny (S:Nat->Int) (i k:Nat):Int:=if k<i then aA S k else 0
def bN (d t:Int):Int:=1+4*d+slotsOf t
theorem gB (B S:Nat->Int) (C T L:Int):(ae B S C T L).all (·.oneCell')=true:=by simp[ae,Value.oneCell']
theorem pW (B S B' S':Nat->Int) (C T L C' T' L':Int):(ae B S C T L).size=(ae B' S' C' T' L').size:=rfl
theorem ai (B S:Nat->Int) (C T L:Int):(Tryz.prog.info? 42).map (·.size)=some (ae B S C T L).size:=kZ
theorem iY (B S:Nat->Int) (C T L:Int) (k:Nat) (hk:k<6):(ae B S C T L)[k]?=some (.int .i64 (B k)):=by
 rcases lg hk with rfl | rfl | rfl | rfl | rfl | rfl <;> rfl
theorem ku (B S:Nat->Int) (C T L:Int) (k:Nat) (hk:k<6):(ae B S C T L)[6+k]?=some (.int .i64 (S k)):=by
 rcases lg hk with rfl | rfl | rfl | rfl | rfl | rfl <;> rfl
theorem oV (B S B':Nat->Int) (C T L:Int) (k:Nat) (x:Int) (hk:k<6) (h:∀ j,j<6->B' j=if j=k then x else B j):(ae B S C T L).setIfInBounds k (.int .i64 x)=ae B' S C T L:=by
 have h0:=h 0 oZ;have h1:=h 1 oZ;have h2:=h 2 oZ;have h3:=h 3 oZ;have h4:=h 4 oZ;have h5:=h 5 oZ;rcases lg hk with rfl | rfl | rfl | rfl | rfl | rfl <;> simp at h0 h1 h2 h3 h4 h5 <;> simp[ae,h0,h1,h2,h3,h4,h5]
theorem nG (B S:Nat->Int) (C T L x:Int):(ae B S C T L).setIfInBounds 12 (.int .i64 x)=ae B S x T L:=rfl
theorem wR (B S:Nat->Int) (C T L x:Int):(ae B S C T L).setIfInBounds 14 (.int .i64 x)=ae B S C T x:=rfl
theorem tX (S:Nat->Int) (k j:Nat):ny S (k+1) j=if j=k then aA S k else ny S k j:=by
 unfold ny;by_cases e:j=k
 ·subst e;simp
 ·by_cases a:j<k
  ·simp[e,a,show j<k+1 by omega]
  ·simp[e,a,show ¬ j<k+1 by omega]
def iM (w:World) (d t:Int) (s:Nat->Int) (bk rm:Int) (kf bf:Nat) (wr:World):Prop :=
 wr.heap[w.heap.size]?=some (.cells (au d t s bk rm kf bf) 25 (0,0))/\wr.heap[w.heap.size+1]?=some (.cells (ae (fun _=>0) (fun _=>0) 0 0 0) 42 (0,0))/\Below w.heap.size w wr
theorem iM.below {w:World} {d t:Int} {s:Nat->Int} {bk rm:Int} {kf bf:Nat} {wr w':World} (h:iM w d t s bk rm kf bf wr) (hb:Below wr.heap.size wr w'):iM w d t s bk rm kf bf w' :=
 ⟨(hb.block _ (lt_of_heap h.1)).trans h.1,(hb.block _ (lt_of_heap h.2.1)).trans h.2.1,h.2.2.trans (hb.mono h.2.2.size)⟩
theorem iM.setCell {w:World} {d t:Int} {s:Nat->Int} {bk rm:Int} {kf bf:Nat} {wr:World} (h:iM w d t s bk rm kf bf wr) {p:Addr} (hp:w.heap.size+2<=p.block) (v:Value):iM w d t s bk rm kf bf (wr.setCell p v) :=
 ⟨by rw[Below.heap_setCell _ _ _ _ oZ];exact h.1,by rw[Below.heap_setCell _ _ _ _ oZ];exact h.2.1,h.2.2.setCell oZ _⟩
theorem iM.drew {w:World} {d t:Int} {s:Nat->Int} {bk rm:Int} {kf bf:Nat} {wr:World} (h:iM w d t s bk rm kf bf wr):iM w d t s bk rm kf bf wr.drew:=⟨h.1,h.2.1,h.2.2.drew⟩
theorem tL {d t:Int} {s:Nat->Int} {bk rm:Int} (h:Hd d t s bk rm):∀ k,3<=aA (aB s bk rm) k
 | 0=>by simp[aA]
 | k+1=>by have:=tL h k;have:=uN h k;simp only[aA];omega
theorem tH {d t:Int} {s:Nat->Int} {bk rm:Int} (h:Hd d t s bk rm):∀ k,aA (aB s bk rm) k<=3+131072*k
 | 0=>by simp[aA]
 | k+1=>by have:=tH h k;have:=zA h k;simp only[aA];omega
theorem Du (t:Int):128<=slotsOf t:=by unfold slotsOf;split;omega;split <;> omega
theorem Dy (t:Int):slotsOf t<=512:=by unfold slotsOf;split;omega;split <;> omega
theorem Mi (w:World) (d t:Int) (s:Nat->Int) (bk rm:Int) (kf bf:Nat) (h:¬ Hd d t s bk rm) :
  Calls Tryz.prog 63 #[.agg (au d t s bk rm kf bf)] w fun e w'=>e=.returned (.tuple #[.agg (ae (fun _=>0) (fun _=>0) 0 0 0),.int .i64 1])/\Below w.heap.size w w':=by
 unfold au;go_enter Tryz.func63,Tryz.ntmps63
 go_wp2_with fail
 refine(AV _ d t s bk rm kf bf h).mono ?_;rintro e w1 ⟨rfl,hb1⟩;have hz:w.heap.size+1<w1.heap.size:=by have:=hb1.size;simp at this;omega
 have h2:=(hb1.block (w.heap.size+1) sZ).trans (eO _ _ _);have H2:=hJ h2;have HB:=hJ hb1;clear h2 hb1 hz
 go_wp2_with (first
  | (refine zZ rfl 42 (.tmp 2) (.tmp 9) rfl (w.heap.size+1) (ae (fun _=>0) (fun _=>0) 0 0 0) rfl rfl 42 (ae (fun _=>0) (fun _=>0) 0 0 0) H2.out (ai _ _ _ _ _) rfl (gB _ _ _ _ _) ?_))
 refine tZ (v:=.tuple #[.agg (ae (fun _=>0) (fun _=>0) 0 0 0),.int .i64 1]) (results_cell_tmp rfl _ _ (w.heap.size+1) _ _ (0,0) _ _ rfl rfl (setRow_heap _ _ _ _ _ _ H2.out) Tryz.underlying42 rfl (ai _ _ _ _ _)) rfl ⟨rfl,?_⟩;exact below_setRow (dh.trans (HB.out.mono uZ)) oZ _
theorem JY (w:World) (d t:Int) (s:Nat->Int) (bk rm:Int) (kf bf:Nat) (h:Hd d t s bk rm) :
  Calls Tryz.prog 63 #[.agg (au d t s bk rm kf bf)] w fun e w'=>e=.returned (if aA (aB s bk rm) 6<=65536 then .tuple #[.agg (ae (aA (aB s bk rm)) (aB s bk rm) (aA (aB s bk rm) 6) (slotsOf t) (bN d t)),.int .i64 0] else .tuple #[.agg (ae (fun _=>0) (fun _=>0) 0 0 0),.int .i64 1])/\Below w.heap.size w w':=by
 obtain⟨R,hR⟩:∃ R,R=(if aA (aB s bk rm) 6<=65536 then Value.tuple #[.agg (ae (aA (aB s bk rm)) (aB s bk rm) (aA (aB s bk rm) 6) (slotsOf t) (bN d t)),.int .i64 0] else .tuple #[.agg (ae (fun _=>0) (fun _=>0) 0 0 0),.int .i64 1]):=⟨_,rfl⟩;rw[<- hR];have HR:=hJ hR;clear hR;unfold au;go_enter Tryz.func63,Tryz.ntmps63
 go_wp2_with fail
 refine(yR _ d t s bk rm kf bf h).mono ?_;rintro e w1 ⟨rfl,hb1⟩;have h1:=(hb1.block w.heap.size uZ).trans (ed _ _ _);have h2:=(hb1.block (w.heap.size+1) sZ).trans (eO _ _ _);have hr:iM w d t s bk rm kf bf w1:=⟨h1,h2,dh.trans (hb1.mono uZ)⟩;clear h1 h2 hb1;go_upto_region 3 with fail
 go_cut [4] (fun p wx=>∃ q,p=.pointer (some ⟨q,0,none⟩)/\w.heap.size+2<=q/\wx.heap[q]?=some (.cells (ae (fun _=>0) (aB s bk rm) 3 (slotsOf t) 0) 42 (0,0))/\iM w d t s bk rm kf bf wx)
 case first =>
  refine aL (fun(q:Nat) j=>[.agg #[.int .i64 d,.int .i64 t,.int .i64 (s 0),.int .i64 (s 1),.int .i64 (s 2),.int .i64 (s 3),.int .i64 bk,.int .i64 rm,.float .f64 kf,.float .f64 bf],.agg #[.int .i64 (aB s bk rm 0),.int .i64 (aB s bk rm 1),.int .i64 (aB s bk rm 2),.int .i64 (aB s bk rm 3),.int .i64 (aB s bk rm 4),.int .i64 (aB s bk rm 5)],.pointer (some ⟨w.heap.size,1,none⟩),.int .i64 t,.int .i64 (slotsOf t),.agg #[.int .i64 0,.int .i64 0,.int .i64 0,.int .i64 0,.int .i64 0,.int .i64 0,.int .i64 (aB s bk rm 0),.int .i64 (aB s bk rm 1),.int .i64 (aB s bk rm 2),.int .i64 (aB s bk rm 3),.int .i64 (aB s bk rm 4),.int .i64 (aB s bk rm 5),.int .i64 3,.int .i64 (slotsOf t),.int .i64 0],.pointer (some ⟨q,0,none⟩)].getD j undef)
   (fun q l wx=>iM w d t s bk rm kf bf wx/\(l 7=true->l 6=true)/\(l 6=true->w.heap.size+2<=q/\wx.heap[q]?=some (.cells (if l 7 then ae (fun _=>0) (aB s bk rm) 3 (slotsOf t) 0 else ae (fun _=>0) (fun _=>0) 0 0 0) 42 (0,0))))
   kZ kZ pZ 0 ?_ ?_ ?_
  ·exact⟨⟨hr.1,hr.2.1,hr.2.2.drew⟩,(fun h=>by cases h),fun h=>by cases h⟩
  ·intro i o ho q l wx hR hl he K hK;have hsz:=lt_of_heap hR.1.2.1;rcases i with _|_|_|_|_|_|_|_|i
   ·cases ho;refine wp_load_row 25 (.tmp 1) rfl w.heap.size rfl 25 (au d t s bk rm kf bf) (0,0) _ hR.1.1 Tryz.underlying25 rfl kZ ?_;exact hK q wx (fun _ _=>rfl) hR
   ·cases ho;go_simp;refine(Gc _ d t s bk rm kf bf h).mono ?_;rintro e w2 ⟨rfl,hb2⟩;exact hK q w2 (fun _ _=>rfl) ⟨hR.1.below hb2,hR.2.1,fun h6=>⟨(hR.2.2 h6).1,(hb2.block q (lt_of_heap (hR.2.2 h6).2)).trans (hR.2.2 h6).2⟩⟩
   ·cases ho;go_simp;exact hK q wx (fun _ _=>rfl) hR
   ·cases ho;have c1:wx.cell? ⟨w.heap.size,1,none⟩=some (.int .i64 t):=aa hR.1.1 1;go_simp;exact hK q wx (fun _ _=>rfl) hR
   ·cases ho;go_simp;refine(GN _ t h.t0 h.t1).mono ?_;rintro e w2 ⟨rfl,rfl⟩;exact hK q wx (fun _ _=>rfl) hR
   ·cases ho;go_simp;exact hK q wx (fun _ _=>rfl) hR
   ·cases ho;go_simp;refine hK wx.heap.size _ (fun j hj=>?_) ⟨hR.1.below aj,(fun _=>rfl),fun _=>⟨oZ,?_⟩⟩
    ·rcases j with _|_|_|_|_|_|_|j
     all_goals first | rfl | (rw[hl] at hj;cases hj)
    ·have h7:l 7=false:=by
      cases h:l 7 with
      | false=>rfl
      | true=>have:=hR.2.1 h;rw[hl] at this;cases this
     rw[if_neg (by show ¬ ((7==6||l 7)=true);rw[h7];decide)];exact nZ _ _
   ·cases ho;have h6:=he ⟨6,.data⟩ sZ rfl;obtain⟨hq1,hq2⟩:=hR.2.2 h6;rw[if_neg lZ] at hq2;refine wp_store_row 42 (.tmp 4) (.tmp 15) rfl q (ae (fun _=>0) (aB s bk rm) 3 (slotsOf t) 0) rfl rfl 42 _ hq2 (ai _ _ _ _ _) rfl (gB _ _ _ _ _) ?_;refine hK q _ (fun _ _=>rfl) ⟨?_,(fun _=>h6),fun _=>⟨hq1,setRow_heap _ _ _ _ _ _ hq2⟩⟩;exact⟨(qZ _ _ _ _ oZ).trans hR.1.1,(qZ _ _ _ _ oZ).trans hR.1.2.1,below_setRow hR.1.2.2 oZ _⟩
   ·simp at ho
  ·intro q l wx hl hR;have h6:=hl 6 dZ;have h7:=hl 7 dZ;obtain⟨hq1,hq2⟩:=hR.2.2 h6;rw[if_pos h7] at hq2;have hL:=hR.1;clear hR;go_wp2_with fail
   go_meet
   exact⟨q,rfl,hq1,hq2,hL⟩
 case rest =>
  obtain⟨q,rfl,hq1,hq2,hL⟩:=hcut;have hlim:=h;clear h;go_wp2_with fail
  go_loopw [16] (fun i wr=>∃ k:Nat,k<=6/\i=.int .i64 k/\wr.heap[q]?=some (.cells (ae (ny (aB s bk rm) k) (aB s bk rm) (aA (aB s bk rm) k) (slotsOf t) 0) 42 (0,0))/\iM w d t s bk rm kf bf wr) (fun i _=>6-(intOf i).toNat)
  case atStart=>exact⟨0,oZ,rfl,hq2,hL⟩
  case round =>
   obtain⟨k,hk,rfl,hq,hL⟩:=hrel;by_cases hlt:k<6
   ·have hlt6:(k:Int)<6:=oZ;have c1:wr.cell? ⟨q,k,none⟩=some (.int .i64 (ny (aB s bk rm) k k)):=(aa hq k).trans (iY _ _ _ _ _ k hlt);have c2:wr.cell? ⟨q,12,none⟩=some (.int .i64 (aA (aB s bk rm) k)):=aa hq 12;have f1:=free_at hq k;have HQ:=hJ hq;have HL:=hJ hL;clear hq hL;go_upto_region 8 with fail
    obtain⟨w5,hw5⟩:∃ w5,w5=wr.setCell ⟨q,k,none⟩ (.int .i64 (aA (aB s bk rm) k)):=⟨_,rfl⟩;rw[<- hw5]
    have hq5:w5.heap[q]?=some (.cells (ae (ny (aB s bk rm) (k+1)) (aB s bk rm) (aA (aB s bk rm) k) (slotsOf t) 0) 42 (0,0)):=by
     rw[hw5,heap_setCell_same _ _ _ _ _ _ HQ.out,oV _ _ _ _ _ _ k _ hlt (fun j _=>tX _ k j)]
    have hL5:iM w d t s bk rm kf bf w5:=by
     rw[hw5];exact HL.out.setCell hq1 _
    clear c1 c2 f1 hw5;have c2:w5.cell? ⟨q,12,none⟩=some (.int .i64 (aA (aB s bk rm) k)):=aa hq5 12;have c3:w5.cell? ⟨q,6+k,none⟩=some (.int .i64 (aB s bk rm k)):=(aa hq5 (6+k)).trans (ku _ _ _ _ _ k hlt);have f2:=free_at hq5 12;have b0:=tL hlim k;have b1:=tH hlim k;have s0:=uN hlim k;have s1:=zA hlim k;have HQ5:=hJ hq5;have HL5:=hJ hL5;clear hq5 hL5;go_still_tail 8,kZ
    change wpList _ _ _ _ _ w5.drew;go_wp2_with fail
    go_roundw
    case rel =>
     refine⟨k+1,oZ,by go_num,?_,?_⟩
     ·change (World.heap (World.setCell _ _ _))[_]?=_;rw[heap_setCell_same _ _ _ _ _ _ HQ5.out,nG];rfl
     ·exact(HL5.out.setCell hq1 _).drew
    case measure=>simp[intOf];omega
   ·obtain rfl:k=6:=oZ;have c2:wr.cell? ⟨q,12,none⟩=some (.int .i64 (aA (aB s bk rm) 6)):=aa hq 12;have c3:wr.cell? ⟨w.heap.size,0,none⟩=some (.int .i64 d):=aa hL.1 0;have c4:wr.cell? ⟨q,13,none⟩=some (.int .i64 (slotsOf t)):=aa hq 13;have c5:wr.cell? ⟨q,14,none⟩=some (.int .i64 0):=aa hq 14;have f5:=free_at hq 14;have t0:=Du t;have t1:=Dy t;have d0:=hlim.d0;have d1:=hlim.d1;have HQ:=hJ hq;have HL:=hJ hL;clear hq hL;by_cases hc:aA (aB s bk rm) 6<=65536
    ·go_upto_region 13 with fail
     obtain⟨w6,hw6⟩:∃ w6,w6=wr.setCell ⟨q,14,none⟩ (.int .i64 (1+4*d+slotsOf t)):=⟨_,rfl⟩;rw[<- hw6]
     have hq6:w6.heap[q]?=some (.cells (ae (aA (aB s bk rm)) (aB s bk rm) (aA (aB s bk rm) 6) (slotsOf t) (bN d t)) 42 (0,0)):=by
      rw[hw6,heap_setCell_same _ _ _ _ _ _ HQ.out,wR];rfl
     have hL6:iM w d t s bk rm kf bf w6:=by
      rw[hw6];exact HL.out.setCell hq1 _
     clear hw6 HQ HL c2 c3 c4 c5 f5;have H2:=hJ hL6.2.1;have HQ6:=hJ hq6;have HB:=hJ hL6.2.2;clear hq6 hL6
     go_wp2_with (first
      | (refine yZ rfl 42 (.tmp 4) rfl q rfl 42 (ae (aA (aB s bk rm)) (aB s bk rm) (aA (aB s bk rm) 6) (slotsOf t) (bN d t)) (0,0) _ HQ6.out Tryz.underlying42 rfl (ai _ _ _ _ _) ?_)
      | (refine zZ rfl 42 (.tmp 2) (.tmp 45) rfl (w.heap.size+1) (ae (aA (aB s bk rm)) (aB s bk rm) (aA (aB s bk rm) 6) (slotsOf t) (bN d t)) rfl rfl 42 (ae (fun _=>0) (fun _=>0) 0 0 0) H2.out (ai _ _ _ _ _) rfl (gB _ _ _ _ _) ?_))
     refine tZ (v:=.tuple #[.agg (ae (aA (aB s bk rm)) (aB s bk rm) (aA (aB s bk rm) 6) (slotsOf t) (bN d t)),.int .i64 0]) (results_cell_tmp rfl _ _ (w.heap.size+1) _ _ (0,0) _ _ rfl rfl (setRow_heap _ _ _ _ _ _ H2.out) Tryz.underlying42 rfl (ai _ _ _ _ _)) rfl ⟨by rw[HR.out,if_pos hc],?_⟩;exact below_setRow HB.out oZ _
    ·have H2:=hJ HL.out.2.1;have HC:=hJ hc
     go_wp2_with (first
      | (refine zZ rfl 42 (.tmp 2) (.tmp 36) rfl (w.heap.size+1) (ae (fun _=>0) (fun _=>0) 0 0 0) rfl rfl 42 (ae (fun _=>0) (fun _=>0) 0 0 0) H2.out (ai _ _ _ _ _) rfl (gB _ _ _ _ _) ?_))
     refine tZ (v:=.tuple #[.agg (ae (fun _=>0) (fun _=>0) 0 0 0),.int .i64 1]) (results_cell_tmp rfl _ _ (w.heap.size+1) _ _ (0,0) _ _ rfl rfl (setRow_heap _ _ _ _ _ _ H2.out) Tryz.underlying42 rfl (ai _ _ _ _ _)) rfl ⟨by have:=HC.out;rw[HR.out,if_neg oZ],?_⟩;exact below_setRow HL.out.2.2 oZ _
def ek (d t:Int) (s:Nat->Int) (bk rm:Int):Prop:=Hd d t s bk rm/\aA (aB s bk rm) 6<=65536
theorem Dn (w:World) (d t:Int) (s:Nat->Int) (bk rm:Int) (kf bf:Nat) (h:ek d t s bk rm) :
  Calls Tryz.prog 63 #[.agg (au d t s bk rm kf bf)] w fun e w'=>e=.returned (.tuple #[.agg (ae (aA (aB s bk rm)) (aB s bk rm) (aA (aB s bk rm) 6) (slotsOf t) (bN d t)),.int .i64 0])/\Below w.heap.size w w' :=
 (JY w d t s bk rm kf bf h.1).mono fun _ _ ⟨he,hb⟩=>⟨by rw[he,if_pos h.2],hb⟩
def more (U:Nat->Int) (k:Nat) (n:Int) (j:Nat):Int:=if j=k then U k+n else U j
theorem oh (w:World) (B S U:Nat->Int) (C T L n:Int) (k:Nat) (hk:k<6) (hn:1<=n) (h0:0<=U k) (h1:U k<=S k) (hs:S k<=1000000) (hf:S k-U k<n) :
  Calls Tryz.prog 65 #[.agg (ae B S C T L),.agg (six U),.int .i64 k,.int .i64 n] w fun e w'=>e=.returned (.tuple #[.int .i64 0,.agg (six fun _=>0),.int .i64 3])/\Below w.heap.size w w':=by
 have hk0:decide ((k:Int)<0)=false:=decide_eq_false oZ;have hk6:decide (6<=(k:Int))=false:=decide_eq_false oZ;have hn1:decide (n<1)=false:=decide_eq_false oZ;have hu:wB U S k=true:=zC h0 h1;have HU:=hJ hu;clear hu;go_enter Tryz.func65,Tryz.ntmps65
 go_wp2_with (first
  | (refine gX rfl 42 (.tmp 4) rfl w.heap.size rfl 42 (ae B S C T L) (0,0) _ (dN w _ _ _) Tryz.underlying42 rfl (ai _ _ _ _ _) ?_)
  | (refine gX rfl 40 (.tmp 5) rfl (w.heap.size+1) rfl 40 (six U) (0,0) _ (dM w _ _ _) Tryz.underlying40 rfl (af _) ?_)
  | fail)
 refine(mq _ B S U C T L k hk).mono ?_;rintro e w1 ⟨rfl,hb1⟩;rw[HU.out];have g0:w1.heap[w.heap.size]?=some (.cells (ae B S C T L) 42 (0,0)):=(hb1.block _ uZ).trans (dN _ _ _ _);have g1:w1.heap[w.heap.size+1]?=some (.cells (six U) 40 (0,0)):=(hb1.block _ sZ).trans (dM _ _ _ _);have g2:w1.heap[w.heap.size+1+1]?=some (.cells (six fun _=>0) 40 (0,0)):=(hb1.block _ sZ).trans (dS _ _ _ _);have G0:=hJ g0;have G1:=hJ g1;have G2:=hJ g2;have HB:=hJ (bi.trans (hb1.mono uZ));clear g0 g1 g2 hb1
 go_wp2_with (first
  | (refine yZ rfl 42 (.tmp 4) rfl w.heap.size rfl 42 (ae B S C T L) (0,0) _ G0.out Tryz.underlying42 rfl (ai _ _ _ _ _) ?_)
  | (refine yZ rfl 40 (.tmp 5) rfl (w.heap.size+1) rfl 40 (six U) (0,0) _ G1.out Tryz.underlying40 rfl (af _) ?_)
  | fail)
 refine(rz _ B S U C T L k hk h0 h1 hs).mono ?_;rintro e w2 ⟨rfl,hb2⟩;have G0:=hJ ((hb2.block _ (lt_of_heap G0.out)).trans G0.out);have G1:=hJ ((hb2.block _ (lt_of_heap G1.out)).trans G1.out);have G2:=hJ ((hb2.block _ (lt_of_heap G2.out)).trans G2.out);have HB:=hJ (HB.out.trans (hb2.mono HB.out.size));clear hb2
 go_wp2_with (first
  | (refine zZ rfl 40 (.tmp 9) (.tmp 36) rfl (w.heap.size+1+1) (six fun _=>0) rfl rfl 40 (six fun _=>0) G2.out (af _) (aS _ _) (aQ _) ?_)
  | fail)
 refine tZ (v:=.tuple #[.int .i64 0,.agg (six fun _=>0),.int .i64 3]) (bE rfl _ _ (w.heap.size+1+1) _ _ (0,0) _ _ _ rfl rfl rfl (setRow_heap _ _ _ _ _ _ G2.out) Tryz.underlying40 rfl (af _)) rfl ⟨rfl,below_setRow HB.out oZ _⟩
theorem om (w:World) (B S U:Nat->Int) (C T L n:Int) (k:Nat) (hk:k<6) (hn:1<=n) (h0:0<=U k) (h1:U k<=S k) (hs:S k<=1000000) (hf:n<=S k-U k) (hb0:0<=B k) (hb1:B k<=1000000) :
  Calls Tryz.prog 65 #[.agg (ae B S C T L),.agg (six U),.int .i64 k,.int .i64 n] w fun e w'=>e=.returned (.tuple #[.int .i64 (B k+U k),.agg (six (more U k n)),.int .i64 0])/\Below w.heap.size w w':=by
 have hB0:=hb0;have hB1:=hb1;clear hb0 hb1;have hk0:decide ((k:Int)<0)=false:=decide_eq_false oZ;have hk6:decide (6<=(k:Int))=false:=decide_eq_false oZ;have hn1:decide (n<1)=false:=decide_eq_false oZ;have hu:wB U S k=true:=zC h0 h1;have HU:=hJ hu;clear hu;go_enter Tryz.func65,Tryz.ntmps65
 go_wp2_with (first
  | (refine gX rfl 42 (.tmp 4) rfl w.heap.size rfl 42 (ae B S C T L) (0,0) _ (dN w _ _ _) Tryz.underlying42 rfl (ai _ _ _ _ _) ?_)
  | (refine gX rfl 40 (.tmp 5) rfl (w.heap.size+1) rfl 40 (six U) (0,0) _ (dM w _ _ _) Tryz.underlying40 rfl (af _) ?_)
  | fail)
 refine(mq _ B S U C T L k hk).mono ?_;rintro e w1 ⟨rfl,hb1⟩;rw[HU.out];have g0:w1.heap[w.heap.size]?=some (.cells (ae B S C T L) 42 (0,0)):=(hb1.block _ uZ).trans (dN _ _ _ _);have g1:w1.heap[w.heap.size+1]?=some (.cells (six U) 40 (0,0)):=(hb1.block _ sZ).trans (dM _ _ _ _);have g2:w1.heap[w.heap.size+1+1]?=some (.cells (six fun _=>0) 40 (0,0)):=(hb1.block _ sZ).trans (dS _ _ _ _);have G0:=hJ g0;have G1:=hJ g1;have G2:=hJ g2;have HB:=hJ (bi.trans (hb1.mono uZ));clear g0 g1 g2 hb1
 go_wp2_with (first
  | (refine yZ rfl 42 (.tmp 4) rfl w.heap.size rfl 42 (ae B S C T L) (0,0) _ G0.out Tryz.underlying42 rfl (ai _ _ _ _ _) ?_)
  | (refine yZ rfl 40 (.tmp 5) rfl (w.heap.size+1) rfl 40 (six U) (0,0) _ G1.out Tryz.underlying40 rfl (af _) ?_)
  | fail)
 refine(rz _ B S U C T L k hk h0 h1 hs).mono ?_;rintro e w2 ⟨rfl,hb2⟩;have G0:=hJ ((hb2.block _ (lt_of_heap G0.out)).trans G0.out);have G1:=hJ ((hb2.block _ (lt_of_heap G1.out)).trans G1.out);have G2:=hJ ((hb2.block _ (lt_of_heap G2.out)).trans G2.out);have HB:=hJ (HB.out.trans (hb2.mono HB.out.size));clear hb2;have hsz:w.heap.size+1+1<w2.heap.size:=lt_of_heap G2.out
 go_upto_region 6 with (first
  | (refine yZ rfl 40 (.tmp 5) rfl (w.heap.size+1) rfl 40 (six U) (0,0) _ G1.out Tryz.underlying40 rfl (af _) ?_)
  | (refine zZ rfl 40 (.tmp 11) (.tmp 37) rfl w2.heap.size (six U) rfl rfl 40 (six fun _=>0) (nZ w2 _) (af _) (aS _ _) (aQ _) ?_)
  | fail)
 obtain⟨w3,hw3⟩:∃ w3,w3=(w2.alloc (.cells (six fun _=>0) 40)).setRow w2.heap.size (six U):=⟨_,rfl⟩;rw[show (w2.alloc (.cells #[.int .i64 0,.int .i64 0,.int .i64 0,.int .i64 0,.int .i64 0,.int .i64 0] 40)).setRow w2.heap.size (six U)=w3 from hw3.symm]
 have k3:w3.heap[w2.heap.size]?=some (.cells (six U) 40 (0,0)):=by
  rw[hw3];exact setRow_heap _ _ _ _ _ _ (nZ w2 _)
 have k0:w3.heap[w.heap.size]?=some (.cells (ae B S C T L) 42 (0,0)):=by
  rw[hw3,qZ _ _ _ _ oZ,Below.heap_alloc _ _ _ oZ];exact G0.out
 have k1:w3.heap[w.heap.size+1]?=some (.cells (six U) 40 (0,0)):=by
  rw[hw3,qZ _ _ _ _ oZ,Below.heap_alloc _ _ _ oZ];exact G1.out
 have k2:w3.heap[w.heap.size+1+1]?=some (.cells (six fun _=>0) 40 (0,0)):=by
  rw[hw3,qZ _ _ _ _ oZ,Below.heap_alloc _ _ _ oZ];exact G2.out
 have hB3:Below w.heap.size w w3:=by
  rw[hw3];exact below_setRow (HB.out.alloc HB.out.size _) oZ _
 obtain⟨q,hq⟩:∃ q,q=w2.heap.size:=⟨_,rfl⟩;rw[<- hq] at hsz k3 ⊢;clear hw3 G0 G1 G2 HB hq;have c3:w3.cell? ⟨q,k,none⟩=some (.int .i64 (U k)):=(aa k3 k).trans (dK _ k hk);have f3:=free_at k3 k;have hk1:(k:Int)<6:=oZ;have K0:=hJ k0;have K1:=hJ k1;have K2:=hJ k2;have K3:=hJ k3;have HB:=hJ hB3;clear k0 k1 k2 k3 hB3;go_upto_region 7 with fail
 obtain⟨w4,hw4⟩:∃ w4,w4=w3.setCell ⟨q,k,none⟩ (.int .i64 (U k+n)):=⟨_,rfl⟩;rw[<- hw4]
 have k3:w4.heap[q]?=some (.cells (six (more U k n)) 40 (0,0)):=by
  rw[hw4,heap_setCell_same _ _ _ _ _ _ K3.out,iC _ (more U k n) k _ hk (fun j _=>rfl)]
 have k0:w4.heap[w.heap.size]?=some (.cells (ae B S C T L) 42 (0,0)):=by
  rw[hw4,Below.heap_setCell _ _ _ _ uZ];exact K0.out
 have k1:w4.heap[w.heap.size+1]?=some (.cells (six U) 40 (0,0)):=by
  rw[hw4,Below.heap_setCell _ _ _ _ uZ];exact K1.out
 have k2:w4.heap[w.heap.size+1+1]?=some (.cells (six fun _=>0) 40 (0,0)):=by
  rw[hw4,Below.heap_setCell _ _ _ _ uZ];exact K2.out
 have hB4:Below w.heap.size w w4:=by
  rw[hw4];exact HB.out.setCell uZ _
 clear hw4 K0 K1 K2 K3 HB c3 f3;have c0:w4.cell? ⟨w.heap.size,k,none⟩=some (.int .i64 (B k)):=(aa k0 k).trans (iY _ _ _ _ _ k hk);have c1:w4.cell? ⟨w.heap.size+1,k,none⟩=some (.int .i64 (U k)):=(aa k1 k).trans (dK _ k hk);have e0:w4.cell? ⟨q,0,none⟩=some (.int .i64 (more U k n 0)):=aa k3 0;have e1:w4.cell? ⟨q,1,none⟩=some (.int .i64 (more U k n 1)):=aa k3 1;have e2:w4.cell? ⟨q,2,none⟩=some (.int .i64 (more U k n 2)):=aa k3 2;have e3:w4.cell? ⟨q,3,none⟩=some (.int .i64 (more U k n 3)):=aa k3 3;have e4:w4.cell? ⟨q,4,none⟩=some (.int .i64 (more U k n 4)):=aa k3 4;have e5:w4.cell? ⟨q,5,none⟩=some (.int .i64 (more U k n 5)):=aa k3 5;have K2:=hJ k2;have HB:=hJ hB4;clear k0 k1 k2 k3 hB4;go_still_tail 10,kZ
 change wpList _ _ _ _ _ w4.drew;clear e0 e1 e2 e3 e4 e5 c0 c1
 go_wp2_with (first
  | (refine zZ rfl 40 (.tmp 9) (.tmp 52) rfl (w.heap.size+1+1) (six (more U k n)) rfl rfl 40 (six fun _=>0) (show w4.drew.heap[w.heap.size+1+1]?=_ from K2.out) (af _) (aS _ _) (aQ _) ?_)
  | fail)
 refine tZ (v:=.tuple #[.int .i64 (B k+U k),.agg (six (more U k n)),.int .i64 0]) (bE rfl _ _ (w.heap.size+1+1) _ _ (0,0) _ _ _ rfl rfl rfl (setRow_heap _ _ _ _ _ _ (show w4.drew.heap[w.heap.size+1+1]?=_ from K2.out)) Tryz.underlying40 rfl (af _)) rfl ⟨rfl,below_setRow HB.out.drew oZ _⟩
def uH (B S:Nat->Int) (a:Int) (k:Nat):Prop:=B k<=a/\a<B k+S k
structure Fit (B S:Nat->Int):Prop where
 b0:∀ k,k<6->0<=B k
 b1:∀ k,k<6->B k<=1000000
 s0:∀ k,k<6->0<=S k
 s1:∀ k,k<6->S k<=1000000
 m:∃ m:Nat->Int,∀ k,k<4->0<=m k/\S k=m k*aN k
theorem Iq {P:Program} {f:FuncId} {args:Array Value} {w:World} {n:Nat} {v:Value} (h:Calls P f args (w.drewN n) fun e w'=>e=.returned v/\w.drewN n=w'):Calls P f args (w.drewN n) fun e w''=>e=.returned v/\∃ m,w''=w.drewN m :=
 h.mono fun _ _ ⟨he,hw⟩=>⟨he,n,hw.symm⟩
def vK (w:World) (B S:Nat->Int) (C T L:Int) (wr:World):Prop:=wr.heap[w.heap.size]?=some (.cells (ae B S C T L) 42 (0,0))/\Below w.heap.size w wr
theorem vK.drawn {w:World} {B S:Nat->Int} {C T L:Int} {wr:World} (h:vK w B S C T L wr) (n:Nat):vK w B S C T L (wr.drewN n):=⟨h.1,dm h.2 n⟩
def z8 (B S:Nat->Int) (a:Int) (w:World) (e:Ending) (w':World):Prop:=Below w.heap.size w w' /\
 ((∃ k,k<4/\uH B S a k/\(∀ j,j<k->¬ uH B S a j)/\e=.returned (.tuple #[.int .i64 k,.int .i64 ((a-B k) % aN k)]))∨((∀ j,j<4->¬ uH B S a j)/\e=.returned (.tuple #[.int .i64 (-1),.int .i64 0])))
theorem FX (w:World) (B S:Nat->Int) (C T L a:Int) (hf:Fit B S) :
  Calls Tryz.prog 189 #[.agg (ae B S C T L),.int .i64 a] w fun e w'=>z8 B S a w e w':=by
 have HF:=hJ hf;clear hf;go_enter Tryz.func189,Tryz.ntmps189
 go_wp2_with fail
 go_loopw [7] (fun i wr=>∃ k:Nat,k<=4/\i=.int .i64 k/\Hid (∀ j,j<k->¬ uH B S a j)/\vK w B S C T L wr) (fun i _=>4-(intOf i).toNat)
 case atStart=>exact⟨0,oZ,rfl,hJ (fun j hj=>oZ),nZ w _,aj⟩
 case round =>
  obtain⟨k,hk,rfl,HO,hT⟩:=hrel;by_cases hlt:k<4
  ·have hlt4:(k:Int)<4:=oZ;have hlt6:(k:Int)<6:=oZ;have c0:wr.cell? ⟨w.heap.size,k,none⟩=some (.int .i64 (B k)):=(aa hT.1 k).trans (iY _ _ _ _ _ k oZ);have c1:wr.cell? ⟨w.heap.size,6+k,none⟩=some (.int .i64 (S k)):=(aa hT.1 (6+k)).trans (ku _ _ _ _ _ k oZ);have b0:=HF.out.b0 k oZ;have b1:=HF.out.b1 k oZ;have s0:=HF.out.s0 k oZ;have s1:=HF.out.s1 k oZ;have HT:=hJ hT;clear hT;have wr1:IntKind.i64.wrap (B k+S k)=B k+S k:=iZ _ oZ;by_cases h0:B k<=a
   ·by_cases h1:a<B k+S k
    ·have sl0:=dB k;have sl1:=d9 k;have d1:decide (a<B k+S k)=true:=decide_eq_true h1;have a0:0<=a-B k:=oZ;have md0:=Int.emod_nonneg (a-B k) (show aN k≠0 by omega);have md1:=Int.emod_lt_of_pos (a-B k) (show 0<aN k by omega);have wr2:IntKind.i64.wrap (a-B k)=a-B k:=iZ _ oZ;have wr3:IntKind.i64.wrap ((a-B k) % aN k)=(a-B k) % aN k:=iZ _ oZ;have tm:(a-B k).tmod (aN k)=(a-B k) % aN k:=Int.tmod_eq_emod_of_nonneg a0;have hz:(aN k==0)=false:=by simp;omega
     go_wp2_with fail
     go_quiet (fail)
     rename Nat=>m1
     go_upto_region 5 with fail
     obtain⟨wz,hwz⟩:∃ wz,wz=wr.drewN m1:=⟨_,rfl⟩;rw[<- hwz];have c2:wz.cell? ⟨w.heap.size,k,none⟩=some (.int .i64 (B k)):=by rw[hwz];exact c0
     have HT:=hJ (show vK w B S C T L wz by rw[hwz];exact HT.out.drawn _);clear hwz c0 c1;go_quiet ((go_at_call 138;exact Iq (EI _ k hlt)))
     go_wp2_with fail
     go_ret2
     exact⟨dm HT.out.2 _,.inl ⟨k,hlt,⟨h0,h1⟩,HO.out,rfl⟩⟩
    ·have d1:decide (a<B k+S k)=false:=decide_eq_false h1;have HN:=hJ (show ¬ uH B S a k from fun h=>h1 h.2);clear h1;go_wp2_with fail
     go_quiet (fail)
     go_wp2_with fail
     go_roundw
     case rel =>
      refine⟨k+1,oZ,by go_num,hJ (fun j hj=>?_),HT.out.drawn _⟩;by_cases e:j=k
      ·subst e;exact HN.out
      ·exact HO.out j oZ
     case measure=>simp[intOf];omega
   ·have d0:decide (B k<=a)=false:=decide_eq_false h0;have HN:=hJ (show ¬ uH B S a k from fun h=>h0 h.1);clear h0;go_wp2_with fail
    go_quiet (fail)
    go_wp2_with fail
    go_roundw
    case rel =>
     refine⟨k+1,oZ,by go_num,hJ (fun j hj=>?_),HT.out.drawn _⟩;by_cases e:j=k
     ·subst e;exact HN.out
     ·exact HO.out j oZ
    case measure=>simp[intOf];omega
  ·obtain rfl:k=4:=oZ;have HB:=hJ hT.2;clear hT;go_wp2_with fail
   go_ret2
   exact⟨HB.out,.inr ⟨HO.out,rfl⟩⟩
theorem BF (x:Nat) (k:Nat) (r:Int) (h0:0<=r) (h1:r<aN k):(x*aN k+r) % aN k=r:=by
 rw[Int.add_comm,Int.add_mul_emod_self_right];exact Int.emod_eq_of_lt h0 h1
theorem yo (x:Nat) (k:Nat) (m S:Int) (hm:S=m*aN k) (h:x*aN k<S):x*aN k+aN k<=S:=by
 subst hm;have hs:=dB k;have hlt:(x:Int)<m:=Int.lt_of_mul_lt_mul_right h oZ;have:((x:Int)+1)*aN k<=m*aN k:=Int.mul_le_mul_of_nonneg_right oZ oZ;rw[Int.add_mul,Int.one_mul] at this;exact this
theorem lq (w:World) (B S:Nat->Int) (C T L a:Int) (hf:Fit B S) :
  Calls Tryz.prog 111 #[.agg (ae B S C T L),.int .i64 a] w fun e w'=>z8 B S a w e w':=by
 have HF:=hJ hf;clear hf;go_enter Tryz.func111,Tryz.ntmps111
 go_wp2_with fail
 go_loopw [6,7] (fun i _ wr=>∃ k:Nat,k<=4/\i=.int .i64 k/\Hid (∀ j,j<k->¬ uH B S a j)/\vK w B S C T L wr) (fun i _ _=>4-(intOf i).toNat)
 case atStart=>exact⟨0,oZ,rfl,hJ (fun j hj=>oZ),nZ w _,aj⟩
 case round =>
  obtain⟨k,hk,rfl,HO,hT⟩:=hrel;obtain⟨wo,rfl⟩:∃ wo:World,wo=wr:=⟨_,rfl⟩;by_cases hlt:k<4
  ·have hlt4:(k:Int)<4:=oZ;have hlt6:(k:Int)<6:=oZ;have c0:wo.cell? ⟨w.heap.size,k,none⟩=some (.int .i64 (B k)):=(aa hT.1 k).trans (iY _ _ _ _ _ k oZ);have b0:=HF.out.b0 k oZ;have b1:=HF.out.b1 k oZ;have s0:=HF.out.s0 k oZ;have s1:=HF.out.s1 k oZ;obtain⟨m,hm⟩:=HF.out.m;have HM:=hJ (hm k hlt);clear hm;have HT:=hJ hT;clear hT;have sl0:=dB k;have sl1:=d9 k;have wr1:IntKind.i64.wrap (B k+S k)=B k+S k:=iZ _ oZ;go_wp2_with fail
   clear c0;go_loopw [7] (fun b wr=>∃ x:Nat,b=.int .i64 (B k+x*aN k)/\Hid (x*aN k<=S k)/\Hid (¬ (B k<=a/\a<B k+x*aN k))/\vK w B S C T L wr) (fun b _=>(B k+S k-intOf b).toNat)
   case atStart=>exact⟨0,sZ,hJ (by simpa using s0),hJ (by rintro⟨p,q⟩;rw[show ((0:Nat):Int)*aN k=0 by simp] at q;omega),HT.out⟩
   case round =>
    obtain⟨x,rfl,hx0,hx1,hT⟩:=hrel;have HXS:=hJ (yo x k (m k) (S k) HM.out.2);obtain⟨y,hy⟩:∃ y,y=(x:Int)*aN k:=⟨_,rfl⟩;have y0:0<=y:=by rw[hy];exact Int.mul_nonneg oZ oZ
    have HMod:=hJ (fun r=>BF x k r);rw[<- hy] at hx0 hx1 HXS HMod ⊢;have y1:=hx0.out;have HY:=hJ hy;clear hy hx0;have c0:wr.cell? ⟨w.heap.size,k,none⟩=some (.int .i64 (B k)):=(aa hT.1 k).trans (iY _ _ _ _ _ k oZ);have c1:wr.cell? ⟨w.heap.size,6+k,none⟩=some (.int .i64 (S k)):=(aa hT.1 (6+k)).trans (ku _ _ _ _ _ k oZ);have HT:=hJ hT;clear hT;by_cases hys:y<S k
    ·have d1:decide (B k+y<B k+S k)=true:=decide_eq_true oZ;by_cases h0:B k+y<=a
     ·by_cases h1:a<B k+y+aN k
      ·have e0:decide (B k+y<=a)=true:=decide_eq_true h0;have HI:=hJ (show uH B S a k from⟨oZ,by have:=HXS.out hys;omega⟩)
       have HE:=hJ (show (a-B k) % aN k=a-(B k+y) by
        have:=HMod.out (a-(B k+y)) oZ oZ;rw[show y+(a-(B k+y))=a-B k by omega] at this;exact this)
       go_wp2_with fail
       go_quiet (fail)
       go_wp2_with (first | (go_at_call 100;refine(kK _ k hlt).mono ?_;rintro e w' ⟨rfl,rfl⟩) | fail)
       go_ret2
       exact⟨dm HT.out.2 _,.inl ⟨k,hlt,HI.out,HO.out,by rw[HE.out];exact rfl⟩⟩
      ·have e0:decide (B k+y<=a)=true:=decide_eq_true h0;have hn:=HXS.out hys;go_wp2_with fail
       go_quiet (fail)
       go_wp2_with (first | (go_at_call 100;refine(kK _ k hlt).mono ?_;rintro e w' ⟨rfl,rfl⟩) | fail)
       go_roundw
       case rel =>
        refine⟨x+1,?_,hJ ?_,hJ ?_,HT.out.drawn _⟩
        ·rw[show ((x+1:Nat):Int)*aN k=y+aN k by rw[HY.out];simp[Int.add_mul]];rw[Int.add_assoc]
        ·rw[show ((x+1:Nat):Int)*aN k=y+aN k by rw[HY.out];simp[Int.add_mul]];exact hn
        ·rw[show ((x+1:Nat):Int)*aN k=y+aN k by rw[HY.out];simp[Int.add_mul]];omega
       case measure=>simp[intOf];omega
     ·have e0:decide (B k+y<=a)=false:=decide_eq_false h0;have hn:=HXS.out hys;go_wp2_with fail
      go_quiet (fail)
      go_wp2_with (first | (go_at_call 100;refine(kK _ k hlt).mono ?_;rintro e w' ⟨rfl,rfl⟩) | fail)
      go_roundw
      case rel =>
       refine⟨x+1,?_,hJ ?_,hJ ?_,HT.out.drawn _⟩
       ·rw[show ((x+1:Nat):Int)*aN k=y+aN k by rw[HY.out];simp[Int.add_mul]];rw[Int.add_assoc]
       ·rw[show ((x+1:Nat):Int)*aN k=y+aN k by rw[HY.out];simp[Int.add_mul]];exact hn
       ·rw[show ((x+1:Nat):Int)*aN k=y+aN k by rw[HY.out];simp[Int.add_mul]];have:=hx1.out;omega
      case measure=>simp[intOf];omega
    ·have d1:decide (B k+y<B k+S k)=false:=decide_eq_false oZ;have HN:=hJ (show ¬ uH B S a k from fun h=>hx1.out ⟨h.1,by have:=h.2;omega⟩);go_wp2_with fail
     go_quiet (fail)
     go_wp2_with fail
     go_roundw
     case rel =>
      refine⟨k+1,oZ,by go_num,hJ (fun j hj=>?_),HT.out.drawn _⟩;by_cases e:j=k
      ·subst e;exact HN.out
      ·exact HO.out j oZ
     case measure=>simp[intOf];omega
  ·obtain rfl:k=4:=oZ;have HB:=hJ hT.2;clear hT;go_wp2_with fail
   go_ret2
   exact⟨HB.out,.inr ⟨HO.out,rfl⟩⟩
theorem yI (w:World) (d t:Int) (s:Nat->Int) (bk rm:Int) (kf bf:Nat)  (h:d<1) :
  Calls Tryz.prog 62 #[.agg (au d t s bk rm kf bf)] w fun e w'=>e=.returned (.tuple #[.agg (six fun _=>0),.bool false])/\Below w.heap.size w w':=by
 unfold au;go_enter Tryz.func62,Tryz.ntmps62
 go_wp2
 refine tZ (v:=.tuple #[.agg (six fun _=>0),.bool false]) (by simp[results,Tryz.results62,go_sem,six]) rfl ⟨rfl,bi⟩
theorem yP (w:World) (d t:Int) (s:Nat->Int) (bk rm:Int) (kf bf:Nat) (g0:1<=d) (h:64<d) :
  Calls Tryz.prog 62 #[.agg (au d t s bk rm kf bf)] w fun e w'=>e=.returned (.tuple #[.agg (six fun _=>0),.bool false])/\Below w.heap.size w w':=by
 unfold au;go_enter Tryz.func62,Tryz.ntmps62
 go_wp2
 refine tZ (v:=.tuple #[.agg (six fun _=>0),.bool false]) (by simp[results,Tryz.results62,go_sem,six]) rfl ⟨rfl,bi⟩
theorem zQ (w:World) (d t:Int) (s:Nat->Int) (bk rm:Int) (kf bf:Nat) (g0:1<=d) (g1:d<=64) (h:t<64) :
  Calls Tryz.prog 62 #[.agg (au d t s bk rm kf bf)] w fun e w'=>e=.returned (.tuple #[.agg (six fun _=>0),.bool false])/\Below w.heap.size w w':=by
 unfold au;go_enter Tryz.func62,Tryz.ntmps62
 go_wp2
 refine tZ (v:=.tuple #[.agg (six fun _=>0),.bool false]) (by simp[results,Tryz.results62,go_sem,six]) rfl ⟨rfl,bi⟩
theorem zF (w:World) (d t:Int) (s:Nat->Int) (bk rm:Int) (kf bf:Nat) (g0:1<=d) (g1:d<=64) (g2:64<=t) (h:256<t) :
  Calls Tryz.prog 62 #[.agg (au d t s bk rm kf bf)] w fun e w'=>e=.returned (.tuple #[.agg (six fun _=>0),.bool false])/\Below w.heap.size w w':=by
 unfold au;go_enter Tryz.func62,Tryz.ntmps62
 go_wp2
 refine tZ (v:=.tuple #[.agg (six fun _=>0),.bool false]) (by simp[results,Tryz.results62,go_sem,six]) rfl ⟨rfl,bi⟩
theorem zl (w:World) (d t:Int) (s:Nat->Int) (bk rm:Int) (kf bf:Nat) (g0:1<=d) (g1:d<=64) (g2:64<=t) (g3:t<=256) (h:bk<0) :
  Calls Tryz.prog 62 #[.agg (au d t s bk rm kf bf)] w fun e w'=>e=.returned (.tuple #[.agg (six fun _=>0),.bool false])/\Below w.heap.size w w':=by
 unfold au;go_enter Tryz.func62,Tryz.ntmps62
 go_wp2
 refine tZ (v:=.tuple #[.agg (six fun _=>0),.bool false]) (by simp[results,Tryz.results62,go_sem,six]) rfl ⟨rfl,bi⟩
theorem yQ (w:World) (d t:Int) (s:Nat->Int) (bk rm:Int) (kf bf:Nat) (g0:1<=d) (g1:d<=64) (g2:64<=t) (g3:t<=256) (g4:0<=bk) (h:65536<bk) :
  Calls Tryz.prog 62 #[.agg (au d t s bk rm kf bf)] w fun e w'=>e=.returned (.tuple #[.agg (six fun _=>0),.bool false])/\Below w.heap.size w w':=by
 unfold au;go_enter Tryz.func62,Tryz.ntmps62
 go_wp2
 refine tZ (v:=.tuple #[.agg (six fun _=>0),.bool false]) (by simp[results,Tryz.results62,go_sem,six]) rfl ⟨rfl,bi⟩
theorem zY (w:World) (d t:Int) (s:Nat->Int) (bk rm:Int) (kf bf:Nat) (g0:1<=d) (g1:d<=64) (g2:64<=t) (g3:t<=256) (g4:0<=bk) (g5:bk<=65536) (h:rm<0) :
  Calls Tryz.prog 62 #[.agg (au d t s bk rm kf bf)] w fun e w'=>e=.returned (.tuple #[.agg (six fun _=>0),.bool false])/\Below w.heap.size w w':=by
 unfold au;go_enter Tryz.func62,Tryz.ntmps62
 go_wp2
 refine tZ (v:=.tuple #[.agg (six fun _=>0),.bool false]) (by simp[results,Tryz.results62,go_sem,six]) rfl ⟨rfl,bi⟩
theorem zK (w:World) (d t:Int) (s:Nat->Int) (bk rm:Int) (kf bf:Nat) (g0:1<=d) (g1:d<=64) (g2:64<=t) (g3:t<=256) (g4:0<=bk) (g5:bk<=65536) (g6:0<=rm) (h:65536<rm) :
  Calls Tryz.prog 62 #[.agg (au d t s bk rm kf bf)] w fun e w'=>e=.returned (.tuple #[.agg (six fun _=>0),.bool false])/\Below w.heap.size w w':=by
 unfold au;go_enter Tryz.func62,Tryz.ntmps62
 go_wp2
 refine tZ (v:=.tuple #[.agg (six fun _=>0),.bool false]) (by simp[results,Tryz.results62,go_sem,six]) rfl ⟨rfl,bi⟩
/-! ### Rows in memory -/
abbrev Sg:=Int×Int×Bool
def KE (x:Sg):List Value:=[.int .i64 x.1,.int .i64 x.2.1,.bool x.2.2]
def kC (l:List Sg):List Value:=l.flatMap KE
theorem lc:∀ l:List Sg,(kC l).length=l.length*3
 | []=>rfl
 | x :: l=>by
  have e:kC (x :: l)=KE x++kC l:=rfl;rw[e,List.length_append,lc l,List.length_cons];simp[KE];omega
theorem vk:∀ (l:List Sg) (j:Nat) (x:Sg),l[j]?=some x->(kC l)[j*3]?=some (.int .i64 x.1)/\(kC l)[j*3+1]?=some (.int .i64 x.2.1)/\(kC l)[j*3+2]?=some (.bool x.2.2)
 | [],j,x,h=>by simp at h
 | y :: l,0,x,h=>by
  simp at h;subst h;exact⟨rfl,rfl,rfl⟩
 | y :: l,j+1,x,h=>by
  have:=vk l j x (by simpa using h);have e:kC (y :: l)=KE y++kC l:=rfl;rw[e,show (j+1)*3=(KE y).length+j*3 by simp[KE];omega];refine⟨?_,?_,?_⟩
  ·rw[List.getElem?_append_right oZ,Nat.add_sub_cancel_left];exact this.1
  ·rw[Nat.add_assoc,List.getElem?_append_right oZ,Nat.add_sub_cancel_left];exact this.2.1
  ·rw[Nat.add_assoc,List.getElem?_append_right oZ,Nat.add_sub_cancel_left];exact this.2.2
def bn (w:World) (base:Nat) (v:Value) (l:List Sg):Prop:=w.ownsRow base 65 3 v l.length (kC l)
def eH (w:World) (oa:Option Addr) (l:List Sg):Prop:=∀ (j:Nat) (x:Sg),l[j]?=some x->∃ g o:Nat,oa=some ⟨g,o,none⟩/\w.cell? ⟨g,o+j*3,none⟩=some (.int .i64 x.1)/\w.cell? ⟨g,o+j*3+1,none⟩=some (.int .i64 x.2.1)/\w.cell? ⟨g,o+j*3+2,none⟩=some (.bool x.2.2)
theorem eH.below {w w':World} {oa:Option Addr} {l:List Sg} (h:eH w oa l) (hb:Below w.heap.size w w'):eH w' oa l:=fun j x hj=>by
 obtain⟨g,o,h0,h1,h2,h3⟩:=h j x hj;exact⟨g,o,h0,az h1 hb,az h2 hb,az h3 hb⟩
theorem Gv {w:World} {base:Nat} {v:Value} {l:List Sg} (h:bn w base v l):∃ oa cap,v=.slice oa l.length cap/\l.length<=cap/\cap<=maxLen/\eH w oa l:=by
 rcases h.2 with ⟨rfl,h0⟩ | ⟨g,cap,cur,rfl,hb,hg,hn,hm,hs,ht⟩
 ·have:l=[]:=List.eq_nil_of_length_eq_zero h0;subst this;exact⟨none,0,rfl,sZ,by simp[maxLen],fun j x hj=>by simp at hj⟩
 ·refine⟨_,cap,rfl,hn,hm,fun j x hj=>⟨g,0,rfl,?_⟩⟩;have h3:=vk l j x hj;have hc:=World.ownsRow.cells h (g:=g) rfl;simp only[Addr.add_lit] at hc;exact⟨hc _ _ h3.1,by simpa [Nat.add_assoc] using hc _ _ h3.2.1,by simpa [Nat.add_assoc] using hc _ _ h3.2.2⟩
structure Sx where
 aC:List Sg
 terms:Int
 bT:Int
 used:Nat->Int
def aO (vs:Value) (x:Sx):Array Value:=#[vs,.int .i64 x.terms,.int .u32 x.bT,.int .i64 (x.used 0),.int .i64 (x.used 1),.int .i64 (x.used 2),.int .i64 (x.used 3),.int .i64 (x.used 4),.int .i64 (x.used 5)]
def aH (vc vs:Value) (x:Sx):Array Value:=#[vc,vs,.int .i64 x.terms,.int .u32 x.bT,.int .i64 (x.used 0),.int .i64 (x.used 1),.int .i64 (x.used 2),.int .i64 (x.used 3),.int .i64 (x.used 4),.int .i64 (x.used 5)]
theorem aG (vc vs:Value) (x:Sx):(Tryz.prog.info? 49).map (·.size)=some (aH vc vs x).size:=by
 rw[show (aH vc vs x).size=10 from rfl];kernel_rfl
theorem nT (x:Sg):(Tryz.prog.info? 65).map (·.size)=some (KE x).toArray.size:=by
 rw[show (KE x).toArray.size=3 from rfl];kernel_rfl
def bP (s:Sg):Int:=if s.2.2=true then s.1+2 else s.1+1
theorem mU (w:World) (s:Sg) (h0:-1000000000<=s.1) (h1:s.1<=1000000000):Calls Tryz.prog 26 #[.agg #[.int .i64 s.1,.int .i64 s.2.1,.bool s.2.2]] w fun e w'=>e=.returned (.int .i64 (bP s))/\Below w.heap.size w w':=by
 obtain⟨a,d,z⟩:=s;simp only at h0 h1;have s1:IntKind.i64.wrap (a+1)=a+1:=iZ _ oZ;have s2:IntKind.i64.wrap (a+2)=a+2:=iZ _ oZ;unfold bP;cases z
 all_goals
  go_enter Tryz.func26,Tryz.ntmps26
  go_wp2_with fail
  go_ret;exact⟨rfl,aj⟩
theorem LZ (U:Nat->Int) (d:Nat) (w:World):(Op.equalIn (d+2) 40 (.agg (six U)) (.agg (six U))).run Tryz.prog w=.ok true w:=by
 have u3:=Tryz.underlying3;have a3:=Tryz.isAgg3;have z3:=Tryz.sizeOf3;unfold six;rw[show d+2=(d+1)+1 from rfl,Op.equalIn];simp only[Sem.run_bind,run_underlying Tryz.underlying40,Result.andThen_ok];simp only[Std.Legacy.Range.forIn_eq_forIn_range',Std.Legacy.Range.size,Nat.sub_zero,Nat.add_sub_cancel,Nat.div_one,List.range'_succ,List.range'_zero,List.forIn_cons,List.forIn_nil];go_simp
end Go.Proofs.YtafaohnhlgcnpaaGreatDoor
