/-
 What stage 12 rests on.
-/
import Derived.Test.YtlfndoclbebdaaaGreatDoorWrAllA1
import Derived.Test.YtlfndoclbebdaaaGreatDoorWrAllB1
set_option maxRecDepth 100000
set_option maxHeartbeats 16000000
namespace Go.Proofs.YtlfndoclbebdaaaGreatDoor
open Go.RowKit
theorem FO (w:World) (d t:Int) (s:Nat->Int) (bk rm:Int) (kf bf:Nat) (h:¬ fU d t s bk rm) :
  Calls Tryz.prog 33 #[.agg (ak d t s bk rm kf bf)] w fun e w'=>e=.returned (.tuple #[.agg (af (fun _=>0) (fun _=>0) 0 0 0),.int .i64 1])/\Below w.heap.size w w':=by
 unfold ak
 go_enter Tryz.func33,Tryz.ntmps33
 go_wp2_with fail
 refine(rF _ d t s bk rm kf bf).mono ?_;rintro e w1 ⟨hb1,⟨hok,rfl⟩ | ⟨_,U,rfl⟩⟩
 ·exact absurd hok h
 ·simp only[six]
  have h1:=(hb1.block (w.heap.size+1) sZ).trans (fK _ _ _)
  have hne:w.heap.size+1≠w1.heap.size:=by have:=lt_of_heap h1;omega
  have H1:=hJ h1
  have HB:=hJ (dL.trans (hb1.mono uZ))
  clear h1 hb1
  go_wp2_with (first
   | (refine zZ rfl 42 (.tmp 2) (.tmp 16) rfl (w.heap.size+1) (af (fun _=>0) (fun _=>0) 0 0 0) rfl rfl 42 (af (fun _=>0) (fun _=>0) 0 0 0) ((Below.heap_alloc _ _ _ (lt_of_heap H1.out)).trans H1.out) (ai _ _ _ _ _) rfl (iF _ _ _ _ _) ?_))
  refine tZ (v:=.tuple #[.agg (af (fun _=>0) (fun _=>0) 0 0 0),.int .i64 1]) (results_cell_tmp rfl _ _ (w.heap.size+1) _ _ (0,0) _ _ rfl rfl (setRow_heap _ _ _ _ _ _ ((Below.heap_alloc _ _ _ (lt_of_heap H1.out)).trans H1.out)) Tryz.underlying42 rfl (ai _ _ _ _ _)) rfl ⟨rfl,?_⟩
  exact below_setRow (HB.out.alloc HB.out.size _) oZ _
def AC (w:World) (d t:Int) (s:Nat->Int) (bk rm:Int) (kf bf:Nat) (p q i:Nat) (wr:World):Prop :=
 jD w d t s bk rm kf bf wr/\wr.heap[p]?=some (.cells (six (aB s bk rm)) 40 (0,0))/\wr.heap[q]?=some (.cells (af (pz (aB s bk rm) i) (aB s bk rm) 0 128 0) 42 (0,0))
theorem lI (w:World) (d t:Int) (s:Nat->Int) (bk rm:Int) (kf bf:Nat) (h:fU d t s bk rm) :
  Calls Tryz.prog 33 #[.agg (ak d t s bk rm kf bf)] w fun e w'=>e=.returned (.tuple #[.agg (af (az (aB s bk rm)) (aB s bk rm) (az (aB s bk rm) 6) (slotsOf t) (bY d t)),.int .i64 0])/\Below w.heap.size w w':=by
 unfold ak
 go_enter Tryz.func33,Tryz.ntmps33
 go_wp2_with fail
 refine(rF _ d t s bk rm kf bf).mono ?_;rintro e w1 ⟨hb1,⟨hok,rfl⟩ | ⟨hno,U,rfl⟩⟩
 rotate_left
 ·exact absurd h hno
 ·simp only[six]
  have h1:=(hb1.block (w.heap.size+1) sZ).trans (fK _ _ _)
  have h0:=(hb1.block w.heap.size uZ).trans (fO _ _ _)
  have hL:jD w d t s bk rm kf bf w1:=⟨h0,h1,dL.trans (hb1.mono uZ)⟩
  clear h0 h1 hb1 hok
  have hlim:=h.1
  go_wp2_with fail
  have hr:AC w d t s bk rm kf bf w1.heap.size (w1.heap.size+1) 0 ((w1.alloc (.cells (six (aB s bk rm)) 40)).alloc (.cells (af (fun _=>0) (aB s bk rm) 0 128 0) 42)) :=
   ⟨(hL.below au).below au,fO _ _ _,fK _ _ _⟩
  obtain⟨p,hp⟩:∃ p,p=w1.heap.size:=⟨_,rfl⟩
  have hpw:w.heap.size+2<=p:=by have:=lt_of_heap hL.2.1;omega
  rw[<- hp] at hr ⊢
  have HH:=hJ h
  clear hL h hp
  go_loopw [7,8] (fun al i wr=>∃ k:Nat,k<=6/\i=.int .i64 k/\al=.int .i64 (az (aB s bk rm) k)/\AC w d t s bk rm kf bf p (p+1) k wr) (fun _ i _=>6-(intOf i).toNat)
  case atStart=>exact⟨0,oZ,rfl,rfl,hr⟩
  case round =>
   clear hr
   obtain⟨k,hk,rfl,rfl,hL,hp,hq⟩:=hrel
   by_cases hlt:k<6
   ·have hlt6:(k:Int)<6:=oZ
    have c1:wr.cell? ⟨p+1,k,none⟩=some (.int .i64 (pz (aB s bk rm) k k)):=(ae hq k).trans (jL _ _ _ _ _ k hlt)
    have c2:wr.cell? ⟨p,k,none⟩=some (.int .i64 (aB s bk rm k)):=(ae hp k).trans (dW _ k hlt)
    have f1:=free_at hq k
    have b0:=vO hlim k
    have b1:=vT hlim k
    have s0:=xG hlim k
    have s1:=BR hlim k
    have HQ:=hJ hq
    have HP:=hJ hp
    have HL:=hJ hL
    clear hq hp hL
    go_wp2_with fail
    go_roundw
    case rel =>
     refine⟨k+1,oZ,by go_num,by simp only[az],?_,?_,?_⟩
     ·exact HL.out.setCell uZ _
     ·rw[Below.heap_setCell _ _ _ _ sZ];exact HP.out
     ·rw[heap_setCell_same _ _ _ _ _ _ HQ.out,ry _ _ _ _ _ _ k _ hlt (fun j _=>wY _ k j)]
    case measure=>simp[intOf];omega
   ·obtain rfl:k=6:=oZ
    have c1:wr.cell? ⟨p+1,12,none⟩=some (.int .i64 0):=ae hq 12
    have f1:=free_at hq 12
    have HQ:=hJ hq
    have HL:=hJ hL
    clear hq hp hL
    go_upto_region 12 with fail
    obtain⟨w5,hw5⟩:∃ w5,w5=wr.setCell ⟨p+1,12,none⟩ (.int .i64 (az (aB s bk rm) 6)):=⟨_,rfl⟩
    rw[<- hw5]
    have hq5:w5.heap[p+1]?=some (.cells (af (az (aB s bk rm)) (aB s bk rm) (az (aB s bk rm) 6) 128 0) 42 (0,0)):=by
     rw[hw5,heap_setCell_same _ _ _ _ _ _ HQ.out,pF];rfl
    have hL5:jD w d t s bk rm kf bf w5:=by
     rw[hw5]
     exact HL.out.setCell uZ _
    clear hw5 HQ HL c1 f1
    have k0:w5.cell? ⟨w.heap.size,0,none⟩=some (.int .i64 d):=ae hL5.1 0
    have k1:w5.cell? ⟨w.heap.size,1,none⟩=some (.int .i64 t):=ae hL5.1 1
    have k3:w5.cell? ⟨p+1,13,none⟩=some (.int .i64 128):=ae hq5 13
    have f3:=free_at hq5 13
    have k4:w5.cell? ⟨p+1,14,none⟩=some (.int .i64 0):=ae hq5 14
    have f4:=free_at hq5 14
    have d0:=hlim.d0
    have d1:=hlim.d1
    have HQ5:=hJ hq5
    have HL5:=hJ hL5
    clear hq5 hL5
    by_cases ht:t<128
    ·have HS:=hJ (show slotsOf t=128 by simp[slotsOf,ht])
     have ht':¬ 128<=t:=oZ
     have ht'':¬ 256<=t:=oZ
     go_upto_region 17 with fail
     obtain⟨w6,hw6⟩:∃ w6,w6=w5.setCell ⟨p+1,14,none⟩ (.int .i64 (1+4*d+128)):=⟨_,rfl⟩
     rw[<- hw6]
     have hq6:w6.heap[p+1]?=some (.cells (af (az (aB s bk rm)) (aB s bk rm) (az (aB s bk rm) 6) (slotsOf t) (bY d t)) 42 (0,0)):=by
      rw[hw6,heap_setCell_same _ _ _ _ _ _ HQ5.out]
      simp only[bY,HS.out];rfl
     have hL6:jD w d t s bk rm kf bf w6:=by
      rw[hw6]
      exact(HL5.out.setCell (p:=⟨p+1,14,none⟩) uZ _)
     clear hw6
     have H2:=hJ hL6.2.1
     have HQ6:=hJ hq6
     have HB:=hJ hL6.2.2
     clear hq6 hL6
     go_wp2_with (first
      | (refine yZ rfl 42 (.tmp 6) rfl (p+1) rfl 42 (af (az (aB s bk rm)) (aB s bk rm) (az (aB s bk rm) 6) (slotsOf t) (bY d t)) (0,0) _ HQ6.out Tryz.underlying42 rfl (ai _ _ _ _ _) ?_)
      | (refine zZ rfl 42 (.tmp 2) (.tmp 50) rfl (w.heap.size+1) (af (az (aB s bk rm)) (aB s bk rm) (az (aB s bk rm) 6) (slotsOf t) (bY d t)) rfl rfl 42 (af (fun _=>0) (fun _=>0) 0 0 0) H2.out (ai _ _ _ _ _) rfl (iF _ _ _ _ _) ?_))
     refine tZ (v:=.tuple #[.agg (af (az (aB s bk rm)) (aB s bk rm) (az (aB s bk rm) 6) (slotsOf t) (bY d t)),.int .i64 0]) (results_cell_tmp rfl _ _ (w.heap.size+1) _ _ (0,0) _ _ rfl rfl (setRow_heap _ _ _ _ _ _ H2.out) Tryz.underlying42 rfl (ai _ _ _ _ _)) rfl ⟨rfl,below_setRow HB.out oZ _⟩
    ·by_cases hu:t<256
     ·have HS:=hJ (show slotsOf t=256 by simp[slotsOf,ht,hu])
      have ht':128<=t:=oZ
      have hu':¬ 256<=t:=oZ
      clear ht
      go_upto_region 17 with fail
      obtain⟨w6,hw6⟩:∃ w6,w6=(w5.setCell ⟨p+1,13,none⟩ (.int .i64 256)).setCell ⟨p+1,14,none⟩ (.int .i64 (1+4*d+256)):=⟨_,rfl⟩
      rw[<- hw6]
      have hq6:w6.heap[p+1]?=some (.cells (af (az (aB s bk rm)) (aB s bk rm) (az (aB s bk rm) 6) (slotsOf t) (bY d t)) 42 (0,0)):=by
       rw[hw6,heap_setCell_same _ _ _ _ _ _ (heap_setCell_same _ _ _ _ _ _ HQ5.out)]
       simp only[bY,HS.out];rfl
      have hL6:jD w d t s bk rm kf bf w6:=by
       rw[hw6]
       exact((HL5.out.setCell (p:=⟨p+1,13,none⟩) uZ _).setCell (p:=⟨p+1,14,none⟩) uZ _)
      clear hw6
      have H2:=hJ hL6.2.1
      have HQ6:=hJ hq6
      have HB:=hJ hL6.2.2
      clear hq6 hL6
      go_wp2_with (first
       | (refine yZ rfl 42 (.tmp 6) rfl (p+1) rfl 42 (af (az (aB s bk rm)) (aB s bk rm) (az (aB s bk rm) 6) (slotsOf t) (bY d t)) (0,0) _ HQ6.out Tryz.underlying42 rfl (ai _ _ _ _ _) ?_)
       | (refine zZ rfl 42 (.tmp 2) (.tmp 50) rfl (w.heap.size+1) (af (az (aB s bk rm)) (aB s bk rm) (az (aB s bk rm) 6) (slotsOf t) (bY d t)) rfl rfl 42 (af (fun _=>0) (fun _=>0) 0 0 0) H2.out (ai _ _ _ _ _) rfl (iF _ _ _ _ _) ?_))
      refine tZ (v:=.tuple #[.agg (af (az (aB s bk rm)) (aB s bk rm) (az (aB s bk rm) 6) (slotsOf t) (bY d t)),.int .i64 0]) (results_cell_tmp rfl _ _ (w.heap.size+1) _ _ (0,0) _ _ rfl rfl (setRow_heap _ _ _ _ _ _ H2.out) Tryz.underlying42 rfl (ai _ _ _ _ _)) rfl ⟨rfl,below_setRow HB.out oZ _⟩
     ·have HS:=hJ (show slotsOf t=512 by simp[slotsOf,ht,hu])
      have ht':128<=t:=oZ
      have hu':256<=t:=oZ
      clear ht hu
      go_upto_region 17 with fail
      obtain⟨w6,hw6⟩:∃ w6,w6=((w5.setCell ⟨p+1,13,none⟩ (.int .i64 256)).setCell ⟨p+1,13,none⟩ (.int .i64 512)).setCell ⟨p+1,14,none⟩ (.int .i64 (1+4*d+512)):=⟨_,rfl⟩
      rw[<- hw6]
      have hq6:w6.heap[p+1]?=some (.cells (af (az (aB s bk rm)) (aB s bk rm) (az (aB s bk rm) 6) (slotsOf t) (bY d t)) 42 (0,0)):=by
       rw[hw6,heap_setCell_same _ _ _ _ _ _ (heap_setCell_same _ _ _ _ _ _ (heap_setCell_same _ _ _ _ _ _ HQ5.out))]
       simp only[bY,HS.out];rfl
      have hL6:jD w d t s bk rm kf bf w6:=by
       rw[hw6]
       exact(((HL5.out.setCell (p:=⟨p+1,13,none⟩) uZ _).setCell (p:=⟨p+1,13,none⟩) uZ _).setCell (p:=⟨p+1,14,none⟩) uZ _)
      clear hw6
      have H2:=hJ hL6.2.1
      have HQ6:=hJ hq6
      have HB:=hJ hL6.2.2
      clear hq6 hL6
      go_wp2_with (first
       | (refine yZ rfl 42 (.tmp 6) rfl (p+1) rfl 42 (af (az (aB s bk rm)) (aB s bk rm) (az (aB s bk rm) 6) (slotsOf t) (bY d t)) (0,0) _ HQ6.out Tryz.underlying42 rfl (ai _ _ _ _ _) ?_)
       | (refine zZ rfl 42 (.tmp 2) (.tmp 50) rfl (w.heap.size+1) (af (az (aB s bk rm)) (aB s bk rm) (az (aB s bk rm) 6) (slotsOf t) (bY d t)) rfl rfl 42 (af (fun _=>0) (fun _=>0) 0 0 0) H2.out (ai _ _ _ _ _) rfl (iF _ _ _ _ _) ?_))
      refine tZ (v:=.tuple #[.agg (af (az (aB s bk rm)) (aB s bk rm) (az (aB s bk rm) 6) (slotsOf t) (bY d t)),.int .i64 0]) (results_cell_tmp rfl _ _ (w.heap.size+1) _ _ (0,0) _ _ rfl rfl (setRow_heap _ _ _ _ _ _ H2.out) Tryz.underlying42 rfl (ai _ _ _ _ _)) rfl ⟨rfl,below_setRow HB.out oZ _⟩
theorem G5 (w:World) (i k t:Nat) (hi:(i:Int)<=140737488355327) (hk:i % 4=k) (ht:k*8=t):Calls Tryz.prog 159 #[.int .i64 (i:Int)] w fun e w'=>e=.returned (.int .i64 (t:Int))/\w'=w:=by
 have r1:(i:Int) % 4=(k:Int):=oZ
 have r2:(i:Int).tmod 4=(k:Int):=by rw[Int.tmod_eq_emod_of_nonneg oZ];exact r1
 have r3:IntKind.i64.wrap (k:Int)=(k:Int):=iZ _ oZ
 have r4:IntKind.i64.wrap ((k:Int)*8)=(t:Int):=by rw[iZ _ oZ];omega
 have HM:=hJ (show (k:Int)*8=(t:Int) by omega)
 clear hk ht
 go_enter Tryz.func159,Tryz.ntmps159
 go_wp2_with fail
 go_ret
 first
 | exact⟨rfl,rfl⟩
 | exact⟨by rw[HM.out],rfl⟩
theorem KN (k:Nat) (hk:(k:Int)<=70368744177664) (w:World):(Instr.makeSlice 47 (.int .i64 k) (.int .i64 k)).run Tryz.prog w=.ok (.slice (some ⟨w.heap.size,0,none⟩) k k) (w.alloc (.cells (madeCells #[.int .u32 0] k) 32)) :=
 run_make_row' 47 32 (.int .u32 0) 4 Tryz.underlying47 uG rfl .i64 .i64 k oZ oZ w
theorem JW (w:World) (s:ByteArray) (hs:(s.size:Int)<=140737488355327):Calls Tryz.prog 188 #[.string s] w fun e w'=>e=.returned (.int .u32 (dB (ax s)))/\w'=w:=by
 have HLt:=hJ (jo s)
 have HLn:=hJ (aG s)
 go_enter Tryz.func188,Tryz.ntmps188
 go_wp2_with fail
 go_loopw [3,7] (fun hv iv wr=>∃ i:Nat,i<=s.size/\iv=.int .i64 i/\hv=.int .u32 (dB ((ax s).take i))/\wr=w) (fun _ iv _=>s.size-(intOf iv).toNat)
 case atStart=>exact⟨0,oZ,rfl,rfl,rfl⟩
 case round =>
  obtain⟨i,hi,rfl,rfl,rfl⟩:=hrel
  by_cases hlt:i<s.size
  ·have hh:=qP ((ax s).take i)
   have hb:(s[i]'hlt).toNat<256:=(s[i]'hlt).toNat_lt
   have HT:=hJ (show dB ((ax s).take (i+1))=jb (dB ((ax s).take i)) (s[i]'hlt).toNat by rw[yM hlt,Ad])
   generalize dB ((ax s).take i)=h at hh HT
   have HW:=hJ (Ed h (s[i]'hlt).toNat hh hb)
   clear hb
   go_wp2_with fail
   refine⟨⟨i+1,oZ,sZ,?_,trivial⟩,by simp[intOf];omega⟩
   rw[HT.out]
   exact congrArg (Value.int IntKind.u32) HW.out
  ·have hi':s.size=i:=oZ
   rw[show (ax s).take i=ax s from List.take_of_length_le (by rw[aG];omega)]
   have hh:=qP (ax s)
   obtain⟨h,hE⟩:∃ h,dB (ax s)=h:=⟨_,rfl⟩
   have HE:=hJ hE
   rw[hE] at hh ⊢
   clear hi' hE
   go_wp2_with fail
   go_ret
   exact⟨by rw[HE.out];rfl,rfl⟩
theorem rY (W:World) (s:ByteArray) (hs:(s.size:Int)<=140737488355327):Calls Tryz.prog 124 #[.string s] W fun e w'=>∃ v,e=.returned v/\iw 32 .u32 w' W.heap.size v (aF (ax s))/\Below W.heap.size W w':=by
 obtain⟨L,hL⟩:∃ L,L=ax s:=⟨_,rfl⟩
 have HLt:=hJ (show ∀ b∈L,b<256 by rw[hL];exact jo s)
 have HLn:=hJ (show L.length=s.size by rw[hL];exact aG s)
 have HIn:=hJ (show ∀ (i:Nat) (h:i<s.size),L.getD i 0=(s[i]'h).toNat from fun i h=>by rw[hL];exact byte_at h)
 rw[<- hL]
 clear hL
 obtain⟨n,hn⟩:∃ n,n=(s.size+3) / 4:=⟨_,rfl⟩
 have hn0:(n:Int)<=70368744177664:=oZ
 have HN:=hJ hn
 have HC:=hJ (fun w=>wU w (s.size:Int) n oZ oZ oZ)
 have hmk:=KN n hn0
 have HFin:=hJ (show ∀ (w:World) (F:Nat->Value),w.rowIs W.heap.size 32 n F->(∀ j:Nat,F j=.int .u32 (cellAt L j:Nat))->iw 32 .u32 w W.heap.size (.slice (some ⟨W.heap.size,0,none⟩) n n) (aF L) from fun w F h hF =>
  xW (k:=.u32) W.heap.size (Nat.le_refl _) (by rw[bH,HLn.out,HN.out]) mZ h (fun j x hj=>by
   rw[hF j]
   unfold aF iO at hj
   rw[List.getElem?_map] at hj
   obtain⟨y,hy,rfl⟩:=Option.map_eq_some_iff.1 hj
   have:=eZ.1 hy
   obtain⟨h1,h2⟩:=this
   rw[List.getElem_range] at h2
   rw[h2]))
 clear hn
 go_enter Tryz.func124,Tryz.ntmps124
 go_wp2_with fail
 refine(HC.out _).mono ?_;rintro e w1 ⟨rfl,rfl⟩
 go_wp2_with fail
 have HRow:=hJ (show (w1.alloc (.cells (madeCells #[.int .u32 0] n) 32)).rowIs w1.heap.size 32 n (fun j=>.int .u32 (cellAt (L.take 0) j:Nat)) from(World.rowIs_made w1 (.int .u32 0) n 32).congr fun j _=>by simp[cellAt])
 have HB:=hJ (show Below w1.heap.size w1 (w1.alloc (.cells (madeCells #[.int .u32 0] n) 32)) from au)
 generalize w1.alloc (.cells (madeCells #[.int .u32 0] n) 32)=w2 at HRow HB
 go_loopw [11] (fun iv wr=>∃ i:Nat,i<=s.size/\iv=.int .i64 i/\wr.rowIs w1.heap.size 32 n (fun j=>.int .u32 (cellAt (L.take i) j:Nat))/\Below w1.heap.size w1 wr) (fun iv _=>s.size-(intOf iv).toNat)
 case atStart=>exact⟨0,oZ,rfl,HRow.out,HB.out⟩
 case round =>
  obtain⟨i,hi,rfl,hrow,hlow⟩:=hrel
  have HR:=hJ hrow
  have HL:=hJ hlow
  clear hrow hlow
  by_cases hlt:i<s.size
  ·have hlt1:(i:Int)<(s.size:Int):=oZ
   obtain⟨k,hk⟩:∃ k,i % 4=k:=⟨_,rfl⟩
   obtain⟨j,hj⟩:∃ j,j=i / 4:=⟨_,rfl⟩
   have hjn:j<n:=by have:=HN.out;omega
   have hjn1:(j:Int)<(n:Int):=oZ
   obtain⟨b,hb⟩:∃ b,b=(s[i]'hlt).toNat:=⟨_,rfl⟩
   have hb256:b<256:=by rw[hb];exact(s[i]'hlt).toNat_lt
   have hst:=AY HLt.out i k hk
   rw[<- hj,HIn.out i hlt,<- hb] at hst
   have hcell:=HR.out.cell hjn
   have hfr:=HR.out.frozen j
   obtain⟨c,hc⟩:∃ c,c=cellAt (L.take i) j:=⟨_,rfl⟩
   rw[<- hc] at hst hcell
   obtain⟨x,hx⟩:∃ x,b*2 ^ (k*8)=x:=⟨_,rfl⟩
   rw[hx] at hst
   obtain⟨hs1,hs2,hs3⟩:=hst
   have HS:=hJ hs1
   have HJ:=hJ hj
   obtain⟨m,hm⟩:∃ m,k*8=m:=⟨_,rfl⟩
   have hm24:m<=24:=oZ
   rw[hm] at hs2 hx
   have HSh:=hJ (fun w=>G5 w i k m oZ hk hm)
   have hor:=IB hs2 hm24 b hx.symm hs3
   have q1:(i:Int) / 4=(j:Int):=oZ
   have q2:(i:Int).tdiv 4=(j:Int):=by rw[Int.tdiv_eq_ediv_of_nonneg oZ];exact q1
   have q3:IntKind.i64.wrap (j:Int)=(j:Int):=iZ _ oZ
   have b1:IntKind.u32.wrap ((s[i]'hlt).toNat:Int)=(b:Int):=by rw[<- hb];exact IntWalk.u32_in _ oZ
   have HBb:=hJ hb
   have HOr:=hJ (show bits BinOp.or IntKind.u32 (c:Int) ((b:Int)*2 ^ m % 4294967296)=((c+x:Nat):Int) by
    rw[show ((b:Int)*2 ^ m)=(x:Int) by rw[<- hx];simp,show (x:Int) % 4294967296=(x:Int) by omega];exact hor)
   clear hor hs1 hs2 hs3 hx hk hj hc hb hm
   go_wp2_with fail
   refine wp_region_still_tail 14 kZ kZ ?_
   simp only[List.take_succ_cons,List.take_zero,List.drop_succ_cons,List.drop_zero]
   repeat still_step
   still_call (HSh.out _)
   repeat still_step
   refine wpStill_nil ?_
   change wpList _ _ _ _ _ (World.drew _)
   go_wp2_with fail
   go_roundw
   case rel =>
    refine⟨i+1,oZ,by go_num,?_,(HL.out.setCell sZ _).drew⟩
    refine((HR.out.drew).set j _).congr fun y hy=>?_
    by_cases hyj:y=j
    ·rw[if_pos hyj,hyj,HS.out];exact congrArg (Value.int IntKind.u32) HOr.out
    ·rw[if_neg hyj,xO L i y (by rw[<- HJ.out];exact hyj)]
   case measure=>simp[intOf];omega
  ·have hi':s.size=i:=oZ
   have hlt1:¬ (i:Int)<(s.size:Int):=oZ
   have HO:=hJ (HFin.out wr _ HR.out (fun j=>by rw[List.take_of_length_le (by rw[HLn.out];omega)]))
   clear hi'
   go_wp2_with fail
   go_ret
   exact⟨_,rfl,HO.out,HL.out⟩
end Go.Proofs.YtlfndoclbebdaaaGreatDoor
