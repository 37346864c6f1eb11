/-
 What stage 12 rests on.
-/
import Derived.Test.YtlfndoclbebdaaaGreatDoorWrAllA1
import Derived.Test.YtlfndoclbebdaaaGreatDoorWrAllB1
import Derived.BigQuiet
import Derived.Deep.LoopGhost
import Derived.Deep.WholeRow
set_option maxRecDepth 100000
set_option maxHeartbeats 16000000
namespace Go.Proofs.YtlfndoclbebdaaaGreatDoor
open Go.RowKit
theorem Hy (w:World) (oa:Option Addr) (c n:Nat) (cs:List Int) (en:cs.length=n) (hU:∀ y∈cs,U y) (ha:dH .u32 w oa (jB cs)) (a:Int) (h0:0<=a) (h1:a<cs.length) :
  Calls Tryz.prog 61 #[.slice oa n c,.int .i64 a] w fun e w'=>e=.returned (.tuple #[.int .u32 (cs.getD a.toNat 0),.bool true])/\Below w.heap.size w w':=by
 obtain⟨j,rfl⟩:=Int.eq_ofNat_of_zero_le h0
 obtain⟨x,hx,hx2,_⟩:=kW hU (show j<cs.length by omega)
 rw[Int.toNat_natCast,hx2]
 obtain⟨g,o,rfl,hc⟩:=ha j x hx
 have d1:(j:Int)<(n:Int):=oZ
 have d2:decide ((j:Int)<0)=false:=decide_eq_false oZ
 have d3:decide ((n:Int)<=(j:Int))=false:=decide_eq_false oZ
 have d4:decide (n<=j)=false:=decide_eq_false oZ
 clear hx hx2 ha hU
 go_enter Tryz.func61,Tryz.ntmps61
 go_wp2_with fail
 go_ret2
 exact⟨rfl,Below.refl _ _⟩
theorem Qg {α:Type} (w:World) (oa:Option Addr) (c n:Nat) (cs:List Int) (en:cs.length=n) (hU:∀ y∈cs,U y) (ha:dH .u32 w oa (jB cs)) (a:Int) (h0:0<=a) (h1:a<=5000000000) (key:ByteArray) (hk:key.size<=1000) {yes no:Pr α} {q:Nat} {x:α} {cs':List Int}
  (hd:Does (.load (a+1) fun l=>if l=(((ax key).length % 4294967296:Nat):Int) then uM yes no (aF (ax key)) (a+2) else no) cs q x cs') :
  Calls Tryz.prog 133 #[.slice oa n c,.int .i64 a,.string key] w fun e w'=>∃ b,e=.returned (.tuple #[.bool b,.bool true])/\(∃ q',Does (if b=true then yes else no) cs q' x cs')/\Below w.heap.size w w':=by
 cases hd with
 | load g1 g2 hd2 =>
  rename_i q0
  have HAt:=hJ (fun(w':World) (hb:Below w.heap.size w w') (j:Int) (k0:0<=j) (k1:j<cs.length)=>Hy w' oa c n cs en hU (ha.below hb) j k0 k1)
  have hu:=yK hU (a+1).toNat
  rw[Nat.mod_eq_of_lt (by rw[aG];omega),aG] at hd2
  have HA1:=hJ (HAt.out w (Below.refl _ _) (a+1) g1 g2)
  obtain⟨y,hy⟩:∃ y,y=cs.getD (a+1).toNat 0:=⟨_,rfl⟩
  rw[<- hy] at HA1 hu hd2
  simp only at hd2
  unfold U at hu
  obtain⟨hu0,hu1⟩:=hu
  have s1:IntKind.i64.wrap (a+1)=a+1:=iZ _ oZ
  have s2:IntKind.i64.wrap y=y:=iZ _ oZ
  have s3:IntKind.i64.wrap (a+2)=a+2:=iZ _ oZ
  obtain⟨L,hL⟩:∃ L,L=aF (ax key):=⟨_,rfl⟩
  rw[<- hL] at hd2
  obtain⟨N,hN⟩:∃ N,N=L.length:=⟨_,rfl⟩
  have hN2:N<=1000:=by rw[hN,hL,bH,aG];omega
  have HC:=hJ (fun w=>ug key L N oZ hL.symm hN.symm w)
  have HN:=hJ hN
  have kz:(key.size:Int)<=1000:=oZ
  clear hy hL hN hU ha
  by_cases hyk:y=(key.size:Int)
  ·rw[if_pos hyk] at hd2
   have b1:(y != (key.size:Int))=false:=by simpa using hyk
   have HD:=hJ hd2
   clear hd2 hyk
   go_enter Tryz.func133,Tryz.ntmps133
   go_wp2_with fail
   refine HA1.out.mono ?_;rintro e w1 ⟨rfl,hb1⟩
   have HB1:=hJ hb1
   clear hb1 HA1
   go_wp2_with fail
   refine(HC.out _).mono ?_;rintro e w2 ⟨oc,cc,rfl,hc1,hc2,hrc,hb2⟩
   have HB2:=hJ (ah HB1.out hb2)
   have HRC:=hJ hrc
   clear hb2 hrc HB1
   go_wp2_with fail
   go_loopg [35] N (fun g iv wr=>∃ (j q1:Nat),j+g=N/\iv=.int .i64 (j:Int)/\Hid (Does (uM yes no (L.drop j) (a+2+(j:Int))) cs q1 x cs')/\Hid (Below w.heap.size w wr)/\Hid (dH .u32 wr oc L))
   case atStart=>exact⟨0,_,oZ,rfl,hJ (by rw[List.drop_zero,show a+2+((0:Nat):Int)=a+2 by omega];exact HD.out),HB2,HRC⟩
   case round =>
    clear HD HB2 HRC
    obtain⟨j,q1,hjg,rfl,HD,HB,HRC⟩:=hrel
    cases gk with
    | zero =>
     have hj:N=j:=oZ
     have hd:=HD.out
     rw[List.drop_eq_nil_of_le (by rw[<- HN.out];omega)] at hd
     have HE:=hJ (show Does yes cs q1 x cs' from hd)
     subst hj
     clear hd HD hjg
     go_wp2_with fail
     go_ret2
     exact⟨true,rfl,⟨_,by rw[if_pos rfl];exact HE.out⟩,HB.out⟩
    | succ g =>
     have hj:j<N:=oZ
     have hj1:(j:Int)<(N:Int):=oZ
     obtain⟨z,hz⟩:∃ z,L[j]?=some z:=⟨_,gZ (by rw[<- HN.out];exact hj)⟩
     obtain⟨gb,ob,rfl,hcell⟩:=HRC.out j z hz
     have hd:=HD.out
     rw[show L.drop j=z :: L.drop (j+1) by
      have hlt:=(eZ.1 hz).1
      rw[List.drop_eq_getElem_cons hlt,(eZ.1 hz).2]] at hd
     unfold uM at hd
     cases hd with
     | load k1 k2 hd3 =>
      rename_i q2
      have HA2:=hJ (HAt.out _ HB.out (a+2+(j:Int)) k1 k2)
      have s4:IntKind.i64.wrap (a+2+(j:Int))=a+2+(j:Int):=iZ _ oZ
      obtain⟨y2,hy2⟩:∃ y,y=cs.getD (a+2+(j:Int)).toNat 0:=⟨_,rfl⟩
      rw[<- hy2] at HA2 hd3
      simp only at hd3
      clear hy2 hz HD
      by_cases hyz:y2=(z:Int)
      ·rw[if_pos hyz] at hd3
       have HD2:=hJ hd3
       have b2:(y2 != (z:Int))=false:=by simpa using hyz
       clear hyz hd3
       go_wp2_with fail
       refine HA2.out.mono ?_;rintro e w3 ⟨rfl,hb3⟩
       have HB3:=hJ (ah HB.out hb3)
       have HRC3:=hJ (HRC.out.below hb3)
       have hcell:=aC hcell hb3
       clear hb3 HA2
       go_wp2_with fail
       go_roundg g
       case measure=>omega
       case rel=>exact⟨j+1,q2,oZ,by go_num,hJ (by rw[show a+2+((j+1:Nat):Int)=a+2+(j:Int)+1 by omega];exact HD2.out),HB3,HRC3⟩
      ·rw[if_neg hyz] at hd3
       have HD2:=hJ hd3
       have b2:(y2 != (z:Int))=true:=by simpa using hyz
       clear hyz hd3
       go_wp2_with fail
       refine HA2.out.mono ?_;rintro e w3 ⟨rfl,hb3⟩
       have HB3:=hJ (ah HB.out hb3)
       have hcell:=aC hcell hb3
       clear hb3 HA2
       go_wp2_with fail
       go_ret2
       exact⟨false,rfl,⟨_,by rw[if_neg dZ];exact HD2.out⟩,HB3.out⟩
  ·rw[if_neg hyk] at hd2
   have HD:=hJ hd2
   have b1:(y != (key.size:Int))=true:=by simpa using hyk
   clear hd2 hyk HC
   go_enter Tryz.func133,Tryz.ntmps133
   go_wp2_with fail
   refine HA1.out.mono ?_;rintro e w1 ⟨rfl,hb1⟩
   have HB1:=hJ hb1
   clear hb1 HA1
   go_wp2_with fail
   go_ret2
   exact⟨false,rfl,⟨_,by rw[if_neg dZ];exact HD.out⟩,HB1.out⟩
theorem pW (w:World) (B S U:Nat->Int) (C T L n:Int) (k:Nat) (hk:k<6) (hn:1<=n) (h0:0<=U k) (h1:U k<=S k) (hs:S k<=1000000) (hf:n<=S k-U k) (hb0:0<=B k) (hb1:B k<=1000000) :
  Calls Tryz.prog 169 #[.agg (af B S C T L),.agg (six U),.int .i64 k,.int .i64 n] w fun e w'=>e=.returned (.tuple #[.int .i64 (B k+U k),.agg (six (more U k n)),.int .i64 0])/\Below w.heap.size w w':=by
 have d0:decide ((k:Int)<0)=false:=decide_eq_false oZ
 have d1:decide (5<(k:Int))=false:=decide_eq_false oZ
 have d2:decide (n<1)=false:=decide_eq_false oZ
 have d3:decide (U k<0)=false:=decide_eq_false oZ
 have d4:decide (S k<U k)=false:=decide_eq_false oZ
 have d5:decide (S k-U k<n)=false:=decide_eq_false oZ
 go_enter Tryz.func169,Tryz.ntmps169
 go_upto_region 1 with fail
 obtain⟨w0,hw0⟩:∃ w0,w0=((w.alloc (.cells (af B S C T L) 42)).alloc (.cells (six U) 40)).alloc (.cells #[.int .i64 0,.int .i64 0,.int .i64 0,.int .i64 0,.int .i64 0,.int .i64 0] 40):=⟨_,rfl⟩
 rw[<- hw0]
 have k0:w0.heap[w.heap.size]?=some (.cells (af B S C T L) 42 (0,0)):=by rw[hw0];exact dV _ _ _ _
 have k1:w0.heap[w.heap.size+1]?=some (.cells (six U) 40 (0,0)):=by rw[hw0];exact dX _ _ _ _
 have k2:w0.heap[w.heap.size+1+1]?=some (.cells (six fun _=>0) 40 (0,0)):=by rw[hw0];exact eH _ _ _ _
 have hb:Below w.heap.size w w0:=by rw[hw0];exact bu
 clear hw0
 have hk0:(k:Int)<6:=oZ
 have c0:w0.cell? ⟨w.heap.size,6+k,none⟩=some (.int .i64 (S k)):=(ae k0 (6+k)).trans (lL _ _ _ _ _ k hk)
 have c1:w0.cell? ⟨w.heap.size+1,k,none⟩=some (.int .i64 (U k)):=(ae k1 k).trans (dW _ k hk)
 have c2:w0.cell? ⟨w.heap.size,k,none⟩=some (.int .i64 (B k)):=(ae k0 k).trans (jL _ _ _ _ _ k hk)
 have f1:=free_at k1 k
 have K1:=hJ k1
 have K2:=hJ k2
 have HB:=hJ hb
 clear k0 k1 k2 hb
 go_quiet (fail)
 rename Nat=>m1
 go_wp2_with fail
 go_quiet (fail)
 rename Nat=>m2
 go_wp2_with fail
 go_quiet (fail)
 rename Nat=>m3
 go_upto_region 7 with fail
 obtain⟨w4,hw4⟩:∃ w4,w4=(w0.drewN (m1+m2+m3)).setCell ⟨w.heap.size+1,k,none⟩ (.int .i64 (U k+n)):=⟨_,rfl⟩
 rw[<- hw4]
 have k1:w4.heap[w.heap.size+1]?=some (.cells (six (more U k n)) 40 (0,0)):=by
  rw[hw4,heap_setCell_same _ _ _ _ _ _ (show (World.drewN _ _).heap[w.heap.size+1]?=_ from K1.out),jm _ (more U k n) k _ hk (fun j _=>rfl)]
 have k2:w4.heap[w.heap.size+1+1]?=some (.cells (six fun _=>0) 40 (0,0)):=by
  rw[hw4,Below.heap_setCell _ _ _ _ sZ];exact K2.out
 have hB4:Below w.heap.size w w4:=by
  rw[hw4];exact(fG HB.out _).setCell sZ _
 clear hw4 K1 K2 HB c0 c1 c2 f1
 have e0:w4.cell? ⟨w.heap.size+1,0,none⟩=some (.int .i64 (more U k n 0)):=ae k1 0
 have e1:w4.cell? ⟨w.heap.size+1,1,none⟩=some (.int .i64 (more U k n 1)):=ae k1 1
 have e2:w4.cell? ⟨w.heap.size+1,2,none⟩=some (.int .i64 (more U k n 2)):=ae k1 2
 have e3:w4.cell? ⟨w.heap.size+1,3,none⟩=some (.int .i64 (more U k n 3)):=ae k1 3
 have e4:w4.cell? ⟨w.heap.size+1,4,none⟩=some (.int .i64 (more U k n 4)):=ae k1 4
 have e5:w4.cell? ⟨w.heap.size+1,5,none⟩=some (.int .i64 (more U k n 5)):=ae k1 5
 have K2:=hJ k2
 have HB:=hJ hB4
 clear k1 k2 hB4
 go_still_tail 3,kZ
 change wpList _ _ _ _ _ w4.drew
 clear e0 e1 e2 e3 e4 e5
 go_wp2_with (first
  | (refine zZ rfl 40 (.tmp 9) (.tmp 65) rfl (w.heap.size+1+1) (six (more U k n)) rfl rfl 40 (six fun _=>0) (show w4.drew.heap[w.heap.size+1+1]?=_ from K2.out) (ag _) (bg _ _) (aX _) ?_)
  | fail)
 refine tZ (v:=.tuple #[.int .i64 (B k+U k),.agg (six (more U k n)),.int .i64 0]) (bG rfl _ _ (w.heap.size+1+1) _ _ (0,0) _ _ _ rfl rfl rfl (setRow_heap _ _ _ _ _ _ (show w4.drew.heap[w.heap.size+1+1]?=_ from K2.out)) Tryz.underlying40 rfl (ag _)) rfl ⟨rfl,below_setRow HB.out.drew oZ _⟩
theorem Jc (w:World) (oa:Option Addr) (c n:Nat) (cs:List Int) (en:cs.length=n) (hn:n<=1000000) (hU:∀ y∈cs,U y) (ha:dH .u32 w oa (jB cs)) (b:Int) (m:Nat) (id:Int) (b0:0<=b) (hl:b+4*(m:Int)<=cs.length) :
  Calls Tryz.prog 129 #[.slice oa n c,.int .i64 b,.int .i64 (m:Int),.int .u32 id] w fun e w'=>e=.returned (.tuple #[.int .i64 (kD cs b m id),.bool true])/\Below w.heap.size w w':=by
 have HAt:=hJ (fun(w':World) (hb:Below w.heap.size w w') (j:Int) (k0:0<=j) (k1:j<cs.length)=>Hy w' oa c n cs en hU (ha.below hb) j k0 k1)
 have HF0:=hJ (show mM cs b id m 0=kD cs b m id from rfl)
 obtain⟨fz,hfz⟩:∃ fz,fz=kD cs b m id:=⟨_,rfl⟩
 rw[<- hfz] at HF0 ⊢
 have HEn:=hJ en
 clear hU ha hfz
 go_enter Tryz.func129,Tryz.ntmps129
 go_wp2_with fail
 go_loopg [10] m (fun g iv wr=>∃ (t:Nat),t+g=m/\iv=.int .i64 (t:Int)/\Hid (mM cs b id g t=fz)/\Hid (Below w.heap.size w wr))
 case atStart=>exact⟨0,oZ,rfl,HF0,hJ (Below.refl _ _)⟩
 case round =>
  clear HF0
  obtain⟨t,htg,rfl,HF,HB⟩:=hrel
  cases gk with
  | zero =>
   have htm:t=m:=oZ
   have hf:=HF.out
   unfold mM at hf
   subst htm hf
   clear HF htg
   go_wp2_with fail
   go_ret2
   exact⟨rfl,HB.out⟩
  | succ g =>
   have htm:t<m:=oZ
   have htm1:(t:Int)<(m:Int):=oZ
   have hlen:=HEn.out
   have HA:=hJ (HAt.out _ HB.out (b+4*(t:Int)+1) oZ oZ)
   have s1:IntKind.i64.wrap (4*(t:Int))=4*(t:Int):=iZ _ oZ
   have s2:IntKind.i64.wrap (b+4*(t:Int))=b+4*(t:Int):=iZ _ oZ
   have s3:IntKind.i64.wrap (b+4*(t:Int)+1)=b+4*(t:Int)+1:=iZ _ oZ
   have hf:=HF.out
   unfold mM at hf
   obtain⟨y,hy⟩:∃ y,y=bK cs (b+4*(t:Int)+1):=⟨_,rfl⟩
   rw[<- hy] at hf
   rw[show cs.getD (b+4*(t:Int)+1).toNat 0=y from hy.symm] at HA
   clear hy hlen HF
   by_cases hyx:y=id
   ·rw[if_pos hyx] at hf
    have b1:(y==id)=true:=by simpa using hyx
    subst hf
    clear hyx
    go_wp2_with fail
    refine HA.out.mono ?_;rintro e w3 ⟨rfl,hb3⟩
    have HB3:=hJ (ah HB.out hb3)
    clear hb3 HA
    go_wp2_with fail
    go_ret2
    exact⟨rfl,HB3.out⟩
   ·rw[if_neg hyx] at hf
    have HF:=hJ hf
    have b1:(y==id)=false:=by simpa using hyx
    clear hyx hf
    go_wp2_with fail
    refine HA.out.mono ?_;rintro e w3 ⟨rfl,hb3⟩
    have HB3:=hJ (ah HB.out hb3)
    clear hb3 HA
    go_wp2_with fail
    go_roundg g
    case measure=>omega
    case rel=>exact⟨t+1,oZ,by go_num,HF,HB3⟩
theorem Kw (cs:List Int) (a:Nat) (id l v:Int):((cs.set a v).set (a+1) id).set (a+2) l=((cs.set (a+1) id).set (a+2) l).set a v:=by
 rw[List.set_comm v id (show a≠a+1 by omega),List.set_comm v l (show a≠a+2 by omega)]
theorem LC (w:World) (oa:Option Addr) (c n:Nat) (cs:List Int) (en:cs.length=n) (hn:n<=1000000) (hU:∀ y∈cs,U y) (ha:dH .u32 w oa (jB cs)) (b:Int) (d:Nat) (id l v:Int) (b0:0<=b) (hl:b+4*(d:Int)+3<cs.length) :
  Calls Tryz.prog 99 #[.slice oa n c,.int .i64 b,.int .i64 (d:Int),.int .u32 id,.int .u32 l,.int .u32 v] w fun e w'=>∃ g,e=.returned (.tuple #[.slice (some ⟨g,0,none⟩) n n,.bool true])/\dK w' g (xu cs b d id l v)/\Below w.heap.size w w'/\w.heap.size<=g:=by
 have HCp:=hJ (fun(w':World) (hb:Below w.heap.size w w')=>nK w' oa c n cs en hn hU (ha.below hb))
 obtain⟨a,hae⟩:∃ a:Nat,b+4*(d:Int)=(a:Int):=⟨(b+4*(d:Int)).toNat,oZ⟩
 have HLay:=hJ (show xu cs b d id l v=((cs.set a v).set (a+1) id).set (a+2) l by
  unfold xu
  rw[hae,show ((a:Int)+1).toNat=a+1 by omega,show ((a:Int)+2).toNat=a+2 by omega,Int.toNat_natCast,Kw])
 rw[HLay.out]
 have s1:IntKind.i64.wrap (4*(d:Int))=4*(d:Int):=iZ _ oZ
 have s2:IntKind.i64.wrap (b+4*(d:Int))=(a:Int):=by rw[hae];exact iZ _ oZ
 have s3:IntKind.i64.wrap ((a:Int)+1)=(a:Int)+1:=iZ _ oZ
 have s4:IntKind.i64.wrap ((a:Int)+2)=(a:Int)+2:=iZ _ oZ
 have s5:IntKind.i64.wrap ((a:Int)+0)=(a:Int):=by rw[Int.add_zero];exact iZ _ oZ
 have z0:a+3<n:=oZ
 have z1:(a:Int)<(n:Int):=oZ
 have z2:(a:Int)+1<(n:Int):=oZ
 have z3:(a:Int)+2<(n:Int):=oZ
 have HEn:=hJ en
 clear hU ha HLay hl en hae b0
 go_enter Tryz.func99,Tryz.ntmps99
 go_upto_region 2 with fail
 have HA1:=hJ (nZ w (.cells #[.int .u32 v,.int .u32 id,.int .u32 l] 240))
 have HLw:=hJ (au (w:=w) (A:=.cells #[.int .u32 v,.int .u32 id,.int .u32 l] 240))
 generalize w.alloc (.cells #[.int .u32 v,.int .u32 id,.int .u32 l] 240)=w3 at HA1 HLw ⊢
 go_wp2_with fail
 have HA:Hid (w3.heap[w.heap.size]?=some (.cells #[.int .u32 v,.int .u32 id,.int .u32 l] 240 (0,0))):=HA1
 refine(HCp.out _ HLw.out).mono ?_;rintro e w5 ⟨rfl,hrow,hb⟩
 obtain⟨w4,hw4⟩:∃ w4,w4=w3:=⟨_,rfl⟩
 rw[<- hw4] at HA HLw hrow hb ⊢
 obtain⟨g,hg⟩:∃ g,g=w4.heap.size:=⟨_,rfl⟩
 rw[<- hg] at hrow ⊢
 have HR5:=hJ hrow
 have HLow5:=hJ hb
 have HG:=hJ (And.intro hg hg)
 clear hrow hb hg hw4 HA1 HCp
 go_wp2_with fail
 go_loopg [16] 3 (fun r iv wr=>∃ (t:Nat),t+r=3/\iv=.int .i64 (t:Int)/\Hid (dK wr g (match t with | 0=>cs | 1=>cs.set a v | 2=>(cs.set a v).set (a+1) id | _=>((cs.set a v).set (a+1) id).set (a+2) l))/\Hid (Below w4.heap.size w4 wr))
 case atStart=>exact⟨0,oZ,rfl,HR5,HLow5⟩
 case round =>
  clear HR5 HLow5
  obtain⟨t,htr,rfl,HR,HLow⟩:=hrel
  cases gk with
  | zero =>
   have ht:t=3:=oZ
   subst ht
   go_wp2_with fail
   go_ret2
   exact⟨g,rfl,HR.out,ah HLw.out HLow.out,by have h1:=HG.out.1;have h2:=HLw.out.size;omega⟩
  | succ g2 =>
   rcases (show t=0∨t=1∨t=2 by omega) with rfl | rfl | rfl
   ·have hg2:g2=2:=oZ
    subst hg2
    have hrow:=HR.out
    have f1:=hrow.cell (a:=a) (by simp only[HEn.out];omega)
    have f2:=hrow.frozen (a)
    have HR6:=hJ (hrow.set (a:=a) (by simp only[HEn.out];omega) v)
    have HLow6:=hJ (low_set HLow.out (show w4.heap.size<=g by have:=HG.out.1;omega) (a) (.int .u32 v))
    have c1:wr.cell? ⟨w.heap.size,0,none⟩=some (.int .u32 v):=ae ((HLow.out.block _ (lt_of_heap HA.out)).trans HA.out) 0
    clear hrow HR HLow
    go_wp2_with fail
    go_roundg 2
    case measure=>omega
    case rel=>exact⟨1,oZ,by go_num,HR6,HLow6⟩
   ·have hg2:g2=1:=oZ
    subst hg2
    have hrow:=HR.out
    have f1:=hrow.cell (a:=a+1) (by simp only[List.length_set,HEn.out];omega)
    have f2:=hrow.frozen (a+1)
    have HR6:=hJ (hrow.set (a:=a+1) (by simp only[List.length_set,HEn.out];omega) id)
    have HLow6:=hJ (low_set HLow.out (show w4.heap.size<=g by have:=HG.out.1;omega) (a+1) (.int .u32 id))
    have c1:wr.cell? ⟨w.heap.size,1,none⟩=some (.int .u32 id):=ae ((HLow.out.block _ (lt_of_heap HA.out)).trans HA.out) 1
    clear hrow HR HLow
    go_wp2_with fail
    go_roundg 1
    case measure=>omega
    case rel=>exact⟨2,oZ,by go_num,HR6,HLow6⟩
   ·have hg2:g2=0:=oZ
    subst hg2
    have hrow:=HR.out
    have f1:=hrow.cell (a:=a+2) (by simp only[List.length_set,HEn.out];omega)
    have f2:=hrow.frozen (a+2)
    have HR6:=hJ (hrow.set (a:=a+2) (by simp only[List.length_set,HEn.out];omega) l)
    have HLow6:=hJ (low_set HLow.out (show w4.heap.size<=g by have:=HG.out.1;omega) (a+2) (.int .u32 l))
    have c1:wr.cell? ⟨w.heap.size,2,none⟩=some (.int .u32 l):=ae ((HLow.out.block _ (lt_of_heap HA.out)).trans HA.out) 2
    clear hrow HR HLow
    go_wp2_with fail
    go_roundg 0
    case measure=>omega
    case rel=>exact⟨3,oZ,by go_num,HR6,HLow6⟩
/-! ### What a version sees -/
theorem KG (n h t:Nat):(h % n+t) % n=bW n h t:=by
 unfold bW
 rw[Nat.mod_add_mod]
theorem vG (w:World) (oa:Option Addr) (c n:Nat) (cs:List Int) (en:cs.length=n) (hU:∀ y∈cs,U y) (ha:dH .u32 w oa (jB cs)) (s:Int) (m:Nat) (s0:0<=s) (s1:s<=1000000) (m0:1<=m) (m1:m<=1000000) (key:ByteArray) (hk:key.size<=1000) {q:Nat} {x:Int×Int}
  (hd:Does (fR s m (ax key) m 0) cs q x cs) :
  Calls Tryz.prog 94 #[.slice oa n c,.int .i64 s,.int .i64 (m:Int),.string key] w fun e w'=>e=.returned (.tuple #[.int .i64 x.1,.int .i64 x.2,.bool true])/\Below w.heap.size w w':=by
 have HAt:=hJ (fun(w':World) (hb:Below w.heap.size w w') (j:Int) (k0:0<=j) (k1:j<cs.length)=>Hy w' oa c n cs en hU (ha.below hb) j k0 k1)
 have HIs:=hJ (fun(w':World) (hb:Below w.heap.size w w') (a:Int) (h0:0<=a) (h1:a<=5000000000) (yes no:Pr (Int×Int)) (q:Nat) (hd:Does (.load (a+1) fun l=>if l=(((ax key).length % 4294967296:Nat):Int) then uM yes no (aF (ax key)) (a+2) else no) cs q x cs)=>Qg w' oa c n cs en hU (ha.below hb) a h0 h1 key hk hd)
 have HHash:=hJ (Lc w key oZ)
 have hh:=qP (ax key)
 have HU:=hJ hU
 obtain⟨h,hE⟩:∃ h,h=dB (ax key):=⟨_,rfl⟩
 rw[<- hE] at HHash hh
 obtain⟨r,hr⟩:∃ r,r=h % m:=⟨_,rfl⟩
 have hrn:r<m:=by rw[hr];exact Nat.mod_lt _ oZ
 have k1:IntKind.u64.wrap (h:Int)=(h:Int):=IntWalk.u64_in _ oZ
 have k2:IntKind.u64.wrap (m:Int)=(m:Int):=IntWalk.u64_in _ oZ
 have r1:(h:Int) % (m:Int)=(r:Int):=oZ
 have r2:(h:Int).tmod (m:Int)=(r:Int):=by rw[Int.tmod_eq_emod_of_nonneg oZ];exact r1
 have k3:IntKind.u64.wrap (r:Int)=(r:Int):=IntWalk.u64_in _ oZ
 have k4:IntKind.i64.wrap (r:Int)=(r:Int):=iZ _ oZ
 have kz:((m:Int)==0)=false:=by simpa using (show m≠0 by omega)
 have n1:¬ (m:Int)<1:=oZ
 have HSl:=hJ (show ∀ t,(r+t) % m=bW m (dB (ax key)) t from fun t=>by rw[hr,KG,hE])
 have HD:=hJ hd
 clear hE hr ha hd hk hU
 go_enter Tryz.func94,Tryz.ntmps94
 go_wp2_with fail
 refine HHash.out.mono ?_;rintro e w1 ⟨rfl,rfl⟩
 go_wp2_with fail
 go_loopg [12] m (fun g iv wr=>∃ (t q1:Nat),t+g=m/\iv=.int .i64 (t:Int)/\Hid (Does (fR s m (ax key) g t) cs q1 x cs)/\Hid (Below w1.heap.size w1 wr))
 case atStart=>exact⟨0,_,oZ,rfl,HD,hJ (Below.refl _ _)⟩
 case round =>
  clear HD
  obtain⟨t,q1,htg,rfl,HD,HB⟩:=hrel
  cases gk with
  | zero =>
   have htm:t=m:=oZ
   have hd:=HD.out
   unfold fR at hd
   obtain⟨rfl,_,_⟩:=hd.FP
   subst htm
   clear hd HD htg
   go_wp2_with fail
   refine tZ (v:=.tuple #[.int .i64 0,.int .i64 (-1),.bool true]) (by simp[results,Tryz.results94,go_sem]) rfl ⟨rfl,HB.out⟩
  | succ g =>
   have htm:t<m:=oZ
   have htm1:(t:Int)<(m:Int):=oZ
   obtain⟨sl,hsl⟩:∃ sl,sl=bW m (dB (ax key)) t:=⟨_,rfl⟩
   have hs2:(r+t) % m=sl:=by rw[hsl];exact HSl.out t
   have hslm:sl<m:=by rw[hsl];exact lw oZ _ _
   have m3:((r:Int)+(t:Int)) % (m:Int)=(sl:Int):=by
    have:=congrArg (fun x:Nat=>(x:Int)) hs2
    simpa using this
   have m4:((r:Int)+(t:Int)).tmod (m:Int)=(sl:Int):=by rw[Int.tmod_eq_emod_of_nonneg oZ];exact m3
   have m5:IntKind.i64.wrap ((r:Int)+(t:Int))=(r:Int)+(t:Int):=iZ _ oZ
   have m6:IntKind.i64.wrap (sl:Int)=(sl:Int):=iZ _ oZ
   have m7:IntKind.i64.wrap (s+(sl:Int))=s+(sl:Int):=iZ _ oZ
   have hd:=HD.out
   unfold fR at hd
   rw[<- hsl] at hd
   cases hd with
   | load g1 g2 hd2 =>
    rename_i q2
    have HA2:=hJ (HAt.out _ HB.out (s+(sl:Int)) g1 g2)
    have hu:=yK HU.out (s+(sl:Int)).toNat
    obtain⟨v,hv⟩:∃ v,v=cs.getD (s+(sl:Int)).toNat 0:=⟨_,rfl⟩
    rw[<- hv] at HA2 hd2 hu
    simp only at hd2
    unfold U at hu
    obtain⟨hu0,hu1⟩:=hu
    have m8:IntKind.i64.wrap v=v:=iZ _ oZ
    clear hv HD hs2 hsl
    by_cases hv0:v=0
    ·rw[if_pos hv0] at hd2
     obtain⟨hx,_,_⟩:=hd2.FP
     subst hv0 hx
     clear hd2
     go_wp2_with fail
     refine HA2.out.mono ?_;rintro e w3 ⟨rfl,hb3⟩
     have HB3:=hJ (ah HB.out hb3)
     clear hb3 HA2
     go_wp2_with fail
     refine tZ (v:=.tuple #[.int .i64 0,.int .i64 (sl:Int),.bool true]) (by simp[results,Tryz.results94,go_sem]) rfl ⟨rfl,HB3.out⟩
    ·rw[if_neg hv0] at hd2
     have b1:(v==0)=false:=by simpa using hv0
     have HK:=hJ (fun(w':World) (hb:Below w1.heap.size w1 w')=>HIs.out w' hb v hu0 oZ _ _ _ hd2)
     clear hd2 hv0
     go_wp2_with fail
     refine HA2.out.mono ?_;rintro e w3 ⟨rfl,hb3⟩
     have HB3:=hJ (ah HB.out hb3)
     clear hb3 HA2
     go_wp2_with fail
     refine(HK.out _ HB3.out).mono ?_;rintro e w4 ⟨b,rfl,⟨q3,hd3⟩,hb4⟩
     have HB4:=hJ (ah HB3.out hb4)
     clear hb4 HK
     cases b with
     | true =>
      rw[if_pos rfl] at hd3
      obtain⟨hx,_,_⟩:=hd3.FP
      subst hx
      clear hd3
      go_wp2_with fail
      refine tZ (v:=.tuple #[.int .i64 v,.int .i64 (sl:Int),.bool true]) (by simp[results,Tryz.results94,go_sem]) rfl ⟨rfl,HB4.out⟩
     | false =>
      rw[if_neg dZ] at hd3
      have HD4:=hJ hd3
      clear hd3
      go_wp2_with fail
      go_roundg g
      case measure=>omega
      case rel=>exact⟨t+1,q3,oZ,by go_num,HD4,HB4⟩
structure vz (W:World) (B S U:Nat->Int) (C T L:Int) (w:World):Prop where
 p:w.heap[W.heap.size]?=some (.cells (af B S C T L) 42 (0,0))
 u:w.heap[W.heap.size+1]?=some (.cells (six U) 40 (0,0))
 r:∃ X,w.heap[W.heap.size+1+1]?=some (.cells (six X) 40 (0,0))
 low:Below W.heap.size W w
section
variable {W w w':World} {B S U:Nat->Int} {C T L:Int}
theorem vz.start (W:World) (B S U:Nat->Int) (C T L:Int):vz W B S U C T L (((W.alloc (.cells (af B S C T L) 42)).alloc (.cells (six U) 40)).alloc (.cells (six fun _=>0) 40)) :=
 ⟨dV _ _ _ _,dX _ _ _ _,⟨_,eH _ _ _ _⟩,bu⟩
theorem vz.below (h:vz W B S U C T L w) (hb:Below w.heap.size w w'):vz W B S U C T L w':=by
 obtain⟨h1,h2,⟨X,h3⟩,h4⟩:=h
 exact⟨(hb.block _ (lt_of_heap h1)).trans h1,(hb.block _ (lt_of_heap h2)).trans h2,⟨X,(hb.block _ (lt_of_heap h3)).trans h3⟩,ah h4 hb⟩
theorem vz.set (h:vz W B S U C T L w) {g:Nat} (hg:W.heap.size+1+1<g) (o:Nat) (v:Value):vz W B S U C T L (w.setCell ⟨g,o,none⟩ v):=by
 obtain⟨h1,h2,⟨X,h3⟩,h4⟩:=h
 exact⟨(Below.heap_setCell _ _ _ _ (show W.heap.size≠g by omega)).trans h1,(Below.heap_setCell _ _ _ _ (show W.heap.size+1≠g by omega)).trans h2,⟨X,(Below.heap_setCell _ _ _ _ (show W.heap.size+1+1≠g by omega)).trans h3⟩,h4.setCell (by show W.heap.size<=g;omega) v⟩
end
theorem Nh (w:World) (oa:Option Addr) (c n:Nat) (cs:List Int) (en:cs.length=n) (hn:n<=1000000) (hU:∀ y∈cs,U y) (ha:dH .u32 w oa (jB cs)) (B S Us:Nat->Int) (C T L s slot:Int) (key:ByteArray) (hb4:0<=B 4/\B 4<=1000000) (hus:0<=Us 4/\Us 4<=S 4/\S 4<=1000000) (s0:0<=s) (s1:s<=1000000) (i0:0<=slot) (i1:slot<=1000000) (hk:key.size<=1000)
  (hfit:2+((aF (ax key)).length:Int)<=S 4-Us 4) {q:Nat} {x:G7} {cs':List Int} (hd:Does (iJ B S Us s slot (ax key)) cs q x cs') :
  Calls Tryz.prog 135 #[.slice oa n c,.agg (af B S C T L),.agg (six Us),.int .i64 s,.int .i64 slot,.string key] w fun e w'=>∃ g,e=.returned (.tuple #[.slice (some ⟨g,0,none⟩) n n,.int .i64 (B 4+Us 4),.agg (six (more Us 4 (2+((aF (ax key)).length:Int)))),.int .i64 0])/\dK w' g cs'/\Below w.heap.size w w'/\w.heap.size<=g:=by
 unfold iJ at hd
 rw[if_pos hfit] at hd
 obtain⟨a,ea⟩:∃ a,a=B 4+Us 4:=⟨_,rfl⟩
 obtain⟨cl,hcl⟩:∃ cl,cl=(aF (ax key)).length:=⟨_,rfl⟩
 have hcl1:cl<=1000:=by rw[hcl,bH,aG];omega
 obtain⟨V,hV⟩:∃ V,V=more Us 4 (2+(cl:Int)):=⟨_,rfl⟩
 have HT:=hJ (fun w=>pW w B S Us C T L (2+(cl:Int)) 4 oZ oZ hus.1 hus.2.1 hus.2.2 (by rw[hcl];exact hfit) hb4.1 hb4.2)
 rw[<- ea,<- hV] at HT
 rw[<- hcl,<- ea,<- hV] at hd
 rw[<- hcl,<- ea,<- hV]
 have a0:0<=a:=oZ
 have a1:a<=2000000:=oZ
 have HC:=hJ (fun w=>ug key (aF (ax key)) cl oZ rfl hcl.symm w)
 have HCp:=hJ (fun(w':World) (hb:Below w.heap.size w w')=>nK w' oa c n cs en hn hU (ha.below hb))
 have s2:IntKind.i64.wrap (a+1)=a+1:=iZ _ oZ
 have s3:IntKind.i64.wrap (a+2)=a+2:=iZ _ oZ
 have s4:IntKind.i64.wrap (s+slot)=s+slot:=iZ _ oZ
 have s5:IntKind.u32.wrap a=a:=IntWalk.u32_in _ oZ
 have s6:IntKind.u32.wrap (key.size:Int)=(key.size:Int):=IntWalk.u32_in _ oZ
 have s7:IntKind.i64.wrap (2+(cl:Int))=2+(cl:Int):=iZ _ oZ
 have kz:(key.size:Int)<=1000:=oZ
 have HLt:=hJ (cells_lt (jo key))
 have HL:=hJ hcl
 rw[aG] at hd
 cases hd with
 | store g1 g2 hd2 =>
  rename_i q1
  rw[show u32 (key.size:Int)=(key.size:Int) from s6] at hd2
  obtain⟨p,hp⟩:∃ p:Nat,a=(p:Int):=⟨a.toNat,oZ⟩
  rw[show (a+1).toNat=p+1 by omega] at hd2
  have HD:=hJ hd2
  have HEn:=hJ en
  have hp1:p+1<n:=oZ
  have hB:=vz.start w B S Us C T L
  clear hd2 ea hcl hV hb4 hus hfit ha hU en g1 g2 hk
  subst hp
  go_enter Tryz.func135,Tryz.ntmps135
  go_upto_region 1 with fail
  have hw:(((w.alloc (.cells (af B S C T L) 42)).alloc (.cells (six Us) 40)).alloc (.cells #[.int .i64 0,.int .i64 0,.int .i64 0,.int .i64 0,.int .i64 0,.int .i64 0] 40))=(((w.alloc (.cells (af B S C T L) 42)).alloc (.cells (six Us) 40)).alloc (.cells (six fun _=>0) 40)):=rfl
  rw[hw]
  clear hw
  generalize (((w.alloc (.cells (af B S C T L) 42)).alloc (.cells (six Us) 40)).alloc (.cells (six fun _=>0) 40))=w1 at hB ⊢
  have HB:=hJ hB
  clear hB
  go_wp2_with fail
  refine(HC.out _).mono ?_;rintro e w2 ⟨oc,cc,rfl,hc1,hc2,hrc,hb⟩
  have HB:=hJ (HB.out.below hb)
  have HRC:=hJ hrc
  clear hb hrc HC
  go_wp2_with (first
   | (refine yZ rfl 42 (.tmp 7) rfl w.heap.size rfl 42 (af B S C T L) (0,0) _ HB.out.p Tryz.underlying42 rfl (ai _ _ _ _ _) ?_)
   | (refine yZ rfl 40 (.tmp 8) rfl (w.heap.size+1) rfl 40 (six Us) (0,0) _ HB.out.u Tryz.underlying40 rfl (ag _) ?_)
   | fail)
  refine(HT.out _).mono ?_;rintro e w3 ⟨rfl,hb⟩
  have HB:=hJ (HB.out.below hb)
  have HRC:=hJ (HRC.out.below hb)
  clear hb HT
  go_upto_region 3 with (first
   | (refine zZ rfl 40 (.tmp 18) (.tmp 32) rfl w3.heap.size (six V) rfl rfl 40 (six fun _=>0) (nZ w3 _) (ag _) rfl (aX _) ?_)
   | fail)
  rw[World.setRow_alloc_new]
  have hb:=au (w:=w3) (A:=.cells (six V) 40)
  have HV:=hJ (nZ w3 (.cells (six V) 40))
  have hq3:w.heap.size+1+1<w3.heap.size:=by obtain⟨X,h3⟩:=HB.out.r;exact lt_of_heap h3
  have HB:=hJ (HB.out.below hb)
  have HRC:=hJ (HRC.out.below hb)
  generalize w3.alloc (.cells (six V) 40)=w4 at HB HV HRC hb ⊢
  obtain⟨qb,hqe⟩:∃ qb,qb=w3.heap.size:=⟨_,rfl⟩
  rw[<- hqe] at HV hq3 ⊢
  clear hb hqe
  go_wp2_with fail
  refine(HCp.out _ HB.out.low).mono ?_;rintro e w5 ⟨rfl,hrow,hb⟩
  have hqg:qb<w4.heap.size:=lt_of_heap HV.out
  have hBc:=HB.out.low
  obtain⟨g,hg⟩:∃ g,g=w4.heap.size:=⟨_,rfl⟩
  have HLow:=hJ hb
  rw[<- hg] at hrow hqg ⊢
  have HR:=hJ hrow
  have HG:=hJ (And.intro hg hBc.size)
  have f1:=hrow.cell (a:=p+1) (by rw[HEn.out];exact hp1)
  have f2:=hrow.frozen (p+1)
  have hp1b:((p:Int)+1)<(n:Int):=oZ
  have f1b:w5.cell? ⟨g,0+(p+1),none⟩=some (.int .u32 (cs.getD (p+1) 0)):=by rw[Nat.zero_add];exact f1
  clear hrow hb hBc hg
  go_wp2_with fail
  have HR6:=hJ (HR.out.set (a:=p+1) (by rw[HEn.out];exact hp1) (key.size:Int))
  have HLow6:=hJ (low_set HLow.out (show w4.heap.size<=g by have:=HG.out.1;omega) (p+1) (.int .u32 (key.size:Int)))
  clear f1 f2 f1b HR HLow HCp
  generalize w5.setCell ⟨g,p+1,none⟩ (.int .u32 (key.size:Int))=w6 at HR6 HLow6 ⊢
  go_loopg [50] cl (fun r iv wr=>∃ (j q2:Nat) (cs1:List Int),j+r=cl/\iv=.int .i64 (j:Int)/\Hid (dK wr g cs1)/\Hid (cs1.length=n)/\Hid (Below w4.heap.size w4 wr)/\Hid (Does (jK (.store (s+slot) (p:Int) (.ret ((p:Int),V,0))) ((aF (ax key)).drop j) ((p:Int)+2+(j:Int))) cs1 q2 x cs'))
  case atStart=>exact⟨0,q1,_,oZ,rfl,HR6,hJ (by rw[List.length_set];exact HEn.out),HLow6,hJ (by rw[List.drop_zero,show (p:Int)+2+((0:Nat):Int)=(p:Int)+2 by omega];exact HD.out)⟩
  case round =>
   clear HR6 HLow6 HD
   obtain⟨j,q2,cs1,hjr,rfl,HR,HN1,HLow,HD⟩:=hrel
   cases gk with
   | zero =>
    have hjc:cl=j:=oZ
    have hd:=HD.out
    rw[List.drop_eq_nil_of_le (by rw[<- HL.out];omega)] at hd
    unfold jK at hd
    cases hd with
    | store g1 g2 hd2 =>
     obtain⟨_,hcs0,_⟩:=hd2.FP
     obtain⟨z,hz⟩:∃ z:Nat,s+slot=(z:Int):=⟨(s+slot).toNat,oZ⟩
     rw[hz] at g1 g2
     have HCS:=hJ (show cs'=cs1.set z (p:Int) by rw[hcs0,show (s+slot).toNat=z by omega,show u32 (p:Int)=(p:Int) from s5])
     have hz1:z<n:=by rw[<- HN1.out];omega
     have hz2:(z:Int)<(n:Int):=oZ
     have f1:=HR.out.cell (a:=z) (by rw[HN1.out];exact hz1)
     have f2:=HR.out.frozen z
     have HR6:=hJ (HR.out.set (a:=z) (by rw[HN1.out];exact hz1) (p:Int))
     have HLow6:=hJ (low_set HLow.out (show w4.heap.size<=g by have:=HG.out.1;omega) z (.int .u32 (p:Int)))
     rw[hz] at s4
     subst hjc
     clear hd2 HD hjr g1 g2 hcs0
     go_wp2_with fail
     have HB7:=hJ (HB.out.below HLow6.out)
     have HV7:=hJ ((HLow6.out.block _ (lt_of_heap HV.out)).trans HV.out)
     clear f1 f2 HLow HR HB HV HRC
     generalize wr.setCell ⟨g,z,none⟩ (.int .u32 (p:Int))=w7 at HR6 HLow6 HB7 HV7 ⊢
     have hb7:∃ X,w7.heap[w.heap.size+1+1]?=some (.cells (six X) 40 (0,0)):=HB7.out.r
     have HLw:=hJ HB7.out.low
     refine aU (fun(_:Unit) j=>[.slice (some ⟨g,0,none⟩) n n,.int .i64 (p:Int),.agg (six V),.slice (some ⟨g,0,none⟩) n n,.int .i64 (p:Int),undef,.int .i64 0].getD j undef)
      (fun _ l wx=>dK wx g (cs1.set z (p:Int))/\wx.heap[qb]?=some (.cells (six V) 40 (0,0))/\(∃ X,wx.heap[w.heap.size+1+1]?=some (.cells (six X) 40 (0,0)))/\(l 5=true->wx.heap[w.heap.size+1+1]?=some (.cells (six V) 40 (0,0)))/\Below w.heap.size w wx)
      kZ kZ pZ () ?_ ?_ ?_
     ·exact⟨HR6.out.drew,HV7.out,hb7,(fun h=>by cases h),HLw.out.drew⟩
     ·intro i o ho q' l wx hR hl he K hK
      rcases i with _|_|_|_|_|_|_|i
      any_goals first | (cases ho;go_simp;exact hK () wx (fun _ _=>rfl) hR;done) | fail
      ·cases ho
       refine wp_load_row 40 (.tmp 18) rfl qb rfl 40 (six V) (0,0) _ hR.2.1 Tryz.underlying40 rfl (ag _) ?_
       exact hK () wx (fun _ _=>rfl) hR
      ·cases ho
       obtain⟨X,hX⟩:=hR.2.2.1
       refine wp_store_row 40 (.tmp 14) (.tmp 73) rfl (w.heap.size+1+1) (six V) rfl rfl 40 (six X) hX (ag _) (bg _ _) (aX _) ?_
       have hs:=setRow_heap wx (w.heap.size+1+1) _ (six V) _ _ hX
       exact hK () _ (fun _ _=>rfl) ⟨hR.1.of_block (qZ _ _ _ _ oZ),(qZ _ _ _ _ oZ).trans hR.2.1,⟨_,hs⟩,(fun _=>hs),below_setRow hR.2.2.2.2 oZ _⟩
      ·simp at ho
     ·intro q' l wx hl hR
      have H4:Hid (wx.heap[w.heap.size+1+1]?=some (.cells (six V) 40 (0,0))):=hJ (hR.2.2.2.1 (hl 5 dZ))
      have HRX:=hJ (And.intro hR.1 hR.2.2.2.2)
      clear hR hl hb7
      go_wp2_with fail
      refine tZ (v:=.tuple #[.slice (some ⟨g,0,none⟩) n n,.int .i64 (p:Int),.agg (six V),.int .i64 0]) (lu rfl _ _ (w.heap.size+1+1) _ _ (0,0) _ _ _ _ rfl rfl rfl rfl H4.out Tryz.underlying40 rfl (ag _)) rfl ?_
      exact⟨g,rfl,by rw[HCS.out];exact HRX.out.1,HRX.out.2,by have:=HG.out;omega⟩
   | succ r =>
    have hjc:j<cl:=oZ
    have hjc1:(j:Int)<(cl:Int):=oZ
    obtain⟨y,hy⟩:∃ y,(aF (ax key))[j]?=some y:=⟨_,gZ (by rw[<- HL.out];exact hjc)⟩
    have hy32:=HLt.out y (List.mem_of_getElem? hy)
    obtain⟨gb,ob,rfl,hcell⟩:=HRC.out.below HLow.out j y hy
    have hd:=HD.out
    rw[show (aF (ax key)).drop j=y :: (aF (ax key)).drop (j+1) by
     have hlt:=(eZ.1 hy).1
     rw[List.drop_eq_getElem_cons hlt,(eZ.1 hy).2]] at hd
    unfold jK at hd
    cases hd with
    | store g1 g2 hd2 =>
     rename_i q3
     obtain⟨z,hz⟩:∃ z:Nat,(p:Int)+2+(j:Int)=(z:Int):=⟨p+2+j,oZ⟩
     rw[show u32 (y:Int)=(y:Int) from u32_in ⟨oZ,oZ⟩] at hd2
     have HD2:=hJ (show Does (jK (.store (s+slot) (p:Int) (.ret ((p:Int),V,0))) ((aF (ax key)).drop (j+1)) ((p:Int)+2+((j+1:Nat):Int))) (cs1.set z (y:Int)) q3 x cs' by
      rw[show ((p:Int)+2+(j:Int)).toNat=z by omega,show (p:Int)+2+(j:Int)+1=(p:Int)+2+((j+1:Nat):Int) by omega] at hd2
      exact hd2)
     rw[hz] at g1 g2
     have hz1:z<n:=by rw[<- HN1.out];omega
     have hz2:(z:Int)<(n:Int):=oZ
     have f1:=HR.out.cell (a:=z) (by rw[HN1.out];exact hz1)
     have f2:=HR.out.frozen z
     have f3:IntKind.i64.wrap ((p:Int)+2+(j:Int))=(z:Int):=by rw[hz];exact iZ _ oZ
     have HR6:=hJ (HR.out.set (a:=z) (by rw[HN1.out];exact hz1) (y:Int))
     have HLow6:=hJ (low_set HLow.out (show w4.heap.size<=g by have:=HG.out.1;omega) z (.int .u32 (y:Int)))
     have HN2:=hJ (show (cs1.set z (y:Int)).length=n by rw[List.length_set];exact HN1.out)
     clear hd2 HD g1 g2 hy hz HN1 HR HLow hy32
     go_wp2_with fail
     go_roundg r
     case measure=>omega
     case rel=>exact⟨j+1,q3,_,oZ,by go_num,HR6,HN2,HLow6,HD2⟩
end Go.Proofs.YtlfndoclbebdaaaGreatDoor
