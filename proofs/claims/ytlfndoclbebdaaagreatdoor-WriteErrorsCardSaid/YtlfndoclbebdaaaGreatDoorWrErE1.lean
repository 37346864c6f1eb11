/-
 What stage 12 rests on.
-/
import Derived.Test.YtlfndoclbebdaaaGreatDoorWrErA1
import Derived.Test.YtlfndoclbebdaaaGreatDoorWrErD5
import Derived.Test.YtlfndoclbebdaaaGreatDoorWrErC2
import Derived.Test.YtlfndoclbebdaaaGreatDoorWrErB4
import Derived.Test.YtlfndoclbebdaaaGreatDoorWrErC1
set_option maxRecDepth 100000
set_option maxHeartbeats 16000000
namespace Go.Proofs.YtlfndoclbebdaaaGreatDoor
open Go.RowKit
theorem Jc (w:World) (oa:Option Addr) (c n:Nat) (cs:List Int) (en:cs.length=n) (hn:n<=1000000) (hU:∀ y∈cs,U y) (ha:dH .u32 w oa (jB cs)) (b:Int) (m:Nat) (id:Int) (b0:0<=b) (hl:b+4*(m:Int)<=cs.length) :
  Calls Tryz.prog 129 #[.slice oa n c,.int .i64 b,.int .i64 (m:Int),.int .u32 id] w fun e w'=>e=.returned (.tuple #[.int .i64 (kD cs b m id),.bool true])/\Below w.heap.size w w':=by
 have HAt:=hJ (fun(w':World) (hb:Below w.heap.size w w') (j:Int) (k0:0<=j) (k1:j<cs.length)=>Hy w' oa c n cs en hU (ha.below hb) j k0 k1)
 have HF0:=hJ (show mM cs b id m 0=kD cs b m id from rfl)
 obtain⟨fz,hfz⟩:∃ fz,fz=kD cs b m id:=⟨_,rfl⟩
 rw[<- hfz] at HF0 ⊢
 have HEn:=hJ en
 clear hU ha hfz
 go_enter Tryz.func129,Tryz.ntmps129
 go_wp2_with fail
 go_loopg [10] m (fun g iv wr=>∃ (t:Nat),t+g=m/\iv=.int .i64 (t:Int)/\Hid (mM cs b id g t=fz)/\Hid (Below w.heap.size w wr))
 case atStart=>exact⟨0,oZ,rfl,HF0,hJ (Below.refl _ _)⟩
 case round =>
  clear HF0
  obtain⟨t,htg,rfl,HF,HB⟩:=hrel
  cases gk with
  | zero =>
   have htm:t=m:=oZ
   have hf:=HF.out
   unfold mM at hf
   subst htm hf
   clear HF htg
   go_wp2_with fail
   go_ret2
   exact⟨rfl,HB.out⟩
  | succ g =>
   have htm:t<m:=oZ
   have htm1:(t:Int)<(m:Int):=oZ
   have hlen:=HEn.out
   have HA:=hJ (HAt.out _ HB.out (b+4*(t:Int)+1) oZ oZ)
   have s1:IntKind.i64.wrap (4*(t:Int))=4*(t:Int):=iZ _ oZ
   have s2:IntKind.i64.wrap (b+4*(t:Int))=b+4*(t:Int):=iZ _ oZ
   have s3:IntKind.i64.wrap (b+4*(t:Int)+1)=b+4*(t:Int)+1:=iZ _ oZ
   have hf:=HF.out
   unfold mM at hf
   obtain⟨y,hy⟩:∃ y,y=bK cs (b+4*(t:Int)+1):=⟨_,rfl⟩
   rw[<- hy] at hf
   rw[show cs.getD (b+4*(t:Int)+1).toNat 0=y from hy.symm] at HA
   clear hy hlen HF
   by_cases hyx:y=id
   ·rw[if_pos hyx] at hf
    have b1:(y==id)=true:=by simpa using hyx
    subst hf
    clear hyx
    go_wp2_with fail
    refine HA.out.mono ?_;rintro e w3 ⟨rfl,hb3⟩
    have HB3:=hJ (ah HB.out hb3)
    clear hb3 HA
    go_wp2_with fail
    go_ret2
    exact⟨rfl,HB3.out⟩
   ·rw[if_neg hyx] at hf
    have HF:=hJ hf
    have b1:(y==id)=false:=by simpa using hyx
    clear hyx hf
    go_wp2_with fail
    refine HA.out.mono ?_;rintro e w3 ⟨rfl,hb3⟩
    have HB3:=hJ (ah HB.out hb3)
    clear hb3 HA
    go_wp2_with fail
    go_roundg g
    case measure=>omega
    case rel=>exact⟨t+1,oZ,by go_num,HF,HB3⟩
theorem Kw (cs:List Int) (a:Nat) (id l v:Int):((cs.set a v).set (a+1) id).set (a+2) l=((cs.set (a+1) id).set (a+2) l).set a v:=by
 rw[List.set_comm v id (show a≠a+1 by omega),List.set_comm v l (show a≠a+2 by omega)]
theorem LC (w:World) (oa:Option Addr) (c n:Nat) (cs:List Int) (en:cs.length=n) (hn:n<=1000000) (hU:∀ y∈cs,U y) (ha:dH .u32 w oa (jB cs)) (b:Int) (d:Nat) (id l v:Int) (b0:0<=b) (hl:b+4*(d:Int)+3<cs.length) :
  Calls Tryz.prog 99 #[.slice oa n c,.int .i64 b,.int .i64 (d:Int),.int .u32 id,.int .u32 l,.int .u32 v] w fun e w'=>∃ g,e=.returned (.tuple #[.slice (some ⟨g,0,none⟩) n n,.bool true])/\dK w' g (xu cs b d id l v)/\Below w.heap.size w w'/\w.heap.size<=g:=by
 have HCp:=hJ (fun(w':World) (hb:Below w.heap.size w w')=>nK w' oa c n cs en hn hU (ha.below hb))
 obtain⟨a,hae⟩:∃ a:Nat,b+4*(d:Int)=(a:Int):=⟨(b+4*(d:Int)).toNat,oZ⟩
 have HLay:=hJ (show xu cs b d id l v=((cs.set a v).set (a+1) id).set (a+2) l by
  unfold xu
  rw[hae,show ((a:Int)+1).toNat=a+1 by omega,show ((a:Int)+2).toNat=a+2 by omega,Int.toNat_natCast,Kw])
 rw[HLay.out]
 have s1:IntKind.i64.wrap (4*(d:Int))=4*(d:Int):=iZ _ oZ
 have s2:IntKind.i64.wrap (b+4*(d:Int))=(a:Int):=by rw[hae];exact iZ _ oZ
 have s3:IntKind.i64.wrap ((a:Int)+1)=(a:Int)+1:=iZ _ oZ
 have s4:IntKind.i64.wrap ((a:Int)+2)=(a:Int)+2:=iZ _ oZ
 have s5:IntKind.i64.wrap ((a:Int)+0)=(a:Int):=by rw[Int.add_zero];exact iZ _ oZ
 have z0:a+3<n:=oZ
 have z1:(a:Int)<(n:Int):=oZ
 have z2:(a:Int)+1<(n:Int):=oZ
 have z3:(a:Int)+2<(n:Int):=oZ
 have HEn:=hJ en
 clear hU ha HLay hl en hae b0
 go_enter Tryz.func99,Tryz.ntmps99
 go_upto_region 2 with fail
 have HA1:=hJ (nZ w (.cells #[.int .u32 v,.int .u32 id,.int .u32 l] 240))
 have HLw:=hJ (au (w:=w) (A:=.cells #[.int .u32 v,.int .u32 id,.int .u32 l] 240))
 generalize w.alloc (.cells #[.int .u32 v,.int .u32 id,.int .u32 l] 240)=w3 at HA1 HLw ⊢
 go_wp2_with fail
 have HA:Hid (w3.heap[w.heap.size]?=some (.cells #[.int .u32 v,.int .u32 id,.int .u32 l] 240 (0,0))):=HA1
 refine(HCp.out _ HLw.out).mono ?_;rintro e w5 ⟨rfl,hrow,hb⟩
 obtain⟨w4,hw4⟩:∃ w4,w4=w3:=⟨_,rfl⟩
 rw[<- hw4] at HA HLw hrow hb ⊢
 obtain⟨g,hg⟩:∃ g,g=w4.heap.size:=⟨_,rfl⟩
 rw[<- hg] at hrow ⊢
 have HR5:=hJ hrow
 have HLow5:=hJ hb
 have HG:=hJ (And.intro hg hg)
 clear hrow hb hg hw4 HA1 HCp
 go_wp2_with fail
 go_loopg [16] 3 (fun r iv wr=>∃ (t:Nat),t+r=3/\iv=.int .i64 (t:Int)/\Hid (dK wr g (match t with | 0=>cs | 1=>cs.set a v | 2=>(cs.set a v).set (a+1) id | _=>((cs.set a v).set (a+1) id).set (a+2) l))/\Hid (Below w4.heap.size w4 wr))
 case atStart=>exact⟨0,oZ,rfl,HR5,HLow5⟩
 case round =>
  clear HR5 HLow5
  obtain⟨t,htr,rfl,HR,HLow⟩:=hrel
  cases gk with
  | zero =>
   have ht:t=3:=oZ
   subst ht
   go_wp2_with fail
   go_ret2
   exact⟨g,rfl,HR.out,ah HLw.out HLow.out,by have h1:=HG.out.1;have h2:=HLw.out.size;omega⟩
  | succ g2 =>
   rcases (show t=0∨t=1∨t=2 by omega) with rfl | rfl | rfl
   ·have hg2:g2=2:=oZ
    subst hg2
    have hrow:=HR.out
    have f1:=hrow.cell (a:=a) (by simp only[HEn.out];omega)
    have f2:=hrow.frozen (a)
    have HR6:=hJ (hrow.set (a:=a) (by simp only[HEn.out];omega) v)
    have HLow6:=hJ (low_set HLow.out (show w4.heap.size<=g by have:=HG.out.1;omega) (a) (.int .u32 v))
    have c1:wr.cell? ⟨w.heap.size,0,none⟩=some (.int .u32 v):=ae ((HLow.out.block _ (lt_of_heap HA.out)).trans HA.out) 0
    clear hrow HR HLow
    go_wp2_with fail
    go_roundg 2
    case measure=>omega
    case rel=>exact⟨1,oZ,by go_num,HR6,HLow6⟩
   ·have hg2:g2=1:=oZ
    subst hg2
    have hrow:=HR.out
    have f1:=hrow.cell (a:=a+1) (by simp only[List.length_set,HEn.out];omega)
    have f2:=hrow.frozen (a+1)
    have HR6:=hJ (hrow.set (a:=a+1) (by simp only[List.length_set,HEn.out];omega) id)
    have HLow6:=hJ (low_set HLow.out (show w4.heap.size<=g by have:=HG.out.1;omega) (a+1) (.int .u32 id))
    have c1:wr.cell? ⟨w.heap.size,1,none⟩=some (.int .u32 id):=ae ((HLow.out.block _ (lt_of_heap HA.out)).trans HA.out) 1
    clear hrow HR HLow
    go_wp2_with fail
    go_roundg 1
    case measure=>omega
    case rel=>exact⟨2,oZ,by go_num,HR6,HLow6⟩
   ·have hg2:g2=0:=oZ
    subst hg2
    have hrow:=HR.out
    have f1:=hrow.cell (a:=a+2) (by simp only[List.length_set,HEn.out];omega)
    have f2:=hrow.frozen (a+2)
    have HR6:=hJ (hrow.set (a:=a+2) (by simp only[List.length_set,HEn.out];omega) l)
    have HLow6:=hJ (low_set HLow.out (show w4.heap.size<=g by have:=HG.out.1;omega) (a+2) (.int .u32 l))
    have c1:wr.cell? ⟨w.heap.size,2,none⟩=some (.int .u32 l):=ae ((HLow.out.block _ (lt_of_heap HA.out)).trans HA.out) 2
    clear hrow HR HLow
    go_wp2_with fail
    go_roundg 0
    case measure=>omega
    case rel=>exact⟨3,oZ,by go_num,HR6,HLow6⟩
/-! ### What a version sees -/
def df (cs:List Int) (id:Int):Nat->List Sg->Int×Int×Bool
 | _,[]=>(0,0,false)
 | i,s :: l=>if 0<=kD cs (dN s) s.2.1.toNat id then((i:Int),kD cs (dN s) s.2.1.toNat id,true) else df cs id (i+1) l
def wX (cs:List Int) (s:Sg):Prop:=0<=s.1/\s.1<=1000000/\0<=s.2.1/\dN s+4*s.2.1<=cs.length
theorem kG (w:World) (oa:Option Addr) (c n:Nat) (cs:List Int) (en:cs.length=n) (hn:n<=1000000) (hU:∀ y∈cs,U y) (ha:dH .u32 w oa (jB cs)) (og:Option Addr) (gn gc:Nat) (x:Sx) (eg:x.aH.length=gn) (hg:gy w og x.aH) (hgl:gn<=1000) (hin:∀ s∈x.aH,wX cs s) (id:Int) :
  Calls Tryz.prog 90 #[.agg (aK (.slice oa n c) (.slice og gn gc) x),.int .u32 id] w fun e w'=>e=.returned (.tuple #[.int .i64 (df cs id 0 x.aH).1,.int .i64 (df cs id 0 x.aH).2.1,.bool (df cs id 0 x.aH).2.2])/\Below w.heap.size w w':=by
 have HFind:=hJ (fun(w':World) (hb:Below w.heap.size w w') (b:Int) (m:Nat) (b0:0<=b) (hl:b+4*(m:Int)<=cs.length)=>Jc w' oa c n cs en hn hU (ha.below hb) b m id b0 hl)
 have HG:=hJ hg
 have HIn:=hJ hin
 have HEg:=hJ eg
 obtain⟨Z,hZ⟩:∃ Z,Z=df cs id 0 x.aH:=⟨_,rfl⟩
 rw[<- hZ]
 have HF0:=hJ (show df cs id 0 (x.aH.drop 0)=Z from hZ.symm)
 have HEn:=hJ en
 clear hU ha hg hin hZ eg en
 go_enter Tryz.func90,Tryz.ntmps90
 go_upto_region 1 with fail
 have HX:=hJ (nZ w (.cells (aK (.slice oa n c) (.slice og gn gc) x) 49))
 have hb1:=au (w:=w) (A:=.cells (aK (.slice oa n c) (.slice og gn gc) x) 49)
 have HB1:=hJ hb1
 have c1:(w.alloc (.cells (aK (.slice oa n c) (.slice og gn gc) x) 49)).cell? ⟨w.heap.size,1,none⟩=some (.slice og gn gc):=ae HX.out 1
 generalize w.alloc (.cells (aK (.slice oa n c) (.slice og gn gc) x) 49)=w1 at HX HB1 c1 ⊢
 clear hb1
 go_wp2_with fail
 go_loopg [15] gn (fun g iv wr=>∃ i:Nat,i+g=gn/\iv=.int .i64 (i:Int)/\Hid (wr.heap[w.heap.size]?=some (.cells (aK (.slice oa n c) (.slice og gn gc) x) 49 (0,0)))/\Hid (Below w.heap.size w wr)/\Hid (df cs id i (x.aH.drop i)=Z))
 case atStart=>exact⟨0,oZ,rfl,HX,HB1,HF0⟩
 case round =>
  clear HF0 HB1 HX c1
  obtain⟨i,hig,rfl,HX,HB,HF⟩:=hrel
  cases gk with
  | zero =>
   have hi:gn=i:=oZ
   have hf:=HF.out
   rw[List.drop_eq_nil_of_le (by rw[HEg.out];omega)] at hf
   unfold df at hf
   subst hf hi
   clear HF hig
   go_wp2_with fail
   refine tZ (v:=.tuple #[.int .i64 0,.int .i64 0,.bool false]) (by simp[results,Tryz.results90,go_sem]) rfl ⟨rfl,HB.out⟩
  | succ g =>
   have hi:i<gn:=oZ
   have hi1:(i:Int)<(gn:Int):=oZ
   obtain⟨s,hs⟩:∃ s,x.aH[i]?=some s:=⟨_,gZ (by rw[HEg.out];exact hi)⟩
   obtain⟨gb,ob,rfl,k1,k2,k3⟩:=HG.out.below HB.out i s hs
   have hsin:=HIn.out s (List.mem_of_getElem? hs)
   have hf:=HF.out
   rw[show x.aH.drop i=s :: x.aH.drop (i+1) by
    have hlt:=(eZ.1 hs).1
    rw[List.drop_eq_getElem_cons hlt,(eZ.1 hs).2]] at hf
   unfold df at hf
   have c1:wr.cell? ⟨w.heap.size,1,none⟩=some (.slice (some ⟨gb,ob,none⟩) gn gc):=ae HX.out 1
   have c0:wr.cell? ⟨w.heap.size,0,none⟩=some (.slice oa n c):=ae HX.out 0
   go_upto_region 5 with fail
   obtain⟨sa,sd,sz⟩:=s
   obtain⟨s,hse⟩:∃ s:Sg,s=(sa,sd,sz):=⟨_,rfl⟩
   rw[show sa=s.1 by rw[hse],show sd=s.2.1 by rw[hse],show sz=s.2.2 by rw[hse]]
   rw[<- hse] at hsin hf
   obtain⟨t1,t2,t3,t4⟩:=hsin
   have HBase:=hJ (fun w=>yT w s oZ oZ)
   obtain⟨m,hm⟩:=Int.eq_ofNat_of_zero_le t3
   rw[hm,Int.toNat_natCast] at hf
   rw[hm] at t4
   have hb0:0<=dN s:=by unfold dN;split <;> omega
   have HFd0:=hJ (fun w' hb=>HFind.out w' hb (dN s) m hb0 t4)
   obtain⟨fz,hfz⟩:∃ fz,fz=kD cs (dN s) m id:=⟨_,rfl⟩
   rw[<- hfz] at HFd0 hf
   obtain⟨bz,hbz⟩:∃ bz,bz=dN s:=⟨_,rfl⟩
   rw[<- hbz] at HFd0 HBase
   have HFd:Hid (∀ w',Below w.heap.size w w'->Calls Tryz.prog 129 #[.slice oa n c,.int .i64 bz,.int .i64 s.2.1,.int .u32 id] w' fun e w2=>e=.returned (.tuple #[.int .i64 fz,.bool true])/\Below w'.heap.size w' w2):=by rw[hm];exact HFd0
   have HF2:=hJ hf
   have HQ:=hJ (nZ wr (.cells #[.int .i64 s.1,.int .i64 s.2.1,.bool s.2.2] 65))
   have hb5:=au (w:=wr) (A:=.cells #[.int .i64 s.1,.int .i64 s.2.1,.bool s.2.2] 65)
   have HB5:=hJ (ah HB.out hb5)
   have HX5:=hJ ((hb5.block _ (lt_of_heap HX.out)).trans HX.out)
   generalize wr.alloc (.cells #[.int .i64 s.1,.int .i64 s.2.1,.bool s.2.2] 65)=w5 at HQ HB5 HX5 ⊢
   obtain⟨qb,hqb⟩:∃ qb,qb=wr.heap.size:=⟨_,rfl⟩
   rw[<- hqb] at HQ ⊢
   clear hb5 hqb hf hs hse k1 k2 k3 c1 c0 HF hm t1 t2 t3 t4 hb0 hfz hbz HFd0 HX HB sa sd sz
   go_cut [9,10] (fun dv ov wx=>dv=.int .i64 fz/\ov=.bool true/\Hid (wx.heap[w.heap.size]?=some (.cells (aK (.slice oa n c) (.slice (some ⟨gb,ob,none⟩) gn gc) x) 49 (0,0)))/\Hid (Below w.heap.size w wx))
   case first =>
    refine aU (fun(_:Unit) j=>[.pointer (some ⟨w.heap.size,0,none⟩),.slice oa n c,.agg #[.int .i64 s.1,.int .i64 s.2.1,.bool s.2.2],.int .i64 bz,.pointer (some ⟨qb,1,none⟩),.int .i64 s.2.1,.int .u32 id,.tuple #[.int .i64 fz,.bool true],.tuple #[.int .i64 fz,.bool true],.int .i64 fz,.bool true,.int .i64 fz,.bool true].getD j undef)
     (fun _ _ wx=>Below w.heap.size w wx/\wx.heap[w.heap.size]?=some (.cells (aK (.slice oa n c) (.slice (some ⟨gb,ob,none⟩) gn gc) x) 49 (0,0))/\wx.heap[qb]?=some (.cells #[.int .i64 s.1,.int .i64 s.2.1,.bool s.2.2] 65 (0,0)))
     kZ kZ pZ () ?_ ?_ ?_
    ·exact⟨HB5.out.drew,HX5.out,HQ.out⟩
    ·intro i o ho q' l wx hR hl he K hK
     have hbel:∀ w2:World,Below wx.heap.size wx w2->Below w.heap.size w w2/\w2.heap[w.heap.size]?=some (.cells (aK (.slice oa n c) (.slice (some ⟨gb,ob,none⟩) gn gc) x) 49 (0,0))/\w2.heap[qb]?=some (.cells #[.int .i64 s.1,.int .i64 s.2.1,.bool s.2.2] 65 (0,0)):=fun w2 hb2=>⟨ah hR.1 hb2,(hb2.block _ (lt_of_heap hR.2.1)).trans hR.2.1,(hb2.block _ (lt_of_heap hR.2.2)).trans hR.2.2⟩
     rcases i with _|_|_|_|_|_|_|_|_|_|_|_|_|i
     any_goals first | (cases ho;go_simp;exact hK () wx (fun _ _=>rfl) hR;done) | fail
     ·cases ho
      have c0:wx.cell? ⟨w.heap.size,0,none⟩=some (.slice oa n c):=ae hR.2.1 0
      go_simp
      exact hK () wx (fun _ _=>rfl) hR
     ·cases ho
      refine wp_load_row 65 (.tmp 8) rfl qb rfl 65 #[.int .i64 s.1,.int .i64 s.2.1,.bool s.2.2] (0,0) _ hR.2.2 Tryz.underlying65 rfl (xM s) ?_
      exact hK () wx (fun _ _=>rfl) hR
     ·cases ho
      go_simp
      refine(HBase.out wx).mono ?_;rintro e w2 ⟨rfl,hb2⟩
      exact hK () w2 (fun _ _=>rfl) (hbel w2 hb2)
     ·cases ho
      have c5:wx.cell? ⟨qb,1,none⟩=some (.int .i64 s.2.1):=ae hR.2.2 1
      go_simp
      exact hK () wx (fun _ _=>rfl) hR
     ·cases ho
      go_simp
      refine(HFd.out wx hR.1).mono ?_;rintro e w2 ⟨rfl,hb2⟩
      exact hK () w2 (fun _ _=>rfl) (hbel w2 hb2)
     ·simp at ho
    ·intro q' l wx hl hR
     have HR1:=hJ hR.2.1
     have HR2:=hJ hR.1
     clear hR hl
     go_wp2_with fail
     go_meet
     exact⟨rfl,rfl,HR1,HR2⟩
   case rest =>
    clear HX5 HB5 HQ
    obtain⟨rfl,rfl,HX,HB⟩:=hcut
    by_cases hz:0<=fz
    ·have hf:=HF2.out
     rw[if_pos hz] at hf
     subst hf
     clear HF2
     go_wp2_with fail
     refine tZ (v:=.tuple #[.int .i64 (i:Int),.int .i64 fz,.bool true]) (by simp[results,Tryz.results90,go_sem]) rfl ⟨rfl,HB.out⟩
    ·have hf:=HF2.out
     rw[if_neg hz] at hf
     have HF:=hJ hf
     clear HF2 hf
     go_wp2_with fail
     go_roundg g
     case measure=>omega
     case rel=>exact⟨i+1,oZ,by go_num,HX,HB,HF⟩
end Go.Proofs.YtlfndoclbebdaaaGreatDoor
