/-
 What stage 12 rests on.
-/
import Derived.Test.YtafaohnhlgcnpaaGreatDoorWrAlD5
set_option maxRecDepth 100000
set_option maxHeartbeats 16000000
namespace Go.Proofs.YtafaohnhlgcnpaaGreatDoor
open Go.RowKit
theorem F6 (w:World) (oa:Option Addr) (c n:Nat) (cs:List Int) (en:cs.length=n) (hn:n<=1000000) (hU:∀ y∈cs,U y) (ha:bQ .u32 w oa (gQ cs)) (b:Int) (m:Nat) (id:Int) (b0:0<=b) (hl:b+4*(m:Int)<=cs.length) :
  Calls Tryz.prog 129 #[.slice oa n c,.int .i64 b,.int .i64 (m:Int),.int .u32 id] w fun e w'=>e=.returned (.tuple #[.int .i64 (iU cs b m id),.bool true])/\Below w.heap.size w w':=by
 have HAt:=hJ (fun(w':World) (hb:Below w.heap.size w w') (j:Int) (k0:0<=j) (k1:j<cs.length)=>yT w' oa c n cs en hU (ha.below hb) j k0 k1);have HF0:=hJ (show kR cs b id m 0=iU cs b m id from rfl);obtain⟨fz,hfz⟩:∃ fz,fz=iU cs b m id:=⟨_,rfl⟩;rw[<- hfz] at HF0 ⊢;have HEn:=hJ en;clear hU ha hfz;go_enter Tryz.func129,Tryz.ntmps129
 go_wp2_with fail
 go_loopg [10] m (fun g iv wr=>∃ (t:Nat),t+g=m/\iv=.int .i64 (t:Int)/\Hid (kR cs b id g t=fz)/\Hid (Below w.heap.size w wr))
 case atStart=>exact⟨0,oZ,rfl,HF0,hJ (Below.refl _ _)⟩
 case round =>
  clear HF0;obtain⟨t,htg,rfl,HF,HB⟩:=hrel;cases gk with
  | zero =>
   have htm:t=m:=oZ;have hf:=HF.out;unfold kR at hf;subst htm hf;clear HF htg;go_wp2_with fail
   go_ret2
   exact⟨rfl,HB.out⟩
  | succ g =>
   have htm:t<m:=oZ;have htm1:(t:Int)<(m:Int):=oZ;have hlen:=HEn.out;have HA:=hJ (HAt.out _ HB.out (b+4*(t:Int)+1) oZ oZ);have s1:IntKind.i64.wrap (4*(t:Int))=4*(t:Int):=iZ _ oZ;have s2:IntKind.i64.wrap (b+4*(t:Int))=b+4*(t:Int):=iZ _ oZ;have s3:IntKind.i64.wrap (b+4*(t:Int)+1)=b+4*(t:Int)+1:=iZ _ oZ;have hf:=HF.out;unfold kR at hf;obtain⟨y,hy⟩:∃ y,y=bA cs (b+4*(t:Int)+1):=⟨_,rfl⟩;rw[<- hy] at hf;rw[show cs.getD (b+4*(t:Int)+1).toNat 0=y from hy.symm] at HA;clear hy hlen HF;by_cases hyx:y=id
   ·rw[if_pos hyx] at hf;have b1:(y==id)=true:=by simpa using hyx
    subst hf;clear hyx;go_wp2_with fail
    refine HA.out.mono ?_;rintro e w3 ⟨rfl,hb3⟩;have HB3:=hJ (ag HB.out hb3);clear hb3 HA;go_wp2_with fail
    go_ret2
    exact⟨rfl,HB3.out⟩
   ·rw[if_neg hyx] at hf;have HF:=hJ hf;have b1:(y==id)=false:=by simpa using hyx
    clear hyx hf;go_wp2_with fail
    refine HA.out.mono ?_;rintro e w3 ⟨rfl,hb3⟩;have HB3:=hJ (ag HB.out hb3);clear hb3 HA;go_wp2_with fail
    go_roundg g
    case measure=>omega
    case rel=>exact⟨t+1,oZ,by go_num,HF,HB3⟩
theorem Fv (cs:List Int) (a:Nat) (id l v:Int):((cs.set a v).set (a+1) id).set (a+2) l=((cs.set (a+1) id).set (a+2) l).set a v:=by
 rw[List.set_comm v id (show a≠a+1 by omega),List.set_comm v l (show a≠a+2 by omega)]
theorem JW (w:World) (oa:Option Addr) (c n:Nat) (cs:List Int) (en:cs.length=n) (hn:n<=1000000) (hU:∀ y∈cs,U y) (ha:bQ .u32 w oa (gQ cs)) (b:Int) (d:Nat) (id l v:Int) (b0:0<=b) (hl:b+4*(d:Int)+3<cs.length) :
  Calls Tryz.prog 99 #[.slice oa n c,.int .i64 b,.int .i64 (d:Int),.int .u32 id,.int .u32 l,.int .u32 v] w fun e w'=>∃ g,e=.returned (.tuple #[.slice (some ⟨g,0,none⟩) n n,.bool true])/\cB w' g (uK cs b d id l v)/\Below w.heap.size w w'/\w.heap.size<=g:=by
 have HCp:=hJ (fun(w':World) (hb:Below w.heap.size w w')=>lQ w' oa c n cs en hn hU (ha.below hb));obtain⟨a,hae⟩:∃ a:Nat,b+4*(d:Int)=(a:Int):=⟨(b+4*(d:Int)).toNat,oZ⟩
 have HLay:=hJ (show uK cs b d id l v=((cs.set a v).set (a+1) id).set (a+2) l by
  unfold uK;rw[hae,show ((a:Int)+1).toNat=a+1 by omega,show ((a:Int)+2).toNat=a+2 by omega,Int.toNat_natCast,Fv])
 rw[HLay.out];have s1:IntKind.i64.wrap (4*(d:Int))=4*(d:Int):=iZ _ oZ;have s2:IntKind.i64.wrap (b+4*(d:Int))=(a:Int):=by rw[hae];exact iZ _ oZ
 have s3:IntKind.i64.wrap ((a:Int)+1)=(a:Int)+1:=iZ _ oZ;have s4:IntKind.i64.wrap ((a:Int)+2)=(a:Int)+2:=iZ _ oZ;have s5:IntKind.i64.wrap ((a:Int)+0)=(a:Int):=by rw[Int.add_zero];exact iZ _ oZ
 have z0:a+3<n:=oZ;have z1:(a:Int)<(n:Int):=oZ;have z2:(a:Int)+1<(n:Int):=oZ;have z3:(a:Int)+2<(n:Int):=oZ;have HEn:=hJ en;clear hU ha HLay hl en hae b0;go_enter Tryz.func99,Tryz.ntmps99
 go_upto_region 2 with fail
 have HA1:=hJ (nZ w (.cells #[.int .u32 v,.int .u32 id,.int .u32 l] 240));have HLw:=hJ (aj (w:=w) (A:=.cells #[.int .u32 v,.int .u32 id,.int .u32 l] 240));generalize w.alloc (.cells #[.int .u32 v,.int .u32 id,.int .u32 l] 240)=w3 at HA1 HLw ⊢;go_wp2_with fail
 have HA:Hid (w3.heap[w.heap.size]?=some (.cells #[.int .u32 v,.int .u32 id,.int .u32 l] 240 (0,0))):=HA1;refine(HCp.out _ HLw.out).mono ?_;rintro e w5 ⟨rfl,hrow,hb⟩;obtain⟨w4,hw4⟩:∃ w4,w4=w3:=⟨_,rfl⟩;rw[<- hw4] at HA HLw hrow hb ⊢;obtain⟨g,hg⟩:∃ g,g=w4.heap.size:=⟨_,rfl⟩;rw[<- hg] at hrow ⊢;have HR5:=hJ hrow;have HLow5:=hJ hb;have HG:=hJ (And.intro hg hg);clear hrow hb hg hw4 HA1 HCp;go_wp2_with fail
 go_loopg [16] 3 (fun r iv wr=>∃ (t:Nat),t+r=3/\iv=.int .i64 (t:Int)/\Hid (cB wr g (match t with | 0=>cs | 1=>cs.set a v | 2=>(cs.set a v).set (a+1) id | _=>((cs.set a v).set (a+1) id).set (a+2) l))/\Hid (Below w4.heap.size w4 wr))
 case atStart=>exact⟨0,oZ,rfl,HR5,HLow5⟩
 case round =>
  clear HR5 HLow5;obtain⟨t,htr,rfl,HR,HLow⟩:=hrel;cases gk with
  | zero =>
   have ht:t=3:=oZ;subst ht;go_wp2_with fail
   go_ret2
   exact⟨g,rfl,HR.out,ag HLw.out HLow.out,by have h1:=HG.out.1;have h2:=HLw.out.size;omega⟩
  | succ g2 =>
   rcases (show t=0∨t=1∨t=2 by omega) with rfl | rfl | rfl
   ·have hg2:g2=2:=oZ;subst hg2;have hrow:=HR.out;have f1:=hrow.cell (a:=a) (by simp only[HEn.out];omega);have f2:=hrow.frozen (a);have HR6:=hJ (hrow.set (a:=a) (by simp only[HEn.out];omega) v);have HLow6:=hJ (dD HLow.out (show w4.heap.size<=g by have:=HG.out.1;omega) (a) (.int .u32 v));have c1:wr.cell? ⟨w.heap.size,0,none⟩=some (.int .u32 v):=aa ((HLow.out.block _ (lt_of_heap HA.out)).trans HA.out) 0;clear hrow HR HLow;go_wp2_with fail
    go_roundg 2
    case measure=>omega
    case rel=>exact⟨1,oZ,by go_num,HR6,HLow6⟩
   ·have hg2:g2=1:=oZ;subst hg2;have hrow:=HR.out;have f1:=hrow.cell (a:=a+1) (by simp only[List.length_set,HEn.out];omega);have f2:=hrow.frozen (a+1);have HR6:=hJ (hrow.set (a:=a+1) (by simp only[List.length_set,HEn.out];omega) id);have HLow6:=hJ (dD HLow.out (show w4.heap.size<=g by have:=HG.out.1;omega) (a+1) (.int .u32 id));have c1:wr.cell? ⟨w.heap.size,1,none⟩=some (.int .u32 id):=aa ((HLow.out.block _ (lt_of_heap HA.out)).trans HA.out) 1;clear hrow HR HLow;go_wp2_with fail
    go_roundg 1
    case measure=>omega
    case rel=>exact⟨2,oZ,by go_num,HR6,HLow6⟩
   ·have hg2:g2=0:=oZ;subst hg2;have hrow:=HR.out;have f1:=hrow.cell (a:=a+2) (by simp only[List.length_set,HEn.out];omega);have f2:=hrow.frozen (a+2);have HR6:=hJ (hrow.set (a:=a+2) (by simp only[List.length_set,HEn.out];omega) l);have HLow6:=hJ (dD HLow.out (show w4.heap.size<=g by have:=HG.out.1;omega) (a+2) (.int .u32 l));have c1:wr.cell? ⟨w.heap.size,2,none⟩=some (.int .u32 l):=aa ((HLow.out.block _ (lt_of_heap HA.out)).trans HA.out) 2;clear hrow HR HLow;go_wp2_with fail
    go_roundg 0
    case measure=>omega
    case rel=>exact⟨3,oZ,by go_num,HR6,HLow6⟩
/-! ### What a version sees -/
theorem Hy:(Tryz.prog.info? 133).map (fun i=>(i.zero,i.size,i.bytes))=some (some (.agg #[.int .i64 0,.int .u32 0,.int .i64 0]),3,24):=kZ
theorem ER {w:World} (L:List Value) (t:TypeId):∀ (j:Nat) (u:Value),L[j]?=some u->(w.alloc (.cells L.toArray t)).cell? ((⟨w.heap.size,0,none⟩:Addr).add j)=some u:=by
 intro j u hj;rw[Addr.add_lit,aa (nZ w _)];simpa using hj
theorem yA (w:World) (oa:Option Addr) (c n:Nat) (cs:List Int) (en:cs.length=n) (hn:n<=1000000) (hU:∀ y∈cs,U y) (ha:bQ .u32 w oa (gQ cs)) (b:Int) (m:Nat) (v:Int) (b0:0<=b) (hl:b+4*(m:Int)<=cs.length) :
  Calls Tryz.prog 24 #[.slice oa n c,.int .i64 b,.int .i64 (m:Int),.int .u32 v] w fun e w'=>∃ vv,e=.returned (.tuple #[vv,.bool true])/\nC w' w.heap.size vv (jR cs b m v)/\Below w.heap.size w w':=by
 have HAt:=hJ (fun(w':World) (hb:Below w.heap.size w w') (j:Int) (k0:0<=j) (k1:j<cs.length)=>yT w' oa c n cs en hU (ha.below hb) j k0 k1);obtain⟨Z,hZ⟩:∃ Z,Z=jR cs b m v:=⟨_,rfl⟩;rw[<- hZ];have HF0:=hJ (show ([]:List Sn)++jF cs b v m 0=Z from hZ.symm);have HU:=hJ hU;have HEn:=hJ en;obtain⟨i0,hi0,hz0,hz1,hz2⟩:=info_parts Hy;have HI:=hJ (And.intro hi0 (And.intro hz0 (And.intro hz1 hz2)));have hm:m<=1000000:=oZ;clear hU ha hZ en hi0 hz0 hz1 hz2;go_enter Tryz.func24,Tryz.ntmps24
 go_upto_region 2 with fail
 have HO1:=hJ (show nC (w.alloc (.cells #[] 133)) w.heap.size (.slice (some ⟨w.heap.size,0,none⟩) 0 0) [] from World.ownsRow_lit (base:=w.heap.size) (e:=133) (size:=3) w #[] 0 (Nat.le_refl _) dZ sZ);have HB1:=hJ (aj (w:=w) (A:=.cells #[] 133));generalize w.alloc (.cells #[] 133)=w1 at HO1 HB1 ⊢;obtain⟨v1,hv1⟩:∃ v1,v1=Value.slice (some ⟨w.heap.size,0,none⟩) 0 0:=⟨_,rfl⟩;rw[<- hv1] at HO1 ⊢;clear hv1;go_wp2_with fail
 go_loopg [10,11] m (fun g lv iv wr=>∃ (t q:Nat) (vv:Value) (l:List Sn),t+g=m/\q<=t/\vv=lv/\iv=.int .i64 (t:Int)/\Hid (l.length=q)/\Hid (nC wr w.heap.size vv l)/\Hid (Below w.heap.size w wr)/\Hid (l++jF cs b v g t=Z))
 case atStart=>exact⟨0,0,v1,[],oZ,oZ,rfl,rfl,hJ rfl,HO1,HB1,HF0⟩
 case round =>
  clear HF0 HO1 HB1;obtain⟨t,q,vv,l,htg,hqt,rfl,rfl,HLn,HO,HB,HF⟩:=hrel;cases gk with
  | zero =>
   have htm:t=m:=oZ;have hf:=HF.out;unfold jF at hf;rw[List.append_nil] at hf;have HE:=hJ hf;subst htm;clear HF htg hf;go_wp2_with fail
   go_ret2
   exact⟨vv,rfl,by rw[<- HE.out];exact HO.out,HB.out⟩
  | succ g =>
   have htm:t<m:=oZ;have htm1:(t:Int)<(m:Int):=oZ;have hlen:=HEn.out;obtain⟨a,ha⟩:∃ a,a=b+4*(t:Int):=⟨_,rfl⟩;have HA0:=hJ (fun w' hb=>HAt.out w' hb a oZ oZ);have HA1:=hJ (fun w' hb=>HAt.out w' hb (a+1) oZ oZ);have HA2:=hJ (fun w' hb=>HAt.out w' hb (a+2) oZ oZ);have HA3:=hJ (fun w' hb=>HAt.out w' hb (a+3) oZ oZ);have s0:IntKind.i64.wrap (4*(t:Int))=4*(t:Int):=iZ _ oZ;have s1:IntKind.i64.wrap (b+4*(t:Int))=a:=by rw[<- ha];exact iZ _ oZ
   have s2:IntKind.i64.wrap (a+1)=a+1:=iZ _ oZ;have s3:IntKind.i64.wrap (a+2)=a+2:=iZ _ oZ;have s4:IntKind.i64.wrap (a+3)=a+3:=iZ _ oZ;have hf:=HF.out;unfold jF at hf;rw[<- ha] at hf;have hu2:=rY HU.out (a+2).toNat;obtain⟨y0,hy0⟩:∃ y,y=bA cs a:=⟨_,rfl⟩;obtain⟨y1,hy1⟩:∃ y,y=bA cs (a+1):=⟨_,rfl⟩;obtain⟨y2,hy2⟩:∃ y,y=bA cs (a+2):=⟨_,rfl⟩;obtain⟨y3,hy3⟩:∃ y,y=bA cs (a+3):=⟨_,rfl⟩;rw[show cs.getD a.toNat 0=y0 from hy0.symm] at HA0;rw[show cs.getD (a+1).toNat 0=y1 from hy1.symm] at HA1;rw[show cs.getD (a+2).toNat 0=y2 from hy2.symm] at HA2 hu2;rw[show cs.getD (a+3).toNat 0=y3 from hy3.symm] at HA3;rw[<- hy0,<- hy1,<- hy2,<- hy3] at hf;unfold U at hu2;obtain⟨hu20,hu21⟩:=hu2;have s5:IntKind.i64.wrap y2=y2:=iZ _ oZ;clear hy0 hy1 hy2 hy3 hlen HF;clear ha;by_cases hx:y0=0∨v<y0
   ·rw[if_pos hx,List.append_nil] at hf;have HE:=hJ hf;clear hf;by_cases hx0:y0=0
    ·have b1:(y0==0)=true:=by simpa using hx0
     clear hx hx0;go_wp2_with fail
     refine(HA0.out _ HB.out).mono ?_;rintro e w3 ⟨rfl,hb3⟩;have HB3:=hJ (ag HB.out hb3);have HO3:=hJ (ak HO.out hb3);clear hb3 HA0 HA1 HA2 HA3;go_wp2_with fail
     go_ret2
     exact⟨vv,rfl,by rw[<- HE.out];exact HO3.out,HB3.out⟩
    ·have b1:(y0==0)=false:=by simpa using hx0
     have hx1:v<y0:=hx.resolve_left hx0;clear hx hx0;go_wp2_with fail
     refine(HA0.out _ HB.out).mono ?_;rintro e w3 ⟨rfl,hb3⟩;have HB3:=hJ (ag HB.out hb3);have HO3:=hJ (ak HO.out hb3);clear hb3 HA0 HA1 HA2 HA3;go_wp2_with fail
     go_ret2
     exact⟨vv,rfl,by rw[<- HE.out];exact HO3.out,HB3.out⟩
   ·rw[if_neg hx] at hf;have b1:(y0==0)=false:=by simp;omega
    have b2:¬ v<y0:=oZ;clear hx;by_cases ht:y3=0∨v<y3
    ·rw[if_pos ht,<- List.append_assoc] at hf;have HF:=hJ hf;clear hf;by_cases ht0:y3=0
     ·have b3:(y3==0)=true:=by simpa using ht0
      clear ht ht0;go_wp2_with fail
      refine(HA0.out _ HB.out).mono ?_;rintro e w3 ⟨rfl,hb3⟩;have HB3:=hJ (ag HB.out hb3);have HO3:=hJ (ak HO.out hb3);clear hb3;go_wp2_with fail
      refine(HA3.out _ HB3.out).mono ?_;rintro e w4 ⟨rfl,hb4⟩;have HB4:=hJ (ag HB3.out hb4);have HO4:=hJ (ak HO3.out hb4);clear hb4;go_wp2_with fail
      refine(HA1.out _ HB4.out).mono ?_;rintro e w5 ⟨rfl,hb5⟩;have HB5:=hJ (ag HB4.out hb5);have HO5:=hJ (ak HO4.out hb5);clear hb5;go_wp2_with fail
      refine(HA2.out _ HB5.out).mono ?_;rintro e w6 ⟨rfl,hb6⟩;have HB6:=hJ (ag HB5.out hb6);have HO6:=hJ (ak HO5.out hb6);clear hb6 HA0 HA1 HA2 HA3;have HN:=hJ (ER (w:=w6) (Cy ((t:Int),y1,y2)) 133);have hb7:=aj (w:=w6) (A:=.cells (Cy ((t:Int),y1,y2)).toArray 133);have HO7:=hJ (ak HO6.out hb7);have HB7:=hJ (ag HB6.out hb7);have HFin:=hJ (show ∀ (v':Value) (w8:World),w8.ownsRow w.heap.size 133 3 v' (q+1) (pJ l++Cy ((t:Int),y1,y2))->(w6.alloc (.cells (Cy ((t:Int),y1,y2)).toArray 133)).grownBy w8 vv.ownBlock->nC w8 w.heap.size v' (l++[((t:Int),y1,y2)])/\Below w.heap.size w w8 from fun v' w8 ho hg=>⟨by unfold nC;rw[tN,List.length_append,HLn.out];simpa [pJ] using ho,HB7.out.grown hg HB7.out.size (fun k hk=>(World.ownsRow.lt HO7.out k hk).1)⟩);clear hb7;go_wp2_with (at_builtin;refine wpList_append_own _ rfl (.tmp 89) (.tmp 95) 66 rfl w.heap.size 133 i0 _ 3 24 Tryz.underlying66 HI.out.1 HI.out.2.1 HI.out.2.2.1 HI.out.2.2.2 rfl dZ vv q (pJ l) rfl (by have h:=HO7.out;unfold nC at h;rw[HLn.out] at h;exact h) ⟨w6.heap.size,0,none⟩ 1 1 (Cy ((t:Int),y1,y2)) rfl rfl HN.out (by simp[Cy,Value.oneCell']) mZ oZ HB7.out.size ?_;intro v' w8 ho2 hg2 _;have HR2:=hJ (HFin.out v' w8 ho2 hg2);clear ho2 hg2)
      go_roundg g
      case measure=>omega
      case rel=>exact⟨t+1,q+1,v',_,oZ,oZ,rfl,by go_num,hJ (by rw[List.length_append,HLn.out];rfl),hJ HR2.out.1,hJ HR2.out.2,HF⟩
     ·have b3:(y3==0)=false:=by simpa using ht0
      have b4:v<y3:=ht.resolve_left ht0;clear ht ht0;go_wp2_with fail
      refine(HA0.out _ HB.out).mono ?_;rintro e w3 ⟨rfl,hb3⟩;have HB3:=hJ (ag HB.out hb3);have HO3:=hJ (ak HO.out hb3);clear hb3;go_wp2_with fail
      refine(HA3.out _ HB3.out).mono ?_;rintro e w4 ⟨rfl,hb4⟩;have HB4:=hJ (ag HB3.out hb4);have HO4:=hJ (ak HO3.out hb4);clear hb4;go_wp2_with fail
      refine(HA1.out _ HB4.out).mono ?_;rintro e w5 ⟨rfl,hb5⟩;have HB5:=hJ (ag HB4.out hb5);have HO5:=hJ (ak HO4.out hb5);clear hb5;go_wp2_with fail
      refine(HA2.out _ HB5.out).mono ?_;rintro e w6 ⟨rfl,hb6⟩;have HB6:=hJ (ag HB5.out hb6);have HO6:=hJ (ak HO5.out hb6);clear hb6 HA0 HA1 HA2 HA3;have HN:=hJ (ER (w:=w6) (Cy ((t:Int),y1,y2)) 133);have hb7:=aj (w:=w6) (A:=.cells (Cy ((t:Int),y1,y2)).toArray 133);have HO7:=hJ (ak HO6.out hb7);have HB7:=hJ (ag HB6.out hb7);have HFin:=hJ (show ∀ (v':Value) (w8:World),w8.ownsRow w.heap.size 133 3 v' (q+1) (pJ l++Cy ((t:Int),y1,y2))->(w6.alloc (.cells (Cy ((t:Int),y1,y2)).toArray 133)).grownBy w8 vv.ownBlock->nC w8 w.heap.size v' (l++[((t:Int),y1,y2)])/\Below w.heap.size w w8 from fun v' w8 ho hg=>⟨by unfold nC;rw[tN,List.length_append,HLn.out];simpa [pJ] using ho,HB7.out.grown hg HB7.out.size (fun k hk=>(World.ownsRow.lt HO7.out k hk).1)⟩);clear hb7;go_wp2_with (at_builtin;refine wpList_append_own _ rfl (.tmp 89) (.tmp 95) 66 rfl w.heap.size 133 i0 _ 3 24 Tryz.underlying66 HI.out.1 HI.out.2.1 HI.out.2.2.1 HI.out.2.2.2 rfl dZ vv q (pJ l) rfl (by have h:=HO7.out;unfold nC at h;rw[HLn.out] at h;exact h) ⟨w6.heap.size,0,none⟩ 1 1 (Cy ((t:Int),y1,y2)) rfl rfl HN.out (by simp[Cy,Value.oneCell']) mZ oZ HB7.out.size ?_;intro v' w8 ho2 hg2 _;have HR2:=hJ (HFin.out v' w8 ho2 hg2);clear ho2 hg2)
      go_roundg g
      case measure=>omega
      case rel=>exact⟨t+1,q+1,v',_,oZ,oZ,rfl,by go_num,hJ (by rw[List.length_append,HLn.out];rfl),hJ HR2.out.1,hJ HR2.out.2,HF⟩
    ·rw[if_neg ht,List.nil_append] at hf;have HF:=hJ hf;have b3:(y3==0)=false:=by simp;omega
     have b4:¬ v<y3:=oZ;clear hf ht;go_wp2_with fail
     refine(HA0.out _ HB.out).mono ?_;rintro e w3 ⟨rfl,hb3⟩;have HB3:=hJ (ag HB.out hb3);have HO3:=hJ (ak HO.out hb3);clear hb3;go_wp2_with fail
     refine(HA3.out _ HB3.out).mono ?_;rintro e w4 ⟨rfl,hb4⟩;have HB4:=hJ (ag HB3.out hb4);have HO4:=hJ (ak HO3.out hb4);clear hb4 HA0 HA1 HA2 HA3;go_wp2_with fail
     go_roundg g
     case measure=>omega
     case rel=>exact⟨t+1,q,vv,l,oZ,oZ,rfl,by go_num,HLn,HO4,HB4,HF⟩
def bO (cs:List Int) (id:Int):Nat->List Sg->Int×Int×Bool
 | _,[]=>(0,0,false)
 | i,s :: l=>if 0<=iU cs (bP s) s.2.1.toNat id then((i:Int),iU cs (bP s) s.2.1.toNat id,true) else bO cs id (i+1) l
def oU (cs:List Int) (s:Sg):Prop:=0<=s.1/\s.1<=1000000/\0<=s.2.1/\bP s+4*s.2.1<=cs.length
theorem jy (w:World) (oa:Option Addr) (c n:Nat) (cs:List Int) (en:cs.length=n) (hn:n<=1000000) (hU:∀ y∈cs,U y) (ha:bQ .u32 w oa (gQ cs)) (og:Option Addr) (gn gc:Nat) (x:Sx) (eg:x.aC.length=gn) (hg:eH w og x.aC) (hgl:gn<=1000) (hin:∀ s∈x.aC,oU cs s) (id:Int) :
  Calls Tryz.prog 90 #[.agg (aH (.slice oa n c) (.slice og gn gc) x),.int .u32 id] w fun e w'=>e=.returned (.tuple #[.int .i64 (bO cs id 0 x.aC).1,.int .i64 (bO cs id 0 x.aC).2.1,.bool (bO cs id 0 x.aC).2.2])/\Below w.heap.size w w':=by
 have HFind:=hJ (fun(w':World) (hb:Below w.heap.size w w') (b:Int) (m:Nat) (b0:0<=b) (hl:b+4*(m:Int)<=cs.length)=>F6 w' oa c n cs en hn hU (ha.below hb) b m id b0 hl);have HG:=hJ hg;have HIn:=hJ hin;have HEg:=hJ eg;obtain⟨Z,hZ⟩:∃ Z,Z=bO cs id 0 x.aC:=⟨_,rfl⟩;rw[<- hZ];have HF0:=hJ (show bO cs id 0 (x.aC.drop 0)=Z from hZ.symm);have HEn:=hJ en;clear hU ha hg hin hZ eg en;go_enter Tryz.func90,Tryz.ntmps90
 go_upto_region 1 with fail
 have HX:=hJ (nZ w (.cells (aH (.slice oa n c) (.slice og gn gc) x) 49));have hb1:=aj (w:=w) (A:=.cells (aH (.slice oa n c) (.slice og gn gc) x) 49);have HB1:=hJ hb1;have c1:(w.alloc (.cells (aH (.slice oa n c) (.slice og gn gc) x) 49)).cell? ⟨w.heap.size,1,none⟩=some (.slice og gn gc):=aa HX.out 1;generalize w.alloc (.cells (aH (.slice oa n c) (.slice og gn gc) x) 49)=w1 at HX HB1 c1 ⊢;clear hb1;go_wp2_with fail
 go_loopg [15] gn (fun g iv wr=>∃ i:Nat,i+g=gn/\iv=.int .i64 (i:Int)/\Hid (wr.heap[w.heap.size]?=some (.cells (aH (.slice oa n c) (.slice og gn gc) x) 49 (0,0)))/\Hid (Below w.heap.size w wr)/\Hid (bO cs id i (x.aC.drop i)=Z))
 case atStart=>exact⟨0,oZ,rfl,HX,HB1,HF0⟩
 case round =>
  clear HF0 HB1 HX c1;obtain⟨i,hig,rfl,HX,HB,HF⟩:=hrel;cases gk with
  | zero =>
   have hi:gn=i:=oZ;have hf:=HF.out;rw[List.drop_eq_nil_of_le (by rw[HEg.out];omega)] at hf;unfold bO at hf;subst hf hi;clear HF hig;go_wp2_with fail
   refine tZ (v:=.tuple #[.int .i64 0,.int .i64 0,.bool false]) (by simp[results,Tryz.results90,go_sem]) rfl ⟨rfl,HB.out⟩
  | succ g =>
   have hi:i<gn:=oZ;have hi1:(i:Int)<(gn:Int):=oZ;obtain⟨s,hs⟩:∃ s,x.aC[i]?=some s:=⟨_,gZ (by rw[HEg.out];exact hi)⟩;obtain⟨gb,ob,rfl,k1,k2,k3⟩:=HG.out.below HB.out i s hs;have hsin:=HIn.out s (List.mem_of_getElem? hs);have hf:=HF.out
   rw[show x.aC.drop i=s :: x.aC.drop (i+1) by
    have hlt:=(eZ.1 hs).1;rw[List.drop_eq_getElem_cons hlt,(eZ.1 hs).2]] at hf
   unfold bO at hf;have c1:wr.cell? ⟨w.heap.size,1,none⟩=some (.slice (some ⟨gb,ob,none⟩) gn gc):=aa HX.out 1;have c0:wr.cell? ⟨w.heap.size,0,none⟩=some (.slice oa n c):=aa HX.out 0;go_upto_region 5 with fail
   obtain⟨sa,sd,sz⟩:=s;obtain⟨s,hse⟩:∃ s:Sg,s=(sa,sd,sz):=⟨_,rfl⟩;rw[show sa=s.1 by rw[hse],show sd=s.2.1 by rw[hse],show sz=s.2.2 by rw[hse]];rw[<- hse] at hsin hf;obtain⟨t1,t2,t3,t4⟩:=hsin;have HBase:=hJ (fun w=>mU w s oZ oZ);obtain⟨m,hm⟩:=Int.eq_ofNat_of_zero_le t3;rw[hm,Int.toNat_natCast] at hf;rw[hm] at t4;have hb0:0<=bP s:=by unfold bP;split <;> omega
   have HFd0:=hJ (fun w' hb=>HFind.out w' hb (bP s) m hb0 t4);obtain⟨fz,hfz⟩:∃ fz,fz=iU cs (bP s) m id:=⟨_,rfl⟩;rw[<- hfz] at HFd0 hf;obtain⟨bz,hbz⟩:∃ bz,bz=bP s:=⟨_,rfl⟩;rw[<- hbz] at HFd0 HBase;have HFd:Hid (∀ w',Below w.heap.size w w'->Calls Tryz.prog 129 #[.slice oa n c,.int .i64 bz,.int .i64 s.2.1,.int .u32 id] w' fun e w2=>e=.returned (.tuple #[.int .i64 fz,.bool true])/\Below w'.heap.size w' w2):=by rw[hm];exact HFd0
   have HF2:=hJ hf;have HQ:=hJ (nZ wr (.cells #[.int .i64 s.1,.int .i64 s.2.1,.bool s.2.2] 65));have hb5:=aj (w:=wr) (A:=.cells #[.int .i64 s.1,.int .i64 s.2.1,.bool s.2.2] 65);have HB5:=hJ (ag HB.out hb5);have HX5:=hJ ((hb5.block _ (lt_of_heap HX.out)).trans HX.out);generalize wr.alloc (.cells #[.int .i64 s.1,.int .i64 s.2.1,.bool s.2.2] 65)=w5 at HQ HB5 HX5 ⊢;obtain⟨qb,hqb⟩:∃ qb,qb=wr.heap.size:=⟨_,rfl⟩;rw[<- hqb] at HQ ⊢;clear hb5 hqb hf hs hse k1 k2 k3 c1 c0 HF hm t1 t2 t3 t4 hb0 hfz hbz HFd0 HX HB sa sd sz;go_cut [9,10] (fun dv ov wx=>dv=.int .i64 fz/\ov=.bool true/\Hid (wx.heap[w.heap.size]?=some (.cells (aH (.slice oa n c) (.slice (some ⟨gb,ob,none⟩) gn gc) x) 49 (0,0)))/\Hid (Below w.heap.size w wx))
   case first =>
    refine aL (fun(_:Unit) j=>[.pointer (some ⟨w.heap.size,0,none⟩),.slice oa n c,.agg #[.int .i64 s.1,.int .i64 s.2.1,.bool s.2.2],.int .i64 bz,.pointer (some ⟨qb,1,none⟩),.int .i64 s.2.1,.int .u32 id,.tuple #[.int .i64 fz,.bool true],.tuple #[.int .i64 fz,.bool true],.int .i64 fz,.bool true,.int .i64 fz,.bool true].getD j undef)
     (fun _ _ wx=>Below w.heap.size w wx/\wx.heap[w.heap.size]?=some (.cells (aH (.slice oa n c) (.slice (some ⟨gb,ob,none⟩) gn gc) x) 49 (0,0))/\wx.heap[qb]?=some (.cells #[.int .i64 s.1,.int .i64 s.2.1,.bool s.2.2] 65 (0,0)))
     kZ kZ pZ () ?_ ?_ ?_
    ·exact⟨HB5.out.drew,HX5.out,HQ.out⟩
    ·intro i o ho q' l wx hR hl he K hK;have hbel:∀ w2:World,Below wx.heap.size wx w2->Below w.heap.size w w2/\w2.heap[w.heap.size]?=some (.cells (aH (.slice oa n c) (.slice (some ⟨gb,ob,none⟩) gn gc) x) 49 (0,0))/\w2.heap[qb]?=some (.cells #[.int .i64 s.1,.int .i64 s.2.1,.bool s.2.2] 65 (0,0)):=fun w2 hb2=>⟨ag hR.1 hb2,(hb2.block _ (lt_of_heap hR.2.1)).trans hR.2.1,(hb2.block _ (lt_of_heap hR.2.2)).trans hR.2.2⟩;rcases i with _|_|_|_|_|_|_|_|_|_|_|_|_|i
     any_goals first | (cases ho;go_simp;exact hK () wx (fun _ _=>rfl) hR;done) | fail
     ·cases ho;have c0:wx.cell? ⟨w.heap.size,0,none⟩=some (.slice oa n c):=aa hR.2.1 0;go_simp;exact hK () wx (fun _ _=>rfl) hR
     ·cases ho;refine wp_load_row 65 (.tmp 8) rfl qb rfl 65 #[.int .i64 s.1,.int .i64 s.2.1,.bool s.2.2] (0,0) _ hR.2.2 Tryz.underlying65 rfl (nT s) ?_;exact hK () wx (fun _ _=>rfl) hR
     ·cases ho;go_simp;refine(HBase.out wx).mono ?_;rintro e w2 ⟨rfl,hb2⟩;exact hK () w2 (fun _ _=>rfl) (hbel w2 hb2)
     ·cases ho;have c5:wx.cell? ⟨qb,1,none⟩=some (.int .i64 s.2.1):=aa hR.2.2 1;go_simp;exact hK () wx (fun _ _=>rfl) hR
     ·cases ho;go_simp;refine(HFd.out wx hR.1).mono ?_;rintro e w2 ⟨rfl,hb2⟩;exact hK () w2 (fun _ _=>rfl) (hbel w2 hb2)
     ·simp at ho
    ·intro q' l wx hl hR;have HR1:=hJ hR.2.1;have HR2:=hJ hR.1;clear hR hl;go_wp2_with fail
     go_meet
     exact⟨rfl,rfl,HR1,HR2⟩
   case rest =>
    clear HX5 HB5 HQ;obtain⟨rfl,rfl,HX,HB⟩:=hcut;by_cases hz:0<=fz
    ·have hf:=HF2.out;rw[if_pos hz] at hf;subst hf;clear HF2;go_wp2_with fail
     refine tZ (v:=.tuple #[.int .i64 (i:Int),.int .i64 fz,.bool true]) (by simp[results,Tryz.results90,go_sem]) rfl ⟨rfl,HB.out⟩
    ·have hf:=HF2.out;rw[if_neg hz] at hf;have HF:=hJ hf;clear HF2 hf;go_wp2_with fail
     go_roundg g
     case measure=>omega
     case rel=>exact⟨i+1,oZ,by go_num,HX,HB,HF⟩
end Go.Proofs.YtafaohnhlgcnpaaGreatDoor
