/-
 What stage 12 rests on.
-/
import Derived.Test.YtlfndoclbebdaaaGreatDoorWrErA1
import Derived.Test.YtlfndoclbebdaaaGreatDoorWrErE1
import Derived.Test.YtlfndoclbebdaaaGreatDoorWrErF1
import Derived.Test.YtlfndoclbebdaaaGreatDoorWrErG1
import Derived.Test.YtlfndoclbebdaaaGreatDoorWrErG5
set_option maxRecDepth 100000
set_option maxHeartbeats 16000000
namespace Go.Proofs.YtlfndoclbebdaaaGreatDoor
open Go.RowKit
structure BA (W:World) (vc vs:Value) (x:Sx) (cf:Array Value) (B S:Nat->Int) (C T L:Int) (id:Int) (vf:Value) (w:World):Prop where
 st:w.heap[W.heap.size]?=some (.cells (aK vc vs x) 49 (0,0))
 cf:w.heap[W.heap.size+1]?=some (.cells cf 25 (0,0))
 pl:w.heap[W.heap.size+1+1]?=some (.cells (af B S C T L) 42 (0,0))
 dc:w.heap[W.heap.size+1+1+1]?=some (.cells #[.int .u32 id,vf] 35 (0,0))
 rs:∃ X Y Z,w.heap[W.heap.size+1+1+1+1]?=some (.cells (aK X Y Z) 49 (0,0))
 low:Below W.heap.size W w
section
variable {W w w':World} {vc vs:Value} {x:Sx} {cf:Array Value} {B S:Nat->Int} {C T L id:Int} {vf:Value}
theorem BA.below (h:BA W vc vs x cf B S C T L id vf w) (hb:Below w.heap.size w w'):BA W vc vs x cf B S C T L id vf w':=by
 obtain⟨h1,h2,h3,h4,⟨X,Y,Z,h5⟩,h6⟩:=h
 exact⟨(hb.block _ (lt_of_heap h1)).trans h1,(hb.block _ (lt_of_heap h2)).trans h2,(hb.block _ (lt_of_heap h3)).trans h3,(hb.block _ (lt_of_heap h4)).trans h4,⟨X,Y,Z,(hb.block _ (lt_of_heap h5)).trans h5⟩,ah h6 hb⟩
theorem BA.start (W:World) (vc vs:Value) (x:Sx) (cf:Array Value) (B S:Nat->Int) (C T L:Int) (id:Int) (vf:Value):BA W vc vs x cf B S C T L id vf (((((W.alloc (.cells (aK vc vs x) 49)).alloc (.cells cf 25)).alloc (.cells (af B S C T L) 42)).alloc (.cells #[.int .u32 id,vf] 35)).alloc (.cells dE 49)):=by
 refine⟨?_,?_,?_,?_,⟨.slice none 0 0,.slice none 0 0,⟨[],0,0,fun _=>0⟩,?_⟩,?_⟩
 ·exact(Below.heap_alloc _ _ _ xZ).trans ((Below.heap_alloc _ _ _ xZ).trans (dV _ _ _ _))
 ·exact(Below.heap_alloc _ _ _ xZ).trans ((Below.heap_alloc _ _ _ xZ).trans (dX _ _ _ _))
 ·exact(Below.heap_alloc _ _ _ xZ).trans ((Below.heap_alloc _ _ _ xZ).trans (eH _ _ _ _))
 ·have:=nZ (((W.alloc (.cells (aK vc vs x) 49)).alloc (.cells cf 25)).alloc (.cells (af B S C T L) 42)) (.cells #[.int .u32 id,vf] 35)
  exact(Below.heap_alloc _ _ _ xZ).trans (by simpa using this)
 ·have:=nZ ((((W.alloc (.cells (aK vc vs x) 49)).alloc (.cells cf 25)).alloc (.cells (af B S C T L) 42)).alloc (.cells #[.int .u32 id,vf] 35)) (.cells dE 49)
  simpa [dE] using this
 ·exact(bu.alloc xZ _).alloc xZ _
end
theorem CX (w:World) (oa:Option Addr) (c n:Nat) (cs:List Int) (en:cs.length=n) (hn:n<=1000000) (hU:∀ y∈cs,U y) (ha:dH .u32 w oa (jB cs)) (og:Option Addr) (gn gc:Nat) (x:Sx) (eg:x.aH.length=gn) (hg:gy w og x.aH) (hgl:gn<=1000) (hin:∀ s∈x.aH,wX cs s) (dd tt:Int) (ss:Nat->Int) (bk rm:Int) (kf bf:Nat) (B S:Nat->Int) (C T L:Int) (id:Int) (fo:Option Addr) (fc:Nat) (F:List ByteArray) (hF:iY w fo F) (hs:∀ x∈F,x.size<=1000000) (hFn:F.length<=1000000) (hlong:jM F≠0) :
  Calls Tryz.prog 58 #[.agg (aK (.slice oa n c) (.slice og gn gc) x),.agg (ak dd tt ss bk rm kf bf),.agg (af B S C T L),.agg #[.int .u32 id,.slice fo F.length fc]] w fun e w'=>e=.returned (.tuple #[.int .i64 (jM F),.agg (aK (.slice oa n c) (.slice og gn gc) x)])/\Below w.heap.size w w':=by
 have HTk:=hJ (fun(w':World) (hb:Below w.heap.size w w')=>oP w' fo fc F (hF.below hb) hs hFn)
 have HPl:=hJ (fun(w':World) (hb:Below w.heap.size w w')=>kG w' oa c n cs en hn hU (ha.below hb) og gn gc x eg (hg.below hb) hgl hin id)
 obtain⟨ee,hee⟩:∃ ee,ee=jM F:=⟨_,rfl⟩
 rw[<- hee] at HTk hlong ⊢
 have be:(ee != 0)=true:=by simpa using hlong
 clear hee hlong HPl
 clear hU ha hg hin eg en hF
 go_enter Tryz.func58,Tryz.ntmps58
 go_upto_region 1 with fail
 have HA:=hJ (BA.start w (.slice oa n c) (.slice og gn gc) x (ak dd tt ss bk rm kf bf) B S C T L id (.slice fo F.length fc))
 obtain⟨w0,hw0⟩:∃ w0,w0=((((w.alloc (.cells (aK (.slice oa n c) (.slice og gn gc) x) 49)).alloc (.cells (ak dd tt ss bk rm kf bf) 25)).alloc (.cells (af B S C T L) 42)).alloc (.cells #[.int .u32 id,.slice fo F.length fc] 35)).alloc (.cells dE 49):=⟨_,rfl⟩
 rw[show ((((w.alloc (.cells (aK (.slice oa n c) (.slice og gn gc) x) 49)).alloc (.cells (ak dd tt ss bk rm kf bf) 25)).alloc (.cells (af B S C T L) 42)).alloc (.cells #[.int .u32 id,.slice fo F.length fc] 35)).alloc (.cells #[.slice none 0 0,.slice none 0 0,.int .i64 0,.int .u32 0,.int .i64 0,.int .i64 0,.int .i64 0,.int .i64 0,.int .i64 0,.int .i64 0] 49)=w0 from hw0.symm]
 rw[<- hw0] at HA
 clear hw0
 have c1:w0.cell? ⟨w.heap.size+1+1+1,1,none⟩=some (.slice fo F.length fc):=ae HA.out.dc 1
 go_wp2_with fail
 refine(HTk.out _ HA.out.low).mono ?_;rintro e w1 ⟨tv,rfl,htk,hb⟩
 have HA:=hJ (HA.out.below hb)
 have HTv:=hJ htk
 clear hb c1 HTk htk
 go_upto_region 3 with fail
 refine aU (fun(_:Unit) j=>[.int .i64 ee,.agg (aK (.slice oa n c) (.slice og gn gc) x),.int .i64 ee,undef].getD j undef)
  (fun _ l wx=>wx.heap[w.heap.size]?=some (.cells (aK (.slice oa n c) (.slice og gn gc) x) 49 (0,0))/\(∃ X Y Z,wx.heap[w.heap.size+1+1+1+1]?=some (.cells (aK X Y Z) 49 (0,0)))/\(l 3=true->wx.heap[w.heap.size+1+1+1+1]?=some (.cells (aK (.slice oa n c) (.slice og gn gc) x) 49 (0,0)))/\Below w.heap.size w wx)
  kZ kZ pZ () ?_ ?_ ?_
 ·exact⟨HA.out.st,HA.out.rs,(fun h=>by cases h),HA.out.low.drew⟩
 ·intro i o ho q' l wx hR hl he K hK
  rcases i with _|_|_|_|i
  ·cases ho
   go_simp
   exact hK () wx (fun _ _=>rfl) hR
  ·cases ho
   refine wp_load_row 49 (.tmp 4) rfl w.heap.size rfl 49 (aK (.slice oa n c) (.slice og gn gc) x) (0,0) _ hR.1 Tryz.underlying49 rfl (aI _ _ _) ?_
   exact hK () wx (fun _ _=>rfl) hR
  ·cases ho
   go_simp
   exact hK () wx (fun _ _=>rfl) hR
  ·cases ho
   obtain⟨X,Y,Z,hX⟩:=hR.2.1
   refine wp_store_row 49 (.tmp 9) (.tmp 42) rfl (w.heap.size+1+1+1+1) (aK (.slice oa n c) (.slice og gn gc) x) rfl rfl 49 (aK X Y Z) hX (aI _ _ _) rfl cZ ?_
   have hs:=setRow_heap wx (w.heap.size+1+1+1+1) _ (aK (.slice oa n c) (.slice og gn gc) x) _ _ hX
   exact hK () _ (fun _ _=>rfl) ⟨(qZ _ _ _ _ oZ).trans hR.1,⟨_,_,_,hs⟩,(fun _=>hs),below_setRow hR.2.2.2 oZ _⟩
  ·simp at ho
 ·intro q' l wx hl hR
  have H4:=hJ (hR.2.2.1 (hl 3 dZ))
  have HRX:=hJ hR.2.2.2
  clear hR hl
  go_wp2_with fail
  refine tZ (v:=.tuple #[.int .i64 ee,.agg (aK (.slice oa n c) (.slice og gn gc) x)]) (dA rfl _ _ (w.heap.size+1+1+1+1) _ _ (0,0) _ _ rfl rfl H4.out Tryz.underlying49 rfl (aI _ _ _)) rfl ?_
  exact⟨rfl,HRX.out⟩
theorem Ea (w:World) (oa:Option Addr) (c n:Nat) (cs:List Int) (en:cs.length=n) (hn:n<=1000000) (hU:∀ y∈cs,U y) (ha:dH .u32 w oa (jB cs)) (og:Option Addr) (gn gc:Nat) (x:Sx) (eg:x.aH.length=gn) (hg:gy w og x.aH) (hgl:gn<=1000) (hin:∀ s∈x.aH,wX cs s) (dd tt:Int) (ss:Nat->Int) (bk rm:Int) (kf bf:Nat) (B S:Nat->Int) (C T L:Int) (id:Int) (fo:Option Addr) (fc:Nat) (F:List ByteArray) (hF:iY w fo F) (hs:∀ x∈F,x.size<=1000000) (hFn:F.length<=1000000) (hok:jM F=0) (hdup:(df cs id 0 x.aH).2.2=true) :
  Calls Tryz.prog 58 #[.agg (aK (.slice oa n c) (.slice og gn gc) x),.agg (ak dd tt ss bk rm kf bf),.agg (af B S C T L),.agg #[.int .u32 id,.slice fo F.length fc]] w fun e w'=>e=.returned (.tuple #[.int .i64 6,.agg (aK (.slice oa n c) (.slice og gn gc) x)])/\Below w.heap.size w w':=by
 have HTk:=hJ (fun(w':World) (hb:Below w.heap.size w w')=>oP w' fo fc F (hF.below hb) hs hFn)
 have HPl:=hJ (fun(w':World) (hb:Below w.heap.size w w')=>kG w' oa c n cs en hn hU (ha.below hb) og gn gc x eg (hg.below hb) hgl hin id)
 rw[hok] at HTk
 rw[hdup] at HPl
 obtain⟨p1,hp1⟩:∃ p1,p1=(df cs id 0 x.aH).1:=⟨_,rfl⟩
 obtain⟨p2,hp2⟩:∃ p2,p2=(df cs id 0 x.aH).2.1:=⟨_,rfl⟩
 rw[<- hp1,<- hp2] at HPl
 clear hok hdup hp1 hp2
 clear hU ha hg hin eg en hF
 go_enter Tryz.func58,Tryz.ntmps58
 go_upto_region 1 with fail
 have HA:=hJ (BA.start w (.slice oa n c) (.slice og gn gc) x (ak dd tt ss bk rm kf bf) B S C T L id (.slice fo F.length fc))
 obtain⟨w0,hw0⟩:∃ w0,w0=((((w.alloc (.cells (aK (.slice oa n c) (.slice og gn gc) x) 49)).alloc (.cells (ak dd tt ss bk rm kf bf) 25)).alloc (.cells (af B S C T L) 42)).alloc (.cells #[.int .u32 id,.slice fo F.length fc] 35)).alloc (.cells dE 49):=⟨_,rfl⟩
 rw[show ((((w.alloc (.cells (aK (.slice oa n c) (.slice og gn gc) x) 49)).alloc (.cells (ak dd tt ss bk rm kf bf) 25)).alloc (.cells (af B S C T L) 42)).alloc (.cells #[.int .u32 id,.slice fo F.length fc] 35)).alloc (.cells #[.slice none 0 0,.slice none 0 0,.int .i64 0,.int .u32 0,.int .i64 0,.int .i64 0,.int .i64 0,.int .i64 0,.int .i64 0,.int .i64 0] 49)=w0 from hw0.symm]
 rw[<- hw0] at HA
 clear hw0
 have c1:w0.cell? ⟨w.heap.size+1+1+1,1,none⟩=some (.slice fo F.length fc):=ae HA.out.dc 1
 go_wp2_with fail
 refine(HTk.out _ HA.out.low).mono ?_;rintro e w1 ⟨tv,rfl,htk,hb⟩
 have HA:=hJ (HA.out.below hb)
 have HTv:=hJ htk
 clear hb c1 HTk htk
 have htv:∃ tko tkn tkc,tv=Value.slice tko tkn tkc:=by
  obtain⟨q1,q2,q3⟩:=fA HTv.out _ rfl
  exact⟨q1,_,q2,q3⟩
 obtain⟨tko,tkn,tkc,rfl⟩:=htv
 have d0:w1.cell? ⟨w.heap.size+1+1+1,0,none⟩=some (.int .u32 id):=ae HA.out.dc 0
 go_wp2_with (first
  | (refine yZ rfl 49 (.tmp 4) rfl w.heap.size rfl 49 (aK (.slice oa n c) (.slice og gn gc) x) (0,0) _ HA.out.st Tryz.underlying49 rfl (aI _ _ _) ?_)
  | fail)
 refine(HPl.out _ HA.out.low).mono ?_;rintro e w2 ⟨rfl,hb⟩
 have HA:=hJ (HA.out.below hb)
 have HTv:=hJ (aA HTv.out hb)
 clear hb HPl d0
 go_upto_region 6 with fail
 refine aU (fun(_:Unit) j=>[.agg (aK (.slice oa n c) (.slice og gn gc) x),.int .i64 6,undef].getD j undef)
  (fun _ l wx=>wx.heap[w.heap.size]?=some (.cells (aK (.slice oa n c) (.slice og gn gc) x) 49 (0,0))/\(∃ X Y Z,wx.heap[w.heap.size+1+1+1+1]?=some (.cells (aK X Y Z) 49 (0,0)))/\(l 2=true->wx.heap[w.heap.size+1+1+1+1]?=some (.cells (aK (.slice oa n c) (.slice og gn gc) x) 49 (0,0)))/\Below w.heap.size w wx)
  kZ kZ pZ () ?_ ?_ ?_
 ·exact⟨HA.out.st,HA.out.rs,(fun h=>by cases h),HA.out.low.drew⟩
 ·intro i o ho q' l wx hR hl he K hK
  rcases i with _|_|_|i
  ·cases ho
   refine wp_load_row 49 (.tmp 4) rfl w.heap.size rfl 49 (aK (.slice oa n c) (.slice og gn gc) x) (0,0) _ hR.1 Tryz.underlying49 rfl (aI _ _ _) ?_
   exact hK () wx (fun _ _=>rfl) hR
  ·cases ho
   go_simp
   exact hK () wx (fun _ _=>rfl) hR
  ·cases ho
   obtain⟨X,Y,Z,hX⟩:=hR.2.1
   refine wp_store_row 49 (.tmp 9) (.tmp 52) rfl (w.heap.size+1+1+1+1) (aK (.slice oa n c) (.slice og gn gc) x) rfl rfl 49 (aK X Y Z) hX (aI _ _ _) rfl cZ ?_
   have hs:=setRow_heap wx (w.heap.size+1+1+1+1) _ (aK (.slice oa n c) (.slice og gn gc) x) _ _ hX
   exact hK () _ (fun _ _=>rfl) ⟨(qZ _ _ _ _ oZ).trans hR.1,⟨_,_,_,hs⟩,(fun _=>hs),below_setRow hR.2.2.2 oZ _⟩
  ·simp at ho
 ·intro q' l wx hl hR
  have H4:=hJ (hR.2.2.1 (hl 2 dZ))
  have HRX:=hJ hR.2.2.2
  clear hR hl
  go_wp2_with fail
  refine tZ (v:=.tuple #[.int .i64 6,.agg (aK (.slice oa n c) (.slice og gn gc) x)]) (dA rfl _ _ (w.heap.size+1+1+1+1) _ _ (0,0) _ _ rfl rfl H4.out Tryz.underlying49 rfl (aI _ _ _)) rfl ?_
  exact⟨rfl,HRX.out⟩
theorem FI (w:World) (oa:Option Addr) (c n:Nat) (cs:List Int) (en:cs.length=n) (hn:n<=1000000) (hU:∀ y∈cs,U y) (ha:dH .u32 w oa (jB cs)) (og:Option Addr) (gn gc:Nat) (x:Sx) (eg:x.aH.length=gn) (hg:gy w og x.aH) (hgl:gn<=1000) (hin:∀ s∈x.aH,wX cs s) (dd tt:Int) (ss:Nat->Int) (bk rm:Int) (kf bf:Nat) (B S:Nat->Int) (C T L:Int) (id:Int) (fo:Option Addr) (fc:Nat) (F:List ByteArray) (hF:iY w fo F) (hs:∀ x∈F,x.size<=1000000) (hFn:F.length<=1000000) {s:Sg} (hlive:x.aH[gn-1]?=some s) (hok:jM F=0) (hno:(df cs id 0 x.aH).2.2=false) (hseg:dd<=s.2.1) :
  Calls Tryz.prog 58 #[.agg (aK (.slice oa n c) (.slice og gn gc) x),.agg (ak dd tt ss bk rm kf bf),.agg (af B S C T L),.agg #[.int .u32 id,.slice fo F.length fc]] w fun e w'=>e=.returned (.tuple #[.int .i64 5,.agg (aK (.slice oa n c) (.slice og gn gc) x)])/\Below w.heap.size w w':=by
 have hl0:0<gn:=by have:=(eZ.1 hlive).1;omega
 obtain⟨gb,ob,hog,q1,q2,q3⟩:=hg (gn-1) s hlive
 subst hog
 have HSg:=hJ (And.intro q1 (And.intro q2 q3))
 have k1:IntKind.i64.wrap ((gn:Int)-1)=((gn-1:Nat):Int):=by rw[iZ _ oZ];omega
 have k2:((gn-1:Nat):Int)<(gn:Int):=oZ
 have k3:(0:Int)<=((gn-1:Nat):Int):=oZ
 obtain⟨gl,hgl1⟩:∃ gl,gl=gn-1:=⟨_,rfl⟩
 rw[<- hgl1] at k1 k2 k3 HSg
 have HTk:=hJ (fun(w':World) (hb:Below w.heap.size w w')=>oP w' fo fc F (hF.below hb) hs hFn)
 have HPl:=hJ (fun(w':World) (hb:Below w.heap.size w w')=>kG w' oa c n cs en hn hU (ha.below hb) (some ⟨gb,ob,none⟩) gn gc x eg (hg.below hb) hgl hin id)
 rw[hok] at HTk
 rw[hno] at HPl
 obtain⟨p1,hp1⟩:∃ p1,p1=(df cs id 0 x.aH).1:=⟨_,rfl⟩
 obtain⟨p2,hp2⟩:∃ p2,p2=(df cs id 0 x.aH).2.1:=⟨_,rfl⟩
 rw[<- hp1,<- hp2] at HPl
 clear hok hno hp1 hp2 hlive q1 q2 q3 hgl1
 clear hU ha hg hin eg en hF
 go_enter Tryz.func58,Tryz.ntmps58
 go_upto_region 1 with fail
 have HA:=hJ (BA.start w (.slice oa n c) (.slice (some ⟨gb,ob,none⟩) gn gc) x (ak dd tt ss bk rm kf bf) B S C T L id (.slice fo F.length fc))
 obtain⟨w0,hw0⟩:∃ w0,w0=((((w.alloc (.cells (aK (.slice oa n c) (.slice (some ⟨gb,ob,none⟩) gn gc) x) 49)).alloc (.cells (ak dd tt ss bk rm kf bf) 25)).alloc (.cells (af B S C T L) 42)).alloc (.cells #[.int .u32 id,.slice fo F.length fc] 35)).alloc (.cells dE 49):=⟨_,rfl⟩
 rw[show ((((w.alloc (.cells (aK (.slice oa n c) (.slice (some ⟨gb,ob,none⟩) gn gc) x) 49)).alloc (.cells (ak dd tt ss bk rm kf bf) 25)).alloc (.cells (af B S C T L) 42)).alloc (.cells #[.int .u32 id,.slice fo F.length fc] 35)).alloc (.cells #[.slice none 0 0,.slice none 0 0,.int .i64 0,.int .u32 0,.int .i64 0,.int .i64 0,.int .i64 0,.int .i64 0,.int .i64 0,.int .i64 0] 49)=w0 from hw0.symm]
 rw[<- hw0] at HA
 clear hw0
 have c1:w0.cell? ⟨w.heap.size+1+1+1,1,none⟩=some (.slice fo F.length fc):=ae HA.out.dc 1
 go_wp2_with fail
 refine(HTk.out _ HA.out.low).mono ?_;rintro e w1 ⟨tv,rfl,htk,hb⟩
 have HA:=hJ (HA.out.below hb)
 have HTv:=hJ htk
 clear hb c1 HTk htk
 have htv:∃ tko tkn tkc,tv=Value.slice tko tkn tkc:=by
  obtain⟨q1,q2,q3⟩:=fA HTv.out _ rfl
  exact⟨q1,_,q2,q3⟩
 obtain⟨tko,tkn,tkc,rfl⟩:=htv
 have d0:w1.cell? ⟨w.heap.size+1+1+1,0,none⟩=some (.int .u32 id):=ae HA.out.dc 0
 go_wp2_with (first
  | (refine yZ rfl 49 (.tmp 4) rfl w.heap.size rfl 49 (aK (.slice oa n c) (.slice (some ⟨gb,ob,none⟩) gn gc) x) (0,0) _ HA.out.st Tryz.underlying49 rfl (aI _ _ _) ?_)
  | fail)
 refine(HPl.out _ HA.out.low).mono ?_;rintro e w2 ⟨rfl,hb⟩
 have HA:=hJ (HA.out.below hb)
 have HTv:=hJ (aA HTv.out hb)
 clear hb HPl d0
 have c0:w2.cell? ⟨w.heap.size,1,none⟩=some (.slice (some ⟨gb,ob,none⟩) gn gc):=ae HA.out.st 1
 have l1:=aC HSg.out.1 HA.out.low
 have l2:=aC HSg.out.2.1 HA.out.low
 have l3:=aC HSg.out.2.2 HA.out.low
 have cd:w2.cell? ⟨w.heap.size+1,0,none⟩=some (.int .i64 dd):=ae HA.out.cf 0
 go_upto_region 8 with fail
 have hb3:=au (w:=w2) (A:=.cells #[.int .i64 s.1,.int .i64 s.2.1,.bool s.2.2] 65)
 have HA3:=hJ (HA.out.below hb3)
 have HTv3:=hJ (aA HTv.out hb3)
 have HLv:=hJ (nZ w2 (.cells #[.int .i64 s.1,.int .i64 s.2.1,.bool s.2.2] 65))
 generalize w2.alloc (.cells #[.int .i64 s.1,.int .i64 s.2.1,.bool s.2.2] 65)=w3 at HA3 HTv3 HLv ⊢
 obtain⟨qb,hqb⟩:∃ qb,qb=w2.heap.size:=⟨_,rfl⟩
 rw[<- hqb] at HLv ⊢
 clear hb3 hqb c0 l1 l2 l3 cd HA HTv
 have l2:w3.cell? ⟨qb,1,none⟩=some (.int .i64 s.2.1):=ae HLv.out 1
 have cd:w3.cell? ⟨w.heap.size+1,0,none⟩=some (.int .i64 dd):=ae HA3.out.cf 0
 have hge:dd<=s.2.1:=hseg
 go_upto_region 9 with fail
 refine aU (fun(_:Unit) j=>[.agg (aK (.slice oa n c) (.slice (some ⟨gb,ob,none⟩) gn gc) x),.int .i64 5,undef].getD j undef)
  (fun _ l wx=>wx.heap[w.heap.size]?=some (.cells (aK (.slice oa n c) (.slice (some ⟨gb,ob,none⟩) gn gc) x) 49 (0,0))/\(∃ X Y Z,wx.heap[w.heap.size+1+1+1+1]?=some (.cells (aK X Y Z) 49 (0,0)))/\(l 2=true->wx.heap[w.heap.size+1+1+1+1]?=some (.cells (aK (.slice oa n c) (.slice (some ⟨gb,ob,none⟩) gn gc) x) 49 (0,0)))/\Below w.heap.size w wx)
  kZ kZ pZ () ?_ ?_ ?_
 ·exact⟨HA3.out.st,HA3.out.rs,(fun h=>by cases h),HA3.out.low.drew⟩
 ·intro i o ho q' l wx hR hl he K hK
  rcases i with _|_|_|i
  ·cases ho
   refine wp_load_row 49 (.tmp 4) rfl w.heap.size rfl 49 (aK (.slice oa n c) (.slice (some ⟨gb,ob,none⟩) gn gc) x) (0,0) _ hR.1 Tryz.underlying49 rfl (aI _ _ _) ?_
   exact hK () wx (fun _ _=>rfl) hR
  ·cases ho
   go_simp
   exact hK () wx (fun _ _=>rfl) hR
  ·cases ho
   obtain⟨X,Y,Z,hX⟩:=hR.2.1
   refine wp_store_row 49 (.tmp 9) (.tmp 68) rfl (w.heap.size+1+1+1+1) (aK (.slice oa n c) (.slice (some ⟨gb,ob,none⟩) gn gc) x) rfl rfl 49 (aK X Y Z) hX (aI _ _ _) rfl cZ ?_
   have hs:=setRow_heap wx (w.heap.size+1+1+1+1) _ (aK (.slice oa n c) (.slice (some ⟨gb,ob,none⟩) gn gc) x) _ _ hX
   exact hK () _ (fun _ _=>rfl) ⟨(qZ _ _ _ _ oZ).trans hR.1,⟨_,_,_,hs⟩,(fun _=>hs),below_setRow hR.2.2.2 oZ _⟩
  ·simp at ho
 ·intro q' l wx hl hR
  have H4:=hJ (hR.2.2.1 (hl 2 dZ))
  have HRX:=hJ hR.2.2.2
  clear hR hl
  go_wp2_with fail
  refine tZ (v:=.tuple #[.int .i64 5,.agg (aK (.slice oa n c) (.slice (some ⟨gb,ob,none⟩) gn gc) x)]) (dA rfl _ _ (w.heap.size+1+1+1+1) _ _ (0,0) _ _ rfl rfl H4.out Tryz.underlying49 rfl (aI _ _ _)) rfl ?_
  exact⟨rfl,HRX.out⟩
end Go.Proofs.YtlfndoclbebdaaaGreatDoor
