/-
 What stage 12 rests on.
-/
import Derived.Test.YtafaohnhlgcnpaaGreatDoorWrAlF1
import Derived.Test.YtafaohnhlgcnpaaGreatDoorWrAlG1
import Derived.Test.YtafaohnhlgcnpaaGreatDoorWrAlG5
set_option maxRecDepth 100000
set_option maxHeartbeats 16000000
namespace Go.Proofs.YtafaohnhlgcnpaaGreatDoor
open Go.RowKit
structure y8 (W:World) (vc vs:Value) (x:Sx) (cf:Array Value) (B S:Nat->Int) (C T L:Int) (id:Int) (vf:Value) (w:World):Prop where
 st:w.heap[W.heap.size]?=some (.cells (aH vc vs x) 49 (0,0))
 cf:w.heap[W.heap.size+1]?=some (.cells cf 25 (0,0))
 pl:w.heap[W.heap.size+1+1]?=some (.cells (ae B S C T L) 42 (0,0))
 dc:w.heap[W.heap.size+1+1+1]?=some (.cells #[.int .u32 id,vf] 35 (0,0))
 rs:∃ X Y Z,w.heap[W.heap.size+1+1+1+1]?=some (.cells (aH X Y Z) 49 (0,0))
 low:Below W.heap.size W w
section
variable {W w w':World} {vc vs:Value} {x:Sx} {cf:Array Value} {B S:Nat->Int} {C T L id:Int} {vf:Value}
theorem y8.below (h:y8 W vc vs x cf B S C T L id vf w) (hb:Below w.heap.size w w'):y8 W vc vs x cf B S C T L id vf w':=by
 obtain⟨h1,h2,h3,h4,⟨X,Y,Z,h5⟩,h6⟩:=h;exact⟨(hb.block _ (lt_of_heap h1)).trans h1,(hb.block _ (lt_of_heap h2)).trans h2,(hb.block _ (lt_of_heap h3)).trans h3,(hb.block _ (lt_of_heap h4)).trans h4,⟨X,Y,Z,(hb.block _ (lt_of_heap h5)).trans h5⟩,ag h6 hb⟩
theorem y8.start (W:World) (vc vs:Value) (x:Sx) (cf:Array Value) (B S:Nat->Int) (C T L:Int) (id:Int) (vf:Value):y8 W vc vs x cf B S C T L id vf (((((W.alloc (.cells (aH vc vs x) 49)).alloc (.cells cf 25)).alloc (.cells (ae B S C T L) 42)).alloc (.cells #[.int .u32 id,vf] 35)).alloc (.cells cK 49)):=by
 refine⟨?_,?_,?_,?_,⟨.slice none 0 0,.slice none 0 0,⟨[],0,0,fun _=>0⟩,?_⟩,?_⟩
 ·exact(Below.heap_alloc _ _ _ xZ).trans ((Below.heap_alloc _ _ _ xZ).trans (dN _ _ _ _))
 ·exact(Below.heap_alloc _ _ _ xZ).trans ((Below.heap_alloc _ _ _ xZ).trans (dM _ _ _ _))
 ·exact(Below.heap_alloc _ _ _ xZ).trans ((Below.heap_alloc _ _ _ xZ).trans (dS _ _ _ _))
 ·have:=nZ (((W.alloc (.cells (aH vc vs x) 49)).alloc (.cells cf 25)).alloc (.cells (ae B S C T L) 42)) (.cells #[.int .u32 id,vf] 35);exact(Below.heap_alloc _ _ _ xZ).trans (by simpa using this)
 ·have:=nZ ((((W.alloc (.cells (aH vc vs x) 49)).alloc (.cells cf 25)).alloc (.cells (ae B S C T L) 42)).alloc (.cells #[.int .u32 id,vf] 35)) (.cells cK 49);simpa [cK] using this
 ·exact(bi.alloc xZ _).alloc xZ _
end
theorem yE (w:World) (oa:Option Addr) (c n:Nat) (cs:List Int) (en:cs.length=n) (hn:n<=1000000) (hU:∀ y∈cs,U y) (ha:bQ .u32 w oa (gQ cs)) (og:Option Addr) (gn gc:Nat) (x:Sx) (eg:x.aC.length=gn) (hg:eH w og x.aC) (hgl:gn<=1000) (hin:∀ s∈x.aC,oU cs s) (dd tt:Int) (ss:Nat->Int) (bk rm:Int) (kf bf:Nat) (B S:Nat->Int) (C T L:Int) (id:Int) (fo:Option Addr) (fc:Nat) (F:List ByteArray) (hF:fU w fo F) (hs:∀ x∈F,x.size<=1000000) (hFn:F.length<=1000000) (hlong:iN F≠0) :
  Calls Tryz.prog 58 #[.agg (aH (.slice oa n c) (.slice og gn gc) x),.agg (au dd tt ss bk rm kf bf),.agg (ae B S C T L),.agg #[.int .u32 id,.slice fo F.length fc]] w fun e w'=>e=.returned (.tuple #[.int .i64 (iN F),.agg (aH (.slice oa n c) (.slice og gn gc) x)])/\Below w.heap.size w w':=by
 have HTk:=hJ (fun(w':World) (hb:Below w.heap.size w w')=>mo w' fo fc F (hF.below hb) hs hFn);have HPl:=hJ (fun(w':World) (hb:Below w.heap.size w w')=>jy w' oa c n cs en hn hU (ha.below hb) og gn gc x eg (hg.below hb) hgl hin id);obtain⟨ee,hee⟩:∃ ee,ee=iN F:=⟨_,rfl⟩;rw[<- hee] at HTk hlong ⊢;have be:(ee != 0)=true:=by simpa using hlong
 clear hee hlong HPl;clear hU ha hg hin eg en hF;go_enter Tryz.func58,Tryz.ntmps58
 go_upto_region 1 with fail
 have HA:=hJ (y8.start w (.slice oa n c) (.slice og gn gc) x (au dd tt ss bk rm kf bf) B S C T L id (.slice fo F.length fc));obtain⟨w0,hw0⟩:∃ w0,w0=((((w.alloc (.cells (aH (.slice oa n c) (.slice og gn gc) x) 49)).alloc (.cells (au dd tt ss bk rm kf bf) 25)).alloc (.cells (ae B S C T L) 42)).alloc (.cells #[.int .u32 id,.slice fo F.length fc] 35)).alloc (.cells cK 49):=⟨_,rfl⟩;rw[show ((((w.alloc (.cells (aH (.slice oa n c) (.slice og gn gc) x) 49)).alloc (.cells (au dd tt ss bk rm kf bf) 25)).alloc (.cells (ae B S C T L) 42)).alloc (.cells #[.int .u32 id,.slice fo F.length fc] 35)).alloc (.cells #[.slice none 0 0,.slice none 0 0,.int .i64 0,.int .u32 0,.int .i64 0,.int .i64 0,.int .i64 0,.int .i64 0,.int .i64 0,.int .i64 0] 49)=w0 from hw0.symm];rw[<- hw0] at HA;clear hw0;have c1:w0.cell? ⟨w.heap.size+1+1+1,1,none⟩=some (.slice fo F.length fc):=aa HA.out.dc 1;go_wp2_with fail
 refine(HTk.out _ HA.out.low).mono ?_;rintro e w1 ⟨tv,rfl,htk,hb⟩;have HA:=hJ (HA.out.below hb);have HTv:=hJ htk;clear hb c1 HTk htk;go_upto_region 3 with fail
 refine aL (fun(_:Unit) j=>[.int .i64 ee,.agg (aH (.slice oa n c) (.slice og gn gc) x),.int .i64 ee,undef].getD j undef)
  (fun _ l wx=>wx.heap[w.heap.size]?=some (.cells (aH (.slice oa n c) (.slice og gn gc) x) 49 (0,0))/\(∃ X Y Z,wx.heap[w.heap.size+1+1+1+1]?=some (.cells (aH X Y Z) 49 (0,0)))/\(l 3=true->wx.heap[w.heap.size+1+1+1+1]?=some (.cells (aH (.slice oa n c) (.slice og gn gc) x) 49 (0,0)))/\Below w.heap.size w wx)
  kZ kZ pZ () ?_ ?_ ?_
 ·exact⟨HA.out.st,HA.out.rs,(fun h=>by cases h),HA.out.low.drew⟩
 ·intro i o ho q' l wx hR hl he K hK;rcases i with _|_|_|_|i
  ·cases ho;go_simp;exact hK () wx (fun _ _=>rfl) hR
  ·cases ho;refine wp_load_row 49 (.tmp 4) rfl w.heap.size rfl 49 (aH (.slice oa n c) (.slice og gn gc) x) (0,0) _ hR.1 Tryz.underlying49 rfl (aG _ _ _) ?_;exact hK () wx (fun _ _=>rfl) hR
  ·cases ho;go_simp;exact hK () wx (fun _ _=>rfl) hR
  ·cases ho;obtain⟨X,Y,Z,hX⟩:=hR.2.1;refine wp_store_row 49 (.tmp 9) (.tmp 42) rfl (w.heap.size+1+1+1+1) (aH (.slice oa n c) (.slice og gn gc) x) rfl rfl 49 (aH X Y Z) hX (aG _ _ _) rfl cZ ?_;have hs:=setRow_heap wx (w.heap.size+1+1+1+1) _ (aH (.slice oa n c) (.slice og gn gc) x) _ _ hX;exact hK () _ (fun _ _=>rfl) ⟨(qZ _ _ _ _ oZ).trans hR.1,⟨_,_,_,hs⟩,(fun _=>hs),below_setRow hR.2.2.2 oZ _⟩
  ·simp at ho
 ·intro q' l wx hl hR;have H4:=hJ (hR.2.2.1 (hl 3 dZ));have HRX:=hJ hR.2.2.2;clear hR hl;go_wp2_with fail
  refine tZ (v:=.tuple #[.int .i64 ee,.agg (aH (.slice oa n c) (.slice og gn gc) x)]) (bX rfl _ _ (w.heap.size+1+1+1+1) _ _ (0,0) _ _ rfl rfl H4.out Tryz.underlying49 rfl (aG _ _ _)) rfl ?_;exact⟨rfl,HRX.out⟩
theorem Cm (w:World) (oa:Option Addr) (c n:Nat) (cs:List Int) (en:cs.length=n) (hn:n<=1000000) (hU:∀ y∈cs,U y) (ha:bQ .u32 w oa (gQ cs)) (og:Option Addr) (gn gc:Nat) (x:Sx) (eg:x.aC.length=gn) (hg:eH w og x.aC) (hgl:gn<=1000) (hin:∀ s∈x.aC,oU cs s) (dd tt:Int) (ss:Nat->Int) (bk rm:Int) (kf bf:Nat) (B S:Nat->Int) (C T L:Int) (id:Int) (fo:Option Addr) (fc:Nat) (F:List ByteArray) (hF:fU w fo F) (hs:∀ x∈F,x.size<=1000000) (hFn:F.length<=1000000) (hok:iN F=0) (hdup:(bO cs id 0 x.aC).2.2=true) :
  Calls Tryz.prog 58 #[.agg (aH (.slice oa n c) (.slice og gn gc) x),.agg (au dd tt ss bk rm kf bf),.agg (ae B S C T L),.agg #[.int .u32 id,.slice fo F.length fc]] w fun e w'=>e=.returned (.tuple #[.int .i64 6,.agg (aH (.slice oa n c) (.slice og gn gc) x)])/\Below w.heap.size w w':=by
 have HTk:=hJ (fun(w':World) (hb:Below w.heap.size w w')=>mo w' fo fc F (hF.below hb) hs hFn);have HPl:=hJ (fun(w':World) (hb:Below w.heap.size w w')=>jy w' oa c n cs en hn hU (ha.below hb) og gn gc x eg (hg.below hb) hgl hin id);rw[hok] at HTk;rw[hdup] at HPl;obtain⟨p1,hp1⟩:∃ p1,p1=(bO cs id 0 x.aC).1:=⟨_,rfl⟩;obtain⟨p2,hp2⟩:∃ p2,p2=(bO cs id 0 x.aC).2.1:=⟨_,rfl⟩;rw[<- hp1,<- hp2] at HPl;clear hok hdup hp1 hp2;clear hU ha hg hin eg en hF;go_enter Tryz.func58,Tryz.ntmps58
 go_upto_region 1 with fail
 have HA:=hJ (y8.start w (.slice oa n c) (.slice og gn gc) x (au dd tt ss bk rm kf bf) B S C T L id (.slice fo F.length fc));obtain⟨w0,hw0⟩:∃ w0,w0=((((w.alloc (.cells (aH (.slice oa n c) (.slice og gn gc) x) 49)).alloc (.cells (au dd tt ss bk rm kf bf) 25)).alloc (.cells (ae B S C T L) 42)).alloc (.cells #[.int .u32 id,.slice fo F.length fc] 35)).alloc (.cells cK 49):=⟨_,rfl⟩;rw[show ((((w.alloc (.cells (aH (.slice oa n c) (.slice og gn gc) x) 49)).alloc (.cells (au dd tt ss bk rm kf bf) 25)).alloc (.cells (ae B S C T L) 42)).alloc (.cells #[.int .u32 id,.slice fo F.length fc] 35)).alloc (.cells #[.slice none 0 0,.slice none 0 0,.int .i64 0,.int .u32 0,.int .i64 0,.int .i64 0,.int .i64 0,.int .i64 0,.int .i64 0,.int .i64 0] 49)=w0 from hw0.symm];rw[<- hw0] at HA;clear hw0;have c1:w0.cell? ⟨w.heap.size+1+1+1,1,none⟩=some (.slice fo F.length fc):=aa HA.out.dc 1;go_wp2_with fail
 refine(HTk.out _ HA.out.low).mono ?_;rintro e w1 ⟨tv,rfl,htk,hb⟩;have HA:=hJ (HA.out.below hb);have HTv:=hJ htk;clear hb c1 HTk htk
 have htv:∃ tko tkn tkc,tv=Value.slice tko tkn tkc:=by
  obtain⟨q1,q2,q3⟩:=dP HTv.out _ rfl;exact⟨q1,_,q2,q3⟩
 obtain⟨tko,tkn,tkc,rfl⟩:=htv;have d0:w1.cell? ⟨w.heap.size+1+1+1,0,none⟩=some (.int .u32 id):=aa HA.out.dc 0
 go_wp2_with (first
  | (refine yZ rfl 49 (.tmp 4) rfl w.heap.size rfl 49 (aH (.slice oa n c) (.slice og gn gc) x) (0,0) _ HA.out.st Tryz.underlying49 rfl (aG _ _ _) ?_)
  | fail)
 refine(HPl.out _ HA.out.low).mono ?_;rintro e w2 ⟨rfl,hb⟩;have HA:=hJ (HA.out.below hb);have HTv:=hJ (ak HTv.out hb);clear hb HPl d0;go_upto_region 6 with fail
 refine aL (fun(_:Unit) j=>[.agg (aH (.slice oa n c) (.slice og gn gc) x),.int .i64 6,undef].getD j undef)
  (fun _ l wx=>wx.heap[w.heap.size]?=some (.cells (aH (.slice oa n c) (.slice og gn gc) x) 49 (0,0))/\(∃ X Y Z,wx.heap[w.heap.size+1+1+1+1]?=some (.cells (aH X Y Z) 49 (0,0)))/\(l 2=true->wx.heap[w.heap.size+1+1+1+1]?=some (.cells (aH (.slice oa n c) (.slice og gn gc) x) 49 (0,0)))/\Below w.heap.size w wx)
  kZ kZ pZ () ?_ ?_ ?_
 ·exact⟨HA.out.st,HA.out.rs,(fun h=>by cases h),HA.out.low.drew⟩
 ·intro i o ho q' l wx hR hl he K hK;rcases i with _|_|_|i
  ·cases ho;refine wp_load_row 49 (.tmp 4) rfl w.heap.size rfl 49 (aH (.slice oa n c) (.slice og gn gc) x) (0,0) _ hR.1 Tryz.underlying49 rfl (aG _ _ _) ?_;exact hK () wx (fun _ _=>rfl) hR
  ·cases ho;go_simp;exact hK () wx (fun _ _=>rfl) hR
  ·cases ho;obtain⟨X,Y,Z,hX⟩:=hR.2.1;refine wp_store_row 49 (.tmp 9) (.tmp 52) rfl (w.heap.size+1+1+1+1) (aH (.slice oa n c) (.slice og gn gc) x) rfl rfl 49 (aH X Y Z) hX (aG _ _ _) rfl cZ ?_;have hs:=setRow_heap wx (w.heap.size+1+1+1+1) _ (aH (.slice oa n c) (.slice og gn gc) x) _ _ hX;exact hK () _ (fun _ _=>rfl) ⟨(qZ _ _ _ _ oZ).trans hR.1,⟨_,_,_,hs⟩,(fun _=>hs),below_setRow hR.2.2.2 oZ _⟩
  ·simp at ho
 ·intro q' l wx hl hR;have H4:=hJ (hR.2.2.1 (hl 2 dZ));have HRX:=hJ hR.2.2.2;clear hR hl;go_wp2_with fail
  refine tZ (v:=.tuple #[.int .i64 6,.agg (aH (.slice oa n c) (.slice og gn gc) x)]) (bX rfl _ _ (w.heap.size+1+1+1+1) _ _ (0,0) _ _ rfl rfl H4.out Tryz.underlying49 rfl (aG _ _ _)) rfl ?_;exact⟨rfl,HRX.out⟩
theorem AJ (w:World) (oa:Option Addr) (c n:Nat) (cs:List Int) (en:cs.length=n) (hn:n<=1000000) (hU:∀ y∈cs,U y) (ha:bQ .u32 w oa (gQ cs)) (og:Option Addr) (gn gc:Nat) (x:Sx) (eg:x.aC.length=gn) (hg:eH w og x.aC) (hgl:gn<=1000) (hin:∀ s∈x.aC,oU cs s) (dd tt:Int) (ss:Nat->Int) (bk rm:Int) (kf bf:Nat) (B S:Nat->Int) (C T L:Int) (id:Int) (fo:Option Addr) (fc:Nat) (F:List ByteArray) (hF:fU w fo F) (hs:∀ x∈F,x.size<=1000000) (hFn:F.length<=1000000) {s:Sg} (hlive:x.aC[gn-1]?=some s) (hok:iN F=0) (hno:(bO cs id 0 x.aC).2.2=false) (hseg:dd<=s.2.1) :
  Calls Tryz.prog 58 #[.agg (aH (.slice oa n c) (.slice og gn gc) x),.agg (au dd tt ss bk rm kf bf),.agg (ae B S C T L),.agg #[.int .u32 id,.slice fo F.length fc]] w fun e w'=>e=.returned (.tuple #[.int .i64 5,.agg (aH (.slice oa n c) (.slice og gn gc) x)])/\Below w.heap.size w w':=by
 have hl0:0<gn:=by have:=(eZ.1 hlive).1;omega
 obtain⟨gb,ob,hog,q1,q2,q3⟩:=hg (gn-1) s hlive;subst hog;have HSg:=hJ (And.intro q1 (And.intro q2 q3));have k1:IntKind.i64.wrap ((gn:Int)-1)=((gn-1:Nat):Int):=by rw[iZ _ oZ];omega
 have k2:((gn-1:Nat):Int)<(gn:Int):=oZ;have k3:(0:Int)<=((gn-1:Nat):Int):=oZ;obtain⟨gl,hgl1⟩:∃ gl,gl=gn-1:=⟨_,rfl⟩;rw[<- hgl1] at k1 k2 k3 HSg;have HTk:=hJ (fun(w':World) (hb:Below w.heap.size w w')=>mo w' fo fc F (hF.below hb) hs hFn);have HPl:=hJ (fun(w':World) (hb:Below w.heap.size w w')=>jy w' oa c n cs en hn hU (ha.below hb) (some ⟨gb,ob,none⟩) gn gc x eg (hg.below hb) hgl hin id);rw[hok] at HTk;rw[hno] at HPl;obtain⟨p1,hp1⟩:∃ p1,p1=(bO cs id 0 x.aC).1:=⟨_,rfl⟩;obtain⟨p2,hp2⟩:∃ p2,p2=(bO cs id 0 x.aC).2.1:=⟨_,rfl⟩;rw[<- hp1,<- hp2] at HPl;clear hok hno hp1 hp2 hlive q1 q2 q3 hgl1;clear hU ha hg hin eg en hF;go_enter Tryz.func58,Tryz.ntmps58
 go_upto_region 1 with fail
 have HA:=hJ (y8.start w (.slice oa n c) (.slice (some ⟨gb,ob,none⟩) gn gc) x (au dd tt ss bk rm kf bf) B S C T L id (.slice fo F.length fc));obtain⟨w0,hw0⟩:∃ w0,w0=((((w.alloc (.cells (aH (.slice oa n c) (.slice (some ⟨gb,ob,none⟩) gn gc) x) 49)).alloc (.cells (au dd tt ss bk rm kf bf) 25)).alloc (.cells (ae B S C T L) 42)).alloc (.cells #[.int .u32 id,.slice fo F.length fc] 35)).alloc (.cells cK 49):=⟨_,rfl⟩;rw[show ((((w.alloc (.cells (aH (.slice oa n c) (.slice (some ⟨gb,ob,none⟩) gn gc) x) 49)).alloc (.cells (au dd tt ss bk rm kf bf) 25)).alloc (.cells (ae B S C T L) 42)).alloc (.cells #[.int .u32 id,.slice fo F.length fc] 35)).alloc (.cells #[.slice none 0 0,.slice none 0 0,.int .i64 0,.int .u32 0,.int .i64 0,.int .i64 0,.int .i64 0,.int .i64 0,.int .i64 0,.int .i64 0] 49)=w0 from hw0.symm];rw[<- hw0] at HA;clear hw0;have c1:w0.cell? ⟨w.heap.size+1+1+1,1,none⟩=some (.slice fo F.length fc):=aa HA.out.dc 1;go_wp2_with fail
 refine(HTk.out _ HA.out.low).mono ?_;rintro e w1 ⟨tv,rfl,htk,hb⟩;have HA:=hJ (HA.out.below hb);have HTv:=hJ htk;clear hb c1 HTk htk
 have htv:∃ tko tkn tkc,tv=Value.slice tko tkn tkc:=by
  obtain⟨q1,q2,q3⟩:=dP HTv.out _ rfl;exact⟨q1,_,q2,q3⟩
 obtain⟨tko,tkn,tkc,rfl⟩:=htv;have d0:w1.cell? ⟨w.heap.size+1+1+1,0,none⟩=some (.int .u32 id):=aa HA.out.dc 0
 go_wp2_with (first
  | (refine yZ rfl 49 (.tmp 4) rfl w.heap.size rfl 49 (aH (.slice oa n c) (.slice (some ⟨gb,ob,none⟩) gn gc) x) (0,0) _ HA.out.st Tryz.underlying49 rfl (aG _ _ _) ?_)
  | fail)
 refine(HPl.out _ HA.out.low).mono ?_;rintro e w2 ⟨rfl,hb⟩;have HA:=hJ (HA.out.below hb);have HTv:=hJ (ak HTv.out hb);clear hb HPl d0;have c0:w2.cell? ⟨w.heap.size,1,none⟩=some (.slice (some ⟨gb,ob,none⟩) gn gc):=aa HA.out.st 1;have l1:=az HSg.out.1 HA.out.low;have l2:=az HSg.out.2.1 HA.out.low;have l3:=az HSg.out.2.2 HA.out.low;have cd:w2.cell? ⟨w.heap.size+1,0,none⟩=some (.int .i64 dd):=aa HA.out.cf 0;go_upto_region 8 with fail
 have hb3:=aj (w:=w2) (A:=.cells #[.int .i64 s.1,.int .i64 s.2.1,.bool s.2.2] 65);have HA3:=hJ (HA.out.below hb3);have HTv3:=hJ (ak HTv.out hb3);have HLv:=hJ (nZ w2 (.cells #[.int .i64 s.1,.int .i64 s.2.1,.bool s.2.2] 65));generalize w2.alloc (.cells #[.int .i64 s.1,.int .i64 s.2.1,.bool s.2.2] 65)=w3 at HA3 HTv3 HLv ⊢;obtain⟨qb,hqb⟩:∃ qb,qb=w2.heap.size:=⟨_,rfl⟩;rw[<- hqb] at HLv ⊢;clear hb3 hqb c0 l1 l2 l3 cd HA HTv;have l2:w3.cell? ⟨qb,1,none⟩=some (.int .i64 s.2.1):=aa HLv.out 1;have cd:w3.cell? ⟨w.heap.size+1,0,none⟩=some (.int .i64 dd):=aa HA3.out.cf 0;have hge:dd<=s.2.1:=hseg;go_upto_region 9 with fail
 refine aL (fun(_:Unit) j=>[.agg (aH (.slice oa n c) (.slice (some ⟨gb,ob,none⟩) gn gc) x),.int .i64 5,undef].getD j undef)
  (fun _ l wx=>wx.heap[w.heap.size]?=some (.cells (aH (.slice oa n c) (.slice (some ⟨gb,ob,none⟩) gn gc) x) 49 (0,0))/\(∃ X Y Z,wx.heap[w.heap.size+1+1+1+1]?=some (.cells (aH X Y Z) 49 (0,0)))/\(l 2=true->wx.heap[w.heap.size+1+1+1+1]?=some (.cells (aH (.slice oa n c) (.slice (some ⟨gb,ob,none⟩) gn gc) x) 49 (0,0)))/\Below w.heap.size w wx)
  kZ kZ pZ () ?_ ?_ ?_
 ·exact⟨HA3.out.st,HA3.out.rs,(fun h=>by cases h),HA3.out.low.drew⟩
 ·intro i o ho q' l wx hR hl he K hK;rcases i with _|_|_|i
  ·cases ho;refine wp_load_row 49 (.tmp 4) rfl w.heap.size rfl 49 (aH (.slice oa n c) (.slice (some ⟨gb,ob,none⟩) gn gc) x) (0,0) _ hR.1 Tryz.underlying49 rfl (aG _ _ _) ?_;exact hK () wx (fun _ _=>rfl) hR
  ·cases ho;go_simp;exact hK () wx (fun _ _=>rfl) hR
  ·cases ho;obtain⟨X,Y,Z,hX⟩:=hR.2.1;refine wp_store_row 49 (.tmp 9) (.tmp 68) rfl (w.heap.size+1+1+1+1) (aH (.slice oa n c) (.slice (some ⟨gb,ob,none⟩) gn gc) x) rfl rfl 49 (aH X Y Z) hX (aG _ _ _) rfl cZ ?_;have hs:=setRow_heap wx (w.heap.size+1+1+1+1) _ (aH (.slice oa n c) (.slice (some ⟨gb,ob,none⟩) gn gc) x) _ _ hX;exact hK () _ (fun _ _=>rfl) ⟨(qZ _ _ _ _ oZ).trans hR.1,⟨_,_,_,hs⟩,(fun _=>hs),below_setRow hR.2.2.2 oZ _⟩
  ·simp at ho
 ·intro q' l wx hl hR;have H4:=hJ (hR.2.2.1 (hl 2 dZ));have HRX:=hJ hR.2.2.2;clear hR hl;go_wp2_with fail
  refine tZ (v:=.tuple #[.int .i64 5,.agg (aH (.slice oa n c) (.slice (some ⟨gb,ob,none⟩) gn gc) x)]) (bX rfl _ _ (w.heap.size+1+1+1+1) _ _ (0,0) _ _ rfl rfl H4.out Tryz.underlying49 rfl (aG _ _ _)) rfl ?_;exact⟨rfl,HRX.out⟩
end Go.Proofs.YtafaohnhlgcnpaaGreatDoor
