/-
 What stage 12 rests on.
-/
import Derived.Test.YtafaohnhlgcnpaaGreatDoorWrAlE1
import Derived.Test.YtafaohnhlgcnpaaGreatDoorWrAlD2
set_option maxRecDepth 100000
set_option maxHeartbeats 16000000
namespace Go.Proofs.YtafaohnhlgcnpaaGreatDoor
open Go.RowKit
theorem bX {P:Program} {fn:Func} {p r:Tmp} {ty:TypeId} (h:fn.results=#[.tmp r,.cell p ty]) (tmps:Array Value) (w:World) (g:Nat) (t:TypeId) (cs:Array Value) (fr:Nat×Nat) (d:TypeDesc) (u:Value)
  (hr:tmps.getD r undef=u) (hp:tmps.getD p undef=.pointer (some ⟨g,0,none⟩)) (hg:w.heap[g]?=some (.cells cs t fr))
  (hu:P.underlying ty=some d) (hd:(match d with | .struct _ | .array _ _=>true | _=>false)=true) (hi:(P.info? ty).map (·.size)=some cs.size) :
  (results fn tmps).run P w=.ok (.tuple #[u,.agg cs]) w:=by
 have hp':tmps[p]?.getD undef=.pointer (some ⟨g,0,none⟩):=by simpa using hp
 have hr':tmps[r]?.getD undef=u:=by simpa using hr
 simp[results,h,hp',hr',asAddr,run_loadVar_row w g t ty cs fr d hg hu hd hi]
def cK:Array Value:=aH (.slice none 0 0) (.slice none 0 0) ⟨[],0,0,fun _=>0⟩
theorem uG (w:World) (oa:Option Addr) (c n:Nat) (cs:List Int) (en:cs.length=n) (hn:n<=1000000) (hU:∀ y∈cs,U y) (ha:bQ .u32 w oa (gQ cs)) (og:Option Addr) (gn gc:Nat) (x:Sx) (eg:x.aC.length=gn) (hg:eH w og x.aC) (hgl:gn<=1000) (hin:∀ s∈x.aC,oU cs s) (id:Int) (hno:(bO cs id 0 x.aC).2.2=false) :
  Calls Tryz.prog 57 #[.agg (aH (.slice oa n c) (.slice og gn gc) x),.int .u32 id] w fun e w'=>e=.returned (.tuple #[.int .i64 7,.agg (aH (.slice oa n c) (.slice og gn gc) x)])/\Below w.heap.size w w':=by
 have HPl:=hJ (fun(w':World) (hb:Below w.heap.size w w')=>jy w' oa c n cs en hn hU (ha.below hb) og gn gc x eg (hg.below hb) hgl hin id);rw[hno] at HPl;obtain⟨p1,hp1⟩:∃ p1,p1=(bO cs id 0 x.aC).1:=⟨_,rfl⟩;obtain⟨p2,hp2⟩:∃ p2,p2=(bO cs id 0 x.aC).2.1:=⟨_,rfl⟩;rw[<- hp1,<- hp2] at HPl;clear hU ha hg hin hno hp1 hp2 eg en;go_enter Tryz.func57,Tryz.ntmps57
 go_upto_region 1 with fail
 obtain⟨w0,hw0⟩:∃ w0,w0=(w.alloc (.cells (aH (.slice oa n c) (.slice og gn gc) x) 49)).alloc (.cells cK 49):=⟨_,rfl⟩;rw[show (w.alloc (.cells (aH (.slice oa n c) (.slice og gn gc) x) 49)).alloc (.cells #[.slice none 0 0,.slice none 0 0,.int .i64 0,.int .u32 0,.int .i64 0,.int .i64 0,.int .i64 0,.int .i64 0,.int .i64 0,.int .i64 0] 49)=w0 from hw0.symm];have HX:=hJ (show w0.heap[w.heap.size]?=some (.cells (aH (.slice oa n c) (.slice og gn gc) x) 49 (0,0)) by rw[hw0];exact ed _ _ _);have HY:=hJ (show w0.heap[w.heap.size+1]?=some (.cells cK 49 (0,0)) by rw[hw0];exact eO _ _ _);have HB:=hJ (show Below w.heap.size w w0 by rw[hw0];exact dh);clear hw0
 go_wp2_with (first
  | (refine yZ rfl 49 (.tmp 2) rfl w.heap.size rfl 49 (aH (.slice oa n c) (.slice og gn gc) x) (0,0) _ HX.out Tryz.underlying49 rfl (aG _ _ _) ?_)
  | fail)
 refine(HPl.out _ HB.out).mono ?_;rintro e w1 ⟨rfl,hb⟩;have HX:=hJ ((hb.block _ (lt_of_heap HX.out)).trans HX.out);have HY:=hJ ((hb.block _ (lt_of_heap HY.out)).trans HY.out);have HB:=hJ (ag HB.out hb);clear hb HPl;go_upto_region 3 with fail
 refine aL (fun(_:Unit) j=>[.agg (aH (.slice oa n c) (.slice og gn gc) x),.int .i64 7,undef].getD j undef)
  (fun _ l wx=>wx.heap[w.heap.size]?=some (.cells (aH (.slice oa n c) (.slice og gn gc) x) 49 (0,0))/\(∃ X Y Z,wx.heap[w.heap.size+1]?=some (.cells (aH X Y Z) 49 (0,0)))/\(l 2=true->wx.heap[w.heap.size+1]?=some (.cells (aH (.slice oa n c) (.slice og gn gc) x) 49 (0,0)))/\Below w.heap.size w wx/\True)
  kZ kZ pZ () ?_ ?_ ?_
 ·exact⟨HX.out,⟨_,_,_,HY.out⟩,(fun h=>by cases h),HB.out.drew,trivial⟩
 ·intro i o ho q' l wx hR hl he K hK;rcases i with _|_|_|i
  ·cases ho;refine wp_load_row 49 (.tmp 2) rfl (w.heap.size) rfl 49 (aH (.slice oa n c) (.slice og gn gc) x) (0,0) _ hR.1 Tryz.underlying49 rfl (aG _ _ _) ?_;exact hK () wx (fun _ _=>rfl) hR
  ·cases ho;go_simp;exact hK () wx (fun _ _=>rfl) hR
  ·cases ho;obtain⟨X,Y,Z,hX⟩:=hR.2.1;refine wp_store_row 49 (.tmp 5) (.tmp 20) rfl (w.heap.size+1) (aH (.slice oa n c) (.slice og gn gc) x) rfl rfl 49 (aH X Y Z) hX (aG _ _ _) rfl cZ ?_;have hs:=setRow_heap wx (w.heap.size+1) _ (aH (.slice oa n c) (.slice og gn gc) x) _ _ hX;exact hK () _ (fun _ _=>rfl) ⟨(qZ _ _ _ _ oZ).trans hR.1,⟨_,_,_,hs⟩,(fun _=>hs),below_setRow hR.2.2.2.1 oZ _,trivial⟩
  ·simp at ho
 ·intro q' l wx hl hR;have H4:=hJ (hR.2.2.1 (hl 2 dZ));have HRX:=hJ hR.2.2.2;clear hR hl;go_wp2_with fail
  refine tZ (v:=.tuple #[.int .i64 7,.agg (aH (.slice oa n c) (.slice og gn gc) x)]) (bX rfl _ _ (w.heap.size+1) _ _ (0,0) _ _ rfl rfl H4.out Tryz.underlying49 rfl (aG _ _ _)) rfl ?_;exact⟨rfl,HRX.out.1⟩
theorem uJ (w:World) (oa:Option Addr) (c n:Nat) (cs:List Int) (en:cs.length=n) (hn:n<=1000000) (hU:∀ y∈cs,U y) (ha:bQ .u32 w oa (gQ cs)) (og:Option Addr) (gn gc:Nat) (x:Sx) (eg:x.aC.length=gn) (hg:eH w og x.aC) (hgl:gn<=1000) (hin:∀ s∈x.aC,oU cs s) (id:Int) {i d a:Nat} {s:Sg} (hpl:bO cs id 0 x.aC=((i:Int),(d:Int),true)) (hs:x.aC[i]?=some s) (hd:d<=1000000) (hae:bP s+4*(d:Int)+3=(a:Int)) (han:a<n) (hdead:cs.getD a 0≠0) :
  Calls Tryz.prog 57 #[.agg (aH (.slice oa n c) (.slice og gn gc) x),.int .u32 id] w fun e w'=>e=.returned (.tuple #[.int .i64 7,.agg (aH (.slice oa n c) (.slice og gn gc) x)])/\Below w.heap.size w w':=by
 have HPl:=hJ (fun(w':World) (hb:Below w.heap.size w w')=>jy w' oa c n cs en hn hU (ha.below hb) og gn gc x eg (hg.below hb) hgl hin id);rw[hpl] at HPl;have hsin:=hin s (List.mem_of_getElem? hs);have hgn:i<gn:=by rw[<- eg];exact(eZ.1 hs).1
 have hgn1:(i:Int)<(gn:Int):=oZ;have HBase:=hJ (fun w=>mU w s (by have:=hsin.1;omega) (by have:=hsin.2.1;omega));obtain⟨gb,ob,hog,q1,q2,q3⟩:=hg i s hs;subst hog;have HSg:=hJ (And.intro q1 (And.intro q2 q3));obtain⟨y,hy,hy2,_⟩:=jG hU (show a<cs.length by omega);obtain⟨gc0,oc0,hoa,hcell⟩:=ha a y hy;subst hoa;have HCell:=hJ hcell;have b0:0<=bP s:=by unfold bP;have:=hsin.1;split <;> omega
 have b1:bP s<=2000000:=by unfold bP;have:=hsin.2.1;split <;> omega
 obtain⟨bz,hbz⟩:∃ bz,bz=bP s:=⟨_,rfl⟩;rw[<- hbz] at HBase hae b0 b1;have s1:IntKind.i64.wrap (4*(d:Int))=4*(d:Int):=iZ _ oZ;have s2:IntKind.i64.wrap (bz+4*(d:Int))=bz+4*(d:Int):=iZ _ oZ;have s3:IntKind.i64.wrap (bz+4*(d:Int)+3)=(a:Int):=by rw[hae];exact iZ _ oZ
 have han1:(a:Int)<(n:Int):=oZ;have by0:((y:Int) != 0)=true:=by rw[hy2] at hdead;simpa using hdead
 clear hU ha hg hin hpl hs eg en hsin q1 q2 q3 hy hy2 hcell hbz hdead hgl;go_enter Tryz.func57,Tryz.ntmps57
 go_upto_region 1 with fail
 obtain⟨w0,hw0⟩:∃ w0,w0=(w.alloc (.cells (aH (.slice (some ⟨gc0,oc0,none⟩) n c) (.slice (some ⟨gb,ob,none⟩) gn gc) x) 49)).alloc (.cells cK 49):=⟨_,rfl⟩;rw[show (w.alloc (.cells (aH (.slice (some ⟨gc0,oc0,none⟩) n c) (.slice (some ⟨gb,ob,none⟩) gn gc) x) 49)).alloc (.cells #[.slice none 0 0,.slice none 0 0,.int .i64 0,.int .u32 0,.int .i64 0,.int .i64 0,.int .i64 0,.int .i64 0,.int .i64 0,.int .i64 0] 49)=w0 from hw0.symm];have HX:=hJ (show w0.heap[w.heap.size]?=some (.cells (aH (.slice (some ⟨gc0,oc0,none⟩) n c) (.slice (some ⟨gb,ob,none⟩) gn gc) x) 49 (0,0)) by rw[hw0];exact ed _ _ _);have HY:=hJ (show w0.heap[w.heap.size+1]?=some (.cells cK 49 (0,0)) by rw[hw0];exact eO _ _ _);have HB:=hJ (show Below w.heap.size w w0 by rw[hw0];exact dh);clear hw0
 go_wp2_with (first
  | (refine yZ rfl 49 (.tmp 2) rfl w.heap.size rfl 49 (aH (.slice (some ⟨gc0,oc0,none⟩) n c) (.slice (some ⟨gb,ob,none⟩) gn gc) x) (0,0) _ HX.out Tryz.underlying49 rfl (aG _ _ _) ?_)
  | fail)
 refine(HPl.out _ HB.out).mono ?_;rintro e w1 ⟨rfl,hb⟩;have HX:=hJ ((hb.block _ (lt_of_heap HX.out)).trans HX.out);have HY:=hJ ((hb.block _ (lt_of_heap HY.out)).trans HY.out);have HB:=hJ (ag HB.out hb);clear hb HPl;have k1:=az HSg.out.1 HB.out;have k2:=az HSg.out.2.1 HB.out;have k3:=az HSg.out.2.2 HB.out;have kc:=az HCell.out HB.out;have c0:w1.cell? ⟨w.heap.size,0,none⟩=some (.slice (some ⟨gc0,oc0,none⟩) n c):=aa HX.out 0;have c1:w1.cell? ⟨w.heap.size,1,none⟩=some (.slice (some ⟨gb,ob,none⟩) gn gc):=aa HX.out 1;go_wp2_with fail
 refine(HBase.out _).mono ?_;rintro e w2 ⟨rfl,hb⟩;have HX:=hJ ((hb.block _ (lt_of_heap HX.out)).trans HX.out);have HY:=hJ ((hb.block _ (lt_of_heap HY.out)).trans HY.out);have HB:=hJ (ag HB.out hb);have kc:=az kc hb;have c0:w2.cell? ⟨w.heap.size,0,none⟩=some (.slice (some ⟨gc0,oc0,none⟩) n c):=aa HX.out 0;clear hb HBase k1 k2 k3 c1;go_upto_region 6 with fail
 clear kc c0
 refine aL (fun(_:Unit) j=>[.agg (aH (.slice (some ⟨gc0,oc0,none⟩) n c) (.slice (some ⟨gb,ob,none⟩) gn gc) x),.int .i64 7,undef].getD j undef)
  (fun _ l wx=>wx.heap[w.heap.size]?=some (.cells (aH (.slice (some ⟨gc0,oc0,none⟩) n c) (.slice (some ⟨gb,ob,none⟩) gn gc) x) 49 (0,0))/\(∃ X Y Z,wx.heap[w.heap.size+1]?=some (.cells (aH X Y Z) 49 (0,0)))/\(l 2=true->wx.heap[w.heap.size+1]?=some (.cells (aH (.slice (some ⟨gc0,oc0,none⟩) n c) (.slice (some ⟨gb,ob,none⟩) gn gc) x) 49 (0,0)))/\Below w.heap.size w wx/\True)
  kZ kZ pZ () ?_ ?_ ?_
 ·exact⟨HX.out,⟨_,_,_,HY.out⟩,(fun h=>by cases h),HB.out.drew,trivial⟩
 ·intro i o ho q' l wx hR hl he K hK;rcases i with _|_|_|i
  ·cases ho;refine wp_load_row 49 (.tmp 2) rfl (w.heap.size) rfl 49 (aH (.slice (some ⟨gc0,oc0,none⟩) n c) (.slice (some ⟨gb,ob,none⟩) gn gc) x) (0,0) _ hR.1 Tryz.underlying49 rfl (aG _ _ _) ?_;exact hK () wx (fun _ _=>rfl) hR
  ·cases ho;go_simp;exact hK () wx (fun _ _=>rfl) hR
  ·cases ho;obtain⟨X,Y,Z,hX⟩:=hR.2.1;refine wp_store_row 49 (.tmp 5) (.tmp 38) rfl (w.heap.size+1) (aH (.slice (some ⟨gc0,oc0,none⟩) n c) (.slice (some ⟨gb,ob,none⟩) gn gc) x) rfl rfl 49 (aH X Y Z) hX (aG _ _ _) rfl cZ ?_;have hs:=setRow_heap wx (w.heap.size+1) _ (aH (.slice (some ⟨gc0,oc0,none⟩) n c) (.slice (some ⟨gb,ob,none⟩) gn gc) x) _ _ hX;exact hK () _ (fun _ _=>rfl) ⟨(qZ _ _ _ _ oZ).trans hR.1,⟨_,_,_,hs⟩,(fun _=>hs),below_setRow hR.2.2.2.1 oZ _,trivial⟩
  ·simp at ho
 ·intro q' l wx hl hR;have H4:=hJ (hR.2.2.1 (hl 2 dZ));have HRX:=hJ hR.2.2.2;clear hR hl;go_wp2_with fail
  refine tZ (v:=.tuple #[.int .i64 7,.agg (aH (.slice (some ⟨gc0,oc0,none⟩) n c) (.slice (some ⟨gb,ob,none⟩) gn gc) x)]) (bX rfl _ _ (w.heap.size+1) _ _ (0,0) _ _ rfl rfl H4.out Tryz.underlying49 rfl (aG _ _ _)) rfl ?_;exact⟨rfl,HRX.out.1⟩
theorem uD (w:World) (oa:Option Addr) (c n:Nat) (cs:List Int) (en:cs.length=n) (hn:n<=1000000) (hU:∀ y∈cs,U y) (ha:bQ .u32 w oa (gQ cs)) (og:Option Addr) (gn gc:Nat) (x:Sx) (eg:x.aC.length=gn) (hg:eH w og x.aC) (hgl:gn<=1000) (hin:∀ s∈x.aC,oU cs s) (id:Int) {i d a:Nat} {s:Sg} (hpl:bO cs id 0 x.aC=((i:Int),(d:Int),true)) (hs:x.aC[i]?=some s) (hd:d<=1000000) (hae:bP s+4*(d:Int)+3=(a:Int)) (han:a<n) (hlive:cs.getD a 0=0) (hn2:2<=n) :
  Calls Tryz.prog 57 #[.agg (aH (.slice oa n c) (.slice og gn gc) x),.int .u32 id] w fun e w'=>∃ g vs,e=.returned (.tuple #[.int .i64 0,.agg (aH (.slice (some ⟨g,0,none⟩) n n) vs {x with bT:=u32 (x.bT+1)})])/\cB w' g ((cs.set a (u32 (x.bT+1))).set 1 (u32 (x.bT+1)))/\bn w' w.heap.size vs x.aC/\Below w.heap.size w w'/\w.heap.size<=g:=by
 have HPl:=hJ (fun(w':World) (hb:Below w.heap.size w w')=>jy w' oa c n cs en hn hU (ha.below hb) og gn gc x eg (hg.below hb) hgl hin id);rw[hpl] at HPl;have hsin:=hin s (List.mem_of_getElem? hs);have hgn:i<gn:=by rw[<- eg];exact(eZ.1 hs).1
 have hgn1:(i:Int)<(gn:Int):=oZ;have HBase:=hJ (fun w=>mU w s (by have:=hsin.1;omega) (by have:=hsin.2.1;omega));obtain⟨gb,ob,hog,q1,q2,q3⟩:=hg i s hs;subst hog;have HSg:=hJ (And.intro q1 (And.intro q2 q3));obtain⟨y,hy,hy2,_⟩:=jG hU (show a<cs.length by omega);obtain⟨gc0,oc0,hoa,hcell⟩:=ha a y hy;subst hoa;have HCell:=hJ hcell;have b0:0<=bP s:=by unfold bP;have:=hsin.1;split <;> omega
 have b1:bP s<=2000000:=by unfold bP;have:=hsin.2.1;split <;> omega
 obtain⟨bz,hbz⟩:∃ bz,bz=bP s:=⟨_,rfl⟩;rw[<- hbz] at HBase hae b0 b1;have s1:IntKind.i64.wrap (4*(d:Int))=4*(d:Int):=iZ _ oZ;have s2:IntKind.i64.wrap (bz+4*(d:Int))=bz+4*(d:Int):=iZ _ oZ;have s3:IntKind.i64.wrap (bz+4*(d:Int)+3)=(a:Int):=by rw[hae];exact iZ _ oZ
 have han1:(a:Int)<(n:Int):=oZ;have hy0:(y:Int)=0:=by rw[hy2] at hlive;exact hlive
 have by0:((y:Int) != 0)=false:=by rw[hy0];rfl
 have HCo:=hJ (fun(w':World) (hb:Below w.heap.size w w')=>wN w' (some ⟨gc0,oc0,none⟩) c n cs en hn hU (ha.below hb) (some ⟨gb,ob,none⟩) gn gc x eg (hg.below hb) oZ hgl);have HEn:=hJ en;have HEg:=hJ eg;obtain⟨v,hv⟩:∃ v,v=u32 (x.bT+1):=⟨_,rfl⟩;rw[<- hv];have s4:IntKind.u32.wrap (x.bT+1)=v:=hv.symm;clear hU ha hg hin hpl hs eg en hsin q1 q2 q3 hy hy2 hcell hbz hlive hgl hy0 hv;go_enter Tryz.func57,Tryz.ntmps57
 go_upto_region 1 with fail
 obtain⟨w0,hw0⟩:∃ w0,w0=(w.alloc (.cells (aH (.slice (some ⟨gc0,oc0,none⟩) n c) (.slice (some ⟨gb,ob,none⟩) gn gc) x) 49)).alloc (.cells cK 49):=⟨_,rfl⟩;rw[show (w.alloc (.cells (aH (.slice (some ⟨gc0,oc0,none⟩) n c) (.slice (some ⟨gb,ob,none⟩) gn gc) x) 49)).alloc (.cells #[.slice none 0 0,.slice none 0 0,.int .i64 0,.int .u32 0,.int .i64 0,.int .i64 0,.int .i64 0,.int .i64 0,.int .i64 0,.int .i64 0] 49)=w0 from hw0.symm];have HX:=hJ (show w0.heap[w.heap.size]?=some (.cells (aH (.slice (some ⟨gc0,oc0,none⟩) n c) (.slice (some ⟨gb,ob,none⟩) gn gc) x) 49 (0,0)) by rw[hw0];exact ed _ _ _);have HY:=hJ (show w0.heap[w.heap.size+1]?=some (.cells cK 49 (0,0)) by rw[hw0];exact eO _ _ _);have HB:=hJ (show Below w.heap.size w w0 by rw[hw0];exact dh);clear hw0
 go_wp2_with (first
  | (refine yZ rfl 49 (.tmp 2) rfl w.heap.size rfl 49 (aH (.slice (some ⟨gc0,oc0,none⟩) n c) (.slice (some ⟨gb,ob,none⟩) gn gc) x) (0,0) _ HX.out Tryz.underlying49 rfl (aG _ _ _) ?_)
  | fail)
 refine(HPl.out _ HB.out).mono ?_;rintro e w1 ⟨rfl,hb⟩;have HX:=hJ ((hb.block _ (lt_of_heap HX.out)).trans HX.out);have HY:=hJ ((hb.block _ (lt_of_heap HY.out)).trans HY.out);have HB:=hJ (ag HB.out hb);clear hb HPl;have k1:=az HSg.out.1 HB.out;have k2:=az HSg.out.2.1 HB.out;have k3:=az HSg.out.2.2 HB.out;have kc:=az HCell.out HB.out;have c0:w1.cell? ⟨w.heap.size,0,none⟩=some (.slice (some ⟨gc0,oc0,none⟩) n c):=aa HX.out 0;have c1:w1.cell? ⟨w.heap.size,1,none⟩=some (.slice (some ⟨gb,ob,none⟩) gn gc):=aa HX.out 1;go_wp2_with fail
 refine(HBase.out _).mono ?_;rintro e w2 ⟨rfl,hb⟩;have HX:=hJ ((hb.block _ (lt_of_heap HX.out)).trans HX.out);have HY:=hJ ((hb.block _ (lt_of_heap HY.out)).trans HY.out);have HB:=hJ (ag HB.out hb);have kc:=az kc hb;have c0:w2.cell? ⟨w.heap.size,0,none⟩=some (.slice (some ⟨gc0,oc0,none⟩) n c):=aa HX.out 0;clear hb HBase k1 k2 k3 c1;go_upto_region 7 with fail
 go_wp2_with (first
  | (refine yZ rfl 49 (.tmp 2) rfl w.heap.size rfl 49 (aH (.slice (some ⟨gc0,oc0,none⟩) n c) (.slice (some ⟨gb,ob,none⟩) gn gc) x) (0,0) _ HX.out Tryz.underlying49 rfl (aG _ _ _) ?_)
  | fail)
 refine(HCo.out _ HB.out).mono ?_;rintro e w3 ⟨g,vs,rfl,hgz,hrow,hown,hb⟩;obtain⟨so,sc,hvs⟩:=jV hown gn HEg.out;subst hvs;have hzs:=HB.out.size;have hw2:w.heap.size+1<w2.heap.size:=lt_of_heap HY.out;have HY:=hJ ((hb.block _ (lt_of_heap HY.out)).trans HY.out);have HB:=hJ (ag HB.out hb);have HR:=hJ hrow
 have HO:=hJ (show bn w3 w.heap.size (.slice so gn sc) x.aC by
  obtain⟨h0,h | ⟨g',cap,cur,k1,k2,k3,k4⟩⟩:=hown
  ·exact⟨h0,.inl h⟩
  ·exact⟨h0,.inr ⟨g',cap,cur,k1,oZ,k3,k4⟩⟩)
 have hwg:w.heap.size+1<g:=oZ;clear hb hrow hown HX kc c0 HCo
 go_upto_region 8 with (first
  | (refine zZ rfl 49 (.tmp 10) (.tmp 40) rfl w3.heap.size (aH (.slice (some ⟨g,0,none⟩) n n) (.slice so gn sc) x) rfl rfl 49 cK (nZ w3 _) (aG _ _ _) rfl cZ ?_)
  | fail)
 rw[World.setRow_alloc_new];have hb4:=aj (w:=w3) (A:=.cells (aH (.slice (some ⟨g,0,none⟩) n n) (.slice so gn sc) x) 49);have hg3:=HR.out.lt;have HT:=hJ (nZ w3 (.cells (aH (.slice (some ⟨g,0,none⟩) n n) (.slice so gn sc) x) 49));have HY:=hJ ((hb4.block _ (lt_of_heap HY.out)).trans HY.out);have HB:=hJ (ag HB.out hb4);have HR:=hJ (HR.out.below hb4);have HO:=hJ (show bn (w3.alloc (.cells (aH (.slice (some ⟨g,0,none⟩) n n) (.slice so gn sc) x) 49)) w.heap.size (.slice so gn sc) x.aC from ak HO.out hb4);generalize w3.alloc (.cells (aH (.slice (some ⟨g,0,none⟩) n n) (.slice so gn sc) x) 49)=w4 at HT HY HB HR HO ⊢;obtain⟨T,hT⟩:∃ T,T=w3.heap.size:=⟨_,rfl⟩;rw[<- hT] at HT hg3 ⊢;clear hb4 hT;have c3:w4.cell? ⟨T,3,none⟩=some (.int .u32 x.bT):=aa HT.out 3;have f3:=free_at HT.out 3;go_upto_region 9 with fail
 have HT5:=hJ (show (w4.setCell ⟨T,3,none⟩ (.int .u32 v)).heap[T]?=some (.cells (aH (.slice (some ⟨g,0,none⟩) n n) (.slice so gn sc) {x with bT:=v}) 49 (0,0)) by
  rw[heap_setCell_same _ _ _ _ _ _ HT.out];rfl)
 have HY5:=hJ ((Below.heap_setCell w4 ⟨T,3,none⟩ (.int .u32 v) (w.heap.size+1) (show w.heap.size+1≠T by omega)).trans HY.out);have HB5:=hJ (dD HB.out (show w.heap.size<=T by omega) 3 (.int .u32 v));have HR5:=hJ (HR.out.of_block (Below.heap_setCell w4 ⟨T,3,none⟩ (.int .u32 v) g (show g≠T by omega)));have HO5:=hJ (HO.out.keep HT.out dZ (fun j hj=>Below.heap_setCell w4 ⟨T,3,none⟩ (.int .u32 v) j hj));clear c3 f3 HT HY HB HR HO;generalize w4.setCell ⟨T,3,none⟩ (.int .u32 v)=w5 at HT5 HY5 HB5 HR5 HO5 ⊢;have c0:w5.cell? ⟨T,0,none⟩=some (.slice (some ⟨g,0,none⟩) n n):=aa HT5.out 0;have c3:w5.cell? ⟨T,3,none⟩=some (.int .u32 v):=aa HT5.out 3;have fa:=HR5.out.frozen a;have ca:=HR5.out.cell (a:=a) (by rw[HEn.out];exact han);go_upto_region 10 with fail
 have HT6:=hJ ((Below.heap_setCell w5 ⟨g,a,none⟩ (.int .u32 v) T (show T≠g by omega)).trans HT5.out);have HY6:=hJ ((Below.heap_setCell w5 ⟨g,a,none⟩ (.int .u32 v) (w.heap.size+1) (show w.heap.size+1≠g by omega)).trans HY5.out);have HB6:=hJ (dD HB5.out (show w.heap.size<=g by omega) a (.int .u32 v));have HR6:=hJ (HR5.out.set (a:=a) (by rw[HEn.out];exact han) v)
 have HO6:=hJ (show bn (w5.setCell ⟨g,a,none⟩ (.int .u32 v)) w.heap.size (.slice so gn sc) x.aC by
  obtain⟨cur,hc1,_⟩:=HR5.out;exact HO5.out.keep hc1 dZ (fun j hj=>Below.heap_setCell w5 ⟨g,a,none⟩ (.int .u32 v) j hj))
 clear c0 c3 fa ca HT5 HY5 HB5 HR5 HO5;generalize w5.setCell ⟨g,a,none⟩ (.int .u32 v)=w6 at HT6 HY6 HB6 HR6 HO6 ⊢;have c0:w6.cell? ⟨T,0,none⟩=some (.slice (some ⟨g,0,none⟩) n n):=aa HT6.out 0;have c3:w6.cell? ⟨T,3,none⟩=some (.int .u32 v):=aa HT6.out 3;have fa:=HR6.out.frozen 1;have ca:=HR6.out.cell (a:=1) (by rw[List.length_set,HEn.out];omega);have hn3:(1:Int)<(n:Int):=oZ;go_upto_region 11 with fail
 have HT7:=hJ ((Below.heap_setCell w6 ⟨g,1,none⟩ (.int .u32 v) T (show T≠g by omega)).trans HT6.out);have HY7:=hJ ((Below.heap_setCell w6 ⟨g,1,none⟩ (.int .u32 v) (w.heap.size+1) (show w.heap.size+1≠g by omega)).trans HY6.out);have HB7:=hJ (dD HB6.out (show w.heap.size<=g by omega) 1 (.int .u32 v));have HR7:=hJ (HR6.out.set (a:=1) (by rw[List.length_set,HEn.out];omega) v)
 have HO7:=hJ (show bn (w6.setCell ⟨g,1,none⟩ (.int .u32 v)) w.heap.size (.slice so gn sc) x.aC by
  obtain⟨cur,hc1,_⟩:=HR6.out;exact HO6.out.keep hc1 dZ (fun j hj=>Below.heap_setCell w6 ⟨g,1,none⟩ (.int .u32 v) j hj))
 clear c0 c3 fa ca HT6 HY6 HB6 HR6 HO6;generalize w6.setCell ⟨g,1,none⟩ (.int .u32 v)=w7 at HT7 HY7 HB7 HR7 HO7 ⊢;have hTw:T≠w.heap.size+1:=oZ
 refine aL (fun(_:Unit) j=>[.agg (aH (.slice (some ⟨g,0,none⟩) n n) (.slice so gn sc) {x with bT:=v}),.int .i64 0,undef].getD j undef)
  (fun _ l wx=>wx.heap[T]?=some (.cells (aH (.slice (some ⟨g,0,none⟩) n n) (.slice so gn sc) {x with bT:=v}) 49 (0,0))/\(∃ X Y Z,wx.heap[w.heap.size+1]?=some (.cells (aH X Y Z) 49 (0,0)))/\(l 2=true->wx.heap[w.heap.size+1]?=some (.cells (aH (.slice (some ⟨g,0,none⟩) n n) (.slice so gn sc) {x with bT:=v}) 49 (0,0)))/\Below w.heap.size w wx/\cB wx g ((cs.set a v).set 1 v)/\bn wx w.heap.size (.slice so gn sc) x.aC)
  kZ kZ pZ () ?_ ?_ ?_
 ·exact⟨HT7.out,⟨_,_,_,HY7.out⟩,(fun h=>by cases h),HB7.out.drew,HR7.out.drew,HO7.out⟩
 ·intro i o ho q' l wx hR hl he K hK;rcases i with _|_|_|i
  ·cases ho;refine wp_load_row 49 (.tmp 10) rfl (T) rfl 49 (aH (.slice (some ⟨g,0,none⟩) n n) (.slice so gn sc) {x with bT:=v}) (0,0) _ hR.1 Tryz.underlying49 rfl (aG _ _ _) ?_;exact hK () wx (fun _ _=>rfl) hR
  ·cases ho;go_simp;exact hK () wx (fun _ _=>rfl) hR
  ·cases ho;obtain⟨X,Y,Z,hX⟩:=hR.2.1;refine wp_store_row 49 (.tmp 5) (.tmp 60) rfl (w.heap.size+1) (aH (.slice (some ⟨g,0,none⟩) n n) (.slice so gn sc) {x with bT:=v}) rfl rfl 49 (aH X Y Z) hX (aG _ _ _) rfl cZ ?_;have hs:=setRow_heap wx (w.heap.size+1) _ (aH (.slice (some ⟨g,0,none⟩) n n) (.slice so gn sc) {x with bT:=v}) _ _ hX;exact hK () _ (fun _ _=>rfl) ⟨(qZ _ _ _ _ hTw).trans hR.1,⟨_,_,_,hs⟩,(fun _=>hs),below_setRow hR.2.2.2.1 oZ _,hR.2.2.2.2.1.of_block (qZ _ _ _ _ oZ),hR.2.2.2.2.2.keep hX dZ (fun j hj=>qZ _ _ _ _ hj)⟩
  ·simp at ho
 ·intro q' l wx hl hR;have H4:=hJ (hR.2.2.1 (hl 2 dZ));have HRX:=hJ hR.2.2.2;clear hR hl;go_wp2_with fail
  refine tZ (v:=.tuple #[.int .i64 0,.agg (aH (.slice (some ⟨g,0,none⟩) n n) (.slice so gn sc) {x with bT:=v})]) (bX rfl _ _ (w.heap.size+1) _ _ (0,0) _ _ rfl rfl H4.out Tryz.underlying49 rfl (aG _ _ _)) rfl ?_;exact⟨g,_,rfl,HRX.out.2.1,HRX.out.2.2,HRX.out.1,oZ⟩
theorem oP {P:Program} {fn:Func} {p p2 r:Tmp} {ty ty2:TypeId} (h:fn.results=#[.cell p ty,.cell p2 ty2,.tmp r]) (tmps:Array Value) (w:World) (g g2:Nat) (t t2:TypeId) (cs cs2:Array Value) (fr fr2:Nat×Nat) (d d2:TypeDesc) (u:Value)
  (hp:tmps.getD p undef=.pointer (some ⟨g,0,none⟩)) (hp2:tmps.getD p2 undef=.pointer (some ⟨g2,0,none⟩)) (hr:tmps.getD r undef=u) (hg:w.heap[g]?=some (.cells cs t fr)) (hg2:w.heap[g2]?=some (.cells cs2 t2 fr2))
  (hu:P.underlying ty=some d) (hu2:P.underlying ty2=some d2) (hd:(match d with | .struct _ | .array _ _=>true | _=>false)=true) (hd2:(match d2 with | .struct _ | .array _ _=>true | _=>false)=true) (hi:(P.info? ty).map (·.size)=some cs.size) (hi2:(P.info? ty2).map (·.size)=some cs2.size) :
  (results fn tmps).run P w=.ok (.tuple #[.agg cs,.agg cs2,u]) w:=by
 have hp':tmps[p]?.getD undef=.pointer (some ⟨g,0,none⟩):=by simpa using hp
 have hp2':tmps[p2]?.getD undef=.pointer (some ⟨g2,0,none⟩):=by simpa using hp2
 have hr':tmps[r]?.getD undef=u:=by simpa using hr
 simp[results,h,hp',hp2',hr',asAddr,run_loadVar_row w g t ty cs fr d hg hu hd hi,run_loadVar_row w g2 t2 ty2 cs2 fr2 d2 hg2 hu2 hd2 hi2]
structure BG (W:World) (Bp Sp:Nat->Int) (Cp Tp Lp:Int) (q T g sg n:Nat) (vs:Value) (x:Sx) (l:List Sg) (cs:List Int) (w:World):Prop where
 s:∃ X Y Z,w.heap[W.heap.size+1]?=some (.cells (aH X Y Z) 49 (0,0))
 p:∃ X Y Z1 Z2 Z3,w.heap[W.heap.size+1+1]?=some (.cells (ae X Y Z1 Z2 Z3) 42 (0,0))
 q:w.heap[q]?=some (.cells (ae Bp Sp Cp Tp Lp) 42 (0,0))
 t:w.heap[T]?=some (.cells (aH (.slice (some ⟨g,0,none⟩) n n) vs x) 49 (0,0))
 row:cB w g cs
 own:bn w W.heap.size (.slice (some ⟨sg,0,none⟩) 1 1) l
 low:Below W.heap.size W w
section
variable {W w:World} {Bp Sp:Nat->Int} {Cp Tp Lp:Int} {q T g sg n:Nat} {vs:Value} {x:Sx} {l:List Sg} {cs:List Int}
theorem BG.Lx (h:BG W Bp Sp Cp Tp Lp q T g sg n vs x l cs w) (h1:W.heap.size+1+1<q) (h2:q<g) (h3:g<T) (o:Nat) (v vs':Value) (x':Sx) (e:(aH (.slice (some ⟨g,0,none⟩) n n) vs x).setIfInBounds o v=aH (.slice (some ⟨g,0,none⟩) n n) vs' x') :
  BG W Bp Sp Cp Tp Lp q T g sg n vs' x' l cs (w.setCell ⟨T,o,none⟩ v):=by
 obtain⟨⟨X,Y,Z,k1⟩,⟨X1,Y1,Z1,Z2,Z3,k2⟩,k3,k4,k5,k6,k7⟩:=h;refine⟨⟨X,Y,Z,(Below.heap_setCell w ⟨T,o,none⟩ v _ (show W.heap.size+1≠T by omega)).trans k1⟩,⟨X1,Y1,Z1,Z2,Z3,(Below.heap_setCell w ⟨T,o,none⟩ v _ (show W.heap.size+1+1≠T by omega)).trans k2⟩,(Below.heap_setCell w ⟨T,o,none⟩ v q (show q≠T by omega)).trans k3,?_,k5.of_block (Below.heap_setCell w ⟨T,o,none⟩ v g (show g≠T by omega)),k6.keep k4 dZ (fun j hj=>Below.heap_setCell w ⟨T,o,none⟩ v j hj),dD k7 (show W.heap.size<=T by omega) o v⟩;rw[heap_setCell_same _ _ _ _ _ _ k4,e]
theorem BG.Lh (h:BG W Bp Sp Cp Tp Lp q T g sg n vs x l cs w) (h1:W.heap.size+1+1<q) (h2:q<g) (h3:g<T) {a:Nat} (ha:a<cs.length) (v:Int) :
  BG W Bp Sp Cp Tp Lp q T g sg n vs x l (cs.set a v) (w.setCell ⟨g,a,none⟩ (.int .u32 v)):=by
 obtain⟨⟨X,Y,Z,k1⟩,⟨X1,Y1,Z1,Z2,Z3,k2⟩,k3,k4,k5,k6,k7⟩:=h;have k5':=k5;obtain⟨cur,hc,_⟩:=k5';exact⟨⟨X,Y,Z,(Below.heap_setCell w ⟨g,a,none⟩ (.int .u32 v) _ (show W.heap.size+1≠g by omega)).trans k1⟩,⟨X1,Y1,Z1,Z2,Z3,(Below.heap_setCell w ⟨g,a,none⟩ (.int .u32 v) _ (show W.heap.size+1+1≠g by omega)).trans k2⟩,(Below.heap_setCell w ⟨g,a,none⟩ (.int .u32 v) q (show q≠g by omega)).trans k3,(Below.heap_setCell w ⟨g,a,none⟩ (.int .u32 v) T (show T≠g by omega)).trans k4,k5.set ha v,k6.keep hc dZ (fun j hj=>Below.heap_setCell w ⟨g,a,none⟩ (.int .u32 v) j hj),dD k7 (show W.heap.size<=g by omega) a (.int .u32 v)⟩
end
def aY (an ln:Nat):Sx:=⟨[((an:Int),0,false)],0,0,fun j=>if j=5 then(ln:Int)+2 else 0⟩
theorem uq (d t:Int) (s:Nat->Int) (bk rm:Int) (kf bf:Nat):(Tryz.prog.info? 25).map (·.size)=some (au d t s bk rm kf bf).size:=by
 rw[show (au d t s bk rm kf bf).size=10 from rfl];kernel_rfl
theorem zk (w:World) (dd tt:Int) (ss:Nat->Int) (bk rm:Int) (kf bf:Nat) (hok:ek dd tt ss bk rm) {Bp Sp:Nat->Int} {Cp Tp Lp:Int} (hpl:ae (aA (aB ss bk rm)) (aB ss bk rm) (aA (aB ss bk rm) 6) (slotsOf tt) (bN dd tt)=ae Bp Sp Cp Tp Lp) (hLp:0<=Lp/\Lp<=100000) (hfull:Sp 5<Lp+2) :
  Calls Tryz.prog 52 #[.agg (au dd tt ss bk rm kf bf)] w fun e w'=>e=.returned (.tuple #[.agg cK,.agg (ae Bp Sp Cp Tp Lp),.int .i64 3])/\Below w.heap.size w w':=by
 have HLy:=hJ (fun w=>j5 w dd tt ss bk rm kf bf hok);rw[hpl] at HLy;have s1:IntKind.i64.wrap (Lp+2)=Lp+2:=iZ _ oZ;clear hok hpl;go_enter Tryz.func52,Tryz.ntmps52
 go_upto_region 1 with fail
 obtain⟨w0,hw0⟩:∃ w0,w0=((w.alloc (.cells (au dd tt ss bk rm kf bf) 25)).alloc (.cells cK 49)).alloc (.cells (ae (fun _=>0) (fun _=>0) 0 0 0) 42):=⟨_,rfl⟩;rw[show ((w.alloc (.cells (au dd tt ss bk rm kf bf) 25)).alloc (.cells #[.slice none 0 0,.slice none 0 0,.int .i64 0,.int .u32 0,.int .i64 0,.int .i64 0,.int .i64 0,.int .i64 0,.int .i64 0,.int .i64 0] 49)).alloc (.cells #[.int .i64 0,.int .i64 0,.int .i64 0,.int .i64 0,.int .i64 0,.int .i64 0,.int .i64 0,.int .i64 0,.int .i64 0,.int .i64 0,.int .i64 0,.int .i64 0,.int .i64 0,.int .i64 0,.int .i64 0] 42)=w0 from hw0.symm];have HC:=hJ (show w0.heap[w.heap.size]?=some (.cells (au dd tt ss bk rm kf bf) 25 (0,0)) by rw[hw0];exact dN _ _ _ _);have HS:=hJ (show w0.heap[w.heap.size+1]?=some (.cells cK 49 (0,0)) by rw[hw0];exact dM _ _ _ _);have HP:=hJ (show w0.heap[w.heap.size+1+1]?=some (.cells (ae (fun _=>0) (fun _=>0) 0 0 0) 42 (0,0)) by rw[hw0];exact dS _ _ _ _);have HB:=hJ (show Below w.heap.size w w0 by rw[hw0];exact bi);clear hw0
 go_wp2_with (first
  | (refine yZ rfl 25 (.tmp 1) rfl w.heap.size rfl 25 (au dd tt ss bk rm kf bf) (0,0) _ HC.out Tryz.underlying25 rfl (uq _ _ _ _ _ _ _) ?_)
  | fail)
 refine(HLy.out _).mono ?_;rintro e w1 ⟨rfl,hb⟩;have HS:=hJ ((hb.block _ (lt_of_heap HS.out)).trans HS.out);have HP:=hJ ((hb.block _ (lt_of_heap HP.out)).trans HP.out);have HB:=hJ (ag HB.out hb);clear hb HLy HC
 go_upto_region 2 with (first
  | (refine zZ rfl 42 (.tmp 5) (.tmp 12) rfl w1.heap.size (ae Bp Sp Cp Tp Lp) rfl rfl 42 (ae (fun _=>0) (fun _=>0) 0 0 0) (nZ w1 _) (ai _ _ _ _ _) rfl (by simp[ae,Value.oneCell']) ?_)
  | fail)
 rw[World.setRow_alloc_new];have hb:=aj (w:=w1) (A:=.cells (ae Bp Sp Cp Tp Lp) 42);have HQ:=hJ (nZ w1 (.cells (ae Bp Sp Cp Tp Lp) 42));have HS:=hJ ((hb.block _ (lt_of_heap HS.out)).trans HS.out);have hz:=lt_of_heap HP.out;have HP:=hJ ((hb.block _ (lt_of_heap HP.out)).trans HP.out);have HB:=hJ (ag HB.out hb);generalize w1.alloc (.cells (ae Bp Sp Cp Tp Lp) 42)=w2 at HQ HS HP HB ⊢;obtain⟨q,hq⟩:∃ q,q=w1.heap.size:=⟨_,rfl⟩;rw[<- hq] at HQ hz ⊢;clear hb hq;have cs5:w2.cell? ⟨q,11,none⟩=some (.int .i64 (Sp 5)):=aa HQ.out 11;have cl:w2.cell? ⟨q,14,none⟩=some (.int .i64 Lp):=aa HQ.out 14;go_upto_region 5 with fail
 clear cs5 cl;have HH:=hJ (show (∃ X Y Z,w2.heap[w.heap.size+1]?=some (.cells (aH X Y Z) 49 (0,0)))/\(∃ X Y Z1 Z2 Z3,w2.heap[w.heap.size+1+1]?=some (.cells (ae X Y Z1 Z2 Z3) 42 (0,0)))/\w2.heap[q]?=some (.cells (ae Bp Sp Cp Tp Lp) 42 (0,0))/\Below w.heap.size w w2 from⟨⟨_,_,_,HS.out⟩,⟨_,_,_,_,_,HP.out⟩,HQ.out,HB.out⟩)
 refine aL (fun(_:Unit) j=>[.agg cK,.agg (ae Bp Sp Cp Tp Lp),undef,undef,.int .i64 3].getD j undef)
  (fun _ l wx=>(∃ X Y Z,wx.heap[w.heap.size+1]?=some (.cells (aH X Y Z) 49 (0,0)))/\(∃ X Y Z1 Z2 Z3,wx.heap[w.heap.size+1+1]?=some (.cells (ae X Y Z1 Z2 Z3) 42 (0,0)))/\wx.heap[q]?=some (.cells (ae Bp Sp Cp Tp Lp) 42 (0,0))/\(l 2=true->wx.heap[w.heap.size+1]?=some (.cells (aH (.slice none 0 0) (.slice none 0 0) ⟨[],0,0,fun _=>0⟩) 49 (0,0)))/\(l 3=true->wx.heap[w.heap.size+1+1]?=some (.cells (ae Bp Sp Cp Tp Lp) 42 (0,0)))/\Below w.heap.size w wx)
  kZ kZ pZ () ?_ ?_ ?_
 ·exact⟨HH.out.1,HH.out.2.1,HH.out.2.2.1,(fun h=>by cases h),(fun h=>by cases h),HH.out.2.2.2.drew⟩
 ·intro i o ho q' l wx hR hl he K hK;rcases i with _|_|_|_|_|i
  ·cases ho;go_simp;exact hK () wx (fun _ _=>rfl) hR
  ·cases ho;refine wp_load_row 42 (.tmp 5) rfl q rfl 42 (ae Bp Sp Cp Tp Lp) (0,0) _ hR.2.2.1 Tryz.underlying42 rfl (ai _ _ _ _ _) ?_;exact hK () wx (fun _ _=>rfl) hR
  ·cases ho;obtain⟨X,Y,Z,hX⟩:=hR.1;refine wp_store_row 49 (.tmp 2) (.tmp 26) rfl (w.heap.size+1) (aH (.slice none 0 0) (.slice none 0 0) ⟨[],0,0,fun _=>0⟩) rfl rfl 49 (aH X Y Z) hX (aG _ _ _) rfl cZ ?_;have hs:=setRow_heap wx (w.heap.size+1) _ (aH (.slice none 0 0) (.slice none 0 0) ⟨[],0,0,fun _=>0⟩) _ _ hX;exact hK () _ (fun _ _=>rfl) ⟨⟨_,_,_,hs⟩,(by obtain⟨X1,Y1,Z1,Z2,Z3,h1⟩:=hR.2.1;exact⟨X1,Y1,Z1,Z2,Z3,(qZ _ _ _ _ oZ).trans h1⟩),(qZ _ _ _ _ oZ).trans hR.2.2.1,(fun _=>hs),(fun h=>(qZ _ _ _ _ oZ).trans (hR.2.2.2.2.1 h)),below_setRow hR.2.2.2.2.2 oZ _⟩
  ·cases ho;obtain⟨X,Y,Z1,Z2,Z3,hX⟩:=hR.2.1;refine wp_store_row 42 (.tmp 3) (.tmp 27) rfl (w.heap.size+1+1) (ae Bp Sp Cp Tp Lp) rfl rfl 42 (ae X Y Z1 Z2 Z3) hX (ai _ _ _ _ _) rfl (by simp[ae,Value.oneCell']) ?_;have hs:=setRow_heap wx (w.heap.size+1+1) _ (ae Bp Sp Cp Tp Lp) _ _ hX;exact hK () _ (fun _ _=>rfl) ⟨(by obtain⟨X1,Y1,Z1',h1⟩:=hR.1;exact⟨X1,Y1,Z1',(qZ _ _ _ _ oZ).trans h1⟩),⟨_,_,_,_,_,hs⟩,(qZ _ _ _ _ oZ).trans hR.2.2.1,(fun h=>(qZ _ _ _ _ oZ).trans (hR.2.2.2.1 h)),(fun _=>hs),below_setRow hR.2.2.2.2.2 oZ _⟩
  ·cases ho;go_simp;exact hK () wx (fun _ _=>rfl) hR
  ·simp at ho
 ·intro q' l wx hl hR;have H4:=hJ (hR.2.2.2.1 (hl 2 dZ));have H5:=hJ (hR.2.2.2.2.1 (hl 3 dZ));have HRX:=hJ hR.2.2.2.2.2;clear hR hl;go_wp2_with fail
  refine tZ (v:=.tuple #[.agg (aH (.slice none 0 0) (.slice none 0 0) ⟨[],0,0,fun _=>0⟩),.agg (ae Bp Sp Cp Tp Lp),.int .i64 3]) (oP rfl _ _ (w.heap.size+1) (w.heap.size+1+1) _ _ _ _ (0,0) (0,0) _ _ _ rfl rfl rfl H4.out H5.out Tryz.underlying49 Tryz.underlying42 rfl rfl (aG _ _ _) (ai _ _ _ _ _)) rfl ?_;exact⟨rfl,HRX.out⟩
theorem Au (w:World) (dd tt:Int) (ss:Nat->Int) (bk rm:Int) (kf bf:Nat) (hok:ek dd tt ss bk rm) {Bp Sp:Nat->Int} {Tp:Int} {n ln an:Nat} (hpl:ae (aA (aB ss bk rm)) (aB ss bk rm) (aA (aB ss bk rm) 6) (slotsOf tt) (bN dd tt)=ae Bp Sp (n:Int) Tp (ln:Int)) (hLp:0<=(ln:Int)/\(ln:Int)<=100000) (hfit:¬ Sp 5<(ln:Int)+2) (hn:n<=1000000) (hA:Bp 5=(an:Int)) (h3:3<=an) (hin:an+ln+2<=n) :
  Calls Tryz.prog 52 #[.agg (au dd tt ss bk rm kf bf)] w fun e w'=>∃ g sg,e=.returned (.tuple #[.agg (aH (.slice (some ⟨g,0,none⟩) n n) (.slice (some ⟨sg,0,none⟩) 1 1) (aY an ln)),.agg (ae Bp Sp (n:Int) Tp (ln:Int)),.int .i64 0])/\cB w' g ((((List.replicate n 0).set (an+ln) 1).set (an+ln+1) (an:Int)).set 2 ((an:Int)+(ln:Int)))/\bn w' w.heap.size (.slice (some ⟨sg,0,none⟩) 1 1) [((an:Int),0,false)]/\Below w.heap.size w w'/\w.heap.size<=g:=by
 have HLy:=hJ (fun w=>j5 w dd tt ss bk rm kf bf hok);rw[hpl] at HLy;have s1:IntKind.i64.wrap ((ln:Int)+2)=(ln:Int)+2:=iZ _ oZ;clear hok hpl;go_enter Tryz.func52,Tryz.ntmps52
 go_upto_region 1 with fail
 obtain⟨w0,hw0⟩:∃ w0,w0=((w.alloc (.cells (au dd tt ss bk rm kf bf) 25)).alloc (.cells cK 49)).alloc (.cells (ae (fun _=>0) (fun _=>0) 0 0 0) 42):=⟨_,rfl⟩;rw[show ((w.alloc (.cells (au dd tt ss bk rm kf bf) 25)).alloc (.cells #[.slice none 0 0,.slice none 0 0,.int .i64 0,.int .u32 0,.int .i64 0,.int .i64 0,.int .i64 0,.int .i64 0,.int .i64 0,.int .i64 0] 49)).alloc (.cells #[.int .i64 0,.int .i64 0,.int .i64 0,.int .i64 0,.int .i64 0,.int .i64 0,.int .i64 0,.int .i64 0,.int .i64 0,.int .i64 0,.int .i64 0,.int .i64 0,.int .i64 0,.int .i64 0,.int .i64 0] 42)=w0 from hw0.symm];have HC:=hJ (show w0.heap[w.heap.size]?=some (.cells (au dd tt ss bk rm kf bf) 25 (0,0)) by rw[hw0];exact dN _ _ _ _);have HS:=hJ (show w0.heap[w.heap.size+1]?=some (.cells cK 49 (0,0)) by rw[hw0];exact dM _ _ _ _);have HP:=hJ (show w0.heap[w.heap.size+1+1]?=some (.cells (ae (fun _=>0) (fun _=>0) 0 0 0) 42 (0,0)) by rw[hw0];exact dS _ _ _ _);have HB:=hJ (show Below w.heap.size w w0 by rw[hw0];exact bi);clear hw0
 go_wp2_with (first
  | (refine yZ rfl 25 (.tmp 1) rfl w.heap.size rfl 25 (au dd tt ss bk rm kf bf) (0,0) _ HC.out Tryz.underlying25 rfl (uq _ _ _ _ _ _ _) ?_)
  | fail)
 refine(HLy.out _).mono ?_;rintro e w1 ⟨rfl,hb⟩;have HS:=hJ ((hb.block _ (lt_of_heap HS.out)).trans HS.out);have HP:=hJ ((hb.block _ (lt_of_heap HP.out)).trans HP.out);have HB:=hJ (ag HB.out hb);clear hb HLy HC
 go_upto_region 2 with (first
  | (refine zZ rfl 42 (.tmp 5) (.tmp 12) rfl w1.heap.size (ae Bp Sp (n:Int) Tp (ln:Int)) rfl rfl 42 (ae (fun _=>0) (fun _=>0) 0 0 0) (nZ w1 _) (ai _ _ _ _ _) rfl (by simp[ae,Value.oneCell']) ?_)
  | fail)
 rw[World.setRow_alloc_new];have hb:=aj (w:=w1) (A:=.cells (ae Bp Sp (n:Int) Tp (ln:Int)) 42);have HQ:=hJ (nZ w1 (.cells (ae Bp Sp (n:Int) Tp (ln:Int)) 42));have HS:=hJ ((hb.block _ (lt_of_heap HS.out)).trans HS.out);have hz:=lt_of_heap HP.out;have HP:=hJ ((hb.block _ (lt_of_heap HP.out)).trans HP.out);have HB:=hJ (ag HB.out hb);generalize w1.alloc (.cells (ae Bp Sp (n:Int) Tp (ln:Int)) 42)=w2 at HQ HS HP HB ⊢;obtain⟨q,hq⟩:∃ q,q=w1.heap.size:=⟨_,rfl⟩;rw[<- hq] at HQ hz ⊢;clear hb hq;have cs5:w2.cell? ⟨q,11,none⟩=some (.int .i64 (Sp 5)):=aa HQ.out 11;have cl:w2.cell? ⟨q,14,none⟩=some (.int .i64 (ln:Int)):=aa HQ.out 14;have ca:w2.cell? ⟨q,5,none⟩=some (.int .i64 (Bp 5)):=aa HQ.out 5;have cc:w2.cell? ⟨q,12,none⟩=some (.int .i64 (n:Int)):=aa HQ.out 12;rw[hA] at ca;skip
 have hmk:=BI n hn
 go_upto_region 7 with (first
  | (refine zZ rfl 49 (.tmp 7) (.tmp 31) rfl _ (aH (.slice (some ⟨w2.heap.size,0,none⟩) n n) (.slice none 0 0) ⟨[],0,0,fun _=>0⟩) rfl rfl 49 cK (nZ _ _) (aG _ _ _) rfl cZ ?_)
  | fail)
 obtain⟨w3,hw3⟩:∃ w3,w3=w2.alloc (.cells (gN .u32 (List.replicate n 0)).toArray 32):=⟨_,rfl⟩
 have HG:cB w3 w2.heap.size (List.replicate n 0):=by
  rw[hw3];refine⟨_,nZ _ _,by simp[eU],fun i hi=>?_⟩;rw[List.length_replicate] at hi;have hx:(List.replicate n (0:Nat))[i]?=some 0:=by simp[hi]
  have:=nR (k:=.u32) hx;simpa [hi] using this
 have hbb:Below w2.heap.size w2 w3:=by rw[hw3];exact aj
 have e3:w3.heap.size=w2.heap.size+1:=by rw[hw3];simp
 rw[<- hw3,show w2.heap.size+1=w3.heap.size from e3.symm];obtain⟨g,hg⟩:∃ g,g=w2.heap.size:=⟨_,rfl⟩;rw[<- hg] at HG ⊢;obtain⟨w4,hw4⟩:∃ w4,w4=w3.alloc (.cells (aH (.slice (some ⟨g,0,none⟩) n n) (.slice none 0 0) ⟨[],0,0,fun _=>0⟩) 49):=⟨_,rfl⟩;have HT:=hJ (show w4.heap[w3.heap.size]?=some (.cells (aH (.slice (some ⟨g,0,none⟩) n n) (.slice none 0 0) ⟨[],0,0,fun _=>0⟩) 49 (0,0)) by rw[hw4];exact nZ _ _);have hb4:Below w2.heap.size w2 w4:=by rw[hw4];exact hbb.alloc oZ _
 have e4:w4.heap.size=w3.heap.size+1:=by rw[hw4];simp
 have HG:=hJ (show cB w4 g (List.replicate n 0) by rw[hw4];exact HG.of_block (Below.heap_alloc _ _ _ HG.lt));rw[show w3.alloc (.cells #[.slice (some ⟨g,0,none⟩) n n,.slice none 0 0,.int .i64 0,.int .u32 0,.int .i64 0,.int .i64 0,.int .i64 0,.int .i64 0,.int .i64 0,.int .i64 0] 49)=w4 from hw4.symm];have HS:=hJ ((hb4.block _ (lt_of_heap HS.out)).trans HS.out);have HP:=hJ ((hb4.block _ (lt_of_heap HP.out)).trans HP.out);have hq2:=lt_of_heap HQ.out;have HQ:=hJ ((hb4.block _ (lt_of_heap HQ.out)).trans HQ.out);have HB:=hJ (ag HB.out hb4);have hgq:q<g:=oZ;have hgT:g<w3.heap.size:=oZ;obtain⟨T,hT⟩:∃ T,T=w3.heap.size:=⟨_,rfl⟩;rw[<- hT] at HT e4 hgT ⊢;clear cs5 cl ca cc hmk hw3 hw4 hbb hb4 e3 hg hT hq2;have ca:w4.cell? ⟨q,5,none⟩=some (.int .i64 (an:Int)):=by rw[aa HQ.out 5];simp[ae,<- hA]
 have fT:=free_at HT.out 1;have kT:w4.cell? ⟨T,1,none⟩=some (.slice none 0 0):=aa HT.out 1;go_upto_region 9 with fail
 rw[<- World.setCell_alloc_past _ _ _ _ (show T<w4.heap.size by omega)]
 have HN:=hJ (show BG w Bp Sp (n:Int) Tp (ln:Int) q T g (T+1) n (.slice (some ⟨T+1,0,none⟩) 1 1) ⟨[],0,0,fun _=>0⟩ [((an:Int),0,false)] (List.replicate n 0) ((w4.alloc (.cells #[.int .i64 (an:Int),.int .i64 0,.bool false] 65)).setCell ⟨T,1,none⟩ (.slice (some ⟨T+1,0,none⟩) 1 1)) by
  have hb:=aj (w:=w4) (A:=.cells #[.int .i64 (an:Int),.int .i64 0,.bool false] 65)
  have ho:bn (w4.alloc (.cells #[.int .i64 (an:Int),.int .i64 0,.bool false] 65)) w.heap.size (.slice (some ⟨T+1,0,none⟩) 1 1) [((an:Int),0,false)]:=by
   have h:=World.ownsRow_lit (base:=w.heap.size) (e:=65) (size:=3) w4 #[.int .i64 (an:Int),.int .i64 0,.bool false] 1 oZ dZ rfl;rw[e4] at h;exact h
  refine BG.Lx (vs:=.slice none 0 0) (x:=⟨[],0,0,fun _=>0⟩) ⟨⟨_,_,_,(hb.block _ (lt_of_heap HS.out)).trans HS.out⟩,⟨_,_,_,_,_,(hb.block _ (lt_of_heap HP.out)).trans HP.out⟩,(hb.block _ (lt_of_heap HQ.out)).trans HQ.out,(hb.block _ (lt_of_heap HT.out)).trans HT.out,HG.out.below hb,ho,ag HB.out hb⟩ oZ oZ oZ 1 _ _ _ rfl)
 clear fT kT ca HG HS HP HQ HB HT;generalize (w4.alloc (.cells #[.int .i64 (an:Int),.int .i64 0,.bool false] 65)).setCell ⟨T,1,none⟩ (.slice (some ⟨T+1,0,none⟩) 1 1)=w5 at HN ⊢;clear e4;obtain⟨sg,hsg⟩:∃ sg,sg=T+1:=⟨_,rfl⟩;rw[<- hsg] at HN ⊢;have cl:w5.cell? ⟨q,14,none⟩=some (.int .i64 (ln:Int)):=aa HN.out.q 14;have fT:=free_at HN.out.t 9;have kT:w5.cell? ⟨T,9,none⟩=some (.int .i64 0):=aa HN.out.t 9;go_upto_region 10 with fail
 have HN6:=hJ (HN.out.Lx hz hgq hgT 9 (.int .i64 ((ln:Int)+2)) (.slice (some ⟨sg,0,none⟩) 1 1) (aY an ln) (by first | rfl | simp[aH,aY]));clear cl fT kT HN;generalize w5.setCell ⟨T,9,none⟩ (.int .i64 ((ln:Int)+2))=w6 at HN6 ⊢;have s2:IntKind.i64.wrap ((an:Int)+(ln:Int))=((an+ln:Nat):Int):=by rw[iZ _ oZ];simp
 have s3:IntKind.i64.wrap (((an+ln:Nat):Int)+1)=((an+ln+1:Nat):Int):=by rw[iZ _ oZ];simp
 have u1:IntKind.u32.wrap (an:Int)=(an:Int):=IntWalk.u32_in _ oZ;have u2:IntKind.u32.wrap ((an+ln:Nat):Int)=((an+ln:Nat):Int):=IntWalk.u32_in _ oZ;have l1:((an+ln:Nat):Int)<(n:Int):=oZ;have l2:((an+ln+1:Nat):Int)<(n:Int):=oZ;have l3:(2:Int)<(n:Int):=oZ;have hl0:an+ln<(List.replicate n (0:Int)).length:=by rw[List.length_replicate];omega
 have cl:w6.cell? ⟨q,14,none⟩=some (.int .i64 (ln:Int)):=aa HN6.out.q 14;have c0:w6.cell? ⟨T,0,none⟩=some (.slice (some ⟨g,0,none⟩) n n):=aa HN6.out.t 0;have fa:=HN6.out.row.frozen (an+ln);have ka:=HN6.out.row.cell hl0;go_upto_region 11 with fail
 have HN7:=hJ (HN6.out.Lh hz hgq hgT hl0 1);clear cl c0 fa ka HN6;generalize w6.setCell ⟨g,an+ln,none⟩ (.int .u32 1)=w7 at HN7 ⊢;have hl1:an+ln+1<((List.replicate n (0:Int)).set (an+ln) 1).length:=by rw[List.length_set,List.length_replicate];omega
 have cl:w7.cell? ⟨q,14,none⟩=some (.int .i64 (ln:Int)):=aa HN7.out.q 14;have c0:w7.cell? ⟨T,0,none⟩=some (.slice (some ⟨g,0,none⟩) n n):=aa HN7.out.t 0;have fa:=HN7.out.row.frozen (an+ln+1);have ka:=HN7.out.row.cell hl1;go_upto_region 12 with fail
 have HN8:=hJ (HN7.out.Lh hz hgq hgT hl1 (an:Int));clear cl c0 fa ka HN7;generalize w7.setCell ⟨g,an+ln+1,none⟩ (.int .u32 (an:Int))=w8 at HN8 ⊢;have hl2:2<(((List.replicate n (0:Int)).set (an+ln) 1).set (an+ln+1) (an:Int)).length:=by rw[List.length_set,List.length_set,List.length_replicate];omega
 have cl:w8.cell? ⟨q,14,none⟩=some (.int .i64 (ln:Int)):=aa HN8.out.q 14;have c0:w8.cell? ⟨T,0,none⟩=some (.slice (some ⟨g,0,none⟩) n n):=aa HN8.out.t 0;have fa:=HN8.out.row.frozen 2;have ka:=HN8.out.row.cell hl2;go_upto_region 13 with fail
 have HN9:=hJ (HN8.out.Lh hz hgq hgT hl2 ((an:Int)+(ln:Int)));clear cl c0 fa ka HN8;generalize w8.setCell ⟨g,2,none⟩ (.int .u32 ((an:Int)+(ln:Int)))=w9 at HN9 ⊢;have hTw:T≠w.heap.size+1/\T≠w.heap.size+1+1/\g≠w.heap.size+1/\g≠w.heap.size+1+1:=oZ;have HH:=hJ (And.intro HN9.out.s (And.intro HN9.out.p (And.intro HN9.out.q HN9.out.low)));have HE:=hJ (And.intro HN9.out.t (And.intro HN9.out.row HN9.out.own));clear HN9 hsg hl0 hl1 hl2 l1 l2 l3 u1 u2 s2 s3 s1 hA
 refine aL (fun(_:Unit) j=>[.agg (aH (.slice (some ⟨g,0,none⟩) n n) (.slice (some ⟨sg,0,none⟩) 1 1) (aY an ln)),.agg (ae Bp Sp (n:Int) Tp (ln:Int)),undef,undef,.int .i64 0].getD j undef)
  (fun _ l wx=>(∃ X Y Z,wx.heap[w.heap.size+1]?=some (.cells (aH X Y Z) 49 (0,0)))/\(∃ X Y Z1 Z2 Z3,wx.heap[w.heap.size+1+1]?=some (.cells (ae X Y Z1 Z2 Z3) 42 (0,0)))/\wx.heap[q]?=some (.cells (ae Bp Sp (n:Int) Tp (ln:Int)) 42 (0,0))/\(l 2=true->wx.heap[w.heap.size+1]?=some (.cells (aH (.slice (some ⟨g,0,none⟩) n n) (.slice (some ⟨sg,0,none⟩) 1 1) (aY an ln)) 49 (0,0)))/\(l 3=true->wx.heap[w.heap.size+1+1]?=some (.cells (ae Bp Sp (n:Int) Tp (ln:Int)) 42 (0,0)))/\Below w.heap.size w wx/\wx.heap[T]?=some (.cells (aH (.slice (some ⟨g,0,none⟩) n n) (.slice (some ⟨sg,0,none⟩) 1 1) (aY an ln)) 49 (0,0))/\cB wx g ((((List.replicate n 0).set (an+ln) 1).set (an+ln+1) (an:Int)).set 2 ((an:Int)+(ln:Int)))/\bn wx w.heap.size (.slice (some ⟨sg,0,none⟩) 1 1) [((an:Int),0,false)])
  kZ kZ pZ () ?_ ?_ ?_
 ·exact⟨HH.out.1,HH.out.2.1,HH.out.2.2.1,(fun h=>by cases h),(fun h=>by cases h),HH.out.2.2.2.drew,HE.out.1,HE.out.2.1.drew,HE.out.2.2⟩
 ·intro i o ho q' l wx hR hl he K hK;rcases i with _|_|_|_|_|i
  ·cases ho;refine wp_load_row 49 (.tmp 7) rfl (T) rfl 49 (aH (.slice (some ⟨g,0,none⟩) n n) (.slice (some ⟨sg,0,none⟩) 1 1) (aY an ln)) (0,0) _ hR.2.2.2.2.2.2.1 Tryz.underlying49 rfl (aG _ _ _) ?_;exact hK () wx (fun _ _=>rfl) hR
  ·cases ho;refine wp_load_row 42 (.tmp 5) rfl q rfl 42 (ae Bp Sp (n:Int) Tp (ln:Int)) (0,0) _ hR.2.2.1 Tryz.underlying42 rfl (ai _ _ _ _ _) ?_;exact hK () wx (fun _ _=>rfl) hR
  ·cases ho;obtain⟨X,Y,Z,hX⟩:=hR.1;refine wp_store_row 49 (.tmp 2) (.tmp 71) rfl (w.heap.size+1) (aH (.slice (some ⟨g,0,none⟩) n n) (.slice (some ⟨sg,0,none⟩) 1 1) (aY an ln)) rfl rfl 49 (aH X Y Z) hX (aG _ _ _) rfl cZ ?_;have hs:=setRow_heap wx (w.heap.size+1) _ (aH (.slice (some ⟨g,0,none⟩) n n) (.slice (some ⟨sg,0,none⟩) 1 1) (aY an ln)) _ _ hX;exact hK () _ (fun _ _=>rfl) ⟨⟨_,_,_,hs⟩,(by obtain⟨X1,Y1,Z1,Z2,Z3,h1⟩:=hR.2.1;exact⟨X1,Y1,Z1,Z2,Z3,(qZ _ _ _ _ oZ).trans h1⟩),(qZ _ _ _ _ oZ).trans hR.2.2.1,(fun _=>hs),(fun h=>(qZ _ _ _ _ oZ).trans (hR.2.2.2.2.1 h)),below_setRow hR.2.2.2.2.2.1 oZ _,(qZ _ _ _ _ oZ).trans hR.2.2.2.2.2.2.1,hR.2.2.2.2.2.2.2.1.of_block (qZ _ _ _ _ oZ),hR.2.2.2.2.2.2.2.2.keep hX dZ (fun j hj=>qZ _ _ _ _ hj)⟩
  ·cases ho;obtain⟨X,Y,Z1,Z2,Z3,hX⟩:=hR.2.1;refine wp_store_row 42 (.tmp 3) (.tmp 72) rfl (w.heap.size+1+1) (ae Bp Sp (n:Int) Tp (ln:Int)) rfl rfl 42 (ae X Y Z1 Z2 Z3) hX (ai _ _ _ _ _) rfl (by simp[ae,Value.oneCell']) ?_;have hs:=setRow_heap wx (w.heap.size+1+1) _ (ae Bp Sp (n:Int) Tp (ln:Int)) _ _ hX;exact hK () _ (fun _ _=>rfl) ⟨(by obtain⟨X1,Y1,Z1',h1⟩:=hR.1;exact⟨X1,Y1,Z1',(qZ _ _ _ _ oZ).trans h1⟩),⟨_,_,_,_,_,hs⟩,(qZ _ _ _ _ oZ).trans hR.2.2.1,(fun h=>(qZ _ _ _ _ oZ).trans (hR.2.2.2.1 h)),(fun _=>hs),below_setRow hR.2.2.2.2.2.1 oZ _,(qZ _ _ _ _ oZ).trans hR.2.2.2.2.2.2.1,hR.2.2.2.2.2.2.2.1.of_block (qZ _ _ _ _ oZ),hR.2.2.2.2.2.2.2.2.keep hX dZ (fun j hj=>qZ _ _ _ _ hj)⟩
  ·cases ho;go_simp;exact hK () wx (fun _ _=>rfl) hR
  ·simp at ho
 ·intro q' l wx hl hR;have H4:=hJ (hR.2.2.2.1 (hl 2 dZ));have H5:=hJ (hR.2.2.2.2.1 (hl 3 dZ));have HRX:=hJ hR.2.2.2.2.2;clear hR hl;go_wp2_with fail
  refine tZ (v:=.tuple #[.agg (aH (.slice (some ⟨g,0,none⟩) n n) (.slice (some ⟨sg,0,none⟩) 1 1) (aY an ln)),.agg (ae Bp Sp (n:Int) Tp (ln:Int)),.int .i64 0]) (oP rfl _ _ (w.heap.size+1) (w.heap.size+1+1) _ _ _ _ (0,0) (0,0) _ _ _ rfl rfl rfl H4.out H5.out Tryz.underlying49 Tryz.underlying42 rfl rfl (aG _ _ _) (ai _ _ _ _ _)) rfl ?_;exact⟨g,sg,rfl,HRX.out.2.2.1,HRX.out.2.2.2,HRX.out.1,oZ⟩
end Go.Proofs.YtafaohnhlgcnpaaGreatDoor
