/-
 What stage 12 rests on.
-/
import Derived.Test.YtafaohnhlgcnpaaGreatDoorWrAlG1
set_option maxRecDepth 100000
set_option maxHeartbeats 16000000
namespace Go.Proofs.YtafaohnhlgcnpaaGreatDoor
open Go.RowKit
theorem zb (w:World) (oa:Option Addr) (c n:Nat) (cs:List Int) (en0:cs.length=n) (hn:n<=1000000) (hU0:∀ y∈cs,U y) (ha:bQ .u32 w oa (gQ cs)) (og:Option Addr) (gn gc:Nat) (x:Sx) {B S:Nat->Int} {C:Int} (hL:Laid B S C) (m:Nat) (L s:Int) (d:Int) (tk:Tk) (m0:1<=m) (m1:m<=1000000) (s0:0<=s) (s1:s<=1000000) (d0:0<=d) (d1:d<=1000000) (tk0:0<=tk.1/\tk.1<=255) (tk1:tk.2.1.size<=100) (tk2:0<=tk.2.2/\tk.2.2<=1000000)
  {slot:Int} (sl0:0<=slot) (sl1:slot<=1000000) {q1:Nat} (hf:Does (fR s m (aM tk) m 0) cs q1 ((0:Int),slot) cs) (hus:0<=x.used 4/\x.used 4<=S 4) (hfit4:2+((aF (aM tk)).length:Int)<=S 4-x.used 4) {q3:Nat} {y0:DJ} {cs1:List Int} (hp:Does (gp B S x.used s slot (aM tk)) cs q3 y0 cs1) (hU:∀ y∈cs1,U y)
  {r:Nat} (hre:B 4+x.used 4=(r:Int)) (hrn:r<n) {x1:Sx} (hx1:x1={x with used:=more x.used 4 (2+((aF (aM tk)).length:Int))}) {t wd:Int} (ht:cs1.getD r 0=t) (hwd:dV d tk.2.2=wd) (hwu:U wd) (hr:bG B S t) (hfit:∀ k,bU B S t=some k->k<4/\(0<=x1.used k/\x1.used k<=S k)/\aN k<=S k-x1.used k) {q2:Nat} {z:su} {cs2:List Int} (hd:Does (eP B S x1.used t wd) cs1 q2 z cs2) :
  Calls Tryz.prog 98 #[.agg (aH (.slice oa n c) (.slice og gn gc) x),.agg (ae B S C (m:Int) L),.int .i64 s,.int .i64 d,.agg #[.int .u8 tk.1,.string tk.2.1,.int .i64 tk.2.2]] w fun e w'=>∃ g,e=.returned (.agg (aH (.slice (some ⟨g,0,none⟩) n n) (.slice og gn gc) {x1 with used:=z.2.1}))/\cB w' g (cs2.set r (u32 z.1))/\w.heap.size<=g/\Below w.heap.size w w':=by
 obtain⟨T,hT⟩:∃ T:Int,T=(m:Int):=⟨_,rfl⟩;rw[<- hT];have hkb:=iE tk0.1 tk0.2
 have hkl:(ay (aM tk)).size<=1000:=by
  have h1:=congrArg List.length (aX (aM tk) hkb);rw[aD] at h1;rw[h1];unfold aM;rw[List.length_cons,aD];omega
 have HKey:=hJ (fun w=>yH w tk.1 tk.2.1 tk0.1 tk0.2 oZ);rw[show (tk.1.toNat :: ax tk.2.1)=aM tk from rfl] at HKey;have hfk:=hf;rw[<- aX (aM tk) hkb] at hfk;have HFind0:=hJ (fun(w':World) (hb:Below w.heap.size w w')=>sj w' oa c n cs en0 hU0 (ha.below hb) s m s0 s1 m0 m1 (ay (aM tk)) hkl hfk);rw[<- hT] at HFind0;have HFind:=hJ (fun(w':World) (hb:Below w.heap.size w w')=>HFind0.out w' hb);have hpk:=hp;rw[<- aX (aM tk) hkb] at hpk;have hfit5:=hfit4;rw[<- aX (aM tk) hkb] at hfit5;have hp4:=hL.pool (show 4<6 by omega);have HDPut0:=hJ (fun(w':World) (hb:Below w.heap.size w w')=>Jh w' oa c n cs en0 hn hU0 (ha.below hb) B S x.used C T L s slot (ay (aM tk)) oZ oZ s0 s1 sl0 sl1 hkl hfit5 hpk);rw[aX (aM tk) hkb,hre,show more x.used 4 (2+((aF (aM tk)).length:Int))=x1.used by rw[hx1]] at HDPut0;have en:cs1.length=n:=by rw[hp.len,en0]
 have HPut1:=hJ (fun(w':World) (g1:Nat) (hrow:cB w' g1 cs1)=>Aq w' (some ⟨g1,0,none⟩) n n cs1 en hn hU (hrow.read hU) hL x1.used T L t wd hr hfit hwu hd);have HX1:=hJ (show ({x with used:=x1.used}:Sx)=x1 by rw[hx1]);have hr3:3<=r:=oZ;obtain⟨K,hK⟩:∃ K,K=ay (aM tk):=⟨_,rfl⟩;rw[<- hK] at HKey HFind HDPut0;have HWord:=hJ (fun w=>Bt w d tk.2.2 oZ oZ oZ oZ);rw[hwd] at HWord;obtain⟨y,hy,hy2,hy3⟩:=jG hU (show r<cs1.length by omega);have ht0:0<=t/\t<=4294967295:=by rw[<- ht,hy2];omega
 obtain⟨t0,t1⟩:=ht0;have s7:IntKind.i64.wrap t=t:=iZ _ oZ;have s8:IntKind.u32.wrap z.1=u32 z.1:=rfl;have HEn1:=hJ en;have HU1:=hJ hU;have HTt:=hJ ht;have hrn1:(r:Int)<(n:Int):=oZ;have HE2:=hJ (show cs2.length=n by rw[hd.len,en]);have HTm:=hJ hT;clear hT hkl hf hfk ha hL hd hU hU0 en en0 hy hy2 hy3 ht hwd hwu hr hfit hK hkb hp hpk hfit4 hfit5 hp4 hre hx1 hus;go_enter Tryz.func98,Tryz.ntmps98
 go_upto_region 1 with fail
 obtain⟨w0,hw0⟩:∃ w0,w0=(((w.alloc (.cells (aH (.slice oa n c) (.slice og gn gc) x) 49)).alloc (.cells (ae B S C T L) 42)).alloc (.cells #[.int .u8 tk.1,.string tk.2.1,.int .i64 tk.2.2] 195)).alloc (.cells (aH (.slice none 0 0) (.slice none 0 0) ⟨[],0,0,fun _=>0⟩) 49):=⟨_,rfl⟩;rw[show (((w.alloc (.cells (aH (.slice oa n c) (.slice og gn gc) x) 49)).alloc (.cells (ae B S C T L) 42)).alloc (.cells #[.int .u8 tk.1,.string tk.2.1,.int .i64 tk.2.2] 195)).alloc (.cells #[.slice none 0 0,.slice none 0 0,.int .i64 0,.int .u32 0,.int .i64 0,.int .i64 0,.int .i64 0,.int .i64 0,.int .i64 0,.int .i64 0] 49)=w0 from hw0.symm]
 have HW0:=hJ (show WB w (.slice oa n c) (.slice og gn gc) x B S C T L tk w0 by
  rw[hw0];refine⟨?_,?_,?_,⟨.slice none 0 0,.slice none 0 0,⟨[],0,0,fun _=>0⟩,?_⟩,?_⟩
  ·exact(Below.heap_alloc _ _ _ uZ).trans (dN _ _ _ _)
  ·exact(Below.heap_alloc _ _ _ sZ).trans (dM _ _ _ _)
  ·exact(Below.heap_alloc _ _ _ sZ).trans (dS _ _ _ _)
  ·have:=nZ (((w.alloc (.cells (aH (.slice oa n c) (.slice og gn gc) x) 49)).alloc (.cells (ae B S C T L) 42)).alloc (.cells #[.int .u8 tk.1,.string tk.2.1,.int .i64 tk.2.2] 195)) (.cells (aH (.slice none 0 0) (.slice none 0 0) ⟨[],0,0,fun _=>0⟩) 49);simpa using this
  ·exact bi.alloc uZ _)
 clear hw0;have c0:w0.cell? ⟨w.heap.size+1+1,0,none⟩=some (.int .u8 tk.1):=aa HW0.out.tk 0;have c1:w0.cell? ⟨w.heap.size+1+1,1,none⟩=some (.string tk.2.1):=aa HW0.out.tk 1;go_wp2_with fail
 refine(HKey.out _).mono ?_;rintro e wA ⟨rfl,hb⟩;have HWB:=hJ (HW0.out.below hb);clear hb HKey HW0 c0 c1;have k0:wA.cell? ⟨w.heap.size,0,none⟩=some (.slice oa n c):=aa HWB.out.st 0;have k1:wA.cell? ⟨w.heap.size+1,13,none⟩=some (.int .i64 T):=aa HWB.out.pl 13;go_wp2_with fail
 refine(HFind.out _ HWB.out.low).mono ?_;rintro e wB ⟨rfl,hb⟩;have HWB:=hJ (HWB.out.below hb);clear hb HFind k0 k1 HFind0;have k0:wB.cell? ⟨w.heap.size,0,none⟩=some (.slice oa n c):=aa HWB.out.st 0
 go_wp2_with (first
  | (refine yZ rfl 42 (.tmp 6) rfl (w.heap.size+1) rfl 42 (ae B S C T L) (0,0) _ HWB.out.pl Tryz.underlying42 rfl (ai _ _ _ _ _) ?_)
  | (refine dC rfl 40 (.tmp 48) rfl w.heap.size 4 rfl 49 (aH (.slice oa n c) (.slice og gn gc) x) (six x.used) (0,0) _ HWB.out.st (r9 _ _ _) Tryz.underlying40 rfl (af _) ?_)
  | fail)
 refine(HDPut0.out _ HWB.out.low).mono ?_;rintro e wC ⟨g1,rfl,hrow,hb,hg1⟩;have HWB:=hJ (HWB.out.below hb);have hwb:=HWB.out.lt;have hgW:g1≠w.heap.size:=hrow.ne HWB.out.st dZ;have HRow:=hJ hrow;clear hb hrow k0 HDPut0
 go_upto_region 5 with (first
  | (refine zZ rfl 40 (.tmp 17) (.tmp 56) rfl wC.heap.size (six x1.used) rfl rfl 40 (six fun _=>0) (nZ wC _) (af _) rfl (aQ _) ?_)
  | fail)
 rw[World.setRow_alloc_new];have hb4:=aj (w:=wC) (A:=.cells (six x1.used) 40);have HQ0:=hJ (nZ wC (.cells (six x1.used) 40));have HWB:=hJ (HWB.out.below hb4);have HRow:=hJ (HRow.out.below hb4);generalize wC.alloc (.cells (six x1.used) 40)=wD at HQ0 HWB HRow ⊢;obtain⟨qc,hqc⟩:∃ qc,qc=wC.heap.size:=⟨_,rfl⟩;rw[<- hqc] at HQ0 ⊢;have hqW:qc≠w.heap.size:=oZ;clear hb4 hqc;have f0:=free_at HWB.out.st 0;have c0:wD.cell? ⟨w.heap.size,0,none⟩=some (.slice oa n c):=aa HWB.out.st 0;have HWE:=hJ (HWB.out.cell (.slice (some ⟨g1,0,none⟩) n n));have HRowE:=hJ (HRow.out.of_block (Below.heap_setCell wD ⟨w.heap.size,0,none⟩ (.slice (some ⟨g1,0,none⟩) n n) g1 (show g1≠w.heap.size from hgW)));have HQE:=hJ ((Below.heap_setCell wD ⟨w.heap.size,0,none⟩ (.slice (some ⟨g1,0,none⟩) n n) qc (show qc≠w.heap.size from hqW)).trans HQ0.out);go_upto_region 6 with fail
 clear f0 c0 HWB HRow HQ0;generalize wD.setCell ⟨w.heap.size,0,none⟩ (.slice (some ⟨g1,0,none⟩) n n)=wE at HWE HRowE HQE ⊢
 go_upto_region 7 with (first
  | (refine yZ rfl 40 (.tmp 17) rfl qc rfl 40 (six x1.used) (0,0) _ HQE.out Tryz.underlying40 rfl (af _) ?_)
  | (refine dw rfl 40 (.tmp 62) (.tmp 60) rfl w.heap.size 4 (six x1.used) rfl rfl 49 (aH (.slice (some ⟨g1,0,none⟩) n n) (.slice og gn gc) x) (aH (.slice (some ⟨g1,0,none⟩) n n) (.slice og gn gc) {x with used:=x1.used}) HWE.out.st (by simp[six,aH]) (af _) (aQ _) rfl ?_)
  | fail)
 have HWF:=hJ (HWE.out.used x1.used);have HRowF:=hJ (HRowE.out.of_block (qZ wE w.heap.size g1 (aH (.slice (some ⟨g1,0,none⟩) n n) (.slice og gn gc) {x with used:=x1.used}) hgW));clear HWE HRowE HQE;generalize wE.setRow w.heap.size (aH (.slice (some ⟨g1,0,none⟩) n n) (.slice og gn gc) {x with used:=x1.used})=wB0 at HWF HRowF ⊢;rw[HX1.out] at HWF;obtain⟨wA2,hwA⟩:∃ wA2,wA2=wB0:=⟨_,rfl⟩;rw[<- hwA] at HWF HRowF ⊢;have HWB:Hid (WB w (.slice (some ⟨g1,0,none⟩) n n) (.slice og gn gc) x1 B S C T L tk wA2):=HWF;have HRd:=hJ HWB.out.low;have HPut:Hid (∀ w',Below wA2.heap.size wA2 w'->Calls Tryz.prog 137 #[.slice (some ⟨g1,0,none⟩) n n,.agg (ae B S C T L),.agg (six x1.used),.int .i64 t,.int .u32 wd] w' fun e w2=>∃ g,e=.returned (.tuple #[.slice (some ⟨g,0,none⟩) n n,.int .i64 z.1,.agg (six z.2.1),.int .i64 0])/\cB w2 g cs2/\Below w'.heap.size w' w2/\w'.heap.size<=g):=hJ (fun w' hb2=>HPut1.out w' g1 (HRowF.out.below hb2));have HCell:=hJ (show wA2.cell? ⟨g1,r,none⟩=some (.int .u32 t) by rw[HRowF.out.cell (by rw[HEn1.out];exact hrn),HTt.out]);clear hwA HWF HRowF HPut1 HX1 hgW;have cpos:wA2.cell? ⟨w.heap.size+1+1,2,none⟩=some (.int .i64 tk.2.2):=aa HWB.out.tk 2;go_wp2_with fail
 refine(HWord.out _).mono ?_;rintro e w8 ⟨rfl,rfl⟩;go_upto_region 9 with fail
 clear cpos;have hwlt:=HWB.out.lt
 refine aL (fun(p:Nat×Nat) j=>[.pointer (some ⟨w.heap.size,0,none⟩),.slice (some ⟨g1,0,none⟩) n n,.agg (ae B S C T L),.pointer (some ⟨w.heap.size,1,none⟩),.pointer (some ⟨w.heap.size,4,none⟩),.agg (six x1.used),.pointer (some ⟨w.heap.size,0,none⟩),.slice (some ⟨g1,0,none⟩) n n,.int .i64 (r:Int),.pointer (some ⟨g1,r,none⟩),.int .u32 t,.int .i64 t,.int .u32 wd,.tuple #[.slice (some ⟨p.1,0,none⟩) n n,.int .i64 z.1,.agg (six z.2.1),.int .i64 0],.tuple #[.slice (some ⟨p.1,0,none⟩) n n,.int .i64 z.1,.agg (six z.2.1),.int .i64 0],.slice (some ⟨p.1,0,none⟩) n n,.int .i64 z.1,.agg (six z.2.1),.int .i64 0,.pointer (some ⟨p.2,0,none⟩),.slice (some ⟨p.1,0,none⟩) n n,.int .i64 z.1,undef,.int .i64 0].getD j undef)
  (fun p l wx=>R9 w (.slice (some ⟨g1,0,none⟩) n n) (.slice og gn gc) x1 B S C T L tk w8 cs2 z.2.1 p l wx)
  kZ kZ pZ (0,0) ?_ ?_ ?_
 ·exact⟨HWB.out.below (Below.refl _ _).drew,(Below.refl _ _).drew,(fun h=>by cases h),(fun h=>by cases h),(fun h=>by cases h),(fun h=>by cases h),(fun h=>by cases h),(fun h=>by cases h)⟩
 ·intro i o ho p l wx hR hl he K hK;rcases i with _|_|_|_|_|_|_|_|_|_|_|_|_|_|_|_|_|_|_|_|_|_|_|_|i
  any_goals first | (cases ho;go_simp;exact hK p wx (fun _ _=>rfl) ⟨hR.wb,hR.low,hR.row,hR.d14,hR.d15,hR.d20,hR.d22,hR.q⟩;done) | fail
  ·cases ho;have q:wx.cell? ⟨w.heap.size,0,none⟩=some (.slice (some ⟨g1,0,none⟩) n n):=aa hR.wb.st 0;go_simp;exact hK p wx (fun _ _=>rfl) ⟨hR.wb,hR.low,hR.row,hR.d14,hR.d15,hR.d20,hR.d22,hR.q⟩
  ·cases ho;refine wp_load_row 42 (.tmp 6) rfl (w.heap.size+1) rfl 42 (ae B S C T L) (0,0) _ hR.wb.pl Tryz.underlying42 rfl (ai _ _ _ _ _) ?_;exact hK p wx (fun _ _=>rfl) ⟨hR.wb,hR.low,hR.row,hR.d14,hR.d15,hR.d20,hR.d22,hR.q⟩
  ·cases ho;refine aR 40 (.tmp 76) rfl w.heap.size 4 rfl 49 (aH (.slice (some ⟨g1,0,none⟩) n n) (.slice og gn gc) x1) (six x1.used) (0,0) _ hR.wb.st (r9 _ _ _) Tryz.underlying40 rfl (af _) ?_;exact hK p wx (fun _ _=>rfl) ⟨hR.wb,hR.low,hR.row,hR.d14,hR.d15,hR.d20,hR.d22,hR.q⟩
  ·cases ho;have q:wx.cell? ⟨w.heap.size,0,none⟩=some (.slice (some ⟨g1,0,none⟩) n n):=aa hR.wb.st 0;go_simp;exact hK p wx (fun _ _=>rfl) ⟨hR.wb,hR.low,hR.row,hR.d14,hR.d15,hR.d20,hR.d22,hR.q⟩
  ·cases ho;have q:=az HCell.out hR.low;go_simp;exact hK p wx (fun _ _=>rfl) ⟨hR.wb,hR.low,hR.row,hR.d14,hR.d15,hR.d20,hR.d22,hR.q⟩
  ·cases ho;go_simp;refine(HPut.out wx hR.low).mono ?_;rintro e w2 ⟨g2,rfl,hrow2,hb2,hg2⟩;refine hK (g2,p.2) w2 (fun j hj=>?_) ⟨hR.wb.below hb2,ag hR.low hb2,fun _=>⟨hrow2,Nat.le_trans hR.wb.low.size hg2⟩,fun _=>rfl,fun _=>rfl,fun _=>rfl,hR.d22,fun h=>⟨(hR.q h).1,(hb2.block _ (lt_of_heap (hR.q h).2)).trans (hR.q h).2⟩⟩;rcases j with _|_|_|_|_|_|_|_|_|_|_|_|_|_|_|_|_|_|_|_|_|_|_|_|j
   all_goals first | rfl | (rw[hl] at hj;cases hj) | (exact absurd (hR.d14 hj) lZ) | (exact absurd (hR.d15 hj) lZ) | (exact absurd (hR.d20 hj) lZ)
  ·cases ho;have h13:=he ⟨13,.data⟩ sZ rfl;go_simp;exact hK p wx (fun _ _=>rfl) ⟨hR.wb,hR.low,hR.row,fun _=>h13,hR.d15,hR.d20,hR.d22,hR.q⟩
  ·cases ho;have h13:=hR.d14 (he ⟨14,.data⟩ sZ rfl);go_simp;exact hK p wx (fun _ _=>rfl) ⟨hR.wb,hR.low,hR.row,hR.d14,fun _=>h13,hR.d20,hR.d22,hR.q⟩
  ·cases ho;go_simp;refine hK (p.1,wx.heap.size) _ (fun j hj=>?_) ⟨hR.wb.below aj,ag hR.low aj,fun h=>⟨(hR.row h).1.below aj,(hR.row h).2⟩,hR.d14,hR.d15,hR.d20,fun _=>rfl,fun _=>⟨hR.low.size,?_⟩⟩
   ·rcases j with _|_|_|_|_|_|_|_|_|_|_|_|_|_|_|_|_|_|_|_|_|_|_|_|j
    all_goals first | rfl | (rw[hl] at hj;cases hj)
   ·have h22:l 22=false:=by
     cases h:l 22 with
     | false=>rfl
     | true=>have:=hR.d22 h;rw[hl] at this;cases this
    rw[if_neg (by show ¬ ((22==19||l 22)=true);rw[h22];decide)];exact nZ _ _
  ·cases ho;have h13:=hR.d15 (he ⟨15,.data⟩ sZ rfl);go_simp;exact hK p wx (fun _ _=>rfl) ⟨hR.wb,hR.low,hR.row,hR.d14,hR.d15,fun _=>h13,hR.d22,hR.q⟩
  ·cases ho;have h19:=he ⟨19,.data⟩ sZ rfl;obtain⟨hq1,hq2⟩:=hR.q h19;rw[if_neg lZ] at hq2;refine wp_store_row 40 (.tmp 23) (.tmp 88) rfl p.2 (six z.2.1) rfl rfl 40 _ hq2 (af _) (aS _ _) (aQ _) ?_;exact hK p _ (fun _ _=>rfl) ⟨hR.wb.far oZ (fun j hj=>qZ _ _ _ _ hj) (below_setRow hR.wb.low oZ _),below_setRow hR.low hq1 _,fun h=>⟨(hR.row h).1.of_block (qZ _ _ _ _ ((hR.row h).1.ne hq2 dZ)),(hR.row h).2⟩,hR.d14,hR.d15,hR.d20,fun _=>h19,fun _=>⟨hq1,setRow_heap _ _ _ _ _ _ hq2⟩⟩
  ·simp at ho
 ·intro p l wx hl hR;obtain⟨g2,qb⟩:=p;have hq:=hR.q (hl 19 dZ);rw[if_pos (hl 22 dZ)] at hq;have HRow:=hJ (show cB wx g2 cs2 from(hR.row (hl 13 dZ)).1);have hge:=(hR.row (hl 13 dZ)).2;have HQ:=hJ (show w8.heap.size<=qb/\wx.heap[qb]?=some (.cells (six z.2.1) 40 (0,0)) from hq);have HW9:=hJ hR.wb;clear hR hl hq HWB HRd HPut HCell HWord;have fa:=HRow.out.frozen r;have ca:=HRow.out.cell (a:=r) (by rw[HE2.out];exact hrn);go_upto_region 11 with fail
  have hgq:g2≠qb:=HRow.out.ne HQ.out.2 dZ;have hgW:g2≠w.heap.size:=HRow.out.ne HW9.out.st dZ
  have hgX:w.heap.size+1+1+1<g2:=by
   have h1:=HRow.out.ne HW9.out.pl dZ;have h2:=HRow.out.ne HW9.out.tk dZ;obtain⟨X,Y,Z,h4⟩:=HW9.out.rs;have h3:=HRow.out.ne h4 dZ;omega
  have HRow2:=hJ (HRow.out.set (a:=r) (by rw[HE2.out];exact hrn) (u32 z.1));have HW10:=hJ (HW9.out.far (w':=wx.setCell ⟨g2,r,none⟩ (.int .u32 (u32 z.1))) hgX (fun j hj=>Below.heap_setCell wx ⟨g2,r,none⟩ (.int .u32 (u32 z.1)) j hj) (dD HW9.out.low oZ r _));have HQ2:=hJ ((Below.heap_setCell wx ⟨g2,r,none⟩ (.int .u32 (u32 z.1)) qb (Ne.symm hgq)).trans HQ.out.2);clear fa ca HW9 HRow;generalize wx.setCell ⟨g2,r,none⟩ (.int .u32 (u32 z.1))=wy at HRow2 HW10 HQ2 ⊢;have hqW:qb≠w.heap.size:=by have:=HQ.out.1;omega
  have f0:=free_at HW10.out.st 0;have c0:wy.cell? ⟨w.heap.size,0,none⟩=some (.slice (some ⟨g1,0,none⟩) n n):=aa HW10.out.st 0;have HW11:=hJ (HW10.out.cell (.slice (some ⟨g2,0,none⟩) n n));have HRow3:=hJ (HRow2.out.of_block (Below.heap_setCell wy ⟨w.heap.size,0,none⟩ (.slice (some ⟨g2,0,none⟩) n n) g2 (show g2≠w.heap.size from hgW)));have HQ3:=hJ ((Below.heap_setCell wy ⟨w.heap.size,0,none⟩ (.slice (some ⟨g2,0,none⟩) n n) qb (show qb≠w.heap.size from hqW)).trans HQ2.out);go_upto_region 12 with fail
  clear f0 c0 HW10 HRow2 HQ2;generalize wy.setCell ⟨w.heap.size,0,none⟩ (.slice (some ⟨g2,0,none⟩) n n)=wz at HW11 HRow3 HQ3 ⊢
  go_upto_region 13 with (first
   | (refine yZ rfl 40 (.tmp 23) rfl qb rfl 40 (six z.2.1) (0,0) _ HQ3.out Tryz.underlying40 rfl (af _) ?_)
   | (refine dw rfl 40 (.tmp 99) (.tmp 97) rfl w.heap.size 4 (six z.2.1) rfl rfl 49 (aH (.slice (some ⟨g2,0,none⟩) n n) (.slice og gn gc) x1) (aH (.slice (some ⟨g2,0,none⟩) n n) (.slice og gn gc) {x1 with used:=z.2.1}) HW11.out.st (by simp[six,aH]) (af _) (aQ _) rfl ?_)
   | fail)
  have HW12:=hJ (HW11.out.used z.2.1);have HRow4:=hJ (HRow3.out.of_block (qZ wz w.heap.size g2 (aH (.slice (some ⟨g2,0,none⟩) n n) (.slice og gn gc) {x1 with used:=z.2.1}) hgW));clear HW11 HRow3 HQ3;generalize wz.setRow w.heap.size (aH (.slice (some ⟨g2,0,none⟩) n n) (.slice og gn gc) {x1 with used:=z.2.1})=w13 at HW12 HRow4 ⊢;obtain⟨X,Y,Z,hrs⟩:=HW12.out.rs;have HRs:=hJ hrs;clear hrs
  go_wp2_with (first
   | (refine yZ rfl 49 (.tmp 5) rfl w.heap.size rfl 49 (aH (.slice (some ⟨g2,0,none⟩) n n) (.slice og gn gc) {x1 with used:=z.2.1}) (0,0) _ HW12.out.st Tryz.underlying49 rfl (aG _ _ _) ?_)
   | (refine zZ rfl 49 (.tmp 10) (.tmp 100) rfl (w.heap.size+1+1+1) (aH (.slice (some ⟨g2,0,none⟩) n n) (.slice og gn gc) {x1 with used:=z.2.1}) rfl rfl 49 (aH X Y Z) HRs.out (aG _ _ _) rfl (Eo _ _ _ _ _ _ _) ?_)
   | fail)
  refine tZ (v:=.agg (aH (.slice (some ⟨g2,0,none⟩) n n) (.slice og gn gc) {x1 with used:=z.2.1})) (jS rfl _ _ (w.heap.size+1+1+1) _ _ (0,0) _ rfl (setRow_heap _ _ _ _ _ _ HRs.out) Tryz.underlying49 rfl (aG _ _ _)) rfl ?_;exact⟨g2,rfl,HRow4.out.of_block (qZ _ _ _ _ oZ),hge,below_setRow HW12.out.low oZ _⟩
end Go.Proofs.YtafaohnhlgcnpaaGreatDoor
