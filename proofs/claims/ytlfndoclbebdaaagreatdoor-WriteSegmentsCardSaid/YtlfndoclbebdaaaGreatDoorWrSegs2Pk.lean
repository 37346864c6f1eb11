/-
 What stage 12 rests on.
-/
import Derived.Test.YtlfndoclbebdaaaGreatDoorWrAlA1
import Derived.Test.YtlfndoclbebdaaaGreatDoorWrSegsPk
set_option maxRecDepth 100000
set_option maxHeartbeats 16000000
namespace Go.Proofs.YtlfndoclbebdaaaGreatDoor
open Go.RowKit
theorem RD (w:World) (hT:ed w) (d t:Int) (ss:Nat->Int) (bk rm:Int) (kf bf:Nat) (s:Sg) (n:Nat) (hn:n<=65535) :
  Calls Tryz.prog 7 #[.agg (ak d t ss bk rm kf bf),.agg #[.int .i64 s.1,.int .i64 s.2.1,.bool s.2.2],.int .u16 (n:Int)] w fun e w'=>e=.returned (.bool true)/\Below w.heap.size w w':=by
 have HT:=hJ hT
 clear hT
 obtain⟨N,hN⟩:∃ N:Nat,N=1+n:=⟨_,rfl⟩
 have HNn:=hJ (show 1<=N/\N<=65536 by omega)
 have sN1:IntKind.i64.wrap (n:Int)=(n:Int):=iZ _ oZ
 have sN2:IntKind.i64.wrap (1+(n:Int))=(N:Int):=by rw[iZ _ oZ];omega
 have HS1:=hJ sN1
 have HS2:=hJ sN2
 clear sN1 sN2 hN hn
 go_enter Tryz.func7,Tryz.ntmps7
 go_upto_region 1 with fail
 have hb0:Below w.heap.size w ((w.alloc (.cells (ak d t ss bk rm kf bf) 25)).alloc (.cells #[.int .i64 s.1,.int .i64 s.2.1,.bool s.2.2] 65)):=au.alloc sZ _
 have hc0:((w.alloc (.cells (ak d t ss bk rm kf bf) 25)).alloc (.cells #[.int .i64 s.1,.int .i64 s.2.1,.bool s.2.2] 65)).heap[w.heap.size]?=some (.cells (ak d t ss bk rm kf bf) 25 (0,0)):=(Below.heap_alloc _ _ _ sZ).trans (nZ w _)
 have hz0:((w.alloc (.cells (ak d t ss bk rm kf bf) 25)).alloc (.cells #[.int .i64 s.1,.int .i64 s.2.1,.bool s.2.2] 65)).heap[w.heap.size+1]?=some (.cells #[.int .i64 s.1,.int .i64 s.2.1,.bool s.2.2] 65 (0,0)):=by
  have:=nZ (w.alloc (.cells (ak d t ss bk rm kf bf) 25)) (.cells #[.int .i64 s.1,.int .i64 s.2.1,.bool s.2.2] 65)
  simpa using this
 generalize ((w.alloc (.cells (ak d t ss bk rm kf bf) 25)).alloc (.cells #[.int .i64 s.1,.int .i64 s.2.1,.bool s.2.2] 65))=w0 at hb0 hc0 hz0 ⊢
 have HC:=hJ hc0
 have HZ:=hJ hz0
 have HB:=hJ hb0
 have c0:w0.cell? ⟨w.heap.size+1,0,none⟩=some (.int .i64 s.1):=ae hz0 0
 clear hb0 hc0 hz0
 by_cases hhi:(1099511627776:Int)<s.1
 ·go_wp2_with fail
  refine(qC w0 (HT.out.below HB.out)).mono ?_;rintro e w1 ⟨rfl,hb⟩
  have HB1:=hJ (ah HB.out hb)
  clear hb
  go_wp2_with fail
  go_ret
  exact⟨rfl,HB1.out⟩
 by_cases hlo:s.1<(-1099511627776:Int)
 ·go_wp2_with fail
  refine(qC w0 (HT.out.below HB.out)).mono ?_;rintro e w1 ⟨rfl,hb⟩
  have HB1:=hJ (ah HB.out hb)
  clear hb
  go_wp2_with fail
  go_ret
  exact⟨rfl,HB1.out⟩
 have HA:=hJ (show -1100000000000<=s.1/\s.1<=1100000000000 by omega)
 go_wp2_with (first
  | (refine yZ rfl 25 (.tmp 3) rfl w.heap.size rfl 25 (ak d t ss bk rm kf bf) (0,0) _ HC.out Tryz.underlying25 rfl (eu _ _ _ _ _ _ _) ?_)
  | fail)
 clear hhi hlo c0
 refine(Q7 w0 d t ss bk rm kf bf).mono ?_;rintro e w1 ⟨B,S,C,T,L,er,rfl,hb,hcase⟩
 have HCase:=hJ hcase
 have HB:=hJ (ah HB.out hb)
 have HC:=hJ (aj HC.out hb)
 have HZ:=hJ (aj HZ.out hb)
 clear hb hcase
 go_upto_region 4 with (first
  | (refine zZ rfl 42 (.tmp 7) (.tmp 27) rfl w1.heap.size (af B S C T L) rfl rfl 42 (af (fun _=>0) (fun _=>0) 0 0 0) (nZ w1 _) (ai _ _ _ _ _) (sD _ _ _ _ _ _ _ _ _ _) (iF _ _ _ _ _) ?_)
  | fail)
 rw[World.setRow_alloc_new]
 have hb:=au (w:=w1) (A:=.cells (af B S C T L) 42)
 have HQ:=hJ (nZ w1 (.cells (af B S C T L) 42))
 have HB:=hJ (ah HB.out hb)
 have HC:=hJ (aj HC.out hb)
 have HZ:=hJ (aj HZ.out hb)
 obtain⟨q,hq⟩:∃ q,q=w1.heap.size:=⟨_,rfl⟩
 rw[<- hq] at HQ ⊢
 generalize w1.alloc (.cells (af B S C T L) 42)=w2 at HQ HB HC HZ ⊢
 clear hb hq
 have sN1:=HS1.out
 have sN2:=HS2.out
 go_wp2_with fail
 clear sN1 sN2
 refine(Qc w2 N HNn.out.1 HNn.out.2).mono ?_;rintro e w3 ⟨rfl,hm,hb⟩
 have HMl:=hJ (show w2.heap.size<w2.heap.size+1 by omega)
 obtain⟨mb,hmb⟩:∃ mb,mb=w2.heap.size+1:=⟨_,rfl⟩
 obtain⟨mc,hmc⟩:∃ mc,mc=w2.heap.size:=⟨_,rfl⟩
 have HMlow:=hJ (show w2.heap.size<=mb/\w2.heap.size<=mc by omega)
 rw[<- hmb,<- hmc] at hm
 rw[<- hmb]
 have HM:=hJ hm
 have HLt:=hJ (And.intro (lt_of_heap HC.out) (And.intro (lt_of_heap HZ.out) (lt_of_heap HQ.out)))
 have HB3:=hJ (ah HB.out hb)
 have HC3:=hJ (aj HC.out hb)
 have HZ3:=hJ (aj HZ.out hb)
 have HQ3:=hJ (aj HQ.out hb)
 have HW2:=hJ (show w.heap.size<=w2.heap.size from HB.out.size)
 clear hb hm hmb hmc HC HZ HQ HMl
 go_wp2_with (first
  | (refine yZ rfl 25 (.tmp 3) rfl w.heap.size rfl 25 (ak d t ss bk rm kf bf) (0,0) _ HC3.out Tryz.underlying25 rfl (eu _ _ _ _ _ _ _) ?_)
  | fail)
 refine(Rk HNn.out.1 HM.out d t ss bk rm kf bf).mono ?_;rintro e w4 ⟨so,sn,sk,x,f,l4,s4,rfl,hmod,hm4,hno⟩
 have HNo:=hJ hno
 have hne:∀ k,k<w2.heap.size->¬ (k=mb∨k=mc):=fun k hk=>by have:=HMlow.out;omega
 have HM4:=hJ hm4
 have HB4:=hJ (show Below w.heap.size w w4 from HB3.out.trans ⟨hmod.os,hmod.tape,hmod.output,hmod.size,fun k hk=>hmod.block k (Nat.lt_of_lt_of_le hk HB3.out.size) (hne _ (Nat.lt_of_lt_of_le hk HW2.out))⟩)
 have HC4:=hJ ((hmod.block _ (lt_of_heap HC3.out) (hne _ HLt.out.1)).trans HC3.out)
 have HZ4:=hJ ((hmod.block _ (lt_of_heap HZ3.out) (hne _ HLt.out.2.1)).trans HZ3.out)
 have HQ4:=hJ ((hmod.block _ (lt_of_heap HQ3.out) (hne _ HLt.out.2.2)).trans HQ3.out)
 clear hmod hm4 hno hne HC3 HZ3 HQ3 HB3 HM
 go_upto_region 6 with (first
  | (refine zZ rfl 46 (.tmp 11) (.tmp 40) rfl w4.heap.size (aQ (.slice so sn sk) x) rfl rfl 46 (aQ (.slice none 0 0) aO) (nZ w4 _) (aN _ _) rfl (dY _ _ _ _) ?_)
  | fail)
 rw[World.setRow_alloc_new]
 have hb:=au (w:=w4) (A:=.cells (aQ (.slice so sn sk) x) 46)
 have HB5:=hJ (ah HB4.out hb)
 have HC5:=hJ (aj HC4.out hb)
 have HZ5:=hJ (aj HZ4.out hb)
 have HQ5:=hJ (aj HQ4.out hb)
 have HM5:=hJ (show ∃ cs,dD (w4.alloc (.cells (aQ (.slice so sn sk) x) 46)) mb mc cs l4 s4 from⟨_,HM4.out.choose_spec.below hb⟩)
 generalize w4.alloc (.cells (aQ (.slice so sn sk) x) 46)=w5 at HB5 HC5 HZ5 HQ5 HM5 ⊢
 clear hb HC4 HZ4 HQ4 HM4 HB4
 go_wp2_with (first
  | (refine yZ rfl 25 (.tmp 3) rfl w.heap.size rfl 25 (ak d t ss bk rm kf bf) (0,0) _ HC5.out Tryz.underlying25 rfl (eu _ _ _ _ _ _ _) ?_)
  | fail)
 refine(Rq w5 d t ss bk rm kf bf).mono ?_;rintro e w6 ⟨rfl,hb⟩
 have HB6:=hJ (ah HB5.out hb)
 have HZ6:=hJ (aj HZ5.out hb)
 have HQ6:=hJ (aj HQ5.out hb)
 have HM6:=hJ (show ∃ cs,dD w6 mb mc cs l4 s4 from⟨_,HM5.out.choose_spec.below hb⟩)
 clear hb HC5 HZ5 HQ5 HM5 HB5
 go_upto_region 7 with (first
  | (refine zZ rfl 46 (.tmp 13) (.tmp 45) rfl w6.heap.size (aQ (.slice none 0 0) aO) rfl rfl 46 (aQ (.slice none 0 0) aO) (nZ w6 _) (aN _ _) rfl (dY _ _ _ _) ?_)
  | fail)
 rw[World.setRow_alloc_new]
 have hb:=au (w:=w6) (A:=.cells (aQ (.slice none 0 0) aO) 46)
 have HB7:=hJ (ah HB6.out hb)
 have HZ7:=hJ (aj HZ6.out hb)
 have HQ7:=hJ (aj HQ6.out hb)
 have HM7:=hJ (show ∃ cs,dD (w6.alloc (.cells (aQ (.slice none 0 0) aO) 46)) mb mc cs l4 s4 from⟨_,HM6.out.choose_spec.below hb⟩)
 generalize w6.alloc (.cells (aQ (.slice none 0 0) aO) 46)=w7 at HB7 HZ7 HQ7 HM7 ⊢
 clear hb HZ6 HQ6 HM6 HB6
 refine aJ (fun(p:Unit) jz=>[.bool true,.bool false,.bool false,.agg #[.int .i64 s.1,.int .i64 s.2.1,.bool s.2.2],.int .i64 (dN s),.agg #[.int .i64 s.1,.int .i64 s.2.1,.bool s.2.2],.int .i64 (dN s),.bool false,.bool false,.bool false,.int .i64 1,.bool false,.bool false].getD jz undef)
  (fun p l wx=>Below w7.heap.size w7 wx)
  kZ kZ pZ () ?_ ?_ ?_
 ·exact(Below.refl _ _).drew
 ·intro i o ho p l wx hR hl he hcl K hK
  rcases i with _|_|_|_|_|_|_|_|_|_|_|_|_|i
  any_goals first | (cases ho;go_simp;exact hK () wx (fun _ _=>rfl) hR;done) | fail
  ·cases ho
   go_simp
   refine(qC wx (HT.out.below (ah HB7.out hR))).mono ?_;rintro e w' ⟨rfl,hb⟩
   exact hK () w' (fun _ _=>rfl) (ah hR hb)
  ·cases ho
   exact aV rfl 65 (.tmp 4) rfl (w.heap.size+1) rfl 65 #[.int .i64 s.1,.int .i64 s.2.1,.bool s.2.2] (0,0) _ (aj HZ7.out hR) Tryz.underlying65 rfl (xM s) (hK () wx (fun _ _=>rfl) hR)
  ·cases ho
   go_simp
   refine(yc wx s HA.out.1 HA.out.2).mono ?_;rintro e w' ⟨rfl,hb⟩
   exact hK () w' (fun _ _=>rfl) (ah hR hb)
  ·cases ho
   exact aV rfl 65 (.tmp 4) rfl (w.heap.size+1) rfl 65 #[.int .i64 s.1,.int .i64 s.2.1,.bool s.2.2] (0,0) _ (aj HZ7.out hR) Tryz.underlying65 rfl (xM s) (hK () wx (fun _ _=>rfl) hR)
  ·cases ho
   go_simp
   refine(QZ wx s HA.out.1 HA.out.2).mono ?_;rintro e w' ⟨rfl,hb⟩
   exact hK () w' (fun _ _=>rfl) (ah hR hb)
  ·simp at ho
 ·intro p lz wx hl hR
  have HB8:=hJ (ah HB7.out hR)
  have HQ8:=hJ (aj HQ7.out hR)
  have HM8:=hJ (show ∃ cs,dD wx mb mc cs l4 s4 from⟨_,HM7.out.choose_spec.below hR⟩)
  clear hR hl HB7 HZ7 HQ7 HM7
  obtain⟨cs8,hm8⟩:=HM8.out
  have HS:=hJ (Kt hm8)
  clear hm8
  obtain⟨hok,rfl,hC⟩ | ⟨hbad,rfl⟩:=HCase.out
  ·by_cases hCN:C=(N:Int)
   ·have HCN:=hJ hCN
    have c12:wx.cell? ⟨q,12,none⟩=some (.int .i64 (N:Int)):=by rw[<- HCN.out];exact ae HQ8.out 12
    have sN1:=HS1.out
    have sN2:=HS2.out
    clear hok hC hCN
    go_wp2_with fail
    go_ret
    exact⟨rfl,HB8.out⟩
   ·obtain⟨rfl,rfl⟩:=HNo.out fun h=>hCN (hC.trans h.2)
    have c12:wx.cell? ⟨q,12,none⟩=some (.int .i64 C):=ae HQ8.out 12
    have sN1:=HS1.out
    have sN2:=HS2.out
    have hCe:(C==(N:Int))=false:=by simpa using hCN
    clear hok hC hCN
    go_wp2_with fail
    refine HS.out.mono ?_;rintro e w9 ⟨rfl,rfl⟩
    go_wp2_with fail
    go_ret
    exact⟨rfl,HB8.out⟩
  ·obtain⟨rfl,rfl⟩:=HNo.out fun h=>hbad h.1
   clear hbad
   go_wp2_with fail
   refine HS.out.mono ?_;rintro e w9 ⟨rfl,rfl⟩
   go_wp2_with fail
   go_ret
   exact⟨rfl,HB8.out⟩
end Go.Proofs.YtlfndoclbebdaaaGreatDoor
