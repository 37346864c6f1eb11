/-
 What stage 12 rests on.
-/
import Derived.Test.YtlfndoclbebdaaaGreatDoorWrAlA1
import Derived.Test.YtlfndoclbebdaaaGreatDoorWrAlK1
set_option maxRecDepth 100000
set_option maxHeartbeats 16000000
namespace Go.Proofs.YtlfndoclbebdaaaGreatDoor
open Go.RowKit
def Ri (w:World) (e:Ending) (w':World):Prop:=e=.returned (.tuple #[.agg (aQ (.slice none 0 0) aO),.int .i64 1])/\Below w.heap.size w w'
theorem Q5 (w:World) (mv:Option Addr) (dd tt:Int) (ss:Nat->Int) (bk rm:Int) (kf bf:Nat) (hok:¬ fU dd tt ss bk rm) :
  Calls Tryz.prog 35 #[.pointer mv,.agg (ak dd tt ss bk rm kf bf)] w (Ri w):=by
 have HLy:=hJ (fun w=>Ru w dd tt ss bk rm kf bf hok)
 clear hok
 go_enter Tryz.func35,Tryz.ntmps35
 go_upto_region 1 with fail
 have hb0:Below w.heap.size w ((w.alloc (.cells (ak dd tt ss bk rm kf bf) 25)).alloc (.cells (aQ (.slice none 0 0) aO) 46)):=au.alloc sZ _
 have hc0:((w.alloc (.cells (ak dd tt ss bk rm kf bf) 25)).alloc (.cells (aQ (.slice none 0 0) aO) 46)).heap[w.heap.size]?=some (.cells (ak dd tt ss bk rm kf bf) 25 (0,0)):=(Below.heap_alloc _ _ _ sZ).trans (nZ w _)
 have hz0:((w.alloc (.cells (ak dd tt ss bk rm kf bf) 25)).alloc (.cells (aQ (.slice none 0 0) aO) 46)).heap[w.heap.size+1]?=some (.cells (aQ (.slice none 0 0) aO) 46 (0,0)):=by
  have:=nZ (w.alloc (.cells (ak dd tt ss bk rm kf bf) 25)) (.cells (aQ (.slice none 0 0) aO) 46)
  simpa using this
 obtain⟨w0,hw0⟩:∃ w0,w0=((w.alloc (.cells (ak dd tt ss bk rm kf bf) 25)).alloc (.cells (aQ (.slice none 0 0) aO) 46)):=⟨_,rfl⟩
 rw[show (w.alloc (.cells (ak dd tt ss bk rm kf bf) 25)).alloc (.cells #[.slice none 0 0,.int .i64 0,.int .u32 0,.int .i64 0,.int .i64 0,.int .i64 0,.int .i64 0,.int .i64 0,.int .i64 0] 46)=w0 from hw0.symm]
 rw[<- hw0] at hb0 hc0 hz0
 have HC:=hJ hc0
 have HZ:=hJ hz0
 have HB:=hJ hb0
 clear hw0 hb0 hc0 hz0
 go_wp2_with (first
  | (refine yZ rfl 25 (.tmp 3) rfl w.heap.size rfl 25 (ak dd tt ss bk rm kf bf) (0,0) _ HC.out Tryz.underlying25 rfl (eu _ _ _ _ _ _ _) ?_)
  | fail)
 refine(HLy.out _).mono ?_;rintro e w1 ⟨rfl,hb⟩
 have HB:=hJ (ah HB.out hb)
 have HZ:=hJ ((hb.block _ (lt_of_heap HZ.out)).trans HZ.out)
 clear hb HLy HC
 go_upto_region 2 with (first
  | (refine zZ rfl 42 (.tmp 6) (.tmp 14) rfl w1.heap.size (af (fun _=>0) (fun _=>0) 0 0 0) rfl rfl 42 (af (fun _=>0) (fun _=>0) 0 0 0) (nZ w1 _) (ai _ _ _ _ _) (sD _ _ _ _ _ _ _ _ _ _) (iF _ _ _ _ _) ?_)
  | fail)
 rw[World.setRow_alloc_new]
 have hb:=au (w:=w1) (A:=.cells (af (fun _=>0) (fun _=>0) 0 0 0) 42)
 have HB:=hJ (ah HB.out hb)
 have HZ:=hJ ((hb.block _ (lt_of_heap HZ.out)).trans HZ.out)
 generalize w1.alloc (.cells (af (fun _=>0) (fun _=>0) 0 0 0) 42)=w2 at HB HZ ⊢
 clear hb
 have HZr:=hJ HZ.out
 go_wp2_with (first
  | (refine zZ rfl 46 (.tmp 4) (.tmp 18) rfl (w.heap.size+1) (aQ (.slice none 0 0) aO) rfl rfl 46 (aQ (.slice none 0 0) aO) HZr.out (aN _ _) rfl (dY _ _ _ _) ?_)
  | fail)
 refine tZ (v:=.tuple #[.agg (aQ (.slice none 0 0) aO),.int .i64 1]) (dG rfl _ _ (w.heap.size+1) _ _ (0,0) _ _ rfl rfl (setRow_heap _ _ _ _ _ _ HZr.out) Tryz.underlying46 rfl (aN _ _)) rfl ?_
 exact⟨rfl,below_setRow HB.out oZ _⟩
theorem Q8 (w:World) (mv:Option Addr) (N:Nat) (hlen:∀ w',Below w.heap.size w w'->Calls Tryz.prog 64 #[.pointer mv] w' fun e w''=>e=.returned (.int .i64 (N:Int))/\w'=w'') (dd tt:Int) (ss:Nat->Int) (bk rm:Int) (kf bf:Nat) (hok:fU dd tt ss bk rm) {n:Nat} (hpl:az (aB ss bk rm) 6=(n:Int)) (hne:N≠n) :
  Calls Tryz.prog 35 #[.pointer mv,.agg (ak dd tt ss bk rm kf bf)] w (Ri w):=by
 have HLy:=hJ (fun w=>FT w dd tt ss bk rm kf bf hok)
 have HL:=hJ hlen
 rw[hpl] at HLy
 have hne2:((N:Int) != (n:Int))=true:=by simp;omega
 have HNE:=hJ hne2
 obtain⟨B,hB⟩:∃ B,B=az (aB ss bk rm):=⟨_,rfl⟩
 obtain⟨S,hS⟩:∃ S,S=aB ss bk rm:=⟨_,rfl⟩
 obtain⟨T,hT⟩:∃ T,T=slotsOf tt:=⟨_,rfl⟩
 obtain⟨L,hLL⟩:∃ L,L=bY dd tt:=⟨_,rfl⟩
 rw[<- hB,<- hS,<- hT,<- hLL] at HLy
 clear hok hpl hlen hne hne2 hB hS hT hLL
 go_enter Tryz.func35,Tryz.ntmps35
 go_upto_region 1 with fail
 have hb0:Below w.heap.size w ((w.alloc (.cells (ak dd tt ss bk rm kf bf) 25)).alloc (.cells (aQ (.slice none 0 0) aO) 46)):=au.alloc sZ _
 have hc0:((w.alloc (.cells (ak dd tt ss bk rm kf bf) 25)).alloc (.cells (aQ (.slice none 0 0) aO) 46)).heap[w.heap.size]?=some (.cells (ak dd tt ss bk rm kf bf) 25 (0,0)):=(Below.heap_alloc _ _ _ sZ).trans (nZ w _)
 have hz0:((w.alloc (.cells (ak dd tt ss bk rm kf bf) 25)).alloc (.cells (aQ (.slice none 0 0) aO) 46)).heap[w.heap.size+1]?=some (.cells (aQ (.slice none 0 0) aO) 46 (0,0)):=by
  have:=nZ (w.alloc (.cells (ak dd tt ss bk rm kf bf) 25)) (.cells (aQ (.slice none 0 0) aO) 46)
  simpa using this
 obtain⟨w0,hw0⟩:∃ w0,w0=((w.alloc (.cells (ak dd tt ss bk rm kf bf) 25)).alloc (.cells (aQ (.slice none 0 0) aO) 46)):=⟨_,rfl⟩
 rw[show (w.alloc (.cells (ak dd tt ss bk rm kf bf) 25)).alloc (.cells #[.slice none 0 0,.int .i64 0,.int .u32 0,.int .i64 0,.int .i64 0,.int .i64 0,.int .i64 0,.int .i64 0,.int .i64 0] 46)=w0 from hw0.symm]
 rw[<- hw0] at hb0 hc0 hz0
 have HC:=hJ hc0
 have HZ:=hJ hz0
 have HB:=hJ hb0
 clear hw0 hb0 hc0 hz0
 go_wp2_with (first
  | (refine yZ rfl 25 (.tmp 3) rfl w.heap.size rfl 25 (ak dd tt ss bk rm kf bf) (0,0) _ HC.out Tryz.underlying25 rfl (eu _ _ _ _ _ _ _) ?_)
  | fail)
 refine(HLy.out _).mono ?_;rintro e w1 ⟨rfl,hb⟩
 have HB:=hJ (ah HB.out hb)
 have HZ:=hJ ((hb.block _ (lt_of_heap HZ.out)).trans HZ.out)
 clear hb HLy HC
 go_upto_region 2 with (first
  | (refine zZ rfl 42 (.tmp 6) (.tmp 14) rfl w1.heap.size (af B S (n:Int) T L) rfl rfl 42 (af (fun _=>0) (fun _=>0) 0 0 0) (nZ w1 _) (ai _ _ _ _ _) (sD _ _ _ _ _ _ _ _ _ _) (iF _ _ _ _ _) ?_)
  | fail)
 rw[World.setRow_alloc_new]
 have hb:=au (w:=w1) (A:=.cells (af B S (n:Int) T L) 42)
 have HQ:=hJ (nZ w1 (.cells (af B S (n:Int) T L) 42))
 have HB:=hJ (ah HB.out hb)
 have HZ:=hJ ((hb.block _ (lt_of_heap HZ.out)).trans HZ.out)
 generalize w1.alloc (.cells (af B S (n:Int) T L) 42)=w2 at HQ HB HZ ⊢
 obtain⟨q,hq⟩:∃ q,q=w1.heap.size:=⟨_,rfl⟩
 rw[<- hq] at HQ ⊢
 clear hb hq
 have C12:=hJ (show w2.cell? ⟨q,12,none⟩=some (.int .i64 (n:Int)) from ae HQ.out 12)
 go_upto_region 4 with fail
 refine aJ (fun(p:Unit) jz=>[.pointer mv,.int .i64 (N:Int),.pointer (some ⟨q,12,none⟩),.int .i64 (n:Int),.bool true].getD jz undef)
  (fun p l wx=>Below w2.heap.size w2 wx)
  kZ kZ pZ () ?_ ?_ ?_
 ·exact(Below.refl _ _).drew
 ·intro i o ho p l wx hR hl he hcl K hK
  rcases i with _|_|_|_|_|i
  ·cases ho
   go_simp
   exact hK () wx (fun _ _=>rfl) hR
  ·cases ho
   go_simp
   refine(HL.out wx (ah HB.out hR)).mono ?_;rintro e w' ⟨he,rfl⟩
   subst he
   exact hK () wx (fun _ _=>rfl) hR
  ·cases ho
   go_simp
   exact hK () wx (fun _ _=>rfl) hR
  ·cases ho
   have q:=aC C12.out hR
   go_simp
   exact hK () wx (fun _ _=>rfl) hR
  ·cases ho
   have hne:=HNE.out
   go_simp
   exact hK () wx (fun _ _=>rfl) hR
  ·simp at ho
 ·intro p lz wx hl hR
  have HB:=hJ (ah HB.out hR)
  have HZ:=hJ ((hR.block _ (lt_of_heap HZ.out)).trans HZ.out)
  clear hR hl C12 HQ HL
  have HZr:=hJ HZ.out
  go_wp2_with (first
   | (refine zZ rfl 46 (.tmp 4) (.tmp 25) rfl (w.heap.size+1) (aQ (.slice none 0 0) aO) rfl rfl 46 (aQ (.slice none 0 0) aO) HZr.out (aN _ _) rfl (dY _ _ _ _) ?_)
   | fail)
  refine tZ (v:=.tuple #[.agg (aQ (.slice none 0 0) aO),.int .i64 1]) (dG rfl _ _ (w.heap.size+1) _ _ (0,0) _ _ rfl rfl (setRow_heap _ _ _ _ _ _ HZr.out) Tryz.underlying46 rfl (aN _ _)) rfl ?_
  exact⟨rfl,below_setRow HB.out oZ _⟩
end Go.Proofs.YtlfndoclbebdaaaGreatDoor
