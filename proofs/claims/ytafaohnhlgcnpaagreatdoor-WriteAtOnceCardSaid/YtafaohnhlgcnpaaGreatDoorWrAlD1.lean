/-
 What stage 12 rests on.
-/
import Derived.Test.YtafaohnhlgcnpaaGreatDoorWrAlC1
set_option maxRecDepth 100000
set_option maxHeartbeats 16000000
namespace Go.Proofs.YtafaohnhlgcnpaaGreatDoor
open Go.RowKit
def Md (U M S:Nat->Int) (j:Nat):Bool:=decide (0<=U j)&&(decide (U j<=S j)&&(decide (0<=M j)&&decide (M j<=S j-U j)))
theorem oH {U M S:Nat->Int} {j:Nat}:Md U M S j=true↔0<=U j/\U j<=S j/\0<=M j/\M j<=S j-U j:=by simp[Md]
def iq (U M S:Nat->Int):Bool:=(List.range 6).all (Md U M S)
theorem oK {U M S:Nat->Int} (h:∀ j,j<6->Md U M S j=true):iq U M S=true:=List.all_eq_true.2 fun j hj=>h j (List.mem_range.1 hj)
theorem Ca {U M S:Nat->Int} {j:Nat} (hj:j<6) (h:¬ (0<=U j/\U j<=S j/\0<=M j/\M j<=S j-U j)):iq U M S=false:=by
 cases hf:iq U M S with
 | false=>rfl
 | true=>exact absurd (oH.1 (List.all_eq_true.1 hf j (List.mem_range.2 hj))) h
def fF (w:World) (B S:Nat->Int) (C T L:Int) (U M:Nat->Int) (wr:World):Prop :=
 wr.heap[w.heap.size]?=some (.cells (ae B S C T L) 42 (0,0))/\wr.heap[w.heap.size+1]?=some (.cells (six U) 40 (0,0)) /\
 wr.heap[w.heap.size+1+1]?=some (.cells (six M) 40 (0,0))/\Below w.heap.size w wr
theorem fF.below {w:World} {B S:Nat->Int} {C T L:Int} {U M:Nat->Int} {wr w':World} (h:fF w B S C T L U M wr) (hb:Below wr.heap.size wr w'):fF w B S C T L U M w' :=
 ⟨(hb.block _ (lt_of_heap h.1)).trans h.1,(hb.block _ (lt_of_heap h.2.1)).trans h.2.1,(hb.block _ (lt_of_heap h.2.2.1)).trans h.2.2.1,h.2.2.2.trans (hb.mono h.2.2.2.size)⟩
theorem fF.drawn {w:World} {B S:Nat->Int} {C T L:Int} {U M:Nat->Int} {wr:World} (h:fF w B S C T L U M wr) (n:Nat):fF w B S C T L U M (wr.drewN n):=⟨h.1,h.2.1,h.2.2.1,dm h.2.2.2 n⟩
theorem fF.drew {w:World} {B S:Nat->Int} {C T L:Int} {U M:Nat->Int} {wr:World} (h:fF w B S C T L U M wr):fF w B S C T L U M wr.drew:=⟨h.1,h.2.1,h.2.2.1,h.2.2.2.drew⟩
theorem qW (w:World) (B S:Nat->Int) (C T L:Int) (U M:Nat->Int) (hs:∀ j,j<6->S j<=1000000) :
  Calls Tryz.prog 97 #[.agg (ae B S C T L),.agg (six U),.agg (six M)] w fun e w'=>e=.returned (.bool (iq U M S))/\Below w.heap.size w w':=by
 obtain⟨R,hR⟩:∃ R,R=iq U M S:=⟨_,rfl⟩;rw[<- hR];have HR:=hJ hR;clear hR;go_enter Tryz.func97,Tryz.ntmps97
 go_wp2_with fail
 go_loopw [7] (fun i wr=>∃ k:Nat,k<=6/\i=.int .i64 k/\Hid (∀ j,j<k->Md U M S j=true)/\fF w B S C T L U M wr) (fun i _=>6-(intOf i).toNat)
 case atStart=>exact⟨0,oZ,rfl,hJ (fun j hj=>oZ),dN _ _ _ _,dM _ _ _ _,dS _ _ _ _,bi⟩
 case round =>
  obtain⟨k,hk,rfl,HO,hT⟩:=hrel;by_cases hlt:k<6
  ·have hlt6:(k:Int)<6:=oZ;have c0:wr.cell? ⟨w.heap.size,6+k,none⟩=some (.int .i64 (S k)):=(aa hT.1 (6+k)).trans (ku _ _ _ _ _ k hlt);have c1:wr.cell? ⟨w.heap.size+1,k,none⟩=some (.int .i64 (U k)):=(aa hT.2.1 k).trans (dK _ k hlt);have c2:wr.cell? ⟨w.heap.size+1+1,k,none⟩=some (.int .i64 (M k)):=(aa hT.2.2.1 k).trans (dK _ k hlt);have hsk:=hs k hlt;have HT:=hJ hT;have HS:=hJ hs;clear hT hs;have fin:∀ m,¬ (0<=U k/\U k<=S k/\0<=M k/\M k<=S k-U k)->Hid (Ending.returned (.bool false)=Ending.returned (.bool R)/\Below w.heap.size w (wr.drewN m)):=fun m h=>hJ ⟨by rw[HR.out,Ca hlt h],dm HT.out.2.2.2 m⟩;have FIN:=hJ fin;clear fin;by_cases d0:U k<0
   ·have e0:decide (U k<0)=true:=decide_eq_true d0;go_wp2_with fail
    go_quiet (fail)
    go_wp2_with fail
    go_ret;exact(FIN.out _ oZ).out
   ·have e0:decide (U k<0)=false:=decide_eq_false d0;by_cases d1:M k<0
    ·have e1:decide (M k<0)=true:=decide_eq_true d1;go_wp2_with fail
     go_quiet (fail)
     go_wp2_with fail
     go_ret;exact(FIN.out _ oZ).out
    ·have e1:decide (M k<0)=false:=decide_eq_false d1;by_cases d2:S k<U k
     ·have e2:decide (S k<U k)=true:=decide_eq_true d2;go_wp2_with fail
      go_quiet (fail)
      go_wp2_with fail
      go_ret;exact(FIN.out _ oZ).out
     ·have e2:decide (S k<U k)=false:=decide_eq_false d2;have u0:0<=U k:=oZ;have u1:U k<=S k:=oZ;by_cases d3:S k-U k<M k
      ·have e3:decide (S k-U k<M k)=true:=decide_eq_true d3;go_wp2_with fail
       go_quiet (fail)
       go_wp2_with fail
       go_ret;exact(FIN.out _ oZ).out
      ·have e3:decide (S k-U k<M k)=false:=decide_eq_false d3;have HJ:=hJ (oH.2 (show 0<=U k/\U k<=S k/\0<=M k/\M k<=S k-U k from⟨u0,u1,oZ,oZ⟩));go_wp2_with fail
       go_quiet (fail)
       go_wp2_with fail
       go_roundw
       case rel =>
        refine⟨k+1,oZ,by go_num,hJ (fun j hj=>?_),HT.out.drawn _⟩;by_cases e:j=k
        ·subst e;exact HJ.out
        ·exact HO.out j oZ
       case measure=>simp[intOf];omega
  ·obtain rfl:k=6:=oZ;have HE:=hJ (show R=true by rw[HR.out];exact oK HO.out);have HB:=hJ hT.2.2.2;clear hT hs;go_wp2_with fail
   go_ret;exact⟨by rw[HE.out];exact rfl,HB.out⟩
theorem pX (w:World) (B S U:Nat->Int) (C T L:Int) (k:Nat) (hk:k<6) (h0:0<=U k) (h1:U k<=S k) :
  Calls Tryz.prog 104 #[.agg (ae B S C T L),.agg (six U),.int .i64 k] w fun e w'=>e=.returned (.bool true)/\Below w.heap.size w w' :=
 (mq w B S U C T L k hk).mono fun _ _ ⟨he,hb⟩=>⟨by rw[he,zC h0 h1],hb⟩
theorem xG (w:World) (B S U:Nat->Int) (C T L:Int) (k:Nat) (hk:k<6) (h:U k<0∨S k<U k) :
  Calls Tryz.prog 104 #[.agg (ae B S C T L),.agg (six U),.int .i64 k] w fun e w'=>e=.returned (.bool false)/\Below w.heap.size w w' :=
 (mq w B S U C T L k hk).mono fun _ _ ⟨he,hb⟩=>⟨by rw[he,Ic h],hb⟩
theorem JU (w:World) (B S:Nat->Int) (C T L:Int) (U M:Nat->Int) (hs:∀ j,j<6->S j<=1000000) :
  Calls Tryz.prog 87 #[.agg (ae B S C T L),.agg (six U),.agg (six M)] w fun e w'=>e=.returned (.bool (iq U M S))/\Below w.heap.size w w':=by
 obtain⟨R,hR⟩:∃ R,R=iq U M S:=⟨_,rfl⟩;rw[<- hR];have HR:=hJ hR;clear hR;go_enter Tryz.func87,Tryz.ntmps87
 go_wp2_with fail
 go_loopw [8] (fun i wr=>∃ k:Nat,k<=6/\i=.int .i64 k/\Hid (∀ j,j<k->Md U M S j=true)/\fF w B S C T L U M wr) (fun i _=>6-(intOf i).toNat)
 case atStart=>exact⟨0,oZ,rfl,hJ (fun j hj=>oZ),dN _ _ _ _,dM _ _ _ _,dS _ _ _ _,bi⟩
 case round =>
  obtain⟨k,hk,rfl,HO,hT⟩:=hrel;by_cases hlt:k<6
  ·have hlt6:(k:Int)<6:=oZ;have hsk:=hs k hlt;have HT:=hJ hT;have HS:=hJ hs;clear hs;have fin:∀ wx,fF w B S C T L U M wx->¬ (0<=U k/\U k<=S k/\0<=M k/\M k<=S k-U k)->Hid (Ending.returned (.bool false)=Ending.returned (.bool R)/\Below w.heap.size w wx):=fun wx hx h=>hJ ⟨by rw[HR.out,Ca hlt h],hx.2.2.2⟩;have FIN:=hJ fin;clear fin;by_cases hu0:0<=U k
   rotate_left
   ·have hu:U k<0∨S k<U k:=oZ;go_upto_region 4 with fail
    refine aL (fun(_:Unit) j=>[.agg (ae B S C T L),.agg (six U),.int .i64 k,.bool false,.bool true,.bool true,undef,undef,undef,undef,.bool true,.bool true,undef,undef,undef,undef,undef,undef,undef,undef,.bool true].getD j undef) (fun _ _ wx=>fF w B S C T L U M wx) kZ kZ
     pZ () hT.drew ?_ ?_
    ·intro i o ho q l wx hR hl he K hK;have c2:wx.cell? ⟨w.heap.size+1+1,k,none⟩=some (.int .i64 (M k)):=(aa hR.2.2.1 k).trans (dK _ k hlt);rcases i with _|_|_|_|_|_|_|_|_|_|_|_|_|_|_|_|_|_|_|_|_|i
     any_goals first | (cases ho;go_simp;exact hK () wx (fun _ _=>rfl) hR;done) | fail
     ·cases ho;exact aP rfl 42 (.tmp 3) rfl w.heap.size rfl 42 (ae B S C T L) (0,0) _ hR.1 Tryz.underlying42 rfl (ai _ _ _ _ _) (hK () wx (fun _ _=>rfl) hR)
     ·cases ho;exact aP rfl 40 (.tmp 4) rfl (w.heap.size+1) rfl 40 (six U) (0,0) _ hR.2.1 Tryz.underlying40 rfl (af _) (hK () wx (fun _ _=>rfl) hR)
     ·cases ho;go_simp;refine(xG _ B S U C T L k hlt hu).mono ?_;rintro e w2 ⟨rfl,hb2⟩;exact hK () w2 (fun _ _=>rfl) (hR.below hb2)
     ·simp at ho
    ·intro q l wx hl hR;have HF:=hJ (FIN.out wx hR oZ).out;clear hT;go_wp2_with fail
     go_ret;exact HF.out
   by_cases hu1:U k<=S k
   rotate_left
   ·have hu:U k<0∨S k<U k:=oZ;go_upto_region 4 with fail
    refine aL (fun(_:Unit) j=>[.agg (ae B S C T L),.agg (six U),.int .i64 k,.bool false,.bool true,.bool true,undef,undef,undef,undef,.bool true,.bool true,undef,undef,undef,undef,undef,undef,undef,undef,.bool true].getD j undef) (fun _ _ wx=>fF w B S C T L U M wx) kZ kZ
     pZ () hT.drew ?_ ?_
    ·intro i o ho q l wx hR hl he K hK;have c2:wx.cell? ⟨w.heap.size+1+1,k,none⟩=some (.int .i64 (M k)):=(aa hR.2.2.1 k).trans (dK _ k hlt);rcases i with _|_|_|_|_|_|_|_|_|_|_|_|_|_|_|_|_|_|_|_|_|i
     any_goals first | (cases ho;go_simp;exact hK () wx (fun _ _=>rfl) hR;done) | fail
     ·cases ho;exact aP rfl 42 (.tmp 3) rfl w.heap.size rfl 42 (ae B S C T L) (0,0) _ hR.1 Tryz.underlying42 rfl (ai _ _ _ _ _) (hK () wx (fun _ _=>rfl) hR)
     ·cases ho;exact aP rfl 40 (.tmp 4) rfl (w.heap.size+1) rfl 40 (six U) (0,0) _ hR.2.1 Tryz.underlying40 rfl (af _) (hK () wx (fun _ _=>rfl) hR)
     ·cases ho;go_simp;refine(xG _ B S U C T L k hlt hu).mono ?_;rintro e w2 ⟨rfl,hb2⟩;exact hK () w2 (fun _ _=>rfl) (hR.below hb2)
     ·simp at ho
    ·intro q l wx hl hR;have HF:=hJ (FIN.out wx hR oZ).out;clear hT;go_wp2_with fail
     go_ret;exact HF.out
   by_cases hm:0<=M k
   rotate_left
   ·have e0:decide (M k<0)=true:=decide_eq_true oZ;go_upto_region 4 with fail
    refine aL (fun(_:Unit) j=>[.agg (ae B S C T L),.agg (six U),.int .i64 k,.bool true,.bool false,.bool false,.int .i64 k,.pointer (some ⟨w.heap.size+1+1,k,none⟩),.int .i64 (M k),.bool true,.bool true,.bool true,undef,undef,undef,undef,undef,undef,undef,undef,.bool true].getD j undef) (fun _ _ wx=>fF w B S C T L U M wx) kZ kZ
     pZ () hT.drew ?_ ?_
    ·intro i o ho q l wx hR hl he K hK;have c2:wx.cell? ⟨w.heap.size+1+1,k,none⟩=some (.int .i64 (M k)):=(aa hR.2.2.1 k).trans (dK _ k hlt);rcases i with _|_|_|_|_|_|_|_|_|_|_|_|_|_|_|_|_|_|_|_|_|i
     any_goals first | (cases ho;go_simp;exact hK () wx (fun _ _=>rfl) hR;done) | fail
     ·cases ho;exact aP rfl 42 (.tmp 3) rfl w.heap.size rfl 42 (ae B S C T L) (0,0) _ hR.1 Tryz.underlying42 rfl (ai _ _ _ _ _) (hK () wx (fun _ _=>rfl) hR)
     ·cases ho;exact aP rfl 40 (.tmp 4) rfl (w.heap.size+1) rfl 40 (six U) (0,0) _ hR.2.1 Tryz.underlying40 rfl (af _) (hK () wx (fun _ _=>rfl) hR)
     ·cases ho;go_simp;refine(pX _ B S U C T L k hlt hu0 hu1).mono ?_;rintro e w2 ⟨rfl,hb2⟩;exact hK () w2 (fun _ _=>rfl) (hR.below hb2)
     ·simp at ho
    ·intro q l wx hl hR;have HF:=hJ (FIN.out wx hR oZ).out;clear hT;go_wp2_with fail
     go_ret;exact HF.out
   have e0:decide (M k<0)=false:=decide_eq_false oZ;by_cases hf:M k<=S k-U k
   ·have e1:decide (S k-U k<M k)=false:=decide_eq_false oZ;go_upto_region 4 with fail
    refine aL (fun(_:Unit) j=>[.agg (ae B S C T L),.agg (six U),.int .i64 k,.bool true,.bool false,.bool false,.int .i64 k,.pointer (some ⟨w.heap.size+1+1,k,none⟩),.int .i64 (M k),.bool false,.bool false,.bool false,.int .i64 k,.pointer (some ⟨w.heap.size+1+1,k,none⟩),.int .i64 (M k),.agg (ae B S C T L),.agg (six U),.int .i64 k,.int .i64 (S k-U k),.bool false,.bool false].getD j undef) (fun _ _ wx=>fF w B S C T L U M wx) kZ kZ
     pZ () hT.drew ?_ ?_
    ·intro i o ho q l wx hR hl he K hK;have c2:wx.cell? ⟨w.heap.size+1+1,k,none⟩=some (.int .i64 (M k)):=(aa hR.2.2.1 k).trans (dK _ k hlt);rcases i with _|_|_|_|_|_|_|_|_|_|_|_|_|_|_|_|_|_|_|_|_|i
     any_goals first | (cases ho;go_simp;exact hK () wx (fun _ _=>rfl) hR;done) | fail
     ·cases ho;exact aP rfl 42 (.tmp 3) rfl w.heap.size rfl 42 (ae B S C T L) (0,0) _ hR.1 Tryz.underlying42 rfl (ai _ _ _ _ _) (hK () wx (fun _ _=>rfl) hR)
     ·cases ho;exact aP rfl 40 (.tmp 4) rfl (w.heap.size+1) rfl 40 (six U) (0,0) _ hR.2.1 Tryz.underlying40 rfl (af _) (hK () wx (fun _ _=>rfl) hR)
     ·cases ho;go_simp;refine(pX _ B S U C T L k hlt hu0 hu1).mono ?_;rintro e w2 ⟨rfl,hb2⟩;exact hK () w2 (fun _ _=>rfl) (hR.below hb2)
     ·cases ho;exact aP rfl 42 (.tmp 3) rfl w.heap.size rfl 42 (ae B S C T L) (0,0) _ hR.1 Tryz.underlying42 rfl (ai _ _ _ _ _) (hK () wx (fun _ _=>rfl) hR)
     ·cases ho;exact aP rfl 40 (.tmp 4) rfl (w.heap.size+1) rfl 40 (six U) (0,0) _ hR.2.1 Tryz.underlying40 rfl (af _) (hK () wx (fun _ _=>rfl) hR)
     ·cases ho;go_simp;refine(rz _ B S U C T L k hlt hu0 hu1 hsk).mono ?_;rintro e w2 ⟨rfl,hb2⟩;exact hK () w2 (fun _ _=>rfl) (hR.below hb2)
     ·simp at ho
    ·intro q l wx hl hR;have HJ:=hJ (oH.2 (show 0<=U k/\U k<=S k/\0<=M k/\M k<=S k-U k from⟨hu0,hu1,hm,hf⟩));have HX:=hJ hR;clear hT hR;go_wp2_with fail
     go_roundw
     case rel =>
      refine⟨k+1,oZ,by go_num,hJ (fun j hj=>?_),HX.out⟩;by_cases e:j=k
      ·subst e;exact HJ.out
      ·exact HO.out j oZ
     case measure=>simp[intOf];omega
   ·have e1:decide (S k-U k<M k)=true:=decide_eq_true oZ;go_upto_region 4 with fail
    refine aL (fun(_:Unit) j=>[.agg (ae B S C T L),.agg (six U),.int .i64 k,.bool true,.bool false,.bool false,.int .i64 k,.pointer (some ⟨w.heap.size+1+1,k,none⟩),.int .i64 (M k),.bool false,.bool false,.bool false,.int .i64 k,.pointer (some ⟨w.heap.size+1+1,k,none⟩),.int .i64 (M k),.agg (ae B S C T L),.agg (six U),.int .i64 k,.int .i64 (S k-U k),.bool true,.bool true].getD j undef) (fun _ _ wx=>fF w B S C T L U M wx) kZ kZ
     pZ () hT.drew ?_ ?_
    ·intro i o ho q l wx hR hl he K hK;have c2:wx.cell? ⟨w.heap.size+1+1,k,none⟩=some (.int .i64 (M k)):=(aa hR.2.2.1 k).trans (dK _ k hlt);rcases i with _|_|_|_|_|_|_|_|_|_|_|_|_|_|_|_|_|_|_|_|_|i
     any_goals first | (cases ho;go_simp;exact hK () wx (fun _ _=>rfl) hR;done) | fail
     ·cases ho;exact aP rfl 42 (.tmp 3) rfl w.heap.size rfl 42 (ae B S C T L) (0,0) _ hR.1 Tryz.underlying42 rfl (ai _ _ _ _ _) (hK () wx (fun _ _=>rfl) hR)
     ·cases ho;exact aP rfl 40 (.tmp 4) rfl (w.heap.size+1) rfl 40 (six U) (0,0) _ hR.2.1 Tryz.underlying40 rfl (af _) (hK () wx (fun _ _=>rfl) hR)
     ·cases ho;go_simp;refine(pX _ B S U C T L k hlt hu0 hu1).mono ?_;rintro e w2 ⟨rfl,hb2⟩;exact hK () w2 (fun _ _=>rfl) (hR.below hb2)
     ·cases ho;exact aP rfl 42 (.tmp 3) rfl w.heap.size rfl 42 (ae B S C T L) (0,0) _ hR.1 Tryz.underlying42 rfl (ai _ _ _ _ _) (hK () wx (fun _ _=>rfl) hR)
     ·cases ho;exact aP rfl 40 (.tmp 4) rfl (w.heap.size+1) rfl 40 (six U) (0,0) _ hR.2.1 Tryz.underlying40 rfl (af _) (hK () wx (fun _ _=>rfl) hR)
     ·cases ho;go_simp;refine(rz _ B S U C T L k hlt hu0 hu1 hsk).mono ?_;rintro e w2 ⟨rfl,hb2⟩;exact hK () w2 (fun _ _=>rfl) (hR.below hb2)
     ·simp at ho
    ·intro q l wx hl hR;have HF:=hJ (FIN.out wx hR oZ).out;clear hT;go_wp2_with fail
     go_ret;exact HF.out
  ·obtain rfl:k=6:=oZ;have HE:=hJ (show R=true by rw[HR.out];exact oK HO.out);have HB:=hJ hT.2.2.2;clear hT hs;go_wp2_with fail
   go_ret;exact⟨by rw[HE.out];exact rfl,HB.out⟩
end Go.Proofs.YtafaohnhlgcnpaaGreatDoor
