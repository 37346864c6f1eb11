/-
 What stage 12 rests on.
-/
import Derived.Test.YtafaohnhlgcnpaaGreatDoorWrAlD5
import Derived.Test.YtafaohnhlgcnpaaGreatDoorWrAlD3
set_option maxRecDepth 100000
set_option maxHeartbeats 16000000
namespace Go.Proofs.YtafaohnhlgcnpaaGreatDoor
open Go.RowKit
structure sS (W:World) (B S U:Nat->Int) (C T L:Int) (w:World):Prop where
 p:w.heap[W.heap.size]?=some (.cells (ae B S C T L) 42 (0,0))
 u:w.heap[W.heap.size+1]?=some (.cells (six U) 40 (0,0))
 r:∃ X,w.heap[W.heap.size+1+1]?=some (.cells (six X) 40 (0,0))
 low:Below W.heap.size W w
section
variable {W w w':World} {B S U:Nat->Int} {C T L:Int}
theorem sS.start (W:World) (B S U:Nat->Int) (C T L:Int):sS W B S U C T L (((W.alloc (.cells (ae B S C T L) 42)).alloc (.cells (six U) 40)).alloc (.cells (six fun _=>0) 40)) :=
 ⟨dN _ _ _ _,dM _ _ _ _,⟨_,dS _ _ _ _⟩,bi⟩
theorem sS.below (h:sS W B S U C T L w) (hb:Below w.heap.size w w'):sS W B S U C T L w':=by
 obtain⟨h1,h2,⟨X,h3⟩,h4⟩:=h;exact⟨(hb.block _ (lt_of_heap h1)).trans h1,(hb.block _ (lt_of_heap h2)).trans h2,⟨X,(hb.block _ (lt_of_heap h3)).trans h3⟩,ag h4 hb⟩
theorem sS.set (h:sS W B S U C T L w) {g:Nat} (hg:W.heap.size+1+1<g) (o:Nat) (v:Value):sS W B S U C T L (w.setCell ⟨g,o,none⟩ v):=by
 obtain⟨h1,h2,⟨X,h3⟩,h4⟩:=h;exact⟨(Below.heap_setCell _ _ _ _ (show W.heap.size≠g by omega)).trans h1,(Below.heap_setCell _ _ _ _ (show W.heap.size+1≠g by omega)).trans h2,⟨X,(Below.heap_setCell _ _ _ _ (show W.heap.size+1+1≠g by omega)).trans h3⟩,h4.setCell (by show W.heap.size<=g;omega) v⟩
end
theorem Jh (w:World) (oa:Option Addr) (c n:Nat) (cs:List Int) (en:cs.length=n) (hn:n<=1000000) (hU:∀ y∈cs,U y) (ha:bQ .u32 w oa (gQ cs)) (B S Us:Nat->Int) (C T L s slot:Int) (key:ByteArray) (hb4:0<=B 4/\B 4<=1000000) (hus:0<=Us 4/\Us 4<=S 4/\S 4<=1000000) (s0:0<=s) (s1:s<=1000000) (i0:0<=slot) (i1:slot<=1000000) (hk:key.size<=1000)
  (hfit:2+((aF (ax key)).length:Int)<=S 4-Us 4) {q:Nat} {x:DJ} {cs':List Int} (hd:Does (gp B S Us s slot (ax key)) cs q x cs') :
  Calls Tryz.prog 135 #[.slice oa n c,.agg (ae B S C T L),.agg (six Us),.int .i64 s,.int .i64 slot,.string key] w fun e w'=>∃ g,e=.returned (.tuple #[.slice (some ⟨g,0,none⟩) n n,.int .i64 (B 4+Us 4),.agg (six (more Us 4 (2+((aF (ax key)).length:Int)))),.int .i64 0])/\cB w' g cs'/\Below w.heap.size w w'/\w.heap.size<=g:=by
 unfold gp at hd;rw[if_pos hfit] at hd;obtain⟨a,ea⟩:∃ a,a=B 4+Us 4:=⟨_,rfl⟩;obtain⟨cl,hcl⟩:∃ cl,cl=(aF (ax key)).length:=⟨_,rfl⟩;have hcl1:cl<=1000:=by rw[hcl,bC,aD];omega
 obtain⟨V,hV⟩:∃ V,V=more Us 4 (2+(cl:Int)):=⟨_,rfl⟩;have HT:=hJ (fun w=>nE w B S Us C T L (2+(cl:Int)) 4 oZ oZ hus.1 hus.2.1 hus.2.2 (by rw[hcl];exact hfit) hb4.1 hb4.2);rw[<- ea,<- hV] at HT;rw[<- hcl,<- ea,<- hV] at hd;rw[<- hcl,<- ea,<- hV];have a0:0<=a:=oZ;have a1:a<=2000000:=oZ;have HC:=hJ (fun w=>qL key (aF (ax key)) cl oZ rfl hcl.symm w);have HCp:=hJ (fun(w':World) (hb:Below w.heap.size w w')=>lQ w' oa c n cs en hn hU (ha.below hb));have s2:IntKind.i64.wrap (a+1)=a+1:=iZ _ oZ;have s3:IntKind.i64.wrap (a+2)=a+2:=iZ _ oZ;have s4:IntKind.i64.wrap (s+slot)=s+slot:=iZ _ oZ;have s5:IntKind.u32.wrap a=a:=IntWalk.u32_in _ oZ;have s6:IntKind.u32.wrap (key.size:Int)=(key.size:Int):=IntWalk.u32_in _ oZ;have s7:IntKind.i64.wrap (2+(cl:Int))=2+(cl:Int):=iZ _ oZ;have kz:(key.size:Int)<=1000:=oZ;have HLt:=hJ (cells_lt (iD key));have HL:=hJ hcl;rw[aD] at hd;cases hd with
 | store g1 g2 hd2 =>
  rename_i q1
  rw[show u32 (key.size:Int)=(key.size:Int) from s6] at hd2;obtain⟨p,hp⟩:∃ p:Nat,a=(p:Int):=⟨a.toNat,oZ⟩;rw[show (a+1).toNat=p+1 by omega] at hd2;have HD:=hJ hd2;have HEn:=hJ en;have hp1:p+1<n:=oZ;have hB:=sS.start w B S Us C T L;clear hd2 ea hcl hV hb4 hus hfit ha hU en g1 g2 hk;subst hp;go_enter Tryz.func135,Tryz.ntmps135
  go_upto_region 1 with fail
  have hw:(((w.alloc (.cells (ae B S C T L) 42)).alloc (.cells (six Us) 40)).alloc (.cells #[.int .i64 0,.int .i64 0,.int .i64 0,.int .i64 0,.int .i64 0,.int .i64 0] 40))=(((w.alloc (.cells (ae B S C T L) 42)).alloc (.cells (six Us) 40)).alloc (.cells (six fun _=>0) 40)):=rfl;rw[hw];clear hw;generalize (((w.alloc (.cells (ae B S C T L) 42)).alloc (.cells (six Us) 40)).alloc (.cells (six fun _=>0) 40))=w1 at hB ⊢;have HB:=hJ hB;clear hB;go_wp2_with fail
  refine(HC.out _).mono ?_;rintro e w2 ⟨oc,cc,rfl,hc1,hc2,hrc,hb⟩;have HB:=hJ (HB.out.below hb);have HRC:=hJ hrc;clear hb hrc HC
  go_wp2_with (first
   | (refine yZ rfl 42 (.tmp 7) rfl w.heap.size rfl 42 (ae B S C T L) (0,0) _ HB.out.p Tryz.underlying42 rfl (ai _ _ _ _ _) ?_)
   | (refine yZ rfl 40 (.tmp 8) rfl (w.heap.size+1) rfl 40 (six Us) (0,0) _ HB.out.u Tryz.underlying40 rfl (af _) ?_)
   | fail)
  refine(HT.out _).mono ?_;rintro e w3 ⟨rfl,hb⟩;have HB:=hJ (HB.out.below hb);have HRC:=hJ (HRC.out.below hb);clear hb HT
  go_upto_region 3 with (first
   | (refine zZ rfl 40 (.tmp 18) (.tmp 32) rfl w3.heap.size (six V) rfl rfl 40 (six fun _=>0) (nZ w3 _) (af _) rfl (aQ _) ?_)
   | fail)
  rw[World.setRow_alloc_new];have hb:=aj (w:=w3) (A:=.cells (six V) 40);have HV:=hJ (nZ w3 (.cells (six V) 40));have hq3:w.heap.size+1+1<w3.heap.size:=by obtain⟨X,h3⟩:=HB.out.r;exact lt_of_heap h3
  have HB:=hJ (HB.out.below hb);have HRC:=hJ (HRC.out.below hb);generalize w3.alloc (.cells (six V) 40)=w4 at HB HV HRC hb ⊢;obtain⟨qb,hqe⟩:∃ qb,qb=w3.heap.size:=⟨_,rfl⟩;rw[<- hqe] at HV hq3 ⊢;clear hb hqe;go_wp2_with fail
  refine(HCp.out _ HB.out.low).mono ?_;rintro e w5 ⟨rfl,hrow,hb⟩;have hqg:qb<w4.heap.size:=lt_of_heap HV.out;have hBc:=HB.out.low;obtain⟨g,hg⟩:∃ g,g=w4.heap.size:=⟨_,rfl⟩;have HLow:=hJ hb;rw[<- hg] at hrow hqg ⊢;have HR:=hJ hrow;have HG:=hJ (And.intro hg hBc.size);have f1:=hrow.cell (a:=p+1) (by rw[HEn.out];exact hp1);have f2:=hrow.frozen (p+1);have hp1b:((p:Int)+1)<(n:Int):=oZ;have f1b:w5.cell? ⟨g,0+(p+1),none⟩=some (.int .u32 (cs.getD (p+1) 0)):=by rw[Nat.zero_add];exact f1
  clear hrow hb hBc hg;go_wp2_with fail
  have HR6:=hJ (HR.out.set (a:=p+1) (by rw[HEn.out];exact hp1) (key.size:Int));have HLow6:=hJ (dD HLow.out (show w4.heap.size<=g by have:=HG.out.1;omega) (p+1) (.int .u32 (key.size:Int)));clear f1 f2 f1b HR HLow HCp;generalize w5.setCell ⟨g,p+1,none⟩ (.int .u32 (key.size:Int))=w6 at HR6 HLow6 ⊢;go_loopg [50] cl (fun r iv wr=>∃ (j q2:Nat) (cs1:List Int),j+r=cl/\iv=.int .i64 (j:Int)/\Hid (cB wr g cs1)/\Hid (cs1.length=n)/\Hid (Below w4.heap.size w4 wr)/\Hid (Does (iW (.store (s+slot) (p:Int) (.ret ((p:Int),V,0))) ((aF (ax key)).drop j) ((p:Int)+2+(j:Int))) cs1 q2 x cs'))
  case atStart=>exact⟨0,q1,_,oZ,rfl,HR6,hJ (by rw[List.length_set];exact HEn.out),HLow6,hJ (by rw[List.drop_zero,show (p:Int)+2+((0:Nat):Int)=(p:Int)+2 by omega];exact HD.out)⟩
  case round =>
   clear HR6 HLow6 HD;obtain⟨j,q2,cs1,hjr,rfl,HR,HN1,HLow,HD⟩:=hrel;cases gk with
   | zero =>
    have hjc:cl=j:=oZ;have hd:=HD.out;rw[List.drop_eq_nil_of_le (by rw[<- HL.out];omega)] at hd;unfold iW at hd;cases hd with
    | store g1 g2 hd2 =>
     obtain⟨_,hcs0,_⟩:=hd2.yN;obtain⟨z,hz⟩:∃ z:Nat,s+slot=(z:Int):=⟨(s+slot).toNat,oZ⟩;rw[hz] at g1 g2;have HCS:=hJ (show cs'=cs1.set z (p:Int) by rw[hcs0,show (s+slot).toNat=z by omega,show u32 (p:Int)=(p:Int) from s5]);have hz1:z<n:=by rw[<- HN1.out];omega
     have hz2:(z:Int)<(n:Int):=oZ;have f1:=HR.out.cell (a:=z) (by rw[HN1.out];exact hz1);have f2:=HR.out.frozen z;have HR6:=hJ (HR.out.set (a:=z) (by rw[HN1.out];exact hz1) (p:Int));have HLow6:=hJ (dD HLow.out (show w4.heap.size<=g by have:=HG.out.1;omega) z (.int .u32 (p:Int)));rw[hz] at s4;subst hjc;clear hd2 HD hjr g1 g2 hcs0;go_wp2_with fail
     have HB7:=hJ (HB.out.below HLow6.out);have HV7:=hJ ((HLow6.out.block _ (lt_of_heap HV.out)).trans HV.out);clear f1 f2 HLow HR HB HV HRC;generalize wr.setCell ⟨g,z,none⟩ (.int .u32 (p:Int))=w7 at HR6 HLow6 HB7 HV7 ⊢;have hb7:∃ X,w7.heap[w.heap.size+1+1]?=some (.cells (six X) 40 (0,0)):=HB7.out.r;have HLw:=hJ HB7.out.low
     refine aL (fun(_:Unit) j=>[.slice (some ⟨g,0,none⟩) n n,.int .i64 (p:Int),.agg (six V),.slice (some ⟨g,0,none⟩) n n,.int .i64 (p:Int),undef,.int .i64 0].getD j undef)
      (fun _ l wx=>cB wx g (cs1.set z (p:Int))/\wx.heap[qb]?=some (.cells (six V) 40 (0,0))/\(∃ X,wx.heap[w.heap.size+1+1]?=some (.cells (six X) 40 (0,0)))/\(l 5=true->wx.heap[w.heap.size+1+1]?=some (.cells (six V) 40 (0,0)))/\Below w.heap.size w wx)
      kZ kZ pZ () ?_ ?_ ?_
     ·exact⟨HR6.out.drew,HV7.out,hb7,(fun h=>by cases h),HLw.out.drew⟩
     ·intro i o ho q' l wx hR hl he K hK;rcases i with _|_|_|_|_|_|_|i
      any_goals first | (cases ho;go_simp;exact hK () wx (fun _ _=>rfl) hR;done) | fail
      ·cases ho;refine wp_load_row 40 (.tmp 18) rfl qb rfl 40 (six V) (0,0) _ hR.2.1 Tryz.underlying40 rfl (af _) ?_;exact hK () wx (fun _ _=>rfl) hR
      ·cases ho;obtain⟨X,hX⟩:=hR.2.2.1;refine wp_store_row 40 (.tmp 14) (.tmp 73) rfl (w.heap.size+1+1) (six V) rfl rfl 40 (six X) hX (af _) (aS _ _) (aQ _) ?_;have hs:=setRow_heap wx (w.heap.size+1+1) _ (six V) _ _ hX;exact hK () _ (fun _ _=>rfl) ⟨hR.1.of_block (qZ _ _ _ _ oZ),(qZ _ _ _ _ oZ).trans hR.2.1,⟨_,hs⟩,(fun _=>hs),below_setRow hR.2.2.2.2 oZ _⟩
      ·simp at ho
     ·intro q' l wx hl hR;have H4:Hid (wx.heap[w.heap.size+1+1]?=some (.cells (six V) 40 (0,0))):=hJ (hR.2.2.2.1 (hl 5 dZ));have HRX:=hJ (And.intro hR.1 hR.2.2.2.2);clear hR hl hb7;go_wp2_with fail
      refine tZ (v:=.tuple #[.slice (some ⟨g,0,none⟩) n n,.int .i64 (p:Int),.agg (six V),.int .i64 0]) (jT rfl _ _ (w.heap.size+1+1) _ _ (0,0) _ _ _ _ rfl rfl rfl rfl H4.out Tryz.underlying40 rfl (af _)) rfl ?_;exact⟨g,rfl,by rw[HCS.out];exact HRX.out.1,HRX.out.2,by have:=HG.out;omega⟩
   | succ r =>
    have hjc:j<cl:=oZ;have hjc1:(j:Int)<(cl:Int):=oZ;obtain⟨y,hy⟩:∃ y,(aF (ax key))[j]?=some y:=⟨_,gZ (by rw[<- HL.out];exact hjc)⟩;have hy32:=HLt.out y (List.mem_of_getElem? hy);obtain⟨gb,ob,rfl,hcell⟩:=HRC.out.below HLow.out j y hy;have hd:=HD.out
    rw[show (aF (ax key)).drop j=y :: (aF (ax key)).drop (j+1) by
     have hlt:=(eZ.1 hy).1;rw[List.drop_eq_getElem_cons hlt,(eZ.1 hy).2]] at hd
    unfold iW at hd;cases hd with
    | store g1 g2 hd2 =>
     rename_i q3
     obtain⟨z,hz⟩:∃ z:Nat,(p:Int)+2+(j:Int)=(z:Int):=⟨p+2+j,oZ⟩;rw[show u32 (y:Int)=(y:Int) from u32_in ⟨oZ,oZ⟩] at hd2
     have HD2:=hJ (show Does (iW (.store (s+slot) (p:Int) (.ret ((p:Int),V,0))) ((aF (ax key)).drop (j+1)) ((p:Int)+2+((j+1:Nat):Int))) (cs1.set z (y:Int)) q3 x cs' by
      rw[show ((p:Int)+2+(j:Int)).toNat=z by omega,show (p:Int)+2+(j:Int)+1=(p:Int)+2+((j+1:Nat):Int) by omega] at hd2;exact hd2)
     rw[hz] at g1 g2;have hz1:z<n:=by rw[<- HN1.out];omega
     have hz2:(z:Int)<(n:Int):=oZ;have f1:=HR.out.cell (a:=z) (by rw[HN1.out];exact hz1);have f2:=HR.out.frozen z;have f3:IntKind.i64.wrap ((p:Int)+2+(j:Int))=(z:Int):=by rw[hz];exact iZ _ oZ
     have HR6:=hJ (HR.out.set (a:=z) (by rw[HN1.out];exact hz1) (y:Int));have HLow6:=hJ (dD HLow.out (show w4.heap.size<=g by have:=HG.out.1;omega) z (.int .u32 (y:Int)));have HN2:=hJ (show (cs1.set z (y:Int)).length=n by rw[List.length_set];exact HN1.out);clear hd2 HD g1 g2 hy hz HN1 HR HLow hy32;go_wp2_with fail
     go_roundg r
     case measure=>omega
     case rel=>exact⟨j+1,q3,_,oZ,by go_num,HR6,HN2,HLow6,HD2⟩
end Go.Proofs.YtafaohnhlgcnpaaGreatDoor
