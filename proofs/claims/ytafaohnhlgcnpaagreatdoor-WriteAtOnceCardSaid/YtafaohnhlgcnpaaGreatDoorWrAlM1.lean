/-
 What stage 12 rests on.
-/
import Derived.Test.YtafaohnhlgcnpaaGreatDoorWrAlL1
import Derived.Test.YtafaohnhlgcnpaaGreatDoorWrAlC4
set_option maxRecDepth 100000
set_option maxHeartbeats 16000000
namespace Go.Proofs.YtafaohnhlgcnpaaGreatDoor
open Go.RowKit
theorem Ho {P:Program} {o:Oper} {a:Act} {w:World} {K:Act->World->Prop} {Q:Exit->Act->World->Prop} (t:TypeId) (parts:Array (Nat×Operand)) (ho:o.op=.build t parts) (cells:Array Value)
  (hc:P.built t (parts.map fun(i,x)=>(i,a.eval x)).toList=some cells) (h:K (a.put o.dst (.agg cells)) w):o.wp P a w K Q:=by
 refine wp_build t parts ho (by rw[hc];rfl) ?_;rw[hc];exact h
theorem bn.under {w w':World} {base:Nat} {v:Value} {l:List Sg} (h:bn w base v l) (hb:Below w.heap.size w w'):bn w' base v l:=ak h hb
theorem Kg (vc vs:Value) (x:Sx):∀ (j:Nat) (v:Value),(aO vs x).toList[j]?=some v->(aH vc vs x)[1+j]?=some v:=fun j v h=>by
 rcases j with _|_|_|_|_|_|_|_|_|j
 all_goals first | exact h | (simp[aO] at h)
theorem Ed (w:World) (dd:Nat) (t:Int) (ss:Nat->Int) (bk rm:Int) (kf bf:Nat) {n an ln m:Nat} (h:ek (dd:Int) t ss bk rm) (hN:CN (dd:Int) t ss bk rm n an ln m dd) (hg:n<=5000) (hfit:(ln:Int)+2<=aB ss bk rm 5) :
  Calls Tryz.prog 14 #[.agg (au (dd:Int) t ss bk rm kf bf)] w fun e w'=>∃ Wb mb mc og og2 gc gc2 gz,e=.returned (.tuple #[.pointer (some ⟨Wb,0,none⟩),.bool true]) /\
   DW w w' Wb mb mc dd t ss bk rm kf bf (aA (aB ss bk rm)) (aB ss bk rm) (n:Int) (ln:Int) m n 0 (lw n an ln) (aY an ln) (fun _=>none) 0 3 og og2 gc gc2 gz/\w.heap.size<=gz:=by
 go_enter Tryz.func14,Tryz.ntmps14
 go_upto_region 1 with fail
 have HC0:=hJ (nZ w (.cells (au (dd:Int) t ss bk rm kf bf) 25));have HB0:=hJ (aj (w:=w) (A:=.cells (au (dd:Int) t ss bk rm kf bf) 25));generalize w.alloc (.cells (au (dd:Int) t ss bk rm kf bf) 25)=w0 at HC0 HB0 ⊢
 go_wp2_with (first
  | (refine yZ rfl 25 (.tmp 1) rfl w.heap.size rfl 25 (au (dd:Int) t ss bk rm kf bf) (0,0) _ HC0.out Tryz.underlying25 rfl (dQ _ _ _ _ _ _ _) ?_)
  | fail)
 refine(j5 w0 (dd:Int) t ss bk rm kf bf h).mono ?_;rintro e w1 ⟨rfl,hb⟩;have HC1:=hJ (ah HC0.out hb);have HB1:=hJ (ag HB0.out hb);clear hb;rw[hN.plan]
 go_upto_region 2 with (first
  | (refine zZ rfl 42 (.tmp 4) (.tmp 16) rfl w1.heap.size (ae (aA (aB ss bk rm)) (aB ss bk rm) (n:Int) (m:Int) (ln:Int)) rfl rfl 42 (ae (fun _=>0) (fun _=>0) 0 0 0) (nZ w1 _) (ai _ _ _ _ _) rfl (by simp[ae,Value.oneCell']) ?_)
  | fail)
 rw[World.setRow_alloc_new];have HP2:=hJ (nZ w1 (.cells (ae (aA (aB ss bk rm)) (aB ss bk rm) (n:Int) (m:Int) (ln:Int)) 42));have hb2:=aj (w:=w1) (A:=.cells (ae (aA (aB ss bk rm)) (aB ss bk rm) (n:Int) (m:Int) (ln:Int)) 42);have HC2:=hJ (ah HC1.out hb2);have HB2:=hJ (ag HB1.out hb2);generalize w1.alloc (.cells (ae (aA (aB ss bk rm)) (aB ss bk rm) (n:Int) (m:Int) (ln:Int)) 42)=w2 at HP2 HC2 HB2 ⊢;clear hb2;have c12:w2.cell? ⟨w1.heap.size,12,none⟩=some (.int .i64 (n:Int)):=aa HP2.out 12;have hn5:¬ (5000:Int)<(n:Int):=oZ;have hln:=hN.ln_;have hm1:=hN.m1;have hd1:=hN.d1;have hs0:=hN.s0;have hfits:=hN.fits;have ha3:=hN.a3;have hn0:1<=(n:Int):=oZ;have hn6:(n:Int)<=65536:=oZ;have hin:an+ln+2<=n:=oZ;have hl1:1<=ln/\ln<=100000:=oZ;have hS5:aB ss bk rm 5<=1000000:=oZ;have HNum:=hJ (And.intro hl1 (And.intro hS5 (And.intro ha3 hin)));have HNew:=hJ (hN.new hfit);have HN:=hJ hN;have HFit:=hJ hfit;have HH:=hJ h;have HG5:=hJ hg;clear hln hm1 hd1 hs0 hfits ha3 hin hl1 hS5 hN hfit h hg;go_wp2_with fail
 refine(EY _ (n:Int) hn0 hn6).mono ?_;rintro e w3 ⟨rfl,hm,hb⟩;rw[Int.toNat_natCast] at hm;have HM3:=hJ hm;have HC3:=hJ (ah HC2.out hb);have HP3:=hJ (ah HP2.out hb);have HB3:=hJ (ag HB2.out hb);have HL2:=hJ (And.intro (lt_of_heap HC2.out) (lt_of_heap HP2.out));clear hm hb c12;obtain⟨mb,hmb⟩:∃ mb,w2.heap.size+1=mb:=⟨_,rfl⟩;obtain⟨mc,hmc⟩:∃ mc,w2.heap.size=mc:=⟨_,rfl⟩;have HMB:=hJ (show w2.heap.size<mb by omega);have HMC:=hJ (show w2.heap.size<=mc by omega);rw[hmb,hmc] at HM3;rw[hmb];clear hmb hmc
 go_wp2_with (first
  | (refine yZ rfl 25 (.tmp 1) rfl w.heap.size rfl 25 (au (dd:Int) t ss bk rm kf bf) (0,0) _ HC3.out Tryz.underlying25 rfl (dQ _ _ _ _ _ _ _) ?_)
  | fail)
 refine(Km HM3.out oZ oZ (dd:Int) t ss bk rm kf bf HH.out HN.out.plan sZ HNum.out.1 HFit.out HNum.out.2.1 (by have:=HG5.out;omega) HN.out.an_ HNum.out.2.2.1 HNum.out.2.2.2).mono ?_;rintro e w4 ⟨sg,rfl,hm4,hg4,hmod⟩;have HM4:=hJ (show bD w4 mb mc (lw n an ln) 0 3 from hm4);have hne:∀ k,k<w2.heap.size->¬ (k=mb∨k=mc):=fun k hk=>by have:=HMB.out;have:=HMC.out;omega
 have HC4:=hJ ((hmod.block _ (lt_of_heap HC3.out) (hne _ HL2.out.1)).trans HC3.out);have HP4:=hJ ((hmod.block _ (lt_of_heap HP3.out) (hne _ HL2.out.2)).trans HP3.out);have HB4:=hJ (show Below w.heap.size w w4 from HB3.out.trans ⟨hmod.os,hmod.tape,hmod.output,hmod.size,fun k hk=>hmod.block k (Nat.lt_of_lt_of_le hk HB3.out.size) (hne _ (Nat.lt_trans hk HL2.out.1))⟩);have HS4:=hJ (hg4.lower HB3.out.size);clear hm4 hg4 hmod hne
 go_upto_region 6 with (first
  | (refine zZ rfl 46 (.tmp 8) (.tmp 35) rfl w4.heap.size (aO (.slice (some ⟨sg,0,none⟩) 1 1) (aY an ln)) rfl rfl 46 (aO (.slice none 0 0) aJ) (nZ w4 _) (aK _ _) rfl (dL _ _ _ _) ?_)
  | fail)
 rw[World.setRow_alloc_new];have hb5:=aj (w:=w4) (A:=.cells (aO (.slice (some ⟨sg,0,none⟩) 1 1) (aY an ln)) 46);have HW5:=hJ (nZ w4 (.cells (aO (.slice (some ⟨sg,0,none⟩) 1 1) (aY an ln)) 46));have HM5:=hJ (HM4.out.below hb5);have HC5:=hJ (ah HC4.out hb5);have HP5:=hJ (ah HP4.out hb5);have HB5:=hJ (ag HB4.out hb5);have HS5:=hJ (bn.under HS4.out hb5);have HMW:=hJ (show mc<w4.heap.size from lt_of_heap HM4.out.row);generalize w4.alloc (.cells (aO (.slice (some ⟨sg,0,none⟩) 1 1) (aY an ln)) 46)=w5 at HW5 HM5 HC5 HP5 HB5 HS5 ⊢;clear hb5
 go_wp2_with (first
  | (refine yZ rfl 25 (.tmp 1) rfl w.heap.size rfl 25 (au (dd:Int) t ss bk rm kf bf) (0,0) _ HC5.out Tryz.underlying25 rfl (dQ _ _ _ _ _ _ _) ?_)
  | fail)
 refine(Au _ (dd:Int) t ss bk rm kf bf HH.out HN.out.plan (by have:=HNum.out.1;omega) (by have:=HFit.out;omega) (by have:=HG5.out;omega) HN.out.an_ HNum.out.2.2.1 HNum.out.2.2.2).mono ?_;rintro e w6 ⟨g,sg2,rfl,hz,hg6,hb,hge⟩;have HZ6:=hJ (show cB w6 g (lw n an ln) by simpa [lw] using hz);have HM6:=hJ (HM5.out.below hb);have HW6:=hJ (ah HW5.out hb);have HC6:=hJ (ah HC5.out hb);have HP6:=hJ (ah HP5.out hb);have HB6:=hJ (ag HB5.out hb);have HS6:=hJ (bn.under HS5.out hb);have HS26:=hJ (hg6.lower HB5.out.size);have HGE:=hJ (show g≠mc by have:=HMW.out;have:=lt_of_heap HW5.out;omega);have HG9:=hJ (show w.heap.size<=g from Nat.le_trans HB5.out.size hge);clear hz hg6 hb hge
 go_upto_region 7 with (first
  | (refine zZ rfl 49 (.tmp 10) (.tmp 40) rfl w6.heap.size (aH (.slice (some ⟨g,0,none⟩) n n) (.slice (some ⟨sg2,0,none⟩) 1 1) (aY an ln)) rfl rfl 49 cK (ed w6 _ _) (aG _ _ _) rfl cZ ?_)
  | (refine zZ rfl 42 (.tmp 11) (.tmp 41) rfl (w6.heap.size+1) _ rfl rfl 42 (ae (fun _=>0) (fun _=>0) 0 0 0) ((qZ _ _ _ _ oZ).trans (eO w6 _ _)) (ai _ _ _ _ _) rfl (by simp[ae,Value.oneCell']) ?_)
  | fail)
 obtain⟨w7,hw7⟩:∃ w7,w7=(((w6.alloc (.cells cK 49)).alloc (.cells (ae (fun _=>0) (fun _=>0) 0 0 0) 42)).setRow w6.heap.size (aH (.slice (some ⟨g,0,none⟩) n n) (.slice (some ⟨sg2,0,none⟩) 1 1) (aY an ln))).setRow (w6.heap.size+1) (ae (aA (aB ss bk rm)) (aB ss bk rm) (n:Int) (m:Int) (ln:Int)):=⟨_,rfl⟩;rw[show (((w6.alloc (.cells #[.slice none 0 0,.slice none 0 0,.int .i64 0,.int .u32 0,.int .i64 0,.int .i64 0,.int .i64 0,.int .i64 0,.int .i64 0,.int .i64 0] 49)).alloc (.cells #[.int .i64 0,.int .i64 0,.int .i64 0,.int .i64 0,.int .i64 0,.int .i64 0,.int .i64 0,.int .i64 0,.int .i64 0,.int .i64 0,.int .i64 0,.int .i64 0,.int .i64 0,.int .i64 0,.int .i64 0] 42)).setRow w6.heap.size (aH (.slice (some ⟨g,0,none⟩) n n) (.slice (some ⟨sg2,0,none⟩) 1 1) (aY an ln))).setRow (w6.heap.size+1) (ae (aA (aB ss bk rm)) (aB ss bk rm) (n:Int) (m:Int) (ln:Int))=w7 from hw7.symm];have hb7:Below w6.heap.size w6 w7:=by rw[hw7];exact below_setRow (below_setRow dh (Nat.le_refl _) _) (Nat.le_succ _) _
 have HT7:=hJ (show w7.heap[w6.heap.size]?=some (.cells (aH (.slice (some ⟨g,0,none⟩) n n) (.slice (some ⟨sg2,0,none⟩) 1 1) (aY an ln)) 49 (0,0)) by
  rw[hw7,qZ _ _ _ _ oZ];exact setRow_heap _ _ _ _ _ _ (ed w6 _ _))
 have HM7:=hJ (HM6.out.below hb7);have HZ7:=hJ (HZ6.out.below hb7);have HW7:=hJ (ah HW6.out hb7);have HC7:=hJ (ah HC6.out hb7);have HP7:=hJ (ah HP6.out hb7);have HB7:=hJ (ag HB6.out hb7);have HS7:=hJ (bn.under HS6.out hb7);have HS27:=hJ (bn.under HS26.out hb7);clear hw7 hb7 HM6 HZ6 HW6 HC6 HP6 HS6 HS26 HM5 HW5 HC5 HP5 HB5 HS5 HM4 HC4 HP4 HS4 HM3 HC3 HP3 HB3 HC2 HP2 HC1 HC0;go_upto_region 11 with fail
 have hcl5:n<=65536:=by have:=HG5.out;omega
 have HSM:=hJ (fun(wx:World) (hb:Below w7.heap.size w7 wx)=>sO wx (some ⟨sg,0,none⟩) (some ⟨sg2,0,none⟩) 1 1 1 (aY an ln) rfl oZ (HS7.out.reads.below hb) (HS27.out.reads.below hb));have HCE:=hJ (fun(wx:World) (hb:Below w7.heap.size w7 wx)=>rR (HM7.out.below hb) (by rw[nK];exact hcl5));rw[nK] at HCE;have HSA:=hJ (fun(wx:World) (p:Nat) (hb:Below w7.heap.size w7 wx) (h:wx.heap[p]?=some (.cells ((lw n an ln).map (Value.int .u32)).toArray 32 (0,0)))=>same_eq wx p g n (lw n an ln) 32 32 (nK n an ln).symm oZ h (HZ7.out.below hb).cells);clear hcl5
 refine aI (fun(p:Nat×Nat) jz=>[.agg (au (dd:Int) t ss bk rm kf bf),.agg (ae (aA (aB ss bk rm)) (aB ss bk rm) (n:Int) (m:Int) (ln:Int)),.pointer (some ⟨mb,0,none⟩),.agg (aO (.slice (some ⟨sg,0,none⟩) 1 1) (aY an ln)),.agg (aH (.slice (some ⟨g,0,none⟩) n n) (.slice (some ⟨sg2,0,none⟩) 1 1) (aY an ln)),.agg (aU (au (dd:Int) t ss bk rm kf bf) (ae (aA (aB ss bk rm)) (aB ss bk rm) (n:Int) (m:Int) (ln:Int)) (.pointer (some ⟨mb,0,none⟩)) (aO (.slice (some ⟨sg,0,none⟩) 1 1) (aY an ln)) (aH (.slice (some ⟨g,0,none⟩) n n) (.slice (some ⟨sg2,0,none⟩) 1 1) (aY an ln))),.pointer (some ⟨p.1,0,none⟩),.pointer (some ⟨mb,0,none⟩),.slice (some ⟨p.2,0,none⟩) n n,.pointer (some ⟨w6.heap.size,0,none⟩),.slice (some ⟨g,0,none⟩) n n,.bool true,.bool true,.agg (aO (.slice (some ⟨sg,0,none⟩) 1 1) (aY an ln)),.pointer (some ⟨w6.heap.size,1,none⟩),.agg (aO (.slice (some ⟨sg2,0,none⟩) 1 1) (aY an ln)),.bool true,.bool true,.pointer (some ⟨p.1,0,none⟩),.bool true].getD jz undef)
  (fun p l9 wx=>Below w7.heap.size w7 wx/\(l9 8=true->wx.heap[p.2]?=some (.cells ((lw n an ln).map (Value.int .u32)).toArray 32 (0,0)))/\(l9 6=true->w7.heap.size<=p.1/\wx.heap[p.1]?=some (.cells (aU (au (dd:Int) t ss bk rm kf bf) (ae (aA (aB ss bk rm)) (aB ss bk rm) (n:Int) (m:Int) (ln:Int)) (.pointer (some ⟨mb,0,none⟩)) (aO (.slice (some ⟨sg,0,none⟩) 1 1) (aY an ln)) (aH (.slice (some ⟨g,0,none⟩) n n) (.slice (some ⟨sg2,0,none⟩) 1 1) (aY an ln))) 51 (0,0))))
  kZ kZ pZ (0,0) ?_ ?_ ?_
 ·exact⟨(Below.refl _ _).drew,fun h=>jZ,fun h=>jZ⟩
 ·intro i o ho p l9 wx hR hl he hcl K hK;rcases i with _|_|_|_|_|_|_|_|_|_|_|_|_|_|_|_|_|_|_|_|i
  ·cases ho;refine wp_load_row 25 (.tmp 1) rfl w.heap.size rfl 25 (au (dd:Int) t ss bk rm kf bf) (0,0) _ (ah HC7.out hR.1) Tryz.underlying25 rfl (dQ _ _ _ _ _ _ _) ?_;exact hK p wx (fun _ _=>rfl) hR
  ·cases ho;refine wp_load_row 42 (.tmp 4) rfl w1.heap.size rfl 42 (ae (aA (aB ss bk rm)) (aB ss bk rm) (n:Int) (m:Int) (ln:Int)) (0,0) _ (ah HP7.out hR.1) Tryz.underlying42 rfl (ai _ _ _ _ _) ?_;exact hK p wx (fun _ _=>rfl) hR
  ·cases ho;go_simp;exact hK p wx (fun _ _=>rfl) hR
  ·cases ho;refine wp_load_row 46 (.tmp 8) rfl w4.heap.size rfl 46 (aO (.slice (some ⟨sg,0,none⟩) 1 1) (aY an ln)) (0,0) _ (ah HW7.out hR.1) Tryz.underlying46 rfl (aK _ _) ?_;exact hK p wx (fun _ _=>rfl) hR
  ·cases ho;refine wp_load_row 49 (.tmp 10) rfl w6.heap.size rfl 49 (aH (.slice (some ⟨g,0,none⟩) n n) (.slice (some ⟨sg2,0,none⟩) 1 1) (aY an ln)) (0,0) _ (ah HT7.out hR.1) Tryz.underlying49 rfl (aG _ _ _) ?_;exact hK p wx (fun _ _=>rfl) hR
  ·cases ho;refine Ho 51 _ rfl (aU (au (dd:Int) t ss bk rm kf bf) (ae (aA (aB ss bk rm)) (aB ss bk rm) (n:Int) (m:Int) (ln:Int)) (.pointer (some ⟨mb,0,none⟩)) (aO (.slice (some ⟨sg,0,none⟩) 1 1) (aY an ln)) (aH (.slice (some ⟨g,0,none⟩) n n) (.slice (some ⟨sg2,0,none⟩) 1 1) (aY an ln))) kZ ?_;exact hK p wx (fun _ _=>rfl) hR
  ·cases ho;have HRr:=hJ hR;have HLl:=hJ hl;have HCl:=hJ hcl;clear hR hl hcl;go_simp;have hbx:=aj (w:=wx) (A:=.cells (aU (au (dd:Int) t ss bk rm kf bf) (ae (aA (aB ss bk rm)) (aB ss bk rm) (n:Int) (m:Int) (ln:Int)) (.pointer (some ⟨mb,0,none⟩)) (aO (.slice (some ⟨sg,0,none⟩) 1 1) (aY an ln)) (aH (.slice (some ⟨g,0,none⟩) n n) (.slice (some ⟨sg2,0,none⟩) 1 1) (aY an ln))) 51);refine hK (wx.heap.size,p.2) (wx.alloc (.cells (aU (au (dd:Int) t ss bk rm kf bf) (ae (aA (aB ss bk rm)) (aB ss bk rm) (n:Int) (m:Int) (ln:Int)) (.pointer (some ⟨mb,0,none⟩)) (aO (.slice (some ⟨sg,0,none⟩) 1 1) (aY an ln)) (aH (.slice (some ⟨g,0,none⟩) n n) (.slice (some ⟨sg2,0,none⟩) 1 1) (aY an ln))) 51)) (fun j hj=>?_) ⟨ag HRr.out.1 hbx,fun h=>ah (HRr.out.2.1 h) hbx,fun _=>⟨HRr.out.1.size,nZ _ _⟩⟩;rcases j with _|_|_|_|_|_|_|_|_|_|_|_|_|_|_|_|_|_|_|_|j
   all_goals first | rfl | (rw[HLl.out] at hj;cases hj) | (exact absurd (HCl.out 18 _ rfl hj ⟨6,.data⟩ sZ rfl) (by rw[HLl.out];decide))
  ·cases ho;go_simp;exact hK p wx (fun _ _=>rfl) hR
  ·cases ho;have HRr:=hJ hR;have HLl:=hJ hl;clear hR hl;go_simp;refine(HCE.out wx HRr.out.1).mono ?_;rintro e9 w9 ⟨rfl,hr9,hb9⟩;refine hK (p.1,wx.heap.size) w9 (fun j hj=>?_) ⟨ag HRr.out.1 hb9,fun _=>hr9,fun h=>⟨(HRr.out.2.2 h).1,ah (HRr.out.2.2 h).2 hb9⟩⟩;rcases j with _|_|_|_|_|_|_|_|_|_|_|_|_|_|_|_|_|_|_|_|j
   all_goals first | rfl | (rw[HLl.out] at hj;cases hj)
  ·cases ho;go_simp;exact hK p wx (fun _ _=>rfl) hR
  ·cases ho;have q:=(show wx.cell? ⟨w6.heap.size,0,none⟩=some (.slice (some ⟨g,0,none⟩) n n) from aa (ah HT7.out hR.1) 0);go_simp;exact hK p wx (fun _ _=>rfl) hR
  ·cases ho;have h15:l9 8=true:=he ⟨8,.data⟩ sZ rfl;have HRr:=hJ hR;have H15:=hJ h15;clear hR h15;go_simp;refine(HSA.out wx p.2 HRr.out.1 (HRr.out.2.1 H15.out)).mono ?_;rintro e9 w9 ⟨rfl,hb9⟩;exact hK p w9 (fun _ _=>rfl) ⟨ag HRr.out.1 hb9,fun h=>ah (HRr.out.2.1 h) hb9,fun h=>⟨(HRr.out.2.2 h).1,ah (HRr.out.2.2 h).2 hb9⟩⟩
  ·cases ho;go_simp;exact hK p wx (fun _ _=>rfl) hR
  ·cases ho;refine wp_load_row 46 (.tmp 8) rfl w4.heap.size rfl 46 (aO (.slice (some ⟨sg,0,none⟩) 1 1) (aY an ln)) (0,0) _ (ah HW7.out hR.1) Tryz.underlying46 rfl (aK _ _) ?_;exact hK p wx (fun _ _=>rfl) hR
  ·cases ho;go_simp;exact hK p wx (fun _ _=>rfl) hR
  ·cases ho;refine aR 46 (.tmp 69) rfl w6.heap.size 1 rfl 49 (aH (.slice (some ⟨g,0,none⟩) n n) (.slice (some ⟨sg2,0,none⟩) 1 1) (aY an ln)) (aO (.slice (some ⟨sg2,0,none⟩) 1 1) (aY an ln)) (0,0) _ (ah HT7.out hR.1) (Kg _ _ _) Tryz.underlying46 rfl (aK _ _) ?_;exact hK p wx (fun _ _=>rfl) hR
  ·cases ho;have HRr:=hJ hR;clear hR;go_simp;refine(HSM.out wx HRr.out.1).mono ?_;rintro e9 w9 ⟨rfl,hb9⟩;exact hK p w9 (fun _ _=>rfl) ⟨ag HRr.out.1 hb9,fun h=>ah (HRr.out.2.1 h) hb9,fun h=>⟨(HRr.out.2.2 h).1,ah (HRr.out.2.2 h).2 hb9⟩⟩
  iterate 3 (· cases ho;go_simp;exact hK p wx (fun _ _=>rfl) hR)
  ·simp at ho
 ·intro p lz wx hl hR;have HRr:=hJ hR.1;have HWb:=hJ (hR.2.2 (hl 6 dZ));clear hR hl;go_wp2_with fail
  go_ret2
  exact⟨p.1,mb,mc,some ⟨sg,0,none⟩,some ⟨sg2,0,none⟩,1,1,g,rfl,⟨HWb.out.2,HM7.out.below HRr.out,oZ,oZ,HZ7.out.below HRr.out,HGE.out,bn.under HS7.out HRr.out,bn.under HS27.out HRr.out,HNew.out,nK _ _ _,ag HB7.out HRr.out,by have:=HMB.out;have:=HL2.out.1;omega,by have:=HMC.out;have:=HL2.out.1;omega,Nat.le_trans HB7.out.size HWb.out.1⟩,HG9.out⟩
theorem Cu (w:World) (dd:Nat) (t:Int) (ss:Nat->Int) (bk rm:Int) (kf bf:Nat) {n an ln m:Nat} (h:ek (dd:Int) t ss bk rm) (hN:CN (dd:Int) t ss bk rm n an ln m dd) (hg:n<=5000) (hfit:(ln:Int)+2<=aB ss bk rm 5) :
  Calls Tryz.prog 14 #[.agg (au (dd:Int) t ss bk rm kf bf)] w fun e w'=>∃ Wb mb mc og og2 gc gc2 gz,e=.returned (.tuple #[.pointer (some ⟨Wb,0,none⟩),.bool true]) /\
   DW w w' Wb mb mc dd t ss bk rm kf bf (aA (aB ss bk rm)) (aB ss bk rm) (n:Int) (ln:Int) m n 0 (lw n an ln) (aY an ln) (fun _=>none) 0 3 og og2 gc gc2 gz:=by
 refine(Ed w dd t ss bk rm kf bf h hN hg hfit).mono ?_;rintro e w' ⟨a,b,c,e1,e2,e3,e4,e5,h1,h2,_⟩;exact⟨a,b,c,e1,e2,e3,e4,e5,h1,h2⟩
theorem La:KC 2 64 LV 20 200 zw He ((247:Nat):Int) ((137:Nat):Int) 128:=⟨I5,KY.plan,dZ,dZ⟩
def Mw:Nat->Nat->List Int->Sx->bK->Prop
 | 0,nd,cs,x,d=>nd=0/\cs=lw 247 47 137/\x=aY 47 137/\d=fun _=>none
 | 1,nd,cs,x,_=>xe False 1 nd cs x
 | 2,nd,cs,x,_=>xe False 1 nd cs x
 | _,nd,cs,x,_=>xe True 2 nd cs x
structure JC (w wx:World) (Wb mb mc ob tb k:Nat):Prop where
 st:∃ nd cs x d l s og og2 gc gc2 gz,DW w wx Wb mb mc 2 64 LV 20 200 0 0 zw He ((247:Nat):Int) ((137:Nat):Int) 128 247 nd cs x d l s og og2 gc gc2 gz/\Mw k nd cs x d/\l+s<=3+500000*(k:Int)
 op:wx.heap[ob]?=some (.cells #[.bool false,.int .u32 7,.slice (some ⟨tb,0,none⟩) 1 1] 37 (0,0))
 tx:wx.heap[tb]?=some (.cells #[.string ⟨#[102,111,120,32,102,111,120]⟩] 9 (0,0))
 ne:(ob≠mb/\ob≠mc/\ob≠Wb)/\(tb≠mb/\tb≠mc/\tb≠Wb)
section
variable {w wx:World} {Wb mb mc ob tb k:Nat}
theorem JC.texts (h:JC w wx Wb mb mc ob tb k) (hT:dE w) (wr:World) (hwr:∀ j,j<wx.heap.size->j≠mb->j≠mc->wr.heap[j]?=wx.heap[j]?):dE wr/\fU wr (some ⟨tb,0,none⟩) Lb:=by
 obtain⟨nd,cs,x,d,l,s,og,og2,gc,gc2,gz,hD,-,-⟩:=h.st;have h1:=hD.low.size;have h2:=hD.oldm;have h3:=hD.oldc;refine⟨kS.tabs (fun j hj=>(hwr j oZ oZ oZ).trans (hD.low.block j hj)) hT,fun j t hj=>?_⟩;rcases j with _ | j
 ·obtain rfl:_=t:=Option.some.inj hj;exact⟨tb,0,rfl,aa ((hwr tb (lt_of_heap h.tx) h.ne.2.1 h.ne.2.2.1).trans h.tx) 0⟩
 ·simp[Lb] at hj
theorem Mw.bT {nd:Nat} {cs:List Int} {x:Sx} {d:bK} (h:Mw k nd cs x d):x.bT=if k=0 then 0 else if k<=2 then 1 else 2:=by
 rcases k with _|_|_|k
 ·obtain⟨-,-,rfl,-⟩:=h;rfl
 ·exact h.2.2.2
 ·exact h.2.2.2
 ·rw[if_neg oZ,if_neg oZ];exact h.2.2.2
theorem JC.cell (h:JC w wx Wb mb mc ob tb k):wx.cell? ⟨Wb,28,none⟩=some (.int .u32 (if k=0 then 0 else if k<=2 then 1 else 2)):=by
 obtain⟨nd,cs,x,d,l,s,og,og2,gc,gc2,gz,hD,hP,-⟩:=h.st;rw[<- hP.bT];exact(aa hD.box 28).trans (lD rfl rfl 2 _ rfl)
theorem JC.add (hk:k<2) (hT:dE w) (h:JC w wx Wb mb mc ob tb k) :
  Calls Tryz.prog 18 #[.pointer (some ⟨Wb,0,none⟩),.agg #[.bool false,.int .u32 7,.slice (some ⟨tb,0,none⟩) 1 1]] wx fun e w'=>e=.returned (.bool true)/\JC w w' Wb mb mc ob tb (k+1):=by
 obtain⟨nd,cs,x,d,l,s,og,og2,gc,gc2,gz,hD,hP,hl⟩:=h.st;have hv:=hP.bT;refine(Lm La hD 7 (by rw[hv];split <;> (try split) <;> omega) oZ (some ⟨tb,0,none⟩) Lb 1 dZ dZ ⟨dZ,dZ⟩ (h.texts hT)).mono ?_;rintro e w' ⟨rfl,e0,cs',x',nd',d',l',s',og',og2',gc',gc2',gz',hg,hs,hD',hfr⟩;refine⟨rfl,⟨nd',cs',x',d',l',s',og',og2',gc',gc2',gz',hD',?_,oZ⟩,(hfr ob (lt_of_heap h.op) h.ne.1.1 h.ne.1.2.1 h.ne.1.2.2).trans h.op,(hfr tb (lt_of_heap h.tx) h.ne.2.1 h.ne.2.2.1 h.ne.2.2.2).trans h.tx,h.ne⟩;rcases k with _|_|k
 ·obtain⟨rfl,rfl,rfl,rfl⟩:=hP;exact LC hg
 ·exact Ll hD.inv hP hg
 ·omega
theorem JC.del (hk:2<=k/\k<4) (hT:dE w) (h:JC w wx Wb mb mc ob tb k) :
  Calls Tryz.prog 18 #[.pointer (some ⟨Wb,0,none⟩),.agg #[.bool true,.int .u32 7,.slice (some ⟨tb,0,none⟩) 1 1]] wx fun e w'=>e=.returned (.bool true)/\JC w w' Wb mb mc ob tb (k+1):=by
 obtain⟨nd,cs,x,d,l,s,og,og2,gc,gc2,gz,hD,hP,hl⟩:=h.st;have hv:=hP.bT;refine(Mc La hD 7 (by rw[hv];split <;> (try split) <;> omega) oZ (some ⟨tb,0,none⟩) 1 1 hT).mono ?_;rintro e w' ⟨rfl,e0,cs',x',l',s',og',og2',gc',gc2',gz',hg,hs,hD',hfr⟩;refine⟨rfl,⟨nd,cs',x',d,l',s',og',og2',gc',gc2',gz',hD',?_,oZ⟩,(hfr ob (lt_of_heap h.op) h.ne.1.1 h.ne.1.2.1 h.ne.1.2.2).trans h.op,(hfr tb (lt_of_heap h.tx) h.ne.2.1 h.ne.2.2.1 h.ne.2.2.2).trans h.tx,h.ne⟩;rcases k with _|_|_|_|k
 ·omega
 ·omega
 ·exact Iw hD.inv hP hg
 ·exact Ko hD.inv hP hg
 ·omega
end
section
variable {P:Program}
theorem kV {ops:Array Oper} {rest:List Oper} {o:Oper} {a:Act} {w:World} {Q:Exit->Act->World->Prop} (hw:Region.wanted o (yielded ops a.tmps)=true) (ty:TypeId) (x:Operand) (ho:o.op=.load ty x)
  (g:Nat) (hx:a.eval x=.pointer (some ⟨g,0,none⟩)) (t:TypeId) (cs:Array Value) (fr:Nat×Nat) (d:TypeDesc) (hg:w.heap[g]?=some (.cells cs t fr))
  (hu:P.underlying ty=some d) (hd:(match d with | .struct _ | .array _ _=>true | _=>false)=true) (hi:(P.info? ty).map (·.size)=some cs.size)
  (h:wpList P ops Q rest (a.put o.dst (.agg cs)) w):wpList P ops Q (o :: rest) a w :=
 wpList_step fun K hK=>by
  rw[if_pos hw];exact wp_load_row ty x ho g hx t cs fr d hg hu hd hi (hK _ _ h)
end
theorem DW.under {W0 W W':World} {Wb mb cb dd:Nat} {tt:Int} {ss:Nat->Int} {bk rm:Int} {kf bf:Nat} {B S:Nat->Int} {C L:Int} {m n nd:Nat} {cs:List Int} {x:Sx} {d:bK} {l s:Int} {og og2:Option Addr} {gc gc2 gz:Nat} (h:DW W0 W Wb mb cb dd tt ss bk rm kf bf B S C L m n nd cs x d l s og og2 gc gc2 gz) (hb:Below W.heap.size W W'):DW W0 W' Wb mb cb dd tt ss bk rm kf bf B S C L m n nd cs x d l s og og2 gc gc2 gz :=
 ⟨ah h.box hb,h.mem.below hb,h.l0,h.s0,h.row.below hb,h.zc,h.aC.under hb,h.segs2.under hb,h.inv,h.len,ag h.low hb,h.oldm,h.oldc,h.oldb⟩
theorem nX (w:World) (hT:dE w):Calls Tryz.prog 15 #[] w fun e w'=>e=.returned (.bool true)/\Below w.heap.size w w':=by
 have HT:=hJ hT;clear hT;go_enter Tryz.func15,Tryz.ntmps15
 go_wp2_with fail
 refine(Cu w 2 64 LV 20 200 0 0 I5 KY oZ dZ).mono ?_;rintro e w1 ⟨Wb,mb,mc,og,og2,gc,gc2,gz,rfl,hdw⟩;have HD:=hJ hdw;clear hdw;go_upto_region 5 with fail
 have HX0:=hJ (show JC w ((w1.alloc (.cells #[.string ⟨#[102,111,120,32,102,111,120]⟩] 9)).alloc (.cells #[.bool false,.int .u32 7,.slice (some ⟨w1.heap.size,0,none⟩) 1 1] 37)) Wb mb mc (w1.heap.size+1) w1.heap.size 0 from by
  have hD:=HD.out;have h1:=lt_of_heap hD.mem.rec_;have h2:=lt_of_heap hD.mem.row;have h3:=lt_of_heap hD.box;exact⟨⟨0,_,_,_,0,3,og,og2,gc,gc2,gz,hD.under dh,⟨rfl,rfl,rfl,rfl⟩,oZ⟩,eO _ _ _,ed _ _ _,⟨oZ,oZ,oZ⟩,oZ,oZ,oZ⟩)
 clear HD;generalize (w1.alloc (.cells #[.string ⟨#[102,111,120,32,102,111,120]⟩] 9)).alloc (.cells #[.bool false,.int .u32 7,.slice (some ⟨w1.heap.size,0,none⟩) 1 1] 37)=w2 at HX0 ⊢;generalize w1.heap.size+1=ob at HX0 ⊢;generalize w1.heap.size=tb at HX0 ⊢
 go_wp2_with (first
  | (refine yZ rfl 37 (.tmp 3) rfl ob rfl 37 #[.bool false,.int .u32 7,.slice (some ⟨tb,0,none⟩) 1 1] (0,0) _ HX0.out.op Tryz.underlying37 rfl (l8 _ _ _) ?_)
  | fail)
 refine(HX0.out.add oZ HT.out).mono ?_;rintro e w3 ⟨rfl,h1⟩;have HX1:=hJ h1;have q:w3.cell? ⟨Wb,28,none⟩=some (.int .u32 1):=h1.cell;clear h1
 go_wp2_with (first
  | (refine kV rfl 37 (.tmp 3) rfl ob rfl 37 #[.bool false,.int .u32 7,.slice (some ⟨tb,0,none⟩) 1 1] (0,0) _ HX1.out.op Tryz.underlying37 rfl (l8 _ _ _) ?_)
  | fail)
 refine(HX1.out.add oZ HT.out).mono ?_;rintro e w4 ⟨rfl,h2⟩;have HX2:=hJ h2;clear q;have q:w4.cell? ⟨Wb,28,none⟩=some (.int .u32 1):=h2.cell;clear h2
 go_wp2_with (first
  | (refine gL rfl 35 (.tmp 45) rfl ob 1 rfl 37 #[.bool false,.int .u32 7,.slice (some ⟨tb,0,none⟩) 1 1] #[.int .u32 7,.slice (some ⟨tb,0,none⟩) 1 1] (0,0) _ HX2.out.op (mR _ _ _) Tryz.underlying35 rfl (qX _ _) ?_)
  | fail)
 refine(HX2.out.del oZ HT.out).mono ?_;rintro e w5 ⟨rfl,h3⟩;have HX3:=hJ h3;clear q;have q:w5.cell? ⟨Wb,28,none⟩=some (.int .u32 2):=h3.cell;clear h3
 go_wp2_with (first
  | (refine gL rfl 35 (.tmp 60) rfl ob 1 rfl 37 #[.bool false,.int .u32 7,.slice (some ⟨tb,0,none⟩) 1 1] #[.int .u32 7,.slice (some ⟨tb,0,none⟩) 1 1] (0,0) _ HX3.out.op (mR _ _ _) Tryz.underlying35 rfl (qX _ _) ?_)
  | fail)
 refine(HX3.out.del oZ HT.out).mono ?_;rintro e w6 ⟨rfl,h4⟩;obtain⟨nd,cs,x,d,l,s,og,og2,gc,gc2,gz,hD,-,-⟩:=h4.st;have HLw:=hJ hD.low;clear q;have q:w6.cell? ⟨Wb,28,none⟩=some (.int .u32 2):=h4.cell;clear h4 hD;go_wp2_with fail
 go_ret;exact⟨rfl,HLw.out⟩
section
variable {w W W':World} {Wb mb mc dd:Nat} {tt:Int} {ss:Nat->Int} {bk rm:Int} {kf bf:Nat} {B S:Nat->Int} {C L:Int} {m n i nd:Nat} {cs:List Int} {x:Sx} {d:bK} {l s:Int} {og og2:Option Addr} {gc gc2 gz:Nat}
theorem DW.keeps (hD:DW w W Wb mb mc dd tt ss bk rm kf bf B S C L m n nd cs x d l s og og2 gc gc2 gz) {wr:World} (h:∀ k,k<W.heap.size->k≠mb->k≠mc->wr.heap[k]?=W.heap[k]?):kS w.heap.size w wr:=fun k hk=>by
 have h1:=hD.low.size;have h2:=hD.oldm;have h3:=hD.oldc;exact(h k oZ oZ oZ).trans (hD.low.block k hk)
theorem Below.stays (h:Below w.heap.size w W):kS w.heap.size w W:=fun k hk=>h.block k hk
theorem kS.ops {oa:Option Addr} {l:List J5} (h:kS w.heap.size w W) (ha:jm w oa l):jm W oa l:=by
 intro j e hj;obtain⟨g,o,h0,h1,h2,p,h3,pa,c,h4,h5⟩:=ha j e hj;exact⟨g,o,h0,h.cell (Nat.le_refl _) h1,h.cell (Nat.le_refl _) h2,p,h.cell (Nat.le_refl _) h3,pa,c,h4,h.texts h5⟩
end
theorem Fp (w:World) (d t:Int) (ss:Nat->Int) (bk rm:Int) (kf bf:Nat) :
  Calls Tryz.prog 14 #[.agg (au d t ss bk rm kf bf)] w fun e w'=>(e=.returned (.tuple #[.pointer none,.bool true])/\Below w.heap.size w w') ∨
   (∃ dd n an ln m Wb mb mc og og2 gc gc2 gz:_,d=((dd:Nat):Int)/\KC dd t ss bk rm (aA (aB ss bk rm)) (aB ss bk rm) ((n:Nat):Int) ((ln:Nat):Int) m/\e=.returned (.tuple #[.pointer (some ⟨Wb,0,none⟩),.bool true]) /\
    DW w w' Wb mb mc dd t ss bk rm kf bf (aA (aB ss bk rm)) (aB ss bk rm) (n:Int) (ln:Int) m n 0 (lw n an ln) (aY an ln) (fun _=>none) 0 3 og og2 gc gc2 gz):=by
 by_cases h:ek d t ss bk rm
 ·obtain⟨n,an,ln,m,dd,hN⟩:=Mh h;by_cases hg:n<=5000
  ·by_cases hf:(ln:Int)+2<=aB ss bk rm 5
   ·obtain rfl:=hN.dd_;refine(Cu w dd t ss bk rm kf bf h hN hg hf).mono ?_;rintro e w' ⟨Wb,mb,mc,og,og2,gc,gc2,gz,rfl,hD⟩;exact .inr ⟨dd,n,an,ln,m,Wb,mb,mc,og,og2,gc,gc2,gz,rfl,⟨h,hN.plan,hN.ln_,oZ⟩,rfl,hD⟩
   ·exact(CE w d t ss bk rm kf bf h hN hg oZ).mono fun e w' h=>.inl h
  ·exact(Ay w d t ss bk rm kf bf h (by rw[hN.cells];omega)).mono fun e w' h=>.inl h
 ·exact(GQ w d t ss bk rm kf bf h).mono fun e w' h=>.inl h
end Go.Proofs.YtafaohnhlgcnpaaGreatDoor
