/-
 What stage 12 rests on.
-/
import Derived.Test.YtafaohnhlgcnpaaGreatDoorWrAlE4
import Derived.Test.YtafaohnhlgcnpaaGreatDoorWrAlF3
import Derived.Test.YtafaohnhlgcnpaaGreatDoorWrAlF2
set_option maxRecDepth 100000
set_option maxHeartbeats 16000000
namespace Go.Proofs.YtafaohnhlgcnpaaGreatDoor
open Go.RowKit
def jg (B S:Nat->Int) (t:Int):Int:=match bU B S t with | none=>-1 | some k=>(k:Int)
theorem qf {B S:Nat->Int} {C:Int} (hL:Laid B S C) (T L t:Int) (hr:bG B S t) (w:World):Calls Tryz.prog 170 #[.agg (ae B S C T L),.int .i64 t] w fun e w'=>e=.returned (.int .i64 (jg B S t))/\Below w.heap.size w w':=by
 by_cases h0:t=0
 ·have HZ:=hJ (show jg B S t=0 by unfold jg bU;rw[if_pos h0];rfl);rw[HZ.out];subst h0;clear hr hL;go_enter Tryz.func170,Tryz.ntmps170
  go_wp2_with fail
  go_ret;exact⟨rfl,aj⟩
 ·have ha:0<gu B S t:=hr.resolve_left h0;obtain⟨hk4,_,_,hlt⟩:=hL.at_ ha;obtain⟨k,hk⟩:∃ k,k=kI B S t:=⟨_,rfl⟩;have hki:mP B S t=(k:Int):=by unfold mP;rw[if_pos hk4,hk]
  have hz:jg B S t=if gu B S t<aN k-1 then -1 else if k<3 then(k:Int)+1 else 3:=by
   unfold jg bU;rw[if_neg h0,<- hk];by_cases h1:gu B S t<aN k-1
   ·rw[if_pos h1,if_pos h1]
   ·rw[if_neg h1,if_neg h1];simp only;split <;> omega
  have HC:=hJ (fun w=>(lq w B S C T L t hL.fit).mono fun _ _ h=>nV h);have HS:=hJ (fun w=>iw w k oZ);rw[hki] at HC;obtain⟨q,hq⟩:∃ q,q=gu B S t:=⟨_,rfl⟩;rw[<- hq] at HC hz ha;have sl0:=dB k;have sl1:=d9 k;rw[<- hk] at hk4;obtain⟨s,hs⟩:∃ s,s=aN k:=⟨_,rfl⟩;rw[<- hs] at HS hz sl0 sl1;have HZ:=hJ hz;have e0:(t==0)=false:=by simpa using h0
  have s1:IntKind.i64.wrap (s-1)=s-1:=iZ _ oZ;have s2:IntKind.i64.wrap ((k:Int)+1)=(k:Int)+1:=iZ _ oZ;clear hr hL hk hki hz hq hs ha h0;go_enter Tryz.func170,Tryz.ntmps170
  go_wp2_with (refine yZ rfl 42 (.tmp 2) rfl w.heap.size rfl 42 (ae B S C T L) (0,0) _ (nZ w _) Tryz.underlying42 rfl (ai _ _ _ _ _) ?_)
  refine(HC.out _).mono ?_;rintro e w1 ⟨rfl,hb⟩;have HB:=hJ (ag aj hb);clear hb HC;go_wp2_with fail
  refine(HS.out _).mono ?_;rintro e w2 ⟨rfl,rfl⟩;by_cases h1:q<s-1
  ·have H1:=hJ h1;go_wp2_with fail
   go_ret;exact⟨by rw[HZ.out,if_pos H1.out];rfl,HB.out⟩
  ·have H1:=hJ h1;by_cases h3:k=3
   ·subst h3;go_wp2_with fail
    go_ret;exact⟨by rw[HZ.out,if_neg (by have:=H1.out;omega),if_neg oZ];rfl,HB.out⟩
   ·have h3b:((k:Int)==3)=false:=by simp;omega
    go_wp2_with fail
    go_ret;exact⟨by rw[HZ.out,if_neg (by have:=H1.out;omega),if_pos oZ];rfl,HB.out⟩
structure PB (W:World) (B S U:Nat->Int) (C T L:Int) (g:Nat) (cs:List Int) (w:World):Prop where
 box:sS W B S U C T L w
 row:cB w g cs
 gt:W.heap.size+1+1<g
section
variable {W w w':World} {B S U:Nat->Int} {C T L:Int} {g:Nat} {cs:List Int}
theorem PB.below (h:PB W B S U C T L g cs w) (hb:Below w.heap.size w w'):PB W B S U C T L g cs w':=⟨h.box.below hb,h.row.below hb,h.gt⟩
theorem PB.set (h:PB W B S U C T L g cs w) {a:Nat} (ha:a<cs.length) (v:Int):PB W B S U C T L g (cs.set a v) (w.setCell ⟨g,a,none⟩ (.int .u32 v)):=⟨h.box.set h.gt _ _,h.row.set ha v,h.gt⟩
theorem PB.other (h:PB W B S U C T L g cs w) {q:Nat} (hq:g<q) (c:Array Value):PB W B S U C T L g cs (w.setRow q c):=by
 obtain⟨⟨h1,h2,⟨X,h3⟩,h4⟩,h5,h6⟩:=h;exact⟨⟨(qZ _ _ _ _ oZ).trans h1,(qZ _ _ _ _ oZ).trans h2,⟨X,(qZ _ _ _ _ oZ).trans h3⟩,below_setRow h4 oZ _⟩,h5.of_block (qZ _ _ _ _ oZ),h6⟩
theorem PB.used (h:PB W B S U C T L g cs w) (V:Nat->Int):PB W B S V C T L g cs (w.setRow (W.heap.size+1) (six V)):=by
 obtain⟨⟨h1,h2,⟨X,h3⟩,h4⟩,h5,h6⟩:=h;exact⟨⟨(qZ _ _ _ _ oZ).trans h1,setRow_heap _ _ _ _ _ _ h2,⟨X,(qZ _ _ _ _ oZ).trans h3⟩,below_setRow h4 oZ _⟩,h5.of_block (qZ _ _ _ _ oZ),h6⟩
theorem PB.answer (h:PB W B S U C T L g cs w) (V:Nat->Int):PB W B S U C T L g cs (w.setRow (W.heap.size+1+1) (six V))/\(w.setRow (W.heap.size+1+1) (six V)).heap[W.heap.size+1+1]?=some (.cells (six V) 40 (0,0)):=by
 obtain⟨⟨h1,h2,⟨X,h3⟩,h4⟩,h5,h6⟩:=h;have hs:=setRow_heap w (W.heap.size+1+1) _ (six V) _ _ h3;exact⟨⟨⟨(qZ _ _ _ _ oZ).trans h1,(qZ _ _ _ _ oZ).trans h2,⟨V,hs⟩,below_setRow h4 oZ _⟩,h5.of_block (qZ _ _ _ _ oZ),h6⟩,hs⟩
end
theorem xc (w:World) (oa:Option Addr) (c n:Nat) (cs:List Int) (en:cs.length=n) (hn:n<=1000000) (hU:∀ y∈cs,U y) (ha:bQ .u32 w oa (gQ cs)) {B S:Nat->Int} {C:Int} (hL:Laid B S C) (Us:Nat->Int) (T L t v:Int) (hr:bG B S t) (hb:bU B S t=none) (hv:U v) {q:Nat} {x:su} {cs':List Int} (hd:Does (eP B S Us t v) cs q x cs') :
  Calls Tryz.prog 137 #[.slice oa n c,.agg (ae B S C T L),.agg (six Us),.int .i64 t,.int .u32 v] w fun e w'=>∃ g,e=.returned (.tuple #[.slice (some ⟨g,0,none⟩) n n,.int .i64 x.1,.agg (six x.2.1),.int .i64 0])/\cB w' g cs'/\Below w.heap.size w w'/\w.heap.size<=g:=by
 unfold eP at hd;rw[if_pos hr,hb] at hd;simp only at hd;have hz:jg B S t=-1:=by unfold jg;rw[hb]
 have HRt:=hJ (fun w=>oo hL T L t w);rw[decide_eq_true hr] at HRt;have HBh:=hJ (fun w=>qf hL T L t hr w);rw[hz] at HBh;have HCp:=hJ (fun(w':World) (hb:Below w.heap.size w w')=>lQ w' oa c n cs en hn hU (ha.below hb));cases hd with
 | store g1 g2 hd2 =>
  obtain⟨hx,hcs0,_⟩:=hd2.yN;obtain⟨z,hz2⟩:∃ z:Nat,t+1=(z:Int):=⟨(t+1).toNat,oZ⟩;have HX:=hJ (And.intro (show x=((z:Int),Us,0) by rw[<- hx,hz2]) (show cs'=cs.set z v by rw[hcs0,show (t+1).toNat=z by omega,u32_in hv]));have HEn:=hJ en;rw[hz2] at g1 g2;have z1:z<n:=oZ;have z2:(z:Int)<(n:Int):=oZ;have s1:IntKind.i64.wrap (t+1)=(z:Int):=by rw[hz2];exact iZ _ oZ
  have hB:=sS.start w B S Us C T L;clear hd2 hx hcs0 g1 g2 hz hr hb hL hU ha en hv hz2;go_enter Tryz.func137,Tryz.ntmps137
  go_upto_region 1 with fail
  have hw:(((w.alloc (.cells (ae B S C T L) 42)).alloc (.cells (six Us) 40)).alloc (.cells #[.int .i64 0,.int .i64 0,.int .i64 0,.int .i64 0,.int .i64 0,.int .i64 0] 40))=(((w.alloc (.cells (ae B S C T L) 42)).alloc (.cells (six Us) 40)).alloc (.cells (six fun _=>0) 40)):=rfl;rw[hw];clear hw;generalize (((w.alloc (.cells (ae B S C T L) 42)).alloc (.cells (six Us) 40)).alloc (.cells (six fun _=>0) 40))=w1 at hB ⊢;have HB:=hJ hB;clear hB;go_wp2_with (refine yZ rfl 42 (.tmp 6) rfl w.heap.size rfl 42 (ae B S C T L) (0,0) _ HB.out.p Tryz.underlying42 rfl (ai _ _ _ _ _) ?_)
  refine(HRt.out _).mono ?_;rintro e w2 ⟨rfl,hb⟩;have HB:=hJ (HB.out.below hb);clear hb HRt;go_wp2_with fail
  refine(HCp.out _ HB.out.low).mono ?_;rintro e w3 ⟨rfl,hrow,hb⟩;have hgt:w.heap.size+1+1<w2.heap.size:=by obtain⟨X,h3⟩:=HB.out.r;exact lt_of_heap h3
  obtain⟨g,hg⟩:∃ g,g=w2.heap.size:=⟨_,rfl⟩;rw[<- hg] at hrow hgt ⊢;have HP:=hJ (show PB w B S Us C T L g cs w3 from⟨HB.out.below hb,hrow,hgt⟩);clear hb hrow HB HCp hg;go_wp2_with (refine yZ rfl 42 (.tmp 6) rfl w.heap.size rfl 42 (ae B S C T L) (0,0) _ HP.out.box.p Tryz.underlying42 rfl (ai _ _ _ _ _) ?_)
  refine(HBh.out _).mono ?_;rintro e w4 ⟨rfl,hb⟩;have HP:=hJ (HP.out.below hb);clear hb HBh;have f1:=HP.out.row.cell (a:=z) (by rw[HEn.out];exact z1);have f2:=HP.out.row.frozen z;have HP5:=hJ (HP.out.set (a:=z) (by rw[HEn.out];exact z1) v);go_wp2_with fail
  clear f1 f2 HP;generalize w4.setCell ⟨g,z,none⟩ (.int .u32 v)=w5 at HP5 ⊢
  refine aL (fun(_:Unit) j=>[.slice (some ⟨g,0,none⟩) n n,.int .i64 t,.int .i64 (z:Int),.agg (six Us),.slice (some ⟨g,0,none⟩) n n,.int .i64 (z:Int),undef,.int .i64 0].getD j undef)
   (fun _ l wx=>PB w B S Us C T L g (cs.set z v) wx/\(l 6=true->wx.heap[w.heap.size+1+1]?=some (.cells (six Us) 40 (0,0))))
   kZ kZ pZ () ?_ ?_ ?_
  ·exact⟨HP5.out.below (Below.refl _ _).drew,fun h=>by cases h⟩
  ·intro i o ho q' l wx hR hl he K hK;rcases i with _|_|_|_|_|_|_|_|i
   any_goals first | (cases ho;go_simp;exact hK () wx (fun _ _=>rfl) hR;done) | fail
   ·cases ho;refine wp_load_row 40 (.tmp 7) rfl (w.heap.size+1) rfl 40 (six Us) (0,0) _ hR.1.box.u Tryz.underlying40 rfl (af _) ?_;exact hK () wx (fun _ _=>rfl) hR
   ·cases ho;obtain⟨X,hX⟩:=hR.1.box.r;refine wp_store_row 40 (.tmp 12) (.tmp 64) rfl (w.heap.size+1+1) (six Us) rfl rfl 40 (six X) hX (af _) (aS _ _) (aQ _) ?_;have hs:=hR.1.answer Us;exact hK () _ (fun _ _=>rfl) ⟨hs.1,fun _=>hs.2⟩
   ·simp at ho
  ·intro q' l wx hl hR;have H4:Hid (wx.heap[w.heap.size+1+1]?=some (.cells (six Us) 40 (0,0))):=hJ (hR.2 (hl 6 dZ));have HRX:=hJ hR.1;clear hR hl;go_wp2_with fail
   refine tZ (v:=.tuple #[.slice (some ⟨g,0,none⟩) n n,.int .i64 (z:Int),.agg (six Us),.int .i64 0]) (jT rfl _ _ (w.heap.size+1+1) _ _ (0,0) _ _ _ _ rfl rfl rfl rfl H4.out Tryz.underlying40 rfl (af _)) rfl ?_;exact⟨g,by rw[HX.out.1],by rw[HX.out.2];exact HRX.out.row,HRX.out.box.low,by have:=HRX.out.gt;omega⟩
theorem zn (w:World) (oa:Option Addr) (c n:Nat) (cs:List Int) (en:cs.length=n) (hn:n<=1000000) (hU:∀ y∈cs,U y) (ha:bQ .u32 w oa (gQ cs)) {B S:Nat->Int} {C:Int} (hL:Laid B S C) (Us:Nat->Int) (T L t v:Int) (hr:bG B S t) {k:Nat} (hb:bU B S t=some k) (hk4:k<4) (hus:0<=Us k/\Us k<=S k) (hfit:aN k<=S k-Us k) (h0:t=0) (hv:U v) {q:Nat} {x:su} {cs':List Int} (hd:Does (eP B S Us t v) cs q x cs') :
  Calls Tryz.prog 137 #[.slice oa n c,.agg (ae B S C T L),.agg (six Us),.int .i64 t,.int .u32 v] w fun e w'=>∃ g,e=.returned (.tuple #[.slice (some ⟨g,0,none⟩) n n,.int .i64 x.1,.agg (six x.2.1),.int .i64 0])/\cB w' g cs'/\Below w.heap.size w w'/\w.heap.size<=g:=by
 unfold eP at hd;rw[if_pos hr,hb] at hd;simp only at hd;rw[if_pos hfit,if_pos h0] at hd;have hz:jg B S t=(k:Int):=by unfold jg;rw[hb]
 have HRt:=hJ (fun w=>oo hL T L t w);rw[decide_eq_true hr] at HRt;have HBh:=hJ (fun w=>qf hL T L t hr w);rw[hz] at HBh;have HCp:=hJ (fun(w':World) (hb:Below w.heap.size w w')=>lQ w' oa c n cs en hn hU (ha.below hb));have hp6:=hL.pool (show k<6 by omega);have sl0:=dB k;have sl1:=d9 k;have HSl:=hJ (fun w=>iw w k hk4);have HT:=hJ (fun w=>nE w B S Us C T L (aN k) k oZ oZ hus.1 hus.2 oZ hfit oZ oZ);obtain⟨a,hae⟩:∃ a:Nat,B k+Us k=(a:Int):=⟨(B k+Us k).toNat,oZ⟩;obtain⟨V,hV⟩:∃ V,V=more Us k (aN k):=⟨_,rfl⟩;rw[hae,<- hV] at hd HT;obtain⟨s,hs⟩:∃ s,s=aN k:=⟨_,rfl⟩;rw[<- hs] at HT HSl;have s1:IntKind.i64.wrap ((a:Int)+1)=(a:Int)+1:=iZ _ oZ;have hB:=sS.start w B S Us C T L;have hk0:(0:Int)<=(k:Int):=oZ;cases hd with
 | store g1 g2 hd2 =>
  obtain⟨hx,hcs0,_⟩:=hd2.yN;have HX:=hJ (And.intro (show x=((a:Int)+1,V,0) from hx.symm) (show cs'=cs.set (a+1) v by rw[hcs0,show ((a:Int)+1).toNat=a+1 by omega,u32_in hv]));have HEn:=hJ en;have z1:a+1<n:=oZ;have z2:(a:Int)+1<(n:Int):=oZ;subst h0;clear hd2 hx hcs0 g1 g2 hz hr hb hL hU ha en hv hfit hus hp6 hae hV hs;go_enter Tryz.func137,Tryz.ntmps137
  go_upto_region 1 with fail
  have hw:(((w.alloc (.cells (ae B S C T L) 42)).alloc (.cells (six Us) 40)).alloc (.cells #[.int .i64 0,.int .i64 0,.int .i64 0,.int .i64 0,.int .i64 0,.int .i64 0] 40))=(((w.alloc (.cells (ae B S C T L) 42)).alloc (.cells (six Us) 40)).alloc (.cells (six fun _=>0) 40)):=rfl;rw[hw];clear hw;generalize (((w.alloc (.cells (ae B S C T L) 42)).alloc (.cells (six Us) 40)).alloc (.cells (six fun _=>0) 40))=w1 at hB ⊢;have HB:=hJ hB;clear hB;go_wp2_with (refine yZ rfl 42 (.tmp 6) rfl w.heap.size rfl 42 (ae B S C T L) (0,0) _ HB.out.p Tryz.underlying42 rfl (ai _ _ _ _ _) ?_)
  refine(HRt.out _).mono ?_;rintro e w2 ⟨rfl,hb⟩;have HB:=hJ (HB.out.below hb);clear hb HRt;go_wp2_with fail
  refine(HCp.out _ HB.out.low).mono ?_;rintro e w3 ⟨rfl,hrow,hb⟩;have hgt:w.heap.size+1+1<w2.heap.size:=by obtain⟨X,h3⟩:=HB.out.r;exact lt_of_heap h3
  obtain⟨g,hg⟩:∃ g,g=w2.heap.size:=⟨_,rfl⟩;rw[<- hg] at hrow hgt ⊢;have HP:=hJ (show PB w B S Us C T L g cs w3 from⟨HB.out.below hb,hrow,hgt⟩);clear hb hrow HB HCp hg;go_wp2_with (refine yZ rfl 42 (.tmp 6) rfl w.heap.size rfl 42 (ae B S C T L) (0,0) _ HP.out.box.p Tryz.underlying42 rfl (ai _ _ _ _ _) ?_)
  refine(HBh.out _).mono ?_;rintro e w4 ⟨rfl,hb⟩;have HP:=hJ (HP.out.below hb);clear hb HBh;go_upto_region 6 with fail
  go_cut [16,17,18] (fun lv pv ev wx=>∃ q,lv=.int .i64 (a:Int)/\pv=.pointer (some ⟨q,0,none⟩)/\ev=.int .i64 0/\g<q/\Hid (wx.heap[q]?=some (.cells (six V) 40 (0,0)))/\Hid (PB w B S Us C T L g cs wx))
  case first =>
   refine aL (fun(q:Nat) j=>[.agg (ae B S C T L),.agg (six Us),.int .i64 (k:Int),.int .i64 (k:Int),.int .i64 s,.tuple #[.int .i64 (a:Int),.agg (six V),.int .i64 0],.tuple #[.int .i64 (a:Int),.agg (six V),.int .i64 0],.int .i64 (a:Int),.agg (six V),.int .i64 0,.pointer (some ⟨q,0,none⟩),.int .i64 (a:Int),undef,.int .i64 0].getD j undef)
    (fun q l wx=>PB w B S Us C T L g cs wx/\(l 12=true->l 10=true)/\(l 10=true->g<q/\wx.heap[q]?=some (.cells (six (if l 12 then V else fun _=>0)) 40 (0,0))))
    kZ kZ pZ 0 ?_ ?_ ?_
   ·exact⟨HP.out.below (Below.refl _ _).drew,(fun h=>by cases h),fun h=>by cases h⟩
   ·intro i o ho q l wx hR hl he K hK;have hsz:=hR.1.row.lt;have hbel:∀ w2:World,Below wx.heap.size wx w2->PB w B S Us C T L g cs w2/\(l 12=true->l 10=true)/\(l 10=true->g<q/\w2.heap[q]?=some (.cells (six (if l 12 then V else fun _=>0)) 40 (0,0))):=fun w2 hb2=>⟨hR.1.below hb2,hR.2.1,fun h6=>⟨(hR.2.2 h6).1,(hb2.block q (lt_of_heap (hR.2.2 h6).2)).trans (hR.2.2 h6).2⟩⟩;rcases i with _|_|_|_|_|_|_|_|_|_|_|_|_|_|i
    any_goals first | (cases ho;go_simp;exact hK q wx (fun _ _=>rfl) hR;done) | fail
    ·cases ho;exact aP rfl 42 (.tmp 6) rfl w.heap.size rfl 42 (ae B S C T L) (0,0) _ hR.1.box.p Tryz.underlying42 rfl (ai _ _ _ _ _) (hK q wx (fun _ _=>rfl) hR)
    ·cases ho;exact aP rfl 40 (.tmp 7) rfl (w.heap.size+1) rfl 40 (six Us) (0,0) _ hR.1.box.u Tryz.underlying40 rfl (af _) (hK q wx (fun _ _=>rfl) hR)
    ·cases ho;go_simp;refine(HSl.out _).mono ?_;rintro e w2 ⟨rfl,rfl⟩;exact hK q _ (fun _ _=>rfl) hR
    ·cases ho;go_simp;refine(HT.out _).mono ?_;rintro e w2 ⟨rfl,hb2⟩;exact hK q w2 (fun _ _=>rfl) (hbel w2 hb2)
    ·cases ho;go_simp;refine hK wx.heap.size _ (fun j hj=>?_) ⟨hR.1.below aj,(fun _=>rfl),fun _=>⟨oZ,?_⟩⟩
     ·rcases j with _|_|_|_|_|_|_|_|_|_|_|_|_|_|j
      all_goals first | rfl | (rw[hl] at hj;cases hj)
     ·have h12:l 12=false:=by
       cases h:l 12 with
       | false=>rfl
       | true=>have:=hR.2.1 h;rw[hl] at this;cases this
      rw[if_neg (by show ¬ ((12==10||l 12)=true);rw[h12];decide)];exact nZ _ _
    ·cases ho;have h10:=he ⟨10,.data⟩ sZ rfl;obtain⟨hq1,hq2⟩:=hR.2.2 h10;rw[if_neg lZ] at hq2;refine wp_store_row 40 (.tmp 17) (.tmp 40) rfl q (six V) rfl rfl 40 _ hq2 (af _) (aS _ _) (aQ _) ?_;exact hK q _ (fun _ _=>rfl) ⟨hR.1.other hq1 _,(fun _=>h10),fun _=>⟨hq1,setRow_heap _ _ _ _ _ _ hq2⟩⟩
    ·simp at ho
   ·intro q l wx hl hR;have h10:=hl 10 dZ;have h12:=hl 12 dZ;obtain⟨hq1,hq2⟩:=hR.2.2 h10;rw[if_pos h12] at hq2;have HR1:=hJ hR.1;have HQ2:=hJ hq2;clear hR hq2 HP HSl HT;go_wp2_with fail
    go_meet
    exact⟨q,rfl,rfl,rfl,hq1,HQ2,HR1⟩
  case rest =>
   clear HP HSl HT;obtain⟨q,rfl,rfl,rfl,hq1,HQ2,HP⟩:=hcut
   go_wp2_with (first
    | (refine yZ rfl 40 (.tmp 17) rfl q rfl 40 (six V) (0,0) _ HQ2.out Tryz.underlying40 rfl (af _) ?_)
    | (refine zZ rfl 40 (.tmp 7) (.tmp 54) rfl (w.heap.size+1) (six V) rfl rfl 40 (six Us) HP.out.box.u (af _) (aS _ _) (aQ _) ?_;have HP7:=hJ (HP.out.used V);have f1:=HP7.out.row.cell (a:=a+1) (by rw[HEn.out];exact z1);have f2:=HP7.out.row.frozen (a+1))
    | fail)
   have HP8:=hJ (HP7.out.set (a:=a+1) (by rw[HEn.out];exact z1) v);clear f1 f2 HP HP7 HQ2 HB;generalize (wc.setRow (w.heap.size+1) (six V)).setCell ⟨g,a+1,none⟩ (.int .u32 v)=w5 at HP8 ⊢
   refine aL (fun(_:Unit) j=>[.slice (some ⟨g,0,none⟩) n n,.int .i64 (a:Int),.int .i64 ((a:Int)+1),.agg (six V),.slice (some ⟨g,0,none⟩) n n,.int .i64 ((a:Int)+1),undef,.int .i64 0].getD j undef)
    (fun _ l wx=>PB w B S V C T L g (cs.set (a+1) v) wx/\(l 6=true->wx.heap[w.heap.size+1+1]?=some (.cells (six V) 40 (0,0))))
    kZ kZ pZ () ?_ ?_ ?_
   ·exact⟨HP8.out.below (Below.refl _ _).drew,fun h=>by cases h⟩
   ·intro i o ho q' l wx hR hl he K hK;rcases i with _|_|_|_|_|_|_|_|i
    any_goals first | (cases ho;go_simp;exact hK () wx (fun _ _=>rfl) hR;done) | fail
    ·cases ho;refine wp_load_row 40 (.tmp 7) rfl (w.heap.size+1) rfl 40 (six V) (0,0) _ hR.1.box.u Tryz.underlying40 rfl (af _) ?_;exact hK () wx (fun _ _=>rfl) hR
    ·cases ho;obtain⟨X,hX⟩:=hR.1.box.r;refine wp_store_row 40 (.tmp 12) (.tmp 64) rfl (w.heap.size+1+1) (six V) rfl rfl 40 (six X) hX (af _) (aS _ _) (aQ _) ?_;have hs:=hR.1.answer V;exact hK () _ (fun _ _=>rfl) ⟨hs.1,fun _=>hs.2⟩
    ·simp at ho
   ·intro q' l wx hl hR;have H4:Hid (wx.heap[w.heap.size+1+1]?=some (.cells (six V) 40 (0,0))):=hJ (hR.2 (hl 6 dZ));have HRX:=hJ hR.1;clear hR hl;go_wp2_with fail
    refine tZ (v:=.tuple #[.slice (some ⟨g,0,none⟩) n n,.int .i64 ((a:Int)+1),.agg (six V),.int .i64 0]) (jT rfl _ _ (w.heap.size+1+1) _ _ (0,0) _ _ _ _ rfl rfl rfl rfl H4.out Tryz.underlying40 rfl (af _)) rfl ?_;exact⟨g,by rw[HX.out.1],by rw[HX.out.2];exact HRX.out.row,HRX.out.box.low,by have:=HRX.out.gt;omega⟩
theorem wV (w:World) (oa:Option Addr) (c n:Nat) (cs:List Int) (en:cs.length=n) (hn:n<=1000000) (hU:∀ y∈cs,U y) (ha:bQ .u32 w oa (gQ cs)) {B S:Nat->Int} {C:Int} (hL:Laid B S C) (Us:Nat->Int) (T L t v:Int) (hr:bG B S t) {k:Nat} (hb:bU B S t=some k) (hk4:k<4) (hus:0<=Us k/\Us k<=S k) (hfit:aN k<=S k-Us k) (h0:t≠0) (hv:U v) {q:Nat} {x:su} {cs':List Int} (hd:Does (eP B S Us t v) cs q x cs') :
  Calls Tryz.prog 137 #[.slice oa n c,.agg (ae B S C T L),.agg (six Us),.int .i64 t,.int .u32 v] w fun e w'=>∃ g,e=.returned (.tuple #[.slice (some ⟨g,0,none⟩) n n,.int .i64 x.1,.agg (six x.2.1),.int .i64 0])/\cB w' g cs'/\Below w.heap.size w w'/\w.heap.size<=g:=by
 unfold eP at hd;rw[if_pos hr,hb] at hd;simp only at hd;rw[if_pos hfit,if_neg h0] at hd;have ht:=hL.at_ (hr.resolve_left h0);have htc:=hL.c1;have hut:u32 t=t:=u32_in ⟨oZ,oZ⟩;have hz:jg B S t=(k:Int):=by unfold jg;rw[hb]
 have HRt:=hJ (fun w=>oo hL T L t w);rw[decide_eq_true hr] at HRt;have HBh:=hJ (fun w=>qf hL T L t hr w);rw[hz] at HBh;have HCp:=hJ (fun(w':World) (hb:Below w.heap.size w w')=>lQ w' oa c n cs en hn hU (ha.below hb));have hp6:=hL.pool (show k<6 by omega);have sl0:=dB k;have sl1:=d9 k;have HSl:=hJ (fun w=>iw w k hk4);have HT:=hJ (fun w=>nE w B S Us C T L (aN k) k oZ oZ hus.1 hus.2 oZ hfit oZ oZ);obtain⟨a,hae⟩:∃ a:Nat,B k+Us k=(a:Int):=⟨(B k+Us k).toNat,oZ⟩;obtain⟨V,hV⟩:∃ V,V=more Us k (aN k):=⟨_,rfl⟩;rw[hae,<- hV] at hd HT;obtain⟨s,hs⟩:∃ s,s=aN k:=⟨_,rfl⟩;rw[<- hs] at HT HSl;have s1:IntKind.i64.wrap ((a:Int)+1)=(a:Int)+1:=iZ _ oZ;have hB:=sS.start w B S Us C T L;have hk0:(0:Int)<=(k:Int):=oZ;cases hd with
 | store g1 g2 hd2 =>
  rw[hut] at hd2;cases hd2 with
  | store g3 g4 hd3 =>
   obtain⟨hx,hcs0,_⟩:=hd3.yN;have HX:=hJ (And.intro (show x=((a:Int)+1,V,0) from hx.symm) (show cs'=(cs.set a t).set (a+1) v by rw[hcs0,show ((a:Int)+1).toNat=a+1 by omega,Int.toNat_natCast,u32_in hv]));have HEn:=hJ en;rw[List.length_set] at g4;have z1:a+1<n:=oZ;have z2:(a:Int)+1<(n:Int):=oZ;have z3:a<n:=oZ;have z4:(a:Int)<(n:Int):=oZ;have e0:(t != 0)=true:=by simpa using h0
   have e1:(t==0)=false:=by simpa using h0
   have s3:IntKind.u32.wrap t=t:=hut;clear hd3 hx hcs0 g1 g2 g3 g4 hz hr hb hL hU ha en hv hfit hus hp6 hae hV hs ht htc hut h0;go_enter Tryz.func137,Tryz.ntmps137
   go_upto_region 1 with fail
   have hw:(((w.alloc (.cells (ae B S C T L) 42)).alloc (.cells (six Us) 40)).alloc (.cells #[.int .i64 0,.int .i64 0,.int .i64 0,.int .i64 0,.int .i64 0,.int .i64 0] 40))=(((w.alloc (.cells (ae B S C T L) 42)).alloc (.cells (six Us) 40)).alloc (.cells (six fun _=>0) 40)):=rfl;rw[hw];clear hw;generalize (((w.alloc (.cells (ae B S C T L) 42)).alloc (.cells (six Us) 40)).alloc (.cells (six fun _=>0) 40))=w1 at hB ⊢;have HB:=hJ hB;clear hB;go_wp2_with (refine yZ rfl 42 (.tmp 6) rfl w.heap.size rfl 42 (ae B S C T L) (0,0) _ HB.out.p Tryz.underlying42 rfl (ai _ _ _ _ _) ?_)
   refine(HRt.out _).mono ?_;rintro e w2 ⟨rfl,hb⟩;have HB:=hJ (HB.out.below hb);clear hb HRt;go_wp2_with fail
   refine(HCp.out _ HB.out.low).mono ?_;rintro e w3 ⟨rfl,hrow,hb⟩;have hgt:w.heap.size+1+1<w2.heap.size:=by obtain⟨X,h3⟩:=HB.out.r;exact lt_of_heap h3
   obtain⟨g,hg⟩:∃ g,g=w2.heap.size:=⟨_,rfl⟩;rw[<- hg] at hrow hgt ⊢;have HP:=hJ (show PB w B S Us C T L g cs w3 from⟨HB.out.below hb,hrow,hgt⟩);clear hb hrow HB HCp hg;go_wp2_with (refine yZ rfl 42 (.tmp 6) rfl w.heap.size rfl 42 (ae B S C T L) (0,0) _ HP.out.box.p Tryz.underlying42 rfl (ai _ _ _ _ _) ?_)
   refine(HBh.out _).mono ?_;rintro e w4 ⟨rfl,hb⟩;have HP:=hJ (HP.out.below hb);clear hb HBh;go_upto_region 6 with fail
   go_cut [16,17,18] (fun lv pv ev wx=>∃ q,lv=.int .i64 (a:Int)/\pv=.pointer (some ⟨q,0,none⟩)/\ev=.int .i64 0/\g<q/\Hid (wx.heap[q]?=some (.cells (six V) 40 (0,0)))/\Hid (PB w B S Us C T L g cs wx))
   case first =>
    refine aL (fun(q:Nat) j=>[.agg (ae B S C T L),.agg (six Us),.int .i64 (k:Int),.int .i64 (k:Int),.int .i64 s,.tuple #[.int .i64 (a:Int),.agg (six V),.int .i64 0],.tuple #[.int .i64 (a:Int),.agg (six V),.int .i64 0],.int .i64 (a:Int),.agg (six V),.int .i64 0,.pointer (some ⟨q,0,none⟩),.int .i64 (a:Int),undef,.int .i64 0].getD j undef)
     (fun q l wx=>PB w B S Us C T L g cs wx/\(l 12=true->l 10=true)/\(l 10=true->g<q/\wx.heap[q]?=some (.cells (six (if l 12 then V else fun _=>0)) 40 (0,0))))
     kZ kZ pZ 0 ?_ ?_ ?_
    ·exact⟨HP.out.below (Below.refl _ _).drew,(fun h=>by cases h),fun h=>by cases h⟩
    ·intro i o ho q l wx hR hl he K hK;have hsz:=hR.1.row.lt;have hbel:∀ w2:World,Below wx.heap.size wx w2->PB w B S Us C T L g cs w2/\(l 12=true->l 10=true)/\(l 10=true->g<q/\w2.heap[q]?=some (.cells (six (if l 12 then V else fun _=>0)) 40 (0,0))):=fun w2 hb2=>⟨hR.1.below hb2,hR.2.1,fun h6=>⟨(hR.2.2 h6).1,(hb2.block q (lt_of_heap (hR.2.2 h6).2)).trans (hR.2.2 h6).2⟩⟩;rcases i with _|_|_|_|_|_|_|_|_|_|_|_|_|_|i
     any_goals first | (cases ho;go_simp;exact hK q wx (fun _ _=>rfl) hR;done) | fail
     ·cases ho;exact aP rfl 42 (.tmp 6) rfl w.heap.size rfl 42 (ae B S C T L) (0,0) _ hR.1.box.p Tryz.underlying42 rfl (ai _ _ _ _ _) (hK q wx (fun _ _=>rfl) hR)
     ·cases ho;exact aP rfl 40 (.tmp 7) rfl (w.heap.size+1) rfl 40 (six Us) (0,0) _ hR.1.box.u Tryz.underlying40 rfl (af _) (hK q wx (fun _ _=>rfl) hR)
     ·cases ho;go_simp;refine(HSl.out _).mono ?_;rintro e w2 ⟨rfl,rfl⟩;exact hK q _ (fun _ _=>rfl) hR
     ·cases ho;go_simp;refine(HT.out _).mono ?_;rintro e w2 ⟨rfl,hb2⟩;exact hK q w2 (fun _ _=>rfl) (hbel w2 hb2)
     ·cases ho;go_simp;refine hK wx.heap.size _ (fun j hj=>?_) ⟨hR.1.below aj,(fun _=>rfl),fun _=>⟨oZ,?_⟩⟩
      ·rcases j with _|_|_|_|_|_|_|_|_|_|_|_|_|_|j
       all_goals first | rfl | (rw[hl] at hj;cases hj)
      ·have h12:l 12=false:=by
        cases h:l 12 with
        | false=>rfl
        | true=>have:=hR.2.1 h;rw[hl] at this;cases this
       rw[if_neg (by show ¬ ((12==10||l 12)=true);rw[h12];decide)];exact nZ _ _
     ·cases ho;have h10:=he ⟨10,.data⟩ sZ rfl;obtain⟨hq1,hq2⟩:=hR.2.2 h10;rw[if_neg lZ] at hq2;refine wp_store_row 40 (.tmp 17) (.tmp 40) rfl q (six V) rfl rfl 40 _ hq2 (af _) (aS _ _) (aQ _) ?_;exact hK q _ (fun _ _=>rfl) ⟨hR.1.other hq1 _,(fun _=>h10),fun _=>⟨hq1,setRow_heap _ _ _ _ _ _ hq2⟩⟩
     ·simp at ho
    ·intro q l wx hl hR;have h10:=hl 10 dZ;have h12:=hl 12 dZ;obtain⟨hq1,hq2⟩:=hR.2.2 h10;rw[if_pos h12] at hq2;have HR1:=hJ hR.1;have HQ2:=hJ hq2;clear hR hq2 HP HSl HT;go_wp2_with fail
     go_meet
     exact⟨q,rfl,rfl,rfl,hq1,HQ2,HR1⟩
   case rest =>
    clear HP HSl HT;obtain⟨q,rfl,rfl,rfl,hq1,HQ2,HP⟩:=hcut;have f1:=HP.out.row.cell (a:=a) (by rw[HEn.out];exact z3);have f2:=HP.out.row.frozen a;have HPa:=hJ (HP.out.set (a:=a) (by rw[HEn.out];exact z3) t);have HQa:=hJ ((Below.heap_setCell wc ⟨g,a,none⟩ (.int .u32 t) q (show q≠g by omega)).trans HQ2.out);go_upto_region 11 with fail
    clear f1 f2 HP HQ2;generalize wc.setCell ⟨g,a,none⟩ (.int .u32 t)=wd at HPa HQa ⊢
    go_wp2_with (first
     | (refine yZ rfl 40 (.tmp 17) rfl q rfl 40 (six V) (0,0) _ HQa.out Tryz.underlying40 rfl (af _) ?_)
     | (refine zZ rfl 40 (.tmp 7) (.tmp 54) rfl (w.heap.size+1) (six V) rfl rfl 40 (six Us) HPa.out.box.u (af _) (aS _ _) (aQ _) ?_;have HP7:=hJ (HPa.out.used V);have f1:=HP7.out.row.cell (a:=a+1) (by rw[List.length_set,HEn.out];exact z1);have f2:=HP7.out.row.frozen (a+1))
     | fail)
    have HP8:=hJ (HP7.out.set (a:=a+1) (by rw[List.length_set,HEn.out];exact z1) v);clear f1 f2 HPa HP7 HQa HB;generalize (wd.setRow (w.heap.size+1) (six V)).setCell ⟨g,a+1,none⟩ (.int .u32 v)=w5 at HP8 ⊢
    refine aL (fun(_:Unit) j=>[.slice (some ⟨g,0,none⟩) n n,.int .i64 (a:Int),.int .i64 ((a:Int)+1),.agg (six V),.slice (some ⟨g,0,none⟩) n n,.int .i64 ((a:Int)+1),undef,.int .i64 0].getD j undef)
     (fun _ l wx=>PB w B S V C T L g ((cs.set a t).set (a+1) v) wx/\(l 6=true->wx.heap[w.heap.size+1+1]?=some (.cells (six V) 40 (0,0))))
     kZ kZ pZ () ?_ ?_ ?_
    ·exact⟨HP8.out.below (Below.refl _ _).drew,fun h=>by cases h⟩
    ·intro i o ho q' l wx hR hl he K hK;rcases i with _|_|_|_|_|_|_|_|i
     any_goals first | (cases ho;go_simp;exact hK () wx (fun _ _=>rfl) hR;done) | fail
     ·cases ho;refine wp_load_row 40 (.tmp 7) rfl (w.heap.size+1) rfl 40 (six V) (0,0) _ hR.1.box.u Tryz.underlying40 rfl (af _) ?_;exact hK () wx (fun _ _=>rfl) hR
     ·cases ho;obtain⟨X,hX⟩:=hR.1.box.r;refine wp_store_row 40 (.tmp 12) (.tmp 64) rfl (w.heap.size+1+1) (six V) rfl rfl 40 (six X) hX (af _) (aS _ _) (aQ _) ?_;have hs:=hR.1.answer V;exact hK () _ (fun _ _=>rfl) ⟨hs.1,fun _=>hs.2⟩
     ·simp at ho
    ·intro q' l wx hl hR;have H4:Hid (wx.heap[w.heap.size+1+1]?=some (.cells (six V) 40 (0,0))):=hJ (hR.2 (hl 6 dZ));have HRX:=hJ hR.1;clear hR hl;go_wp2_with fail
     refine tZ (v:=.tuple #[.slice (some ⟨g,0,none⟩) n n,.int .i64 ((a:Int)+1),.agg (six V),.int .i64 0]) (jT rfl _ _ (w.heap.size+1+1) _ _ (0,0) _ _ _ _ rfl rfl rfl rfl H4.out Tryz.underlying40 rfl (af _)) rfl ?_;exact⟨g,by rw[HX.out.1],by rw[HX.out.2];exact HRX.out.row,HRX.out.box.low,by have:=HRX.out.gt;omega⟩
theorem r9 (vc vs:Value) (x:Sx):∀ (j:Nat) (v:Value),(six x.used).toList[j]?=some v->(aH vc vs x)[4+j]?=some v:=by
 intro j v hj;rcases j with _|_|_|_|_|_|j
 ·simpa [six,aH] using hj
 ·simpa [six,aH] using hj
 ·simpa [six,aH] using hj
 ·simpa [six,aH] using hj
 ·simpa [six,aH] using hj
 ·simpa [six,aH] using hj
 ·simp[six] at hj
theorem Eo (a d:Option Addr) (b c e f:Nat) (x:Sx):(aH (.slice a b c) (.slice d e f) x).all (·.oneCell')=true:=by simp[aH,Value.oneCell']
theorem cB.ne {w:World} {g k:Nat} {cs:List Int} (h:cB w g cs) {cc:Array Value} {t:TypeId} (hk:w.heap[k]?=some (.cells cc t (0,0))) (ht:t≠32):g≠k:=by
 rintro rfl;obtain⟨cur,hc,_⟩:=h;rw[hc] at hk;injection hk with hk
 injection hk with _ h5
 exact ht h5.symm
theorem Aq (w:World) (oa:Option Addr) (c n:Nat) (cs:List Int) (en:cs.length=n) (hn:n<=1000000) (hU:∀ y∈cs,U y) (ha:bQ .u32 w oa (gQ cs)) {B S:Nat->Int} {C:Int} (hL:Laid B S C) (Us:Nat->Int) (T L t v:Int) (hr:bG B S t) (hfit:∀ k,bU B S t=some k->k<4/\(0<=Us k/\Us k<=S k)/\aN k<=S k-Us k) (hv:U v) {q:Nat} {x:su} {cs':List Int} (hd:Does (eP B S Us t v) cs q x cs') :
  Calls Tryz.prog 137 #[.slice oa n c,.agg (ae B S C T L),.agg (six Us),.int .i64 t,.int .u32 v] w fun e w'=>∃ g,e=.returned (.tuple #[.slice (some ⟨g,0,none⟩) n n,.int .i64 x.1,.agg (six x.2.1),.int .i64 0])/\cB w' g cs'/\Below w.heap.size w w'/\w.heap.size<=g:=by
 cases hb:bU B S t with
 | none=>exact xc w oa c n cs en hn hU ha hL Us T L t v hr hb hv hd
 | some k =>
  obtain⟨h1,h2,h3⟩:=hfit k hb;by_cases h0:t=0
  ·exact zn w oa c n cs en hn hU ha hL Us T L t v hr hb h1 h2 h3 h0 hv hd
  ·exact wV w oa c n cs en hn hU ha hL Us T L t v hr hb h1 h2 h3 h0 hv hd
structure WB (W:World) (vc vs:Value) (x:Sx) (B S:Nat->Int) (C T L:Int) (tk:Tk) (w:World):Prop where
 st:w.heap[W.heap.size]?=some (.cells (aH vc vs x) 49 (0,0))
 pl:w.heap[W.heap.size+1]?=some (.cells (ae B S C T L) 42 (0,0))
 tk:w.heap[W.heap.size+1+1]?=some (.cells #[.int .u8 tk.1,.string tk.2.1,.int .i64 tk.2.2] 195 (0,0))
 rs:∃ X Y Z,w.heap[W.heap.size+1+1+1]?=some (.cells (aH X Y Z) 49 (0,0))
 low:Below W.heap.size W w
section
variable {W w w':World} {vc vs vc' vs':Value} {x x':Sx} {B S:Nat->Int} {C T L:Int} {tk:Tk}
theorem WB.below (h:WB W vc vs x B S C T L tk w) (hb:Below w.heap.size w w'):WB W vc vs x B S C T L tk w':=by
 obtain⟨h1,h2,h3,⟨X,Y,Z,h4⟩,h5⟩:=h;exact⟨(hb.block _ (lt_of_heap h1)).trans h1,(hb.block _ (lt_of_heap h2)).trans h2,(hb.block _ (lt_of_heap h3)).trans h3,⟨X,Y,Z,(hb.block _ (lt_of_heap h4)).trans h4⟩,ag h5 hb⟩
theorem WB.lt (h:WB W vc vs x B S C T L tk w):W.heap.size+1+1+1<w.heap.size:=by
 obtain⟨X,Y,Z,h4⟩:=h.rs;exact lt_of_heap h4
theorem WB.turn (h:WB W vc vs x B S C T L tk w) (h1:w'.heap[W.heap.size]?=some (.cells (aH vc' vs' x') 49 (0,0))) (h2:∀ j,j≠W.heap.size->w'.heap[j]?=w.heap[j]?) (h3:Below W.heap.size W w'):WB W vc' vs' x' B S C T L tk w':=by
 obtain⟨_,k2,k3,⟨X,Y,Z,k4⟩,_⟩:=h;exact⟨h1,(h2 _ oZ).trans k2,(h2 _ oZ).trans k3,⟨X,Y,Z,(h2 _ oZ).trans k4⟩,h3⟩
theorem WB.cell (h:WB W vc vs x B S C T L tk w) (v:Value):WB W v vs x B S C T L tk (w.setCell ⟨W.heap.size,0,none⟩ v) :=
 h.turn (by rw[heap_setCell_same _ _ _ _ _ _ h.st];rfl) (fun j hj=>Below.heap_setCell w ⟨W.heap.size,0,none⟩ v j hj) (dD h.low (Nat.le_refl _) 0 v)
theorem WB.used (h:WB W vc vs x B S C T L tk w) (V:Nat->Int):WB W vc vs {x with used:=V} B S C T L tk (w.setRow W.heap.size (aH vc vs {x with used:=V})) :=
 h.turn (setRow_heap _ _ _ _ _ _ h.st) (fun _ hj=>qZ _ _ _ _ hj) (below_setRow h.low (Nat.le_refl _) _)
theorem WB.far (h:WB W vc vs x B S C T L tk w) {k:Nat} (hk:W.heap.size+1+1+1<k) (h2:∀ j,j≠k->w'.heap[j]?=w.heap[j]?) (h3:Below W.heap.size W w'):WB W vc vs x B S C T L tk w':=by
 obtain⟨k1,k2,k3,⟨X,Y,Z,k4⟩,_⟩:=h;exact⟨(h2 _ oZ).trans k1,(h2 _ oZ).trans k2,(h2 _ oZ).trans k3,⟨X,Y,Z,(h2 _ oZ).trans k4⟩,h3⟩
end
structure R9 (W:World) (vc vs:Value) (x:Sx) (B S:Nat->Int) (C T L:Int) (tk:Tk) (wA:World) (cs2:List Int) (V2:Nat->Int) (p:Nat×Nat) (l:Nat->Bool) (wx:World):Prop where
 wb:WB W vc vs x B S C T L tk wx
 low:Below wA.heap.size wA wx
 row:l 13=true->cB wx p.1 cs2/\W.heap.size<=p.1
 d14:l 14=true->l 13=true
 d15:l 15=true->l 13=true
 d20:l 20=true->l 13=true
 d22:l 22=true->l 19=true
 q:l 19=true->wA.heap.size<=p.2/\wx.heap[p.2]?=some (.cells (six (if l 22 then V2 else fun _=>0)) 40 (0,0))
theorem vg (w:World) (gr orr c1 n:Nat) (cs1:List Int) (en:cs1.length=n) (hn:n<=1000000) (hU:∀ y∈cs1,U y) (ha:bQ .u32 w (some ⟨gr,orr,none⟩) (gQ cs1)) (og:Option Addr) (gn gc:Nat) (x1:Sx) {B S:Nat->Int} {C:Int} (hL:Laid B S C) (m:Nat) (L s:Int) (d:Int) (tk:Tk) (m0:1<=m) (m1:m<=1000000) (s0:0<=s) (s1:s<=1000000) (d0:0<=d) (d1:d<=1000000) (tk0:0<=tk.1/\tk.1<=255) (tk1:tk.2.1.size<=100) (tk2:0<=tk.2.2/\tk.2.2<=1000000)
  {slot:Int} {r:Nat} (hr0:r≠0) (hrn:r<n) {q1:Nat} (hf:Does (fR s m (aM tk) m 0) cs1 q1 ((r:Int),slot) cs1) {t wd:Int} (ht:cs1.getD r 0=t) (hwd:dV d tk.2.2=wd) (hwu:U wd) (hr:bG B S t) (hfit:∀ k,bU B S t=some k->k<4/\(0<=x1.used k/\x1.used k<=S k)/\aN k<=S k-x1.used k) {q2:Nat} {z:su} {cs2:List Int} (hd:Does (eP B S x1.used t wd) cs1 q2 z cs2) :
  Calls Tryz.prog 98 #[.agg (aH (.slice (some ⟨gr,orr,none⟩) n c1) (.slice og gn gc) x1),.agg (ae B S C (m:Int) L),.int .i64 s,.int .i64 d,.agg #[.int .u8 tk.1,.string tk.2.1,.int .i64 tk.2.2]] w fun e w'=>∃ g,e=.returned (.agg (aH (.slice (some ⟨g,0,none⟩) n n) (.slice og gn gc) {x1 with used:=z.2.1}))/\cB w' g (cs2.set r (u32 z.1))/\w.heap.size<=g/\Below w.heap.size w w':=by
 obtain⟨T,hT⟩:∃ T:Int,T=(m:Int):=⟨_,rfl⟩;rw[<- hT];have hkb:=iE tk0.1 tk0.2
 have hkl:(ay (aM tk)).size<=1000:=by
  have h1:=congrArg List.length (aX (aM tk) hkb);rw[aD] at h1;rw[h1];unfold aM;rw[List.length_cons,aD];omega
 have HKey:=hJ (fun w=>yH w tk.1 tk.2.1 tk0.1 tk0.2 oZ);rw[show (tk.1.toNat :: ax tk.2.1)=aM tk from rfl] at HKey;have hfk:=hf;rw[<- aX (aM tk) hkb] at hfk;have HFind0:=hJ (fun(w':World) (hb:Below w.heap.size w w')=>sj w' (some ⟨gr,orr,none⟩) c1 n cs1 en hU (ha.below hb) s m s0 s1 m0 m1 (ay (aM tk)) hkl hfk);rw[<- hT] at HFind0;have HFind:=hJ (fun(w':World) (hb:Below w.heap.size w w')=>HFind0.out w' hb);have HPut0:=hJ (fun(w':World) (hb:Below w.heap.size w w')=>Aq w' (some ⟨gr,orr,none⟩) c1 n cs1 en hn hU (ha.below hb) hL x1.used T L t wd hr hfit hwu hd);obtain⟨K,hK⟩:∃ K,K=ay (aM tk):=⟨_,rfl⟩;rw[<- hK] at HKey HFind;have HWord:=hJ (fun w=>Bt w d tk.2.2 oZ oZ oZ oZ);rw[hwd] at HWord;obtain⟨y,hy,hy2,hy3⟩:=jG hU (show r<cs1.length by omega);obtain⟨gr',orr',he,hcell⟩:=ha r y hy;injection he with he
 injection he with he1 he2 _
 subst he1 he2;rw[<- hy2,ht] at hcell;have HCell0:=hJ hcell;have ht0:0<=t/\t<=4294967295:=by rw[<- ht,hy2];omega
 obtain⟨t0,t1⟩:=ht0;have s7:IntKind.i64.wrap t=t:=iZ _ oZ;have s8:IntKind.u32.wrap z.1=u32 z.1:=rfl;have hr1:((r:Int)==0)=false:=by simpa using hr0
 have hrn1:(r:Int)<(n:Int):=oZ;have HE2:=hJ (show cs2.length=n by rw[hd.len,en]);have HTm:=hJ hT;clear hT hkl hf hfk ha hL hd hU en hy hy2 hy3 hcell ht hwd hwu hr hfit hK hkb;go_enter Tryz.func98,Tryz.ntmps98
 go_upto_region 1 with fail
 obtain⟨w0,hw0⟩:∃ w0,w0=(((w.alloc (.cells (aH (.slice (some ⟨gr,orr,none⟩) n c1) (.slice og gn gc) x1) 49)).alloc (.cells (ae B S C T L) 42)).alloc (.cells #[.int .u8 tk.1,.string tk.2.1,.int .i64 tk.2.2] 195)).alloc (.cells (aH (.slice none 0 0) (.slice none 0 0) ⟨[],0,0,fun _=>0⟩) 49):=⟨_,rfl⟩;rw[show (((w.alloc (.cells (aH (.slice (some ⟨gr,orr,none⟩) n c1) (.slice og gn gc) x1) 49)).alloc (.cells (ae B S C T L) 42)).alloc (.cells #[.int .u8 tk.1,.string tk.2.1,.int .i64 tk.2.2] 195)).alloc (.cells #[.slice none 0 0,.slice none 0 0,.int .i64 0,.int .u32 0,.int .i64 0,.int .i64 0,.int .i64 0,.int .i64 0,.int .i64 0,.int .i64 0] 49)=w0 from hw0.symm]
 have HW0:=hJ (show WB w (.slice (some ⟨gr,orr,none⟩) n c1) (.slice og gn gc) x1 B S C T L tk w0 by
  rw[hw0];refine⟨?_,?_,?_,⟨.slice none 0 0,.slice none 0 0,⟨[],0,0,fun _=>0⟩,?_⟩,?_⟩
  ·exact(Below.heap_alloc _ _ _ uZ).trans (dN _ _ _ _)
  ·exact(Below.heap_alloc _ _ _ sZ).trans (dM _ _ _ _)
  ·exact(Below.heap_alloc _ _ _ sZ).trans (dS _ _ _ _)
  ·have:=nZ (((w.alloc (.cells (aH (.slice (some ⟨gr,orr,none⟩) n c1) (.slice og gn gc) x1) 49)).alloc (.cells (ae B S C T L) 42)).alloc (.cells #[.int .u8 tk.1,.string tk.2.1,.int .i64 tk.2.2] 195)) (.cells (aH (.slice none 0 0) (.slice none 0 0) ⟨[],0,0,fun _=>0⟩) 49);simpa using this
  ·exact bi.alloc uZ _)
 clear hw0;have c0:w0.cell? ⟨w.heap.size+1+1,0,none⟩=some (.int .u8 tk.1):=aa HW0.out.tk 0;have c1:w0.cell? ⟨w.heap.size+1+1,1,none⟩=some (.string tk.2.1):=aa HW0.out.tk 1;go_wp2_with fail
 refine(HKey.out _).mono ?_;rintro e wA ⟨rfl,hb⟩;have HWB:=hJ (HW0.out.below hb);clear hb HKey HW0 c0 c1;have k0:wA.cell? ⟨w.heap.size,0,none⟩=some (.slice (some ⟨gr,orr,none⟩) n c1):=aa HWB.out.st 0;have k1:wA.cell? ⟨w.heap.size+1,13,none⟩=some (.int .i64 T):=aa HWB.out.pl 13;go_wp2_with fail
 refine(HFind.out _ HWB.out.low).mono ?_;rintro e wB ⟨rfl,hb⟩;have HWB:=hJ (HWB.out.below hb);have HRd:=hJ HWB.out.low;have HPut:Hid (∀ w',Below wB.heap.size wB w'->Calls Tryz.prog 137 #[.slice (some ⟨gr,orr,none⟩) n c1,.agg (ae B S C T L),.agg (six x1.used),.int .i64 t,.int .u32 wd] w' fun e w2=>∃ g,e=.returned (.tuple #[.slice (some ⟨g,0,none⟩) n n,.int .i64 z.1,.agg (six z.2.1),.int .i64 0])/\cB w2 g cs2/\Below w'.heap.size w' w2/\w'.heap.size<=g):=hJ (fun w' hb2=>HPut0.out w' (ag HWB.out.low hb2));have HCell:=hJ (az HCell0.out HWB.out.low);obtain⟨wA2,hwA⟩:∃ wA2,wA2=wB:=⟨_,rfl⟩;rw[<- hwA] at HWB HRd HPut HCell ⊢;clear hb HFind k0 k1 hwA HPut0 HFind0 HCell0;have cpos:wA2.cell? ⟨w.heap.size+1+1,2,none⟩=some (.int .i64 tk.2.2):=aa HWB.out.tk 2;go_wp2_with fail
 refine(HWord.out _).mono ?_;rintro e w8 ⟨rfl,rfl⟩;go_upto_region 9 with fail
 clear cpos;have hwlt:=HWB.out.lt
 refine aL (fun(p:Nat×Nat) j=>[.pointer (some ⟨w.heap.size,0,none⟩),.slice (some ⟨gr,orr,none⟩) n c1,.agg (ae B S C T L),.pointer (some ⟨w.heap.size,1,none⟩),.pointer (some ⟨w.heap.size,4,none⟩),.agg (six x1.used),.pointer (some ⟨w.heap.size,0,none⟩),.slice (some ⟨gr,orr,none⟩) n c1,.int .i64 (r:Int),.pointer (some ⟨gr,orr+r,none⟩),.int .u32 t,.int .i64 t,.int .u32 wd,.tuple #[.slice (some ⟨p.1,0,none⟩) n n,.int .i64 z.1,.agg (six z.2.1),.int .i64 0],.tuple #[.slice (some ⟨p.1,0,none⟩) n n,.int .i64 z.1,.agg (six z.2.1),.int .i64 0],.slice (some ⟨p.1,0,none⟩) n n,.int .i64 z.1,.agg (six z.2.1),.int .i64 0,.pointer (some ⟨p.2,0,none⟩),.slice (some ⟨p.1,0,none⟩) n n,.int .i64 z.1,undef,.int .i64 0].getD j undef)
  (fun p l wx=>R9 w (.slice (some ⟨gr,orr,none⟩) n c1) (.slice og gn gc) x1 B S C T L tk w8 cs2 z.2.1 p l wx)
  kZ kZ pZ (0,0) ?_ ?_ ?_
 ·exact⟨HWB.out.below (Below.refl _ _).drew,(Below.refl _ _).drew,(fun h=>by cases h),(fun h=>by cases h),(fun h=>by cases h),(fun h=>by cases h),(fun h=>by cases h),(fun h=>by cases h)⟩
 ·intro i o ho p l wx hR hl he K hK;rcases i with _|_|_|_|_|_|_|_|_|_|_|_|_|_|_|_|_|_|_|_|_|_|_|_|i
  any_goals first | (cases ho;go_simp;exact hK p wx (fun _ _=>rfl) ⟨hR.wb,hR.low,hR.row,hR.d14,hR.d15,hR.d20,hR.d22,hR.q⟩;done) | fail
  ·cases ho;have q:wx.cell? ⟨w.heap.size,0,none⟩=some (.slice (some ⟨gr,orr,none⟩) n c1):=aa hR.wb.st 0;go_simp;exact hK p wx (fun _ _=>rfl) ⟨hR.wb,hR.low,hR.row,hR.d14,hR.d15,hR.d20,hR.d22,hR.q⟩
  ·cases ho;refine wp_load_row 42 (.tmp 6) rfl (w.heap.size+1) rfl 42 (ae B S C T L) (0,0) _ hR.wb.pl Tryz.underlying42 rfl (ai _ _ _ _ _) ?_;exact hK p wx (fun _ _=>rfl) ⟨hR.wb,hR.low,hR.row,hR.d14,hR.d15,hR.d20,hR.d22,hR.q⟩
  ·cases ho;refine aR 40 (.tmp 76) rfl w.heap.size 4 rfl 49 (aH (.slice (some ⟨gr,orr,none⟩) n c1) (.slice og gn gc) x1) (six x1.used) (0,0) _ hR.wb.st (r9 _ _ _) Tryz.underlying40 rfl (af _) ?_;exact hK p wx (fun _ _=>rfl) ⟨hR.wb,hR.low,hR.row,hR.d14,hR.d15,hR.d20,hR.d22,hR.q⟩
  ·cases ho;have q:wx.cell? ⟨w.heap.size,0,none⟩=some (.slice (some ⟨gr,orr,none⟩) n c1):=aa hR.wb.st 0;go_simp;exact hK p wx (fun _ _=>rfl) ⟨hR.wb,hR.low,hR.row,hR.d14,hR.d15,hR.d20,hR.d22,hR.q⟩
  ·cases ho;have q:=az HCell.out hR.low;go_simp;exact hK p wx (fun _ _=>rfl) ⟨hR.wb,hR.low,hR.row,hR.d14,hR.d15,hR.d20,hR.d22,hR.q⟩
  ·cases ho;go_simp;refine(HPut.out wx hR.low).mono ?_;rintro e w2 ⟨g2,rfl,hrow2,hb2,hg2⟩;refine hK (g2,p.2) w2 (fun j hj=>?_) ⟨hR.wb.below hb2,ag hR.low hb2,fun _=>⟨hrow2,Nat.le_trans hR.wb.low.size hg2⟩,fun _=>rfl,fun _=>rfl,fun _=>rfl,hR.d22,fun h=>⟨(hR.q h).1,(hb2.block _ (lt_of_heap (hR.q h).2)).trans (hR.q h).2⟩⟩;rcases j with _|_|_|_|_|_|_|_|_|_|_|_|_|_|_|_|_|_|_|_|_|_|_|_|j
   all_goals first | rfl | (rw[hl] at hj;cases hj) | (exact absurd (hR.d14 hj) lZ) | (exact absurd (hR.d15 hj) lZ) | (exact absurd (hR.d20 hj) lZ)
  ·cases ho;have h13:=he ⟨13,.data⟩ sZ rfl;go_simp;exact hK p wx (fun _ _=>rfl) ⟨hR.wb,hR.low,hR.row,fun _=>h13,hR.d15,hR.d20,hR.d22,hR.q⟩
  ·cases ho;have h13:=hR.d14 (he ⟨14,.data⟩ sZ rfl);go_simp;exact hK p wx (fun _ _=>rfl) ⟨hR.wb,hR.low,hR.row,hR.d14,fun _=>h13,hR.d20,hR.d22,hR.q⟩
  ·cases ho;go_simp;refine hK (p.1,wx.heap.size) _ (fun j hj=>?_) ⟨hR.wb.below aj,ag hR.low aj,fun h=>⟨(hR.row h).1.below aj,(hR.row h).2⟩,hR.d14,hR.d15,hR.d20,fun _=>rfl,fun _=>⟨hR.low.size,?_⟩⟩
   ·rcases j with _|_|_|_|_|_|_|_|_|_|_|_|_|_|_|_|_|_|_|_|_|_|_|_|j
    all_goals first | rfl | (rw[hl] at hj;cases hj)
   ·have h22:l 22=false:=by
     cases h:l 22 with
     | false=>rfl
     | true=>have:=hR.d22 h;rw[hl] at this;cases this
    rw[if_neg (by show ¬ ((22==19||l 22)=true);rw[h22];decide)];exact nZ _ _
  ·cases ho;have h13:=hR.d15 (he ⟨15,.data⟩ sZ rfl);go_simp;exact hK p wx (fun _ _=>rfl) ⟨hR.wb,hR.low,hR.row,hR.d14,hR.d15,fun _=>h13,hR.d22,hR.q⟩
  ·cases ho;have h19:=he ⟨19,.data⟩ sZ rfl;obtain⟨hq1,hq2⟩:=hR.q h19;rw[if_neg lZ] at hq2;refine wp_store_row 40 (.tmp 23) (.tmp 88) rfl p.2 (six z.2.1) rfl rfl 40 _ hq2 (af _) (aS _ _) (aQ _) ?_;exact hK p _ (fun _ _=>rfl) ⟨hR.wb.far oZ (fun j hj=>qZ _ _ _ _ hj) (below_setRow hR.wb.low oZ _),below_setRow hR.low hq1 _,fun h=>⟨(hR.row h).1.of_block (qZ _ _ _ _ ((hR.row h).1.ne hq2 dZ)),(hR.row h).2⟩,hR.d14,hR.d15,hR.d20,fun _=>h19,fun _=>⟨hq1,setRow_heap _ _ _ _ _ _ hq2⟩⟩
  ·simp at ho
 ·intro p l wx hl hR;obtain⟨g2,qb⟩:=p;have hq:=hR.q (hl 19 dZ);rw[if_pos (hl 22 dZ)] at hq;have HRow:=hJ (show cB wx g2 cs2 from(hR.row (hl 13 dZ)).1);have hge:=(hR.row (hl 13 dZ)).2;have HQ:=hJ (show w8.heap.size<=qb/\wx.heap[qb]?=some (.cells (six z.2.1) 40 (0,0)) from hq);have HW9:=hJ hR.wb;clear hR hl hq HWB HRd HPut HCell HWord;have fa:=HRow.out.frozen r;have ca:=HRow.out.cell (a:=r) (by rw[HE2.out];exact hrn);go_upto_region 11 with fail
  have hgq:g2≠qb:=HRow.out.ne HQ.out.2 dZ;have hgW:g2≠w.heap.size:=HRow.out.ne HW9.out.st dZ
  have hgX:w.heap.size+1+1+1<g2:=by
   have h1:=HRow.out.ne HW9.out.pl dZ;have h2:=HRow.out.ne HW9.out.tk dZ;obtain⟨X,Y,Z,h4⟩:=HW9.out.rs;have h3:=HRow.out.ne h4 dZ;omega
  have HRow2:=hJ (HRow.out.set (a:=r) (by rw[HE2.out];exact hrn) (u32 z.1));have HW10:=hJ (HW9.out.far (w':=wx.setCell ⟨g2,r,none⟩ (.int .u32 (u32 z.1))) hgX (fun j hj=>Below.heap_setCell wx ⟨g2,r,none⟩ (.int .u32 (u32 z.1)) j hj) (dD HW9.out.low oZ r _));have HQ2:=hJ ((Below.heap_setCell wx ⟨g2,r,none⟩ (.int .u32 (u32 z.1)) qb (Ne.symm hgq)).trans HQ.out.2);clear fa ca HW9 HRow;generalize wx.setCell ⟨g2,r,none⟩ (.int .u32 (u32 z.1))=wy at HRow2 HW10 HQ2 ⊢;have hqW:qb≠w.heap.size:=by have:=HQ.out.1;omega
  have f0:=free_at HW10.out.st 0;have c0:wy.cell? ⟨w.heap.size,0,none⟩=some (.slice (some ⟨gr,orr,none⟩) n c1):=aa HW10.out.st 0;have HW11:=hJ (HW10.out.cell (.slice (some ⟨g2,0,none⟩) n n));have HRow3:=hJ (HRow2.out.of_block (Below.heap_setCell wy ⟨w.heap.size,0,none⟩ (.slice (some ⟨g2,0,none⟩) n n) g2 (show g2≠w.heap.size from hgW)));have HQ3:=hJ ((Below.heap_setCell wy ⟨w.heap.size,0,none⟩ (.slice (some ⟨g2,0,none⟩) n n) qb (show qb≠w.heap.size from hqW)).trans HQ2.out);go_upto_region 12 with fail
  clear f0 c0 HW10 HRow2 HQ2;generalize wy.setCell ⟨w.heap.size,0,none⟩ (.slice (some ⟨g2,0,none⟩) n n)=wz at HW11 HRow3 HQ3 ⊢
  go_upto_region 13 with (first
   | (refine yZ rfl 40 (.tmp 23) rfl qb rfl 40 (six z.2.1) (0,0) _ HQ3.out Tryz.underlying40 rfl (af _) ?_)
   | (refine dw rfl 40 (.tmp 99) (.tmp 97) rfl w.heap.size 4 (six z.2.1) rfl rfl 49 (aH (.slice (some ⟨g2,0,none⟩) n n) (.slice og gn gc) x1) (aH (.slice (some ⟨g2,0,none⟩) n n) (.slice og gn gc) {x1 with used:=z.2.1}) HW11.out.st (by simp[six,aH]) (af _) (aQ _) rfl ?_)
   | fail)
  have HW12:=hJ (HW11.out.used z.2.1);have HRow4:=hJ (HRow3.out.of_block (qZ wz w.heap.size g2 (aH (.slice (some ⟨g2,0,none⟩) n n) (.slice og gn gc) {x1 with used:=z.2.1}) hgW));clear HW11 HRow3 HQ3;generalize wz.setRow w.heap.size (aH (.slice (some ⟨g2,0,none⟩) n n) (.slice og gn gc) {x1 with used:=z.2.1})=w13 at HW12 HRow4 ⊢;obtain⟨X,Y,Z,hrs⟩:=HW12.out.rs;have HRs:=hJ hrs;clear hrs
  go_wp2_with (first
   | (refine yZ rfl 49 (.tmp 5) rfl w.heap.size rfl 49 (aH (.slice (some ⟨g2,0,none⟩) n n) (.slice og gn gc) {x1 with used:=z.2.1}) (0,0) _ HW12.out.st Tryz.underlying49 rfl (aG _ _ _) ?_)
   | (refine zZ rfl 49 (.tmp 10) (.tmp 100) rfl (w.heap.size+1+1+1) (aH (.slice (some ⟨g2,0,none⟩) n n) (.slice og gn gc) {x1 with used:=z.2.1}) rfl rfl 49 (aH X Y Z) HRs.out (aG _ _ _) rfl (Eo _ _ _ _ _ _ _) ?_)
   | fail)
  refine tZ (v:=.agg (aH (.slice (some ⟨g2,0,none⟩) n n) (.slice og gn gc) {x1 with used:=z.2.1})) (jS rfl _ _ (w.heap.size+1+1+1) _ _ (0,0) _ rfl (setRow_heap _ _ _ _ _ _ HRs.out) Tryz.underlying49 rfl (aG _ _ _)) rfl ?_;exact⟨g2,rfl,HRow4.out.of_block (qZ _ _ _ _ oZ),hge,below_setRow HW12.out.low oZ _⟩
end Go.Proofs.YtafaohnhlgcnpaaGreatDoor
