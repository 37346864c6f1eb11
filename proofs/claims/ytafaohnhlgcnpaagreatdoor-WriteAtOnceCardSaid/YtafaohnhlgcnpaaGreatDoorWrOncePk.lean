/-
 What stage 12 rests on.
-/
import Derived.Test.YtafaohnhlgcnpaaGreatDoorWrAlM1
import Derived.Test.YtafaohnhlgcnpaaGreatDoorWrOnceQPk
set_option maxRecDepth 100000
set_option maxHeartbeats 16000000
namespace Go.Proofs.YtafaohnhlgcnpaaGreatDoor
open Go.RowKit
def KI (w W:World) (Wb mb mc dd:Nat) (tt:Int) (ss:Nat->Int) (bk rm:Int) (kf bf:Nat) (B S:Nat->Int) (C L:Int) (m n i:Nat):Prop :=
 ∃ nd cs x d l s og og2 gc gc2 gz,DW w W Wb mb mc dd tt ss bk rm kf bf B S C L m n nd cs x d l s og og2 gc gc2 gz/\l+s<=3+510000*(i:Int)/\x.bT<=(i:Int)
theorem KI.under {w W W':World} {Wb mb mc dd:Nat} {tt:Int} {ss:Nat->Int} {bk rm:Int} {kf bf:Nat} {B S:Nat->Int} {C L:Int} {m n i:Nat} (h:KI w W Wb mb mc dd tt ss bk rm kf bf B S C L m n i) (hb:Below W.heap.size W W'):KI w W' Wb mb mc dd tt ss bk rm kf bf B S C L m n i:=by
 obtain⟨nd,cs,x,d,l,s,og,og2,gc,gc2,gz,hD,h1,h2⟩:=h;exact⟨nd,cs,x,d,l,s,og,og2,gc,gc2,gz,hD.under hb,h1,h2⟩
theorem KI.low {w W:World} {Wb mb mc dd:Nat} {tt:Int} {ss:Nat->Int} {bk rm:Int} {kf bf:Nat} {B S:Nat->Int} {C L:Int} {m n i:Nat} (h:KI w W Wb mb mc dd tt ss bk rm kf bf B S C L m n i):Below w.heap.size w W:=by
 obtain⟨nd,cs,x,d,l,s,og,og2,gc,gc2,gz,hD,h1,h2⟩:=h;exact hD.low
theorem GH {w:World} {b n cap:Nat} {e:TypeId} {ar:Option Addr} {vs:List Value} {u:Value} (h:w.ownsRow b e 1 (.slice ar 1 cap) n vs) (hu:vs[0]?=some u):∃ gr,ar=some ⟨gr,0,none⟩/\w.cell? ⟨gr,0,none⟩=some u:=by
 rcases h.2 with ⟨e,_⟩ | ⟨g',cap',cur,e,_⟩
 ·cases e
 ·injection e with e1 e2 e3
  subst e1;have:=World.ownsRow.cells h (g:=g') rfl 0 u hu;exact⟨g',rfl,by simpa [Addr.add] using this⟩
theorem Lg (w:World) (hT:dE w) (d t:Int) (ss:Nat->Int) (bk rm:Int) (kf bf:Nat) (oa:Option Addr) (c N:Nat) (l:List J5) (en:l.length=N) (ha:jm w oa l) (hc:N<=c) (hm:c<=maxLen) (hs:∀ x∈l,y7 x) :
  Calls Tryz.prog 4 #[.agg (au d t ss bk rm kf bf),.slice oa N c] w fun e w'=>e=.returned (.bool true)/\Below w.heap.size w w':=by
 have HT:=hJ hT;have HA:=hJ ha;have HS:=hJ hs;have HN:=hJ en;have HC:=hJ (And.intro hc hm);clear hT ha hs en hc hm;go_enter Tryz.func4,Tryz.ntmps4
 go_upto_region 1 with fail
 have hb0:=aj (w:=w) (A:=.cells (au d t ss bk rm kf bf) 25);have hc0:=nZ w (.cells (au d t ss bk rm kf bf) 25);generalize w.alloc (.cells (au d t ss bk rm kf bf) 25)=w0 at hb0 hc0 ⊢;have HB0:=hJ hb0;have HC0:=hJ hc0;clear hb0 hc0
 go_wp2_with (first
  | (refine yZ rfl 25 (.tmp 2) rfl w.heap.size rfl 25 (au d t ss bk rm kf bf) (0,0) _ HC0.out Tryz.underlying25 rfl (dQ _ _ _ _ _ _ _) ?_)
  | fail)
 refine(Fp w0 d t ss bk rm kf bf).mono ?_;rintro e w1 (⟨rfl,hb⟩ | ⟨dd,n,an,ln,m,Wb,mb,mc,og,og2,gc,gc2,gz,rfl,hK,rfl,hD⟩)
 ·have HB1:=hJ (ag HB0.out hb);clear hb;have hT1:=HT.out.below HB1.out;have Xx:=hJ (nX w1 hT1);clear hT1;go_wp2_with fail
  refine Xx.out.mono ?_;rintro e w2 ⟨rfl,hb⟩;have HB2:=hJ (ag HB1.out hb);clear hb;go_wp2_with fail
  go_ret;exact⟨rfl,HB2.out⟩
 ·have HK:=hJ hK;have HP:=hJ (show KI w0 w1 Wb mb mc dd t ss bk rm kf bf (aA (aB ss bk rm)) (aB ss bk rm) (n:Int) (ln:Int) m n 0 from⟨0,_,_,_,0,3,og,og2,gc,gc2,gz,hD,oZ,by simp[aY]⟩);have HT0:=hJ (HT.out.below HB0.out);have HA0:=hJ (HA.out.below HB0.out);clear hK hD;generalize aA (aB ss bk rm)=B at HK HP;generalize aB ss bk rm=S at HK HP;have HA1:=hJ ((Below.stays HP.out.low).ops HA0.out);go_wp2_with fail
  refine(G9 w1 oa c N l HN.out HA1.out HC.out.1 HC.out.2 HS.out).mono ?_;rintro e w2 ⟨ob,k,cc,rfl,hkN,hkc,hro,hb⟩;have Zj:=hJ (HP.out.under hb);have HR:=hJ (hro w0 HA0.out);have HKn:=hJ (And.intro hkN hkc);clear hb hro;have hkN2:=HKn.out.1;go_wp2_with fail
  go_loopw [42] (fun iv wr=>∃ i:Nat,i<=k/\i<=9/\iv=.int .i64 (i:Int)/\KI w0 wr Wb mb mc dd t ss bk rm kf bf B S (n:Int) (ln:Int) m n i) (fun iv _=>k-(intOf iv).toNat)
  case atStart=>exact⟨0,oZ,oZ,rfl,Zj.out⟩
  case round =>
   obtain⟨i,hi,hi9,rfl,hp⟩:=hrel;have Za:=hJ hp;clear hp;by_cases hlt:i<k
   ·have hlt1:(i:Int)<(k:Int):=oZ;obtain⟨x,hx⟩:∃ x,l[i]?=some x:=⟨_,gZ (by rw[HN.out];omega)⟩;obtain⟨⟨hd0,hd1⟩,hlen,hsz⟩:=HS.out x (List.mem_of_getElem? hx);obtain⟨g,o,hoa,c0,c1,p,c2,pa,pc,rfl,p4⟩:=HR.out i x (by rw[List.getElem?_take_of_lt hlt];exact hx);subst hoa;have hst:=Below.stays Za.out.low;have c0:=hst.cell (Nat.le_refl _) c0;have c1:=hst.cell (Nat.le_refl _) c1;have c2:=hst.cell (Nat.le_refl _) c2;obtain⟨del,id,F⟩:=x;simp only at hd0 hd1 hlen hsz c0 c1 c2 p4;have HId:=hJ (show U id from⟨hd0,hd1⟩);have HLen:=hJ (show F.length<=140737488355328 by unfold reachBytes at hlen;omega);have HSz:=hJ (show ∀ f∈F,f.size<=4611686018427387904 from fun f hf=>Nat.le_trans (hsz f hf) (by unfold reachBytes;omega));have HF:=hJ p4;clear hd0 hd1 hlen hsz p4 hst hx;go_upto_region 7 with fail
    have hop:=nZ wr (.cells #[.bool del,.int .u32 id,.slice pa F.length pc] 37);have hbo:=aj (w:=wr) (A:=.cells #[.bool del,.int .u32 id,.slice pa F.length pc] 37);obtain⟨qb,hqb⟩:∃ qb,wr.heap.size=qb:=⟨_,rfl⟩;have Zb:=hJ hop;have Xp:=hJ (Za.out.under hbo);generalize wr.alloc (.cells #[.bool del,.int .u32 id,.slice pa F.length pc] 37)=w3 at Zb Xp ⊢;rw[hqb] at Zb ⊢;clear hop hbo hqb c0 c1 c2;by_cases h30:8<i
    ·have Zk:(8:Int)<(i:Int):=oZ;have Xx:=hJ (nX w3 (HT0.out.below Xp.out.low));go_wp2_with fail
     refine Xx.out.mono ?_;rintro e wz ⟨rfl,hb⟩;have Xy:=hJ (ag HB0.out (ag Xp.out.low hb));clear hb;go_wp2_with fail
     try rw[Exit.noGoto_ret]
     go_ret;exact⟨rfl,Xy.out⟩
    ·have Zk:¬ (8:Int)<(i:Int):=oZ
     go_wp2_with (first
      | (refine kV rfl 37 (.tmp 8) rfl qb rfl 37 #[.bool del,.int .u32 id,.slice pa F.length pc] (0,0) _ Zb.out Tryz.underlying37 rfl (l8 _ _ _) ?_)
      | fail)
     refine(Gf w3 del id pa pc F.length F rfl HLen.out (kS.texts (Below.stays Xp.out.low) HF.out) HSz.out).mono ?_;rintro e w4 ⟨b,rfl,hb,hgr⟩;have HO4:=hJ (ah Zb.out hb);have Zl:=hJ (Xp.out.under hb);have HGr:=hJ hgr;clear hb hgr;cases b with
     | true =>
      have Xx:=hJ (nX w4 (HT0.out.below Zl.out.low));go_wp2_with fail
      refine Xx.out.mono ?_;rintro e wz ⟨rfl,hb⟩;have Xy:=hJ (ag HB0.out (ag Zl.out.low hb));clear hb;go_wp2_with fail
      try rw[Exit.noGoto_ret]
      go_ret;exact⟨rfl,Xy.out⟩
     | false =>
      obtain⟨nd,cs,x,d,l0,s0,og,og2,gc,gc2,gz,hD,hls,hxv⟩:=Zl.out;have HD:=hJ hD;have Zm:=hJ (And.intro hls hxv);have HTr:=hJ (show ∀ wr,(∀ k,k<w4.heap.size->k≠mb->k≠mc->wr.heap[k]?=w4.heap[k]?)->dE wr/\fU wr pa F from fun wr hwr=>⟨kS.tabs (hD.keeps hwr) HT0.out,kS.texts (hD.keeps hwr) HF.out⟩);obtain⟨e0,cs',x',nd',d',p,q,y,hq,hdo,hye,hyx,Xq,Xr,Xt,Yj,hwant⟩:=JS HK.out hD (by have:=Zm.out.2;omega) del id HId.out pa F pc (fun f hf=>Nat.le_trans ((HGr.out rfl).1 f hf) oZ) (Nat.le_trans (HGr.out rfl).2 oZ) HTr.out;have H9:=hJ (And.intro (Xq.trans hD.len) (And.intro Xr Xt));have HDo:=hJ hdo;have HY:=hJ (And.intro hye hyx);have HCl:=hJ Yj;have HWa:=hJ hwant;clear hD hls hxv hdo hye hyx Xq Xr Xt Yj hwant;go_upto_region 8 with fail
      go_upto_region 9 with (first
       | (refine dC rfl 46 (.tmp 55) rfl Wb 26 rfl 51 (aU (au (dd:Int) t ss bk rm kf bf) (ae B S (n:Int) (m:Int) (ln:Int)) (.pointer (some ⟨mb,0,none⟩)) (aO (.slice og 1 gc) x) (aH (.slice (some ⟨gz,0,none⟩) n n) (.slice og2 1 gc2) x)) (aO (.slice og 1 gc) x) (0,0) _ HD.out.box (lD rfl rfl) Tryz.underlying46 rfl (aK _ _) ?_)
       | (refine zZ rfl 46 (.tmp 9) (.tmp 56) rfl w4.heap.size (aO (.slice og 1 gc) x) rfl rfl 46 (aO (.slice none 0 0) aJ) (ed w4 _ _) (aK _ _) rfl (dL _ _ _ _) ?_;obtain⟨w5,Yk⟩:∃ w5,w5=((w4.alloc (.cells (aO (.slice none 0 0) aJ) 46)).alloc (.cells #[.int .i64 0] 52)).setRow w4.heap.size (aO (.slice og 1 gc) x):=⟨_,rfl⟩;rw[show ((w4.alloc (.cells #[.slice none 0 0,.int .i64 0,.int .u32 0,.int .i64 0,.int .i64 0,.int .i64 0,.int .i64 0,.int .i64 0,.int .i64 0] 46)).alloc (.cells #[.int .i64 0] 52)).setRow w4.heap.size (aO (.slice og 1 gc) x)=w5 from Yk.symm];have Zc:=hJ (show w5.heap[w4.heap.size+1]?=some (.cells #[.int .i64 0] 52 (0,0)) by(rw[Yk];exact(qZ _ _ _ _ oZ).trans (eO w4 _ _)));have HW5:=hJ (show w5.heap[w4.heap.size]?=some (.cells (aO (.slice og 1 gc) x) 46 (0,0)) by(rw[Yk];exact setRow_heap _ _ _ _ _ _ (ed w4 _ _)));have HB5:=hJ (show Below w4.heap.size w4 w5 by(rw[Yk];exact below_setRow dh (Nat.le_refl _) _));have qe:=aa Zc.out 0;have fe:=free_at Zc.out 0;clear Yk)
       | fail)
      have Zd:=hJ (dD HB5.out (show w4.heap.size<=w4.heap.size+1 by omega) 0 (.int .i64 0));have Zn:=hJ ((Below.heap_setCell w5 ⟨w4.heap.size+1,0,none⟩ (.int .i64 0) w4.heap.size (show w4.heap.size≠w4.heap.size+1 by omega)).trans HW5.out);have Ze:=hJ (show (w5.setCell ⟨w4.heap.size+1,0,none⟩ (.int .i64 0)).heap[w4.heap.size+1]?=some (.cells #[.int .i64 0] 52 (0,0)) by rw[heap_setCell_same _ _ _ _ _ _ Zc.out];rfl);generalize w5.setCell ⟨w4.heap.size+1,0,none⟩ (.int .i64 0)=w6 at Zd Zn Ze ⊢;clear qe fe HB5 HW5 Zc;obtain⟨wb,hwb⟩:∃ wb,w4.heap.size=wb:=⟨_,rfl⟩;rw[hwb] at Zn Ze ⊢;have HWB:=hJ hwb;clear hwb;have HO6:=hJ (ah HO4.out Zd.out);have HX6:=hJ (ah HD.out.box Zd.out)
      go_upto_region 10 with (first
       | (refine yZ rfl 37 (.tmp 8) rfl qb rfl 37 #[.bool del,.int .u32 id,.slice pa F.length pc] (0,0) _ HO6.out Tryz.underlying37 rfl (l8 _ _ _) ?_)
       | (go_at_call 19;refine(qD w6 (dd:Int) t ss bk rm kf bf (ae B S (n:Int) (m:Int) (ln:Int)) (aH (.slice (some ⟨gz,0,none⟩) n n) (.slice og2 1 gc2) x) rfl (.pointer (some ⟨mb,0,none⟩)) (.slice og 1 gc) rfl x Wb wb (wb+1) del id (.slice pa F.length pc) HX6.out).mono ?_;rintro e w7 ⟨rfl,Xz,hpi,Yl⟩)
       | fail)
      have HB7:=hJ Xz;have HPI:=hJ hpi;have Zo:=hJ (show wb+1<w6.heap.size/\w6.heap.size+1+1+1+1<w7.heap.size from⟨lt_of_heap Ze.out,Yl⟩);have HX7:=hJ (ah HX6.out Xz);have HO7:=hJ (ah HO6.out Xz);have HW7:=hJ (ah Zn.out Xz);have HE7:=hJ (ah Ze.out Xz);have Ym:=hJ (ag Zd.out Xz);clear Xz hpi Yl;have Xu:=hJ (ED.told HD.out HWa.out (by rw[H9.out.2.1.aC];rfl) Ym.out)
      go_upto_region 11 with (first
       | (refine yZ rfl 37 (.tmp 8) rfl qb rfl 37 #[.bool del,.int .u32 id,.slice pa F.length pc] (0,0) _ HO7.out Tryz.underlying37 rfl (l8 _ _ _) ?_)
       | (go_at_call 20;refine Xu.out.mono ?_;rintro e w8 ⟨g8,ao,ac,rfl,Zp,hz8,hs8,hgc,hex⟩)
       | (refine zZ rfl 49 (.tmp 13) (.tmp 65) rfl w8.heap.size (aH (.slice (some ⟨g8,0,none⟩) n n) (.slice ao 1 ac) x') rfl rfl 49 cK (nZ w8 _) (aG _ _ _) rfl cZ ?_)
       | fail)
      rw[World.setRow_alloc_new];have Xa:=aj (w:=w8) (A:=.cells (aH (.slice (some ⟨g8,0,none⟩) n n) (.slice ao 1 ac) x') 49);have Zf:=hJ (nZ w8 (.cells (aH (.slice (some ⟨g8,0,none⟩) n n) (.slice ao 1 ac) x') 49));have Xf:=hJ (ag Zp Xa);have Yf:=hJ (hz8.below Xa);have HS9:=hJ (show bn (w8.alloc (.cells (aH (.slice (some ⟨g8,0,none⟩) n n) (.slice ao 1 ac) x') 49)) w0.heap.size (.slice ao 1 ac) x'.aC from ak hs8 Xa);have Yg:=hJ (And.intro hgc hex);have X0:=Zp.size;generalize w8.alloc (.cells (aH (.slice (some ⟨g8,0,none⟩) n n) (.slice ao 1 ac) x') 49)=w9 at Zf Xf Yf HS9 ⊢;obtain⟨tb,htb⟩:∃ tb,w8.heap.size=tb:=⟨_,rfl⟩;rw[htb] at Zf X0 ⊢;have HTb:=hJ (show w7.heap.size<=tb from X0);have H6:=hJ (ag Ym.out Xf.out);have cm:w9.cell? ⟨Wb,25,none⟩=some (.pointer (some ⟨mb,0,none⟩)):=(aa (ah HD.out.box H6.out) 25).trans (jW rfl rfl);clear Zp hz8 hs8 hgc hex Xa X0 htb Xu
      go_upto_region 12 with (first
       | (go_at_call 21;refine(EZ _ mb).mono ?_;rintro e w10 ⟨rfl,hr,hb⟩)
       | fail)
      have hdd:=HD.out;obtain⟨v1,v2,v3,v4,v5,v6,v7,v8⟩:=hdd.inv.bounds;have hsl:df B dd=B 5+1+4*(dd:Int):=rfl;have Yn:=lt_of_heap hdd.mem.rec_;have Yo:=lt_of_heap hdd.mem.row;have Yp:=lt_of_heap hdd.box;have Yq:=lt_of_heap HO4.out;have Zq:=Zo.out;have Zr:=H6.out.size;have Yr:=Xf.out.size;have Yt:=HWB.out;have htb:=HTb.out
      have hWm:Wb≠mb:=by
       rintro rfl;have h9:=hdd.box.symm.trans hdd.mem.rec_;injection h9 with h9
       injection h9 with _ h9 _
       exact absurd h9 dZ
      have hWc:Wb≠mc:=by
       rintro rfl;have h9:=hdd.box.symm.trans hdd.mem.row;injection h9 with h9
       injection h9 with _ h9 _
       exact absurd h9 dZ
      have hgm:g8≠mb:=Yf.out.ne (ah hdd.mem.rec_ H6.out) dZ;have hg9:=Yf.out.lt;have htl:=lt_of_heap Zf.out;have Yh:=hJ (ah HW7.out Xf.out);have Yi:=hJ (ah HE7.out Xf.out);have X3:=hJ (hdd.mem.below H6.out);have HC:=hJ (HCl.out w9 w6.heap.size wb oZ oZ oZ H6.out Yh.out Yi.out (HPI.out.keep fun k _ hk=>Xf.out.block k hk));have HG:=hJ (gV.new (rb:=w9.heap.size) (S:=CS w9 mb mc) (I:=CI w9 mb mc wb (wb+1)) (w0:=w9) X3.out hdd.l0 hdd.s0 hdd.inv.ws.cu HDo.out hb hr (HC.out.o7 w9 w10 ⟨fun _ _ _ _ _ _=>rfl,Nat.le_refl _,⟨_,Yh.out,rfl⟩,⟨_,Yi.out⟩⟩ hb.size fun k hk hl=>hb.block k hl) rfl);have He:=hJ (show mb<w4.heap.size/\mc<w4.heap.size/\Wb<w4.heap.size/\qb<w4.heap.size/\w4.heap.size=wb/\wb+1<w7.heap.size/\w7.heap.size<=tb/\tb<w9.heap.size/\Wb≠mb/\Wb≠mc/\g8≠mb/\g8<w9.heap.size/\g8≠mc/\w7.heap.size<=w9.heap.size/\q<=500000/\l0+s0<=5000000 from⟨Yn,Yo,Yp,Yq,Yt,oZ,htb,htl,hWm,hWc,hgm,hg9,Yg.out.1,Yr,hq,by have:=Zm.out.1;omega⟩);have Zt:=hJ (show ∀ c,uB B dd nd cs x cs' c->1<c.length from fun c hc=>by have:=hc.1;omega);clear hb hr cm hdd v1 v2 v3 v4 v5 v6 v7 v8 hsl Yn Yo Yp Yq Zq Zr Yr Yt htb hWm hWc hgm hg9 htl hq;obtain⟨caps,Xv⟩:∃ caps,caps=#[Value.pointer (some ⟨w6.heap.size+1,0,none⟩),.pointer (some ⟨w6.heap.size,0,none⟩),.pointer (some ⟨w6.heap.size+1+1+1+1,0,none⟩),.pointer (some ⟨w6.heap.size+1+1,0,none⟩),.pointer (some ⟨w6.heap.size+1+1+1,0,none⟩)]:=⟨_,rfl⟩;rw[<- Xv] at HC ⊢;clear Xv;go_wp2_with fail
      go_loopw [71] (fun iv wr=>∃ j:Nat,j<=q/\j<=6000/\iv=.int .i64 j/\gV w9 w9.heap.size mb mc (CS w9 mb mc) (CI w9 mb mc wb (wb+1)) p y cs' (l0+s0+q+j) q j (uB B dd nd cs x cs') wr) (fun iv _=>6000-(intOf iv).toNat)
      case atStart=>exact⟨0,oZ,oZ,rfl,by rw[Int.natCast_zero,Int.add_zero];exact HG.out⟩
      case round =>
       clear HG;obtain⟨j,hj,hj6,rfl,hg⟩:=hrel;by_cases hl6:j<6000
       ·have hl61:(j:Int)<6000:=oZ;have HSt:=hJ (hg.iI (Nat.le_refl _) HC.out (by have:=He.out;omega) (by have:=He.out;omega));clear hg
        go_upto_region 16 with (first
         | (go_at_call 22;refine HSt.out.mono ?_;rintro e w11 ⟨ov,rfl,ha⟩)
         | fail)
        have HA11:=hJ ha;have Yu:w11.heap[Wb]?=some (.cells (aU (au (dd:Int) t ss bk rm kf bf) (ae B S (n:Int) (m:Int) (ln:Int)) (.pointer (some ⟨mb,0,none⟩)) (aO (.slice og 1 gc) x) (aH (.slice (some ⟨gz,0,none⟩) n n) (.slice og2 1 gc2) x)) 51 (0,0)):=(ha.inv.left Wb (by have:=He.out;omega) (by have:=He.out;omega) (by have:=He.out;omega) (by have:=He.out;omega) (by have:=He.out;omega)).trans (ah HD.out.box H6.out);have cm:w11.cell? ⟨Wb,25,none⟩=some (.pointer (some ⟨mb,0,none⟩)):=(aa Yu 25).trans (jW rfl rfl);have HLo:=hJ (ha.look Zt.out (by have:=He.out;omega) (Nat.le_refl _) (by have:=He.out;omega) (by have:=He.out;omega) (by have:=He.out;omega));clear ha Yu HSt HA11
        go_upto_region 17 with (first
         | (go_at_call 23;refine HLo.out.mono ?_;rintro e w12 ⟨z,c2,l9,s9,rfl,hz,hpc,hcu,Yv,ha2⟩;have Zg:=hJ hz;clear hz)
         | fail)
        clear cm HLo;have HA2:=hJ ha2;have X4:=hJ (show w12.heap[Wb]?=some (.cells (aU (au (dd:Int) t ss bk rm kf bf) (ae B S (n:Int) (m:Int) (ln:Int)) (.pointer (some ⟨mb,0,none⟩)) (aO (.slice og 1 gc) x) (aH (.slice (some ⟨gz,0,none⟩) n n) (.slice og2 1 gc2) x)) 51 (0,0)) from(ha2.inv.left Wb (by have:=He.out;omega) (by have:=He.out;omega) (by have:=He.out;omega) (by have:=He.out;omega) (by have:=He.out;omega)).trans (ah HD.out.box H6.out));have Yw:=hJ ((ha2.inv.left tb (by have:=He.out;omega) (by have:=He.out;have:=lt_of_heap (ah HD.out.mem.rec_ H6.out);omega) (by have:=He.out;omega) (by have:=He.out;omega) (by have:=He.out;omega)).trans Zf.out);have HM12:=hJ Yv;have HZa:=hJ (((HD.out.row.below H6.out)).of_block (ha2.inv.left gz (by have:=HD.out.row.lt;have:=He.out;omega) (HD.out.row.ne HD.out.mem.rec_ dZ) HD.out.zc (by have:=HD.out.row.lt;have:=He.out;omega) (by have:=HD.out.row.lt;have:=He.out;omega)));have HZb:=hJ (Yf.out.of_block (ha2.inv.left g8 (by have:=He.out;omega) (by have:=He.out;omega) (by have:=He.out;omega) (Yf.out.ne Yh.out dZ) (Yf.out.ne Yi.out dZ)));have HSa:=hJ (bn.left (show bn w9 w0.heap.size (.slice og2 1 gc2) x.aC from ak HD.out.segs2 H6.out) ha2.inv.left X3.out.rec_ X3.out.row Yh.out Yi.out);have HSc:=hJ (bn.left (show bn w9 w0.heap.size (.slice og 1 gc) x.aC from ak HD.out.aC H6.out) ha2.inv.left X3.out.rec_ X3.out.row Yh.out Yi.out);have HSb:=hJ (HS9.out.left ha2.inv.left X3.out.rec_ X3.out.row Yh.out Yi.out);have Yx:=hJ (And.intro hcu (Im HD.out.inv H9.out.2.1 H9.out.2.2 hpc));clear ha2 Yv hcu hpc
        go_upto_region 18 with (first
         | (refine dC rfl 49 (.tmp 87) rfl Wb 35 rfl 51 (aU (au (dd:Int) t ss bk rm kf bf) (ae B S (n:Int) (m:Int) (ln:Int)) (.pointer (some ⟨mb,0,none⟩)) (aO (.slice og 1 gc) x) (aH (.slice (some ⟨gz,0,none⟩) n n) (.slice og2 1 gc2) x)) (aH (.slice (some ⟨gz,0,none⟩) n n) (.slice og2 1 gc2) x) (0,0) _ X4.out (lG rfl rfl rfl) Tryz.underlying49 rfl (aG _ _ _) ?_)
         | (refine zZ rfl 49 (.tmp 19) (.tmp 88) rfl w12.heap.size (aH (.slice (some ⟨gz,0,none⟩) n n) (.slice og2 1 gc2) x) rfl rfl 49 cK (nZ w12 _) (aG _ _ _) rfl cZ ?_)
         | fail)
        rw[World.setRow_alloc_new];have Xn:=aj (w:=w12) (A:=.cells (aH (.slice (some ⟨gz,0,none⟩) n n) (.slice og2 1 gc2) x) 49);have Xi:=hJ (nZ w12 (.cells (aH (.slice (some ⟨gz,0,none⟩) n n) (.slice og2 1 gc2) x) 49));generalize w12.alloc (.cells (aH (.slice (some ⟨gz,0,none⟩) n n) (.slice og2 1 gc2) x) 49)=w13 at Xn Xi ⊢;obtain⟨ub,hub⟩:∃ ub,w12.heap.size=ub:=⟨_,rfl⟩;rw[hub] at Xi ⊢;have HUb:=hJ hub;have Yy:=hJ Xn;have X5:=hJ (ah Yw.out Xn);clear hub Xn;obtain⟨bb,hbb⟩:∃ bb:Bool,bb=decide (z=x'.bT/\z≠x.bT):=⟨_,rfl⟩;go_frame;go_cut [71,100] from 71 to 150 (fun iv bv wx=>iv=.int .i64 (j:Int)/\bv=.bool bb/\∃ t,wx=w13.drewN t)
        case first =>
         have q1:w13.cell? ⟨tb,3,none⟩=some (.int .u32 x'.bT):=aa X5.out 3;have q2:w13.cell? ⟨ub,3,none⟩=some (.int .u32 x.bT):=aa Xi.out 3;by_cases h1:z=x'.bT
         ·have h1b:(z==x'.bT)=true:=by simp[h1]
          by_cases h2:z=x.bT
          ·have h2b:(z != x.bT)=false:=by simp[h2]
           have h3:(x'.bT != x.bT)=false:=by simp[<- h1,h2]
           have Yz:bb=false:=by rw[hbb];exact decide_eq_false fun h=>h.2 h2
           go_wp2_with fail
           go_meet
           case rel=>exact⟨rfl,by rw[Yz],0,rfl⟩
          ·have h2b:(z != x.bT)=true:=by simp[h2]
           have Yz:bb=true:=by rw[hbb];exact decide_eq_true ⟨h1,h2⟩
           have h3:(x'.bT != x.bT)=true:=by simp[<- h1,h2]
           go_wp2_with fail
           go_meet
           case rel=>exact⟨rfl,by rw[Yz],0,rfl⟩
         ·have h1b:(z==x'.bT)=false:=by simp[h1]
          have Yz:bb=false:=by rw[hbb];exact decide_eq_false fun h=>h1 h.1
          go_wp2_with fail
          go_meet
          case rel=>exact⟨rfl,by rw[Yz],0,rfl⟩
        case rest =>
         obtain⟨rfl,rfl,tq,rfl⟩:=hcut;have Xo:Below w13.heap.size w13 (w13.drewN tq):=dm (Below.refl _ _) _;have Xj:=hJ (ah Xi.out Xo);have X6:=hJ (ah X5.out Xo);have Xk:=hJ (ag Yy.out Xo);generalize w13.drewN tq=w14 at Xj X6 Xk ⊢
         have Y0:=hJ (show bb=false->∀ wx,Below w12.heap.size w12 wx->wx.heap[ub]?=some (.cells (aH (.slice (some ⟨gz,0,none⟩) n n) (.slice og2 1 gc2) x) 49 (0,0))->xJ w0 ub n dd (B 5) z c2 wx from fun h wx hb hu=>by
          rw[hbb] at h;have h:=of_decide_eq_false h;obtain⟨h1,⟨h2,h3⟩ | ⟨h2,h3,h4⟩⟩:=Yx.out.2
          ·rw[<- Zg.out] at h2;exact⟨gz,og2,gc2,x,cs,nd,hu,HZa.out.below hb,ak HSa.out hb,HD.out.inv.aC,h2.symm,HD.out.len,HD.out.inv.ws.cu,HD.out.inv.nd_,by rw[h2];exact h3⟩
          ·rw[<- Zg.out] at h2;exact absurd ⟨h2,by rw[h2];exact h3⟩ h)
         have Xw:=hJ (show bb=true->∀ wx,Below w12.heap.size w12 wx->wx.heap[ub]?=some (.cells (aH (.slice (some ⟨g8,0,none⟩) n n) (.slice ao 1 ac) x') 49 (0,0))->xJ w0 ub n dd (B 5) z c2 wx from fun h wx hb hu=>by
          rw[hbb] at h;have h:=of_decide_eq_true h;obtain⟨h1,⟨h2,h3⟩ | ⟨h2,h3,h4⟩⟩:=Yx.out.2
          ·rw[<- Zg.out] at h2;exact absurd h2 h.2
          ·rw[<- Zg.out] at h2;exact⟨g8,ao,ac,x',cs',nd',hu,HZb.out.below hb,ak HSb.out hb,H9.out.2.1.aC,h2.symm,H9.out.1,H9.out.2.1.ws.cu,H9.out.2.1.nd_,by rw[h2];exact h4⟩)
         clear hbb Xo Xi X5 Yy;go_upto_if 100 with fail
         go_cut [71] from 71 to 150 (fun iv wx=>iv=.int .i64 (j:Int)/\Below w12.heap.size w12 wx/\xJ w0 ub n dd (B 5) z c2 wx)
         case first =>
          cases bb with
          | false =>
           go_wp2_with fail
           go_meet
           case rel=>exact⟨rfl,Xk.out,Y0.out (by trivial) _ Xk.out Xj.out⟩
          | true =>
           go_wp2_with (first
            | (refine yZ rfl 49 (.tmp 13) rfl tb rfl 49 (aH (.slice (some ⟨g8,0,none⟩) n n) (.slice ao 1 ac) x') (0,0) _ X6.out Tryz.underlying49 rfl (aG _ _ _) ?_)
            | (refine zZ rfl 49 (.tmp 19) (.tmp 101) rfl ub (aH (.slice (some ⟨g8,0,none⟩) n n) (.slice ao 1 ac) x') rfl rfl 49 (aH (.slice (some ⟨gz,0,none⟩) n n) (.slice og2 1 gc2) x) Xj.out (aG _ _ _) rfl cZ ?_)
            | fail)
           go_meet
           case rel =>
            have hb:=below_setRow Xk.out (Nat.le_of_eq HUb.out) (aH (.slice (some ⟨g8,0,none⟩) n n) (.slice ao 1 ac) x');exact⟨rfl,hb,Xw.out (by trivial) _ hb (setRow_heap _ _ _ _ _ _ Xj.out)⟩
         case rest =>
          obtain⟨rfl,hb,Y1⟩:=hcut;have Y2:=hJ hb;have HWs:=hJ Y1;clear hb Y1 Y0 Xw Xj X6 Xk;obtain⟨gw,aw,acw,xw,csw,ndw,u1,u2,u3,u4,u5,u6⟩:=HWs.out;have q2:wc.cell? ⟨ub,3,none⟩=some (.int .u32 z):=by rw[<- u5];exact aa u1 3
          clear u1 u2 u3 u4 u5 u6;go_upto_region 22 with fail
          clear q2;go_cut [71,112] from 71 to 150 (fun iv bv wx=>iv=.int .i64 (j:Int)/\∃ b2:Bool,bv=.bool b2/\∃ t,wx=wc.drewN t)
          case first =>
           obtain⟨r5,hr5⟩:∃ r5,r5=j % 5:=⟨_,rfl⟩;have z1:(j:Int) % 5=(r5:Int):=oZ;have z2:(j:Int).tmod 5=(r5:Int):=by rw[Int.tmod_eq_emod_of_nonneg oZ];exact z1
           have z3:IntKind.i64.wrap (r5:Int)=(r5:Int):=iZ _ oZ;clear hr5;cases ov with
           | true =>
            go_wp2_with fail
            go_meet
            case rel=>exact⟨rfl,true,rfl,0,rfl⟩
           | false =>
            go_wp2_with fail
            go_meet
            case rel=>exact⟨rfl,_,rfl,0,rfl⟩
          case rest =>
           obtain⟨rfl,b2,rfl,tq2,rfl⟩:=hcut;have X7:Below wc.heap.size wc (wc.drewN tq2):=dm (Below.refl _ _) _;have Xg:=hJ (ag Y2.out X7);have X8:=hJ (HWs.out.below X7);generalize wc.drewN tq2=w16 at Xg X8 ⊢;clear X7 HWs Y2;go_upto_if 112 with fail
           go_cut [71] from 71 to 150 (fun iv wx=>iv=.int .i64 (j:Int)/\Below w12.heap.size w12 wx)
           case first =>
            cases b2 with
            | false =>
             go_wp2_with fail
             go_meet
             case rel=>exact⟨rfl,Xg.out⟩
            | true =>
             obtain⟨gw,aw,acw,xw,csw,ndw,u1,u2,u3,u4,u5,u6,u7,u8,u9⟩:=X8.out;obtain⟨gb,ob,rfl,k1,k2,k3⟩:=u3.reads 0 (B 5,(ndw:Int),false) (by rw[u4];rfl);have c1:w16.cell? ⟨ub,1,none⟩=some (.slice (some ⟨gb,ob,none⟩) 1 acw):=aa u1 1;obtain⟨fz,hfz⟩:∃ fz,fz=jR c2 (B 5+1) dd z:=⟨_,rfl⟩;have hbn:=HD.out.inv.bounds;have hln:c2.length=n:=Yx.out.2.1.trans HD.out.len;have hsl:df B dd=B 5+1+4*(dd:Int):=rfl;have hn9:=HD.out.len;have HCE:=hJ (fun(wx:World) (hb:Below w16.heap.size w16 wx)=>rR (HM12.out.below (ag Xg.out hb)) (by rw[hln];omega));rw[hln] at HCE;have HBs:=hJ (fun wx=>mU wx (B 5,(ndw:Int),false) (by show -1000000000<=B 5;omega) (by show B 5<=1000000000;omega));rw[show bP (B 5,(ndw:Int),false)=B 5+1 from rfl] at HBs;have HSe:=hJ (fun(wx:World) (g:Nat) (h:wx.heap[g]?=some (.cells (c2.map (Value.int .u32)).toArray 32 (0,0)))=>yA wx (some ⟨g,0,none⟩) n n c2 hln oZ Yx.out.1 (DN h Yx.out.1) (B 5+1) dd z oZ oZ);rw[<- hfz] at HSe;have HFz:=hJ hfz;have Y3:=hJ (ah X4.out Xg.out);have HK1:=hJ (And.intro k1 (And.intro k2 k3));have HWa6:=hJ (And.intro u1 (And.intro u2 (And.intro u3 (And.intro u4 (And.intro u5 (And.intro u6 (And.intro u7 (And.intro u8 u9))))))));clear hbn hln hsl hn9 hfz u1 u2 u3 u4 u5 u6 u7 u8 u9 k1 k2 k3;go_wp2_with fail
             go_loopw [117] (fun iv wx=>∃ kk:Nat,kk<=1/\iv=.int .i64 kk/\Below w16.heap.size w16 wx) (fun iv _=>1-(intOf iv).toNat)
             case atStart=>exact⟨0,oZ,rfl,Below.refl _ _⟩
             case round =>
              obtain⟨kk,hkk,rfl,hbk⟩:=hrel;rcases Nat.lt_or_ge kk 1 with hk1 | hk1
              ·obtain rfl:kk=0:=oZ;have k1:=az HK1.out.1 hbk;have k2:=az HK1.out.2.1 hbk;have k3:=az HK1.out.2.2 hbk;simp only[Nat.zero_mul,Nat.add_zero] at k1 k2 k3;go_upto_region 26 with fail
               have hq:=nZ wr (.cells #[.int .i64 (B 5),.int .i64 (ndw:Int),.bool false] 65);have hbq:=ag hbk (aj (w:=wr) (A:=.cells #[.int .i64 (B 5),.int .i64 (ndw:Int),.bool false] 65));obtain⟨sb,hsb⟩:∃ sb,wr.heap.size=sb:=⟨_,rfl⟩;rw[hsb] at hq ⊢;generalize wr.alloc (.cells #[.int .i64 (B 5),.int .i64 (ndw:Int),.bool false] 65)=w20 at hq hbq ⊢;have HQ20:=hJ hq;have HB20:=hJ hbq;clear hq hbq hbk k1 k2 k3 hsb
               refine aI (fun(p:Nat×Value) jz=>[.pointer (some ⟨Wb,0,none⟩),.pointer (some ⟨Wb,0,none⟩),.pointer (some ⟨Wb,25,none⟩),.pointer (some ⟨mb,0,none⟩),.slice (some ⟨p.1,0,none⟩) n n,.agg #[.int .i64 (B 5),.int .i64 (ndw:Int),.bool false],.int .i64 (B 5+1),.pointer (some ⟨Wb,0,none⟩),.pointer (some ⟨Wb,0,none⟩),.pointer (some ⟨Wb,0,none⟩),.pointer (some ⟨Wb,0,none⟩),.int .i64 (dd:Int),.int .u32 z,.tuple #[p.2,.bool true],.tuple #[p.2,.bool true],p.2,.bool true,p.2,.bool true].getD jz undef)
                (fun p l wx=>Below w16.heap.size w16 wx/\wx.heap[sb]?=some (.cells #[.int .i64 (B 5),.int .i64 (ndw:Int),.bool false] 65 (0,0))/\(l 4=true->wx.heap[p.1]?=some (.cells (c2.map (Value.int .u32)).toArray 32 (0,0)))/\(l 13=true->nC wx w16.heap.size p.2 fz))
                kZ kZ pZ (0,undef) ?_ ?_ ?_
               ·exact⟨HB20.out.drew,HQ20.out,(fun h=>by cases h),(fun h=>by cases h)⟩
               ·intro i o ho p l wx hR hl he hcl K hK;rcases i with _|_|_|_|_|_|_|_|_|_|_|_|_|_|_|_|_|_|_|i
                any_goals first | (cases ho;go_simp;exact hK p wx (fun _ _=>rfl) hR;done) | fail
                ·cases ho;have q:=(show wx.cell? ⟨Wb,25,none⟩=some (.pointer (some ⟨mb,0,none⟩)) from(aa (ah Y3.out hR.1) 25).trans (jW rfl rfl));go_simp;exact hK p wx (fun _ _=>rfl) hR
                ·cases ho;have Xb:=hJ hR;clear hR;go_simp;refine(HCE.out wx Xb.out.1).mono ?_;rintro e9 wy ⟨rfl,Zh,Xa⟩;refine hK (wx.heap.size,p.2) wy (fun j hj=>?_) ⟨ag Xb.out.1 Xa,ah Xb.out.2.1 Xa,fun _=>Zh,fun h=>ak (Xb.out.2.2.2 h) Xa⟩;rcases j with _|_|_|_|_|_|_|_|_|_|_|_|_|_|_|_|_|_|_|j
                 all_goals first | rfl | (rw[hl] at hj;cases hj)
                ·cases ho;refine wp_load_row 65 (.tmp 21) rfl sb rfl 65 #[.int .i64 (B 5),.int .i64 (ndw:Int),.bool false] (0,0) _ hR.2.1 Tryz.underlying65 rfl (nT (B 5,(ndw:Int),false)) ?_;exact hK p wx (fun _ _=>rfl) hR
                ·cases ho;have Xb:=hJ hR;clear hR;go_simp;refine(HBs.out wx).mono ?_;rintro e9 wy ⟨rfl,Xa⟩;exact hK p wy (fun _ _=>rfl) ⟨ag Xb.out.1 Xa,ah Xb.out.2.1 Xa,fun h=>ah (Xb.out.2.2.1 h) Xa,fun h=>ak (Xb.out.2.2.2 h) Xa⟩
                ·cases ho;have q:=(show wx.cell? ⟨Wb,0,none⟩=some (.int .i64 (dd:Int)) from(aa (ah Y3.out hR.1) 0).trans (qi 0 _ rfl));go_simp;exact hK p wx (fun _ _=>rfl) hR
                ·cases ho;have h4:l 4=true:=he ⟨4,.data⟩ sZ rfl;have Xb:=hJ hR;have H4:=hJ h4;clear hR h4;go_simp;refine(HSe.out wx p.1 (Xb.out.2.2.1 H4.out)).mono ?_;rintro e9 wy ⟨v9,rfl,Zi,Xa⟩;refine hK (p.1,v9) wy (fun j hj=>?_) ⟨ag Xb.out.1 Xa,ah Xb.out.2.1 Xa,fun h=>ah (Xb.out.2.2.1 h) Xa,fun _=>Cz Zi Xb.out.1.size⟩;rcases j with _|_|_|_|_|_|_|_|_|_|_|_|_|_|_|_|_|_|_|j
                 all_goals first | rfl | (rw[hl] at hj;cases hj) | (exact absurd (hcl 14 _ rfl hj ⟨13,.data⟩ sZ rfl) lZ) | (exact absurd (hcl 14 _ rfl (hcl 15 _ rfl hj ⟨14,.data⟩ sZ rfl) ⟨13,.data⟩ sZ rfl) lZ) | (exact absurd (hcl 14 _ rfl (hcl 15 _ rfl (hcl 17 _ rfl hj ⟨15,.data⟩ sZ rfl) ⟨14,.data⟩ sZ rfl) ⟨13,.data⟩ sZ rfl) lZ)
                ·simp at ho
               ·intro p l wx hl hR;have Xb:=hJ hR;have HO:=hJ (hR.2.2.2 (hl 13 (by first | decide | simp)));clear hR hl;obtain⟨u1,u2,u3,u4,u5,u6,u7,u8,u9⟩:=HWa6.out;have HU9:=hJ (ah u1 Xb.out.1);have hbn:=HD.out.inv.bounds;have hsl:df B dd=B 5+1+4*(dd:Int):=rfl;have hn9:=HD.out.len
                have hin:∀ s∈xw.aC,oU csw s:=by
                 intro s hs;rw[u4,List.mem_singleton] at hs;subst hs;exact⟨by show 0<=B 5;omega,by show B 5<=1000000;omega,by show 0<=(ndw:Int);omega,by show B 5+1+4*(ndw:Int)<=_;omega⟩
                have HSA:=hJ (zD wx (some ⟨gw,0,none⟩) n n csw u6 oZ u7 ((u2.below Xb.out.1).read u7) (some ⟨gb,ob,none⟩) 1 acw xw (by rw[u4];rfl) (u3.reads.below Xb.out.1) oZ hin z);rw[u4] at HSA;have HEq:=hJ (show jh csw z [(B 5,(ndw:Int),false)]=[fz] from by rw[HFz.out,u9];rfl);rw[HEq.out] at HSA;have hfl:fz.length<=1000000:=by(have h1:=yu c2 (B 5+1) z dd 0;have h2:=HFz.out;unfold jR at h2;rw[h2];omega)
                obtain⟨o8,c8,h8,-,-,hr8⟩:=yB HO.out;rw[h8];have HR8:=hJ hr8;have HH8:=hJ h8;have HFl:=hJ hfl;clear hbn hsl hn9 hin u1 u2 u3 u4 u5 u6 u7 u8 u9 hr8 h8 hfl
                go_upto_region 29 with (first
                 | (refine yZ rfl 49 (.tmp 19) rfl ub rfl 49 (aH (.slice (some ⟨gw,0,none⟩) n n) (.slice (some ⟨gb,ob,none⟩) 1 acw) xw) (0,0) _ HU9.out Tryz.underlying49 rfl (aG _ _ _) ?_)
                 | (go_at_call 28;refine HSA.out.mono ?_;rintro e9 wy ⟨rv,rfl,⟨vs9,hrow,hss⟩,Xa⟩;obtain⟨ar,cr,rfl⟩:=jV hrow 1 rfl;obtain⟨u9,hu9,Zi⟩:=hss 0 fz rfl;obtain⟨gr,rfl,q9⟩:=GH hrow hu9;obtain⟨o9,c9,rfl,-,-,Zh⟩:=yB Zi;have HSm:=hJ (I1 wy o8 o9 c8 c9 fz fz (HR8.out.below Xa) Zh HFl.out);rw[decide_eq_true rfl] at HSm;have HB9:=hJ Xa;clear Xa Zi hrow hu9 hss Zh)
                 | (go_at_call 27;refine HSm.out.mono ?_;rintro e8 wz ⟨rfl,hbz⟩;have Xy:=hJ hbz;clear hbz)
                 | fail)
                go_wp2_with fail
                go_roundw
                case rel=>exact⟨1,Nat.le_refl _,by go_num,ag Xb.out.1 (ag HB9.out Xy.out)⟩
                case measure=>simp[intOf]
              ·obtain rfl:kk=1:=oZ;have HBk:=hJ hbk;clear hbk;go_wp2_with fail
               go_meet
               case rel=>exact⟨rfl,ag Xg.out HBk.out⟩
           case rest =>
            obtain⟨rfl,hb⟩:=hcut;have Xl:=hJ hb;have X9:=hJ (HA2.out.below hb);clear hb Xg X8 HA2;cases ov with
            | true =>
             rcases X9.out with ⟨-,hf,-,cap,go',log,at_,ma,off,hr⟩ | ⟨hov,-⟩
             rotate_left
             ·cases hov
             have HF:=hJ hf;have HR:=hJ hr;clear hf hr;have Xh:=hJ (ah X4.out Xl.out);have HT17:=hJ (ah Yw.out Xl.out);have Y4:=hJ (HZb.out.below Xl.out);have HS17:=hJ (show bn wc w0.heap.size (.slice ao 1 ac) x'.aC from ak HSb.out Xl.out);have Y5:=hJ (show bn wc w0.heap.size (.slice og 1 gc) x.aC from ak HSc.out Xl.out)
             have HLow:=hJ (show Below w0.heap.size w0 wc from by
              have h1:=HD.out.low;have h2:=H6.out;have h3:=HF.out.mod;have h4:=HF.out.inv;have h5:=h1.size;have h6:=h2.size;have h8:=He.out;have h9:=HD.out.oldm;have h10:=HD.out.oldc;exact⟨h3.os.trans (h2.os.trans h1.os),h3.tape.trans (h2.tape.trans h1.tape),h3.output.trans (h2.output.trans h1.output),by have:=h3.size;omega,fun k hk=>(h4.left k oZ oZ oZ oZ oZ).trans ((h2.block k oZ).trans (h1.block k hk))⟩)
             obtain⟨l',s',hm6,hl',hs',hsum⟩:=HF.out.mem;obtain⟨so,sn,sc,y9,p1,p2,p3,p4,p5⟩:=HF.out.post;rw[HY.out.1] at p2 p5;have HM17:=hJ hm6;have Zt:=hJ p1;have Zj:=hJ p2;have Xp:=hJ (And.intro p3 (And.intro p4 p5));clear hm6 p1 p2 p3 p4 p5 X9
             go_upto_region 35 with (first
              | (go_at_call 29;refine(qI HR.out).mono ?_;rintro e w18 ⟨rfl,rfl⟩)
              | (refine yZ rfl 49 (.tmp 13) rfl tb rfl 49 (aH (.slice (some ⟨g8,0,none⟩) n n) (.slice ao 1 ac) x') (0,0) _ HT17.out Tryz.underlying49 rfl (aG _ _ _) ?_)
              | (refine dw rfl 49 (.tmp 157) (.tmp 155) rfl Wb 35 (aH (.slice (some ⟨g8,0,none⟩) n n) (.slice ao 1 ac) x') rfl rfl 51 (aU (au (dd:Int) t ss bk rm kf bf) (ae B S (n:Int) (m:Int) (ln:Int)) (.pointer (some ⟨mb,0,none⟩)) (aO (.slice og 1 gc) x) (aH (.slice (some ⟨gz,0,none⟩) n n) (.slice og2 1 gc2) x)) (aU (au (dd:Int) t ss bk rm kf bf) (ae B S (n:Int) (m:Int) (ln:Int)) (.pointer (some ⟨mb,0,none⟩)) (aO (.slice og 1 gc) x) (aH (.slice (some ⟨g8,0,none⟩) n n) (.slice ao 1 ac) x')) Xh.out (Nat.le_of_ble_eq_true rfl) (aG _ _ _) cZ rfl ?_)
              | fail)
             have Ya:=setRow_heap wc Wb _ (aU (au (dd:Int) t ss bk rm kf bf) (ae B S (n:Int) (m:Int) (ln:Int)) (.pointer (some ⟨mb,0,none⟩)) (aO (.slice og 1 gc) x) (aH (.slice (some ⟨g8,0,none⟩) n n) (.slice ao 1 ac) x')) _ _ Xh.out;have Xc:=below_setRow HLow.out HD.out.oldb (aU (au (dd:Int) t ss bk rm kf bf) (ae B S (n:Int) (m:Int) (ln:Int)) (.pointer (some ⟨mb,0,none⟩)) (aO (.slice og 1 gc) x) (aH (.slice (some ⟨g8,0,none⟩) n n) (.slice ao 1 ac) x'));have H5:∀ j,j≠Wb->(wc.setRow Wb (aU (au (dd:Int) t ss bk rm kf bf) (ae B S (n:Int) (m:Int) (ln:Int)) (.pointer (some ⟨mb,0,none⟩)) (aO (.slice og 1 gc) x) (aH (.slice (some ⟨g8,0,none⟩) n n) (.slice ao 1 ac) x'))).heap[j]?=wc.heap[j]?:=fun j hj=>qZ _ _ _ _ hj;generalize wc.setRow Wb (aU (au (dd:Int) t ss bk rm kf bf) (ae B S (n:Int) (m:Int) (ln:Int)) (.pointer (some ⟨mb,0,none⟩)) (aO (.slice og 1 gc) x) (aH (.slice (some ⟨g8,0,none⟩) n n) (.slice ao 1 ac) x'))=w18 at Ya Xc H5 ⊢;have Xd:=hJ Ya;have Xm:=hJ Xc;have qe:w18.cell? ⟨wb+1,0,none⟩=some (.int .i64 e0):=aa ((H5 (wb+1) (by have:=He.out;omega)).trans Zj.out) 0;have HP18:=hJ ((H5 wb (by have:=He.out;omega)).trans Zt.out);have Y6:=hJ (HM17.out.dJ (H5 mb (by have:=He.out;omega)) (H5 mc (by have:=He.out;omega)));have Yb:=hJ (Y4.out.of_block (H5 g8 (Y4.out.ne Xh.out dZ)));have Y7:=hJ (bn.keep HS17.out Xh.out dZ (fun j hj=>H5 j hj));have Y8:=hJ (bn.keep Y5.out Xh.out dZ (fun j hj=>H5 j hj));have Y9:=hJ (And.intro (bn.keep Xp.out.1 Xh.out dZ (fun j hj=>H5 j hj)) Xp.out.2);have hN:=He.out;have hL:=Zm.out
             have hvv:x'.bT<=(i:Int)+1:=by
              rcases H9.out.2.2 with ⟨-,h,-⟩ | h
              ·rw[h];omega
              ·omega
             clear Ya Xc H5;by_cases he:e0=0
             ·subst he;obtain⟨p3,p4,p5⟩:=Y9.out;obtain⟨r1,r2⟩:=p5 rfl;rw[HY.out.2 rfl] at r1 r2;have hsn:sn=1:=by rw[p4,<- r2,H9.out.2.1.aC];rfl
              subst hsn;have Yc:=HP18.out;rw[<- r1] at Yc;have HQ18:=hJ Yc
              have HSo:=hJ (show bn w18 w0.heap.size (.slice so 1 sc) x'.aC from by
               rw[r2];refine bn.lower p3 ?_;have h1:=HD.out.low.size;have h2:=H6.out.size;omega)
              clear p3 p4 p5 r1 r2 Yc
              go_upto_region 37 with (first
               | (refine yZ rfl 46 (.tmp 9) rfl wb rfl 46 (aO (.slice so 1 sc) x') (0,0) _ HQ18.out Tryz.underlying46 rfl (aK _ _) ?_)
               | (refine dw rfl 46 (.tmp 163) (.tmp 161) rfl Wb 26 (aO (.slice so 1 sc) x') rfl rfl 51 (aU (au (dd:Int) t ss bk rm kf bf) (ae B S (n:Int) (m:Int) (ln:Int)) (.pointer (some ⟨mb,0,none⟩)) (aO (.slice og 1 gc) x) (aH (.slice (some ⟨g8,0,none⟩) n n) (.slice ao 1 ac) x')) (aU (au (dd:Int) t ss bk rm kf bf) (ae B S (n:Int) (m:Int) (ln:Int)) (.pointer (some ⟨mb,0,none⟩)) (aO (.slice so 1 sc) x') (aH (.slice (some ⟨g8,0,none⟩) n n) (.slice ao 1 ac) x')) Xd.out (Nat.le_of_ble_eq_true rfl) (aK _ _) (dL _ _ _ _) rfl ?_)
               | fail)
              have Yd:=setRow_heap w18 Wb _ (aU (au (dd:Int) t ss bk rm kf bf) (ae B S (n:Int) (m:Int) (ln:Int)) (.pointer (some ⟨mb,0,none⟩)) (aO (.slice so 1 sc) x') (aH (.slice (some ⟨g8,0,none⟩) n n) (.slice ao 1 ac) x')) _ _ Xd.out;have Xe:=below_setRow Xm.out HD.out.oldb (aU (au (dd:Int) t ss bk rm kf bf) (ae B S (n:Int) (m:Int) (ln:Int)) (.pointer (some ⟨mb,0,none⟩)) (aO (.slice so 1 sc) x') (aH (.slice (some ⟨g8,0,none⟩) n n) (.slice ao 1 ac) x'));have H5:∀ j,j≠Wb->(w18.setRow Wb (aU (au (dd:Int) t ss bk rm kf bf) (ae B S (n:Int) (m:Int) (ln:Int)) (.pointer (some ⟨mb,0,none⟩)) (aO (.slice so 1 sc) x') (aH (.slice (some ⟨g8,0,none⟩) n n) (.slice ao 1 ac) x'))).heap[j]?=w18.heap[j]?:=fun j hj=>qZ _ _ _ _ hj;generalize w18.setRow Wb (aU (au (dd:Int) t ss bk rm kf bf) (ae B S (n:Int) (m:Int) (ln:Int)) (.pointer (some ⟨mb,0,none⟩)) (aO (.slice so 1 sc) x') (aH (.slice (some ⟨g8,0,none⟩) n n) (.slice ao 1 ac) x'))=w19 at Yd Xe H5 ⊢;have Ye:=hJ (show KI w0 w19 Wb mb mc dd t ss bk rm kf bf B S (n:Int) (ln:Int) m n (i+1) from⟨nd',cs',x',d',l',s',so,ao,sc,ac,g8,⟨Yd,Y6.out.dJ (H5 mb oZ) (H5 mc oZ),hl',hs',Yb.out.of_block (H5 g8 (Yb.out.ne Xd.out dZ)),Yg.out.1,bn.keep HSo.out Xd.out dZ (fun j hj=>H5 j hj),bn.keep Y7.out Xd.out dZ (fun j hj=>H5 j hj),H9.out.2.1,H9.out.1,Xe,HD.out.oldm,HD.out.oldc,HD.out.oldb⟩,oZ,oZ⟩);clear Yd Xe H5 qe hN hL hvv hsum hl' hs';go_wp2_with fail
              go_roundw
              case rel=>exact⟨i+1,oZ,oZ,by go_num,Ye.out⟩
              case measure=>simp[intOf];omega
             ·have he2:(e0==0)=false:=by simp[he]
              have Ye:=hJ (show KI w0 w18 Wb mb mc dd t ss bk rm kf bf B S (n:Int) (ln:Int) m n (i+1) from⟨nd',cs',x',d',l',s',og,ao,gc,ac,g8,⟨by rw[(Yg.out.2 he).2];rw[(Yg.out.2 he).2] at Xd;exact Xd.out,Y6.out,hl',hs',Yb.out,Yg.out.1,by rw[(Yg.out.2 he).2];exact Y8.out,Y7.out,H9.out.2.1,H9.out.1,Xm.out,HD.out.oldm,HD.out.oldc,HD.out.oldb⟩,oZ,oZ⟩);clear hN hL hvv hsum hl' hs';go_wp2_with fail
              go_roundw
              case rel=>exact⟨i+1,oZ,oZ,by go_num,Ye.out⟩
              case measure=>simp[intOf];omega
            | false =>
             rcases X9.out with ⟨hov,-⟩ | ⟨-,hg,hjq⟩
             ·cases hov
             have HG2:=hJ hg;clear hg;go_wp2_with fail
             go_roundw
             case rel=>exact⟨j+1,oZ,oZ,by go_num,by rw[show l0+s0+(q:Int)+((j+1:Nat):Int)=l0+s0+(q:Int)+(j:Int)+1 by omega];exact HG2.out⟩
             case measure=>simp[intOf];omega
       ·obtain rfl:j=6000:=oZ
        have hr:∃ cap go log at_ wi ma off er,bu wr w9.heap.size mb go cap log at_ wi ma off false er:=by
         obtain⟨⟨q5,st,go,m5,⟨⟨cap,hr⟩,-,-⟩,hat,-⟩,-,-⟩:=hg;rw[hat.over] at hr;exact⟨cap,_,_,_,_,_,_,_,hr⟩
        obtain⟨cap,go,log,at_,wi,ma,off,er,hr⟩:=hr;have HR:=hJ hr
        have HBe:=hJ (show Below w.heap.size w wr from by
         have h1:=HD.out.low;have h2:=H6.out;have h3:=hg.mod;have h4:=hg.inv;have h5:=h1.size;have h6:=h2.size;have h7:=HB0.out.size;have h8:=He.out;have h9:=HD.out.oldm;have h10:=HD.out.oldc;exact ag HB0.out ⟨h3.os.trans (h2.os.trans h1.os),h3.tape.trans (h2.tape.trans h1.tape),h3.output.trans (h2.output.trans h1.output),by have:=h3.size;omega,fun k hk=>(h4.left k oZ oZ oZ oZ oZ).trans ((h2.block k oZ).trans (h1.block k hk))⟩)
        clear hg hr;go_wp2_with (go_at_call 29;refine(qI HR.out).mono ?_;rintro e w18 ⟨rfl,rfl⟩)
        try rw[Exit.noGoto_ret]
        go_ret;exact⟨rfl,HBe.out⟩
   ·obtain rfl:i=k:=oZ;have Xx:=hJ (nX wr (HT0.out.below Za.out.low));go_wp2_with fail
    refine Xx.out.mono ?_;rintro e wz ⟨rfl,hb⟩;have Xy:=hJ (ag HB0.out (ag Za.out.low hb));clear hb;go_wp2_with fail
    try rw[Exit.noGoto_ret]
    go_ret;exact⟨rfl,Xy.out⟩
end Go.Proofs.YtafaohnhlgcnpaaGreatDoor
