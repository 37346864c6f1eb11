/-
 What stage 12 rests on.
-/
import Derived.Test.YtlfndoclbebdaaaGreatDoorWrAllA1
import Derived.Test.YtlfndoclbebdaaaGreatDoorWrAllH1
import Derived.Test.YtlfndoclbebdaaaGreatDoorWrAllG2
import Derived.Test.YtlfndoclbebdaaaGreatDoorWrAllD1
import Derived.Test.YtlfndoclbebdaaaGreatDoorWrAllC4
import Derived.Laws.Tables
import Derived.Test.YtlfndoclbebdaaaGreatDoorWrAllB3
import Derived.Test.YtlfndoclbebdaaaGreatDoorWrAllB4
set_option maxRecDepth 100000
set_option maxHeartbeats 16000000
namespace Go.Proofs.YtlfndoclbebdaaaGreatDoor
open Go.RowKit
theorem JD {W0 W:World} {Wb mb cb dd:Nat} {tt:Int} {ss:Nat->Int} {bk rm:Int} {kf bf:Nat} {B S:Nat->Int} {C L:Int} {m n nd:Nat} {cs:List Int} {x:Sx} {d:dm} {l s:Int} {og og2:Option Addr} {gc gc2 gz:Nat} (hK:KC dd tt ss bk rm B S C L m) (hW:DW W0 W Wb mb cb dd tt ss bk rm kf bf B S C L m n nd cs x d l s og og2 gc gc2 gz) (id:Int) (hver:x.dR+1<=4294967295) (hls:l+s<=100000000) (fo:Option Addr) (F:List ByteArray) (fc:Nat) (hFs:∀ f∈F,f.size<=1000000) (hFn:F.length<=1000000) (hid:U id) {e0:Int} {cs':List Int} {x':Sx} {nd':Nat} {d':dm} (hgood:tN B S C m dd tt nd id F cs x d e0 cs' x' nd' d') (hT:∀ wr,(∀ k,k<W.heap.size->k≠mb->k≠cb->wr.heap[k]?=W.heap[k]?)->ed wr/\iY wr fo F) :
  Calls Tryz.prog 18 #[.pointer (some ⟨Wb,0,none⟩),.agg #[.bool false,.int .u32 id,.slice fo F.length fc]] W fun e W'=>e=.returned (.bool true)/\∃ l' s' og' og2' gc' gc2' gz',l'+s'<=l+s+500000/\DW W0 W' Wb mb cb dd tt ss bk rm kf bf B S C L m n nd' cs' x' d' l' s' og' og2' gc' gc2' gz'/\∀ k,k<W.heap.size->k≠mb->k≠cb->k≠Wb->W'.heap[k]?=W.heap[k]?:=by
 obtain⟨q,y,hq,hdoP,hye,hyx⟩:=hgood.prog
 have HK:=hJ hK
 have HD:=hJ hW
 have HGood:=hJ hgood
 have HDo:=hJ hdoP.does
 have HY:=hJ (And.intro hye hyx)
 have HVer:=hJ hver
 have HT:=hJ hT
 have HFs:=hJ (And.intro hFs (And.intro hFn hid))
 clear hW hgood hdoP hye hyx hver hT hK hFs hFn hid
 go_enter Tryz.func18,Tryz.ntmps18
 go_upto_region 1 with fail
 have hb1:=au (w:=W) (A:=.cells #[.bool false,.int .u32 id,.slice fo F.length fc] 37)
 have HO:=hJ (nZ W (.cells #[.bool false,.int .u32 id,.slice fo F.length fc] 37))
 have HZ1:=hJ (show (W.alloc (.cells #[.bool false,.int .u32 id,.slice fo F.length fc] 37)).heap.size=W.heap.size+1 by simp)
 generalize W.alloc (.cells #[.bool false,.int .u32 id,.slice fo F.length fc] 37)=w1 at hb1 HO HZ1 ⊢
 have HB1:=hJ hb1
 have HX1:=hJ (aj HD.out.box hb1)
 clear hb1
 go_upto_region 2 with (first
  | (refine dU rfl 46 (.tmp 13) rfl Wb 26 rfl 51 (aY (ak (dd:Int) tt ss bk rm kf bf) (af B S C (m:Int) L) (.pointer (some ⟨mb,0,none⟩)) (aQ (.slice og 1 gc) x) (aK (.slice (some ⟨gz,0,none⟩) n n) (.slice og2 1 gc2) x)) (aQ (.slice og 1 gc) x) (0,0) _ HX1.out (kQ rfl rfl) Tryz.underlying46 rfl (aN _ _) ?_)
  | (refine zZ rfl 46 (.tmp 5) (.tmp 14) rfl w1.heap.size (aQ (.slice og 1 gc) x) rfl rfl 46 (aQ (.slice none 0 0) aO) (fO w1 _ _) (aN _ _) rfl (dY _ _ _ _) ?_;obtain⟨w2,hw2⟩:∃ w2,w2=((w1.alloc (.cells (aQ (.slice none 0 0) aO) 46)).alloc (.cells #[.int .i64 0] 52)).setRow w1.heap.size (aQ (.slice og 1 gc) x):=⟨_,rfl⟩;rw[show ((w1.alloc (.cells #[.slice none 0 0,.int .i64 0,.int .u32 0,.int .i64 0,.int .i64 0,.int .i64 0,.int .i64 0,.int .i64 0,.int .i64 0] 46)).alloc (.cells #[.int .i64 0] 52)).setRow w1.heap.size (aQ (.slice og 1 gc) x)=w2 from hw2.symm];have HE2:=hJ (show w2.heap[w1.heap.size+1]?=some (.cells #[.int .i64 0] 52 (0,0)) by(rw[hw2];exact(qZ _ _ _ _ oZ).trans (fK w1 _ _)));have HW2:=hJ (show w2.heap[w1.heap.size]?=some (.cells (aQ (.slice og 1 gc) x) 46 (0,0)) by(rw[hw2];exact setRow_heap _ _ _ _ _ _ (fO w1 _ _)));have HB2:=hJ (show Below w1.heap.size w1 w2 by(rw[hw2];exact below_setRow dL (Nat.le_refl _) _));have qe:=ae HE2.out 0;have fe:=free_at HE2.out 0;clear hw2)
  | fail)
 have HB3:=hJ (low_set HB2.out (show w1.heap.size<=w1.heap.size+1 by omega) 0 (.int .i64 0))
 have HW3:=hJ ((Below.heap_setCell w2 ⟨w1.heap.size+1,0,none⟩ (.int .i64 0) w1.heap.size (show w1.heap.size≠w1.heap.size+1 by omega)).trans HW2.out)
 have HE3:=hJ (show (w2.setCell ⟨w1.heap.size+1,0,none⟩ (.int .i64 0)).heap[w1.heap.size+1]?=some (.cells #[.int .i64 0] 52 (0,0)) by rw[heap_setCell_same _ _ _ _ _ _ HE2.out];rfl)
 generalize w2.setCell ⟨w1.heap.size+1,0,none⟩ (.int .i64 0)=w3 at HB3 HW3 HE3 ⊢
 clear qe fe HB2 HW2 HE2
 obtain⟨wb,hwb⟩:∃ wb,w1.heap.size=wb:=⟨_,rfl⟩
 rw[hwb] at HW3 HE3 HZ1 ⊢
 have HWB:=hJ hwb
 clear hwb HX1
 have HO3:=hJ (aj HO.out HB3.out)
 have HBW3:=hJ (ah HB1.out HB3.out)
 have HX3:=hJ (aj HD.out.box HBW3.out)
 go_wp2_with (first
  | (refine yZ rfl 37 (.tmp 3) rfl W.heap.size rfl 37 #[.bool false,.int .u32 id,.slice fo F.length fc] (0,0) _ HO3.out Tryz.underlying37 rfl (mP _ _ _) ?_)
  | fail)
 refine(tH w3 (dd:Int) tt ss bk rm kf bf (af B S C (m:Int) L) (aK (.slice (some ⟨gz,0,none⟩) n n) (.slice og2 1 gc2) x) rfl (.pointer (some ⟨mb,0,none⟩)) (.slice og 1 gc) rfl x Wb wb (wb+1) false id (.slice fo F.length fc) HX3.out).mono ?_
 rintro e w4 ⟨rfl,hb4,hpi,hlt4⟩
 have HB4:=hJ hb4
 have HPI:=hJ hpi
 have HLt4:=hJ hlt4
 have HX4:=hJ (aj HX3.out hb4)
 have cm:w4.cell? ⟨Wb,25,none⟩=some (.pointer (some ⟨mb,0,none⟩)):=(ae HX4.out 25).trans (lC rfl rfl)
 clear hb4 hpi hlt4
 go_wp2_with fail
 refine(Iw _ mb).mono ?_;rintro e w5 ⟨rfl,hr,hb⟩
 have hdd:=HD.out
 obtain⟨v1,v2,v3,v4,v5,v6,v7,v8⟩:=hdd.inv.bounds
 have hsl:eP B dd=B 5+1+4*(dd:Int):=rfl
 have hc5:=HK.out.c5
 have hnd:=hdd.inv.nd_
 have hd64:=hdd.inv.hdd
 have hmbW:=lt_of_heap hdd.mem.rec_
 have hcbW:=lt_of_heap hdd.mem.row
 have hWbW:=lt_of_heap hdd.box
 have hgzW:=hdd.row.lt
 have hz1:=HZ1.out
 have hwb3:=lt_of_heap HE3.out
 have hlt4:=HLt4.out
 have hs3:=HBW3.out.size
 have hWm:Wb≠mb:=by
  rintro rfl
  have h9:=hdd.box.symm.trans hdd.mem.rec_
  injection h9 with h9
  injection h9 with _ h9 _
  exact absurd h9 dZ
 have hWc:Wb≠cb:=by
  rintro rfl
  have h9:=hdd.box.symm.trans hdd.mem.row
  injection h9 with h9
  injection h9 with _ h9 _
  exact absurd h9 dZ
 have hgm:gz≠mb:=hdd.row.ne hdd.mem.rec_ dZ
 have HBW4:=hJ (ah HBW3.out HB4.out)
 have HM4:=hJ (hdd.mem.below HBW4.out)
 have HW4:=hJ (aj HW3.out HB4.out)
 have HE4:=hJ (aj HE3.out HB4.out)
 have HS4:=hJ (show bF w4 W0.heap.size (.slice og 1 gc) x.aH from aA hdd.aH HBW4.out)
 have HS42:=hJ (show bF w4 W0.heap.size (.slice og2 1 gc2) x.aH from aA hdd.segs2 HBW4.out)
 have HZ4:=hJ (hdd.row.below HBW4.out)
 have k9:=hdd.low.size
 have k8:=HBW4.out.size
 have k7:=hdd.oldm
 have k6:=hdd.oldc
 have HSt:=hJ (show ∀ wr,Left w4 mb cb wb (wb+1) wr->ed wr/\iY wr fo F from fun wr hL=>HT.out wr fun k hk e1 e2=>(hL k oZ e1 e2 oZ oZ).trans (HBW4.out.block k hk))
 clear k6 k7 k8 k9
 have HC:=hJ (Pe (W:=w4) (rb:=w4.heap.size) (mb:=mb) (cb:=cb) (Bd:=200000000) (kf:=kf) (bf:=bf) HK.out.ok HK.out.pl hdd.inv.hL HK.out.lv oZ (by have:=hdd.inv.htt;have:=hdd.inv.many;omega) (by have:=hdd.inv.hm;omega) hdd.inv.hdd hdd.inv.aH hdd.inv.nd_ hdd.inv.ws.used ⟨v5,by have:=hdd.inv.many;have:=hdd.inv.htt;have:=hdd.inv.hm;omega⟩ ⟨v7,v8⟩ HFs.out.2.2 F fo fc HFs.out.1 HFs.out.2.1 og gc oZ (Nat.le_refl _) (oc:=#[.bool false,.int .u32 id,.slice fo F.length fc]) rfl (tV _ _ _) (fun wr hL=>⟨(HS4.out.left hL HM4.out.rec_ HM4.out.row HW4.out HE4.out).reads,(HSt.out wr hL).2,(HSt.out wr hL).1⟩) HPI.out (by
  intro k hk
  simp only[List.mem_cons,List.not_mem_nil,or_false] at hk
  rcases hk with rfl | rfl | rfl | rfl | rfl | rfl
  all_goals exact⟨oZ,oZ,oZ,oZ,oZ⟩) (show wb≠wb+1 by omega) ⟨oZ,oZ,oZ⟩ ⟨oZ,oZ,oZ⟩)
 have HG:=hJ (Going.new (rb:=w4.heap.size) (S:=CS w4 mb cb) (I:=CI w4 mb cb wb (wb+1)) (w0:=w4) HM4.out hdd.l0 hdd.s0 hdd.inv.ws.cu HDo.out hb hr (HC.out.rC w4 w5 ⟨fun _ _ _ _ _ _=>rfl,Nat.le_refl _,⟨_,HW4.out,rfl⟩,⟨_,HE4.out⟩⟩ hb.size fun k hk hl=>hb.block k hl) rfl)
 have HNum:=hJ (And.intro hmbW (And.intro hcbW (And.intro hWbW (And.intro hgzW (And.intro hz1 (And.intro hwb3 (And.intro hlt4 (And.intro hs3 (And.intro hWm (And.intro hWc hgm))))))))))
 have HCS:=hJ (show ∀ k,CS w4 mb cb k->k<w4.heap.size/\k≠mb/\k≠cb from fun k hk=>hk)
 have HT1:=hJ (show l+s+(q:Int)+1<=((200000000:Nat):Int) by omega)
 clear hb hr cm hdd v1 v2 v3 v4 v5 v6 v7 v8 hsl hc5 hnd hd64 hmbW hcbW hWbW hgzW hz1 hwb3 hlt4 hs3 hWm hWc hgm
 go_wp2_with fail
 go_loopw [23] (fun iv wr=>∃ i:Nat,i<=q/\iv=.int .i64 i/\Going w4 w4.heap.size mb cb (CS w4 mb cb) (CI w4 mb cb wb (wb+1)) (qQ B S m dd tt nd id F x) y cs' (l+s+q) q i wr) (fun iv _=>1048576-(intOf iv).toNat)
 case atStart=>exact⟨0,oZ,rfl,HG.out⟩
 case round =>
  clear HG
  obtain⟨i,hi,rfl,hg⟩:=hrel
  have hlt:(i:Int)<1048576:=oZ
  have HKs:=hJ (hg.PN (Nat.le_refl _) HC.out HCS.out oZ HT1.out)
  clear hg
  go_wp2_with fail
  refine HKs.out.mono ?_
  clear HKs
  rintro e w6 (⟨rfl,hf,cap,go',log,at_,ma,off,hr⟩ | ⟨rfl,hg,hin⟩)
  ·have HF:=hJ hf
   have HR:=hJ hr
   obtain⟨n1,n2,n3,n4,n5,n6,n7,n8,n9,n10,n11⟩:=HNum.out
   have hleft:=hf.inv.left
   have HO6:=hJ ((hleft W.heap.size oZ oZ oZ oZ oZ).trans (aj HO3.out HB4.out))
   have HX6:=hJ ((hleft Wb oZ n9 n10 oZ oZ).trans HX4.out)
   have HZ6:=hJ (HZ4.out.of_block (hleft gz oZ n11 HD.out.zc oZ oZ))
   have HS6:=hJ (HS42.out.left hleft HM4.out.rec_ HM4.out.row HW4.out HE4.out)
   have HS16:=hJ (HS4.out.left hleft HM4.out.rec_ HM4.out.row HW4.out HE4.out)
   obtain⟨so,sn,sc,y9,p1,p2,p3,p4,p5⟩:=hf.post
   rw[HY.out.1] at p2 p5
   have HP1:=hJ p1
   have HP2:=hJ p2
   have HP3:=hJ (And.intro p3 (And.intro p4 p5))
   clear hf hr hleft p1 p2 p3 p4 p5 n1 n2 n3 n4 n5 n6 n7 n8 n9 n10 n11
   go_wp2_with (first
    | (refine yZ rfl 37 (.tmp 3) rfl W.heap.size rfl 37 #[.bool false,.int .u32 id,.slice fo F.length fc] (0,0) _ HO6.out Tryz.underlying37 rfl (mP _ _ _) ?_)
    | fail)
   refine(Np HD.out.inv HGood.out.out HFs.out.2.2 w6 (some ⟨gz,0,none⟩) n n HD.out.len (HZ6.out.read HD.out.inv.ws.cu) og2 gc2 HS6.out.reads ss bk rm kf bf L fo F.length fc rfl (HSt.out w6 HF.out.inv.left).2 HFs.out.1 HFs.out.2.1 (.pointer (some ⟨mb,0,none⟩)) (aQ (.slice og 1 gc) x) rfl Wb HX6.out).mono ?_
   rintro e w7 ⟨vc,vs,rfl,hb7,hout⟩
   have HB67:=hJ hb7
   obtain⟨n1,n2,n3,n4,n5,n6,n7,n8,n9,n10,n11⟩:=HNum.out
   have k1:=HF.out.mod.size
   have k2:=HBW4.out.size
   have k3:=HD.out.low.size
   have k4:=HD.out.oldm
   have k5:=HD.out.oldc
   have hLow6:Below W0.heap.size W0 w6:=⟨HF.out.mod.os.trans (HBW4.out.os.trans HD.out.low.os),HF.out.mod.tape.trans (HBW4.out.tape.trans HD.out.low.tape),HF.out.mod.output.trans (HBW4.out.output.trans HD.out.low.output),oZ,fun k hk=>(HF.out.inv.left k oZ oZ oZ oZ oZ).trans ((HBW4.out.block k oZ).trans (HD.out.low.block k hk))⟩
   have HFr6:=hJ (fun(k:Nat) (hk:k<W.heap.size) (a:k≠mb) (b:k≠cb)=>(HF.out.inv.left k oZ a b oZ oZ).trans (HBW4.out.block k hk))
   obtain⟨l',s',hm6,hl',hs',hsum⟩:=HF.out.mem
   have hcb6:=lt_of_heap hm6.row
   clear k4 k5
   rcases hout with hA | hA
   ·obtain⟨he,hvc,hvs,hcs,hx⟩:=hA
    subst hvc hvs
    have hcs:=hcs.symm
    have hx:=hx.symm
    subst hcs hx
    have hz7:=HZ6.out.below hb7
    have hs7:bF w7 W0.heap.size (.slice og2 1 gc2) x.aH:=aA HS6.out hb7
    have hs17:bF w7 W0.heap.size (.slice og 1 gc) x.aH:=aA HS16.out hb7
    have hzc:=HD.out.zc
    have hd1:decide (e0=0)=false:=decide_eq_false he
    have hd2:(e0==0)=false:=by simp[he]
    have HZ7:=hJ hz7
    have HS7:=hJ hs7
    have HS17:=hJ hs17
    have HZC:=hJ hzc
    clear hz7 hs7 hs17 hzc hb7
    have HTW0:=hJ (show w7.heap.size≠Wb by have:=HB67.out.size;omega)
    clear n1 n2 n3 n4 n5 n6 n7 n8 n9 n10 n11 k1 k2 k3 hcb6
    go_upto_region 9 with (first
     | (refine zZ rfl 49 (.tmp 10) (.tmp 34) rfl w7.heap.size (aK (.slice (some ⟨gz,0,none⟩) n n) (.slice og2 1 gc2) x) rfl rfl 49 dE (nZ w7 _) (aI _ _ _) rfl cZ ?_)
     | fail)
    rw[World.setRow_alloc_new]
    have hb8:=au (w:=w7) (A:=.cells (aK (.slice (some ⟨gz,0,none⟩) n n) (.slice og2 1 gc2) x) 49)
    have HT8:=hJ (nZ w7 (.cells (aK (.slice (some ⟨gz,0,none⟩) n n) (.slice og2 1 gc2) x) 49))
    have HB78:=hJ (ah HB67.out hb8)
    have HZ8:=hJ (HZ7.out.below hb8)
    have HS8:=hJ (show bF (w7.alloc (.cells (aK (.slice (some ⟨gz,0,none⟩) n n) (.slice og2 1 gc2) x) 49)) W0.heap.size (.slice og2 1 gc2) x.aH from aA HS7.out hb8)
    have HS18:=hJ (show bF (w7.alloc (.cells (aK (.slice (some ⟨gz,0,none⟩) n n) (.slice og2 1 gc2) x) 49)) W0.heap.size (.slice og 1 gc) x.aH from aA HS17.out hb8)
    generalize w7.alloc (.cells (aK (.slice (some ⟨gz,0,none⟩) n n) (.slice og2 1 gc2) x) 49)=w8 at HT8 HB78 HZ8 HS8 HS18 ⊢
    obtain⟨tb,htb⟩:∃ tb,w7.heap.size=tb:=⟨_,rfl⟩
    rw[htb] at HT8 ⊢
    have hTW:tb≠Wb:=by rw[<- htb];exact HTW0.out
    have HR8:=hJ (HR.out.below HB78.out)
    have HX8:=hJ (aj HX6.out HB78.out)
    have HW8:=hJ (aj HP1.out HB78.out)
    have qe:w8.cell? ⟨wb+1,0,none⟩=some (.int .i64 e0):=ae (aj HP2.out HB78.out) 0
    have hLow8:=ah hLow6 HB78.out
    have HFr8:=hJ (fun(k:Nat) (hk:k<W.heap.size) (a:k≠mb) (b:k≠cb)=>kX hk (HFr6.out k hk a b) HB78.out)
    have HM8:=hJ (hm6.below HB78.out)
    clear htb hb8 hm6 hLow6
    go_upto_region 13 with (first
     | (go_at_call 29;refine(uz HR8.out).mono ?_;rintro e9 w9 ⟨rfl,rfl⟩)
     | (go_at_call 53;refine(BV HR8.out).mono ?_;rintro e9 w9 ⟨rfl,rfl⟩)
     | fail)
    have HX9:=hJ HX8.out
    have HT9:=hJ HT8.out
    have hLow9:=hLow8
    have HOth9:∀ j,j≠Wb->w8.heap[j]?=w8.heap[j]?:=fun _ _=>rfl
    clear qe
    go_upto_region 14 with (first
     | (refine yZ rfl 49 (.tmp 10) rfl tb rfl 49 (aK (.slice (some ⟨gz,0,none⟩) n n) (.slice og2 1 gc2) x) (0,0) _ HT9.out Tryz.underlying49 rfl (aI _ _ _) ?_)
     | (refine di rfl 49 (.tmp 57) (.tmp 55) rfl Wb 35 (aK (.slice (some ⟨gz,0,none⟩) n n) (.slice og2 1 gc2) x) rfl rfl 51 (aY (ak (dd:Int) tt ss bk rm kf bf) (af B S C (m:Int) L) (.pointer (some ⟨mb,0,none⟩)) (aQ (.slice og 1 gc) x) (aK (.slice (some ⟨gz,0,none⟩) n n) (.slice og2 1 gc2) x)) (aY (ak (dd:Int) tt ss bk rm kf bf) (af B S C (m:Int) L) (.pointer (some ⟨mb,0,none⟩)) (aQ (.slice og 1 gc) x) (aK (.slice (some ⟨gz,0,none⟩) n n) (.slice og2 1 gc2) x)) HX9.out (Nat.le_of_ble_eq_true rfl) (aI _ _ _) cZ rfl ?_)
     | fail)
    have HX10:=hJ (setRow_heap w8 Wb _ (aY (ak (dd:Int) tt ss bk rm kf bf) (af B S C (m:Int) L) (.pointer (some ⟨mb,0,none⟩)) (aQ (.slice og 1 gc) x) (aK (.slice (some ⟨gz,0,none⟩) n n) (.slice og2 1 gc2) x)) _ _ HX9.out)
    have hLow10:=below_setRow hLow9 HD.out.oldb (aY (ak (dd:Int) tt ss bk rm kf bf) (af B S C (m:Int) L) (.pointer (some ⟨mb,0,none⟩)) (aQ (.slice og 1 gc) x) (aK (.slice (some ⟨gz,0,none⟩) n n) (.slice og2 1 gc2) x))
    have HOth:∀ j,j≠Wb->(w8.setRow Wb (aY (ak (dd:Int) tt ss bk rm kf bf) (af B S C (m:Int) L) (.pointer (some ⟨mb,0,none⟩)) (aQ (.slice og 1 gc) x) (aK (.slice (some ⟨gz,0,none⟩) n n) (.slice og2 1 gc2) x))).heap[j]?=w8.heap[j]?:=fun j hj=>(qZ _ _ _ _ hj).trans (HOth9 j hj)
    generalize w8.setRow Wb (aY (ak (dd:Int) tt ss bk rm kf bf) (af B S C (m:Int) L) (.pointer (some ⟨mb,0,none⟩)) (aQ (.slice og 1 gc) x) (aK (.slice (some ⟨gz,0,none⟩) n n) (.slice og2 1 gc2) x))=w10 at HX10 hLow10 HOth ⊢
    obtain⟨n1,n2,n3,n4,n5,n6,n7,n8,n9,n10,n11⟩:=HNum.out
    have HM10:=hJ (HM8.out.eY (HOth mb (Ne.symm n9)) (HOth cb (Ne.symm n10)))
    have HZ10:=hJ (HZ8.out.of_block (HOth gz (HZ8.out.ne HX8.out dZ)))
    have HS10:=hJ (bF.keep HS8.out HX8.out dZ (fun j hj=>HOth j hj))
    have HS110:=hJ (bF.keep HS18.out HX8.out dZ (fun j hj=>HOth j hj))
    have HLow10:=hJ hLow10
    have hlen:cs.length=n:=HGood.out.len.trans HD.out.len
    have hbn:=HGood.out.inv.bounds
    have hn65:n<=65536:=by
     obtain⟨b1,b2,b3,b4,b5,b6,b7,b8⟩:=hbn
     rw[hlen] at b3
     omega
    have hs1:x.aH.length=1:=by rw[HGood.out.inv.aH];rfl
    have HSM:=hJ (fun(wx:World) (hb:Below w10.heap.size w10 wx)=>nT wx og og2 1 gc gc2 x hs1 oZ (HS110.out.reads.below hb) (HS10.out.reads.below hb))
    have HCE:=hJ (fun(wx:World) (hb:Below w10.heap.size w10 wx)=>cells_at (HM10.out.below hb) (by rw[hlen];exact hn65))
    rw[hlen] at HCE
    have HSA:=hJ (fun(wx:World) (p:Nat) (hb:Below w10.heap.size w10 wx) (h:wx.heap[p]?=some (.cells (cs.map (Value.int .u32)).toArray 32 (0,0)))=>same_eq wx p gz n cs 32 32 hlen.symm oZ h (HZ10.out.below hb).cells)
    have HFr:=hJ (fun(k:Nat) (hk:k<W.heap.size) (a:k≠mb) (b:k≠cb) (c:k≠Wb)=>(HOth k c).trans (HFr8.out k hk a b))
    clear hLow8 hLow9 hLow10 HOth HOth9 hbn hs1 hTW n1 n2 n3 n4 n5 n6 n7 n8 n9 n10 n11
    refine aJ (fun(p:Nat) jz=>[.pointer (some ⟨Wb,0,none⟩),.pointer (some ⟨Wb,0,none⟩),.pointer (some ⟨Wb,26,none⟩),.agg (aQ (.slice og 1 gc) x),.pointer (some ⟨Wb,0,none⟩),.pointer (some ⟨Wb,0,none⟩),.pointer (some ⟨Wb,35,none⟩),.pointer (some ⟨Wb,36,none⟩),.agg (aQ (.slice og2 1 gc2) x),.bool true,.bool true,.pointer (some ⟨Wb,0,none⟩),.pointer (some ⟨Wb,0,none⟩),.pointer (some ⟨Wb,25,none⟩),.pointer (some ⟨mb,0,none⟩),.slice (some ⟨p,0,none⟩) n n,.pointer (some ⟨Wb,0,none⟩),.pointer (some ⟨Wb,0,none⟩),.pointer (some ⟨Wb,35,none⟩),.pointer (some ⟨Wb,35,none⟩),.slice (some ⟨gz,0,none⟩) n n,.bool true,.bool true,.bool true].getD jz undef)
     (fun p l9 wx=>Below w10.heap.size w10 wx/\(l9 15=true->wx.heap[p]?=some (.cells (cs.map (Value.int .u32)).toArray 32 (0,0))))
     kZ kZ pZ 0 ?_ ?_ ?_
    ·exact⟨(Below.refl _ _).drew,fun h=>jZ⟩
    ·intro i o ho p l9 wx hR hl he hcl K hK
     rcases i with _|_|_|_|_|_|_|_|_|_|_|_|_|_|_|_|_|_|_|_|_|_|_|_|i
     any_goals first | (cases ho;go_simp;exact hK p wx (fun _ _=>rfl) hR;done) | fail
     ·cases ho
      refine aW 46 (.tmp 60) rfl Wb 26 rfl 51 (aY (ak (dd:Int) tt ss bk rm kf bf) (af B S C (m:Int) L) (.pointer (some ⟨mb,0,none⟩)) (aQ (.slice og 1 gc) x) (aK (.slice (some ⟨gz,0,none⟩) n n) (.slice og2 1 gc2) x)) (aQ (.slice og 1 gc) x) (0,0) _ (aj HX10.out hR.1) (kQ rfl rfl) Tryz.underlying46 rfl (aN _ _) ?_
      exact hK p wx (fun _ _=>rfl) hR
     ·cases ho
      refine aW 46 (.tmp 65) rfl Wb 36 rfl 51 (aY (ak (dd:Int) tt ss bk rm kf bf) (af B S C (m:Int) L) (.pointer (some ⟨mb,0,none⟩)) (aQ (.slice og 1 gc) x) (aK (.slice (some ⟨gz,0,none⟩) n n) (.slice og2 1 gc2) x)) (aQ (.slice og2 1 gc2) x) (0,0) _ (aj HX10.out hR.1) (II _ _ _ rfl rfl rfl) Tryz.underlying46 rfl (aN _ _) ?_
      exact hK p wx (fun _ _=>rfl) hR
     ·cases ho
      have HRr:=hJ hR
      clear hR
      go_simp
      refine(HSM.out wx HRr.out.1).mono ?_
      rintro e9 w9 ⟨rfl,hb9⟩
      exact hK p w9 (fun _ _=>rfl) ⟨ah HRr.out.1 hb9,fun h=>aj (HRr.out.2 h) hb9⟩
     ·cases ho
      have q:=(show wx.cell? ⟨Wb,25,none⟩=some (.pointer (some ⟨mb,0,none⟩)) from(ae (aj HX10.out hR.1) 25).trans (lC rfl rfl))
      go_simp
      exact hK p wx (fun _ _=>rfl) hR
     ·cases ho
      have HRr:=hJ hR
      clear hR
      go_simp
      refine(HCE.out wx HRr.out.1).mono ?_
      rintro e9 w9 ⟨rfl,hr9,hb9⟩
      refine hK wx.heap.size w9 (fun j hj=>?_) ⟨ah HRr.out.1 hb9,fun _=>hr9⟩
      rcases j with _|_|_|_|_|_|_|_|_|_|_|_|_|_|_|_|_|_|_|_|_|_|_|_|j
      all_goals first | rfl | (rw[hl] at hj;cases hj)
     ·cases ho
      have q:=(show wx.cell? ⟨Wb,35,none⟩=some (.slice (some ⟨gz,0,none⟩) n n) from(ae (aj HX10.out hR.1) 35).trans (lS rfl rfl rfl 0 _ rfl))
      go_simp
      exact hK p wx (fun _ _=>rfl) hR
     ·cases ho
      have h15:l9 15=true:=he ⟨15,.data⟩ sZ rfl
      have HRr:=hJ hR
      have H15:=hJ h15
      clear hR h15
      go_simp
      refine(HSA.out wx p HRr.out.1 (HRr.out.2 H15.out)).mono ?_
      rintro e9 w9 ⟨rfl,hb9⟩
      exact hK p w9 (fun _ _=>rfl) ⟨ah HRr.out.1 hb9,fun h=>aj (HRr.out.2 h) hb9⟩
     ·simp at ho
    ·intro p lz wx hl hR
     have HRr:=hJ hR.1
     clear hR hl
     go_wp2_with fail
     go_ret
     exact⟨rfl,l',s',og,og2,gc,gc2,gz,oZ,⟨aj HX10.out HRr.out,HM10.out.below HRr.out,hl',hs',HZ10.out.below HRr.out,HZC.out,aA HS110.out HRr.out,aA HS10.out HRr.out,HGood.out.inv,hlen,ah HLow10.out HRr.out,HD.out.oldm,HD.out.oldc,HD.out.oldb⟩,fun k hk a b c=>kX hk (HFr.out k hk a b c) HRr.out⟩
   ·obtain⟨he,g,hvc,hz7,hs7,hgo⟩:=hA
    subst he hvc
    obtain⟨ao,ac,hvs⟩:=mg hs7 1 (by rw[HGood.out.inv.aH];rfl)
    subst hvs
    obtain⟨p3,p4,p5⟩:=HP3.out
    obtain⟨r1,r2⟩:=p5 rfl
    rw[HY.out.2 rfl] at r1 r2
    have hsn:sn=1:=by rw[p4,<- r2,HGood.out.inv.aH];rfl
    subst hsn
    rw[<- r1] at HP1
    have hs7:=hs7.lower (a:=W0.heap.size) oZ
    have hs17:bF w7 W0.heap.size (.slice so 1 sc) x'.aH:=by
     rw[r2]
     rw[<- r2] at p3
     rw[<- r2]
     exact aA (bF.lower p3 oZ) hb7
    have hzc:g≠cb:=oZ
    clear p3 p4 p5 r1 r2 hgo
    have HZ7:=hJ hz7
    have HS7:=hJ hs7
    have HS17:=hJ hs17
    have HZC:=hJ hzc
    clear hz7 hs7 hs17 hzc hb7
    have HTW0:=hJ (show w7.heap.size≠Wb by have:=HB67.out.size;omega)
    clear n1 n2 n3 n4 n5 n6 n7 n8 n9 n10 n11 k1 k2 k3 hcb6
    go_upto_region 9 with (first
     | (refine zZ rfl 49 (.tmp 10) (.tmp 34) rfl w7.heap.size (aK (.slice (some ⟨g,0,none⟩) n n) (.slice ao 1 ac) x') rfl rfl 49 dE (nZ w7 _) (aI _ _ _) rfl cZ ?_)
     | fail)
    rw[World.setRow_alloc_new]
    have hb8:=au (w:=w7) (A:=.cells (aK (.slice (some ⟨g,0,none⟩) n n) (.slice ao 1 ac) x') 49)
    have HT8:=hJ (nZ w7 (.cells (aK (.slice (some ⟨g,0,none⟩) n n) (.slice ao 1 ac) x') 49))
    have HB78:=hJ (ah HB67.out hb8)
    have HZ8:=hJ (HZ7.out.below hb8)
    have HS8:=hJ (show bF (w7.alloc (.cells (aK (.slice (some ⟨g,0,none⟩) n n) (.slice ao 1 ac) x') 49)) W0.heap.size (.slice ao 1 ac) x'.aH from aA HS7.out hb8)
    have HS18:=hJ (show bF (w7.alloc (.cells (aK (.slice (some ⟨g,0,none⟩) n n) (.slice ao 1 ac) x') 49)) W0.heap.size (.slice so 1 sc) x'.aH from aA HS17.out hb8)
    generalize w7.alloc (.cells (aK (.slice (some ⟨g,0,none⟩) n n) (.slice ao 1 ac) x') 49)=w8 at HT8 HB78 HZ8 HS8 HS18 ⊢
    obtain⟨tb,htb⟩:∃ tb,w7.heap.size=tb:=⟨_,rfl⟩
    rw[htb] at HT8 ⊢
    have hTW:tb≠Wb:=by rw[<- htb];exact HTW0.out
    have HR8:=hJ (HR.out.below HB78.out)
    have HX8:=hJ (aj HX6.out HB78.out)
    have HW8:=hJ (aj HP1.out HB78.out)
    have qe:w8.cell? ⟨wb+1,0,none⟩=some (.int .i64 0):=ae (aj HP2.out HB78.out) 0
    have hLow8:=ah hLow6 HB78.out
    have HFr8:=hJ (fun(k:Nat) (hk:k<W.heap.size) (a:k≠mb) (b:k≠cb)=>kX hk (HFr6.out k hk a b) HB78.out)
    have HM8:=hJ (hm6.below HB78.out)
    clear htb hb8 hm6 hLow6
    go_upto_region 13 with (first
     | (go_at_call 29;refine(uz HR8.out).mono ?_;rintro e9 w9 ⟨rfl,rfl⟩)
     | (go_at_call 53;refine(BV HR8.out).mono ?_;rintro e9 w9 ⟨rfl,rfl⟩)
     | (refine yZ rfl 46 (.tmp 5) rfl wb rfl 46 (aQ (.slice so 1 sc) x') (0,0) _ HW8.out Tryz.underlying46 rfl (aN _ _) ?_)
     | (refine di rfl 46 (.tmp 53) (.tmp 51) rfl Wb 26 (aQ (.slice so 1 sc) x') rfl rfl 51 (aY (ak (dd:Int) tt ss bk rm kf bf) (af B S C (m:Int) L) (.pointer (some ⟨mb,0,none⟩)) (aQ (.slice og 1 gc) x) (aK (.slice (some ⟨gz,0,none⟩) n n) (.slice og2 1 gc2) x)) (aY (ak (dd:Int) tt ss bk rm kf bf) (af B S C (m:Int) L) (.pointer (some ⟨mb,0,none⟩)) (aQ (.slice so 1 sc) x') (aK (.slice (some ⟨gz,0,none⟩) n n) (.slice og2 1 gc2) x)) HX8.out (Nat.le_of_ble_eq_true rfl) (aN _ _) (dY _ _ _ _) rfl ?_)
     | fail)
    have HX9:=hJ (setRow_heap w8 Wb _ (aY (ak (dd:Int) tt ss bk rm kf bf) (af B S C (m:Int) L) (.pointer (some ⟨mb,0,none⟩)) (aQ (.slice so 1 sc) x') (aK (.slice (some ⟨gz,0,none⟩) n n) (.slice og2 1 gc2) x)) _ _ HX8.out)
    have hLow9:=below_setRow hLow8 HD.out.oldb (aY (ak (dd:Int) tt ss bk rm kf bf) (af B S C (m:Int) L) (.pointer (some ⟨mb,0,none⟩)) (aQ (.slice so 1 sc) x') (aK (.slice (some ⟨gz,0,none⟩) n n) (.slice og2 1 gc2) x))
    have HOth9:∀ j,j≠Wb->(w8.setRow Wb (aY (ak (dd:Int) tt ss bk rm kf bf) (af B S C (m:Int) L) (.pointer (some ⟨mb,0,none⟩)) (aQ (.slice so 1 sc) x') (aK (.slice (some ⟨gz,0,none⟩) n n) (.slice og2 1 gc2) x))).heap[j]?=w8.heap[j]?:=fun j hj=>qZ _ _ _ _ hj
    have HT9:=hJ ((HOth9 tb hTW).trans HT8.out)
    clear qe
    generalize w8.setRow Wb (aY (ak (dd:Int) tt ss bk rm kf bf) (af B S C (m:Int) L) (.pointer (some ⟨mb,0,none⟩)) (aQ (.slice so 1 sc) x') (aK (.slice (some ⟨gz,0,none⟩) n n) (.slice og2 1 gc2) x))=w9 at HX9 hLow9 HOth9 HT9 ⊢
    go_upto_region 14 with (first
     | (refine yZ rfl 49 (.tmp 10) rfl tb rfl 49 (aK (.slice (some ⟨g,0,none⟩) n n) (.slice ao 1 ac) x') (0,0) _ HT9.out Tryz.underlying49 rfl (aI _ _ _) ?_)
     | (refine di rfl 49 (.tmp 57) (.tmp 55) rfl Wb 35 (aK (.slice (some ⟨g,0,none⟩) n n) (.slice ao 1 ac) x') rfl rfl 51 (aY (ak (dd:Int) tt ss bk rm kf bf) (af B S C (m:Int) L) (.pointer (some ⟨mb,0,none⟩)) (aQ (.slice so 1 sc) x') (aK (.slice (some ⟨gz,0,none⟩) n n) (.slice og2 1 gc2) x)) (aY (ak (dd:Int) tt ss bk rm kf bf) (af B S C (m:Int) L) (.pointer (some ⟨mb,0,none⟩)) (aQ (.slice so 1 sc) x') (aK (.slice (some ⟨g,0,none⟩) n n) (.slice ao 1 ac) x')) HX9.out (Nat.le_of_ble_eq_true rfl) (aI _ _ _) cZ rfl ?_)
     | fail)
    have HX10:=hJ (setRow_heap w9 Wb _ (aY (ak (dd:Int) tt ss bk rm kf bf) (af B S C (m:Int) L) (.pointer (some ⟨mb,0,none⟩)) (aQ (.slice so 1 sc) x') (aK (.slice (some ⟨g,0,none⟩) n n) (.slice ao 1 ac) x')) _ _ HX9.out)
    have hLow10:=below_setRow hLow9 HD.out.oldb (aY (ak (dd:Int) tt ss bk rm kf bf) (af B S C (m:Int) L) (.pointer (some ⟨mb,0,none⟩)) (aQ (.slice so 1 sc) x') (aK (.slice (some ⟨g,0,none⟩) n n) (.slice ao 1 ac) x'))
    have HOth:∀ j,j≠Wb->(w9.setRow Wb (aY (ak (dd:Int) tt ss bk rm kf bf) (af B S C (m:Int) L) (.pointer (some ⟨mb,0,none⟩)) (aQ (.slice so 1 sc) x') (aK (.slice (some ⟨g,0,none⟩) n n) (.slice ao 1 ac) x'))).heap[j]?=w8.heap[j]?:=fun j hj=>(qZ _ _ _ _ hj).trans (HOth9 j hj)
    generalize w9.setRow Wb (aY (ak (dd:Int) tt ss bk rm kf bf) (af B S C (m:Int) L) (.pointer (some ⟨mb,0,none⟩)) (aQ (.slice so 1 sc) x') (aK (.slice (some ⟨g,0,none⟩) n n) (.slice ao 1 ac) x'))=w10 at HX10 hLow10 HOth ⊢
    obtain⟨n1,n2,n3,n4,n5,n6,n7,n8,n9,n10,n11⟩:=HNum.out
    have HM10:=hJ (HM8.out.eY (HOth mb (Ne.symm n9)) (HOth cb (Ne.symm n10)))
    have HZ10:=hJ (HZ8.out.of_block (HOth g (HZ8.out.ne HX8.out dZ)))
    have HS10:=hJ (bF.keep HS8.out HX8.out dZ (fun j hj=>HOth j hj))
    have HS110:=hJ (bF.keep HS18.out HX8.out dZ (fun j hj=>HOth j hj))
    have HLow10:=hJ hLow10
    have hlen:cs'.length=n:=HGood.out.len.trans HD.out.len
    have hbn:=HGood.out.inv.bounds
    have hn65:n<=65536:=by
     obtain⟨b1,b2,b3,b4,b5,b6,b7,b8⟩:=hbn
     rw[hlen] at b3
     omega
    have hs1:x'.aH.length=1:=by rw[HGood.out.inv.aH];rfl
    have HSM:=hJ (fun(wx:World) (hb:Below w10.heap.size w10 wx)=>nT wx so ao 1 sc ac x' hs1 oZ (HS110.out.reads.below hb) (HS10.out.reads.below hb))
    have HCE:=hJ (fun(wx:World) (hb:Below w10.heap.size w10 wx)=>cells_at (HM10.out.below hb) (by rw[hlen];exact hn65))
    rw[hlen] at HCE
    have HSA:=hJ (fun(wx:World) (p:Nat) (hb:Below w10.heap.size w10 wx) (h:wx.heap[p]?=some (.cells (cs'.map (Value.int .u32)).toArray 32 (0,0)))=>same_eq wx p g n cs' 32 32 hlen.symm oZ h (HZ10.out.below hb).cells)
    have HFr:=hJ (fun(k:Nat) (hk:k<W.heap.size) (a:k≠mb) (b:k≠cb) (c:k≠Wb)=>(HOth k c).trans (HFr8.out k hk a b))
    clear hLow8 hLow9 hLow10 HOth HOth9 hbn hs1 hTW n1 n2 n3 n4 n5 n6 n7 n8 n9 n10 n11
    refine aJ (fun(p:Nat) jz=>[.pointer (some ⟨Wb,0,none⟩),.pointer (some ⟨Wb,0,none⟩),.pointer (some ⟨Wb,26,none⟩),.agg (aQ (.slice so 1 sc) x'),.pointer (some ⟨Wb,0,none⟩),.pointer (some ⟨Wb,0,none⟩),.pointer (some ⟨Wb,35,none⟩),.pointer (some ⟨Wb,36,none⟩),.agg (aQ (.slice ao 1 ac) x'),.bool true,.bool true,.pointer (some ⟨Wb,0,none⟩),.pointer (some ⟨Wb,0,none⟩),.pointer (some ⟨Wb,25,none⟩),.pointer (some ⟨mb,0,none⟩),.slice (some ⟨p,0,none⟩) n n,.pointer (some ⟨Wb,0,none⟩),.pointer (some ⟨Wb,0,none⟩),.pointer (some ⟨Wb,35,none⟩),.pointer (some ⟨Wb,35,none⟩),.slice (some ⟨g,0,none⟩) n n,.bool true,.bool true,.bool true].getD jz undef)
     (fun p l9 wx=>Below w10.heap.size w10 wx/\(l9 15=true->wx.heap[p]?=some (.cells (cs'.map (Value.int .u32)).toArray 32 (0,0))))
     kZ kZ pZ 0 ?_ ?_ ?_
    ·exact⟨(Below.refl _ _).drew,fun h=>jZ⟩
    ·intro i o ho p l9 wx hR hl he hcl K hK
     rcases i with _|_|_|_|_|_|_|_|_|_|_|_|_|_|_|_|_|_|_|_|_|_|_|_|i
     any_goals first | (cases ho;go_simp;exact hK p wx (fun _ _=>rfl) hR;done) | fail
     ·cases ho
      refine aW 46 (.tmp 60) rfl Wb 26 rfl 51 (aY (ak (dd:Int) tt ss bk rm kf bf) (af B S C (m:Int) L) (.pointer (some ⟨mb,0,none⟩)) (aQ (.slice so 1 sc) x') (aK (.slice (some ⟨g,0,none⟩) n n) (.slice ao 1 ac) x')) (aQ (.slice so 1 sc) x') (0,0) _ (aj HX10.out hR.1) (kQ rfl rfl) Tryz.underlying46 rfl (aN _ _) ?_
      exact hK p wx (fun _ _=>rfl) hR
     ·cases ho
      refine aW 46 (.tmp 65) rfl Wb 36 rfl 51 (aY (ak (dd:Int) tt ss bk rm kf bf) (af B S C (m:Int) L) (.pointer (some ⟨mb,0,none⟩)) (aQ (.slice so 1 sc) x') (aK (.slice (some ⟨g,0,none⟩) n n) (.slice ao 1 ac) x')) (aQ (.slice ao 1 ac) x') (0,0) _ (aj HX10.out hR.1) (II _ _ _ rfl rfl rfl) Tryz.underlying46 rfl (aN _ _) ?_
      exact hK p wx (fun _ _=>rfl) hR
     ·cases ho
      have HRr:=hJ hR
      clear hR
      go_simp
      refine(HSM.out wx HRr.out.1).mono ?_
      rintro e9 w9 ⟨rfl,hb9⟩
      exact hK p w9 (fun _ _=>rfl) ⟨ah HRr.out.1 hb9,fun h=>aj (HRr.out.2 h) hb9⟩
     ·cases ho
      have q:=(show wx.cell? ⟨Wb,25,none⟩=some (.pointer (some ⟨mb,0,none⟩)) from(ae (aj HX10.out hR.1) 25).trans (lC rfl rfl))
      go_simp
      exact hK p wx (fun _ _=>rfl) hR
     ·cases ho
      have HRr:=hJ hR
      clear hR
      go_simp
      refine(HCE.out wx HRr.out.1).mono ?_
      rintro e9 w9 ⟨rfl,hr9,hb9⟩
      refine hK wx.heap.size w9 (fun j hj=>?_) ⟨ah HRr.out.1 hb9,fun _=>hr9⟩
      rcases j with _|_|_|_|_|_|_|_|_|_|_|_|_|_|_|_|_|_|_|_|_|_|_|_|j
      all_goals first | rfl | (rw[hl] at hj;cases hj)
     ·cases ho
      have q:=(show wx.cell? ⟨Wb,35,none⟩=some (.slice (some ⟨g,0,none⟩) n n) from(ae (aj HX10.out hR.1) 35).trans (lS rfl rfl rfl 0 _ rfl))
      go_simp
      exact hK p wx (fun _ _=>rfl) hR
     ·cases ho
      have h15:l9 15=true:=he ⟨15,.data⟩ sZ rfl
      have HRr:=hJ hR
      have H15:=hJ h15
      clear hR h15
      go_simp
      refine(HSA.out wx p HRr.out.1 (HRr.out.2 H15.out)).mono ?_
      rintro e9 w9 ⟨rfl,hb9⟩
      exact hK p w9 (fun _ _=>rfl) ⟨ah HRr.out.1 hb9,fun h=>aj (HRr.out.2 h) hb9⟩
     ·simp at ho
    ·intro p lz wx hl hR
     have HRr:=hJ hR.1
     clear hR hl
     go_wp2_with fail
     go_ret
     exact⟨rfl,l',s',so,ao,sc,ac,g,oZ,⟨aj HX10.out HRr.out,HM10.out.below HRr.out,hl',hs',HZ10.out.below HRr.out,HZC.out,aA HS110.out HRr.out,aA HS10.out HRr.out,HGood.out.inv,hlen,ah HLow10.out HRr.out,HD.out.oldm,HD.out.oldc,HD.out.oldb⟩,fun k hk a b c=>kX hk (HFr.out k hk a b c) HRr.out⟩
  ·have HG:=hJ hg
   clear hg
   go_wp2_with fail
   go_roundw
   case rel=>exact⟨i+1,oZ,by go_num,HG.out⟩
   case measure=>simp[intOf];omega
theorem NC {W0 W:World} {Wb mb cb dd:Nat} {tt:Int} {ss:Nat->Int} {bk rm:Int} {kf bf:Nat} {B S:Nat->Int} {C L:Int} {m n nd:Nat} {cs:List Int} {x:Sx} {d:dm} {l s:Int} {og og2:Option Addr} {gc gc2 gz:Nat} (hK:KC dd tt ss bk rm B S C L m) (hW:DW W0 W Wb mb cb dd tt ss bk rm kf bf B S C L m n nd cs x d l s og og2 gc gc2 gz) (id:Int) (hver:x.dR+1<=4294967295) (hls:l+s<=100000000) (fo:Option Addr) (F:List ByteArray) (fc:Nat) (hFs:∀ f∈F,f.size<=1000000) (hFn:F.length<=1000000) (hid:U id) (hT:∀ wr,(∀ k,k<W.heap.size->k≠mb->k≠cb->wr.heap[k]?=W.heap[k]?)->ed wr/\iY wr fo F) :
  Calls Tryz.prog 18 #[.pointer (some ⟨Wb,0,none⟩),.agg #[.bool false,.int .u32 id,.slice fo F.length fc]] W fun e W'=>e=.returned (.bool true)/\∃ e0 cs' x' nd' d' l' s' og' og2' gc' gc2' gz',tN B S C m dd tt nd id F cs x d e0 cs' x' nd' d'/\l'+s'<=l+s+500000/\DW W0 W' Wb mb cb dd tt ss bk rm kf bf B S C L m n nd' cs' x' d' l' s' og' og2' gc' gc2' gz'/\∀ k,k<W.heap.size->k≠mb->k≠cb->k≠Wb->W'.heap[k]?=W.heap[k]?:=by
 obtain⟨e0,cs',x',nd',d',hgood⟩:=hW.inv.add id F hid hver
 refine(JD hK hW id hver hls fo F fc hFs hFn hid hgood hT).mono ?_
 rintro e w' ⟨he,l',s',og',og2',gc',gc2',gz',h1,h2,h3⟩
 exact⟨he,e0,cs',x',nd',d',l',s',og',og2',gc',gc2',gz',hgood,h1,h2,h3⟩
theorem Kv (w:World) (d t:Int) (ss:Nat->Int) (bk rm:Int) (kf bf:Nat) (h:¬ fU d t ss bk rm) :
  Calls Tryz.prog 14 #[.agg (ak d t ss bk rm kf bf)] w fun e w'=>e=.returned (.tuple #[.pointer none,.bool true])/\Below w.heap.size w w':=by
 go_enter Tryz.func14,Tryz.ntmps14
 go_upto_region 1 with fail
 have HC0:=hJ (nZ w (.cells (ak d t ss bk rm kf bf) 25))
 have HB0:=hJ (au (w:=w) (A:=.cells (ak d t ss bk rm kf bf) 25))
 generalize w.alloc (.cells (ak d t ss bk rm kf bf) 25)=w0 at HC0 HB0 ⊢
 go_wp2_with (first
  | (refine yZ rfl 25 (.tmp 1) rfl w.heap.size rfl 25 (ak d t ss bk rm kf bf) (0,0) _ HC0.out Tryz.underlying25 rfl (eu _ _ _ _ _ _ _) ?_)
  | fail)
 refine(FO w0 d t ss bk rm kf bf h).mono ?_;rintro e w1 ⟨rfl,hb⟩
 have HC1:=hJ (aj HC0.out hb)
 have HB1:=hJ (ah HB0.out hb)
 clear hb
 go_upto_region 2 with (first
  | (refine zZ rfl 42 (.tmp 4) (.tmp 16) rfl w1.heap.size (af (fun _=>0) (fun _=>0) 0 0 0) rfl rfl 42 (af (fun _=>0) (fun _=>0) 0 0 0) (nZ w1 _) (ai _ _ _ _ _) rfl (by simp[af,Value.oneCell']) ?_)
  | fail)
 rw[World.setRow_alloc_new]
 have HP2:=hJ (nZ w1 (.cells (af (fun _=>0) (fun _=>0) 0 0 0) 42))
 have hb2:=au (w:=w1) (A:=.cells (af (fun _=>0) (fun _=>0) 0 0 0) 42)
 have HC2:=hJ (aj HC1.out hb2)
 have HB2:=hJ (ah HB1.out hb2)
 generalize w1.alloc (.cells (af (fun _=>0) (fun _=>0) 0 0 0) 42)=w2 at HP2 HC2 HB2 ⊢
 clear hb2
 go_wp2_with fail
 go_ret2
 exact⟨rfl,HB2.out⟩
theorem EO (w:World) (d t:Int) (ss:Nat->Int) (bk rm:Int) (kf bf:Nat) (h:fU d t ss bk rm) (hg:5000<az (aB ss bk rm) 6) :
  Calls Tryz.prog 14 #[.agg (ak d t ss bk rm kf bf)] w fun e w'=>e=.returned (.tuple #[.pointer none,.bool true])/\Below w.heap.size w w':=by
 go_enter Tryz.func14,Tryz.ntmps14
 go_upto_region 1 with fail
 have HC0:=hJ (nZ w (.cells (ak d t ss bk rm kf bf) 25))
 have HB0:=hJ (au (w:=w) (A:=.cells (ak d t ss bk rm kf bf) 25))
 generalize w.alloc (.cells (ak d t ss bk rm kf bf) 25)=w0 at HC0 HB0 ⊢
 go_wp2_with (first
  | (refine yZ rfl 25 (.tmp 1) rfl w.heap.size rfl 25 (ak d t ss bk rm kf bf) (0,0) _ HC0.out Tryz.underlying25 rfl (eu _ _ _ _ _ _ _) ?_)
  | fail)
 refine(lI w0 d t ss bk rm kf bf h).mono ?_;rintro e w1 ⟨rfl,hb⟩
 have HC1:=hJ (aj HC0.out hb)
 have HB1:=hJ (ah HB0.out hb)
 clear hb
 go_upto_region 2 with (first
  | (refine zZ rfl 42 (.tmp 4) (.tmp 16) rfl w1.heap.size (af (az (aB ss bk rm)) (aB ss bk rm) (az (aB ss bk rm) 6) (slotsOf t) (bY d t)) rfl rfl 42 (af (fun _=>0) (fun _=>0) 0 0 0) (nZ w1 _) (ai _ _ _ _ _) rfl (by simp[af,Value.oneCell']) ?_)
  | fail)
 rw[World.setRow_alloc_new]
 have HP2:=hJ (nZ w1 (.cells (af (az (aB ss bk rm)) (aB ss bk rm) (az (aB ss bk rm) 6) (slotsOf t) (bY d t)) 42))
 have hb2:=au (w:=w1) (A:=.cells (af (az (aB ss bk rm)) (aB ss bk rm) (az (aB ss bk rm) 6) (slotsOf t) (bY d t)) 42)
 have HC2:=hJ (aj HC1.out hb2)
 have HB2:=hJ (ah HB1.out hb2)
 generalize w1.alloc (.cells (af (az (aB ss bk rm)) (aB ss bk rm) (az (aB ss bk rm) 6) (slotsOf t) (bY d t)) 42)=w2 at HP2 HC2 HB2 ⊢
 clear hb2
 have c12:w2.cell? ⟨w1.heap.size,12,none⟩=some (.int .i64 (az (aB ss bk rm) 6)):=ae HP2.out 12
 go_wp2_with fail
 go_ret2
 exact⟨rfl,HB2.out⟩
theorem FV (w:World) (d t:Int) (ss:Nat->Int) (bk rm:Int) (kf bf:Nat) {n an ln m dd:Nat} (h:fU d t ss bk rm) (hN:CN d t ss bk rm n an ln m dd) (hg:n<=5000) (hfull:aB ss bk rm 5<(ln:Int)+2) :
  Calls Tryz.prog 14 #[.agg (ak d t ss bk rm kf bf)] w fun e w'=>e=.returned (.tuple #[.pointer none,.bool true])/\Below w.heap.size w w':=by
 go_enter Tryz.func14,Tryz.ntmps14
 go_upto_region 1 with fail
 have HC0:=hJ (nZ w (.cells (ak d t ss bk rm kf bf) 25))
 have HB0:=hJ (au (w:=w) (A:=.cells (ak d t ss bk rm kf bf) 25))
 generalize w.alloc (.cells (ak d t ss bk rm kf bf) 25)=w0 at HC0 HB0 ⊢
 go_wp2_with (first
  | (refine yZ rfl 25 (.tmp 1) rfl w.heap.size rfl 25 (ak d t ss bk rm kf bf) (0,0) _ HC0.out Tryz.underlying25 rfl (eu _ _ _ _ _ _ _) ?_)
  | fail)
 refine(lI w0 d t ss bk rm kf bf h).mono ?_;rintro e w1 ⟨rfl,hb⟩
 have HC1:=hJ (aj HC0.out hb)
 have HB1:=hJ (ah HB0.out hb)
 clear hb
 go_upto_region 2 with (first
  | (refine zZ rfl 42 (.tmp 4) (.tmp 16) rfl w1.heap.size (af (az (aB ss bk rm)) (aB ss bk rm) (az (aB ss bk rm) 6) (slotsOf t) (bY d t)) rfl rfl 42 (af (fun _=>0) (fun _=>0) 0 0 0) (nZ w1 _) (ai _ _ _ _ _) rfl (by simp[af,Value.oneCell']) ?_)
  | fail)
 rw[World.setRow_alloc_new]
 have HP2:=hJ (nZ w1 (.cells (af (az (aB ss bk rm)) (aB ss bk rm) (az (aB ss bk rm) 6) (slotsOf t) (bY d t)) 42))
 have hb2:=au (w:=w1) (A:=.cells (af (az (aB ss bk rm)) (aB ss bk rm) (az (aB ss bk rm) 6) (slotsOf t) (bY d t)) 42)
 have HC2:=hJ (aj HC1.out hb2)
 have HB2:=hJ (ah HB1.out hb2)
 generalize w1.alloc (.cells (af (az (aB ss bk rm)) (aB ss bk rm) (az (aB ss bk rm) 6) (slotsOf t) (bY d t)) 42)=w2 at HP2 HC2 HB2 ⊢
 clear hb2
 have hcells:=hN.cells
 have c12:w2.cell? ⟨w1.heap.size,12,none⟩=some (.int .i64 (n:Int)):=by rw[<- hcells];exact ae HP2.out 12
 have hn5:¬ (5000:Int)<(n:Int):=oZ
 have hln:=hN.ln_
 have hm1:=hN.m1
 have hd1:=hN.d1
 have hs0:=hN.s0
 have hfits:=hN.fits
 have han:=hN.an_
 have ha3:=hN.a3
 have hn0:1<=(n:Int):=oZ
 have hn6:(n:Int)<=65536:=oZ
 have HNum:=hJ (And.intro hln (And.intro hm1 (And.intro hd1 (And.intro hs0 (And.intro hfits (And.intro han ha3))))))
 have HN:=hJ hN
 have HFull:=hJ hfull
 have HH:=hJ h
 clear hln hm1 hd1 hs0 hfits han ha3 hcells hN hfull h
 go_wp2_with fail
 refine(Ir _ (n:Int) hn0 hn6).mono ?_;rintro e w3 ⟨rfl,hm,hb⟩
 have HM3:=hJ hm
 have HC3:=hJ (aj HC2.out hb)
 have HB3:=hJ (ah HB2.out hb)
 clear hm hb c12
 obtain⟨mb,hmb⟩:∃ mb,w2.heap.size+1=mb:=⟨_,rfl⟩
 rw[hmb] at HM3 ⊢
 clear hmb
 go_wp2_with (first
  | (refine yZ rfl 25 (.tmp 1) rfl w.heap.size rfl 25 (ak d t ss bk rm kf bf) (0,0) _ HC3.out Tryz.underlying25 rfl (eu _ _ _ _ _ _ _) ?_)
  | fail)
 refine(Je HM3.out d t ss bk rm kf bf HH.out HN.out.plan sZ (by have:=HNum.out;omega) HFull.out HNum.out.2.2.2.1 (by have:=HNum.out;omega) (by have:=HNum.out;omega)).mono ?_;rintro e w4 ⟨rfl,hb⟩
 have HM4:=hJ (HM3.out.below hb)
 have HC4:=hJ (aj HC3.out hb)
 have HB4:=hJ (ah HB3.out hb)
 clear hb
 go_upto_region 6 with (first
  | (refine zZ rfl 46 (.tmp 8) (.tmp 35) rfl w4.heap.size (aQ (.slice none 0 0) aO) rfl rfl 46 (aQ (.slice none 0 0) aO) (nZ w4 _) (aN _ _) rfl (dY _ _ _ _) ?_)
  | fail)
 rw[World.setRow_alloc_new]
 have hb5:=au (w:=w4) (A:=.cells (aQ (.slice none 0 0) aO) 46)
 have HM5:=hJ (HM4.out.below hb5)
 have HC5:=hJ (aj HC4.out hb5)
 have HB5:=hJ (ah HB4.out hb5)
 generalize w4.alloc (.cells (aQ (.slice none 0 0) aO) 46)=w5 at HM5 HC5 HB5 ⊢
 clear hb5
 go_wp2_with (first
  | (refine yZ rfl 25 (.tmp 1) rfl w.heap.size rfl 25 (ak d t ss bk rm kf bf) (0,0) _ HC5.out Tryz.underlying25 rfl (eu _ _ _ _ _ _ _) ?_)
  | fail)
 refine(BU _ d t ss bk rm kf bf HH.out HN.out.plan (by have:=HNum.out;omega) HFull.out).mono ?_;rintro e w6 ⟨rfl,hb⟩
 have HM6:=hJ (HM5.out.below hb)
 have HB6:=hJ (ah HB5.out hb)
 clear hb
 go_upto_region 7 with (first
  | (refine zZ rfl 49 (.tmp 10) (.tmp 40) rfl w6.heap.size dE rfl rfl 49 dE (fO w6 _ _) (aI _ _ _) rfl (by simp[dE,aK,Value.oneCell']) ?_)
  | (refine zZ rfl 42 (.tmp 11) (.tmp 41) rfl (w6.heap.size+1) _ rfl rfl 42 (af (fun _=>0) (fun _=>0) 0 0 0) ((qZ _ _ _ _ oZ).trans (fK w6 _ _)) (ai _ _ _ _ _) rfl (by simp[af,Value.oneCell']) ?_)
  | fail)
 obtain⟨w7,hw7⟩:∃ w7,w7=(((w6.alloc (.cells dE 49)).alloc (.cells (af (fun _=>0) (fun _=>0) 0 0 0) 42)).setRow w6.heap.size dE).setRow (w6.heap.size+1) (af (az (aB ss bk rm)) (aB ss bk rm) (n:Int) (m:Int) (ln:Int)):=⟨_,rfl⟩
 rw[show (((w6.alloc (.cells #[.slice none 0 0,.slice none 0 0,.int .i64 0,.int .u32 0,.int .i64 0,.int .i64 0,.int .i64 0,.int .i64 0,.int .i64 0,.int .i64 0] 49)).alloc (.cells #[.int .i64 0,.int .i64 0,.int .i64 0,.int .i64 0,.int .i64 0,.int .i64 0,.int .i64 0,.int .i64 0,.int .i64 0,.int .i64 0,.int .i64 0,.int .i64 0,.int .i64 0,.int .i64 0,.int .i64 0] 42)).setRow w6.heap.size dE).setRow (w6.heap.size+1) (af (az (aB ss bk rm)) (aB ss bk rm) (n:Int) (m:Int) (ln:Int))=w7 from hw7.symm]
 have hb7:Below w6.heap.size w6 w7:=by rw[hw7];exact below_setRow (below_setRow dL (Nat.le_refl _) _) (Nat.le_succ _) _
 have HM7:=hJ (HM6.out.below hb7)
 have HB7:=hJ (ah HB6.out hb7)
 clear hw7 hb7
 go_wp2_with (first
  | (go_at_call 30;refine(Kt HM7.out).mono ?_;rintro e9 w9 ⟨rfl,rfl⟩)
  | fail)
 go_ret2
 exact⟨rfl,HB7.out⟩
theorem MZ {P:Program} {o:Oper} {a:Act} {w:World} {K:Act->World->Prop} {Q:Exit->Act->World->Prop} (t:TypeId) (parts:Array (Nat×Operand)) (ho:o.op=.build t parts) (cells:Array Value)
  (hc:P.built t (parts.map fun(i,x)=>(i,a.eval x)).toList=some cells) (h:K (a.put o.dst (.agg cells)) w):o.wp P a w K Q:=by
 refine wp_build t parts ho (by rw[hc];rfl) ?_
 rw[hc]
 exact h
theorem bF.under {w w':World} {base:Nat} {v:Value} {l:List Sg} (h:bF w base v l) (hb:Below w.heap.size w w'):bF w' base v l:=aA h hb
theorem Pn (vc vs:Value) (x:Sx):∀ (j:Nat) (v:Value),(aQ vs x).toList[j]?=some v->(aK vc vs x)[1+j]?=some v:=fun j v h=>by
 rcases j with _|_|_|_|_|_|_|_|_|j
 all_goals first | exact h | (simp[aQ] at h)
theorem DJ (w:World) (dd:Nat) (t:Int) (ss:Nat->Int) (bk rm:Int) (kf bf:Nat) {n an ln m:Nat} (h:fU (dd:Int) t ss bk rm) (hN:CN (dd:Int) t ss bk rm n an ln m dd) (hg:n<=5000) (hfit:(ln:Int)+2<=aB ss bk rm 5) :
  Calls Tryz.prog 14 #[.agg (ak (dd:Int) t ss bk rm kf bf)] w fun e w'=>∃ Wb mb mc og og2 gc gc2 gz,e=.returned (.tuple #[.pointer (some ⟨Wb,0,none⟩),.bool true]) /\
   DW w w' Wb mb mc dd t ss bk rm kf bf (az (aB ss bk rm)) (aB ss bk rm) (n:Int) (ln:Int) m n 0 (nI n an ln) (bn an ln) (fun _=>none) 0 3 og og2 gc gc2 gz:=by
 go_enter Tryz.func14,Tryz.ntmps14
 go_upto_region 1 with fail
 have HC0:=hJ (nZ w (.cells (ak (dd:Int) t ss bk rm kf bf) 25))
 have HB0:=hJ (au (w:=w) (A:=.cells (ak (dd:Int) t ss bk rm kf bf) 25))
 generalize w.alloc (.cells (ak (dd:Int) t ss bk rm kf bf) 25)=w0 at HC0 HB0 ⊢
 go_wp2_with (first
  | (refine yZ rfl 25 (.tmp 1) rfl w.heap.size rfl 25 (ak (dd:Int) t ss bk rm kf bf) (0,0) _ HC0.out Tryz.underlying25 rfl (eu _ _ _ _ _ _ _) ?_)
  | fail)
 refine(lI w0 (dd:Int) t ss bk rm kf bf h).mono ?_;rintro e w1 ⟨rfl,hb⟩
 have HC1:=hJ (aj HC0.out hb)
 have HB1:=hJ (ah HB0.out hb)
 clear hb
 rw[hN.plan]
 go_upto_region 2 with (first
  | (refine zZ rfl 42 (.tmp 4) (.tmp 16) rfl w1.heap.size (af (az (aB ss bk rm)) (aB ss bk rm) (n:Int) (m:Int) (ln:Int)) rfl rfl 42 (af (fun _=>0) (fun _=>0) 0 0 0) (nZ w1 _) (ai _ _ _ _ _) rfl (by simp[af,Value.oneCell']) ?_)
  | fail)
 rw[World.setRow_alloc_new]
 have HP2:=hJ (nZ w1 (.cells (af (az (aB ss bk rm)) (aB ss bk rm) (n:Int) (m:Int) (ln:Int)) 42))
 have hb2:=au (w:=w1) (A:=.cells (af (az (aB ss bk rm)) (aB ss bk rm) (n:Int) (m:Int) (ln:Int)) 42)
 have HC2:=hJ (aj HC1.out hb2)
 have HB2:=hJ (ah HB1.out hb2)
 generalize w1.alloc (.cells (af (az (aB ss bk rm)) (aB ss bk rm) (n:Int) (m:Int) (ln:Int)) 42)=w2 at HP2 HC2 HB2 ⊢
 clear hb2
 have c12:w2.cell? ⟨w1.heap.size,12,none⟩=some (.int .i64 (n:Int)):=ae HP2.out 12
 have hn5:¬ (5000:Int)<(n:Int):=oZ
 have hln:=hN.ln_
 have hm1:=hN.m1
 have hd1:=hN.d1
 have hs0:=hN.s0
 have hfits:=hN.fits
 have ha3:=hN.a3
 have hn0:1<=(n:Int):=oZ
 have hn6:(n:Int)<=65536:=oZ
 have hin:an+ln+2<=n:=oZ
 have hl1:1<=ln/\ln<=100000:=oZ
 have hS5:aB ss bk rm 5<=1000000:=oZ
 have HNum:=hJ (And.intro hl1 (And.intro hS5 (And.intro ha3 hin)))
 have HNew:=hJ (hN.new hfit)
 have HN:=hJ hN
 have HFit:=hJ hfit
 have HH:=hJ h
 have HG5:=hJ hg
 clear hln hm1 hd1 hs0 hfits ha3 hin hl1 hS5 hN hfit h hg
 go_wp2_with fail
 refine(Ir _ (n:Int) hn0 hn6).mono ?_;rintro e w3 ⟨rfl,hm,hb⟩
 rw[Int.toNat_natCast] at hm
 have HM3:=hJ hm
 have HC3:=hJ (aj HC2.out hb)
 have HP3:=hJ (aj HP2.out hb)
 have HB3:=hJ (ah HB2.out hb)
 have HL2:=hJ (And.intro (lt_of_heap HC2.out) (lt_of_heap HP2.out))
 clear hm hb c12
 obtain⟨mb,hmb⟩:∃ mb,w2.heap.size+1=mb:=⟨_,rfl⟩
 obtain⟨mc,hmc⟩:∃ mc,w2.heap.size=mc:=⟨_,rfl⟩
 have HMB:=hJ (show w2.heap.size<mb by omega)
 have HMC:=hJ (show w2.heap.size<=mc by omega)
 rw[hmb,hmc] at HM3
 rw[hmb]
 clear hmb hmc
 go_wp2_with (first
  | (refine yZ rfl 25 (.tmp 1) rfl w.heap.size rfl 25 (ak (dd:Int) t ss bk rm kf bf) (0,0) _ HC3.out Tryz.underlying25 rfl (eu _ _ _ _ _ _ _) ?_)
  | fail)
 refine(OL HM3.out oZ oZ (dd:Int) t ss bk rm kf bf HH.out HN.out.plan sZ HNum.out.1 HFit.out HNum.out.2.1 (by have:=HG5.out;omega) HN.out.an_ HNum.out.2.2.1 HNum.out.2.2.2).mono ?_;rintro e w4 ⟨sg,rfl,hm4,hg4,hmod⟩
 have HM4:=hJ (show dD w4 mb mc (nI n an ln) 0 3 from hm4)
 have hne:∀ k,k<w2.heap.size->¬ (k=mb∨k=mc):=fun k hk=>by have:=HMB.out;have:=HMC.out;omega
 have HC4:=hJ ((hmod.block _ (lt_of_heap HC3.out) (hne _ HL2.out.1)).trans HC3.out)
 have HP4:=hJ ((hmod.block _ (lt_of_heap HP3.out) (hne _ HL2.out.2)).trans HP3.out)
 have HB4:=hJ (show Below w.heap.size w w4 from HB3.out.trans ⟨hmod.os,hmod.tape,hmod.output,hmod.size,fun k hk=>hmod.block k (Nat.lt_of_lt_of_le hk HB3.out.size) (hne _ (Nat.lt_trans hk HL2.out.1))⟩)
 have HS4:=hJ (hg4.lower HB3.out.size)
 clear hm4 hg4 hmod hne
 go_upto_region 6 with (first
  | (refine zZ rfl 46 (.tmp 8) (.tmp 35) rfl w4.heap.size (aQ (.slice (some ⟨sg,0,none⟩) 1 1) (bn an ln)) rfl rfl 46 (aQ (.slice none 0 0) aO) (nZ w4 _) (aN _ _) rfl (dY _ _ _ _) ?_)
  | fail)
 rw[World.setRow_alloc_new]
 have hb5:=au (w:=w4) (A:=.cells (aQ (.slice (some ⟨sg,0,none⟩) 1 1) (bn an ln)) 46)
 have HW5:=hJ (nZ w4 (.cells (aQ (.slice (some ⟨sg,0,none⟩) 1 1) (bn an ln)) 46))
 have HM5:=hJ (HM4.out.below hb5)
 have HC5:=hJ (aj HC4.out hb5)
 have HP5:=hJ (aj HP4.out hb5)
 have HB5:=hJ (ah HB4.out hb5)
 have HS5:=hJ (bF.under HS4.out hb5)
 have HMW:=hJ (show mc<w4.heap.size from lt_of_heap HM4.out.row)
 generalize w4.alloc (.cells (aQ (.slice (some ⟨sg,0,none⟩) 1 1) (bn an ln)) 46)=w5 at HW5 HM5 HC5 HP5 HB5 HS5 ⊢
 clear hb5
 go_wp2_with (first
  | (refine yZ rfl 25 (.tmp 1) rfl w.heap.size rfl 25 (ak (dd:Int) t ss bk rm kf bf) (0,0) _ HC5.out Tryz.underlying25 rfl (eu _ _ _ _ _ _ _) ?_)
  | fail)
 refine(DL _ (dd:Int) t ss bk rm kf bf HH.out HN.out.plan (by have:=HNum.out.1;omega) (by have:=HFit.out;omega) (by have:=HG5.out;omega) HN.out.an_ HNum.out.2.2.1 HNum.out.2.2.2).mono ?_;rintro e w6 ⟨g,sg2,rfl,hz,hg6,hb,hge⟩
 have HZ6:=hJ (show dK w6 g (nI n an ln) by simpa [nI] using hz)
 have HM6:=hJ (HM5.out.below hb)
 have HW6:=hJ (aj HW5.out hb)
 have HC6:=hJ (aj HC5.out hb)
 have HP6:=hJ (aj HP5.out hb)
 have HB6:=hJ (ah HB5.out hb)
 have HS6:=hJ (bF.under HS5.out hb)
 have HS26:=hJ (hg6.lower HB5.out.size)
 have HGE:=hJ (show g≠mc by have:=HMW.out;have:=lt_of_heap HW5.out;omega)
 clear hz hg6 hb hge
 go_upto_region 7 with (first
  | (refine zZ rfl 49 (.tmp 10) (.tmp 40) rfl w6.heap.size (aK (.slice (some ⟨g,0,none⟩) n n) (.slice (some ⟨sg2,0,none⟩) 1 1) (bn an ln)) rfl rfl 49 dE (fO w6 _ _) (aI _ _ _) rfl cZ ?_)
  | (refine zZ rfl 42 (.tmp 11) (.tmp 41) rfl (w6.heap.size+1) _ rfl rfl 42 (af (fun _=>0) (fun _=>0) 0 0 0) ((qZ _ _ _ _ oZ).trans (fK w6 _ _)) (ai _ _ _ _ _) rfl (by simp[af,Value.oneCell']) ?_)
  | fail)
 obtain⟨w7,hw7⟩:∃ w7,w7=(((w6.alloc (.cells dE 49)).alloc (.cells (af (fun _=>0) (fun _=>0) 0 0 0) 42)).setRow w6.heap.size (aK (.slice (some ⟨g,0,none⟩) n n) (.slice (some ⟨sg2,0,none⟩) 1 1) (bn an ln))).setRow (w6.heap.size+1) (af (az (aB ss bk rm)) (aB ss bk rm) (n:Int) (m:Int) (ln:Int)):=⟨_,rfl⟩
 rw[show (((w6.alloc (.cells #[.slice none 0 0,.slice none 0 0,.int .i64 0,.int .u32 0,.int .i64 0,.int .i64 0,.int .i64 0,.int .i64 0,.int .i64 0,.int .i64 0] 49)).alloc (.cells #[.int .i64 0,.int .i64 0,.int .i64 0,.int .i64 0,.int .i64 0,.int .i64 0,.int .i64 0,.int .i64 0,.int .i64 0,.int .i64 0,.int .i64 0,.int .i64 0,.int .i64 0,.int .i64 0,.int .i64 0] 42)).setRow w6.heap.size (aK (.slice (some ⟨g,0,none⟩) n n) (.slice (some ⟨sg2,0,none⟩) 1 1) (bn an ln))).setRow (w6.heap.size+1) (af (az (aB ss bk rm)) (aB ss bk rm) (n:Int) (m:Int) (ln:Int))=w7 from hw7.symm]
 have hb7:Below w6.heap.size w6 w7:=by rw[hw7];exact below_setRow (below_setRow dL (Nat.le_refl _) _) (Nat.le_succ _) _
 have HT7:=hJ (show w7.heap[w6.heap.size]?=some (.cells (aK (.slice (some ⟨g,0,none⟩) n n) (.slice (some ⟨sg2,0,none⟩) 1 1) (bn an ln)) 49 (0,0)) by
  rw[hw7,qZ _ _ _ _ oZ]
  exact setRow_heap _ _ _ _ _ _ (fO w6 _ _))
 have HM7:=hJ (HM6.out.below hb7)
 have HZ7:=hJ (HZ6.out.below hb7)
 have HW7:=hJ (aj HW6.out hb7)
 have HC7:=hJ (aj HC6.out hb7)
 have HP7:=hJ (aj HP6.out hb7)
 have HB7:=hJ (ah HB6.out hb7)
 have HS7:=hJ (bF.under HS6.out hb7)
 have HS27:=hJ (bF.under HS26.out hb7)
 clear hw7 hb7 HM6 HZ6 HW6 HC6 HP6 HS6 HS26 HM5 HW5 HC5 HP5 HB5 HS5 HM4 HC4 HP4 HS4 HM3 HC3 HP3 HB3 HC2 HP2 HC1 HC0
 go_upto_region 11 with fail
 have hcl5:n<=65536:=by have:=HG5.out;omega
 have HSM:=hJ (fun(wx:World) (hb:Below w7.heap.size w7 wx)=>nT wx (some ⟨sg,0,none⟩) (some ⟨sg2,0,none⟩) 1 1 1 (bn an ln) rfl oZ (HS7.out.reads.below hb) (HS27.out.reads.below hb))
 have HCE:=hJ (fun(wx:World) (hb:Below w7.heap.size w7 wx)=>cells_at (HM7.out.below hb) (by rw[qf];exact hcl5))
 rw[qf] at HCE
 have HSA:=hJ (fun(wx:World) (p:Nat) (hb:Below w7.heap.size w7 wx) (h:wx.heap[p]?=some (.cells ((nI n an ln).map (Value.int .u32)).toArray 32 (0,0)))=>same_eq wx p g n (nI n an ln) 32 32 (qf n an ln).symm oZ h (HZ7.out.below hb).cells)
 clear hcl5
 refine aJ (fun(p:Nat×Nat) jz=>[.agg (ak (dd:Int) t ss bk rm kf bf),.agg (af (az (aB ss bk rm)) (aB ss bk rm) (n:Int) (m:Int) (ln:Int)),.pointer (some ⟨mb,0,none⟩),.agg (aQ (.slice (some ⟨sg,0,none⟩) 1 1) (bn an ln)),.agg (aK (.slice (some ⟨g,0,none⟩) n n) (.slice (some ⟨sg2,0,none⟩) 1 1) (bn an ln)),.agg (aY (ak (dd:Int) t ss bk rm kf bf) (af (az (aB ss bk rm)) (aB ss bk rm) (n:Int) (m:Int) (ln:Int)) (.pointer (some ⟨mb,0,none⟩)) (aQ (.slice (some ⟨sg,0,none⟩) 1 1) (bn an ln)) (aK (.slice (some ⟨g,0,none⟩) n n) (.slice (some ⟨sg2,0,none⟩) 1 1) (bn an ln))),.pointer (some ⟨p.1,0,none⟩),.pointer (some ⟨mb,0,none⟩),.slice (some ⟨p.2,0,none⟩) n n,.pointer (some ⟨w6.heap.size,0,none⟩),.slice (some ⟨g,0,none⟩) n n,.bool true,.bool true,.agg (aQ (.slice (some ⟨sg,0,none⟩) 1 1) (bn an ln)),.pointer (some ⟨w6.heap.size,1,none⟩),.agg (aQ (.slice (some ⟨sg2,0,none⟩) 1 1) (bn an ln)),.bool true,.bool true,.pointer (some ⟨p.1,0,none⟩),.bool true].getD jz undef)
  (fun p l9 wx=>Below w7.heap.size w7 wx/\(l9 8=true->wx.heap[p.2]?=some (.cells ((nI n an ln).map (Value.int .u32)).toArray 32 (0,0)))/\(l9 6=true->w7.heap.size<=p.1/\wx.heap[p.1]?=some (.cells (aY (ak (dd:Int) t ss bk rm kf bf) (af (az (aB ss bk rm)) (aB ss bk rm) (n:Int) (m:Int) (ln:Int)) (.pointer (some ⟨mb,0,none⟩)) (aQ (.slice (some ⟨sg,0,none⟩) 1 1) (bn an ln)) (aK (.slice (some ⟨g,0,none⟩) n n) (.slice (some ⟨sg2,0,none⟩) 1 1) (bn an ln))) 51 (0,0))))
  kZ kZ pZ (0,0) ?_ ?_ ?_
 ·exact⟨(Below.refl _ _).drew,fun h=>jZ,fun h=>jZ⟩
 ·intro i o ho p l9 wx hR hl he hcl K hK
  rcases i with _|_|_|_|_|_|_|_|_|_|_|_|_|_|_|_|_|_|_|_|i
  ·cases ho
   refine wp_load_row 25 (.tmp 1) rfl w.heap.size rfl 25 (ak (dd:Int) t ss bk rm kf bf) (0,0) _ (aj HC7.out hR.1) Tryz.underlying25 rfl (eu _ _ _ _ _ _ _) ?_
   exact hK p wx (fun _ _=>rfl) hR
  ·cases ho
   refine wp_load_row 42 (.tmp 4) rfl w1.heap.size rfl 42 (af (az (aB ss bk rm)) (aB ss bk rm) (n:Int) (m:Int) (ln:Int)) (0,0) _ (aj HP7.out hR.1) Tryz.underlying42 rfl (ai _ _ _ _ _) ?_
   exact hK p wx (fun _ _=>rfl) hR
  ·cases ho;go_simp;exact hK p wx (fun _ _=>rfl) hR
  ·cases ho
   refine wp_load_row 46 (.tmp 8) rfl w4.heap.size rfl 46 (aQ (.slice (some ⟨sg,0,none⟩) 1 1) (bn an ln)) (0,0) _ (aj HW7.out hR.1) Tryz.underlying46 rfl (aN _ _) ?_
   exact hK p wx (fun _ _=>rfl) hR
  ·cases ho
   refine wp_load_row 49 (.tmp 10) rfl w6.heap.size rfl 49 (aK (.slice (some ⟨g,0,none⟩) n n) (.slice (some ⟨sg2,0,none⟩) 1 1) (bn an ln)) (0,0) _ (aj HT7.out hR.1) Tryz.underlying49 rfl (aI _ _ _) ?_
   exact hK p wx (fun _ _=>rfl) hR
  ·cases ho
   refine MZ 51 _ rfl (aY (ak (dd:Int) t ss bk rm kf bf) (af (az (aB ss bk rm)) (aB ss bk rm) (n:Int) (m:Int) (ln:Int)) (.pointer (some ⟨mb,0,none⟩)) (aQ (.slice (some ⟨sg,0,none⟩) 1 1) (bn an ln)) (aK (.slice (some ⟨g,0,none⟩) n n) (.slice (some ⟨sg2,0,none⟩) 1 1) (bn an ln))) kZ ?_
   exact hK p wx (fun _ _=>rfl) hR
  ·cases ho
   have HRr:=hJ hR
   have HLl:=hJ hl
   have HCl:=hJ hcl
   clear hR hl hcl
   go_simp
   have hbx:=au (w:=wx) (A:=.cells (aY (ak (dd:Int) t ss bk rm kf bf) (af (az (aB ss bk rm)) (aB ss bk rm) (n:Int) (m:Int) (ln:Int)) (.pointer (some ⟨mb,0,none⟩)) (aQ (.slice (some ⟨sg,0,none⟩) 1 1) (bn an ln)) (aK (.slice (some ⟨g,0,none⟩) n n) (.slice (some ⟨sg2,0,none⟩) 1 1) (bn an ln))) 51)
   refine hK (wx.heap.size,p.2) (wx.alloc (.cells (aY (ak (dd:Int) t ss bk rm kf bf) (af (az (aB ss bk rm)) (aB ss bk rm) (n:Int) (m:Int) (ln:Int)) (.pointer (some ⟨mb,0,none⟩)) (aQ (.slice (some ⟨sg,0,none⟩) 1 1) (bn an ln)) (aK (.slice (some ⟨g,0,none⟩) n n) (.slice (some ⟨sg2,0,none⟩) 1 1) (bn an ln))) 51)) (fun j hj=>?_) ⟨ah HRr.out.1 hbx,fun h=>aj (HRr.out.2.1 h) hbx,fun _=>⟨HRr.out.1.size,nZ _ _⟩⟩
   rcases j with _|_|_|_|_|_|_|_|_|_|_|_|_|_|_|_|_|_|_|_|j
   all_goals first | rfl | (rw[HLl.out] at hj;cases hj) | (exact absurd (HCl.out 18 _ rfl hj ⟨6,.data⟩ sZ rfl) (by rw[HLl.out];decide))
  ·cases ho;go_simp;exact hK p wx (fun _ _=>rfl) hR
  ·cases ho
   have HRr:=hJ hR
   have HLl:=hJ hl
   clear hR hl
   go_simp
   refine(HCE.out wx HRr.out.1).mono ?_
   rintro e9 w9 ⟨rfl,hr9,hb9⟩
   refine hK (p.1,wx.heap.size) w9 (fun j hj=>?_) ⟨ah HRr.out.1 hb9,fun _=>hr9,fun h=>⟨(HRr.out.2.2 h).1,aj (HRr.out.2.2 h).2 hb9⟩⟩
   rcases j with _|_|_|_|_|_|_|_|_|_|_|_|_|_|_|_|_|_|_|_|j
   all_goals first | rfl | (rw[HLl.out] at hj;cases hj)
  ·cases ho;go_simp;exact hK p wx (fun _ _=>rfl) hR
  ·cases ho
   have q:=(show wx.cell? ⟨w6.heap.size,0,none⟩=some (.slice (some ⟨g,0,none⟩) n n) from ae (aj HT7.out hR.1) 0)
   go_simp
   exact hK p wx (fun _ _=>rfl) hR
  ·cases ho
   have h15:l9 8=true:=he ⟨8,.data⟩ sZ rfl
   have HRr:=hJ hR
   have H15:=hJ h15
   clear hR h15
   go_simp
   refine(HSA.out wx p.2 HRr.out.1 (HRr.out.2.1 H15.out)).mono ?_
   rintro e9 w9 ⟨rfl,hb9⟩
   exact hK p w9 (fun _ _=>rfl) ⟨ah HRr.out.1 hb9,fun h=>aj (HRr.out.2.1 h) hb9,fun h=>⟨(HRr.out.2.2 h).1,aj (HRr.out.2.2 h).2 hb9⟩⟩
  ·cases ho;go_simp;exact hK p wx (fun _ _=>rfl) hR
  ·cases ho
   refine wp_load_row 46 (.tmp 8) rfl w4.heap.size rfl 46 (aQ (.slice (some ⟨sg,0,none⟩) 1 1) (bn an ln)) (0,0) _ (aj HW7.out hR.1) Tryz.underlying46 rfl (aN _ _) ?_
   exact hK p wx (fun _ _=>rfl) hR
  ·cases ho;go_simp;exact hK p wx (fun _ _=>rfl) hR
  ·cases ho
   refine aW 46 (.tmp 69) rfl w6.heap.size 1 rfl 49 (aK (.slice (some ⟨g,0,none⟩) n n) (.slice (some ⟨sg2,0,none⟩) 1 1) (bn an ln)) (aQ (.slice (some ⟨sg2,0,none⟩) 1 1) (bn an ln)) (0,0) _ (aj HT7.out hR.1) (Pn _ _ _) Tryz.underlying46 rfl (aN _ _) ?_
   exact hK p wx (fun _ _=>rfl) hR
  ·cases ho
   have HRr:=hJ hR
   clear hR
   go_simp
   refine(HSM.out wx HRr.out.1).mono ?_
   rintro e9 w9 ⟨rfl,hb9⟩
   exact hK p w9 (fun _ _=>rfl) ⟨ah HRr.out.1 hb9,fun h=>aj (HRr.out.2.1 h) hb9,fun h=>⟨(HRr.out.2.2 h).1,aj (HRr.out.2.2 h).2 hb9⟩⟩
  iterate 3 (· cases ho;go_simp;exact hK p wx (fun _ _=>rfl) hR)
  ·simp at ho
 ·intro p lz wx hl hR
  have HRr:=hJ hR.1
  have HWb:=hJ (hR.2.2 (hl 6 dZ))
  clear hR hl
  go_wp2_with fail
  go_ret2
  exact⟨p.1,mb,mc,some ⟨sg,0,none⟩,some ⟨sg2,0,none⟩,1,1,g,rfl,⟨HWb.out.2,HM7.out.below HRr.out,oZ,oZ,HZ7.out.below HRr.out,HGE.out,bF.under HS7.out HRr.out,bF.under HS27.out HRr.out,HNew.out,qf _ _ _,ah HB7.out HRr.out,by have:=HMB.out;have:=HL2.out.1;omega,by have:=HMC.out;have:=HL2.out.1;omega,Nat.le_trans HB7.out.size HWb.out.1⟩⟩
theorem PT:KC 2 64 Qo 20 200 A7 KZ ((247:Nat):Int) ((137:Nat):Int) 128:=⟨LU,PK.plan,dZ,dZ⟩
def QT:Nat->Nat->List Int->Sx->dm->Prop
 | 0,nd,cs,x,d=>nd=0/\cs=nI 247 47 137/\x=bn 47 137/\d=fun _=>none
 | 1,nd,cs,x,_=>zJ False 1 nd cs x
 | 2,nd,cs,x,_=>zJ False 1 nd cs x
 | _,nd,cs,x,_=>zJ True 2 nd cs x
structure Ot (w wx:World) (Wb mb mc ob tb k:Nat):Prop where
 st:∃ nd cs x d l s og og2 gc gc2 gz,DW w wx Wb mb mc 2 64 Qo 20 200 0 0 A7 KZ ((247:Nat):Int) ((137:Nat):Int) 128 247 nd cs x d l s og og2 gc gc2 gz/\QT k nd cs x d/\l+s<=3+500000*(k:Int)
 op:wx.heap[ob]?=some (.cells #[.bool false,.int .u32 7,.slice (some ⟨tb,0,none⟩) 1 1] 37 (0,0))
 tx:wx.heap[tb]?=some (.cells #[.string ⟨#[102,111,120,32,102,111,120]⟩] 9 (0,0))
 ne:(ob≠mb/\ob≠mc/\ob≠Wb)/\(tb≠mb/\tb≠mc/\tb≠Wb)
section
variable {w wx:World} {Wb mb mc ob tb k:Nat}
theorem Ot.texts (h:Ot w wx Wb mb mc ob tb k) (hT:ed w) (wr:World) (hwr:∀ j,j<wx.heap.size->j≠mb->j≠mc->wr.heap[j]?=wx.heap[j]?):ed wr/\iY wr (some ⟨tb,0,none⟩) PU:=by
 obtain⟨nd,cs,x,d,l,s,og,og2,gc,gc2,gz,hD,-,-⟩:=h.st
 have h1:=hD.low.size
 have h2:=hD.oldm
 have h3:=hD.oldc
 refine⟨l7.tabs (fun j hj=>(hwr j oZ oZ oZ).trans (hD.low.block j hj)) hT,fun j t hj=>?_⟩
 rcases j with _ | j
 ·obtain rfl:_=t:=Option.some.inj hj
  exact⟨tb,0,rfl,ae ((hwr tb (lt_of_heap h.tx) h.ne.2.1 h.ne.2.2.1).trans h.tx) 0⟩
 ·simp[PU] at hj
theorem QT.dR {nd:Nat} {cs:List Int} {x:Sx} {d:dm} (h:QT k nd cs x d):x.dR=if k=0 then 0 else if k<=2 then 1 else 2:=by
 rcases k with _|_|_|k
 ·obtain⟨-,-,rfl,-⟩:=h
  rfl
 ·exact h.2.2.2
 ·exact h.2.2.2
 ·rw[if_neg oZ,if_neg oZ]
  exact h.2.2.2
theorem Ot.cell (h:Ot w wx Wb mb mc ob tb k):wx.cell? ⟨Wb,28,none⟩=some (.int .u32 (if k=0 then 0 else if k<=2 then 1 else 2)):=by
 obtain⟨nd,cs,x,d,l,s,og,og2,gc,gc2,gz,hD,hP,-⟩:=h.st
 rw[<- hP.dR]
 exact(ae hD.box 28).trans (kQ rfl rfl 2 _ rfl)
theorem Ot.add (hk:k<2) (hT:ed w) (h:Ot w wx Wb mb mc ob tb k) :
  Calls Tryz.prog 18 #[.pointer (some ⟨Wb,0,none⟩),.agg #[.bool false,.int .u32 7,.slice (some ⟨tb,0,none⟩) 1 1]] wx fun e w'=>e=.returned (.bool true)/\Ot w w' Wb mb mc ob tb (k+1):=by
 obtain⟨nd,cs,x,d,l,s,og,og2,gc,gc2,gz,hD,hP,hl⟩:=h.st
 have hv:=hP.dR
 refine(NC PT hD 7 (by rw[hv];split <;> (try split) <;> omega) oZ (some ⟨tb,0,none⟩) PU 1 dZ dZ ⟨dZ,dZ⟩ (h.texts hT)).mono ?_
 rintro e w' ⟨rfl,e0,cs',x',nd',d',l',s',og',og2',gc',gc2',gz',hg,hs,hD',hfr⟩
 refine⟨rfl,⟨nd',cs',x',d',l',s',og',og2',gc',gc2',gz',hD',?_,oZ⟩,(hfr ob (lt_of_heap h.op) h.ne.1.1 h.ne.1.2.1 h.ne.1.2.2).trans h.op,(hfr tb (lt_of_heap h.tx) h.ne.2.1 h.ne.2.2.1 h.ne.2.2.2).trans h.tx,h.ne⟩
 rcases k with _|_|k
 ·obtain⟨rfl,rfl,rfl,rfl⟩:=hP
  exact Qa hg
 ·exact Qx hD.inv hP hg
 ·omega
theorem Ot.del (hk:2<=k/\k<4) (hT:ed w) (h:Ot w wx Wb mb mc ob tb k) :
  Calls Tryz.prog 18 #[.pointer (some ⟨Wb,0,none⟩),.agg #[.bool true,.int .u32 7,.slice (some ⟨tb,0,none⟩) 1 1]] wx fun e w'=>e=.returned (.bool true)/\Ot w w' Wb mb mc ob tb (k+1):=by
 obtain⟨nd,cs,x,d,l,s,og,og2,gc,gc2,gz,hD,hP,hl⟩:=h.st
 have hv:=hP.dR
 refine(LZ PT hD 7 (by rw[hv];split <;> (try split) <;> omega) oZ (some ⟨tb,0,none⟩) 1 1 hT).mono ?_
 rintro e w' ⟨rfl,e0,cs',x',l',s',og',og2',gc',gc2',gz',hg,hs,hD',hfr⟩
 refine⟨rfl,⟨nd,cs',x',d,l',s',og',og2',gc',gc2',gz',hD',?_,oZ⟩,(hfr ob (lt_of_heap h.op) h.ne.1.1 h.ne.1.2.1 h.ne.1.2.2).trans h.op,(hfr tb (lt_of_heap h.tx) h.ne.2.1 h.ne.2.2.1 h.ne.2.2.2).trans h.tx,h.ne⟩
 rcases k with _|_|_|_|k
 ·omega
 ·omega
 ·exact Ls hD.inv hP hg
 ·exact PE hD.inv hP hg
 ·omega
end
section
variable {P:Program}
theorem mf {ops:Array Oper} {rest:List Oper} {o:Oper} {a:Act} {w:World} {Q:Exit->Act->World->Prop} (hw:Region.wanted o (yielded ops a.tmps)=true) (ty:TypeId) (x:Operand) (ho:o.op=.load ty x)
  (g:Nat) (hx:a.eval x=.pointer (some ⟨g,0,none⟩)) (t:TypeId) (cs:Array Value) (fr:Nat×Nat) (d:TypeDesc) (hg:w.heap[g]?=some (.cells cs t fr))
  (hu:P.underlying ty=some d) (hd:(match d with | .struct _ | .array _ _=>true | _=>false)=true) (hi:(P.info? ty).map (·.size)=some cs.size)
  (h:wpList P ops Q rest (a.put o.dst (.agg cs)) w):wpList P ops Q (o :: rest) a w :=
 wpList_step fun K hK=>by
  rw[if_pos hw]
  exact wp_load_row ty x ho g hx t cs fr d hg hu hd hi (hK _ _ h)
end
theorem DW.under {W0 W W':World} {Wb mb cb dd:Nat} {tt:Int} {ss:Nat->Int} {bk rm:Int} {kf bf:Nat} {B S:Nat->Int} {C L:Int} {m n nd:Nat} {cs:List Int} {x:Sx} {d:dm} {l s:Int} {og og2:Option Addr} {gc gc2 gz:Nat} (h:DW W0 W Wb mb cb dd tt ss bk rm kf bf B S C L m n nd cs x d l s og og2 gc gc2 gz) (hb:Below W.heap.size W W'):DW W0 W' Wb mb cb dd tt ss bk rm kf bf B S C L m n nd cs x d l s og og2 gc gc2 gz :=
 ⟨aj h.box hb,h.mem.below hb,h.l0,h.s0,h.row.below hb,h.zc,h.aH.under hb,h.segs2.under hb,h.inv,h.len,ah h.low hb,h.oldm,h.oldc,h.oldb⟩
theorem qC (w:World) (hT:ed w):Calls Tryz.prog 15 #[] w fun e w'=>e=.returned (.bool true)/\Below w.heap.size w w':=by
 have HT:=hJ hT
 clear hT
 go_enter Tryz.func15,Tryz.ntmps15
 go_wp2_with fail
 refine(DJ w 2 64 Qo 20 200 0 0 LU PK oZ dZ).mono ?_
 rintro e w1 ⟨Wb,mb,mc,og,og2,gc,gc2,gz,rfl,hdw⟩
 have HD:=hJ hdw
 clear hdw
 go_upto_region 5 with fail
 have HX0:=hJ (show Ot w ((w1.alloc (.cells #[.string ⟨#[102,111,120,32,102,111,120]⟩] 9)).alloc (.cells #[.bool false,.int .u32 7,.slice (some ⟨w1.heap.size,0,none⟩) 1 1] 37)) Wb mb mc (w1.heap.size+1) w1.heap.size 0 from by
  have hD:=HD.out
  have h1:=lt_of_heap hD.mem.rec_
  have h2:=lt_of_heap hD.mem.row
  have h3:=lt_of_heap hD.box
  exact⟨⟨0,_,_,_,0,3,og,og2,gc,gc2,gz,hD.under dL,⟨rfl,rfl,rfl,rfl⟩,oZ⟩,fK _ _ _,fO _ _ _,⟨oZ,oZ,oZ⟩,oZ,oZ,oZ⟩)
 clear HD
 generalize (w1.alloc (.cells #[.string ⟨#[102,111,120,32,102,111,120]⟩] 9)).alloc (.cells #[.bool false,.int .u32 7,.slice (some ⟨w1.heap.size,0,none⟩) 1 1] 37)=w2 at HX0 ⊢
 generalize w1.heap.size+1=ob at HX0 ⊢
 generalize w1.heap.size=tb at HX0 ⊢
 go_wp2_with (first
  | (refine yZ rfl 37 (.tmp 3) rfl ob rfl 37 #[.bool false,.int .u32 7,.slice (some ⟨tb,0,none⟩) 1 1] (0,0) _ HX0.out.op Tryz.underlying37 rfl (mP _ _ _) ?_)
  | fail)
 refine(HX0.out.add oZ HT.out).mono ?_;rintro e w3 ⟨rfl,h1⟩
 have HX1:=hJ h1
 have q:w3.cell? ⟨Wb,28,none⟩=some (.int .u32 1):=h1.cell
 clear h1
 go_wp2_with (first
  | (refine mf rfl 37 (.tmp 3) rfl ob rfl 37 #[.bool false,.int .u32 7,.slice (some ⟨tb,0,none⟩) 1 1] (0,0) _ HX1.out.op Tryz.underlying37 rfl (mP _ _ _) ?_)
  | fail)
 refine(HX1.out.add oZ HT.out).mono ?_;rintro e w4 ⟨rfl,h2⟩
 have HX2:=hJ h2
 clear q
 have q:w4.cell? ⟨Wb,28,none⟩=some (.int .u32 1):=h2.cell
 clear h2
 go_wp2_with (first
  | (refine iR rfl 35 (.tmp 45) rfl ob 1 rfl 37 #[.bool false,.int .u32 7,.slice (some ⟨tb,0,none⟩) 1 1] #[.int .u32 7,.slice (some ⟨tb,0,none⟩) 1 1] (0,0) _ HX2.out.op (tV _ _ _) Tryz.underlying35 rfl (uN _ _) ?_)
  | fail)
 refine(HX2.out.del oZ HT.out).mono ?_;rintro e w5 ⟨rfl,h3⟩
 have HX3:=hJ h3
 clear q
 have q:w5.cell? ⟨Wb,28,none⟩=some (.int .u32 2):=h3.cell
 clear h3
 go_wp2_with (first
  | (refine iR rfl 35 (.tmp 60) rfl ob 1 rfl 37 #[.bool false,.int .u32 7,.slice (some ⟨tb,0,none⟩) 1 1] #[.int .u32 7,.slice (some ⟨tb,0,none⟩) 1 1] (0,0) _ HX3.out.op (tV _ _ _) Tryz.underlying35 rfl (uN _ _) ?_)
  | fail)
 refine(HX3.out.del oZ HT.out).mono ?_;rintro e w6 ⟨rfl,h4⟩
 obtain⟨nd,cs,x,d,l,s,og,og2,gc,gc2,gz,hD,-,-⟩:=h4.st
 have HLw:=hJ hD.low
 clear q
 have q:w6.cell? ⟨Wb,28,none⟩=some (.int .u32 2):=h4.cell
 clear h4 hD
 go_wp2_with fail
 go_ret
 exact⟨rfl,HLw.out⟩
def OB (w W:World) (Wb mb mc dd:Nat) (tt:Int) (ss:Nat->Int) (bk rm:Int) (kf bf:Nat) (B S:Nat->Int) (C L:Int) (m n i:Nat):Prop :=
 ∃ nd cs x d l s og og2 gc gc2 gz,DW w W Wb mb mc dd tt ss bk rm kf bf B S C L m n nd cs x d l s og og2 gc gc2 gz/\l+s<=3+500000*(i:Int)/\x.dR<=(i:Int)
section
variable {w W W':World} {Wb mb mc dd:Nat} {tt:Int} {ss:Nat->Int} {bk rm:Int} {kf bf:Nat} {B S:Nat->Int} {C L:Int} {m n i nd:Nat} {cs:List Int} {x:Sx} {d:dm} {l s:Int} {og og2:Option Addr} {gc gc2 gz:Nat}
theorem DW.keeps (hD:DW w W Wb mb mc dd tt ss bk rm kf bf B S C L m n nd cs x d l s og og2 gc gc2 gz) {wr:World} (h:∀ k,k<W.heap.size->k≠mb->k≠mc->wr.heap[k]?=W.heap[k]?):l7 w.heap.size w wr:=fun k hk=>by
 have h1:=hD.low.size
 have h2:=hD.oldm
 have h3:=hD.oldc
 exact(h k oZ oZ oZ).trans (hD.low.block k hk)
theorem OB.under (h:OB w W Wb mb mc dd tt ss bk rm kf bf B S C L m n i) (hb:Below W.heap.size W W'):OB w W' Wb mb mc dd tt ss bk rm kf bf B S C L m n i:=by
 obtain⟨nd,cs,x,d,l,s,og,og2,gc,gc2,gz,hD,h1,h2⟩:=h
 exact⟨nd,cs,x,d,l,s,og,og2,gc,gc2,gz,hD.under hb,h1,h2⟩
theorem OB.low (h:OB w W Wb mb mc dd tt ss bk rm kf bf B S C L m n i):Below w.heap.size w W:=by
 obtain⟨nd,cs,x,d,l,s,og,og2,gc,gc2,gz,hD,h1,h2⟩:=h
 exact hD.low
theorem Below.stays (h:Below w.heap.size w W):l7 w.heap.size w W:=fun k hk=>h.block k hk
theorem l7.ops {oa:Option Addr} {l:List OA} (h:l7 w.heap.size w W) (ha:kC w oa l):kC W oa l:=by
 intro j e hj
 obtain⟨g,o,h0,h1,h2,p,h3,pa,c,h4,h5⟩:=ha j e hj
 exact⟨g,o,h0,h.cell (Nat.le_refl _) h1,h.cell (Nat.le_refl _) h2,p,h.cell (Nat.le_refl _) h3,pa,c,h4,h.texts h5⟩
theorem OB.QV (hK:KC dd tt ss bk rm B S C L m) (h:OB w W Wb mb mc dd tt ss bk rm kf bf B S C L m n i) (hi:i<=100) (hT:ed w) (b:Bool) (id:Int) (hid:U id) (fo:Option Addr) (F:List ByteArray) (fc:Nat) (hF:iY w fo F) (h1:∀ f∈F,f.size<=3000) (h2:F.length<=3000) :
  Calls Tryz.prog 18 #[.pointer (some ⟨Wb,0,none⟩),.agg #[.bool b,.int .u32 id,.slice fo F.length fc]] W fun e W'=>e=.returned (.bool true)/\OB w W' Wb mb mc dd tt ss bk rm kf bf B S C L m n (i+1):=by
 obtain⟨nd,cs,x,d,l,s,og,og2,gc,gc2,gz,hD,hl,hv⟩:=h
 cases b with
 | false =>
  refine(NC hK hD id oZ oZ fo F fc (fun f hf=>Nat.le_trans (h1 f hf) oZ) oZ hid (fun wr hwr=>⟨l7.tabs (hD.keeps hwr) hT,l7.texts (hD.keeps hwr) hF⟩)).mono ?_
  rintro e w' ⟨rfl,e0,cs',x',nd',d',l',s',og',og2',gc',gc2',gz',hg,hs,hD',-⟩
  refine⟨rfl,nd',cs',x',d',l',s',og',og2',gc',gc2',gz',hD',oZ,?_⟩
  obtain⟨-,-,h3,-⟩ | ⟨-,h3,-⟩:=hg.dR
  ·rw[h3];omega
  ·omega
 | true =>
  refine(LZ hK hD id oZ oZ fo F.length fc hT).mono ?_
  rintro e w' ⟨rfl,e0,cs',x',l',s',og',og2',gc',gc2',gz',hg,hs,hD',-⟩
  refine⟨rfl,nd,cs',x',d,l',s',og',og2',gc',gc2',gz',hD',oZ,?_⟩
  obtain⟨-,-,h3⟩ | ⟨-,h3⟩:=hg.dR
  ·rw[h3];omega
  ·omega
end
theorem J3 (w:World) (d t:Int) (ss:Nat->Int) (bk rm:Int) (kf bf:Nat) :
  Calls Tryz.prog 14 #[.agg (ak d t ss bk rm kf bf)] w fun e w'=>(e=.returned (.tuple #[.pointer none,.bool true])/\Below w.heap.size w w') ∨
   (∃ dd n an ln m Wb mb mc og og2 gc gc2 gz:_,d=((dd:Nat):Int)/\KC dd t ss bk rm (az (aB ss bk rm)) (aB ss bk rm) ((n:Nat):Int) ((ln:Nat):Int) m/\e=.returned (.tuple #[.pointer (some ⟨Wb,0,none⟩),.bool true]) /\
    DW w w' Wb mb mc dd t ss bk rm kf bf (az (aB ss bk rm)) (aB ss bk rm) (n:Int) (ln:Int) m n 0 (nI n an ln) (bn an ln) (fun _=>none) 0 3 og og2 gc gc2 gz):=by
 by_cases h:fU d t ss bk rm
 ·obtain⟨n,an,ln,m,dd,hN⟩:=QK h
  by_cases hg:n<=5000
  ·by_cases hf:(ln:Int)+2<=aB ss bk rm 5
   ·obtain rfl:=hN.dd_
    refine(DJ w dd t ss bk rm kf bf h hN hg hf).mono ?_
    rintro e w' ⟨Wb,mb,mc,og,og2,gc,gc2,gz,rfl,hD⟩
    exact .inr ⟨dd,n,an,ln,m,Wb,mb,mc,og,og2,gc,gc2,gz,rfl,⟨h,hN.plan,hN.ln_,oZ⟩,rfl,hD⟩
   ·exact(FV w d t ss bk rm kf bf h hN hg oZ).mono fun e w' h=>.inl h
  ·exact(EO w d t ss bk rm kf bf h (by rw[hN.cells];omega)).mono fun e w' h=>.inl h
 ·exact(Kv w d t ss bk rm kf bf h).mono fun e w' h=>.inl h
theorem OZ (w:World) (hT:ed w) (d t:Int) (ss:Nat->Int) (bk rm:Int) (kf bf:Nat) (oa:Option Addr) (c N:Nat) (l:List OA) (en:l.length=N) (ha:kC w oa l) (hc:N<=c) (hm:c<=maxLen) (hs:∀ x∈l,Ci x) :
  Calls Tryz.prog 3 #[.agg (ak d t ss bk rm kf bf),.slice oa N c] w fun e w'=>e=.returned (.bool true)/\Below w.heap.size w w':=by
 have HT:=hJ hT
 have HA:=hJ ha
 have HS:=hJ hs
 have HN:=hJ en
 have HC:=hJ (And.intro hc hm)
 clear hT ha hs en hc hm
 go_enter Tryz.func3,Tryz.ntmps3
 go_upto_region 1 with fail
 have hb0:=au (w:=w) (A:=.cells (ak d t ss bk rm kf bf) 25)
 have hc0:=nZ w (.cells (ak d t ss bk rm kf bf) 25)
 generalize w.alloc (.cells (ak d t ss bk rm kf bf) 25)=w0 at hb0 hc0 ⊢
 have HB0:=hJ hb0
 have HC0:=hJ hc0
 clear hb0 hc0
 go_wp2_with (first
  | (refine yZ rfl 25 (.tmp 2) rfl w.heap.size rfl 25 (ak d t ss bk rm kf bf) (0,0) _ HC0.out Tryz.underlying25 rfl (eu _ _ _ _ _ _ _) ?_)
  | fail)
 refine(J3 w0 d t ss bk rm kf bf).mono ?_
 rintro e w1 (⟨rfl,hb⟩ | ⟨dd,n,an,ln,m,Wb,mb,mc,og,og2,gc,gc2,gz,rfl,hK,rfl,hD⟩)
 ·have HB1:=hJ (ah HB0.out hb)
  clear hb
  have hT1:=HT.out.below HB1.out
  have HFx:=hJ (qC w1 hT1)
  clear hT1
  go_wp2_with fail
  refine HFx.out.mono ?_;rintro e w2 ⟨rfl,hb⟩
  have HB2:=hJ (ah HB1.out hb)
  clear hb
  go_wp2_with fail
  go_ret
  exact⟨rfl,HB2.out⟩
 ·have HK:=hJ hK
  have HP:=hJ (show OB w0 w1 Wb mb mc dd t ss bk rm kf bf (az (aB ss bk rm)) (aB ss bk rm) (n:Int) (ln:Int) m n 0 from⟨0,_,_,_,0,3,og,og2,gc,gc2,gz,hD,oZ,by simp[bn]⟩)
  have HT0:=hJ (HT.out.below HB0.out)
  have HA0:=hJ (HA.out.below HB0.out)
  clear hK hD
  generalize az (aB ss bk rm)=B at HK HP
  generalize aB ss bk rm=S at HK HP
  have HA1:=hJ ((Below.stays HP.out.low).ops HA0.out)
  go_wp2_with fail
  refine(Kq w1 oa c N l HN.out HA1.out HC.out.1 HC.out.2 HS.out).mono ?_
  rintro e w2 ⟨ob,k,cc,rfl,hkN,hkc,hro,hb⟩
  have HP2:=hJ (HP.out.under hb)
  have HR:=hJ (hro w0 HA0.out)
  have HKn:=hJ (And.intro hkN hkc)
  clear hb hro
  have hkN2:=HKn.out.1
  go_wp2_with fail
  go_loopw [27] (fun iv wr=>∃ i:Nat,i<=k/\i<=31/\iv=.int .i64 (i:Int)/\OB w0 wr Wb mb mc dd t ss bk rm kf bf B S (n:Int) (ln:Int) m n i) (fun iv _=>k-(intOf iv).toNat)
  case atStart=>exact⟨0,oZ,oZ,rfl,HP2.out⟩
  case round =>
   obtain⟨i,hi,hi31,rfl,hp⟩:=hrel
   have HPi:=hJ hp
   clear hp
   by_cases hlt:i<k
   ·have hlt1:(i:Int)<(k:Int):=oZ
    obtain⟨x,hx⟩:∃ x,l[i]?=some x:=⟨_,gZ (by rw[HN.out];omega)⟩
    obtain⟨⟨hd0,hd1⟩,hlen,hsz⟩:=HS.out x (List.mem_of_getElem? hx)
    obtain⟨g,o,hoa,c0,c1,p,c2,pa,pc,rfl,p4⟩:=HR.out i x (by rw[List.getElem?_take_of_lt hlt];exact hx)
    subst hoa
    have hst:=Below.stays HPi.out.low
    have c0:=hst.cell (Nat.le_refl _) c0
    have c1:=hst.cell (Nat.le_refl _) c1
    have c2:=hst.cell (Nat.le_refl _) c2
    obtain⟨del,id,F⟩:=x
    simp only at hd0 hd1 hlen hsz c0 c1 c2 p4
    have HId:=hJ (show U id from⟨hd0,hd1⟩)
    have HLen:=hJ (show F.length<=140737488355328 by unfold reachBytes at hlen;omega)
    have HSz:=hJ (show ∀ f∈F,f.size<=4611686018427387904 from fun f hf=>Nat.le_trans (hsz f hf) (by unfold reachBytes;omega))
    have HF:=hJ p4
    clear hd0 hd1 hlen hsz p4 hst hx
    go_upto_region 7 with fail
    have hop:=nZ wr (.cells #[.bool del,.int .u32 id,.slice pa F.length pc] 37)
    have hbo:=au (w:=wr) (A:=.cells #[.bool del,.int .u32 id,.slice pa F.length pc] 37)
    obtain⟨qb,hqb⟩:∃ qb,wr.heap.size=qb:=⟨_,rfl⟩
    have HO3:=hJ hop
    have HP3:=hJ (HPi.out.under hbo)
    generalize wr.alloc (.cells #[.bool del,.int .u32 id,.slice pa F.length pc] 37)=w3 at HO3 HP3 ⊢
    rw[hqb] at HO3 ⊢
    clear hop hbo hqb c0 c1 c2
    by_cases h30:30<i
    ·have h301:(30:Int)<(i:Int):=oZ
     have HFx:=hJ (qC w3 (HT0.out.below HP3.out.low))
     go_wp2_with fail
     refine HFx.out.mono ?_;rintro e wz ⟨rfl,hb⟩
     have HBz:=hJ (ah HB0.out (ah HP3.out.low hb))
     clear hb
     go_wp2_with fail
     try rw[Exit.noGoto_ret]
     go_ret
     exact⟨rfl,HBz.out⟩
    ·have h301:¬ (30:Int)<(i:Int):=oZ
     go_wp2_with (first
      | (refine mf rfl 37 (.tmp 8) rfl qb rfl 37 #[.bool del,.int .u32 id,.slice pa F.length pc] (0,0) _ HO3.out Tryz.underlying37 rfl (mP _ _ _) ?_)
      | fail)
     refine(Jh w3 del id pa pc F.length F rfl HLen.out (l7.texts (Below.stays HP3.out.low) HF.out) HSz.out).mono ?_
     rintro e w4 ⟨b,rfl,hb,hgr⟩
     have HO4:=hJ (aj HO3.out hb)
     have HP4:=hJ (HP3.out.under hb)
     have HGr:=hJ hgr
     clear hb hgr
     cases b with
     | true =>
      have HFx:=hJ (qC w4 (HT0.out.below HP4.out.low))
      go_wp2_with fail
      refine HFx.out.mono ?_;rintro e wz ⟨rfl,hb⟩
      have HBz:=hJ (ah HB0.out (ah HP4.out.low hb))
      clear hb
      go_wp2_with fail
      try rw[Exit.noGoto_ret]
      go_ret
      exact⟨rfl,HBz.out⟩
     | false =>
      go_wp2_with (first
       | (refine yZ rfl 37 (.tmp 8) rfl qb rfl 37 #[.bool del,.int .u32 id,.slice pa F.length pc] (0,0) _ HO4.out Tryz.underlying37 rfl (mP _ _ _) ?_)
       | fail)
      refine(HP4.out.QV HK.out oZ HT0.out del id HId.out pa F pc HF.out (HGr.out trivial).1 (HGr.out trivial).2).mono ?_
      rintro e w5 ⟨rfl,h5⟩
      have HP5:=hJ h5
      clear h5
      go_wp2_with fail
      go_roundw
      case rel=>exact⟨i+1,oZ,oZ,by go_num,HP5.out⟩
      case measure=>simp[intOf];omega
   ·obtain rfl:i=k:=oZ
    have HFx:=hJ (qC wr (HT0.out.below HPi.out.low))
    go_wp2_with fail
    refine HFx.out.mono ?_;rintro e wz ⟨rfl,hb⟩
    have HBz:=hJ (ah HB0.out (ah HPi.out.low hb))
    clear hb
    go_wp2_with fail
    try rw[Exit.noGoto_ret]
    go_ret
    exact⟨rfl,HBz.out⟩
end Go.Proofs.YtlfndoclbebdaaaGreatDoor
