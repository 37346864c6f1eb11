/-
 What stage 12 rests on.
-/
import Derived.Test.YtlfndoclbebdaaaGreatDoorWrErA1
import Derived.Test.YtlfndoclbebdaaaGreatDoorWrErK1
import Derived.Test.YtlfndoclbebdaaaGreatDoorWrErG4
import Derived.Test.YtlfndoclbebdaaaGreatDoorWrErI5
import Derived.Test.YtlfndoclbebdaaaGreatDoorWrErI2
import Derived.Test.YtlfndoclbebdaaaGreatDoorWrErF1
import Derived.Test.YtlfndoclbebdaaaGreatDoorWrErD2
import Derived.Test.YtlfndoclbebdaaaGreatDoorWrErB5
import Derived.Laws.Tables
set_option maxRecDepth 100000
set_option maxHeartbeats 16000000
namespace Go.Proofs.YtlfndoclbebdaaaGreatDoor
open Go.RowKit
theorem mP (a b c:Value):(Tryz.prog.info? 37).map (·.size)=some (#[a,b,c]:Array Value).size:=by
 rw[show (#[a,b,c]:Array Value).size=3 from rfl]
 kernel_rfl
theorem kX {W w w':World} {k:Nat} (hk:k<W.heap.size) (h:w.heap[k]?=W.heap[k]?) (hb:Below w.heap.size w w'):w'.heap[k]?=W.heap[k]?:=by
 have:k<w.heap.size:=by
  rw[Array.getElem?_eq_getElem hk] at h
  exact(Array.getElem?_eq_some_iff.1 h).1
 exact(hb.block k this).trans h
theorem Su {w:World} {b c:Nat} {cs:List Int} {l s l' s':Int} (h:dD w b c cs l s) (k:dD w b c cs l' s'):s=s':=by
 have e:=h.c2.symm.trans k.c2
 injection e with e
 injection e
theorem Ry {W0 W:World} {Wb mb cb dd:Nat} {tt:Int} {ss:Nat->Int} {bk rm:Int} {kf bf:Nat} {B S:Nat->Int} {C L:Int} {m n nd:Nat} {cs:List Int} {x:Sx} {d:dm} {l s:Int} {og og2:Option Addr} {gc gc2 gz:Nat} (hK:KC dd tt ss bk rm B S C L m) (hW:DW W0 W Wb mb cb dd tt ss bk rm kf bf B S C L m n nd cs x d l s og og2 gc gc2 gz) (bv:Bool) (id:Int) (hls:l+s<=100000000) (fo:Option Addr) (fn fc:Nat) {e0:Int} {cs':List Int} {x':Sx} {nd':Nat} {d':dm} (p:Pr CZ) (q:Nat) (y:CZ) (hq:q<=500000) (hdo:Does p cs q y cs') (hye:y.2=e0) (hyx:e0=0->y.1=x') (hlen9:cs'.length=cs.length) (hinv9:WI B S C m dd tt nd' cs' x' d') (hns:e0≠0->eF (fun _=>False) p cs q y cs')
  (hclo:∀ (w4:World) (v wb:Nat),wb=W.heap.size+1->wb+1<v->v+1+1+1+1<w4.heap.size->Below W.heap.size W w4->w4.heap[wb]?=some (.cells (aQ (.slice og 1 gc) x) 46 (0,0))->w4.heap[wb+1]?=some (.cells #[.int .i64 0] 52 (0,0)) ->
   PI (v+1) v (v+1+1+1+1) (v+1+1) (v+1+1+1) Wb wb (wb+1) #[.bool bv,.int .u32 id,.slice fo fn fc] (ak (dd:Int) tt ss bk rm kf bf) (aQ (.slice og 1 gc) x) w4 ->
   QP 54 #[.pointer (some ⟨v+1,0,none⟩),.pointer (some ⟨v,0,none⟩),.pointer (some ⟨v+1+1+1+1,0,none⟩),.pointer (some ⟨v+1+1,0,none⟩),.pointer (some ⟨v+1+1+1,0,none⟩)] w4.heap.size mb cb (CS w4 mb cb) (CI w4 mb cb wb (wb+1)) p (Eb w4 wb (wb+1)) 200000000)
  (hwant:∀ w6:World,(∀ k,k<W.heap.size->k≠mb->k≠cb->w6.heap[k]?=W.heap[k]?)->dH .u32 w6 (some ⟨gz,0,none⟩) (jB cs)->gy w6 og2 x.aH->w6.heap[Wb]?=some (.cells (aY (ak (dd:Int) tt ss bk rm kf bf) (af B S C (m:Int) L) (.pointer (some ⟨mb,0,none⟩)) (aQ (.slice og 1 gc) x) (aK (.slice (some ⟨gz,0,none⟩) n n) (.slice og2 1 gc2) x)) 51 (0,0)) ->
   Calls Tryz.prog 20 #[.pointer (some ⟨Wb,0,none⟩),.agg #[.bool bv,.int .u32 id,.slice fo fn fc]] w6 fun e9 w'=>∃ vc vs,e9=.returned (.tuple #[.int .i64 e0,.agg (aK vc vs x')])/\Below w6.heap.size w6 w'/\((e0≠0/\vc=.slice (some ⟨gz,0,none⟩) n n/\vs=.slice og2 1 gc2/\cs'=cs/\x'=x)∨(e0=0/\∃ g,vc=.slice (some ⟨g,0,none⟩) n n/\dK w' g cs'/\bF w' w6.heap.size vs x'.aH/\w6.heap.size<=g))) :
  Calls Tryz.prog 18 #[.pointer (some ⟨Wb,0,none⟩),.agg #[.bool bv,.int .u32 id,.slice fo fn fc]] W fun e W'=>e=.returned (.bool true)/\∃ l' s' og' og2' gc' gc2' gz',(e0≠0->s'=s)/\(gz'=gz∨W.heap.size<=gz')/\l'+s'<=l+s+500000/\DW W0 W' Wb mb cb dd tt ss bk rm kf bf B S C L m n nd' cs' x' d' l' s' og' og2' gc' gc2' gz'/\∀ k,k<W.heap.size->k≠mb->k≠cb->k≠Wb->W'.heap[k]?=W.heap[k]?:=by
 have HK:=hJ hK
 have HD:=hJ hW
 have H9:=hJ (And.intro (hlen9.trans hW.len) hinv9)
 have HDo:=hJ hdo
 have HY:=hJ (And.intro hye hyx)
 have HCl:=hJ hclo
 have HWa:=hJ hwant
 have HNs:=hJ hns
 clear hW hK hdo hye hyx hlen9 hinv9 hclo hwant hns
 go_enter Tryz.func18,Tryz.ntmps18
 go_upto_region 1 with fail
 have hb1:=au (w:=W) (A:=.cells #[.bool bv,.int .u32 id,.slice fo fn fc] 37)
 have HO:=hJ (nZ W (.cells #[.bool bv,.int .u32 id,.slice fo fn fc] 37))
 have HZ1:=hJ (show (W.alloc (.cells #[.bool bv,.int .u32 id,.slice fo fn fc] 37)).heap.size=W.heap.size+1 by simp)
 generalize W.alloc (.cells #[.bool bv,.int .u32 id,.slice fo fn fc] 37)=w1 at hb1 HO HZ1 ⊢
 have HB1:=hJ hb1
 have HX1:=hJ (aj HD.out.box hb1)
 clear hb1
 go_upto_region 2 with (first
  | (refine dU rfl 46 (.tmp 13) rfl Wb 26 rfl 51 (aY (ak (dd:Int) tt ss bk rm kf bf) (af B S C (m:Int) L) (.pointer (some ⟨mb,0,none⟩)) (aQ (.slice og 1 gc) x) (aK (.slice (some ⟨gz,0,none⟩) n n) (.slice og2 1 gc2) x)) (aQ (.slice og 1 gc) x) (0,0) _ HX1.out (kQ rfl rfl) Tryz.underlying46 rfl (aN _ _) ?_)
  | (refine zZ rfl 46 (.tmp 5) (.tmp 14) rfl w1.heap.size (aQ (.slice og 1 gc) x) rfl rfl 46 (aQ (.slice none 0 0) aO) (fO w1 _ _) (aN _ _) rfl (dY _ _ _ _) ?_;obtain⟨w2,hw2⟩:∃ w2,w2=((w1.alloc (.cells (aQ (.slice none 0 0) aO) 46)).alloc (.cells #[.int .i64 0] 52)).setRow w1.heap.size (aQ (.slice og 1 gc) x):=⟨_,rfl⟩;rw[show ((w1.alloc (.cells #[.slice none 0 0,.int .i64 0,.int .u32 0,.int .i64 0,.int .i64 0,.int .i64 0,.int .i64 0,.int .i64 0,.int .i64 0] 46)).alloc (.cells #[.int .i64 0] 52)).setRow w1.heap.size (aQ (.slice og 1 gc) x)=w2 from hw2.symm];have HE2:=hJ (show w2.heap[w1.heap.size+1]?=some (.cells #[.int .i64 0] 52 (0,0)) by(rw[hw2];exact(qZ _ _ _ _ oZ).trans (fK w1 _ _)));have HW2:=hJ (show w2.heap[w1.heap.size]?=some (.cells (aQ (.slice og 1 gc) x) 46 (0,0)) by(rw[hw2];exact setRow_heap _ _ _ _ _ _ (fO w1 _ _)));have HB2:=hJ (show Below w1.heap.size w1 w2 by(rw[hw2];exact below_setRow dL (Nat.le_refl _) _));have qe:=ae HE2.out 0;have fe:=free_at HE2.out 0;clear hw2)
  | fail)
 have HB3:=hJ (low_set HB2.out (show w1.heap.size<=w1.heap.size+1 by omega) 0 (.int .i64 0))
 have HW3:=hJ ((Below.heap_setCell w2 ⟨w1.heap.size+1,0,none⟩ (.int .i64 0) w1.heap.size (show w1.heap.size≠w1.heap.size+1 by omega)).trans HW2.out)
 have HE3:=hJ (show (w2.setCell ⟨w1.heap.size+1,0,none⟩ (.int .i64 0)).heap[w1.heap.size+1]?=some (.cells #[.int .i64 0] 52 (0,0)) by rw[heap_setCell_same _ _ _ _ _ _ HE2.out];rfl)
 generalize w2.setCell ⟨w1.heap.size+1,0,none⟩ (.int .i64 0)=w3 at HB3 HW3 HE3 ⊢
 clear qe fe HB2 HW2 HE2
 obtain⟨wb,hwb⟩:∃ wb,w1.heap.size=wb:=⟨_,rfl⟩
 rw[hwb] at HW3 HE3 HZ1 ⊢
 have HWB:=hJ hwb
 clear hwb HX1
 have HO3:=hJ (aj HO.out HB3.out)
 have HBW3:=hJ (ah HB1.out HB3.out)
 have HX3:=hJ (aj HD.out.box HBW3.out)
 go_wp2_with (first
  | (refine yZ rfl 37 (.tmp 3) rfl W.heap.size rfl 37 #[.bool bv,.int .u32 id,.slice fo fn fc] (0,0) _ HO3.out Tryz.underlying37 rfl (mP _ _ _) ?_)
  | fail)
 refine(tH w3 (dd:Int) tt ss bk rm kf bf (af B S C (m:Int) L) (aK (.slice (some ⟨gz,0,none⟩) n n) (.slice og2 1 gc2) x) rfl (.pointer (some ⟨mb,0,none⟩)) (.slice og 1 gc) rfl x Wb wb (wb+1) bv id (.slice fo fn fc) HX3.out).mono ?_
 rintro e w4 ⟨rfl,hb4,hpi,hlt4⟩
 have HB4:=hJ hb4
 have HPI:=hJ hpi
 have HLt4:=hJ hlt4
 have HX4:=hJ (aj HX3.out hb4)
 have cm:w4.cell? ⟨Wb,25,none⟩=some (.pointer (some ⟨mb,0,none⟩)):=(ae HX4.out 25).trans (lC rfl rfl)
 clear hb4 hpi hlt4
 go_wp2_with fail
 refine(Iw _ mb).mono ?_;rintro e w5 ⟨rfl,hr,hb⟩
 have hdd:=HD.out
 obtain⟨v1,v2,v3,v4,v5,v6,v7,v8⟩:=hdd.inv.bounds
 have hsl:eP B dd=B 5+1+4*(dd:Int):=rfl
 have hc5:=HK.out.c5
 have hnd:=hdd.inv.nd_
 have hd64:=hdd.inv.hdd
 have hmbW:=lt_of_heap hdd.mem.rec_
 have hcbW:=lt_of_heap hdd.mem.row
 have hWbW:=lt_of_heap hdd.box
 have hgzW:=hdd.row.lt
 have hz1:=HZ1.out
 have hwb3:=lt_of_heap HE3.out
 have hlt4:=HLt4.out
 have hs3:=HBW3.out.size
 have hWm:Wb≠mb:=by
  rintro rfl
  have h9:=hdd.box.symm.trans hdd.mem.rec_
  injection h9 with h9
  injection h9 with _ h9 _
  exact absurd h9 dZ
 have hWc:Wb≠cb:=by
  rintro rfl
  have h9:=hdd.box.symm.trans hdd.mem.row
  injection h9 with h9
  injection h9 with _ h9 _
  exact absurd h9 dZ
 have hgm:gz≠mb:=hdd.row.ne hdd.mem.rec_ dZ
 have HBW4:=hJ (ah HBW3.out HB4.out)
 have HM4:=hJ (hdd.mem.below HBW4.out)
 have HW4:=hJ (aj HW3.out HB4.out)
 have HE4:=hJ (aj HE3.out HB4.out)
 have HS4:=hJ (show bF w4 W0.heap.size (.slice og 1 gc) x.aH from aA hdd.aH HBW4.out)
 have HS42:=hJ (show bF w4 W0.heap.size (.slice og2 1 gc2) x.aH from aA hdd.segs2 HBW4.out)
 have HZ4:=hJ (hdd.row.below HBW4.out)
 have HSt:=hJ (show ∀ wr,Left w4 mb cb wb (wb+1) wr->∀ k,k<W.heap.size->k≠mb->k≠cb->wr.heap[k]?=W.heap[k]? from fun wr hL k hk e1 e2=>(hL k (by have:=HBW4.out.size;omega) e1 e2 oZ oZ).trans (HBW4.out.block k hk))
 have HC:=hJ (HCl.out w4 w3.heap.size wb oZ oZ hlt4 HBW4.out HW4.out HE4.out HPI.out)
 have HG:=hJ (RQ.new (rb:=w4.heap.size) (S:=CS w4 mb cb) (I:=CI w4 mb cb wb (wb+1)) (w0:=w4) HM4.out hdd.l0 hdd.s0 hdd.inv.ws.cu HDo.out HNs.out hb hr (HC.out.rC w4 w5 ⟨fun _ _ _ _ _ _=>rfl,Nat.le_refl _,⟨_,HW4.out,rfl⟩,⟨_,HE4.out⟩⟩ hb.size fun k hk hl=>hb.block k hl) rfl)
 have HNum:=hJ (And.intro hmbW (And.intro hcbW (And.intro hWbW (And.intro hgzW (And.intro hz1 (And.intro hwb3 (And.intro hlt4 (And.intro hs3 (And.intro hWm (And.intro hWc hgm))))))))))
 have HCS:=hJ (show ∀ k,CS w4 mb cb k->k<w4.heap.size/\k≠mb/\k≠cb from fun k hk=>hk)
 have HT1:=hJ (show l+s+(q:Int)+1<=((200000000:Nat):Int) by omega)
 clear hb hr cm hdd v1 v2 v3 v4 v5 v6 v7 v8 hsl hc5 hnd hd64 hmbW hcbW hWbW hgzW hz1 hwb3 hlt4 hs3 hWm hWc hgm
 go_wp2_with fail
 go_loopw [23] (fun iv wr=>∃ i:Nat,i<=q/\iv=.int .i64 i/\RQ w4 w4.heap.size mb cb (CS w4 mb cb) (CI w4 mb cb wb (wb+1)) p y cs' (l+s+q) q i (e0≠0) s wr) (fun iv _=>1048576-(intOf iv).toNat)
 case atStart=>exact⟨0,oZ,rfl,HG.out⟩
 case round =>
  clear HG
  obtain⟨i,hi,rfl,hg⟩:=hrel
  have hlt:(i:Int)<1048576:=oZ
  have HKs:=hJ (hg.Sv (Nat.le_refl _) HC.out HCS.out oZ HT1.out)
  clear hg
  go_wp2_with fail
  refine HKs.out.mono ?_
  clear HKs
  rintro e w6 (⟨rfl,hf,hkn,cap,go',log,at_,ma,off,hr⟩ | ⟨rfl,hg,hin⟩)
  ·have HF:=hJ hf
   have HR:=hJ hr
   obtain⟨n1,n2,n3,n4,n5,n6,n7,n8,n9,n10,n11⟩:=HNum.out
   have hleft:=hf.inv.left
   have HO6:=hJ ((hleft W.heap.size oZ oZ oZ oZ oZ).trans (aj HO3.out HB4.out))
   have HX6:=hJ ((hleft Wb oZ n9 n10 oZ oZ).trans HX4.out)
   have HZ6:=hJ (HZ4.out.of_block (hleft gz oZ n11 HD.out.zc oZ oZ))
   have HS6:=hJ (HS42.out.left hleft HM4.out.rec_ HM4.out.row HW4.out HE4.out)
   have HS16:=hJ (HS4.out.left hleft HM4.out.rec_ HM4.out.row HW4.out HE4.out)
   obtain⟨so,sn,sc,y9,p1,p2,p3,p4,p5⟩:=hf.post
   rw[HY.out.1] at p2 p5
   have HP1:=hJ p1
   have HP2:=hJ p2
   have HP3:=hJ (And.intro p3 (And.intro p4 p5))
   clear hf hr hleft p1 p2 p3 p4 p5 n1 n2 n3 n4 n5 n6 n7 n8 n9 n10 n11
   go_wp2_with (first
    | (refine yZ rfl 37 (.tmp 3) rfl W.heap.size rfl 37 #[.bool bv,.int .u32 id,.slice fo fn fc] (0,0) _ HO6.out Tryz.underlying37 rfl (mP _ _ _) ?_)
    | fail)
   refine(HWa.out w6 (HSt.out w6 HF.out.inv.left) (HZ6.out.read HD.out.inv.ws.cu) HS6.out.reads HX6.out).mono ?_
   rintro e w7 ⟨vc,vs,rfl,hb7,hout⟩
   have HB67:=hJ hb7
   obtain⟨n1,n2,n3,n4,n5,n6,n7,n8,n9,n10,n11⟩:=HNum.out
   have k1:=HF.out.mod.size
   have k2:=HBW4.out.size
   have k3:=HD.out.low.size
   have k4:=HD.out.oldm
   have k5:=HD.out.oldc
   have hLow6:Below W0.heap.size W0 w6:=⟨HF.out.mod.os.trans (HBW4.out.os.trans HD.out.low.os),HF.out.mod.tape.trans (HBW4.out.tape.trans HD.out.low.tape),HF.out.mod.output.trans (HBW4.out.output.trans HD.out.low.output),oZ,fun k hk=>(HF.out.inv.left k oZ oZ oZ oZ oZ).trans ((HBW4.out.block k oZ).trans (HD.out.low.block k hk))⟩
   have HFr6:=hJ (fun(k:Nat) (hk:k<W.heap.size) (a:k≠mb) (b:k≠cb)=>(HF.out.inv.left k oZ a b oZ oZ).trans (HBW4.out.block k hk))
   obtain⟨l',s',hm6,hl',hs',hsum⟩:=HF.out.mem
   have HSs:=hJ (show e0≠0->s'=s from fun h=>Su hm6 (hkn h).choose_spec)
   clear hkn
   have hcb6:=lt_of_heap hm6.row
   clear k4 k5
   rcases hout with hA | hA
   ·obtain⟨he,hvc,hvs,hcs,hx⟩:=hA
    subst hvc hvs
    have hcs:=hcs.symm
    have hx:=hx.symm
    subst hcs hx
    have hz7:=HZ6.out.below hb7
    have hs7:bF w7 W0.heap.size (.slice og2 1 gc2) x.aH:=aA HS6.out hb7
    have hs17:bF w7 W0.heap.size (.slice og 1 gc) x.aH:=aA HS16.out hb7
    have hzc:=HD.out.zc
    have hd1:decide (e0=0)=false:=decide_eq_false he
    have hd2:(e0==0)=false:=by simp[he]
    have HZ7:=hJ hz7
    have HS7:=hJ hs7
    have HS17:=hJ hs17
    have HZC:=hJ hzc
    clear hz7 hs7 hs17 hzc hb7
    have HTW0:=hJ (show w7.heap.size≠Wb by have:=HB67.out.size;omega)
    clear n1 n2 n3 n4 n5 n6 n7 n8 n9 n10 n11 k1 k2 k3 hcb6
    go_upto_region 9 with (first
     | (refine zZ rfl 49 (.tmp 10) (.tmp 34) rfl w7.heap.size (aK (.slice (some ⟨gz,0,none⟩) n n) (.slice og2 1 gc2) x) rfl rfl 49 dE (nZ w7 _) (aI _ _ _) rfl cZ ?_)
     | fail)
    rw[World.setRow_alloc_new]
    have hb8:=au (w:=w7) (A:=.cells (aK (.slice (some ⟨gz,0,none⟩) n n) (.slice og2 1 gc2) x) 49)
    have HT8:=hJ (nZ w7 (.cells (aK (.slice (some ⟨gz,0,none⟩) n n) (.slice og2 1 gc2) x) 49))
    have HB78:=hJ (ah HB67.out hb8)
    have HZ8:=hJ (HZ7.out.below hb8)
    have HS8:=hJ (show bF (w7.alloc (.cells (aK (.slice (some ⟨gz,0,none⟩) n n) (.slice og2 1 gc2) x) 49)) W0.heap.size (.slice og2 1 gc2) x.aH from aA HS7.out hb8)
    have HS18:=hJ (show bF (w7.alloc (.cells (aK (.slice (some ⟨gz,0,none⟩) n n) (.slice og2 1 gc2) x) 49)) W0.heap.size (.slice og 1 gc) x.aH from aA HS17.out hb8)
    generalize w7.alloc (.cells (aK (.slice (some ⟨gz,0,none⟩) n n) (.slice og2 1 gc2) x) 49)=w8 at HT8 HB78 HZ8 HS8 HS18 ⊢
    obtain⟨tb,htb⟩:∃ tb,w7.heap.size=tb:=⟨_,rfl⟩
    rw[htb] at HT8 ⊢
    have hTW:tb≠Wb:=by rw[<- htb];exact HTW0.out
    have HR8:=hJ (HR.out.below HB78.out)
    have HX8:=hJ (aj HX6.out HB78.out)
    have HW8:=hJ (aj HP1.out HB78.out)
    have qe:w8.cell? ⟨wb+1,0,none⟩=some (.int .i64 e0):=ae (aj HP2.out HB78.out) 0
    have hLow8:=ah hLow6 HB78.out
    have HFr8:=hJ (fun(k:Nat) (hk:k<W.heap.size) (a:k≠mb) (b:k≠cb)=>kX hk (HFr6.out k hk a b) HB78.out)
    have HM8:=hJ (hm6.below HB78.out)
    clear htb hb8 hm6 hLow6
    go_upto_region 13 with (first
     | (go_at_call 29;refine(uz HR8.out).mono ?_;rintro e9 w9 ⟨rfl,rfl⟩)
     | (go_at_call 53;refine(BV HR8.out).mono ?_;rintro e9 w9 ⟨rfl,rfl⟩)
     | fail)
    have HX9:=hJ HX8.out
    have HT9:=hJ HT8.out
    have hLow9:=hLow8
    have HOth9:∀ j,j≠Wb->w8.heap[j]?=w8.heap[j]?:=fun _ _=>rfl
    clear qe
    go_upto_region 14 with (first
     | (refine yZ rfl 49 (.tmp 10) rfl tb rfl 49 (aK (.slice (some ⟨gz,0,none⟩) n n) (.slice og2 1 gc2) x) (0,0) _ HT9.out Tryz.underlying49 rfl (aI _ _ _) ?_)
     | (refine di rfl 49 (.tmp 57) (.tmp 55) rfl Wb 35 (aK (.slice (some ⟨gz,0,none⟩) n n) (.slice og2 1 gc2) x) rfl rfl 51 (aY (ak (dd:Int) tt ss bk rm kf bf) (af B S C (m:Int) L) (.pointer (some ⟨mb,0,none⟩)) (aQ (.slice og 1 gc) x) (aK (.slice (some ⟨gz,0,none⟩) n n) (.slice og2 1 gc2) x)) (aY (ak (dd:Int) tt ss bk rm kf bf) (af B S C (m:Int) L) (.pointer (some ⟨mb,0,none⟩)) (aQ (.slice og 1 gc) x) (aK (.slice (some ⟨gz,0,none⟩) n n) (.slice og2 1 gc2) x)) HX9.out (Nat.le_of_ble_eq_true rfl) (aI _ _ _) cZ rfl ?_)
     | fail)
    have HX10:=hJ (setRow_heap w8 Wb _ (aY (ak (dd:Int) tt ss bk rm kf bf) (af B S C (m:Int) L) (.pointer (some ⟨mb,0,none⟩)) (aQ (.slice og 1 gc) x) (aK (.slice (some ⟨gz,0,none⟩) n n) (.slice og2 1 gc2) x)) _ _ HX9.out)
    have hLow10:=below_setRow hLow9 HD.out.oldb (aY (ak (dd:Int) tt ss bk rm kf bf) (af B S C (m:Int) L) (.pointer (some ⟨mb,0,none⟩)) (aQ (.slice og 1 gc) x) (aK (.slice (some ⟨gz,0,none⟩) n n) (.slice og2 1 gc2) x))
    have HOth:∀ j,j≠Wb->(w8.setRow Wb (aY (ak (dd:Int) tt ss bk rm kf bf) (af B S C (m:Int) L) (.pointer (some ⟨mb,0,none⟩)) (aQ (.slice og 1 gc) x) (aK (.slice (some ⟨gz,0,none⟩) n n) (.slice og2 1 gc2) x))).heap[j]?=w8.heap[j]?:=fun j hj=>(qZ _ _ _ _ hj).trans (HOth9 j hj)
    generalize w8.setRow Wb (aY (ak (dd:Int) tt ss bk rm kf bf) (af B S C (m:Int) L) (.pointer (some ⟨mb,0,none⟩)) (aQ (.slice og 1 gc) x) (aK (.slice (some ⟨gz,0,none⟩) n n) (.slice og2 1 gc2) x))=w10 at HX10 hLow10 HOth ⊢
    obtain⟨n1,n2,n3,n4,n5,n6,n7,n8,n9,n10,n11⟩:=HNum.out
    have HM10:=hJ (HM8.out.eY (HOth mb (Ne.symm n9)) (HOth cb (Ne.symm n10)))
    have HZ10:=hJ (HZ8.out.of_block (HOth gz (HZ8.out.ne HX8.out dZ)))
    have HS10:=hJ (bF.keep HS8.out HX8.out dZ (fun j hj=>HOth j hj))
    have HS110:=hJ (bF.keep HS18.out HX8.out dZ (fun j hj=>HOth j hj))
    have HLow10:=hJ hLow10
    have hlen:cs.length=n:=H9.out.1
    have hbn:=H9.out.2.bounds
    have hn65:n<=65536:=by
     obtain⟨b1,b2,b3,b4,b5,b6,b7,b8⟩:=hbn
     rw[hlen] at b3
     omega
    have hs1:x.aH.length=1:=by rw[H9.out.2.aH];rfl
    have HSM:=hJ (fun(wx:World) (hb:Below w10.heap.size w10 wx)=>nT wx og og2 1 gc gc2 x hs1 oZ (HS110.out.reads.below hb) (HS10.out.reads.below hb))
    have HCE:=hJ (fun(wx:World) (hb:Below w10.heap.size w10 wx)=>cells_at (HM10.out.below hb) (by rw[hlen];exact hn65))
    rw[hlen] at HCE
    have HSA:=hJ (fun(wx:World) (p:Nat) (hb:Below w10.heap.size w10 wx) (h:wx.heap[p]?=some (.cells (cs.map (Value.int .u32)).toArray 32 (0,0)))=>same_eq wx p gz n cs 32 32 hlen.symm oZ h (HZ10.out.below hb).cells)
    have HFr:=hJ (fun(k:Nat) (hk:k<W.heap.size) (a:k≠mb) (b:k≠cb) (c:k≠Wb)=>(HOth k c).trans (HFr8.out k hk a b))
    clear hLow8 hLow9 hLow10 HOth HOth9 hbn hs1 hTW n1 n2 n3 n4 n5 n6 n7 n8 n9 n10 n11
    refine aJ (fun(p:Nat) jz=>[.pointer (some ⟨Wb,0,none⟩),.pointer (some ⟨Wb,0,none⟩),.pointer (some ⟨Wb,26,none⟩),.agg (aQ (.slice og 1 gc) x),.pointer (some ⟨Wb,0,none⟩),.pointer (some ⟨Wb,0,none⟩),.pointer (some ⟨Wb,35,none⟩),.pointer (some ⟨Wb,36,none⟩),.agg (aQ (.slice og2 1 gc2) x),.bool true,.bool true,.pointer (some ⟨Wb,0,none⟩),.pointer (some ⟨Wb,0,none⟩),.pointer (some ⟨Wb,25,none⟩),.pointer (some ⟨mb,0,none⟩),.slice (some ⟨p,0,none⟩) n n,.pointer (some ⟨Wb,0,none⟩),.pointer (some ⟨Wb,0,none⟩),.pointer (some ⟨Wb,35,none⟩),.pointer (some ⟨Wb,35,none⟩),.slice (some ⟨gz,0,none⟩) n n,.bool true,.bool true,.bool true].getD jz undef)
     (fun p l9 wx=>Below w10.heap.size w10 wx/\(l9 15=true->wx.heap[p]?=some (.cells (cs.map (Value.int .u32)).toArray 32 (0,0))))
     kZ kZ pZ 0 ?_ ?_ ?_
    ·exact⟨(Below.refl _ _).drew,fun h=>jZ⟩
    ·intro i o ho p l9 wx hR hl he hcl K hK
     rcases i with _|_|_|_|_|_|_|_|_|_|_|_|_|_|_|_|_|_|_|_|_|_|_|_|i
     any_goals first | (cases ho;go_simp;exact hK p wx (fun _ _=>rfl) hR;done) | fail
     ·cases ho
      refine aW 46 (.tmp 60) rfl Wb 26 rfl 51 (aY (ak (dd:Int) tt ss bk rm kf bf) (af B S C (m:Int) L) (.pointer (some ⟨mb,0,none⟩)) (aQ (.slice og 1 gc) x) (aK (.slice (some ⟨gz,0,none⟩) n n) (.slice og2 1 gc2) x)) (aQ (.slice og 1 gc) x) (0,0) _ (aj HX10.out hR.1) (kQ rfl rfl) Tryz.underlying46 rfl (aN _ _) ?_
      exact hK p wx (fun _ _=>rfl) hR
     ·cases ho
      refine aW 46 (.tmp 65) rfl Wb 36 rfl 51 (aY (ak (dd:Int) tt ss bk rm kf bf) (af B S C (m:Int) L) (.pointer (some ⟨mb,0,none⟩)) (aQ (.slice og 1 gc) x) (aK (.slice (some ⟨gz,0,none⟩) n n) (.slice og2 1 gc2) x)) (aQ (.slice og2 1 gc2) x) (0,0) _ (aj HX10.out hR.1) (II _ _ _ rfl rfl rfl) Tryz.underlying46 rfl (aN _ _) ?_
      exact hK p wx (fun _ _=>rfl) hR
     ·cases ho
      have HRr:=hJ hR
      clear hR
      go_simp
      refine(HSM.out wx HRr.out.1).mono ?_
      rintro e9 w9 ⟨rfl,hb9⟩
      exact hK p w9 (fun _ _=>rfl) ⟨ah HRr.out.1 hb9,fun h=>aj (HRr.out.2 h) hb9⟩
     ·cases ho
      have q:=(show wx.cell? ⟨Wb,25,none⟩=some (.pointer (some ⟨mb,0,none⟩)) from(ae (aj HX10.out hR.1) 25).trans (lC rfl rfl))
      go_simp
      exact hK p wx (fun _ _=>rfl) hR
     ·cases ho
      have HRr:=hJ hR
      clear hR
      go_simp
      refine(HCE.out wx HRr.out.1).mono ?_
      rintro e9 w9 ⟨rfl,hr9,hb9⟩
      refine hK wx.heap.size w9 (fun j hj=>?_) ⟨ah HRr.out.1 hb9,fun _=>hr9⟩
      rcases j with _|_|_|_|_|_|_|_|_|_|_|_|_|_|_|_|_|_|_|_|_|_|_|_|j
      all_goals first | rfl | (rw[hl] at hj;cases hj)
     ·cases ho
      have q:=(show wx.cell? ⟨Wb,35,none⟩=some (.slice (some ⟨gz,0,none⟩) n n) from(ae (aj HX10.out hR.1) 35).trans (lS rfl rfl rfl 0 _ rfl))
      go_simp
      exact hK p wx (fun _ _=>rfl) hR
     ·cases ho
      have h15:l9 15=true:=he ⟨15,.data⟩ sZ rfl
      have HRr:=hJ hR
      have H15:=hJ h15
      clear hR h15
      go_simp
      refine(HSA.out wx p HRr.out.1 (HRr.out.2 H15.out)).mono ?_
      rintro e9 w9 ⟨rfl,hb9⟩
      exact hK p w9 (fun _ _=>rfl) ⟨ah HRr.out.1 hb9,fun h=>aj (HRr.out.2 h) hb9⟩
     ·simp at ho
    ·intro p lz wx hl hR
     have HRr:=hJ hR.1
     clear hR hl
     go_wp2_with fail
     go_ret
     exact⟨rfl,l',s',og,og2,gc,gc2,gz,HSs.out,.inl rfl,oZ,⟨aj HX10.out HRr.out,HM10.out.below HRr.out,hl',hs',HZ10.out.below HRr.out,HZC.out,aA HS110.out HRr.out,aA HS10.out HRr.out,H9.out.2,hlen,ah HLow10.out HRr.out,HD.out.oldm,HD.out.oldc,HD.out.oldb⟩,fun k hk a b c=>kX hk (HFr.out k hk a b c) HRr.out⟩
   ·obtain⟨he,g,hvc,hz7,hs7,hgo⟩:=hA
    have HGn:=hJ (show W.heap.size<=g by omega)
    subst he hvc
    obtain⟨ao,ac,hvs⟩:=mg hs7 1 (by rw[H9.out.2.aH];rfl)
    subst hvs
    obtain⟨p3,p4,p5⟩:=HP3.out
    obtain⟨r1,r2⟩:=p5 rfl
    rw[HY.out.2 rfl] at r1 r2
    have hsn:sn=1:=by rw[p4,<- r2,H9.out.2.aH];rfl
    subst hsn
    rw[<- r1] at HP1
    have hs7:=hs7.lower (a:=W0.heap.size) oZ
    have hs17:bF w7 W0.heap.size (.slice so 1 sc) x'.aH:=by
     rw[r2]
     rw[<- r2] at p3
     rw[<- r2]
     exact aA (bF.lower p3 oZ) hb7
    have hzc:g≠cb:=oZ
    clear p3 p4 p5 r1 r2 hgo
    have HZ7:=hJ hz7
    have HS7:=hJ hs7
    have HS17:=hJ hs17
    have HZC:=hJ hzc
    clear hz7 hs7 hs17 hzc hb7
    have HTW0:=hJ (show w7.heap.size≠Wb by have:=HB67.out.size;omega)
    clear n1 n2 n3 n4 n5 n6 n7 n8 n9 n10 n11 k1 k2 k3 hcb6
    go_upto_region 9 with (first
     | (refine zZ rfl 49 (.tmp 10) (.tmp 34) rfl w7.heap.size (aK (.slice (some ⟨g,0,none⟩) n n) (.slice ao 1 ac) x') rfl rfl 49 dE (nZ w7 _) (aI _ _ _) rfl cZ ?_)
     | fail)
    rw[World.setRow_alloc_new]
    have hb8:=au (w:=w7) (A:=.cells (aK (.slice (some ⟨g,0,none⟩) n n) (.slice ao 1 ac) x') 49)
    have HT8:=hJ (nZ w7 (.cells (aK (.slice (some ⟨g,0,none⟩) n n) (.slice ao 1 ac) x') 49))
    have HB78:=hJ (ah HB67.out hb8)
    have HZ8:=hJ (HZ7.out.below hb8)
    have HS8:=hJ (show bF (w7.alloc (.cells (aK (.slice (some ⟨g,0,none⟩) n n) (.slice ao 1 ac) x') 49)) W0.heap.size (.slice ao 1 ac) x'.aH from aA HS7.out hb8)
    have HS18:=hJ (show bF (w7.alloc (.cells (aK (.slice (some ⟨g,0,none⟩) n n) (.slice ao 1 ac) x') 49)) W0.heap.size (.slice so 1 sc) x'.aH from aA HS17.out hb8)
    generalize w7.alloc (.cells (aK (.slice (some ⟨g,0,none⟩) n n) (.slice ao 1 ac) x') 49)=w8 at HT8 HB78 HZ8 HS8 HS18 ⊢
    obtain⟨tb,htb⟩:∃ tb,w7.heap.size=tb:=⟨_,rfl⟩
    rw[htb] at HT8 ⊢
    have hTW:tb≠Wb:=by rw[<- htb];exact HTW0.out
    have HR8:=hJ (HR.out.below HB78.out)
    have HX8:=hJ (aj HX6.out HB78.out)
    have HW8:=hJ (aj HP1.out HB78.out)
    have qe:w8.cell? ⟨wb+1,0,none⟩=some (.int .i64 0):=ae (aj HP2.out HB78.out) 0
    have hLow8:=ah hLow6 HB78.out
    have HFr8:=hJ (fun(k:Nat) (hk:k<W.heap.size) (a:k≠mb) (b:k≠cb)=>kX hk (HFr6.out k hk a b) HB78.out)
    have HM8:=hJ (hm6.below HB78.out)
    clear htb hb8 hm6 hLow6
    go_upto_region 13 with (first
     | (go_at_call 29;refine(uz HR8.out).mono ?_;rintro e9 w9 ⟨rfl,rfl⟩)
     | (go_at_call 53;refine(BV HR8.out).mono ?_;rintro e9 w9 ⟨rfl,rfl⟩)
     | (refine yZ rfl 46 (.tmp 5) rfl wb rfl 46 (aQ (.slice so 1 sc) x') (0,0) _ HW8.out Tryz.underlying46 rfl (aN _ _) ?_)
     | (refine di rfl 46 (.tmp 53) (.tmp 51) rfl Wb 26 (aQ (.slice so 1 sc) x') rfl rfl 51 (aY (ak (dd:Int) tt ss bk rm kf bf) (af B S C (m:Int) L) (.pointer (some ⟨mb,0,none⟩)) (aQ (.slice og 1 gc) x) (aK (.slice (some ⟨gz,0,none⟩) n n) (.slice og2 1 gc2) x)) (aY (ak (dd:Int) tt ss bk rm kf bf) (af B S C (m:Int) L) (.pointer (some ⟨mb,0,none⟩)) (aQ (.slice so 1 sc) x') (aK (.slice (some ⟨gz,0,none⟩) n n) (.slice og2 1 gc2) x)) HX8.out (Nat.le_of_ble_eq_true rfl) (aN _ _) (dY _ _ _ _) rfl ?_)
     | fail)
    have HX9:=hJ (setRow_heap w8 Wb _ (aY (ak (dd:Int) tt ss bk rm kf bf) (af B S C (m:Int) L) (.pointer (some ⟨mb,0,none⟩)) (aQ (.slice so 1 sc) x') (aK (.slice (some ⟨gz,0,none⟩) n n) (.slice og2 1 gc2) x)) _ _ HX8.out)
    have hLow9:=below_setRow hLow8 HD.out.oldb (aY (ak (dd:Int) tt ss bk rm kf bf) (af B S C (m:Int) L) (.pointer (some ⟨mb,0,none⟩)) (aQ (.slice so 1 sc) x') (aK (.slice (some ⟨gz,0,none⟩) n n) (.slice og2 1 gc2) x))
    have HOth9:∀ j,j≠Wb->(w8.setRow Wb (aY (ak (dd:Int) tt ss bk rm kf bf) (af B S C (m:Int) L) (.pointer (some ⟨mb,0,none⟩)) (aQ (.slice so 1 sc) x') (aK (.slice (some ⟨gz,0,none⟩) n n) (.slice og2 1 gc2) x))).heap[j]?=w8.heap[j]?:=fun j hj=>qZ _ _ _ _ hj
    have HT9:=hJ ((HOth9 tb hTW).trans HT8.out)
    clear qe
    generalize w8.setRow Wb (aY (ak (dd:Int) tt ss bk rm kf bf) (af B S C (m:Int) L) (.pointer (some ⟨mb,0,none⟩)) (aQ (.slice so 1 sc) x') (aK (.slice (some ⟨gz,0,none⟩) n n) (.slice og2 1 gc2) x))=w9 at HX9 hLow9 HOth9 HT9 ⊢
    go_upto_region 14 with (first
     | (refine yZ rfl 49 (.tmp 10) rfl tb rfl 49 (aK (.slice (some ⟨g,0,none⟩) n n) (.slice ao 1 ac) x') (0,0) _ HT9.out Tryz.underlying49 rfl (aI _ _ _) ?_)
     | (refine di rfl 49 (.tmp 57) (.tmp 55) rfl Wb 35 (aK (.slice (some ⟨g,0,none⟩) n n) (.slice ao 1 ac) x') rfl rfl 51 (aY (ak (dd:Int) tt ss bk rm kf bf) (af B S C (m:Int) L) (.pointer (some ⟨mb,0,none⟩)) (aQ (.slice so 1 sc) x') (aK (.slice (some ⟨gz,0,none⟩) n n) (.slice og2 1 gc2) x)) (aY (ak (dd:Int) tt ss bk rm kf bf) (af B S C (m:Int) L) (.pointer (some ⟨mb,0,none⟩)) (aQ (.slice so 1 sc) x') (aK (.slice (some ⟨g,0,none⟩) n n) (.slice ao 1 ac) x')) HX9.out (Nat.le_of_ble_eq_true rfl) (aI _ _ _) cZ rfl ?_)
     | fail)
    have HX10:=hJ (setRow_heap w9 Wb _ (aY (ak (dd:Int) tt ss bk rm kf bf) (af B S C (m:Int) L) (.pointer (some ⟨mb,0,none⟩)) (aQ (.slice so 1 sc) x') (aK (.slice (some ⟨g,0,none⟩) n n) (.slice ao 1 ac) x')) _ _ HX9.out)
    have hLow10:=below_setRow hLow9 HD.out.oldb (aY (ak (dd:Int) tt ss bk rm kf bf) (af B S C (m:Int) L) (.pointer (some ⟨mb,0,none⟩)) (aQ (.slice so 1 sc) x') (aK (.slice (some ⟨g,0,none⟩) n n) (.slice ao 1 ac) x'))
    have HOth:∀ j,j≠Wb->(w9.setRow Wb (aY (ak (dd:Int) tt ss bk rm kf bf) (af B S C (m:Int) L) (.pointer (some ⟨mb,0,none⟩)) (aQ (.slice so 1 sc) x') (aK (.slice (some ⟨g,0,none⟩) n n) (.slice ao 1 ac) x'))).heap[j]?=w8.heap[j]?:=fun j hj=>(qZ _ _ _ _ hj).trans (HOth9 j hj)
    generalize w9.setRow Wb (aY (ak (dd:Int) tt ss bk rm kf bf) (af B S C (m:Int) L) (.pointer (some ⟨mb,0,none⟩)) (aQ (.slice so 1 sc) x') (aK (.slice (some ⟨g,0,none⟩) n n) (.slice ao 1 ac) x'))=w10 at HX10 hLow10 HOth ⊢
    obtain⟨n1,n2,n3,n4,n5,n6,n7,n8,n9,n10,n11⟩:=HNum.out
    have HM10:=hJ (HM8.out.eY (HOth mb (Ne.symm n9)) (HOth cb (Ne.symm n10)))
    have HZ10:=hJ (HZ8.out.of_block (HOth g (HZ8.out.ne HX8.out dZ)))
    have HS10:=hJ (bF.keep HS8.out HX8.out dZ (fun j hj=>HOth j hj))
    have HS110:=hJ (bF.keep HS18.out HX8.out dZ (fun j hj=>HOth j hj))
    have HLow10:=hJ hLow10
    have hlen:cs'.length=n:=H9.out.1
    have hbn:=H9.out.2.bounds
    have hn65:n<=65536:=by
     obtain⟨b1,b2,b3,b4,b5,b6,b7,b8⟩:=hbn
     rw[hlen] at b3
     omega
    have hs1:x'.aH.length=1:=by rw[H9.out.2.aH];rfl
    have HSM:=hJ (fun(wx:World) (hb:Below w10.heap.size w10 wx)=>nT wx so ao 1 sc ac x' hs1 oZ (HS110.out.reads.below hb) (HS10.out.reads.below hb))
    have HCE:=hJ (fun(wx:World) (hb:Below w10.heap.size w10 wx)=>cells_at (HM10.out.below hb) (by rw[hlen];exact hn65))
    rw[hlen] at HCE
    have HSA:=hJ (fun(wx:World) (p:Nat) (hb:Below w10.heap.size w10 wx) (h:wx.heap[p]?=some (.cells (cs'.map (Value.int .u32)).toArray 32 (0,0)))=>same_eq wx p g n cs' 32 32 hlen.symm oZ h (HZ10.out.below hb).cells)
    have HFr:=hJ (fun(k:Nat) (hk:k<W.heap.size) (a:k≠mb) (b:k≠cb) (c:k≠Wb)=>(HOth k c).trans (HFr8.out k hk a b))
    clear hLow8 hLow9 hLow10 HOth HOth9 hbn hs1 hTW n1 n2 n3 n4 n5 n6 n7 n8 n9 n10 n11
    refine aJ (fun(p:Nat) jz=>[.pointer (some ⟨Wb,0,none⟩),.pointer (some ⟨Wb,0,none⟩),.pointer (some ⟨Wb,26,none⟩),.agg (aQ (.slice so 1 sc) x'),.pointer (some ⟨Wb,0,none⟩),.pointer (some ⟨Wb,0,none⟩),.pointer (some ⟨Wb,35,none⟩),.pointer (some ⟨Wb,36,none⟩),.agg (aQ (.slice ao 1 ac) x'),.bool true,.bool true,.pointer (some ⟨Wb,0,none⟩),.pointer (some ⟨Wb,0,none⟩),.pointer (some ⟨Wb,25,none⟩),.pointer (some ⟨mb,0,none⟩),.slice (some ⟨p,0,none⟩) n n,.pointer (some ⟨Wb,0,none⟩),.pointer (some ⟨Wb,0,none⟩),.pointer (some ⟨Wb,35,none⟩),.pointer (some ⟨Wb,35,none⟩),.slice (some ⟨g,0,none⟩) n n,.bool true,.bool true,.bool true].getD jz undef)
     (fun p l9 wx=>Below w10.heap.size w10 wx/\(l9 15=true->wx.heap[p]?=some (.cells (cs'.map (Value.int .u32)).toArray 32 (0,0))))
     kZ kZ pZ 0 ?_ ?_ ?_
    ·exact⟨(Below.refl _ _).drew,fun h=>jZ⟩
    ·intro i o ho p l9 wx hR hl he hcl K hK
     rcases i with _|_|_|_|_|_|_|_|_|_|_|_|_|_|_|_|_|_|_|_|_|_|_|_|i
     any_goals first | (cases ho;go_simp;exact hK p wx (fun _ _=>rfl) hR;done) | fail
     ·cases ho
      refine aW 46 (.tmp 60) rfl Wb 26 rfl 51 (aY (ak (dd:Int) tt ss bk rm kf bf) (af B S C (m:Int) L) (.pointer (some ⟨mb,0,none⟩)) (aQ (.slice so 1 sc) x') (aK (.slice (some ⟨g,0,none⟩) n n) (.slice ao 1 ac) x')) (aQ (.slice so 1 sc) x') (0,0) _ (aj HX10.out hR.1) (kQ rfl rfl) Tryz.underlying46 rfl (aN _ _) ?_
      exact hK p wx (fun _ _=>rfl) hR
     ·cases ho
      refine aW 46 (.tmp 65) rfl Wb 36 rfl 51 (aY (ak (dd:Int) tt ss bk rm kf bf) (af B S C (m:Int) L) (.pointer (some ⟨mb,0,none⟩)) (aQ (.slice so 1 sc) x') (aK (.slice (some ⟨g,0,none⟩) n n) (.slice ao 1 ac) x')) (aQ (.slice ao 1 ac) x') (0,0) _ (aj HX10.out hR.1) (II _ _ _ rfl rfl rfl) Tryz.underlying46 rfl (aN _ _) ?_
      exact hK p wx (fun _ _=>rfl) hR
     ·cases ho
      have HRr:=hJ hR
      clear hR
      go_simp
      refine(HSM.out wx HRr.out.1).mono ?_
      rintro e9 w9 ⟨rfl,hb9⟩
      exact hK p w9 (fun _ _=>rfl) ⟨ah HRr.out.1 hb9,fun h=>aj (HRr.out.2 h) hb9⟩
     ·cases ho
      have q:=(show wx.cell? ⟨Wb,25,none⟩=some (.pointer (some ⟨mb,0,none⟩)) from(ae (aj HX10.out hR.1) 25).trans (lC rfl rfl))
      go_simp
      exact hK p wx (fun _ _=>rfl) hR
     ·cases ho
      have HRr:=hJ hR
      clear hR
      go_simp
      refine(HCE.out wx HRr.out.1).mono ?_
      rintro e9 w9 ⟨rfl,hr9,hb9⟩
      refine hK wx.heap.size w9 (fun j hj=>?_) ⟨ah HRr.out.1 hb9,fun _=>hr9⟩
      rcases j with _|_|_|_|_|_|_|_|_|_|_|_|_|_|_|_|_|_|_|_|_|_|_|_|j
      all_goals first | rfl | (rw[hl] at hj;cases hj)
     ·cases ho
      have q:=(show wx.cell? ⟨Wb,35,none⟩=some (.slice (some ⟨g,0,none⟩) n n) from(ae (aj HX10.out hR.1) 35).trans (lS rfl rfl rfl 0 _ rfl))
      go_simp
      exact hK p wx (fun _ _=>rfl) hR
     ·cases ho
      have h15:l9 15=true:=he ⟨15,.data⟩ sZ rfl
      have HRr:=hJ hR
      have H15:=hJ h15
      clear hR h15
      go_simp
      refine(HSA.out wx p HRr.out.1 (HRr.out.2 H15.out)).mono ?_
      rintro e9 w9 ⟨rfl,hb9⟩
      exact hK p w9 (fun _ _=>rfl) ⟨ah HRr.out.1 hb9,fun h=>aj (HRr.out.2 h) hb9⟩
     ·simp at ho
    ·intro p lz wx hl hR
     have HRr:=hJ hR.1
     clear hR hl
     go_wp2_with fail
     go_ret
     exact⟨rfl,l',s',so,ao,sc,ac,g,HSs.out,.inr HGn.out,oZ,⟨aj HX10.out HRr.out,HM10.out.below HRr.out,hl',hs',HZ10.out.below HRr.out,HZC.out,aA HS110.out HRr.out,aA HS10.out HRr.out,H9.out.2,hlen,ah HLow10.out HRr.out,HD.out.oldm,HD.out.oldc,HD.out.oldb⟩,fun k hk a b c=>kX hk (HFr.out k hk a b c) HRr.out⟩
  ·have HG:=hJ hg
   clear hg
   go_wp2_with fail
   go_roundw
   case rel=>exact⟨i+1,oZ,by go_num,HG.out⟩
   case measure=>simp[intOf];omega
theorem RV {W0 W:World} {Wb mb cb dd:Nat} {tt:Int} {ss:Nat->Int} {bk rm:Int} {kf bf:Nat} {B S:Nat->Int} {C L:Int} {m n nd:Nat} {cs:List Int} {x:Sx} {d:dm} {l s:Int} {og og2:Option Addr} {gc gc2 gz:Nat} (hK:KC dd tt ss bk rm B S C L m) (hW:DW W0 W Wb mb cb dd tt ss bk rm kf bf B S C L m n nd cs x d l s og og2 gc gc2 gz) (id:Int) (_hver:x.dR+1<=4294967295) (hls:l+s<=100000000) (fo:Option Addr) (fn fc:Nat) {e0:Int} {cs':List Int} {x':Sx} (hgood:uI B S C m dd tt nd id cs x d e0 cs' x') (_hT:ed W0) :
  Calls Tryz.prog 18 #[.pointer (some ⟨Wb,0,none⟩),.agg #[.bool true,.int .u32 id,.slice fo fn fc]] W fun e W'=>e=.returned (.bool true)/\∃ l' s' og' og2' gc' gc2' gz',(e0≠0->s'=s)/\(gz'=gz∨W.heap.size<=gz')/\l'+s'<=l+s+500000/\DW W0 W' Wb mb cb dd tt ss bk rm kf bf B S C L m n nd cs' x' d l' s' og' og2' gc' gc2' gz'/\∀ k,k<W.heap.size->k≠mb->k≠cb->k≠Wb->W'.heap[k]?=W.heap[k]?:=by
 obtain⟨q,y,hq,hdo,hye,hyx,hns⟩:=hgood.quiet hW.inv
 refine Ry hK hW true id hls fo fn fc (vV id x) q y hq hdo hye hyx hgood.len hgood.inv hns ?_ ?_
 ·intro w4 v wb hwb hwv hvl hb hw hE hpi
  have hdd:=hW
  obtain⟨v1,v2,v3,v4,v5,v6,v7,v8⟩:=hdd.inv.bounds
  have hsl:eP B dd=B 5+1+4*(dd:Int):=rfl
  have hc5:=hK.c5
  have hnd:=hdd.inv.nd_
  have hd64:=hdd.inv.hdd
  have hmbW:=lt_of_heap hdd.mem.rec_
  have hcbW:=lt_of_heap hdd.mem.row
  have hWbW:=lt_of_heap hdd.box
  have hs3:=hb.size
  have hWm:Wb≠mb:=by
   rintro rfl
   have h9:=hdd.box.symm.trans hdd.mem.rec_
   injection h9 with h9
   injection h9 with _ h9 _
   exact absurd h9 dZ
  have hWc:Wb≠cb:=by
   rintro rfl
   have h9:=hdd.box.symm.trans hdd.mem.row
   injection h9 with h9
   injection h9 with _ h9 _
   exact absurd h9 dZ
  have hM4:=hdd.mem.below hb
  have hS4:bF w4 W0.heap.size (.slice og 1 gc) x.aH:=aA hdd.aH hb
  exact Pv (W:=w4) (rb:=w4.heap.size) (mb:=mb) (cb:=cb) (Bd:=200000000) (dd:=dd) (tt:=tt) (ss:=ss) (bk:=bk) (rm:=rm) (kf:=kf) (bf:=bf) (a:=B 5) oZ oZ hdd.inv.aH oZ ⟨v7,v8⟩ id og gc oZ (Nat.le_refl _) (oc:=#[.bool true,.int .u32 id,.slice fo fn fc]) rfl rfl (fun wr hL=>(hS4.left hL hM4.rec_ hM4.row hw hE).reads) hpi (by
   intro k hk
   simp only[List.mem_cons,List.not_mem_nil,or_false] at hk
   rcases hk with rfl | rfl | rfl | rfl | rfl | rfl
   all_goals exact⟨oZ,oZ,oZ,oZ,oZ⟩) (show wb≠wb+1 by omega) ⟨oZ,oZ,oZ⟩ ⟨oZ,oZ,oZ⟩
 ·intro w6 hst hz hg hx
  exact Me hW.inv hgood.out w6 (some ⟨gz,0,none⟩) n n hW.len hz og2 gc2 hg ss bk rm kf bf L fo fn fc (.pointer (some ⟨mb,0,none⟩)) (aQ (.slice og 1 gc) x) rfl Wb hx
theorem Jr {W0 W:World} {Wb mb cb dd:Nat} {tt:Int} {ss:Nat->Int} {bk rm:Int} {kf bf:Nat} {B S:Nat->Int} {C L:Int} {m n nd:Nat} {cs:List Int} {x:Sx} {d:dm} {l s:Int} {og og2:Option Addr} {gc gc2 gz:Nat} (hK:KC dd tt ss bk rm B S C L m) (hW:DW W0 W Wb mb cb dd tt ss bk rm kf bf B S C L m n nd cs x d l s og og2 gc gc2 gz) (id:Int) (hver:x.dR+1<=4294967295) (hls:l+s<=100000000) (fo:Option Addr) (fn fc:Nat) {e0:Int} {cs':List Int} {x':Sx} (hgood:uI B S C m dd tt nd id cs x d e0 cs' x') (hT:ed W0) :
  Calls Tryz.prog 18 #[.pointer (some ⟨Wb,0,none⟩),.agg #[.bool true,.int .u32 id,.slice fo fn fc]] W fun e W'=>e=.returned (.bool true)/\∃ l' s' og' og2' gc' gc2' gz',l'+s'<=l+s+500000/\DW W0 W' Wb mb cb dd tt ss bk rm kf bf B S C L m n nd cs' x' d l' s' og' og2' gc' gc2' gz'/\∀ k,k<W.heap.size->k≠mb->k≠cb->k≠Wb->W'.heap[k]?=W.heap[k]?:=by
 refine(RV hK hW id hver hls fo fn fc hgood hT).mono ?_
 rintro e w' ⟨he,l',s',og',og2',gc',gc2',gz',_,_,h⟩
 exact⟨he,l',s',og',og2',gc',gc2',gz',h⟩
theorem LZ {W0 W:World} {Wb mb cb dd:Nat} {tt:Int} {ss:Nat->Int} {bk rm:Int} {kf bf:Nat} {B S:Nat->Int} {C L:Int} {m n nd:Nat} {cs:List Int} {x:Sx} {d:dm} {l s:Int} {og og2:Option Addr} {gc gc2 gz:Nat} (hK:KC dd tt ss bk rm B S C L m) (hW:DW W0 W Wb mb cb dd tt ss bk rm kf bf B S C L m n nd cs x d l s og og2 gc gc2 gz) (id:Int) (hver:x.dR+1<=4294967295) (hls:l+s<=100000000) (fo:Option Addr) (fn fc:Nat) (hT:ed W0) :
  Calls Tryz.prog 18 #[.pointer (some ⟨Wb,0,none⟩),.agg #[.bool true,.int .u32 id,.slice fo fn fc]] W fun e W'=>e=.returned (.bool true)/\∃ e0 cs' x' l' s' og' og2' gc' gc2' gz',uI B S C m dd tt nd id cs x d e0 cs' x'/\l'+s'<=l+s+500000/\DW W0 W' Wb mb cb dd tt ss bk rm kf bf B S C L m n nd cs' x' d l' s' og' og2' gc' gc2' gz'/\∀ k,k<W.heap.size->k≠mb->k≠cb->k≠Wb->W'.heap[k]?=W.heap[k]?:=by
 obtain⟨e0,cs',x',hgood⟩:=hW.inv.del id hver
 refine(Jr hK hW id hver hls fo fn fc hgood hT).mono ?_
 rintro e w' ⟨he,l',s',og',og2',gc',gc2',gz',h1,h2,h3⟩
 exact⟨he,e0,cs',x',l',s',og',og2',gc',gc2',gz',hgood,h1,h2,h3⟩
theorem RU {W0 W:World} {Wb mb cb dd:Nat} {tt:Int} {ss:Nat->Int} {bk rm:Int} {kf bf:Nat} {B S:Nat->Int} {C L:Int} {m n nd:Nat} {cs:List Int} {x:Sx} {d:dm} {l s:Int} {og og2:Option Addr} {gc gc2 gz:Nat} (hK:KC dd tt ss bk rm B S C L m) (hW:DW W0 W Wb mb cb dd tt ss bk rm kf bf B S C L m n nd cs x d l s og og2 gc gc2 gz) (id:Int) (_hver:x.dR+1<=4294967295) (hls:l+s<=100000000) (fo:Option Addr) (F:List ByteArray) (fc:Nat) (hFs:∀ f∈F,f.size<=1000000) (hFn:F.length<=1000000) (hid:U id) {e0:Int} {cs':List Int} {x':Sx} {nd':Nat} {d':dm} (hgood:tN B S C m dd tt nd id F cs x d e0 cs' x' nd' d') (hT:∀ wr,(∀ k,k<W.heap.size->k≠mb->k≠cb->wr.heap[k]?=W.heap[k]?)->ed wr/\iY wr fo F) :
  Calls Tryz.prog 18 #[.pointer (some ⟨Wb,0,none⟩),.agg #[.bool false,.int .u32 id,.slice fo F.length fc]] W fun e W'=>e=.returned (.bool true)/\∃ l' s' og' og2' gc' gc2' gz',(e0≠0->s'=s)/\(gz'=gz∨W.heap.size<=gz')/\l'+s'<=l+s+500000/\DW W0 W' Wb mb cb dd tt ss bk rm kf bf B S C L m n nd' cs' x' d' l' s' og' og2' gc' gc2' gz'/\∀ k,k<W.heap.size->k≠mb->k≠cb->k≠Wb->W'.heap[k]?=W.heap[k]?:=by
 obtain⟨q,y,hq,hdo,hye,hyx,hns⟩:=hgood.quiet hW.inv
 refine Ry hK hW false id hls fo F.length fc (qQ B S m dd tt nd id F x) q y hq hdo hye hyx hgood.len hgood.inv hns ?_ ?_
 ·intro w4 v wb hwb hwv hvl hb hw hE hpi
  have hdd:=hW
  obtain⟨v1,v2,v3,v4,v5,v6,v7,v8⟩:=hdd.inv.bounds
  have hsl:eP B dd=B 5+1+4*(dd:Int):=rfl
  have hc5:=hK.c5
  have hnd:=hdd.inv.nd_
  have hd64:=hdd.inv.hdd
  have hmbW:=lt_of_heap hdd.mem.rec_
  have hcbW:=lt_of_heap hdd.mem.row
  have hWbW:=lt_of_heap hdd.box
  have hs3:=hb.size
  have hWm:Wb≠mb:=by
   rintro rfl
   have h9:=hdd.box.symm.trans hdd.mem.rec_
   injection h9 with h9
   injection h9 with _ h9 _
   exact absurd h9 dZ
  have hWc:Wb≠cb:=by
   rintro rfl
   have h9:=hdd.box.symm.trans hdd.mem.row
   injection h9 with h9
   injection h9 with _ h9 _
   exact absurd h9 dZ
  have hM4:=hdd.mem.below hb
  have hS4:bF w4 W0.heap.size (.slice og 1 gc) x.aH:=aA hdd.aH hb
  have hSt:∀ wr,Left w4 mb cb wb (wb+1) wr->ed wr/\iY wr fo F:=fun wr hL=>hT wr fun k hk e1 e2=>(hL k oZ e1 e2 oZ oZ).trans (hb.block k hk)
  exact Pe (W:=w4) (rb:=w4.heap.size) (mb:=mb) (cb:=cb) (Bd:=200000000) (kf:=kf) (bf:=bf) hK.ok hK.pl hdd.inv.hL hK.lv oZ (by have:=hdd.inv.htt;have:=hdd.inv.many;omega) (by have:=hdd.inv.hm;omega) hdd.inv.hdd hdd.inv.aH hdd.inv.nd_ hdd.inv.ws.used ⟨v5,by have:=hdd.inv.many;have:=hdd.inv.htt;have:=hdd.inv.hm;omega⟩ ⟨v7,v8⟩ hid F fo fc hFs hFn og gc oZ (Nat.le_refl _) (oc:=#[.bool false,.int .u32 id,.slice fo F.length fc]) rfl (tV _ _ _) (fun wr hL=>⟨(hS4.left hL hM4.rec_ hM4.row hw hE).reads,(hSt wr hL).2,(hSt wr hL).1⟩) hpi (by
   intro k hk
   simp only[List.mem_cons,List.not_mem_nil,or_false] at hk
   rcases hk with rfl | rfl | rfl | rfl | rfl | rfl
   all_goals exact⟨oZ,oZ,oZ,oZ,oZ⟩) (show wb≠wb+1 by omega) ⟨oZ,oZ,oZ⟩ ⟨oZ,oZ,oZ⟩
 ·intro w6 hst hz hg hx
  exact Np hW.inv hgood.out hid w6 (some ⟨gz,0,none⟩) n n hW.len hz og2 gc2 hg ss bk rm kf bf L fo F.length fc rfl (hT w6 hst).2 hFs hFn (.pointer (some ⟨mb,0,none⟩)) (aQ (.slice og 1 gc) x) rfl Wb hx
theorem JD {W0 W:World} {Wb mb cb dd:Nat} {tt:Int} {ss:Nat->Int} {bk rm:Int} {kf bf:Nat} {B S:Nat->Int} {C L:Int} {m n nd:Nat} {cs:List Int} {x:Sx} {d:dm} {l s:Int} {og og2:Option Addr} {gc gc2 gz:Nat} (hK:KC dd tt ss bk rm B S C L m) (hW:DW W0 W Wb mb cb dd tt ss bk rm kf bf B S C L m n nd cs x d l s og og2 gc gc2 gz) (id:Int) (hver:x.dR+1<=4294967295) (hls:l+s<=100000000) (fo:Option Addr) (F:List ByteArray) (fc:Nat) (hFs:∀ f∈F,f.size<=1000000) (hFn:F.length<=1000000) (hid:U id) {e0:Int} {cs':List Int} {x':Sx} {nd':Nat} {d':dm} (hgood:tN B S C m dd tt nd id F cs x d e0 cs' x' nd' d') (hT:∀ wr,(∀ k,k<W.heap.size->k≠mb->k≠cb->wr.heap[k]?=W.heap[k]?)->ed wr/\iY wr fo F) :
  Calls Tryz.prog 18 #[.pointer (some ⟨Wb,0,none⟩),.agg #[.bool false,.int .u32 id,.slice fo F.length fc]] W fun e W'=>e=.returned (.bool true)/\∃ l' s' og' og2' gc' gc2' gz',l'+s'<=l+s+500000/\DW W0 W' Wb mb cb dd tt ss bk rm kf bf B S C L m n nd' cs' x' d' l' s' og' og2' gc' gc2' gz'/\∀ k,k<W.heap.size->k≠mb->k≠cb->k≠Wb->W'.heap[k]?=W.heap[k]?:=by
 refine(RU hK hW id hver hls fo F fc hFs hFn hid hgood hT).mono ?_
 rintro e w' ⟨he,l',s',og',og2',gc',gc2',gz',_,_,h⟩
 exact⟨he,l',s',og',og2',gc',gc2',gz',h⟩
theorem NC {W0 W:World} {Wb mb cb dd:Nat} {tt:Int} {ss:Nat->Int} {bk rm:Int} {kf bf:Nat} {B S:Nat->Int} {C L:Int} {m n nd:Nat} {cs:List Int} {x:Sx} {d:dm} {l s:Int} {og og2:Option Addr} {gc gc2 gz:Nat} (hK:KC dd tt ss bk rm B S C L m) (hW:DW W0 W Wb mb cb dd tt ss bk rm kf bf B S C L m n nd cs x d l s og og2 gc gc2 gz) (id:Int) (hver:x.dR+1<=4294967295) (hls:l+s<=100000000) (fo:Option Addr) (F:List ByteArray) (fc:Nat) (hFs:∀ f∈F,f.size<=1000000) (hFn:F.length<=1000000) (hid:U id) (hT:∀ wr,(∀ k,k<W.heap.size->k≠mb->k≠cb->wr.heap[k]?=W.heap[k]?)->ed wr/\iY wr fo F) :
  Calls Tryz.prog 18 #[.pointer (some ⟨Wb,0,none⟩),.agg #[.bool false,.int .u32 id,.slice fo F.length fc]] W fun e W'=>e=.returned (.bool true)/\∃ e0 cs' x' nd' d' l' s' og' og2' gc' gc2' gz',tN B S C m dd tt nd id F cs x d e0 cs' x' nd' d'/\l'+s'<=l+s+500000/\DW W0 W' Wb mb cb dd tt ss bk rm kf bf B S C L m n nd' cs' x' d' l' s' og' og2' gc' gc2' gz'/\∀ k,k<W.heap.size->k≠mb->k≠cb->k≠Wb->W'.heap[k]?=W.heap[k]?:=by
 obtain⟨e0,cs',x',nd',d',hgood⟩:=hW.inv.add id F hid hver
 refine(JD hK hW id hver hls fo F fc hFs hFn hid hgood hT).mono ?_
 rintro e w' ⟨he,l',s',og',og2',gc',gc2',gz',h1,h2,h3⟩
 exact⟨he,e0,cs',x',nd',d',l',s',og',og2',gc',gc2',gz',hgood,h1,h2,h3⟩
theorem Kv (w:World) (d t:Int) (ss:Nat->Int) (bk rm:Int) (kf bf:Nat) (h:¬ fU d t ss bk rm) :
  Calls Tryz.prog 14 #[.agg (ak d t ss bk rm kf bf)] w fun e w'=>e=.returned (.tuple #[.pointer none,.bool true])/\Below w.heap.size w w':=by
 go_enter Tryz.func14,Tryz.ntmps14
 go_upto_region 1 with fail
 have HC0:=hJ (nZ w (.cells (ak d t ss bk rm kf bf) 25))
 have HB0:=hJ (au (w:=w) (A:=.cells (ak d t ss bk rm kf bf) 25))
 generalize w.alloc (.cells (ak d t ss bk rm kf bf) 25)=w0 at HC0 HB0 ⊢
 go_wp2_with (first
  | (refine yZ rfl 25 (.tmp 1) rfl w.heap.size rfl 25 (ak d t ss bk rm kf bf) (0,0) _ HC0.out Tryz.underlying25 rfl (eu _ _ _ _ _ _ _) ?_)
  | fail)
 refine(FO w0 d t ss bk rm kf bf h).mono ?_;rintro e w1 ⟨rfl,hb⟩
 have HC1:=hJ (aj HC0.out hb)
 have HB1:=hJ (ah HB0.out hb)
 clear hb
 go_upto_region 2 with (first
  | (refine zZ rfl 42 (.tmp 4) (.tmp 16) rfl w1.heap.size (af (fun _=>0) (fun _=>0) 0 0 0) rfl rfl 42 (af (fun _=>0) (fun _=>0) 0 0 0) (nZ w1 _) (ai _ _ _ _ _) rfl (by simp[af,Value.oneCell']) ?_)
  | fail)
 rw[World.setRow_alloc_new]
 have HP2:=hJ (nZ w1 (.cells (af (fun _=>0) (fun _=>0) 0 0 0) 42))
 have hb2:=au (w:=w1) (A:=.cells (af (fun _=>0) (fun _=>0) 0 0 0) 42)
 have HC2:=hJ (aj HC1.out hb2)
 have HB2:=hJ (ah HB1.out hb2)
 generalize w1.alloc (.cells (af (fun _=>0) (fun _=>0) 0 0 0) 42)=w2 at HP2 HC2 HB2 ⊢
 clear hb2
 go_wp2_with fail
 go_ret2
 exact⟨rfl,HB2.out⟩
theorem EO (w:World) (d t:Int) (ss:Nat->Int) (bk rm:Int) (kf bf:Nat) (h:fU d t ss bk rm) (hg:5000<az (aB ss bk rm) 6) :
  Calls Tryz.prog 14 #[.agg (ak d t ss bk rm kf bf)] w fun e w'=>e=.returned (.tuple #[.pointer none,.bool true])/\Below w.heap.size w w':=by
 go_enter Tryz.func14,Tryz.ntmps14
 go_upto_region 1 with fail
 have HC0:=hJ (nZ w (.cells (ak d t ss bk rm kf bf) 25))
 have HB0:=hJ (au (w:=w) (A:=.cells (ak d t ss bk rm kf bf) 25))
 generalize w.alloc (.cells (ak d t ss bk rm kf bf) 25)=w0 at HC0 HB0 ⊢
 go_wp2_with (first
  | (refine yZ rfl 25 (.tmp 1) rfl w.heap.size rfl 25 (ak d t ss bk rm kf bf) (0,0) _ HC0.out Tryz.underlying25 rfl (eu _ _ _ _ _ _ _) ?_)
  | fail)
 refine(lI w0 d t ss bk rm kf bf h).mono ?_;rintro e w1 ⟨rfl,hb⟩
 have HC1:=hJ (aj HC0.out hb)
 have HB1:=hJ (ah HB0.out hb)
 clear hb
 go_upto_region 2 with (first
  | (refine zZ rfl 42 (.tmp 4) (.tmp 16) rfl w1.heap.size (af (az (aB ss bk rm)) (aB ss bk rm) (az (aB ss bk rm) 6) (slotsOf t) (bY d t)) rfl rfl 42 (af (fun _=>0) (fun _=>0) 0 0 0) (nZ w1 _) (ai _ _ _ _ _) rfl (by simp[af,Value.oneCell']) ?_)
  | fail)
 rw[World.setRow_alloc_new]
 have HP2:=hJ (nZ w1 (.cells (af (az (aB ss bk rm)) (aB ss bk rm) (az (aB ss bk rm) 6) (slotsOf t) (bY d t)) 42))
 have hb2:=au (w:=w1) (A:=.cells (af (az (aB ss bk rm)) (aB ss bk rm) (az (aB ss bk rm) 6) (slotsOf t) (bY d t)) 42)
 have HC2:=hJ (aj HC1.out hb2)
 have HB2:=hJ (ah HB1.out hb2)
 generalize w1.alloc (.cells (af (az (aB ss bk rm)) (aB ss bk rm) (az (aB ss bk rm) 6) (slotsOf t) (bY d t)) 42)=w2 at HP2 HC2 HB2 ⊢
 clear hb2
 have c12:w2.cell? ⟨w1.heap.size,12,none⟩=some (.int .i64 (az (aB ss bk rm) 6)):=ae HP2.out 12
 go_wp2_with fail
 go_ret2
 exact⟨rfl,HB2.out⟩
theorem FV (w:World) (d t:Int) (ss:Nat->Int) (bk rm:Int) (kf bf:Nat) {n an ln m dd:Nat} (h:fU d t ss bk rm) (hN:CN d t ss bk rm n an ln m dd) (hg:n<=5000) (hfull:aB ss bk rm 5<(ln:Int)+2) :
  Calls Tryz.prog 14 #[.agg (ak d t ss bk rm kf bf)] w fun e w'=>e=.returned (.tuple #[.pointer none,.bool true])/\Below w.heap.size w w':=by
 go_enter Tryz.func14,Tryz.ntmps14
 go_upto_region 1 with fail
 have HC0:=hJ (nZ w (.cells (ak d t ss bk rm kf bf) 25))
 have HB0:=hJ (au (w:=w) (A:=.cells (ak d t ss bk rm kf bf) 25))
 generalize w.alloc (.cells (ak d t ss bk rm kf bf) 25)=w0 at HC0 HB0 ⊢
 go_wp2_with (first
  | (refine yZ rfl 25 (.tmp 1) rfl w.heap.size rfl 25 (ak d t ss bk rm kf bf) (0,0) _ HC0.out Tryz.underlying25 rfl (eu _ _ _ _ _ _ _) ?_)
  | fail)
 refine(lI w0 d t ss bk rm kf bf h).mono ?_;rintro e w1 ⟨rfl,hb⟩
 have HC1:=hJ (aj HC0.out hb)
 have HB1:=hJ (ah HB0.out hb)
 clear hb
 go_upto_region 2 with (first
  | (refine zZ rfl 42 (.tmp 4) (.tmp 16) rfl w1.heap.size (af (az (aB ss bk rm)) (aB ss bk rm) (az (aB ss bk rm) 6) (slotsOf t) (bY d t)) rfl rfl 42 (af (fun _=>0) (fun _=>0) 0 0 0) (nZ w1 _) (ai _ _ _ _ _) rfl (by simp[af,Value.oneCell']) ?_)
  | fail)
 rw[World.setRow_alloc_new]
 have HP2:=hJ (nZ w1 (.cells (af (az (aB ss bk rm)) (aB ss bk rm) (az (aB ss bk rm) 6) (slotsOf t) (bY d t)) 42))
 have hb2:=au (w:=w1) (A:=.cells (af (az (aB ss bk rm)) (aB ss bk rm) (az (aB ss bk rm) 6) (slotsOf t) (bY d t)) 42)
 have HC2:=hJ (aj HC1.out hb2)
 have HB2:=hJ (ah HB1.out hb2)
 generalize w1.alloc (.cells (af (az (aB ss bk rm)) (aB ss bk rm) (az (aB ss bk rm) 6) (slotsOf t) (bY d t)) 42)=w2 at HP2 HC2 HB2 ⊢
 clear hb2
 have hcells:=hN.cells
 have c12:w2.cell? ⟨w1.heap.size,12,none⟩=some (.int .i64 (n:Int)):=by rw[<- hcells];exact ae HP2.out 12
 have hn5:¬ (5000:Int)<(n:Int):=oZ
 have hln:=hN.ln_
 have hm1:=hN.m1
 have hd1:=hN.d1
 have hs0:=hN.s0
 have hfits:=hN.fits
 have han:=hN.an_
 have ha3:=hN.a3
 have hn0:1<=(n:Int):=oZ
 have hn6:(n:Int)<=65536:=oZ
 have HNum:=hJ (And.intro hln (And.intro hm1 (And.intro hd1 (And.intro hs0 (And.intro hfits (And.intro han ha3))))))
 have HN:=hJ hN
 have HFull:=hJ hfull
 have HH:=hJ h
 clear hln hm1 hd1 hs0 hfits han ha3 hcells hN hfull h
 go_wp2_with fail
 refine(Ir _ (n:Int) hn0 hn6).mono ?_;rintro e w3 ⟨rfl,hm,hb⟩
 have HM3:=hJ hm
 have HC3:=hJ (aj HC2.out hb)
 have HB3:=hJ (ah HB2.out hb)
 clear hm hb c12
 obtain⟨mb,hmb⟩:∃ mb,w2.heap.size+1=mb:=⟨_,rfl⟩
 rw[hmb] at HM3 ⊢
 clear hmb
 go_wp2_with (first
  | (refine yZ rfl 25 (.tmp 1) rfl w.heap.size rfl 25 (ak d t ss bk rm kf bf) (0,0) _ HC3.out Tryz.underlying25 rfl (eu _ _ _ _ _ _ _) ?_)
  | fail)
 refine(Je HM3.out d t ss bk rm kf bf HH.out HN.out.plan sZ (by have:=HNum.out;omega) HFull.out HNum.out.2.2.2.1 (by have:=HNum.out;omega) (by have:=HNum.out;omega)).mono ?_;rintro e w4 ⟨rfl,hb⟩
 have HM4:=hJ (HM3.out.below hb)
 have HC4:=hJ (aj HC3.out hb)
 have HB4:=hJ (ah HB3.out hb)
 clear hb
 go_upto_region 6 with (first
  | (refine zZ rfl 46 (.tmp 8) (.tmp 35) rfl w4.heap.size (aQ (.slice none 0 0) aO) rfl rfl 46 (aQ (.slice none 0 0) aO) (nZ w4 _) (aN _ _) rfl (dY _ _ _ _) ?_)
  | fail)
 rw[World.setRow_alloc_new]
 have hb5:=au (w:=w4) (A:=.cells (aQ (.slice none 0 0) aO) 46)
 have HM5:=hJ (HM4.out.below hb5)
 have HC5:=hJ (aj HC4.out hb5)
 have HB5:=hJ (ah HB4.out hb5)
 generalize w4.alloc (.cells (aQ (.slice none 0 0) aO) 46)=w5 at HM5 HC5 HB5 ⊢
 clear hb5
 go_wp2_with (first
  | (refine yZ rfl 25 (.tmp 1) rfl w.heap.size rfl 25 (ak d t ss bk rm kf bf) (0,0) _ HC5.out Tryz.underlying25 rfl (eu _ _ _ _ _ _ _) ?_)
  | fail)
 refine(BU _ d t ss bk rm kf bf HH.out HN.out.plan (by have:=HNum.out;omega) HFull.out).mono ?_;rintro e w6 ⟨rfl,hb⟩
 have HM6:=hJ (HM5.out.below hb)
 have HB6:=hJ (ah HB5.out hb)
 clear hb
 go_upto_region 7 with (first
  | (refine zZ rfl 49 (.tmp 10) (.tmp 40) rfl w6.heap.size dE rfl rfl 49 dE (fO w6 _ _) (aI _ _ _) rfl (by simp[dE,aK,Value.oneCell']) ?_)
  | (refine zZ rfl 42 (.tmp 11) (.tmp 41) rfl (w6.heap.size+1) _ rfl rfl 42 (af (fun _=>0) (fun _=>0) 0 0 0) ((qZ _ _ _ _ oZ).trans (fK w6 _ _)) (ai _ _ _ _ _) rfl (by simp[af,Value.oneCell']) ?_)
  | fail)
 obtain⟨w7,hw7⟩:∃ w7,w7=(((w6.alloc (.cells dE 49)).alloc (.cells (af (fun _=>0) (fun _=>0) 0 0 0) 42)).setRow w6.heap.size dE).setRow (w6.heap.size+1) (af (az (aB ss bk rm)) (aB ss bk rm) (n:Int) (m:Int) (ln:Int)):=⟨_,rfl⟩
 rw[show (((w6.alloc (.cells #[.slice none 0 0,.slice none 0 0,.int .i64 0,.int .u32 0,.int .i64 0,.int .i64 0,.int .i64 0,.int .i64 0,.int .i64 0,.int .i64 0] 49)).alloc (.cells #[.int .i64 0,.int .i64 0,.int .i64 0,.int .i64 0,.int .i64 0,.int .i64 0,.int .i64 0,.int .i64 0,.int .i64 0,.int .i64 0,.int .i64 0,.int .i64 0,.int .i64 0,.int .i64 0,.int .i64 0] 42)).setRow w6.heap.size dE).setRow (w6.heap.size+1) (af (az (aB ss bk rm)) (aB ss bk rm) (n:Int) (m:Int) (ln:Int))=w7 from hw7.symm]
 have hb7:Below w6.heap.size w6 w7:=by rw[hw7];exact below_setRow (below_setRow dL (Nat.le_refl _) _) (Nat.le_succ _) _
 have HM7:=hJ (HM6.out.below hb7)
 have HB7:=hJ (ah HB6.out hb7)
 clear hw7 hb7
 go_wp2_with (first
  | (go_at_call 30;refine(Kt HM7.out).mono ?_;rintro e9 w9 ⟨rfl,rfl⟩)
  | fail)
 go_ret2
 exact⟨rfl,HB7.out⟩
theorem MZ {P:Program} {o:Oper} {a:Act} {w:World} {K:Act->World->Prop} {Q:Exit->Act->World->Prop} (t:TypeId) (parts:Array (Nat×Operand)) (ho:o.op=.build t parts) (cells:Array Value)
  (hc:P.built t (parts.map fun(i,x)=>(i,a.eval x)).toList=some cells) (h:K (a.put o.dst (.agg cells)) w):o.wp P a w K Q:=by
 refine wp_build t parts ho (by rw[hc];rfl) ?_
 rw[hc]
 exact h
theorem bF.under {w w':World} {base:Nat} {v:Value} {l:List Sg} (h:bF w base v l) (hb:Below w.heap.size w w'):bF w' base v l:=aA h hb
theorem Pn (vc vs:Value) (x:Sx):∀ (j:Nat) (v:Value),(aQ vs x).toList[j]?=some v->(aK vc vs x)[1+j]?=some v:=fun j v h=>by
 rcases j with _|_|_|_|_|_|_|_|_|j
 all_goals first | exact h | (simp[aQ] at h)
theorem RX (w:World) (dd:Nat) (t:Int) (ss:Nat->Int) (bk rm:Int) (kf bf:Nat) {n an ln m:Nat} (h:fU (dd:Int) t ss bk rm) (hN:CN (dd:Int) t ss bk rm n an ln m dd) (hg:n<=5000) (hfit:(ln:Int)+2<=aB ss bk rm 5) :
  Calls Tryz.prog 14 #[.agg (ak (dd:Int) t ss bk rm kf bf)] w fun e w'=>∃ Wb mb mc og og2 gc gc2 gz,e=.returned (.tuple #[.pointer (some ⟨Wb,0,none⟩),.bool true]) /\
   DW w w' Wb mb mc dd t ss bk rm kf bf (az (aB ss bk rm)) (aB ss bk rm) (n:Int) (ln:Int) m n 0 (nI n an ln) (bn an ln) (fun _=>none) 0 3 og og2 gc gc2 gz/\w.heap.size<=gz:=by
 go_enter Tryz.func14,Tryz.ntmps14
 go_upto_region 1 with fail
 have HC0:=hJ (nZ w (.cells (ak (dd:Int) t ss bk rm kf bf) 25))
 have HB0:=hJ (au (w:=w) (A:=.cells (ak (dd:Int) t ss bk rm kf bf) 25))
 generalize w.alloc (.cells (ak (dd:Int) t ss bk rm kf bf) 25)=w0 at HC0 HB0 ⊢
 go_wp2_with (first
  | (refine yZ rfl 25 (.tmp 1) rfl w.heap.size rfl 25 (ak (dd:Int) t ss bk rm kf bf) (0,0) _ HC0.out Tryz.underlying25 rfl (eu _ _ _ _ _ _ _) ?_)
  | fail)
 refine(lI w0 (dd:Int) t ss bk rm kf bf h).mono ?_;rintro e w1 ⟨rfl,hb⟩
 have HC1:=hJ (aj HC0.out hb)
 have HB1:=hJ (ah HB0.out hb)
 clear hb
 rw[hN.plan]
 go_upto_region 2 with (first
  | (refine zZ rfl 42 (.tmp 4) (.tmp 16) rfl w1.heap.size (af (az (aB ss bk rm)) (aB ss bk rm) (n:Int) (m:Int) (ln:Int)) rfl rfl 42 (af (fun _=>0) (fun _=>0) 0 0 0) (nZ w1 _) (ai _ _ _ _ _) rfl (by simp[af,Value.oneCell']) ?_)
  | fail)
 rw[World.setRow_alloc_new]
 have HP2:=hJ (nZ w1 (.cells (af (az (aB ss bk rm)) (aB ss bk rm) (n:Int) (m:Int) (ln:Int)) 42))
 have hb2:=au (w:=w1) (A:=.cells (af (az (aB ss bk rm)) (aB ss bk rm) (n:Int) (m:Int) (ln:Int)) 42)
 have HC2:=hJ (aj HC1.out hb2)
 have HB2:=hJ (ah HB1.out hb2)
 generalize w1.alloc (.cells (af (az (aB ss bk rm)) (aB ss bk rm) (n:Int) (m:Int) (ln:Int)) 42)=w2 at HP2 HC2 HB2 ⊢
 clear hb2
 have c12:w2.cell? ⟨w1.heap.size,12,none⟩=some (.int .i64 (n:Int)):=ae HP2.out 12
 have hn5:¬ (5000:Int)<(n:Int):=oZ
 have hln:=hN.ln_
 have hm1:=hN.m1
 have hd1:=hN.d1
 have hs0:=hN.s0
 have hfits:=hN.fits
 have ha3:=hN.a3
 have hn0:1<=(n:Int):=oZ
 have hn6:(n:Int)<=65536:=oZ
 have hin:an+ln+2<=n:=oZ
 have hl1:1<=ln/\ln<=100000:=oZ
 have hS5:aB ss bk rm 5<=1000000:=oZ
 have HNum:=hJ (And.intro hl1 (And.intro hS5 (And.intro ha3 hin)))
 have HNew:=hJ (hN.new hfit)
 have HN:=hJ hN
 have HFit:=hJ hfit
 have HH:=hJ h
 have HG5:=hJ hg
 clear hln hm1 hd1 hs0 hfits ha3 hin hl1 hS5 hN hfit h hg
 go_wp2_with fail
 refine(Ir _ (n:Int) hn0 hn6).mono ?_;rintro e w3 ⟨rfl,hm,hb⟩
 rw[Int.toNat_natCast] at hm
 have HM3:=hJ hm
 have HC3:=hJ (aj HC2.out hb)
 have HP3:=hJ (aj HP2.out hb)
 have HB3:=hJ (ah HB2.out hb)
 have HL2:=hJ (And.intro (lt_of_heap HC2.out) (lt_of_heap HP2.out))
 clear hm hb c12
 obtain⟨mb,hmb⟩:∃ mb,w2.heap.size+1=mb:=⟨_,rfl⟩
 obtain⟨mc,hmc⟩:∃ mc,w2.heap.size=mc:=⟨_,rfl⟩
 have HMB:=hJ (show w2.heap.size<mb by omega)
 have HMC:=hJ (show w2.heap.size<=mc by omega)
 rw[hmb,hmc] at HM3
 rw[hmb]
 clear hmb hmc
 go_wp2_with (first
  | (refine yZ rfl 25 (.tmp 1) rfl w.heap.size rfl 25 (ak (dd:Int) t ss bk rm kf bf) (0,0) _ HC3.out Tryz.underlying25 rfl (eu _ _ _ _ _ _ _) ?_)
  | fail)
 refine(OL HM3.out oZ oZ (dd:Int) t ss bk rm kf bf HH.out HN.out.plan sZ HNum.out.1 HFit.out HNum.out.2.1 (by have:=HG5.out;omega) HN.out.an_ HNum.out.2.2.1 HNum.out.2.2.2).mono ?_;rintro e w4 ⟨sg,rfl,hm4,hg4,hmod⟩
 have HM4:=hJ (show dD w4 mb mc (nI n an ln) 0 3 from hm4)
 have hne:∀ k,k<w2.heap.size->¬ (k=mb∨k=mc):=fun k hk=>by have:=HMB.out;have:=HMC.out;omega
 have HC4:=hJ ((hmod.block _ (lt_of_heap HC3.out) (hne _ HL2.out.1)).trans HC3.out)
 have HP4:=hJ ((hmod.block _ (lt_of_heap HP3.out) (hne _ HL2.out.2)).trans HP3.out)
 have HB4:=hJ (show Below w.heap.size w w4 from HB3.out.trans ⟨hmod.os,hmod.tape,hmod.output,hmod.size,fun k hk=>hmod.block k (Nat.lt_of_lt_of_le hk HB3.out.size) (hne _ (Nat.lt_trans hk HL2.out.1))⟩)
 have HS4:=hJ (hg4.lower HB3.out.size)
 clear hm4 hg4 hmod hne
 go_upto_region 6 with (first
  | (refine zZ rfl 46 (.tmp 8) (.tmp 35) rfl w4.heap.size (aQ (.slice (some ⟨sg,0,none⟩) 1 1) (bn an ln)) rfl rfl 46 (aQ (.slice none 0 0) aO) (nZ w4 _) (aN _ _) rfl (dY _ _ _ _) ?_)
  | fail)
 rw[World.setRow_alloc_new]
 have hb5:=au (w:=w4) (A:=.cells (aQ (.slice (some ⟨sg,0,none⟩) 1 1) (bn an ln)) 46)
 have HW5:=hJ (nZ w4 (.cells (aQ (.slice (some ⟨sg,0,none⟩) 1 1) (bn an ln)) 46))
 have HM5:=hJ (HM4.out.below hb5)
 have HC5:=hJ (aj HC4.out hb5)
 have HP5:=hJ (aj HP4.out hb5)
 have HB5:=hJ (ah HB4.out hb5)
 have HS5:=hJ (bF.under HS4.out hb5)
 have HMW:=hJ (show mc<w4.heap.size from lt_of_heap HM4.out.row)
 generalize w4.alloc (.cells (aQ (.slice (some ⟨sg,0,none⟩) 1 1) (bn an ln)) 46)=w5 at HW5 HM5 HC5 HP5 HB5 HS5 ⊢
 clear hb5
 go_wp2_with (first
  | (refine yZ rfl 25 (.tmp 1) rfl w.heap.size rfl 25 (ak (dd:Int) t ss bk rm kf bf) (0,0) _ HC5.out Tryz.underlying25 rfl (eu _ _ _ _ _ _ _) ?_)
  | fail)
 refine(DL _ (dd:Int) t ss bk rm kf bf HH.out HN.out.plan (by have:=HNum.out.1;omega) (by have:=HFit.out;omega) (by have:=HG5.out;omega) HN.out.an_ HNum.out.2.2.1 HNum.out.2.2.2).mono ?_;rintro e w6 ⟨g,sg2,rfl,hz,hg6,hb,hge⟩
 have HZ6:=hJ (show dK w6 g (nI n an ln) by simpa [nI] using hz)
 have HM6:=hJ (HM5.out.below hb)
 have HW6:=hJ (aj HW5.out hb)
 have HC6:=hJ (aj HC5.out hb)
 have HP6:=hJ (aj HP5.out hb)
 have HB6:=hJ (ah HB5.out hb)
 have HS6:=hJ (bF.under HS5.out hb)
 have HS26:=hJ (hg6.lower HB5.out.size)
 have HGE:=hJ (show g≠mc by have:=HMW.out;have:=lt_of_heap HW5.out;omega)
 have HG9:=hJ (show w.heap.size<=g from Nat.le_trans HB5.out.size hge)
 clear hz hg6 hb hge
 go_upto_region 7 with (first
  | (refine zZ rfl 49 (.tmp 10) (.tmp 40) rfl w6.heap.size (aK (.slice (some ⟨g,0,none⟩) n n) (.slice (some ⟨sg2,0,none⟩) 1 1) (bn an ln)) rfl rfl 49 dE (fO w6 _ _) (aI _ _ _) rfl cZ ?_)
  | (refine zZ rfl 42 (.tmp 11) (.tmp 41) rfl (w6.heap.size+1) _ rfl rfl 42 (af (fun _=>0) (fun _=>0) 0 0 0) ((qZ _ _ _ _ oZ).trans (fK w6 _ _)) (ai _ _ _ _ _) rfl (by simp[af,Value.oneCell']) ?_)
  | fail)
 obtain⟨w7,hw7⟩:∃ w7,w7=(((w6.alloc (.cells dE 49)).alloc (.cells (af (fun _=>0) (fun _=>0) 0 0 0) 42)).setRow w6.heap.size (aK (.slice (some ⟨g,0,none⟩) n n) (.slice (some ⟨sg2,0,none⟩) 1 1) (bn an ln))).setRow (w6.heap.size+1) (af (az (aB ss bk rm)) (aB ss bk rm) (n:Int) (m:Int) (ln:Int)):=⟨_,rfl⟩
 rw[show (((w6.alloc (.cells #[.slice none 0 0,.slice none 0 0,.int .i64 0,.int .u32 0,.int .i64 0,.int .i64 0,.int .i64 0,.int .i64 0,.int .i64 0,.int .i64 0] 49)).alloc (.cells #[.int .i64 0,.int .i64 0,.int .i64 0,.int .i64 0,.int .i64 0,.int .i64 0,.int .i64 0,.int .i64 0,.int .i64 0,.int .i64 0,.int .i64 0,.int .i64 0,.int .i64 0,.int .i64 0,.int .i64 0] 42)).setRow w6.heap.size (aK (.slice (some ⟨g,0,none⟩) n n) (.slice (some ⟨sg2,0,none⟩) 1 1) (bn an ln))).setRow (w6.heap.size+1) (af (az (aB ss bk rm)) (aB ss bk rm) (n:Int) (m:Int) (ln:Int))=w7 from hw7.symm]
 have hb7:Below w6.heap.size w6 w7:=by rw[hw7];exact below_setRow (below_setRow dL (Nat.le_refl _) _) (Nat.le_succ _) _
 have HT7:=hJ (show w7.heap[w6.heap.size]?=some (.cells (aK (.slice (some ⟨g,0,none⟩) n n) (.slice (some ⟨sg2,0,none⟩) 1 1) (bn an ln)) 49 (0,0)) by
  rw[hw7,qZ _ _ _ _ oZ]
  exact setRow_heap _ _ _ _ _ _ (fO w6 _ _))
 have HM7:=hJ (HM6.out.below hb7)
 have HZ7:=hJ (HZ6.out.below hb7)
 have HW7:=hJ (aj HW6.out hb7)
 have HC7:=hJ (aj HC6.out hb7)
 have HP7:=hJ (aj HP6.out hb7)
 have HB7:=hJ (ah HB6.out hb7)
 have HS7:=hJ (bF.under HS6.out hb7)
 have HS27:=hJ (bF.under HS26.out hb7)
 clear hw7 hb7 HM6 HZ6 HW6 HC6 HP6 HS6 HS26 HM5 HW5 HC5 HP5 HB5 HS5 HM4 HC4 HP4 HS4 HM3 HC3 HP3 HB3 HC2 HP2 HC1 HC0
 go_upto_region 11 with fail
 have hcl5:n<=65536:=by have:=HG5.out;omega
 have HSM:=hJ (fun(wx:World) (hb:Below w7.heap.size w7 wx)=>nT wx (some ⟨sg,0,none⟩) (some ⟨sg2,0,none⟩) 1 1 1 (bn an ln) rfl oZ (HS7.out.reads.below hb) (HS27.out.reads.below hb))
 have HCE:=hJ (fun(wx:World) (hb:Below w7.heap.size w7 wx)=>cells_at (HM7.out.below hb) (by rw[qf];exact hcl5))
 rw[qf] at HCE
 have HSA:=hJ (fun(wx:World) (p:Nat) (hb:Below w7.heap.size w7 wx) (h:wx.heap[p]?=some (.cells ((nI n an ln).map (Value.int .u32)).toArray 32 (0,0)))=>same_eq wx p g n (nI n an ln) 32 32 (qf n an ln).symm oZ h (HZ7.out.below hb).cells)
 clear hcl5
 refine aJ (fun(p:Nat×Nat) jz=>[.agg (ak (dd:Int) t ss bk rm kf bf),.agg (af (az (aB ss bk rm)) (aB ss bk rm) (n:Int) (m:Int) (ln:Int)),.pointer (some ⟨mb,0,none⟩),.agg (aQ (.slice (some ⟨sg,0,none⟩) 1 1) (bn an ln)),.agg (aK (.slice (some ⟨g,0,none⟩) n n) (.slice (some ⟨sg2,0,none⟩) 1 1) (bn an ln)),.agg (aY (ak (dd:Int) t ss bk rm kf bf) (af (az (aB ss bk rm)) (aB ss bk rm) (n:Int) (m:Int) (ln:Int)) (.pointer (some ⟨mb,0,none⟩)) (aQ (.slice (some ⟨sg,0,none⟩) 1 1) (bn an ln)) (aK (.slice (some ⟨g,0,none⟩) n n) (.slice (some ⟨sg2,0,none⟩) 1 1) (bn an ln))),.pointer (some ⟨p.1,0,none⟩),.pointer (some ⟨mb,0,none⟩),.slice (some ⟨p.2,0,none⟩) n n,.pointer (some ⟨w6.heap.size,0,none⟩),.slice (some ⟨g,0,none⟩) n n,.bool true,.bool true,.agg (aQ (.slice (some ⟨sg,0,none⟩) 1 1) (bn an ln)),.pointer (some ⟨w6.heap.size,1,none⟩),.agg (aQ (.slice (some ⟨sg2,0,none⟩) 1 1) (bn an ln)),.bool true,.bool true,.pointer (some ⟨p.1,0,none⟩),.bool true].getD jz undef)
  (fun p l9 wx=>Below w7.heap.size w7 wx/\(l9 8=true->wx.heap[p.2]?=some (.cells ((nI n an ln).map (Value.int .u32)).toArray 32 (0,0)))/\(l9 6=true->w7.heap.size<=p.1/\wx.heap[p.1]?=some (.cells (aY (ak (dd:Int) t ss bk rm kf bf) (af (az (aB ss bk rm)) (aB ss bk rm) (n:Int) (m:Int) (ln:Int)) (.pointer (some ⟨mb,0,none⟩)) (aQ (.slice (some ⟨sg,0,none⟩) 1 1) (bn an ln)) (aK (.slice (some ⟨g,0,none⟩) n n) (.slice (some ⟨sg2,0,none⟩) 1 1) (bn an ln))) 51 (0,0))))
  kZ kZ pZ (0,0) ?_ ?_ ?_
 ·exact⟨(Below.refl _ _).drew,fun h=>jZ,fun h=>jZ⟩
 ·intro i o ho p l9 wx hR hl he hcl K hK
  rcases i with _|_|_|_|_|_|_|_|_|_|_|_|_|_|_|_|_|_|_|_|i
  ·cases ho
   refine wp_load_row 25 (.tmp 1) rfl w.heap.size rfl 25 (ak (dd:Int) t ss bk rm kf bf) (0,0) _ (aj HC7.out hR.1) Tryz.underlying25 rfl (eu _ _ _ _ _ _ _) ?_
   exact hK p wx (fun _ _=>rfl) hR
  ·cases ho
   refine wp_load_row 42 (.tmp 4) rfl w1.heap.size rfl 42 (af (az (aB ss bk rm)) (aB ss bk rm) (n:Int) (m:Int) (ln:Int)) (0,0) _ (aj HP7.out hR.1) Tryz.underlying42 rfl (ai _ _ _ _ _) ?_
   exact hK p wx (fun _ _=>rfl) hR
  ·cases ho;go_simp;exact hK p wx (fun _ _=>rfl) hR
  ·cases ho
   refine wp_load_row 46 (.tmp 8) rfl w4.heap.size rfl 46 (aQ (.slice (some ⟨sg,0,none⟩) 1 1) (bn an ln)) (0,0) _ (aj HW7.out hR.1) Tryz.underlying46 rfl (aN _ _) ?_
   exact hK p wx (fun _ _=>rfl) hR
  ·cases ho
   refine wp_load_row 49 (.tmp 10) rfl w6.heap.size rfl 49 (aK (.slice (some ⟨g,0,none⟩) n n) (.slice (some ⟨sg2,0,none⟩) 1 1) (bn an ln)) (0,0) _ (aj HT7.out hR.1) Tryz.underlying49 rfl (aI _ _ _) ?_
   exact hK p wx (fun _ _=>rfl) hR
  ·cases ho
   refine MZ 51 _ rfl (aY (ak (dd:Int) t ss bk rm kf bf) (af (az (aB ss bk rm)) (aB ss bk rm) (n:Int) (m:Int) (ln:Int)) (.pointer (some ⟨mb,0,none⟩)) (aQ (.slice (some ⟨sg,0,none⟩) 1 1) (bn an ln)) (aK (.slice (some ⟨g,0,none⟩) n n) (.slice (some ⟨sg2,0,none⟩) 1 1) (bn an ln))) kZ ?_
   exact hK p wx (fun _ _=>rfl) hR
  ·cases ho
   have HRr:=hJ hR
   have HLl:=hJ hl
   have HCl:=hJ hcl
   clear hR hl hcl
   go_simp
   have hbx:=au (w:=wx) (A:=.cells (aY (ak (dd:Int) t ss bk rm kf bf) (af (az (aB ss bk rm)) (aB ss bk rm) (n:Int) (m:Int) (ln:Int)) (.pointer (some ⟨mb,0,none⟩)) (aQ (.slice (some ⟨sg,0,none⟩) 1 1) (bn an ln)) (aK (.slice (some ⟨g,0,none⟩) n n) (.slice (some ⟨sg2,0,none⟩) 1 1) (bn an ln))) 51)
   refine hK (wx.heap.size,p.2) (wx.alloc (.cells (aY (ak (dd:Int) t ss bk rm kf bf) (af (az (aB ss bk rm)) (aB ss bk rm) (n:Int) (m:Int) (ln:Int)) (.pointer (some ⟨mb,0,none⟩)) (aQ (.slice (some ⟨sg,0,none⟩) 1 1) (bn an ln)) (aK (.slice (some ⟨g,0,none⟩) n n) (.slice (some ⟨sg2,0,none⟩) 1 1) (bn an ln))) 51)) (fun j hj=>?_) ⟨ah HRr.out.1 hbx,fun h=>aj (HRr.out.2.1 h) hbx,fun _=>⟨HRr.out.1.size,nZ _ _⟩⟩
   rcases j with _|_|_|_|_|_|_|_|_|_|_|_|_|_|_|_|_|_|_|_|j
   all_goals first | rfl | (rw[HLl.out] at hj;cases hj) | (exact absurd (HCl.out 18 _ rfl hj ⟨6,.data⟩ sZ rfl) (by rw[HLl.out];decide))
  ·cases ho;go_simp;exact hK p wx (fun _ _=>rfl) hR
  ·cases ho
   have HRr:=hJ hR
   have HLl:=hJ hl
   clear hR hl
   go_simp
   refine(HCE.out wx HRr.out.1).mono ?_
   rintro e9 w9 ⟨rfl,hr9,hb9⟩
   refine hK (p.1,wx.heap.size) w9 (fun j hj=>?_) ⟨ah HRr.out.1 hb9,fun _=>hr9,fun h=>⟨(HRr.out.2.2 h).1,aj (HRr.out.2.2 h).2 hb9⟩⟩
   rcases j with _|_|_|_|_|_|_|_|_|_|_|_|_|_|_|_|_|_|_|_|j
   all_goals first | rfl | (rw[HLl.out] at hj;cases hj)
  ·cases ho;go_simp;exact hK p wx (fun _ _=>rfl) hR
  ·cases ho
   have q:=(show wx.cell? ⟨w6.heap.size,0,none⟩=some (.slice (some ⟨g,0,none⟩) n n) from ae (aj HT7.out hR.1) 0)
   go_simp
   exact hK p wx (fun _ _=>rfl) hR
  ·cases ho
   have h15:l9 8=true:=he ⟨8,.data⟩ sZ rfl
   have HRr:=hJ hR
   have H15:=hJ h15
   clear hR h15
   go_simp
   refine(HSA.out wx p.2 HRr.out.1 (HRr.out.2.1 H15.out)).mono ?_
   rintro e9 w9 ⟨rfl,hb9⟩
   exact hK p w9 (fun _ _=>rfl) ⟨ah HRr.out.1 hb9,fun h=>aj (HRr.out.2.1 h) hb9,fun h=>⟨(HRr.out.2.2 h).1,aj (HRr.out.2.2 h).2 hb9⟩⟩
  ·cases ho;go_simp;exact hK p wx (fun _ _=>rfl) hR
  ·cases ho
   refine wp_load_row 46 (.tmp 8) rfl w4.heap.size rfl 46 (aQ (.slice (some ⟨sg,0,none⟩) 1 1) (bn an ln)) (0,0) _ (aj HW7.out hR.1) Tryz.underlying46 rfl (aN _ _) ?_
   exact hK p wx (fun _ _=>rfl) hR
  ·cases ho;go_simp;exact hK p wx (fun _ _=>rfl) hR
  ·cases ho
   refine aW 46 (.tmp 69) rfl w6.heap.size 1 rfl 49 (aK (.slice (some ⟨g,0,none⟩) n n) (.slice (some ⟨sg2,0,none⟩) 1 1) (bn an ln)) (aQ (.slice (some ⟨sg2,0,none⟩) 1 1) (bn an ln)) (0,0) _ (aj HT7.out hR.1) (Pn _ _ _) Tryz.underlying46 rfl (aN _ _) ?_
   exact hK p wx (fun _ _=>rfl) hR
  ·cases ho
   have HRr:=hJ hR
   clear hR
   go_simp
   refine(HSM.out wx HRr.out.1).mono ?_
   rintro e9 w9 ⟨rfl,hb9⟩
   exact hK p w9 (fun _ _=>rfl) ⟨ah HRr.out.1 hb9,fun h=>aj (HRr.out.2.1 h) hb9,fun h=>⟨(HRr.out.2.2 h).1,aj (HRr.out.2.2 h).2 hb9⟩⟩
  iterate 3 (· cases ho;go_simp;exact hK p wx (fun _ _=>rfl) hR)
  ·simp at ho
 ·intro p lz wx hl hR
  have HRr:=hJ hR.1
  have HWb:=hJ (hR.2.2 (hl 6 dZ))
  clear hR hl
  go_wp2_with fail
  go_ret2
  exact⟨p.1,mb,mc,some ⟨sg,0,none⟩,some ⟨sg2,0,none⟩,1,1,g,rfl,⟨HWb.out.2,HM7.out.below HRr.out,oZ,oZ,HZ7.out.below HRr.out,HGE.out,bF.under HS7.out HRr.out,bF.under HS27.out HRr.out,HNew.out,qf _ _ _,ah HB7.out HRr.out,by have:=HMB.out;have:=HL2.out.1;omega,by have:=HMC.out;have:=HL2.out.1;omega,Nat.le_trans HB7.out.size HWb.out.1⟩,HG9.out⟩
theorem DJ (w:World) (dd:Nat) (t:Int) (ss:Nat->Int) (bk rm:Int) (kf bf:Nat) {n an ln m:Nat} (h:fU (dd:Int) t ss bk rm) (hN:CN (dd:Int) t ss bk rm n an ln m dd) (hg:n<=5000) (hfit:(ln:Int)+2<=aB ss bk rm 5) :
  Calls Tryz.prog 14 #[.agg (ak (dd:Int) t ss bk rm kf bf)] w fun e w'=>∃ Wb mb mc og og2 gc gc2 gz,e=.returned (.tuple #[.pointer (some ⟨Wb,0,none⟩),.bool true]) /\
   DW w w' Wb mb mc dd t ss bk rm kf bf (az (aB ss bk rm)) (aB ss bk rm) (n:Int) (ln:Int) m n 0 (nI n an ln) (bn an ln) (fun _=>none) 0 3 og og2 gc gc2 gz:=by
 refine(RX w dd t ss bk rm kf bf h hN hg hfit).mono ?_
 rintro e w' ⟨a,b,c,e1,e2,e3,e4,e5,h1,h2,_⟩
 exact⟨a,b,c,e1,e2,e3,e4,e5,h1,h2⟩
end Go.Proofs.YtlfndoclbebdaaaGreatDoor
