/-
 What stage 12 rests on.
-/
import Derived.Test.YtlfndoclbebdaaaGreatDoorWrAlA1
import Derived.Test.YtlfndoclbebdaaaGreatDoorWrTwoPk
import Derived.Test.YtlfndoclbebdaaaGreatDoorWrAlC5
set_option maxRecDepth 100000
set_option maxHeartbeats 16000000
namespace Go.Proofs.YtlfndoclbebdaaaGreatDoor
open Go.RowKit
section
variable {w W W':World} {Wb mb mc Wb2 mb2 mc2 dd:Nat} {tt:Int} {ss:Nat->Int} {bk rm:Int} {kf bf:Nat} {B S:Nat->Int} {C L:Int} {m n i:Nat}
theorem RZ.under (h:RZ w W Wb mb mc Wb2 mb2 mc2 dd tt ss bk rm kf bf B S C L m n i) (hb:Below W.heap.size W W'):RZ w W' Wb mb mc Wb2 mb2 mc2 dd tt ss bk rm kf bf B S C L m n i:=by
 obtain⟨nd,cs,x,d,l,s,og,og2,gc,gc2,gz,l2,s2,og3,og4,gc3,gc4,gz2,hD,hE,h⟩:=h
 exact⟨nd,cs,x,d,l,s,og,og2,gc,gc2,gz,l2,s2,og3,og4,gc3,gc4,gz2,hD.under hb,hE.under hb,h⟩
theorem RZ.low (h:RZ w W Wb mb mc Wb2 mb2 mc2 dd tt ss bk rm kf bf B S C L m n i):Below w.heap.size w W:=by
 obtain⟨nd,cs,x,d,l,s,og,og2,gc,gc2,gz,l2,s2,og3,og4,gc3,gc4,gz2,hD,hE,h⟩:=h
 exact hD.low
end
theorem RS {P:Program} {ops:Array Oper} {o:Oper} {a:Act} {w:World} {K:Act->World->Prop} {Q:Exit->Act->World->Prop} (hw:Region.wanted o (yielded ops a.tmps)=true) (ty:TypeId) (x:Operand) (ho:o.op=.load ty x)
  (g f:Nat) (hx:a.eval x=.pointer (some ⟨g,f,none⟩)) (t:TypeId) (cur cs:Array Value) (fr:Nat×Nat) (d:TypeDesc) (hg:w.heap[g]?=some (.cells cur t fr)) (hp:∀ (j:Nat) (v:Value),cs.toList[j]?=some v->cur[f+j]?=some v)
  (hu:P.underlying ty=some d) (hd:(match d with | .struct _ | .array _ _=>true | _=>false)=true) (hi:(P.info? ty).map (·.size)=some cs.size)
  (h:K (a.put o.dst (.agg cs)) w):if Region.wanted o (yielded ops a.tmps) then o.wp P a w K Q else K (a.put o.dst undef) w:=by
 rw[if_pos hw]
 exact aW ty x ho g f hx t cur cs fr d hg hp hu hd hi h
theorem Si (w:World) (hT:ed w) (d t:Int) (ss:Nat->Int) (bk rm:Int) (kf bf:Nat) (oa:Option Addr) (c N:Nat) (l:List OA) (en:l.length=N) (ha:kC w oa l) (hc:N<=c) (hm:c<=maxLen) (hs:∀ x∈l,Ci x) :
  Calls Tryz.prog 5 #[.agg (ak d t ss bk rm kf bf),.slice oa N c] w fun e w'=>e=.returned (.bool true)/\Below w.heap.size w w':=by
 have HT:=hJ hT
 have HA:=hJ ha
 have HS:=hJ hs
 have HN:=hJ en
 have HC:=hJ (And.intro hc hm)
 clear hT ha hs en hc hm
 go_enter Tryz.func5,Tryz.ntmps5
 go_upto_region 1 with fail
 have hb0:=au (w:=w) (A:=.cells (ak d t ss bk rm kf bf) 25)
 have hc0:=nZ w (.cells (ak d t ss bk rm kf bf) 25)
 generalize w.alloc (.cells (ak d t ss bk rm kf bf) 25)=w0 at hb0 hc0 ⊢
 have HB0:=hJ hb0
 have HC0:=hJ hc0
 clear hb0 hc0
 by_cases hall:∃ n an ln m dd:Nat,fU d t ss bk rm/\CN d t ss bk rm n an ln m dd/\n<=5000/\(ln:Int)+2<=aB ss bk rm 5
 ·obtain⟨n,an,ln,m,dd,hok,hN,hg,hf⟩:=hall
  obtain rfl:=hN.dd_
  have HBeg:=hJ (fun w=>RX w dd t ss bk rm kf bf hok hN hg hf)
  have HK:=hJ (show KC dd t ss bk rm (az (aB ss bk rm)) (aB ss bk rm) (n:Int) (ln:Int) m from⟨hok,hN.plan,hN.ln_,oZ⟩)
  clear hok hN hg hf
  go_wp2_with (first
   | (refine yZ rfl 25 (.tmp 2) rfl w.heap.size rfl 25 (ak (dd:Int) t ss bk rm kf bf) (0,0) _ HC0.out Tryz.underlying25 rfl (eu _ _ _ _ _ _ _) ?_)
   | fail)
  refine(HBeg.out w0).mono ?_;rintro e w1 ⟨Wb,mb,mc,og,og2,gc,gc2,gz,rfl,hD,-⟩
  have HC1:=hJ (aj HC0.out hD.low)
  have HD1:=hJ hD
  clear hD
  go_wp2_with (first
   | (refine yZ rfl 25 (.tmp 2) rfl w.heap.size rfl 25 (ak (dd:Int) t ss bk rm kf bf) (0,0) _ HC1.out Tryz.underlying25 rfl (eu _ _ _ _ _ _ _) ?_)
   | fail)
  refine(HBeg.out w1).mono ?_;rintro e w2 ⟨Wb2,mb2,mc2,og3,og4,gc3,gc4,gz2,rfl,hD2,hgz2⟩
  have k1:=lt_of_heap HD1.out.mem.rec_
  have k2:=lt_of_heap HD1.out.mem.row
  have k3:=lt_of_heap HD1.out.box
  have k4:=HD1.out.row.lt
  have k5:=hD2.oldm
  have k6:=hD2.oldc
  have k7:=hD2.oldb
  have HP:=hJ (show RZ w0 w2 Wb mb mc Wb2 mb2 mc2 dd t ss bk rm kf bf (az (aB ss bk rm)) (aB ss bk rm) (n:Int) (ln:Int) m n 0 from
   ⟨0,_,_,_,0,3,og,og2,gc,gc2,gz,0,3,og3,og4,gc3,gc4,gz2,HD1.out.under hD2.low,hD2.Sr HD1.out.low,oZ,oZ,by simp[bn],oZ,oZ,oZ,oZ,oZ⟩)
  have HT0:=hJ (HT.out.below HB0.out)
  have HA0:=hJ (HA.out.below HB0.out)
  clear k1 k2 k3 k4 k5 k6 k7 hD2 hgz2 HBeg HC0 HC1 HD1
  generalize az (aB ss bk rm)=B at HK HP
  generalize aB ss bk rm=S at HK HP
  have HA1:=hJ ((Below.stays HP.out.low).ops HA0.out)
  go_wp2_with fail
  refine(Kq w2 oa c N l HN.out HA1.out HC.out.1 HC.out.2 HS.out).mono ?_
  rintro e w3 ⟨ob,k,cc,rfl,hkN,hkc,hro,hb⟩
  have HP2:=hJ (HP.out.under hb)
  have HR:=hJ (hro w0 HA0.out)
  have HKn:=hJ (And.intro hkN hkc)
  clear hb hro
  have hkN2:=HKn.out.1
  go_upto_block 0 with fail
  go_cut [] (fun wx=>∃ i:Nat,i<=21/\RZ w0 wx Wb mb mc Wb2 mb2 mc2 dd t ss bk rm kf bf B S (n:Int) (ln:Int) m n i)
  case first =>
   go_wp2_with fail
   go_loopw [48] (fun iv wr=>∃ i:Nat,i<=k/\i<=21/\iv=.int .i64 (i:Int)/\RZ w0 wr Wb mb mc Wb2 mb2 mc2 dd t ss bk rm kf bf B S (n:Int) (ln:Int) m n i) (fun iv _=>k-(intOf iv).toNat)
   case atStart=>exact⟨0,oZ,oZ,rfl,HP2.out⟩
   case round =>
    obtain⟨i,hi,hi21,rfl,hp⟩:=hrel
    have HPi:=hJ hp
    clear hp HP HP2
    by_cases hlt:i<k
    ·have hlt1:(i:Int)<(k:Int):=oZ
     obtain⟨z,hz⟩:∃ z,l[i]?=some z:=⟨_,gZ (by rw[HN.out];omega)⟩
     obtain⟨⟨hd0,hd1⟩,hlen,hsz⟩:=HS.out z (List.mem_of_getElem? hz)
     obtain⟨g,o,hoa,c0,c1,p,c2,pa,pc,rfl,p4⟩:=HR.out i z (by rw[List.getElem?_take_of_lt hlt];exact hz)
     subst hoa
     have hst:=Below.stays HPi.out.low
     have c0:=hst.cell (Nat.le_refl _) c0
     have c1:=hst.cell (Nat.le_refl _) c1
     have c2:=hst.cell (Nat.le_refl _) c2
     obtain⟨del,id,F⟩:=z
     simp only at hd0 hd1 hlen hsz c0 c1 c2 p4
     have HId:=hJ (show U id from⟨hd0,hd1⟩)
     have HLen:=hJ (show F.length<=140737488355328 by unfold reachBytes at hlen;omega)
     have HSz:=hJ (show ∀ f∈F,f.size<=4611686018427387904 from fun f hf=>Nat.le_trans (hsz f hf) (by unfold reachBytes;omega))
     have HF:=hJ p4
     clear hd0 hd1 hlen hsz p4 hst hz
     go_upto_region 8 with fail
     have hop:=nZ wr (.cells #[.bool del,.int .u32 id,.slice pa F.length pc] 37)
     have hbo:=au (w:=wr) (A:=.cells #[.bool del,.int .u32 id,.slice pa F.length pc] 37)
     obtain⟨qb,hqb⟩:∃ qb,wr.heap.size=qb:=⟨_,rfl⟩
     have HO3:=hJ hop
     have HP3:=hJ (HPi.out.under hbo)
     generalize wr.alloc (.cells #[.bool del,.int .u32 id,.slice pa F.length pc] 37)=w3 at HO3 HP3 ⊢
     rw[hqb] at HO3 ⊢
     clear hop hbo hqb c0 c1 c2
     by_cases h20:20<i
     ·have h201:(20:Int)<(i:Int):=oZ
      go_wp2_with fail
      go_meet
      exact⟨i,oZ,HP3.out⟩
     ·have h201:¬ (20:Int)<(i:Int):=oZ
      go_wp2_with (first
       | (refine mf rfl 37 (.tmp 10) rfl qb rfl 37 #[.bool del,.int .u32 id,.slice pa F.length pc] (0,0) _ HO3.out Tryz.underlying37 rfl (mP _ _ _) ?_)
       | fail)
      refine(Jh w3 del id pa pc F.length F rfl HLen.out (l7.texts (Below.stays HP3.out.low) HF.out) HSz.out).mono ?_
      rintro e w4 ⟨b,rfl,hb,hgr⟩
      have HO4:=hJ (aj HO3.out hb)
      have HP4:=hJ (HP3.out.under hb)
      have HGr:=hJ hgr
      clear hb hgr HO3 HP3 HPi
      cases b with
      | true =>
       go_wp2_with fail
       go_meet
       exact⟨i,oZ,HP4.out⟩
      | false =>
       obtain⟨nd,cs,x,dt,l1,s1,og,og2,gc,gc2,gz,l2,s2,og3,og4,gc3,gc4,gz2,hD,hE,hls,hls2,hv,n1,n2,n3,n4,n5⟩:=HP4.out
       have HD:=hJ hD
       have HE:=hJ hE
       have HNe:=hJ (And.intro n1 (And.intro n2 (And.intro n3 (And.intro n4 n5))))
       have HLs:=hJ (And.intro hls (And.intro hls2 hv))
       have HQl:=hJ (show qb<w4.heap.size from lt_of_heap HO4.out)
       have HOld:=hJ (And.intro (RP HO4.out hD.mem.rec_ dZ) (And.intro (RP HO4.out hD.mem.row dZ) (And.intro (RP HO4.out hD.box dZ) (And.intro (RP HO4.out hE.mem.rec_ dZ) (And.intro (RP HO4.out hE.mem.row dZ) (RP HO4.out hE.box dZ))))))
       clear hD hE n1 n2 n3 n4 n5 hls hls2 hv HP4
       obtain⟨e0,cs',x',nd',dt',hver,hno,hwant,hdo⟩:=Sm (kf:=kf) (bf:=bf) (n:=n) HK.out HD.out.inv (by have:=HLs.out.2.2;omega) del id HId.out F (HGr.out rfl).1 (HGr.out rfl).2
       have HVer:=hJ hver
       have HNo:=hJ hno
       have HWant:=hJ hwant
       have HDo:=hJ hdo
       clear hver hno hwant hdo
       have hcm:w4.cell? ⟨Wb,25,none⟩=some (.pointer (some ⟨mb,0,none⟩)):=(ae HD.out.box 25).trans (lC rfl rfl)
       go_wp2_with fail
       refine(Kt HD.out.mem).mono ?_;rintro e w5 ⟨rfl,rfl⟩
       clear hcm
       go_wp2_with (first
        | (refine yZ rfl 37 (.tmp 10) rfl qb rfl 37 #[.bool del,.int .u32 id,.slice pa F.length pc] (0,0) _ HO4.out Tryz.underlying37 rfl (mP _ _ _) ?_)
        | fail)
       refine(HWant.out w0 w4 Wb mb mc l1 s1 og og2 gc gc2 gz pa pc HD.out (l7.texts (Below.stays HD.out.low) HF.out)).mono ?_
       rintro e w5 ⟨a1,b1,d1,a2,b2,d2,rfl,hb⟩
       have HD5:=hJ (HD.out.under hb)
       have HE5:=hJ (HE.out.under hb)
       have HO5:=hJ (aj HO4.out hb)
       clear hb HD HE HO4 HWant
       go_upto_region 11 with (first
        | (refine zZ rfl 49 (.tmp 13) (.tmp 69) rfl w5.heap.size (aK (.slice a1 b1 d1) (.slice a2 b2 d2) x') rfl rfl 49 dE (nZ w5 _) (aI _ _ _) rfl cZ ?_)
        | fail)
       rw[World.setRow_alloc_new]
       have hb6:=au (w:=w5) (A:=.cells (aK (.slice a1 b1 d1) (.slice a2 b2 d2) x') 49)
       have HD6:=hJ (HD5.out.under hb6)
       have HE6:=hJ (HE5.out.under hb6)
       have HO6:=hJ (aj HO5.out hb6)
       generalize w5.alloc (.cells (aK (.slice a1 b1 d1) (.slice a2 b2 d2) x') 49)=w6 at HD6 HE6 HO6 ⊢
       clear hb6 HD5 HE5 HO5
       go_wp2_with (first
        | (refine yZ rfl 37 (.tmp 10) rfl qb rfl 37 #[.bool del,.int .u32 id,.slice pa F.length pc] (0,0) _ HO6.out Tryz.underlying37 rfl (mP _ _ _) ?_)
        | fail)
       refine(HDo.out w0 w6 Wb mb mc l1 s1 og og2 gc gc2 gz pa pc HD6.out (by have:=HLs.out.1;omega) HT0.out (fun wr hwr=>⟨l7.tabs (HD6.out.keeps hwr) HT0.out,l7.texts (HD6.out.keeps hwr) HF.out⟩)).mono ?_
       rintro e w7 ⟨rfl,l3,s3,og5,og6,gc5,gc6,gz3,hst,hgz,hsum,hD7,hfr⟩
       have HO7:=hJ ((hfr qb (lt_of_heap HO6.out) HOld.out.1 HOld.out.2.1 HOld.out.2.2.1).trans HO6.out)
       have HE7:=hJ (HE6.out.kept HD6.out HNe.out.1.symm HNe.out.2.1.symm HNe.out.2.2.1.symm HNe.out.2.2.2.2 hD7.low hfr)
       have HD7:=hJ hD7
       have HG3:=hJ (show gz3≠mc2 by
        rcases hgz with h | h
        ·rw[h];exact HNe.out.2.2.2.1
        ·have:=lt_of_heap HE6.out.mem.row;omega)
       have HSt:=hJ hst
       have HSum:=hJ hsum
       clear hst hgz hsum hD7 hfr HD6 HE6 HO6
       by_cases he:e0=0
       ·subst he
        go_wp2_with (first
         | (refine mf rfl 37 (.tmp 10) rfl qb rfl 37 #[.bool del,.int .u32 id,.slice pa F.length pc] (0,0) _ HO7.out Tryz.underlying37 rfl (mP _ _ _) ?_)
         | fail)
        refine(HDo.out w0 w7 Wb2 mb2 mc2 l2 s2 og3 og4 gc3 gc4 gz2 pa pc HE7.out (by have:=HLs.out.2.1;omega) HT0.out (fun wr hwr=>⟨l7.tabs (HE7.out.keeps hwr) HT0.out,l7.texts (HE7.out.keeps hwr) HF.out⟩)).mono ?_
        rintro e w8 ⟨rfl,l4,s4,og7,og8,gc7,gc8,gz4,-,hgz,hsum,hE8,hfr⟩
        have HD8:=hJ (HD7.out.kept HE7.out HNe.out.1 HNe.out.2.1 HNe.out.2.2.1 HG3.out hE8.low hfr)
        have HG4:=hJ (show gz4≠mc by
         rcases hgz with h | h
         ·rw[h];exact HNe.out.2.2.2.2
         ·have:=lt_of_heap HD7.out.mem.row;omega)
        have HE8:=hJ hE8
        have HSum2:=hJ hsum
        clear hgz hsum hE8 hfr
        go_wp2_with fail
        go_roundw
        case rel=>exact⟨i+1,oZ,oZ,by go_num,_,_,_,_,_,_,_,_,_,_,_,_,_,_,_,_,_,_,HD8.out,HE8.out,by have:=HSum.out;have:=HLs.out.1;omega,by have:=HSum2.out;have:=HLs.out.2.1;omega,by have:=HVer.out;have:=HLs.out.2.2;omega,HNe.out.1,HNe.out.2.1,HNe.out.2.2.1,HG3.out,HG4.out⟩
        case measure=>simp[intOf];omega
       ·obtain⟨rfl,rfl,rfl⟩:=HNo.out he
        have hs3:=HSt.out he
        subst hs3
        have hcm:w7.cell? ⟨Wb,25,none⟩=some (.pointer (some ⟨mb,0,none⟩)):=(ae HD7.out.box 25).trans (lC rfl rfl)
        have q1:(e0 != 0)=true:=by simpa using he
        have q2:(e0==0)=false:=by simpa using he
        have HSa:=hJ (Kt HD7.out.mem)
        clear HSt HNo HDo he
        go_wp2_with fail
        refine HSa.out.mono ?_;rintro e w8 ⟨rfl,rfl⟩
        go_wp2_with fail
        go_roundw
        case rel=>exact⟨i+1,oZ,oZ,by go_num,_,_,_,_,_,_,_,_,_,_,_,_,_,_,_,_,_,_,⟨HD7.out.box,HD7.out.mem,HD7.out.l0,HD7.out.s0,HD7.out.row,HD7.out.zc,HD7.out.aH,HD7.out.segs2,HE7.out.inv,HD7.out.len,HD7.out.low,HD7.out.oldm,HD7.out.oldc,HD7.out.oldb⟩,HE7.out,by have:=HSum.out;have:=HLs.out.1;omega,by have:=HLs.out.2.1;omega,by have:=HLs.out.2.2;omega,HNe.out.1,HNe.out.2.1,HNe.out.2.2.1,HG3.out,HNe.out.2.2.2.2⟩
        case measure=>simp[intOf];omega
    ·obtain rfl:i=k:=oZ
     go_wp2_with fail
     go_meet
     exact⟨i,oZ,HPi.out⟩
  case rest =>
   clear HP HP2
   obtain⟨i,hi21,nd,cs,x,dt,l1,s1,og,og2,gc,gc2,gz,l2,s2,og3,og4,gc3,gc4,gz2,hD,hE,-⟩:=hcut
   have HX1:=hJ hD.box
   have HX2:=hJ hE.box
   have C1:=hJ (show wc.cell? ⟨Wb,25,none⟩=some (.pointer (some ⟨mb,0,none⟩)) from(ae hD.box 25).trans (lC rfl rfl))
   have C2:=hJ (show wc.cell? ⟨Wb2,25,none⟩=some (.pointer (some ⟨mb2,0,none⟩)) from(ae hE.box 25).trans (lC rfl rfl))
   have HLow:=hJ hD.low
   have HG1:=hJ hD.aH.reads
   have HG2:=hJ hE.aH.reads
   have hlen:=hD.len
   have hn65:n<=65536:=by
    obtain⟨b1,b2,b3,b4,b5,b6,b7,b8⟩:=hD.inv.bounds
    omega
   have HLen:=hJ (And.intro hlen hn65)
   have HN1:=hJ (show x.aH.length=1 by rw[hD.inv.aH];rfl)
   have hce1:∀ wx,Below wc.heap.size wc wx->_:=fun(wx:World) (hb:Below wc.heap.size wc wx)=>cells_at (hD.mem.below hb) (by rw[hlen];exact hn65)
   have hce2:∀ wx,Below wc.heap.size wc wx->_:=fun(wx:World) (hb:Below wc.heap.size wc wx)=>cells_at (hE.mem.below hb) (by rw[hlen];exact hn65)
   rw[hlen] at hce1 hce2
   have HCE1:=hJ hce1
   have HCE2:=hJ hce2
   clear hD hE hce1 hce2 hlen hn65
   go_upto_region 16 with fail
   refine aJ (fun(p:Nat×Nat) jz=>[.bool true,.bool true,.pointer (some ⟨Wb,0,none⟩),.pointer (some ⟨Wb,0,none⟩),.pointer (some ⟨Wb,25,none⟩),.pointer (some ⟨mb,0,none⟩),.slice (some ⟨p.1,0,none⟩) n n,.pointer (some ⟨Wb2,0,none⟩),.pointer (some ⟨Wb2,0,none⟩),.pointer (some ⟨Wb2,25,none⟩),.pointer (some ⟨mb2,0,none⟩),.slice (some ⟨p.2,0,none⟩) n n,.bool true,.bool true,.bool true,.pointer (some ⟨Wb,0,none⟩),.pointer (some ⟨Wb,0,none⟩),.pointer (some ⟨Wb,26,none⟩),.agg (aQ (.slice og 1 gc) x),.pointer (some ⟨Wb2,0,none⟩),.pointer (some ⟨Wb2,0,none⟩),.pointer (some ⟨Wb2,26,none⟩),.agg (aQ (.slice og3 1 gc3) x),.bool true,.bool true,.bool true].getD jz undef)
    (fun p l wx=>Below wc.heap.size wc wx/\(l 6=true->wx.heap[p.1]?=some (.cells (cs.map (Value.int .u32)).toArray 32 (0,0)))/\(l 11=true->wx.heap[p.2]?=some (.cells (cs.map (Value.int .u32)).toArray 32 (0,0))))
    kZ kZ pZ (0,0) ?_ ?_ ?_
   ·exact⟨(Below.refl _ _).drew,(fun h=>by cases h),(fun h=>by cases h)⟩
   ·intro i o ho p l wx hR hl he hcl K hK
    rcases i with _|_|_|_|_|_|_|_|_|_|_|_|_|_|_|_|_|_|_|_|_|_|_|_|_|_|i
    any_goals first | (cases ho;go_simp;exact hK p wx (fun _ _=>rfl) hR;done) | fail
    ·cases ho
     have HRr:=hJ hR
     clear hR
     go_simp
     refine(qC wx (HT0.out.below (ah HLow.out HRr.out.1))).mono ?_;rintro e w' ⟨rfl,hb⟩
     exact hK p w' (fun _ _=>rfl) ⟨ah HRr.out.1 hb,fun h=>aj (HRr.out.2.1 h) hb,fun h=>aj (HRr.out.2.2 h) hb⟩
    ·cases ho
     have q:=aC C1.out hR.1
     go_simp
     exact hK p wx (fun _ _=>rfl) hR
    ·cases ho
     have HRr:=hJ hR
     clear hR
     go_simp
     refine(HCE1.out wx HRr.out.1).mono ?_;rintro e w' ⟨rfl,hrow,hb⟩
     refine hK (wx.heap.size,p.2) w' (fun j hj=>?_) ⟨ah HRr.out.1 hb,fun _=>hrow,fun h=>aj (HRr.out.2.2 h) hb⟩
     rcases j with _|_|_|_|_|_|_|_|_|_|_|_|_|_|_|_|_|_|_|_|_|_|_|_|_|_|j
     all_goals first | rfl | (rw[hl] at hj;cases hj)
    ·cases ho
     have q:=aC C2.out hR.1
     go_simp
     exact hK p wx (fun _ _=>rfl) hR
    ·cases ho
     have HRr:=hJ hR
     clear hR
     go_simp
     refine(HCE2.out wx HRr.out.1).mono ?_;rintro e w' ⟨rfl,hrow,hb⟩
     refine hK (p.1,wx.heap.size) w' (fun j hj=>?_) ⟨ah HRr.out.1 hb,fun h=>aj (HRr.out.2.1 h) hb,fun _=>hrow⟩
     rcases j with _|_|_|_|_|_|_|_|_|_|_|_|_|_|_|_|_|_|_|_|_|_|_|_|_|_|j
     all_goals first | rfl | (rw[hl] at hj;cases hj)
    ·cases ho
     have h6:=he ⟨6,.data⟩ sZ rfl
     have h11:=he ⟨11,.data⟩ sZ rfl
     have HRr:=hJ hR
     clear hR
     go_simp
     refine(same_eq wx p.1 p.2 n cs 32 32 HLen.out.1.symm (by have:=HLen.out.2;omega) (HRr.out.2.1 h6) (HRr.out.2.2 h11)).mono ?_;rintro e w' ⟨rfl,hb⟩
     exact hK p w' (fun _ _=>rfl) ⟨ah HRr.out.1 hb,fun h=>aj (HRr.out.2.1 h) hb,fun h=>aj (HRr.out.2.2 h) hb⟩
    ·cases ho
     refine RS rfl 46 (.tmp 113) rfl Wb 26 rfl 51 (aY (ak (dd:Int) t ss bk rm kf bf) (af B S (n:Int) (m:Int) (ln:Int)) (.pointer (some ⟨mb,0,none⟩)) (aQ (.slice og 1 gc) x) (aK (.slice (some ⟨gz,0,none⟩) n n) (.slice og2 1 gc2) x)) (aQ (.slice og 1 gc) x) (0,0) _ (aj HX1.out hR.1) (kQ rfl rfl) Tryz.underlying46 rfl (aN _ _) ?_
     exact hK p wx (fun _ _=>rfl) hR
    ·cases ho
     refine RS rfl 46 (.tmp 117) rfl Wb2 26 rfl 51 (aY (ak (dd:Int) t ss bk rm kf bf) (af B S (n:Int) (m:Int) (ln:Int)) (.pointer (some ⟨mb2,0,none⟩)) (aQ (.slice og3 1 gc3) x) (aK (.slice (some ⟨gz2,0,none⟩) n n) (.slice og4 1 gc4) x)) (aQ (.slice og3 1 gc3) x) (0,0) _ (aj HX2.out hR.1) (kQ rfl rfl) Tryz.underlying46 rfl (aN _ _) ?_
     exact hK p wx (fun _ _=>rfl) hR
    ·cases ho
     have HRr:=hJ hR
     clear hR
     go_simp
     refine(nT wx og og3 1 gc gc3 x HN1.out oZ (HG1.out.below HRr.out.1) (HG2.out.below HRr.out.1)).mono ?_;rintro e w' ⟨rfl,hb⟩
     exact hK p w' (fun _ _=>rfl) ⟨ah HRr.out.1 hb,fun h=>aj (HRr.out.2.1 h) hb,fun h=>aj (HRr.out.2.2 h) hb⟩
    ·simp at ho
   ·intro p l wx hl hR
    have HB9:=hJ (ah HB0.out (ah HLow.out hR.1))
    clear hR hl
    go_wp2_with fail
    go_ret
    exact⟨rfl,HB9.out⟩
 ·have HBeg:=hJ (fun w=>Sl w d t ss bk rm kf bf hall)
  clear hall
  go_wp2_with (first
   | (refine yZ rfl 25 (.tmp 2) rfl w.heap.size rfl 25 (ak d t ss bk rm kf bf) (0,0) _ HC0.out Tryz.underlying25 rfl (eu _ _ _ _ _ _ _) ?_)
   | fail)
  refine(HBeg.out w0).mono ?_;rintro e w1 ⟨rfl,hb⟩
  have HC1:=hJ (aj HC0.out hb)
  have HB1:=hJ (ah HB0.out hb)
  clear hb HC0
  go_wp2_with (first
   | (refine yZ rfl 25 (.tmp 2) rfl w.heap.size rfl 25 (ak d t ss bk rm kf bf) (0,0) _ HC1.out Tryz.underlying25 rfl (eu _ _ _ _ _ _ _) ?_)
   | fail)
  refine(HBeg.out w1).mono ?_;rintro e w2 ⟨rfl,hb⟩
  have HB2:=hJ (ah HB1.out hb)
  clear hb HC1 HBeg
  have HFx:=hJ (qC w2 (HT.out.below HB2.out))
  go_wp2_with fail
  refine HFx.out.mono ?_;rintro e w3 ⟨rfl,hb⟩
  have HB3:=hJ (ah HB2.out hb)
  clear hb
  go_wp2_with fail
  go_ret
  exact⟨rfl,HB3.out⟩
end Go.Proofs.YtlfndoclbebdaaaGreatDoor
