/-
 What stage 12 rests on.
-/
import Derived.Test.YtlfndoclbebdaaaGreatDoorWrAlA1
import Derived.Test.YtlfndoclbebdaaaGreatDoorWrAlM1
import Derived.Test.YtlfndoclbebdaaaGreatDoorWrAlC5
import Derived.Test.YtlfndoclbebdaaaGreatDoorWrEmptyPurePk
import Derived.Test.YtlfndoclbebdaaaGreatDoorWrAlC1
set_option maxRecDepth 100000
set_option maxHeartbeats 16000000
namespace Go.Proofs.YtlfndoclbebdaaaGreatDoor
open Go.RowKit
theorem Rl (w:World):(Go.sizeOf 9).run Tryz.prog w=.ok 1 w:=kZ
theorem Q3:Tryz.prog.elem 33=9:=kZ
theorem Rh:Tryz.prog.underlying 33=some (.slice (Tryz.prog.elem 33)):=by rw[Q3];exact Tryz.underlying33
theorem Q9 (oa:Option Addr) (n c i:Nat) (hi:i<=c) (w:World) :
  (Instr.slice 33 (.slice oa n c) none (some (.int .u8 (i:Int))) none).run Tryz.prog w=.ok (.slice oa i c) w:=by
 rw[run_slice_h w 33 oa n c Rh .u8 (i:Int) oZ oZ,Q3,Rl]
 have e:(oa.map fun x=>x.add 0)=oa:=by cases oa <;> simp[Addr.add]
 simp[Result.andThen,sliced,e]
theorem QY {P:Program} {ops:Array Oper} {o:Oper} {a:Act} {w:World} {K:Act->World->Prop} {Q:Exit->Act->World->Prop} (hw:Region.wanted o (yielded ops a.tmps)=true) (ty:TypeId) (x:Operand) (ho:o.op=.load ty x)
  (g f:Nat) (hx:a.eval x=.pointer (some ⟨g,f,none⟩)) (t:TypeId) (cur cs:Array Value) (fr:Nat×Nat) (d:TypeDesc) (hg:w.heap[g]?=some (.cells cur t fr)) (hp:∀ (j:Nat) (v:Value),cs.toList[j]?=some v->cur[f+j]?=some v)
  (hu:P.underlying ty=some d) (hd:(match d with | .struct _ | .array _ _=>true | _=>false)=true) (hi:(P.info? ty).map (·.size)=some cs.size)
  (h:K (a.put o.dst (.agg cs)) w):if Region.wanted o (yielded ops a.tmps) then o.wp P a w K Q else K (a.put o.dst undef) w:=by
 rw[if_pos hw]
 exact aW ty x ho g f hx t cur cs fr d hg hp hu hd hi h
theorem Rf {w w':World} {base:Nat} {oa:Option Addr} {n c:Nat} {l:List Sg} (h:bF w base (.slice oa n c) l) (hk:∀ k,k<w.heap.size->(∀ cc (t:TypeId),w.heap[k]?=some (.cells cc t (0,0))->t≠65->False)->w'.heap[k]?=w.heap[k]?):gy w' oa l:=by
 obtain⟨h0,h | ⟨g',cap,cur,k1,k2,k3,k4⟩⟩:=h
 ·exact(show bF w' base (.slice oa n c) l from⟨h0,.inl h⟩).reads
 ·refine(show bF w' base (.slice oa n c) l from⟨h0,.inr ⟨g',cap,cur,k1,k2,(hk g' (lt_of_heap k3) (fun cc t h9 ht=>?_)).trans k3,k4⟩⟩).reads
  rw[k3] at h9
  injection h9 with h9
  injection h9 with _ h9 _
  exact ht h9.symm
theorem wrap_u32 {v:Int} (h0:0<=v) (h1:v<=4294967295):IntKind.u32.wrap v=v:=IntWalk.u32_in _ ⟨h0,h1⟩
theorem Ro {w:World} {g:Nat} (h:w.heap[g]?=some (.cells #[.string ⟨#[116,104,101]⟩,.string ⟨#[45,45,32]⟩,.string ⟨#[]⟩] 9 (0,0))) (k:Nat):iY w (some ⟨g,0,none⟩) (Rw k):=by
 intro j x hj
 unfold Rw at hj
 rw[List.getElem?_take] at hj
 split at hj
 ·refine⟨g,0,rfl,?_⟩
  rcases j with _|_|_|j
  all_goals first | (simp at hj;subst hj;exact ae h _) | simp at hj
 ·cases hj
theorem Rt (w:World) (hT:ed w) (d t:Int) (ss:Nat->Int) (bk rm:Int) (kf bf:Nat) (oa:Option Addr) (c N:Nat) (l:List OA) (en:l.length=N) (ha:kC w oa l) (hc:N<=c) (hm:c<=maxLen) (hs:∀ x∈l,Ci x) (id:Int) (hid:U id) (nn:Nat) :
  Calls Tryz.prog 8 #[.agg (ak d t ss bk rm kf bf),.slice oa N c,.int .u32 id,.int .u8 (nn:Int)] w fun e w'=>e=.returned (.bool true)/\Below w.heap.size w w':=by
 have HT:=hJ hT
 have HA:=hJ ha
 have HS:=hJ hs
 have HN:=hJ en
 have HC:=hJ (And.intro hc hm)
 have HI:=hJ hid
 obtain⟨q4,hq4⟩:∃ q4:Nat,q4=nn % 4:=⟨_,rfl⟩
 have HQ4:=hJ (show ((nn:Int)) % 4=(q4:Int)/\q4<4 by omega)
 clear hT ha hs en hc hm hid hq4
 go_enter Tryz.func8,Tryz.ntmps8
 go_upto_region 1 with fail
 have hb0:=au (w:=w) (A:=.cells (ak d t ss bk rm kf bf) 25)
 have hc0:=nZ w (.cells (ak d t ss bk rm kf bf) 25)
 generalize w.alloc (.cells (ak d t ss bk rm kf bf) 25)=w0 at hb0 hc0 ⊢
 have HB0:=hJ hb0
 have HC0:=hJ hc0
 clear hb0 hc0
 go_wp2_with (first
  | (refine yZ rfl 25 (.tmp 4) rfl w.heap.size rfl 25 (ak d t ss bk rm kf bf) (0,0) _ HC0.out Tryz.underlying25 rfl (eu _ _ _ _ _ _ _) ?_)
  | fail)
 refine(J3 w0 d t ss bk rm kf bf).mono ?_
 rintro e w1 (⟨rfl,hb⟩ | ⟨dd,n,an,ln,m,Wb,mb,mc,og,og2,gc,gc2,gz,rfl,hK,rfl,hD⟩)
 ·have HB1:=hJ (ah HB0.out hb)
  clear hb
  have hT1:=HT.out.below HB1.out
  have HFx:=hJ (qC w1 hT1)
  clear hT1
  go_wp2_with fail
  refine HFx.out.mono ?_;rintro e w2 ⟨rfl,hb⟩
  have HB2:=hJ (ah HB1.out hb)
  clear hb
  go_wp2_with fail
  go_ret
  exact⟨rfl,HB2.out⟩
 ·have HK:=hJ hK
  have HP:=hJ (show OB w0 w1 Wb mb mc dd t ss bk rm kf bf (az (aB ss bk rm)) (aB ss bk rm) (n:Int) (ln:Int) m n 0 from⟨0,_,_,_,0,3,og,og2,gc,gc2,gz,hD,oZ,by simp[bn]⟩)
  have HT0:=hJ (HT.out.below HB0.out)
  have HA0:=hJ (HA.out.below HB0.out)
  clear hK hD
  generalize az (aB ss bk rm)=B at HK HP
  generalize aB ss bk rm=S at HK HP
  have HA1:=hJ ((Below.stays HP.out.low).ops HA0.out)
  go_wp2_with fail
  refine(Kq w1 oa c N l HN.out HA1.out HC.out.1 HC.out.2 HS.out).mono ?_
  rintro e w2 ⟨ob,k,cc,rfl,hkN,hkc,hro,hb⟩
  have HP2:=hJ (HP.out.under hb)
  have HR:=hJ (hro w0 HA0.out)
  have HKn:=hJ (And.intro hkN hkc)
  clear hb hro
  have hkN2:=HKn.out.1
  go_upto_block 0 with fail
  go_cut [] (fun wx=>∃ i:Nat,i<=13/\OB w0 wx Wb mb mc dd t ss bk rm kf bf B S (n:Int) (ln:Int) m n i)
  case first =>
   go_wp2_with fail
   go_loopw [35] (fun iv wr=>∃ i:Nat,i<=k/\i<=13/\iv=.int .i64 (i:Int)/\OB w0 wr Wb mb mc dd t ss bk rm kf bf B S (n:Int) (ln:Int) m n i) (fun iv _=>k-(intOf iv).toNat)
   case atStart=>exact⟨0,oZ,oZ,rfl,HP2.out⟩
   case round =>
    obtain⟨i,hi,hi13,rfl,hp⟩:=hrel
    have HPi:=hJ hp
    clear hp
    by_cases hlt:i<k
    ·have hlt1:(i:Int)<(k:Int):=oZ
     obtain⟨x,hx⟩:∃ x,l[i]?=some x:=⟨_,gZ (by rw[HN.out];omega)⟩
     obtain⟨⟨hd0,hd1⟩,hlen,hsz⟩:=HS.out x (List.mem_of_getElem? hx)
     obtain⟨g,o,hoa,c0,c1,p,c2,pa,pc,rfl,p4⟩:=HR.out i x (by rw[List.getElem?_take_of_lt hlt];exact hx)
     subst hoa
     have hst:=Below.stays HPi.out.low
     have c0:=hst.cell (Nat.le_refl _) c0
     have c1:=hst.cell (Nat.le_refl _) c1
     have c2:=hst.cell (Nat.le_refl _) c2
     obtain⟨del,id,F⟩:=x
     simp only at hd0 hd1 hlen hsz c0 c1 c2 p4
     have HId:=hJ (show U id from⟨hd0,hd1⟩)
     have HLen:=hJ (show F.length<=140737488355328 by unfold reachBytes at hlen;omega)
     have HSz:=hJ (show ∀ f∈F,f.size<=4611686018427387904 from fun f hf=>Nat.le_trans (hsz f hf) (by unfold reachBytes;omega))
     have HF:=hJ p4
     clear hd0 hd1 hlen hsz p4 hst hx
     go_upto_region 7 with fail
     have hop:=nZ wr (.cells #[.bool del,.int .u32 id,.slice pa F.length pc] 37)
     have hbo:=au (w:=wr) (A:=.cells #[.bool del,.int .u32 id,.slice pa F.length pc] 37)
     obtain⟨qb,hqb⟩:∃ qb,wr.heap.size=qb:=⟨_,rfl⟩
     have HO3:=hJ hop
     have HP3:=hJ (HPi.out.under hbo)
     generalize wr.alloc (.cells #[.bool del,.int .u32 id,.slice pa F.length pc] 37)=w3 at HO3 HP3 ⊢
     rw[hqb] at HO3 ⊢
     clear hop hbo hqb c0 c1 c2
     by_cases h30:12<i
     ·have h301:(12:Int)<(i:Int):=oZ
      go_wp2_with fail
      go_meet
      exact⟨i,oZ,HP3.out⟩
     ·have h301:¬ (12:Int)<(i:Int):=oZ
      go_wp2_with (first
       | (refine mf rfl 37 (.tmp 12) rfl qb rfl 37 #[.bool del,.int .u32 id,.slice pa F.length pc] (0,0) _ HO3.out Tryz.underlying37 rfl (mP _ _ _) ?_)
       | fail)
      refine(Jh w3 del id pa pc F.length F rfl HLen.out (l7.texts (Below.stays HP3.out.low) HF.out) HSz.out).mono ?_
      rintro e w4 ⟨b,rfl,hb,hgr⟩
      have HO4:=hJ (aj HO3.out hb)
      have HP4:=hJ (HP3.out.under hb)
      have HGr:=hJ hgr
      clear hb hgr
      cases b with
      | true =>
       go_wp2_with fail
       go_meet
       exact⟨i,oZ,HP4.out⟩
      | false =>
       go_wp2_with (first
        | (refine yZ rfl 37 (.tmp 12) rfl qb rfl 37 #[.bool del,.int .u32 id,.slice pa F.length pc] (0,0) _ HO4.out Tryz.underlying37 rfl (mP _ _ _) ?_)
        | fail)
       refine(HP4.out.QV HK.out oZ HT0.out del id HId.out pa F pc HF.out (HGr.out trivial).1 (HGr.out trivial).2).mono ?_
       rintro e w5 ⟨rfl,h5⟩
       have HP5:=hJ h5
       clear h5
       go_wp2_with fail
       go_roundw
       case rel=>exact⟨i+1,oZ,oZ,by go_num,HP5.out⟩
       case measure=>simp[intOf];omega
    ·obtain rfl:i=k:=oZ
     go_wp2_with fail
     go_meet
     exact⟨i,oZ,HPi.out⟩
  case rest =>
   clear HP HP2
   obtain⟨i,hi13,hLW⟩:=hcut
   obtain⟨nd,cs,x,dt,l1,s1,og,og2,gc,gc2,gz,hD,hl1,hv1⟩:=hLW
   have HD:=hJ hD
   have HLs:=hJ (And.intro hl1 hv1)
   have HX:=hJ hD.box
   clear hD hl1 hv1
   go_upto_region 12 with (first
    | (refine dU rfl 46 (.tmp 53) rfl Wb 26 rfl 51 (aY (ak (dd:Int) t ss bk rm kf bf) (af B S (n:Int) (m:Int) (ln:Int)) (.pointer (some ⟨mb,0,none⟩)) (aQ (.slice og 1 gc) x) (aK (.slice (some ⟨gz,0,none⟩) n n) (.slice og2 1 gc2) x)) (aQ (.slice og 1 gc) x) (0,0) _ HX.out (kQ rfl rfl) Tryz.underlying46 rfl (aN _ _) ?_)
    | (refine zZ rfl 46 (.tmp 13) (.tmp 54) rfl wc.heap.size (aQ (.slice og 1 gc) x) rfl rfl 46 (aQ (.slice none 0 0) aO) (nZ wc _) (aN _ _) rfl (dY _ _ _ _) ?_)
    | fail)
   rw[World.setRow_alloc_new]
   have hb3:=au (w:=wc) (A:=.cells (aQ (.slice og 1 gc) x) 46)
   have HQ3:=hJ (nZ wc (.cells (aQ (.slice og 1 gc) x) 46))
   have HD3:=hJ (HD.out.under hb3)
   obtain⟨qb,hqb⟩:∃ qb,wc.heap.size=qb:=⟨_,rfl⟩
   have HQl:=hJ (show mb<qb/\mc<qb/\Wb<qb from⟨by rw[<- hqb];exact lt_of_heap HD.out.mem.rec_,by rw[<- hqb];exact lt_of_heap HD.out.mem.row,by rw[<- hqb];exact lt_of_heap HX.out⟩)
   rw[hqb] at HQ3 ⊢
   generalize wc.alloc (.cells (aQ (.slice og 1 gc) x) 46)=w3 at HQ3 HD3 hb3 ⊢
   clear hb3 hqb HX HD
   have hs4:∀ w',(Instr.slice 33 (.slice (some ⟨w3.heap.size,0,none⟩) 3 3) none (some (.int .u8 (q4:Int))) none).run Tryz.prog w'=.ok (.slice (some ⟨w3.heap.size,0,none⟩) q4 3) w':=fun w'=>Q9 _ 3 3 q4 (by have:=HQ4.out.2;omega) w'
   have k4:=HQ4.out.1
   go_upto_region 13 with fail
   clear hs4 k4
   obtain⟨sb,hsb⟩:∃ sb,sb=w3.heap.size:=⟨_,rfl⟩
   have hst:=fO w3 (.cells #[.string ⟨#[116,104,101]⟩,.string ⟨#[45,45,32]⟩,.string ⟨#[]⟩] 9) (.cells #[.bool false,.int .u32 id,.slice (some ⟨w3.heap.size,0,none⟩) q4 3] 37)
   have hop:=fK w3 (.cells #[.string ⟨#[116,104,101]⟩,.string ⟨#[45,45,32]⟩,.string ⟨#[]⟩] 9) (.cells #[.bool false,.int .u32 id,.slice (some ⟨w3.heap.size,0,none⟩) q4 3] 37)
   have hb4:Below w3.heap.size w3 ((w3.alloc (.cells #[.string ⟨#[116,104,101]⟩,.string ⟨#[45,45,32]⟩,.string ⟨#[]⟩] 9)).alloc (.cells #[.bool false,.int .u32 id,.slice (some ⟨w3.heap.size,0,none⟩) q4 3] 37)):=dL
   generalize (w3.alloc (.cells #[.string ⟨#[116,104,101]⟩,.string ⟨#[45,45,32]⟩,.string ⟨#[]⟩] 9)).alloc (.cells #[.bool false,.int .u32 id,.slice (some ⟨w3.heap.size,0,none⟩) q4 3] 37)=w4 at hst hop hb4 ⊢
   have HLt:=hJ (show mb<sb/\mc<sb/\Wb<sb/\qb<sb from⟨by rw[hsb];exact lt_of_heap HD3.out.mem.rec_,by rw[hsb];exact lt_of_heap HD3.out.mem.row,by rw[hsb];exact lt_of_heap HD3.out.box,by rw[hsb];exact lt_of_heap HQ3.out⟩)
   have HQ4':=hJ (aj HQ3.out hb4)
   have HD4:=hJ (HD3.out.under hb4)
   rw[<- hsb] at hst hop ⊢
   have HSt4:=hJ hst
   have HOp4:=hJ hop
   have HLs2:=hJ HLs.out
   clear hst hop hb4 hsb HQ3 HD3
   have hF:=Rz HQ4.out.2
   have hFl:=RI HQ4.out.2
   obtain⟨F,hFF⟩:∃ F,F=Rw q4:=⟨_,rfl⟩
   have hFs:∀ f∈F,f.size<=1000000:=by
    rw[hFF]
    intro f hf
    have:=List.mem_of_mem_take hf
    simp only[List.mem_cons,List.not_mem_nil,or_false] at this
    rcases this with rfl | rfl | rfl <;> decide
   have HRd:=hJ (show ∀ w',w'.heap[sb]?=w4.heap[sb]?->iY w' (some ⟨sb,0,none⟩) F from fun w' h=>by rw[hFF];exact Ro (h.trans HSt4.out) q4)
   rw[<- hFF] at hF hFl
   clear hFF
   obtain⟨e0,cs',x',nd',dt',hgood⟩:=HD4.out.inv.add id F HI.out (by have:=HLs2.out.2;omega)
   have HE:=hJ (RG HD4.out.inv hF.1 hF.2 hgood)
   have HGood:=hJ hgood
   have HFs:=hJ (And.intro hFs hFl)
   clear hgood hF hFs hFl HSt4
   go_wp2_with (first
    | (refine yZ rfl 37 (.tmp 14) rfl (sb+1) rfl 37 #[.bool false,.int .u32 id,.slice (some ⟨sb,0,none⟩) q4 3] (0,0) _ HOp4.out Tryz.underlying37 rfl (mP _ _ _) ?_)
    | fail)
   refine(Np HD4.out.inv HGood.out.out HI.out w4 (some ⟨gz,0,none⟩) n n HD4.out.len (HD4.out.row.read HD4.out.inv.ws.cu) og2 gc2 HD4.out.segs2.reads ss bk rm kf bf (ln:Int) (some ⟨sb,0,none⟩) q4 3 HFs.out.2 (HRd.out w4 rfl) HFs.out.1 (by have:=HFs.out.2;have:=HQ4.out.2;omega) (.pointer (some ⟨mb,0,none⟩)) (aQ (.slice og 1 gc) x) rfl Wb HD4.out.box).mono ?_
   rintro e w5 ⟨vc,vs,rfl,hb5,hout⟩
   obtain⟨agQ,an',ac,bgQ,bnQ,bc,rfl,rfl⟩:∃ agQ an' ac bgQ bnQ bc,vc=.slice agQ an' ac/\vs=.slice bgQ bnQ bc:=by
    rcases hout with ⟨_,h1,h2,_⟩ | ⟨_,g,h1,_,h2,_⟩
    ·exact⟨_,_,_,_,_,_,h1,h2⟩
    ·obtain⟨ao,c2,h3⟩:=mg h2 _ rfl
     exact⟨_,_,_,_,_,_,h1,h3⟩
   have HQ5:=hJ (aj HQ4'.out hb5)
   have HD5:=hJ (HD4.out.under hb5)
   have HOp5:=hJ (aj HOp4.out hb5)
   have HK5:=hJ (show w5.heap[sb]?=w4.heap[sb]? from hb5.block sb (by have:=lt_of_heap HOp4.out;omega))
   clear hb5 hout HQ4' HD4 HOp4
   go_upto_region 14 with (first
    | (refine zZ rfl 49 (.tmp 16) (.tmp 67) rfl w5.heap.size (aK (.slice agQ an' ac) (.slice bgQ bnQ bc) x') rfl rfl 49 dE (nZ w5 _) (aI _ _ _) rfl cZ ?_)
    | fail)
   rw[World.setRow_alloc_new]
   have hb6:=au (w:=w5) (A:=.cells (aK (.slice agQ an' ac) (.slice bgQ bnQ bc) x') 49)
   have HQ6:=hJ (aj HQ5.out hb6)
   have HD6:=hJ (HD5.out.under hb6)
   have HOp6:=hJ (aj HOp5.out hb6)
   have HK6:=hJ (show (w5.alloc (.cells (aK (.slice agQ an' ac) (.slice bgQ bnQ bc) x') 49)).heap[sb]?=w4.heap[sb]? from(hb6.block sb (by have:=lt_of_heap HOp5.out;omega)).trans HK5.out)
   generalize w5.alloc (.cells (aK (.slice agQ an' ac) (.slice bgQ bnQ bc) x') 49)=w6 at HQ6 HD6 HOp6 HK6 ⊢
   clear hb6 HQ5 HD5 HOp5 HK5
   have hdo:=JD HK.out HD6.out id (by have:=HLs2.out.2;omega) (by have:=HLs2.out.1;omega) (some ⟨sb,0,none⟩) F 3 HFs.out.1 (by have:=HFs.out.2;have:=HQ4.out.2;omega) HI.out HGood.out (fun wr hwr=>⟨l7.tabs (HD6.out.keeps hwr) HT0.out,HRd.out wr ((hwr sb (by have:=lt_of_heap HOp6.out;omega) (by have:=HLt.out;omega) (by have:=HLt.out;omega)).trans HK6.out)⟩)
   rw[HFs.out.2] at hdo
   have HDo:=hJ hdo
   clear hdo
   go_wp2_with (first
    | (refine yZ rfl 37 (.tmp 14) rfl (sb+1) rfl 37 #[.bool false,.int .u32 id,.slice (some ⟨sb,0,none⟩) q4 3] (0,0) _ HOp6.out Tryz.underlying37 rfl (mP _ _ _) ?_)
    | fail)
   refine HDo.out.mono ?_
   rintro e w7 ⟨rfl,l7Q,s7,og7,og8,gc7,gc8,gz7,_,hD7,hfr⟩
   have HQ7:=hJ ((hfr qb (lt_of_heap HQ6.out) (by have:=HQl.out;omega) (by have:=HQl.out;omega) (by have:=HQl.out;omega)).trans HQ6.out)
   have HG7:=hJ (show gy w7 og x.aH from(Rf HD6.out.aH fun k hk ht=>hfr k hk (by rintro rfl;exact ht _ _ HD6.out.mem.rec_ dZ) (by rintro rfl;exact ht _ _ HD6.out.mem.row dZ) (by rintro rfl;exact ht _ _ HD6.out.box dZ)))
   have HD7:=hJ hD7
   have HLow7:=hJ (ah HB0.out hD7.low)
   have HT7:=hJ (HT0.out.below hD7.low)
   have HSeg:=hJ HD6.out.inv.aH
   obtain⟨v1,v2,v3,v4,v5,v6,v7,v8⟩:=HD6.out.inv.bounds
   have HVer0:=hJ v7
   have HNd:=hJ (show nd<=64 from Nat.le_trans HD6.out.inv.nd_ HD6.out.inv.hdd)
   clear v1 v2 v3 v4 v5 v6 v7 v8
   clear hD7 hfr HDo HQ6 HD6 HOp6 HK6
   obtain⟨he,hcs,hxx⟩ | ⟨rfl,hx'⟩:=HE.out
   ·have hcs:=hcs.symm
    have hxx:=hxx.symm
    subst hcs hxx
    have HX7:=hJ HD7.out.box
    have HG8:=hJ HD7.out.aH.reads
    have hn1:x.aH.length=1:=by rw[HSeg.out];rfl
    have HN1:=hJ hn1
    clear hn1
    rcases he with rfl | rfl
    ·go_upto_region 17 with fail
     refine aJ (fun(p:Unit) jz=>[.bool true,.bool true,(.agg (aQ (.slice og 1 gc) x)),(.pointer (some ⟨Wb,0,none⟩)),(.pointer (some ⟨Wb,0,none⟩)),.pointer (some ⟨Wb,26,none⟩),(.agg (aQ (.slice og7 1 gc7) x)),.bool true,.bool true,.bool true,.int .i64 6,.bool true,.bool true,undef,undef,.bool true,.bool true,.bool true].getD jz undef)
      (fun p l wx=>Below w7.heap.size w7 wx)
      kZ kZ pZ () ?_ ?_ ?_
     ·exact(Below.refl _ _).drew
     ·intro i o ho p l wx hR hl he hcl K hK
      rcases i with _|_|_|_|_|_|_|_|_|_|_|_|_|_|_|_|_|_|i
      any_goals first | (cases ho;go_simp;exact hK () wx (fun _ _=>rfl) hR;done) | fail
      ·cases ho
       go_simp
       refine(qC wx (HT7.out.below hR)).mono ?_;rintro e w' ⟨rfl,hb⟩
       exact hK () w' (fun _ _=>rfl) (ah hR hb)
      ·cases ho
       exact aV rfl 46 (.tmp 13) rfl qb rfl 46 (aQ (.slice og 1 gc) x) (0,0) _ (aj HQ7.out hR) Tryz.underlying46 rfl (aN _ _) (hK () wx (fun _ _=>rfl) hR)
      ·cases ho
       refine QY rfl 46 (.tmp 79) rfl Wb 26 rfl 51 (aY (ak (dd:Int) t ss bk rm kf bf) (af B S (n:Int) (m:Int) (ln:Int)) (.pointer (some ⟨mb,0,none⟩)) (aQ (.slice og7 1 gc7) x) (aK (.slice (some ⟨gz7,0,none⟩) n n) (.slice og8 1 gc8) x)) (aQ (.slice og7 1 gc7) x) (0,0) _ (aj HX7.out hR) (kQ rfl rfl) Tryz.underlying46 rfl (aN _ _) ?_
       exact hK () wx (fun _ _=>rfl) hR
      ·cases ho
       go_simp
       refine(nT wx og og7 1 gc gc7 x HN1.out oZ (HG7.out.below hR) (HG8.out.below hR)).mono ?_;rintro e w' ⟨rfl,hb⟩
       exact hK () w' (fun _ _=>rfl) (ah hR hb)
      ·simp at ho
     ·intro p l wx hl hR
      have HB9:=hJ (ah HLow7.out hR)
      clear hR hl
      go_wp2_with fail
      go_ret
      exact⟨rfl,HB9.out⟩
    ·go_upto_region 17 with fail
     refine aJ (fun(p:Unit) jz=>[.bool true,.bool true,(.agg (aQ (.slice og 1 gc) x)),(.pointer (some ⟨Wb,0,none⟩)),(.pointer (some ⟨Wb,0,none⟩)),.pointer (some ⟨Wb,26,none⟩),(.agg (aQ (.slice og7 1 gc7) x)),.bool true,.bool true,.bool true,.int .i64 5,.bool false,.bool false,.int .i64 5,.bool true,.bool true,.bool true,.bool true].getD jz undef)
      (fun p l wx=>Below w7.heap.size w7 wx)
      kZ kZ pZ () ?_ ?_ ?_
     ·exact(Below.refl _ _).drew
     ·intro i o ho p l wx hR hl he hcl K hK
      rcases i with _|_|_|_|_|_|_|_|_|_|_|_|_|_|_|_|_|_|i
      any_goals first | (cases ho;go_simp;exact hK () wx (fun _ _=>rfl) hR;done) | fail
      ·cases ho
       go_simp
       refine(qC wx (HT7.out.below hR)).mono ?_;rintro e w' ⟨rfl,hb⟩
       exact hK () w' (fun _ _=>rfl) (ah hR hb)
      ·cases ho
       exact aV rfl 46 (.tmp 13) rfl qb rfl 46 (aQ (.slice og 1 gc) x) (0,0) _ (aj HQ7.out hR) Tryz.underlying46 rfl (aN _ _) (hK () wx (fun _ _=>rfl) hR)
      ·cases ho
       refine QY rfl 46 (.tmp 79) rfl Wb 26 rfl 51 (aY (ak (dd:Int) t ss bk rm kf bf) (af B S (n:Int) (m:Int) (ln:Int)) (.pointer (some ⟨mb,0,none⟩)) (aQ (.slice og7 1 gc7) x) (aK (.slice (some ⟨gz7,0,none⟩) n n) (.slice og8 1 gc8) x)) (aQ (.slice og7 1 gc7) x) (0,0) _ (aj HX7.out hR) (kQ rfl rfl) Tryz.underlying46 rfl (aN _ _) ?_
       exact hK () wx (fun _ _=>rfl) hR
      ·cases ho
       go_simp
       refine(nT wx og og7 1 gc gc7 x HN1.out oZ (HG7.out.below hR) (HG8.out.below hR)).mono ?_;rintro e w' ⟨rfl,hb⟩
       exact hK () w' (fun _ _=>rfl) (ah hR hb)
      ·simp at ho
     ·intro p l wx hl hR
      have HB9:=hJ (ah HLow7.out hR)
      clear hR hl
      go_wp2_with fail
      go_ret
      exact⟨rfl,HB9.out⟩
   ·have HX7:=hJ HD7.out.box
    have HG8:=hJ HD7.out.aH.reads
    have hxv:x.dR+1=u32 (x.dR+1):=(wrap_u32 (by have:=HVer0.out;omega) (by have:=HLs2.out.2;omega)).symm
    have hxe:x'.dR=x.dR+1/\x'.terms=x.terms/\x'.used=x.used/\x'.aH=[(B 5,(nd:Int)+1,false)]:=by rw[hx'];exact⟨hxv.symm,rfl,rfl,rfl⟩
    obtain⟨g1,o1,rfl,-,hn1,-⟩:=HG7.out 0 (B 5,(nd:Int),false) (by rw[HSeg.out];rfl)
    obtain⟨g2,o2,rfl,-,hn2,-⟩:=HG8.out 0 (B 5,(nd:Int)+1,false) (by rw[hxe.2.2.2];rfl)
    have C28:=hJ (show w7.cell? ⟨Wb,28,none⟩=some (.int .u32 (x.dR+1)) from by rw[<- hxe.1];exact(ae HX7.out 28).trans (kQ rfl rfl 2 _ rfl))
    have C27:=hJ (show w7.cell? ⟨Wb,27,none⟩=some (.int .i64 x.terms) from by rw[<- hxe.2.1];exact(ae HX7.out 27).trans (kQ rfl rfl 1 _ rfl))
    have C26:=hJ (show w7.cell? ⟨Wb,26,none⟩=some (.slice (some ⟨g2,o2,none⟩) 1 gc7) from(ae HX7.out 26).trans (kQ rfl rfl 0 _ rfl))
    have P29:=hJ (show ∀ (j:Nat) (v:Value),(six x.used).toList[j]?=some v->(aY (ak (dd:Int) t ss bk rm kf bf) (af B S (n:Int) (m:Int) (ln:Int)) (.pointer (some ⟨mb,0,none⟩)) (aQ (.slice (some ⟨g2,o2,none⟩) 1 gc7) x') (aK (.slice (some ⟨gz7,0,none⟩) n n) (.slice og8 1 gc8) x'))[29+j]?=some v from fun j v hj=>by
     have h9:=kQ (cf:=ak (dd:Int) t ss bk rm kf bf) (pl:=af B S (n:Int) (m:Int) (ln:Int)) (m:=.pointer (some ⟨mb,0,none⟩)) (st:=aK (.slice (some ⟨gz7,0,none⟩) n n) (.slice og8 1 gc8) x') rfl rfl (3+j) v (by rw[Array.getElem?_toList];exact qx (.slice (some ⟨g2,o2,none⟩) 1 gc7) x' j v (by rw[hxe.2.2.1];exact hj))
     rwa [<- Nat.add_assoc] at h9)
    have D2:=hJ (show w7.cell? ⟨qb,2,none⟩=some (.int .u32 x.dR) from ae HQ7.out 2)
    have D1:=hJ (show w7.cell? ⟨qb,1,none⟩=some (.int .i64 x.terms) from ae HQ7.out 1)
    have D0:=hJ (show w7.cell? ⟨qb,0,none⟩=some (.slice (some ⟨g1,o1,none⟩) 1 gc) from ae HQ7.out 0)
    have N1:=hJ (show w7.cell? ⟨g1,o1+1,none⟩=some (.int .i64 (nd:Int)) from by simpa using hn1)
    have N2:=hJ (show w7.cell? ⟨g2,o2+1,none⟩=some (.int .i64 ((nd:Int)+1)) from by simpa using hn2)
    have HV1:=hJ (show IntKind.u32.wrap (x.dR+1)=x.dR+1 from hxv.symm)
    have HV2:=hJ (show IntKind.i64.wrap ((nd:Int)+1)=(nd:Int)+1 from iZ _ (by have:=HNd.out;omega))
    clear hxv hxe hx' hn1 hn2
    go_upto_region 18 with fail
    refine aJ (fun(p:Unit) jz=>[.bool true,.bool true,(.pointer (some ⟨Wb,0,none⟩)),(.pointer (some ⟨Wb,0,none⟩)),.pointer (some ⟨Wb,26,none⟩),.pointer (some ⟨Wb,28,none⟩),.int .u32 (x.dR+1),.pointer (some ⟨qb,2,none⟩),.int .u32 x.dR,.int .u32 (x.dR+1),.bool true,.bool true,.bool true,(.pointer (some ⟨Wb,0,none⟩)),(.pointer (some ⟨Wb,0,none⟩)),.pointer (some ⟨Wb,26,none⟩),.pointer (some ⟨Wb,29,none⟩),.agg (six x.used),.pointer (some ⟨qb,3,none⟩),.agg (six x.used),.bool true,.bool true,.bool true,(.pointer (some ⟨Wb,0,none⟩)),(.pointer (some ⟨Wb,0,none⟩)),.pointer (some ⟨Wb,26,none⟩),.pointer (some ⟨Wb,27,none⟩),.int .i64 x.terms,.pointer (some ⟨qb,1,none⟩),.int .i64 x.terms,.bool true,.bool true,.bool true,(.pointer (some ⟨Wb,0,none⟩)),(.pointer (some ⟨Wb,0,none⟩)),.pointer (some ⟨Wb,26,none⟩),.pointer (some ⟨Wb,26,none⟩),.slice (some ⟨g2,o2,none⟩) 1 gc7,.pointer (some ⟨g2,o2,none⟩),.pointer (some ⟨g2,o2+1,none⟩),.int .i64 ((nd:Int)+1),.pointer (some ⟨qb,0,none⟩),.slice (some ⟨g1,o1,none⟩) 1 gc,.pointer (some ⟨g1,o1,none⟩),.pointer (some ⟨g1,o1+1,none⟩),.int .i64 (nd:Int),.int .i64 ((nd:Int)+1),.bool true,.bool true,.bool true].getD jz undef)
     (fun p l wx=>Below w7.heap.size w7 wx)
     kZ kZ pZ () ?_ ?_ ?_
    ·exact(Below.refl _ _).drew
    ·intro i o ho p l wx hR hl he hcl K hK
     rcases i with _|_|_|_|_|_|_|_|_|_|_|_|_|_|_|_|_|_|_|_|_|_|_|_|_|_|_|_|_|_|_|_|_|_|_|_|_|_|_|_|_|_|_|_|_|_|_|_|_|_|i
     any_goals first | (cases ho;go_simp;exact hK () wx (fun _ _=>rfl) hR;done) | fail
     ·cases ho
      go_simp
      refine(qC wx (HT7.out.below hR)).mono ?_;rintro e w' ⟨rfl,hb⟩
      exact hK () w' (fun _ _=>rfl) (ah hR hb)
     ·cases ho
      have q:=aC C28.out hR
      go_simp
      exact hK () wx (fun _ _=>rfl) hR
     ·cases ho
      have q:=aC D2.out hR
      go_simp
      exact hK () wx (fun _ _=>rfl) hR
     ·cases ho
      have q:=HV1.out
      go_simp
      exact hK () wx (fun _ _=>rfl) hR
     ·cases ho
      refine QY rfl 40 (.tmp 107) rfl Wb 29 rfl 51 (aY (ak (dd:Int) t ss bk rm kf bf) (af B S (n:Int) (m:Int) (ln:Int)) (.pointer (some ⟨mb,0,none⟩)) (aQ (.slice (some ⟨g2,o2,none⟩) 1 gc7) x') (aK (.slice (some ⟨gz7,0,none⟩) n n) (.slice og8 1 gc8) x')) (six x.used) (0,0) _ (aj HX7.out hR) P29.out Tryz.underlying40 rfl (ag _) ?_
      exact hK () wx (fun _ _=>rfl) hR
     ·cases ho
      refine QY rfl 40 (.tmp 109) rfl qb 3 rfl 46 (aQ (.slice (some ⟨g1,o1,none⟩) 1 gc) x) (six x.used) (0,0) _ (aj HQ7.out hR) (qx _ _) Tryz.underlying40 rfl (ag _) ?_
      exact hK () wx (fun _ _=>rfl) hR
     ·cases ho
      have e6:=fun w=>QB x.used 9998 w
      go_simp
      exact hK () wx (fun _ _=>rfl) hR
     ·cases ho
      have q:=aC C27.out hR
      go_simp
      exact hK () wx (fun _ _=>rfl) hR
     ·cases ho
      have q:=aC D1.out hR
      go_simp
      exact hK () wx (fun _ _=>rfl) hR
     ·cases ho
      have q:=aC C26.out hR
      go_simp
      exact hK () wx (fun _ _=>rfl) hR
     ·cases ho
      have q:=aC N2.out hR
      go_simp
      exact hK () wx (fun _ _=>rfl) hR
     ·cases ho
      have q:=aC D0.out hR
      go_simp
      exact hK () wx (fun _ _=>rfl) hR
     ·cases ho
      have q:=aC N1.out hR
      go_simp
      exact hK () wx (fun _ _=>rfl) hR
     ·cases ho
      have q:=HV2.out
      go_simp
      exact hK () wx (fun _ _=>rfl) hR
     ·simp at ho
    ·intro p l wx hl hR
     have HB9:=hJ (ah HLow7.out hR)
     clear hR hl
     go_wp2_with fail
     go_ret
     exact⟨rfl,HB9.out⟩
end Go.Proofs.YtlfndoclbebdaaaGreatDoor
