/-
 What stage 12 rests on.
-/
import Derived.Test.YtafaohnhlgcnpaaGreatDoorWrAlH1
import Derived.Maps.RangeWalk
set_option maxRecDepth 100000
set_option maxHeartbeats 16000000
namespace Go.Proofs.YtafaohnhlgcnpaaGreatDoor
open Go.RowKit Go.Maps
theorem dR.EJ {w:World} {base:Nat} {v:Value} {l:List TR} (h:dR w base v l) (h0:0<l.length):∃ g cap,v=.slice (some ⟨g,0,none⟩) l.length cap/\base<=g:=by
 obtain⟨_,⟨_,h2⟩ | ⟨g,cap,cur,k1,k2,_⟩⟩:=h
 ·omega
 ·exact⟨g,cap,k1,k2⟩
theorem yz {w w':World} {b:Option Nat} (hg:w.grownBy w' b):bB (fun k=>b=some k) w w':=⟨hg.os,hg.tape,hg.output,hg.size,fun i hi hs=>hg.block i hi fun e=>hs e.symm⟩
theorem dR.kept {w w':World} {base:Nat} {v:Value} {l:List TR} (h:dR w base v l) {T:Nat->Prop} (hm:bB T w w') (hT:∀ g cur,w.heap[g]?=some (.cells cur 223 (0,0))->¬ T g):dR w' base v l:=by
 obtain⟨h0,⟨h1,h2⟩ | ⟨g,cap,cur,k1,k2,k3,k4⟩⟩:=h
 ·exact⟨h0,.inl ⟨h1,h2⟩⟩
 ·exact⟨h0,.inr ⟨g,cap,cur,k1,k2,(hm.block g (lt_of_heap k3) (hT g cur k3)).trans k3,k4⟩⟩
theorem Gy {W w:World} {gw N:Nat} {l:List Tk} (hN:l.length=N) (hN2:N<=1000) (h:w.rowIs gw 3 N (fun j=>.int .i64 (kH l N j))) (hb:W.heap.size<=gw):fP 3 .i64 w W.heap.size (.slice (some ⟨gw,0,none⟩) N N) (l.map fun x=>(bg l).1.idxOf (aM x)):=by
 refine wJ (n:=N) _ hb (by rw[List.length_map];exact hN) mZ h fun j x hj=>?_;rw[List.getElem?_map] at hj;obtain⟨y,hy,rfl⟩:=Option.map_eq_some_iff.1 hj;have hlt:=(eZ.1 hy).1;unfold kH;rw[if_pos oZ,List.take_of_length_le oZ,List.getD_eq_getElem?_getD,hy];rfl
theorem DT (w:World) (oa:Option Addr) (c N:Nat) (l:List Tk) (en:l.length=N) (hN:N<=1000) (hl:lT w oa l) (hf:∀ x∈l,0<=x.1/\x.1<=255/\x.2.1.size<=1000) :
  Calls Tryz.prog 85 #[.slice oa N c] w fun e w'=>∃ tv wv,e=.returned (.tuple #[tv,wv])/\dR w' w.heap.size tv ((bg l).1.map (qM l))/\fP 3 .i64 w' w.heap.size wv (l.map fun x=>(bg l).1.idxOf (aM x))/\Below w.heap.size w w':=by
 have HT:=hJ hl;have HFl:=hJ hf;have HEn:=hJ en;have hmk:=FO N oZ;have hmm:=@run_makeMap Tryz.prog;obtain⟨i0,hi0,hz0,hz1,hz2⟩:=info_parts Kc;have HI:=hJ (And.intro hi0 (And.intro hz0 (And.intro hz1 hz2)));clear hl hf en hi0 hz0 hz1 hz2;go_enter Tryz.func85,Tryz.ntmps85
 go_upto_region 4 with fail
 obtain⟨w1,hw1⟩:∃ w1,w1=(w.alloc (.cells (madeCells #[.int .i64 0] N) 3)).alloc (.map #[] 0):=⟨_,rfl⟩;rw[show (w.alloc (.cells (madeCells #[.int .i64 0] N) 3)).alloc (.map #[] 0)=w1 from hw1.symm];obtain⟨gw,hgw⟩:∃ gw,gw=w.heap.size:=⟨_,rfl⟩
 have ha:Jr w gw (gw+1) N l 0 (.slice none 0 0) (.map []) w1:=by
  have hm:=World.ownsMap_made (w.alloc (.cells (madeCells #[.int .i64 0] N) 3)) Tryz.prog 9 (plainElem (H:=Unit) Tryz.prog 3);have hr:=World.rowIs_made w (.int .i64 0) N 3;refine⟨?_,?_,?_,GZ,by rw[hw1];exact dh,oZ,oZ⟩
  ·exact⟨rfl,.inl ⟨rfl,rfl⟩⟩
  ·rw[hw1,hgw];refine(World.rowIs.of_block hr (Below.heap_alloc _ _ _ sZ)).congr fun j _=>?_;unfold kH;rw[if_neg oZ]
  ·rw[hw1,hgw];simpa [j3] using hm
 rw[show (Value.slice (some ⟨w.heap.size,0,none⟩) N N)=.slice (some ⟨gw,0,none⟩) N N by rw[hgw]];rw[show (Value.map (some (w.heap.size+1)))=.map (some (gw+1)) by rw[hgw]];obtain⟨m,hm⟩:∃ m,m=gw+1:=⟨_,rfl⟩;rw[<- hm] at ha ⊢;have HA:=hJ ha;have HNE:=hJ (show gw≠m by omega);clear ha hw1 hgw hm hmk hmm;go_wp2_with fail
 go_loopg [4,18] N (fun gq tv iv wr=>∃ (i:Nat) (D:DataW Unit),i+gq=N/\iv=.int .i64 (i:Int)/\Jr w gw m N l i tv D wr)
 case atStart=>exact⟨0,.map [],oZ,rfl,HA.out⟩
 case round =>
  clear HA;obtain⟨i,D,hig,rfl,hat⟩:=hrel;cases gk with
  | zero =>
   obtain rfl:N=i:=oZ;have HA:=hJ hat;clear hat hig;go_wp2_with fail
   go_ret2
   refine⟨_,_,rfl,?_,Gy HEn.out hN HA.out.which HA.out.ord.1,HA.out.low⟩;have:=HA.out.tr;rw[List.take_of_length_le (by rw[HEn.out];omega)] at this;exact this
  | succ gq =>
   have hi:i<N:=oZ;have hi1:(i:Int)<(N:Int):=oZ;have hi0:(0:Int)<=(i:Int):=oZ;obtain⟨x,hx⟩:∃ x,l[i]?=some x:=⟨_,gZ (by rw[HEn.out];exact hi)⟩;obtain⟨gb,ob,rfl,t1,t2,t3⟩:=HT.out.below hat.low i x hx;have hxf:=HFl.out x (List.mem_of_getElem? hx);have HKey:=hJ (fun w=>Gr w x.1 x.2.1 hxf.1 hxf.2.1 oZ);have HX:=hJ hx;obtain⟨k,hk⟩:∃ k,k=ay (aM x):=⟨_,rfl⟩;have hk8:=iE hxf.1 hxf.2.1;have hkb:ax k=aM x:=by rw[hk];exact aX _ hk8
   have hks:k.size<=1001:=by
    have e:=congrArg List.length hkb;rw[aD] at e;unfold aM at e;rw[List.length_cons,aD] at e;omega
   have HKo:=hJ (L6 (x:=k) mZ);have HKb:=hJ hkb;have HKt:=hJ (show ay (aM x)=k from hk.symm);rw[show ay (x.1.toNat :: ax x.2.1)=k from hk.symm] at HKey;have HA:=hJ hat;clear hx hk hk8 hkb hks hxf hat;go_upto_region 7 with fail
   have hb1:=aj (w:=wr) (A:=.cells #[.int .u8 x.1,.string x.2.1,.int .i64 x.2.2] 195);have HA1:=hJ (HA.out.below hb1);have HTk:=hJ (nZ wr (.cells #[.int .u8 x.1,.string x.2.1,.int .i64 x.2.2] 195));generalize wr.alloc (.cells #[.int .u8 x.1,.string x.2.1,.int .i64 x.2.2] 195)=wa at HA1 HTk ⊢;obtain⟨qb,hqb⟩:∃ qb,qb=wr.heap.size:=⟨_,rfl⟩;rw[<- hqb] at HTk ⊢;clear hb1 hqb t1 t2 t3 HA;have t1:wa.cell? ⟨qb,0,none⟩=some (.int .u8 x.1):=aa HTk.out 0;have t2:wa.cell? ⟨qb,1,none⟩=some (.string x.2.1):=aa HTk.out 1;go_wp2_with fail
   refine(HKey.out _).mono ?_;rintro e w2 ⟨rfl,hb2⟩;have HA2:=hJ (HA1.out.below hb2);clear hb2 t1 t2 HTk HA1 HKey;have HMap:=hJ HA2.out.map;have HRel:=hJ (HA2.out.rel.2 k);rw[HKb.out] at HRel;by_cases hmem:aM x∈(bg (l.take i)).1
   ·obtain⟨hh,hat⟩:=HRel.out.1 hmem;obtain⟨e1,e2⟩:=ry HX.out hmem;obtain⟨p,hp⟩:∃ p,p=(bg (l.take i)).1.idxOf (aM x):=⟨_,rfl⟩;have hplt:p<((bg (l.take i)).1.map (qM (l.take i))).length:=by rw[List.length_map,hp];exact List.idxOf_lt_length_of_mem hmem
    have hpi:((bg (l.take i)).1.map (qM (l.take i)))[p]?=some (qM (l.take i) (aM x)):=by
     rw[List.getElem?_map,hp,gZ (List.idxOf_lt_length_of_mem hmem),List.getElem_idxOf];rfl
    obtain⟨gt,cap,hv,hgb⟩:=HA2.out.tr.EJ oZ;obtain⟨q,hq⟩:∃ q,q=((bg (l.take i)).1.map (qM (l.take i))).length:=⟨_,rfl⟩;rw[<- hq] at hv hplt;subst hv;have hcs:=HA2.out.tr.cells hpi
    have HSame:=hJ (show ∀ c:Int,D.atKey (oL k) (.lit (.int .i64 0))=.lit (.int .i64 c)->c=(p:Int) from fun c hc=>by
     rw[hat,<- hp] at hc;injection hc with hc
     injection hc with _ hc
     exact hc.symm)
    have HHas:=hJ hh;have HCs:=hJ hcs;have HEq:=hJ (And.intro e1 (And.intro e2 (And.intro hp (And.intro hpi hq))))
    have hcnt:dY (l.take i) (aM x)<=1000:=by
     have h1:dY (l.take i) (aM x)<=((l.take i).map aM).length:=List.count_le_length;rw[List.length_map,List.length_take] at h1;omega
    obtain⟨cn,hcn⟩:∃ cn,cn=dY (l.take i) (aM x):=⟨_,rfl⟩;have c1:w2.cell? ⟨gt,p*4+1,none⟩=some (.int .i64 (cn:Int)):=by rw[hcn];exact hcs.2.1
    have f1:=hcs.2.2.2.2.1 (p*4+1);have p0:(0:Int)<=(p:Int):=oZ;have p1:(p:Int)<(q:Int):=oZ;have s1:IntKind.i64.wrap ((cn:Int)+1)=(cn:Int)+1:=iZ _ oZ;have HCn:=hJ hcn;have HTr:=hJ HA2.out.tr
    have hgne:gt≠gw:=by
     rintro rfl;obtain⟨cur,hcur⟩:=HTr.out.heap;obtain⟨cur2,hcur2,_⟩:=HA2.out.which;rw[hcur] at hcur2;injection hcur2 with h1
     injection h1 with _ h2
     exact absurd h2 dZ
    have hgnm:gt≠m:=by
     rintro rfl;obtain⟨cur,hcur⟩:=HTr.out.heap;obtain⟨es,clk,hm2⟩:=HA2.out.map.map;rw[hcur] at hm2;cases hm2
    clear hh hat e1 e2 hp hpi hplt hcs hq hcn hcnt HRel
    go_upto_region 14 with (first
     | (at_lookup;refine wpList_lookup_own_ok_int _ rfl _ _ 219 rfl 9 3 .i64 LQ Tryz.underlying219 Tryz.underlying3 (KT _) m i D rfl HMap.out _ _ rfl HKo.out ?_;intro c hat hwc;have hcx:=HSame.out c hat;rw[HHas.out];clear hat hwc;subst hcx)
     | fail)
    have hst:dR (w2.setCell ⟨gt,p*4+1,none⟩ (.int .i64 ((cn:Int)+1))) w.heap.size (.slice (some ⟨gt,0,none⟩) q cap) ((bg (l.take (i+1))).1.map (qM (l.take (i+1)))):=by
     obtain⟨e1,e2,hp,hpi,hq⟩:=HEq.out;have h:=HTr.out.Jp hpi (cn+1);rw[show ((cn+1:Nat):Int)=(cn:Int)+1 by omega] at h;rw[<- e2];have e3:((qM (l.take i) (aM x)).1,cn+1,(qM (l.take i) (aM x)).2.2.1,(qM (l.take i) (aM x)).2.2.2)=((aM x,dY (l.take i) (aM x)+1,0,0):TR):=by rw[HCn.out];rfl
     rw[e3,hp] at h;rw[hp];exact h
    have hwh:=World.rowIs.of_block HA2.out.which (Below.heap_setCell w2 ⟨gt,p*4+1,none⟩ (.int .i64 ((cn:Int)+1)) gw (Ne.symm hgne));have hmp:=HA2.out.map.block (Below.heap_setCell w2 ⟨gt,p*4+1,none⟩ (.int .i64 ((cn:Int)+1)) m (Ne.symm hgnm));have hlw:=dD HA2.out.low hgb (p*4+1) (.int .i64 ((cn:Int)+1));generalize w2.setCell ⟨gt,p*4+1,none⟩ (.int .i64 ((cn:Int)+1))=w3 at hst hwh hmp hlw ⊢;have hwi:w3.cell? ⟨gw,i,none⟩=some (.int .i64 (kH l i i)):=World.rowIs.cell hwh hi;have hfi:=World.rowIs.frozen hwh i;have H3:=hJ (And.intro hst (And.intro hwh (And.intro hmp hlw)));clear hst hwh hmp hlw c1 f1;go_wp2_with fail
    go_roundg gq
    case measure=>omega
    case rel =>
     obtain⟨hst,hwh,hmp,hlw⟩:=H3.out;obtain⟨e1,e2,hp,hpi,hq⟩:=HEq.out;obtain⟨cur,hcur,_⟩:=hwh;refine⟨i+1,D,oZ,by go_num,⟨hst.kept (T:=fun j=>j=gw) (bB.setCell (S:=fun j=>j=gw) (bB.refl _ _) (.inr rfl) _) (fun g2 cur2 hg2 e=>?_),?_,?_,?_,dD hlw HA2.out.ord.1 i _,HA2.out.ord⟩⟩
     ·subst e;rw[hcur] at hg2;injection hg2 with h1
      injection h1 with _ h2
      exact absurd h2 dZ
     ·refine(World.rowIs.set H3.out.2.1 i _).congr fun j _=>?_;rw[vB HX.out j,e1,<- hp];split <;> rfl
     ·exact World.ownsMap.mono (hmp.block (Below.heap_setCell w3 ⟨gw,i,none⟩ (.int .i64 (p:Int)) m (Ne.symm HNE.out))) oZ
     ·rw[e1];exact HA2.out.rel
   ·have hh:=HRel.out.2 hmem;obtain⟨e1,e2⟩:=wI HX.out hmem;obtain⟨q,hq⟩:∃ q,q=((bg (l.take i)).1.map (qM (l.take i))).length:=⟨_,rfl⟩
    have hq1:q<=i:=by
     have:=lV (l.take i);rw[hq,List.length_map];rw[List.length_take] at this;omega
    have hrel2:=HA2.out.rel.put (x:=k) (by rw[HKb.out];exact hmem);rw[HKb.out,<- e1,show (bg (l.take i)).1.length=q by rw[hq,List.length_map]] at hrel2;obtain⟨ot,ct,hv⟩:=dP HA2.out.tr q (by rw[hq]);subst hv;have HTr:=hJ HA2.out.tr;have HHas:=hJ hh;have HEq:=hJ (And.intro e1 (And.intro e2 hq));have HRel2:=hJ hrel2;have HWf:=hJ (wf_i64 (x:=(q:Int)) oZ oZ);have HRel0:=HRel;clear hh e1 e2 hq hrel2 HRel hmem
    go_upto_region 12 with (first
     | (at_lookup;refine wpList_lookup_own_ok_int _ rfl _ _ 219 rfl 9 3 .i64 LQ Tryz.underlying219 Tryz.underlying3 (KT _) m i D rfl HMap.out _ _ rfl HKo.out ?_;intro c hat hwc;rw[HHas.out];clear hat hwc)
     | (at_mapUpdate;refine wpList_mapUpdate_own _ rfl _ _ _ 219 rfl 9 3 LQ Tryz.underlying219 _ m i D rfl HMap.out mZ _ _ _ rfl rfl HKo.out _ [] (plainElem_int Tryz.underlying3 HWf.out) ?_;intro w9 hown9 hg9;go_frame)
     | fail)
    have hm9:=yz hg9;have hlm:m<w2.heap.size:=HA2.out.map.lt
    have h9:dR w9 w.heap.size (.slice ot q ct) ((bg (l.take i)).1.map (qM (l.take i)))/\w9.rowIs gw 3 N (fun j=>.int .i64 (kH l i j))/\j3 w9 m (i+1) (D.put (oL k) (.lit (.int .i64 (q:Int))))/\Below w.heap.size w w9:=by
     obtain⟨es,clk,hmm⟩:=HA2.out.map.map;refine⟨HTr.out.kept hm9 (fun g2 cur2 hg2 e=>?_),World.rowIs.of_block HA2.out.which (hm9.block gw (World.rowIs.lt HA2.out.which) (fun e=>?_)),hown9,HA2.out.low.grown hg9 HA2.out.low.size (fun k2 hk2=>?_)⟩
     ·cases e;rw[hmm] at hg2;cases hg2
     ·injection e with e
      exact HNE.out e.symm
     ·injection hk2 with hk2
      rw[<- hk2];exact HA2.out.ord.2
    have H9:=hJ h9;clear hown9 hg9 hm9 hlm h9 HMap;obtain⟨ts,hts⟩:∃ ts,ts=(bg (l.take i)).1.map (qM (l.take i)):=⟨_,rfl⟩;have hlen:ts.length=q:=by rw[hts];exact HEq.out.2.2.symm
    rw[<- hts] at H9;have hb:=aj (w:=w9) (A:=.cells #[.string k,.int .i64 0,.int .i64 0,.int .i64 0] 223)
    have HTa:=hJ (show (w9.alloc (.cells #[.string k,.int .i64 0,.int .i64 0,.int .i64 0] 223)).ownsRow w.heap.size 223 4 (.slice ot q ct) q (jL ts) by
     have h:World.ownsRow _ _ _ _ _ _ _:=ak H9.out.1 hb;rw[hlen] at h;exact h)
    have HBa:=hJ (ag H9.out.2.2.2 hb);have hwa:=World.rowIs.of_block H9.out.2.1 (hb.block gw (World.rowIs.lt H9.out.2.1));have hma:=H9.out.2.2.1.block (hb.block m H9.out.2.2.1.lt)
    have HFin:=hJ (show ∀ (v':Value) (w8:World),w8.ownsRow w.heap.size 223 4 v' (q+1) (jL ts++[.string k,.int .i64 0,.int .i64 0,.int .i64 0])->(w9.alloc (.cells #[.string k,.int .i64 0,.int .i64 0,.int .i64 0] 223)).grownBy w8 (Value.slice ot q ct).ownBlock->dR w8 w.heap.size v' (ts++[(aM x,0,0,0)])/\w8.rowIs gw 3 N (fun j=>.int .i64 (kH l i j))/\j3 w8 m (i+1) (D.put (oL k) (.lit (.int .i64 (q:Int))))/\Below w.heap.size w w8 from fun v' w8 ho hg=>by
     have hm8:=yz hg
     have own:∀ b,(Value.slice ot q ct).ownBlock=some b->∃ cur,(w9.alloc (.cells #[.string k,.int .i64 0,.int .i64 0,.int .i64 0] 223)).heap[b]?=some (.cells cur 223 (0,0)):=by
      intro b hbo;obtain⟨_,⟨k1,_⟩ | ⟨g,cap,cur,k1,_,k3,_⟩⟩:=HTa.out
      ·rw[k1] at hbo;cases hbo
      ·rw[k1] at hbo;cases hbo;exact⟨cur,k3⟩
     refine⟨?_,World.rowIs.of_block hwa (hm8.block gw (World.rowIs.lt hwa) fun e=>?_),hma.block (hm8.block m hma.lt fun e=>?_),HBa.out.grown hg HBa.out.size (fun k hk=>(World.ownsRow.lt HTa.out k hk).1)⟩
     ·unfold dR;rw[List.length_append,hlen,BK,show jL [((aM x,0,0,0):TR)]=[.string k,.int .i64 0,.int .i64 0,.int .i64 0] by rw[<- HKt.out];rfl];exact ho
     ·obtain⟨cur,hcur⟩:=own gw e;obtain⟨cur2,hcur2,_⟩:=hwa;rw[hcur] at hcur2;injection hcur2 with h1
      injection h1 with _ h2
      exact absurd h2 dZ
     ·obtain⟨cur,hcur⟩:=own m e;obtain⟨es,clk,hm2⟩:=hma.map;rw[hcur] at hm2;cases hm2)
    have HTs:=hJ (And.intro hts hlen);clear hb hwa hma hts hlen H9;go_upto_region 13 with (at_builtin;refine wpList_append_own _ rfl (.tmp 41) (.tmp 44) 174 rfl w.heap.size 223 i0 _ 4 40 Tryz.underlying174 HI.out.1 HI.out.2.1 HI.out.2.2.1 HI.out.2.2.2 rfl dZ (.slice ot q ct) q (jL ts) rfl HTa.out ⟨w9.heap.size,0,none⟩ 1 1 [.string k,.int .i64 0,.int .i64 0,.int .i64 0] rfl rfl DC vZ mZ oZ HBa.out.size ?_;intro v' w8 ho2 hg2 _;have HR8:=hJ (HFin.out v' w8 ho2 hg2);clear ho2 hg2)
    obtain⟨gt,cap,hv,hgb⟩:=HR8.out.1.EJ (by rw[List.length_append];simp);rw[List.length_append,HTs.out.2] at hv;have hv:v'=.slice (some ⟨gt,0,none⟩) (q+1) cap:=hv;subst hv;have hqi:(ts++[((aM x,0,0,0):TR)])[q]?=some (aM x,0,0,0):=by rw[List.getElem?_append_right (by rw[HTs.out.2];exact Nat.le_refl _),HTs.out.2,Nat.sub_self];rfl
    have hcs:=HR8.out.1.cells hqi;have c1:w8.cell? ⟨gt,q*4+1,none⟩=some (.int .i64 0):=hcs.2.1;have f1:=hcs.2.2.2.2.1 (q*4+1);have p0:(0:Int)<=(q:Int):=oZ;have p1:(q:Int)<((q+1:Nat):Int):=oZ;have p2:(q:Int)<(q:Int)+1:=oZ
    have hgne:gt≠gw:=by
     rintro rfl;obtain⟨cur,hcur⟩:=HR8.out.1.heap;obtain⟨cur2,hcur2,_⟩:=HR8.out.2.1;rw[hcur] at hcur2;injection hcur2 with h1
     injection h1 with _ h2
     exact absurd h2 dZ
    have hgnm:gt≠m:=by
     rintro rfl;obtain⟨cur,hcur⟩:=HR8.out.1.heap;obtain⟨es,clk,hm2⟩:=HR8.out.2.2.1.map;rw[hcur] at hm2;cases hm2
    have HQi:=hJ hqi;clear hqi hcs HFin HTa HBa;go_upto_region 14 with fail
    have hst:dR (w8.setCell ⟨gt,q*4+1,none⟩ (.int .i64 1)) w.heap.size (.slice (some ⟨gt,0,none⟩) (q+1) cap) ((bg (l.take (i+1))).1.map (qM (l.take (i+1)))):=by
     have h:=HR8.out.1.Jp HQi.out 1;rw[<- HEq.out.2.1,<- HTs.out.1]
     have e3:(ts++[((aM x,0,0,0):TR)]).set q (aM x,1,0,0)=ts++[((aM x,1,0,0):TR)]:=by
      rw[List.set_append_right _ _ (by rw[HTs.out.2];exact Nat.le_refl _),HTs.out.2,Nat.sub_self];rfl
     rw[<- e3];exact h
    have hwh:=World.rowIs.of_block HR8.out.2.1 (Below.heap_setCell w8 ⟨gt,q*4+1,none⟩ (.int .i64 1) gw (Ne.symm hgne));have hmp:=HR8.out.2.2.1.block (Below.heap_setCell w8 ⟨gt,q*4+1,none⟩ (.int .i64 1) m (Ne.symm hgnm));have hlw:=dD HR8.out.2.2.2 hgb (q*4+1) (.int .i64 1);generalize w8.setCell ⟨gt,q*4+1,none⟩ (.int .i64 1)=w3 at hst hwh hmp hlw ⊢;have hwi:w3.cell? ⟨gw,i,none⟩=some (.int .i64 (kH l i i)):=World.rowIs.cell hwh hi;have hfi:=World.rowIs.frozen hwh i;have H3:=hJ (And.intro hst (And.intro hwh (And.intro hmp hlw)));clear hst hwh hmp hlw c1 f1;go_wp2_with fail
    go_roundg gq
    case measure=>omega
    case rel =>
     obtain⟨hst,hwh,hmp,hlw⟩:=H3.out;obtain⟨e1,e2,hq⟩:=HEq.out;obtain⟨cur,hcur,_⟩:=hwh;refine⟨i+1,_,oZ,by go_num,⟨hst.kept (T:=fun j=>j=gw) (bB.setCell (S:=fun j=>j=gw) (bB.refl _ _) (.inr rfl) _) (fun g2 cur2 hg2 e=>?_),?_,?_,HRel2.out,dD hlw HA2.out.ord.1 i _,HA2.out.ord⟩⟩
     ·subst e;rw[hcur] at hg2;injection hg2 with h1
      injection h1 with _ h2
      exact absurd h2 dZ
     ·refine(World.rowIs.set H3.out.2.1 i _).congr fun j _=>?_
      have hidx:(bg (l.take (i+1))).1.idxOf (aM x)=q:=by
       have hm0:¬ aM x∈(bg (l.take i)).1:=fun hm=>by
        have:=HRel0.out.1 hm;rw[HHas.out] at this;exact absurd this.1 dZ
       rw[e1,xO hm0,hq,List.length_map];simp
      rw[vB HX.out j,hidx];split <;> rfl
     ·exact hmp.block (Below.heap_setCell w3 ⟨gw,i,none⟩ (.int .i64 (q:Int)) m (Ne.symm HNE.out))
end Go.Proofs.YtafaohnhlgcnpaaGreatDoor
