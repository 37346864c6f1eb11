/-
 What stage 12 rests on.
-/
import Derived.Test.YtafaohnhlgcnpaaGreatDoorWrAlB3
import Derived.Test.YtafaohnhlgcnpaaGreatDoorWrAlB2
set_option maxRecDepth 100000
set_option maxHeartbeats 16000000
namespace Go.Proofs.YtafaohnhlgcnpaaGreatDoor
open Go.ChangeShapes Go.WideShapes Go.ChangeAt Go.RowKit Go.Deep
abbrev J5:=Bool×Int×List ByteArray
def Mf (w:World) (p:Value) (F:List ByteArray):Prop:=∃ pa c,p=.slice pa F.length c/\fU w pa F
theorem Mf.below {w w':World} {p:Value} {F:List ByteArray} (h:Mf w p F) (hb:Below w.heap.size w w'):Mf w' p F:=by
 obtain⟨pa,c,h1,h2⟩:=h;exact⟨pa,c,h1,h2.below hb⟩
def jm (w:World) (oa:Option Addr) (l:List J5):Prop:=∀ (j:Nat) (x:J5),l[j]?=some x->∃ g o:Nat,oa=some ⟨g,o,none⟩/\w.cell? ⟨g,o+j*3,none⟩=some (.bool x.1)/\w.cell? ⟨g,o+j*3+1,none⟩=some (.int .u32 x.2.1)/\∃ p,w.cell? ⟨g,o+j*3+2,none⟩=some p/\Mf w p x.2.2
theorem jm.below {w w':World} {oa:Option Addr} {l:List J5} (h:jm w oa l) (hb:Below w.heap.size w w'):jm w' oa l:=by
 intro j x hj;obtain⟨g,o,h0,h1,h2,p,h3,h4⟩:=h j x hj;exact⟨g,o,h0,az h1 hb,az h2 hb,p,az h3 hb,h4.below hb⟩
theorem jm.nil (w:World) (oa:Option Addr):jm w oa []:=by intro j x hj;simp at hj
theorem jm.cut {w:World} {oa:Option Addr} {l:List J5} (h:jm w oa l) (n:Nat):jm w oa (l.take n):=by
 intro j e hj;rw[List.getElem?_take] at hj;split at hj
 ·exact h j e hj
 ·cases hj
def y7 (x:J5):Prop:=(0<=x.2.1/\x.2.1<=4294967295)/\x.2.2.length<=reachBytes/\∀ s∈x.2.2,s.size<=reachBytes
theorem zG {H:Type} {enc:TypeId×Value->H} {W:World} {fuel:Nat} {c:Value} {x:DataW H×List MemPlace} (hf:DataW.trod enc Tryz.prog W 0 (fun _=>true) true fuel 33 [c]=some x) (hs:∀ n∈x.1.weights Tryz.prog 33,n<=reachBytes) :
  ∃ F,Mf W c F/\F.length<=reachBytes/\∀ x∈F,x.size<=reachBytes:=by
 rcases DataW.trod_slice Tryz.underlying33 hf with ⟨hcs,_⟩ | ⟨a',len,cap,elems,rest,m,rfl,hcs,hx,hb,hl,hm,hlen,hel,_,_⟩
 ·simp only[List.cons.injEq,and_true] at hcs;subst hcs;exact⟨[],⟨none,0,rfl,fun j r hj=>by simp at hj⟩,sZ,sZ⟩
 ·simp only[List.cons.injEq,and_true] at hcs;subst hcs;have hc1:Tryz.prog.cellsOf 9=1:=kZ;have hd:x.1=.slice (elems.map (·.1)) (rest.map (·.1)):=congrArg Prod.fst hx;have hu:Tryz.prog.underlying 33=some (.slice 9):=Tryz.underlying33;have h16:Tryz.prog.bytesOf 9=16:=kZ
  have hroom:len<=reachBytes:=by
   have:=hs ((elems.length+rest.length)*16) (by
    rw[hd];unfold DataW.weights;rw[hu];refine List.mem_cons.2 (.inl ?_);rw[h16];simp)
   omega
  have each:∀ i,i<len->∃ s:ByteArray,W.cell? (a'.add i)=some (.string s)/\s.size<=reachBytes:=by
   intro i hi;have h5:=hel i hi;rw[gZ oZ,hc1,Nat.mul_one] at h5;obtain⟨cs2,hc2,h6⟩:=Option.bind_eq_some_iff.1 h5;obtain⟨_,hn,hcells⟩:=World.cells?_some hc2;obtain⟨s,rfl,he,_⟩:=DataW.trod_string Tryz.underlying9 h6;have:=hcells 0 oZ;rw[Addr.add_add,Nat.add_zero] at this;refine⟨s,by simpa using this,hs s.size ?_⟩;rw[hd];unfold DataW.weights;rw[hu];refine List.mem_cons_of_mem _ (List.mem_append_left _ (kr (i:=i) (d:=.lit (.string s.data.toList)) ?_ _ ?_))
   ·rw[List.getElem?_map,gZ oZ,he];rfl
   ·simp[DataW.weights]
  let F:=(List.range len).pmap (fun i hi=>Classical.choose (each i hi)) (fun i hi=>List.mem_range.1 hi)
  have hFl:F.length=len:=by simp[F]
  have hget:∀ j x,F[j]?=some x->W.cell? (a'.add j)=some (.string x)/\x.size<=reachBytes:=by
   intro j x hj;obtain⟨hj1,hj2⟩:=eZ.1 hj;simp only[F,List.getElem_pmap,List.getElem_range] at hj2;subst hj2;exact Classical.choose_spec (each j oZ)
  refine⟨F,⟨some a',cap,by rw[hFl],fun j x hj=>?_⟩,oZ,fun x hx=>?_⟩
  ·have hc:=(hget j x hj).1
   obtain⟨g,o,he⟩:∃ g o,a'=⟨g,o,none⟩:=by
    obtain⟨s0,h0,_⟩:=each 0 (by have:=(eZ.1 hj).1;omega);rw[show a'.add 0=a' by simp[Addr.add]] at h0;exact CQ h0
   subst he;refine⟨g,o,rfl,?_⟩;rwa [Addr.add_lit] at hc
  ·obtain⟨j,hj⟩:=List.getElem?_of_mem hx;exact(hget j x hj).2
theorem DV:Tryz.prog.cellsOf 37=3:=kZ
theorem CX {H:Type} {enc:TypeId×Value->H} {W:World} {v:Value} {d:DataW H} {p:List MemPlace} {base:Nat}
  (hs:∀ n∈d.weights Tryz.prog 26,n<=reachBytes) (hv:Value.okWide Tryz.prog W .any base 26 v) (h:DataW.Trod enc Tryz.prog W 0 (fun _=>true) true 26 v d p) :
  ∃ ao l cap,v=.slice ao (List.length l) cap/\jm W ao l/\l.length<=cap/\cap<=maxLen/\(ao=none->cap=0)/\∀ e∈l,y7 e:=by
 obtain⟨a,len,cap,rfl⟩:=okWide_slice Tryz.underlying26 hv;obtain⟨fuel,hf⟩:=h;rcases open_slice Tryz.underlying26 hf with ⟨hcs,_⟩ | ⟨a',len',cap',m,n,D,Pl,hcs,_,hl,hm,hmm,hdd,hi⟩
 ·simp only[Value.cells,List.cons.injEq,and_true,Value.slice.injEq] at hcs;obtain⟨rfl,rfl,rfl⟩:=hcs;exact⟨none,[],0,rfl,jm.nil _ _,sZ,by simp[maxLen],fun _=>rfl,sZ⟩
 ·simp only[Value.cells,List.cons.injEq,and_true,Value.slice.injEq] at hcs;obtain⟨rfl,rfl,rfl⟩:=hcs;simp only[if_true] at hmm;subst hmm;rw[DV] at hi;have hus:Tryz.prog.underlying 26=some (.slice 37):=Tryz.underlying26;have hue:=Tryz.underlying37;have hud:=Tryz.underlying35
  obtain⟨E,hE⟩:=choose_lt (α:=J5) (n:=len) (p:=fun i x=>∃ b off,(some a':Option Addr)=some ⟨b,off,none⟩/\W.cell? ⟨b,off+i*3,none⟩=some (.bool x.1)/\W.cell? ⟨b,off+i*3+1,none⟩=some (.int .u32 x.2.1) /\
   (∃ q,W.cell? ⟨b,off+i*3+2,none⟩=some q/\Mf W q x.2.2)/\y7 x) (fun i him=>by
    obtain⟨cs,hc,ht⟩:=hi i oZ;obtain⟨ys,n',_,hDi,hlen,hyl,hg⟩:=DataW.trod_struct Tryz.underlying37 ht;obtain⟨_,hcl,hat⟩:=World.cells?_some hc;match cs,hcl with
    | [c0,c1,c2],_ =>
     have g0:=hg 0 _ rfl;have g1:=hg 1 _ rfl;match ys,hyl with
     | [y0,y1],_ =>
      obtain⟨b0,e0,_⟩:=DataW.trod_bool Tryz.underlying4 (show DataW.trod enc Tryz.prog W 0 (fun _=>true) true n' 4 [c0]=some y0 from g0);obtain⟨zs,n2,_,hDd,_,hzl,hg2⟩:=DataW.trod_struct Tryz.underlying35 (show DataW.trod enc Tryz.prog W 0 (fun _=>true) true n' 35 [c1,c2]=some y1 from g1);have k0g:=hg2 0 _ rfl;have k1g:=hg2 1 _ rfl;match zs,hzl with
      | [z0,z1],_ =>
       obtain⟨x0,e1,_,wf0⟩:=DataW.trod_int Tryz.underlying32 (show DataW.trod enc Tryz.prog W 0 (fun _=>true) true n2 32 [c1]=some z0 from k0g)
       obtain⟨F,hF1,hF2,hF3⟩:=zG (show DataW.trod enc Tryz.prog W 0 (fun _=>true) true n2 33 [c2]=some z1 from k1g) (fun k hk=>hs k (by
        rw[show d=_ from congrArg Prod.fst hdd];unfold DataW.weights;rw[hus];refine List.mem_cons_of_mem _ (List.mem_append_left _ (kr (i:=i) (d:=D i) (by rw[List.getElem?_map,List.getElem?_range him];rfl) _ ?_));rw[show D i=_ from congrArg Prod.fst hDi];unfold DataW.weights;rw[hue];refine DataW.weights_mem_each (j:=1) rfl rfl k ?_;show k∈y1.1.weights Tryz.prog 35;rw[show y1.1=_ from congrArg Prod.fst hDd];unfold DataW.weights;rw[hud];exact DataW.weights_mem_each (j:=1) rfl rfl k hk))
       simp only[List.cons.injEq,and_true] at e0 e1;subst e0 e1;have k0:=hat 0 oZ;have k1:=hat 1 oZ;have k2:=hat 2 oZ;simp only[List.getElem?_cons_zero,List.getElem?_cons_succ] at k0 k1 k2;obtain⟨b,off,sp⟩:=a'
       have hs1:sp=none:=by
        obtain⟨cs0,hc0,_⟩:=hi 0 oZ;obtain⟨_,hl0,hat0⟩:=World.cells?_some hc0;have h00:=hat0 0 oZ;rw[Nat.zero_mul,Addr.add_zero',Addr.add_zero',gZ oZ] at h00;exact plain_of_cell h00
       subst hs1;simp only[Addr.add_lit] at k0 k1 k2;exact⟨(b0,x0,F),b,off,rfl,by simpa using k0,k1,⟨_,k2,hF1⟩,⟨LG wf0,LX wf0⟩,hF2,hF3⟩)
  have hlen:((List.range len).map E).length=len:=sZ;refine⟨some a',(List.range len).map E,_,by rw[hlen],fun j e hj=>?_,oZ,oZ,(by intro e;cases e),fun e he=>?_⟩
  ·rw[List.getElem?_map] at hj;obtain⟨i,hi1,rfl⟩:=Option.map_eq_some_iff.1 hj;obtain⟨hi2,hi3⟩:=eZ.1 hi1;rw[List.getElem_range] at hi3;subst hi3;obtain⟨b,off,h1,h2,h3,⟨q,h4,h5⟩,_⟩:=hE j (by simpa using hi2);exact⟨b,off,h1,h2,h3,q,h4,h5⟩
  ·obtain⟨i,hi1,rfl⟩:=List.mem_map.1 he;obtain⟨_,_,_,_,_,_,h4⟩:=hE i (List.mem_range.1 hi1);exact h4
end Go.Proofs.YtafaohnhlgcnpaaGreatDoor
namespace Go.Proofs.YtafaohnhlgcnpaaGreatDoor
open Go.ChangeShapes Go.WideShapes Go.ChangeAt Go.RowKit Go.Deep
theorem FJ {cs:Array Value} (h:cs.size=10):∃ a b c d e f g i j k,cs=#[a,b,c,d,e,f,g,i,j,k]:=by
 obtain⟨l⟩:=cs;match l,h with
 | [a,b,c,d,e,f,g,i,j,k],_=>exact⟨a,b,c,d,e,f,g,i,j,k,rfl⟩
def MG (a b c d e f:Int) (k:Nat):Int:=if k=0 then a else if k=1 then b else if k=2 then c else if k=3 then d else if k=4 then e else f
theorem Gm {H:Type} {enc:TypeId×Value->H} {W:World} {v:Value} {x:DataW H} {p:List MemPlace} {base:Nat} (hv:Value.okWide Tryz.prog W .any base 25 v) (_h:DataW.Trod enc Tryz.prog W 0 (fun _=>true) true 25 v x p) :
  ∃ (d t:Int) (s:Nat->Int) (bk rm:Int) (kf bf:Nat),v=.agg (au d t s bk rm kf bf)/\(∀ k,k<4->-9223372036854775808<=s k):=by
 obtain⟨cs,rfl,hs,hc⟩:=FL kZ hv (ts:=[3,3,3,3,3,3,3,3,23,23]) kZ;rw[show Tryz.prog.cellsOf 25=10 by kernel_rfl] at hs;obtain⟨a,b,c,d,e,f,g,i,j,k,rfl⟩:=FJ hs;obtain⟨a,rfl,_⟩:=jK Tryz.underlying3 (hc 0 _ _ rfl rfl);obtain⟨b,rfl,_⟩:=jK Tryz.underlying3 (hc 1 _ _ rfl rfl);obtain⟨c,rfl,h2,_⟩:=jK Tryz.underlying3 (hc 2 _ _ rfl rfl);obtain⟨d,rfl,h3,_⟩:=jK Tryz.underlying3 (hc 3 _ _ rfl rfl);obtain⟨e,rfl,h4,_⟩:=jK Tryz.underlying3 (hc 4 _ _ rfl rfl);obtain⟨f,rfl,h5,_⟩:=jK Tryz.underlying3 (hc 5 _ _ rfl rfl);obtain⟨g,rfl,_⟩:=jK Tryz.underlying3 (hc 6 _ _ rfl rfl);obtain⟨i,rfl,_⟩:=jK Tryz.underlying3 (hc 7 _ _ rfl rfl);obtain⟨j,rfl⟩:=wP Tryz.underlying23 (hc 8 _ _ rfl rfl);obtain⟨k,rfl⟩:=wP Tryz.underlying23 (hc 9 _ _ rfl rfl);refine⟨a,b,MG c d e f 0 0,g,i,j,k,rfl,fun k hk=>?_⟩;have:k=0∨k=1∨k=2∨k=3:=oZ;rcases this with rfl | rfl | rfl | rfl
 ·exact h2
 ·exact h3
 ·exact h4
 ·exact h5
end Go.Proofs.YtafaohnhlgcnpaaGreatDoor
namespace Go.Proofs.YtafaohnhlgcnpaaGreatDoor
open Go.RowKit
theorem FP (w:World):(Go.sizeOf 37).run Tryz.prog w=.ok 3 w:=kZ
theorem uY:Tryz.prog.elem 26=37:=kZ
theorem AA:Tryz.prog.underlying 26=some (.slice (Tryz.prog.elem 26)):=by rw[uY];exact Tryz.underlying26
theorem zu {oa:Option Addr} {l:List J5} (n c b:Nat) (hbn:b<=n) (hc:n<=c) :
  ∃ ob d,(∀ w:World,(Instr.slice 26 (.slice oa n c) none (some (.int .i64 (b:Int))) none).run Tryz.prog w=.ok (.slice ob b d) w)/\b<=d/\∀ W,jm W oa l->jm W ob (l.take b):=by
 refine⟨if c=0 then oa else oa.map (·.add (0*3)),c-0,fun w=>?_,oZ,?_⟩
 ·rw[run_slice_h w 26 oa n c AA .i64 (b:Int) oZ oZ,uY,FP];have e2:((b:Int)).toNat=b:=oZ;simp[Result.andThen,sliced,e2]
 ·intro W h j e hj;obtain⟨g,o,rfl,h1⟩:=h.cut b j e hj;refine⟨g,o,?_,h1⟩;split
  ·rfl
  ·simp[Addr.add]
theorem G9 (W:World) (oa:Option Addr) (c N:Nat) (l:List J5) (en:l.length=N) (ha:jm W oa l) (hc:N<=c) (hm:c<=maxLen) (hs:∀ x∈l,y7 x) :
  Calls Tryz.prog 16 #[.slice oa N c] W fun e w'=>∃ ob k d,e=.returned (.slice ob k d)/\k<=N/\k<=d/\(∀ wr,jm wr oa l->jm wr ob (l.take k))/\Below W.heap.size W w':=by
 have hNm:(N:Int)<=9223372036854775807:=by unfold maxLen at hm;omega
 have HA:=hJ ha;have HN:=hJ en;have HS:=hJ hs;have HC:=hJ hc;clear ha en hs hm hc;go_enter Tryz.func16,Tryz.ntmps16
 go_wp2_with fail
 go_loopw [3,10] (fun nv iv wr=>∃ i n:Nat,i<=N/\iv=.int .i64 (i:Int)/\nv=.int .i64 (n:Int)/\n<=2500/\Below W.heap.size W wr) (fun _ iv _=>N-(intOf iv).toNat)
 case atStart=>exact⟨0,0,oZ,rfl,rfl,oZ,Below.refl _ _⟩
 case round =>
  obtain⟨i,n,hi,rfl,rfl,hn,hlow⟩:=hrel;have HW:=hJ hlow;clear hlow;by_cases hlt:i<N
  ·obtain⟨x,hx⟩:∃ x,l[i]?=some x:=⟨_,gZ (by rw[HN.out];exact hlt)⟩;obtain⟨⟨hd0,hd1⟩,hlen,hsz⟩:=HS.out x (List.mem_of_getElem? hx);obtain⟨ob,d,hsl,hdl,hrb⟩:=zu (oa:=oa) (l:=l) N c i oZ HC.out;obtain⟨g,o,hoa,c0,c1,p,c2,pa,pc,rfl,p4⟩:=HA.out i x hx;subst hoa;obtain⟨m,hm⟩:∃ m,x.2.2.length=m:=⟨_,rfl⟩;rw[hm] at c2 hlen;have c0:=az c0 HW.out;have c1:=az c1 HW.out;have c2:=az c2 HW.out;have hlt1:(i:Int)<(N:Int):=oZ;have hmb:m<=140737488355328:=by unfold reachBytes at hlen;omega
   have HSz:=hJ hsz;have HM:=hJ hm;have HRb:=hJ hrb;have HDl:=hJ hdl;have HT:=hJ p4;clear hx hm p4 hsz hrb hdl hlen hd0 hd1;go_upto_region 5 with fail
   have HWa:=hJ (show Below W.heap.size W (wr.alloc (.cells #[.bool x.1,.int .u32 x.2.1,.slice pa m pc] 37)) from E9 HW.out);have hh:=nZ wr (.cells #[.bool x.1,.int .u32 x.2.1,.slice pa m pc] 37);have cb2:(wr.alloc (.cells #[.bool x.1,.int .u32 x.2.1,.slice pa m pc] 37)).cell? ⟨wr.heap.size,2,none⟩=some (.slice pa m pc):=aa hh 2;generalize wr.alloc (.cells #[.bool x.1,.int .u32 x.2.1,.slice pa m pc] 37)=w1 at HWa cb2 ⊢;clear c0 c1 c2 hh;go_wp2_with fail
   clear cb2;go_loopw [3,19] (fun nv jv wx=>∃ j n2:Nat,j<=m/\jv=.int .i64 (j:Int)/\nv=.int .i64 (n2:Int)/\n2<=2500/\wx=w1) (fun _ jv _=>m-(intOf jv).toNat)
   case atStart=>exact⟨0,n,oZ,rfl,rfl,hn,rfl⟩
   case round =>
    obtain⟨j,n2,hj,rfl,rfl,hn2,rfl⟩:=hrel;by_cases hjm:j<m
    ·have hjm1:(j:Int)<(m:Int):=oZ;obtain⟨s,hsj⟩:∃ s,x.2.2[j]?=some s:=⟨_,gZ (by rw[HM.out];exact hjm)⟩;obtain⟨ga,oa2,rfl,t1⟩:=HT.out j s hsj;have t1:=az t1 HWa.out;have hss:=HSz.out s (List.mem_of_getElem? hsj);unfold reachBytes at hss;obtain⟨z,hz⟩:∃ z,s.size=z:=⟨_,rfl⟩;rw[hz] at hss;obtain⟨z1,hz1⟩:∃ z1,1+z=z1:=⟨_,rfl⟩;obtain⟨z2,hz2⟩:∃ z2,n2+z1=z2:=⟨_,rfl⟩;have s0:(s.size:Int)=(z:Int):=oZ;have s1:1+(z:Int)=(z1:Int):=oZ;have s2:IntKind.i64.wrap (z1:Int)=(z1:Int):=iZ _ oZ;have s3:(n2:Int)+(z1:Int)=(z2:Int):=oZ;have s4:IntKind.i64.wrap (z2:Int)=(z2:Int):=iZ _ oZ;clear hsj hz1 hz2;by_cases hg:2500<z2
     ·have hg1:(2500:Int)<(z2:Int):=oZ;go_wp2_with fail
      try rw[Exit.noGoto_ret]
      go_ret;exact⟨_,_,_,rfl,oZ,HDl.out,HRb.out,HWa.out⟩
     ·have hg1:¬ (2500:Int)<(z2:Int):=oZ;go_wp2_with fail
      go_roundw
      case rel=>exact⟨j+1,z2,oZ,by go_num,rfl,oZ,trivial⟩
      case measure=>simp[intOf];omega
    ·obtain rfl:j=m:=oZ;go_wp2_with fail
     go_roundw
     case rel=>exact⟨i+1,n2,oZ,by go_num,rfl,hn2,HWa.out⟩
     case measure=>simp[intOf];omega
  ·obtain rfl:i=N:=oZ;go_wp2_with fail
   try rw[Exit.noGoto_ret]
   go_ret;exact⟨_,_,_,rfl,Nat.le_refl _,HC.out,fun wr h=>by rw[List.take_of_length_le (by rw[HN.out];exact Nat.le_refl _)];exact h,HW.out⟩
end Go.Proofs.YtafaohnhlgcnpaaGreatDoor
