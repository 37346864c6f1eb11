/-
 What stage 12 rests on.
-/
import Derived.Test.YtlfndoclbebdaaaGreatDoorWrAllA1
set_option maxRecDepth 100000
set_option maxHeartbeats 16000000
namespace Go.Proofs.YtlfndoclbebdaaaGreatDoor
open Go.RowKit
theorem Jh (w:World) (del:Bool) (id:Int) (fo:Option Addr) (fc N:Nat) (F:List ByteArray) (hN:F.length=N) (hN2:N<=140737488355328) (hF:iY w fo F) (hsz:∀ f∈F,f.size<=4611686018427387904) :
  Calls Tryz.prog 17 #[.agg #[.bool del,.int .u32 id,.slice fo N fc]] w fun e w'=>∃ b,e=.returned (.bool b)/\Below w.heap.size w w'/\(b=false->(∀ f∈F,f.size<=3000)/\F.length<=3000):=by
 have HF:=hJ hF
 have HN:=hJ hN
 have HSz:=hJ hsz
 clear hF hN hsz
 go_enter Tryz.func17,Tryz.ntmps17
 go_upto_region 2 with fail
 have hb:=au (w:=w) (A:=.cells #[.bool del,.int .u32 id,.slice fo N fc] 37)
 have hh:=nZ w (.cells #[.bool del,.int .u32 id,.slice fo N fc] 37)
 have c2:(w.alloc (.cells #[.bool del,.int .u32 id,.slice fo N fc] 37)).cell? ⟨w.heap.size,2,none⟩=some (.slice fo N fc):=ae hh 2
 have HB:=hJ hb
 have HF:=hJ (HF.out.below hb)
 generalize w.alloc (.cells #[.bool del,.int .u32 id,.slice fo N fc] 37)=w1 at c2 HB HF ⊢
 clear hb hh
 go_wp2_with fail
 clear c2
 go_loopw [3,5,10] (fun nv _ iv wr=>∃ (i n:Nat),i<=N/\iv=.int .i64 (i:Int)/\nv=.int .i64 (n:Int)/\n<=3000/\i<=n/\(∀ (j:Nat) (f:ByteArray),j<i->F[j]?=some f->f.size<=3000)/\wr=w1) (fun _ _ iv _=>N-(intOf iv).toNat)
 case atStart=>exact⟨0,0,oZ,rfl,rfl,oZ,oZ,fun j f hj=>oZ,rfl⟩
 case round =>
  obtain⟨i,n,hi,rfl,rfl,hn,hin,hall,hw⟩:=hrel
  have hw2:w1=wr:=hw.symm
  subst hw2
  clear hw
  have HAll:=hJ hall
  clear hall
  by_cases hlt:i<N
  ·have hlt1:(i:Int)<(N:Int):=oZ
   have hi0:(0:Int)<=(i:Int):=oZ
   obtain⟨f,hf⟩:∃ f,F[i]?=some f:=⟨_,gZ (by rw[HN.out];exact hlt)⟩
   obtain⟨ga,oa,rfl,t1⟩:=HF.out i f hf
   have hfs:=HSz.out f (List.mem_of_getElem? hf)
   have s1:IntKind.i64.wrap (1+(f.size:Int))=1+(f.size:Int):=iZ _ oZ
   have s2:IntKind.i64.wrap ((n:Int)+(1+(f.size:Int)))=(n:Int)+(1+(f.size:Int)):=iZ _ oZ
   have HFf:=hJ hf
   clear hf
   by_cases hg:(3000:Int)<(n:Int)+(1+(f.size:Int))
   ·go_wp2_with fail
    try rw[Exit.noGoto_ret]
    go_ret
    exact⟨true,rfl,HB.out,fun h=>by cases h⟩
   ·go_wp2_with fail
    go_roundw
    case rel =>
     refine⟨i+1,n+(1+f.size),oZ,by go_num,by go_num,oZ,oZ,fun j f' hj hf'=>?_,trivial⟩
     by_cases e:j=i
     ·subst e
      rw[HFf.out] at hf'
      cases hf'
      omega
     ·exact HAll.out j f' oZ hf'
    case measure=>simp[intOf];omega
  ·obtain rfl:N=i:=oZ
   go_wp2_with fail
   go_ret
   refine⟨false,rfl,HB.out,fun _=>⟨fun f hf=>?_,by rw[HN.out];omega⟩⟩
   obtain⟨j,hj,rfl⟩:=List.getElem_of_mem hf
   exact HAll.out j _ (by rw[<- HN.out];exact hj) (gZ hj)
end Go.Proofs.YtlfndoclbebdaaaGreatDoor
namespace Go.Proofs.YtlfndoclbebdaaaGreatDoor
open Go.ChangeShapes Go.WideShapes Go.ChangeAt Go.RowKit Go.Deep
theorem JJ {cs:Array Value} (h:cs.size=10):∃ a b c d e f g i j k,cs=#[a,b,c,d,e,f,g,i,j,k]:=by
 obtain⟨l⟩:=cs
 match l,h with
 | [a,b,c,d,e,f,g,i,j,k],_=>exact⟨a,b,c,d,e,f,g,i,j,k,rfl⟩
def QX (a b c d e f:Int) (k:Nat):Int:=if k=0 then a else if k=1 then b else if k=2 then c else if k=3 then d else if k=4 then e else f
theorem Jn {H:Type} {enc:TypeId×Value->H} {W:World} {v:Value} {x:DataW H} {p:List MemPlace} {base:Nat} (hv:Value.okWide Tryz.prog W .any base 25 v) (_h:DataW.Trod enc Tryz.prog W 0 (fun _=>true) true 25 v x p) :
  ∃ (d t:Int) (s:Nat->Int) (bk rm:Int) (kf bf:Nat),v=.agg (ak d t s bk rm kf bf)/\(∀ k,k<4->-9223372036854775808<=s k):=by
 obtain⟨cs,rfl,hs,hc⟩:=Jk kZ hv (ts:=[3,3,3,3,3,3,3,3,23,23]) kZ
 rw[show Tryz.prog.cellsOf 25=10 by kernel_rfl] at hs
 obtain⟨a,b,c,d,e,f,g,i,j,k,rfl⟩:=JJ hs
 obtain⟨a,rfl,_⟩:=kV Tryz.underlying3 (hc 0 _ _ rfl rfl)
 obtain⟨b,rfl,_⟩:=kV Tryz.underlying3 (hc 1 _ _ rfl rfl)
 obtain⟨c,rfl,h2,_⟩:=kV Tryz.underlying3 (hc 2 _ _ rfl rfl)
 obtain⟨d,rfl,h3,_⟩:=kV Tryz.underlying3 (hc 3 _ _ rfl rfl)
 obtain⟨e,rfl,h4,_⟩:=kV Tryz.underlying3 (hc 4 _ _ rfl rfl)
 obtain⟨f,rfl,h5,_⟩:=kV Tryz.underlying3 (hc 5 _ _ rfl rfl)
 obtain⟨g,rfl,_⟩:=kV Tryz.underlying3 (hc 6 _ _ rfl rfl)
 obtain⟨i,rfl,_⟩:=kV Tryz.underlying3 (hc 7 _ _ rfl rfl)
 obtain⟨j,rfl⟩:=yj Tryz.underlying23 (hc 8 _ _ rfl rfl)
 obtain⟨k,rfl⟩:=yj Tryz.underlying23 (hc 9 _ _ rfl rfl)
 refine⟨a,b,QX c d e f 0 0,g,i,j,k,rfl,fun k hk=>?_⟩
 have:k=0∨k=1∨k=2∨k=3:=oZ
 rcases this with rfl | rfl | rfl | rfl
 ·exact h2
 ·exact h3
 ·exact h4
 ·exact h5
end Go.Proofs.YtlfndoclbebdaaaGreatDoor
