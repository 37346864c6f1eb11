/-
 What stage 12 rests on.
-/
import Derived.Test.YtafaohnhlgcnpaaGreatDoorWrAlB3
import Derived.Test.YtafaohnhlgcnpaaGreatDoorWrAlB5
import Derived.Test.YtafaohnhlgcnpaaGreatDoorWrAlB4
set_option maxRecDepth 100000
set_option maxHeartbeats 16000000
namespace Go.Proofs.YtafaohnhlgcnpaaGreatDoor
open Go.RowKit
theorem qO {w:World} {base:Nat} {e:TypeId} {size n:Nat} {xs:List Value} {g cap:Nat} (h:w.ownsRow base e size (.slice (some ⟨g,0,none⟩) n cap) n xs) {i:Nat} (hi:i<n*size) (u:Value) :
  (∃ x,xs[i]?=some x/\w.cell? ⟨g,i,none⟩=some x)/\w.frozen? ⟨g,i,none⟩=false/\(w.setCell ⟨g,i,none⟩ u).ownsRow base e size (.slice (some ⟨g,0,none⟩) n cap) n (xs.set i u):=by
 obtain⟨h0,⟨h,_⟩ | ⟨g',cap',cur,k1,k2,k3,k4,k5,k6,k7⟩⟩:=h
 ·cases h
 ·cases k1;have hlt:i<xs.length:=oZ;have hc:cur.toList[i]?=xs[i]?:=by rw[<- k7,List.getElem?_take,if_pos hi]
  refine⟨⟨xs[i],gZ hlt,?_⟩,?_,by rw[List.length_set];exact h0,.inr ⟨g,cap,cur.setIfInBounds i u,rfl,k2,?_,k4,k5,by simpa using k6,?_⟩⟩
  ·rw[aa k3 i,<- gZ hlt,<- hc];simp
  ·exact free_at k3 i
  ·rw[heap_setCell_same _ _ _ _ _ _ k3]
  ·rw[Array.toList_setIfInBounds,List.take_set,k7]
theorem same_eq (w:World) (g1 g2 n:Nat) (l:List Int) (t1 t2:TypeId) (hn:n=l.length) (hl:n<=1000000) (h1:w.heap[g1]?=some (.cells (l.map (Value.int .u32)).toArray t1 (0,0))) (h2:w.heap[g2]?=some (.cells (l.map (Value.int .u32)).toArray t2 (0,0))) :
  Calls Tryz.prog 31 #[.slice (some ⟨g1,0,none⟩) n n,.slice (some ⟨g2,0,none⟩) n n] w fun e w'=>e=.returned (.bool true)/\Below w.heap.size w w':=by
 have HH:=hJ (And.intro h1 h2);clear h1 h2;have HN:=hJ hn;clear hn;go_enter Tryz.func31,Tryz.ntmps31
 go_wp2_with fail
 go_loopw [13] (fun i wr=>∃ i':Nat,i'<=n/\i=.int .i64 i'/\∃ m,wr=w.drewN m) (fun i _=>n-(intOf i).toNat)
 case atStart=>exact⟨0,oZ,rfl,0,rfl⟩
 case round =>
  obtain⟨i,hi,rfl,m,rfl⟩:=hrel;by_cases hlt:i<n
  ·obtain⟨z,hz⟩:∃ z,l[i]?=some z:=⟨_,gZ (by have:=HN.out;omega)⟩;have c1:=Bn HH.out.1 hz;have c2:=Bn HH.out.2 hz;have hlt1:(i:Int)<(n:Int):=oZ;clear hz;go_wp2_with fail
   go_quiet (fail)
   go_wp2_with fail
   go_roundw
   case rel=>exact⟨i+1,oZ,by go_num,_,rfl⟩
   case measure=>simp[intOf];omega
  ·go_wp2_with fail
   go_ret;exact⟨rfl,dm (Below.refl _ _) _⟩
theorem Gf (w:World) (del:Bool) (id:Int) (fo:Option Addr) (fc N:Nat) (F:List ByteArray) (hN:F.length=N) (hN2:N<=140737488355328) (hF:fU w fo F) (hsz:∀ f∈F,f.size<=4611686018427387904) :
  Calls Tryz.prog 17 #[.agg #[.bool del,.int .u32 id,.slice fo N fc]] w fun e w'=>∃ b,e=.returned (.bool b)/\Below w.heap.size w w'/\(b=false->(∀ f∈F,f.size<=3000)/\F.length<=3000):=by
 have HF:=hJ hF;have HN:=hJ hN;have HSz:=hJ hsz;clear hF hN hsz;go_enter Tryz.func17,Tryz.ntmps17
 go_upto_region 2 with fail
 have hb:=aj (w:=w) (A:=.cells #[.bool del,.int .u32 id,.slice fo N fc] 37);have hh:=nZ w (.cells #[.bool del,.int .u32 id,.slice fo N fc] 37);have c2:(w.alloc (.cells #[.bool del,.int .u32 id,.slice fo N fc] 37)).cell? ⟨w.heap.size,2,none⟩=some (.slice fo N fc):=aa hh 2;have HB:=hJ hb;have HF:=hJ (HF.out.below hb);generalize w.alloc (.cells #[.bool del,.int .u32 id,.slice fo N fc] 37)=w1 at c2 HB HF ⊢;clear hb hh;go_wp2_with fail
 clear c2;go_loopw [3,5,10] (fun nv _ iv wr=>∃ (i n:Nat),i<=N/\iv=.int .i64 (i:Int)/\nv=.int .i64 (n:Int)/\n<=3000/\i<=n/\(∀ (j:Nat) (f:ByteArray),j<i->F[j]?=some f->f.size<=3000)/\wr=w1) (fun _ _ iv _=>N-(intOf iv).toNat)
 case atStart=>exact⟨0,0,oZ,rfl,rfl,oZ,oZ,fun j f hj=>oZ,rfl⟩
 case round =>
  obtain⟨i,n,hi,rfl,rfl,hn,hin,hall,hw⟩:=hrel;have hw2:w1=wr:=hw.symm;subst hw2;clear hw;have HAll:=hJ hall;clear hall;by_cases hlt:i<N
  ·have hlt1:(i:Int)<(N:Int):=oZ;have hi0:(0:Int)<=(i:Int):=oZ;obtain⟨f,hf⟩:∃ f,F[i]?=some f:=⟨_,gZ (by rw[HN.out];exact hlt)⟩;obtain⟨ga,oa,rfl,t1⟩:=HF.out i f hf;have hfs:=HSz.out f (List.mem_of_getElem? hf);have s1:IntKind.i64.wrap (1+(f.size:Int))=1+(f.size:Int):=iZ _ oZ;have s2:IntKind.i64.wrap ((n:Int)+(1+(f.size:Int)))=(n:Int)+(1+(f.size:Int)):=iZ _ oZ;have HFf:=hJ hf;clear hf;by_cases hg:(3000:Int)<(n:Int)+(1+(f.size:Int))
   ·go_wp2_with fail
    try rw[Exit.noGoto_ret]
    go_ret;exact⟨true,rfl,HB.out,fun h=>by cases h⟩
   ·go_wp2_with fail
    go_roundw
    case rel =>
     refine⟨i+1,n+(1+f.size),oZ,by go_num,by go_num,oZ,oZ,fun j f' hj hf'=>?_,trivial⟩;by_cases e:j=i
     ·subst e;rw[HFf.out] at hf';cases hf';omega
     ·exact HAll.out j f' oZ hf'
    case measure=>simp[intOf];omega
  ·obtain rfl:N=i:=oZ;go_wp2_with fail
   go_ret;refine⟨false,rfl,HB.out,fun _=>⟨fun f hf=>?_,by rw[HN.out];omega⟩⟩;obtain⟨j,hj,rfl⟩:=List.getElem_of_mem hf;exact HAll.out j _ (by rw[<- HN.out];exact hj) (gZ hj)
end Go.Proofs.YtafaohnhlgcnpaaGreatDoor
