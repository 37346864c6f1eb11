/-
 What stage 12 rests on.
-/
import Derived.Test.YtafaohnhlgcnpaaGreatDoorWrAlF2
import Derived.Test.YtafaohnhlgcnpaaGreatDoorWrAlF5
import Derived.Test.YtafaohnhlgcnpaaGreatDoorWrAlF3
import Derived.Deep.AppendLies
set_option maxRecDepth 100000
set_option maxHeartbeats 16000000
namespace Go.Proofs.YtafaohnhlgcnpaaGreatDoor
open Go.RowKit

def jM (b d:Int):Pr R4:=.load (b+4*d) fun p=>.load (b+4*d+1) fun i=>.load (b+4*d+2) fun l=>.load (b+4*d+3) fun t=>.ret ⟨p,i,l,t⟩
theorem JJ (cs:List Int) (b:Int) (d:Nat) (hb:0<=b) (hl:b+4*(d:Int)+3<cs.length):∃ m,m<=8/\Does (jM b (d:Int)) cs m ⟨bA cs (b+4*(d:Int)),bA cs (b+4*(d:Int)+1),bA cs (b+4*(d:Int)+2),bA cs (b+4*(d:Int)+3)⟩ cs :=
 ⟨0+1+1+1+1,oZ,.load oZ oZ (.load oZ oZ (.load oZ oZ (.load oZ oZ (.ret _ _))))⟩
structure QW (W:World) (rb mb cb:Nat) (go0:Option Nat) (st:St) (go:Option Nat) (w:World):Prop where
 run:fV W rb mb cb go0 st go w
 r:w.heap[W.heap.size]?=some (.cells (wS ⟨0,0,0,0⟩) 147 (0,0))
theorem QW.access {W w w':World} {rb mb cb:Nat} {go0 go go':Option Nat} {st st':St} (h:QW W rb mb cb go0 st go w) (hr:RM w' rb mb cb go' true st') (ha:jl rb mb cb w go w' go'):QW W rb mb cb go0 st' go' w' :=
 ⟨h.run.access hr ha,h.run.stays ha h.r (Nat.le_refl _) dZ⟩
section
variable {w:World} {rb mb cb:Nat} {go:Option Nat} {st:St} {Bd:Nat}
theorem Ki (b d:Int) (hrm:RM w rb mb cb go true st) (hf:st.dO Bd) (hB:Bd<1000000000) (hb0:0<=b) (hb1:b<=60000) (hd0:0<=d) (hd1:d<=60000) :
  Calls Tryz.prog 80 #[.pointer (some ⟨rb,0,none⟩),.int .i64 b,.int .i64 d] w fun e w'=>∃ x go',e=.returned (.agg (wS x))/\RM w' rb mb cb go' true ((jM b d).on st).2/\jl rb mb cb w go w' go'/\∀ y,((jM b d).on st).1=some y->y=x:=by
 obtain⟨w1,hw1⟩:∃ w1,w1=w.alloc (.cells #[.int .u32 0,.int .u32 0,.int .u32 0,.int .u32 0] 147):=⟨_,rfl⟩;have HR:=hJ (show QW w rb mb cb go st go w1 from⟨by rw[hw1];exact(fV.start hrm).below aj,by rw[hw1];exact nZ w _⟩);have HF:=hJ hf;obtain⟨p,hp⟩:∃ p,p=jM b d:=⟨_,rfl⟩;have hq:Rest p (jM b d) st st:=by rw[hp];exact Rest.start _ _
 unfold jM at hq;have h00:=ji b d 0 hb0 hb1 hd0 hd1 dZ dZ;have h01:=ji b d 1 hb0 hb1 hd0 hd1 dZ dZ;have h02:=ji b d 2 hb0 hb1 hd0 hd1 dZ dZ;have h03:=ji b d 3 hb0 hb1 hd0 hd1 dZ dZ;rw[<- hp];obtain⟨a,ha⟩:∃ a,a=b+4*d:=⟨_,rfl⟩;rw[<- ha] at hq;simp only[Int.add_zero,<- ha] at h00 h01 h02 h03;have H0:=hJ h00;have H1:=hJ h01;have H2:=hJ h02;have H3:=hJ h03;have HQ:=hJ hq;have HW:=hJ hw1;clear hrm hf ha hp hq hw1 h00 h01 h02 h03;go_enter Tryz.func80,Tryz.ntmps80
 go_wp2_with fail
 refine(H0.out _).mono ?_;rintro e wz ⟨rfl,rfl⟩;go_wp2_with fail
 rw[<- HW.out];clear HW;refine(run_load HR.out.run.rm hB HF.out.ok a).mono ?_;rintro e v1 ⟨rfl,go1,hr1,ha1⟩;have HR:=hJ (HR.out.access hr1 ha1);have HQ:=hJ (HQ.out.load HF.out);have HF:=hJ (HF.out.load a);clear hr1 ha1 H0;obtain⟨st1,hst1⟩:∃ s,s=(st.load a).2:=⟨_,rfl⟩;obtain⟨y1,hy1⟩:∃ y,y=(st.load a).1:=⟨_,rfl⟩;rw[<- hst1] at HR HF HQ;rw[<- hy1] at HQ ⊢;clear hst1 hy1;go_wp2_with fail
 refine(H1.out _).mono ?_;rintro e wz ⟨rfl,rfl⟩;go_wp2_with fail
 refine(run_load HR.out.run.rm hB HF.out.ok (a+1)).mono ?_;rintro e v2 ⟨rfl,go2,hr2,ha2⟩;have HR:=hJ (HR.out.access hr2 ha2);have HQ:=hJ (HQ.out.load HF.out);have HF:=hJ (HF.out.load (a+1));clear hr2 ha2 H1;obtain⟨st2,hst2⟩:∃ s,s=(st1.load (a+1)).2:=⟨_,rfl⟩;obtain⟨y2,hy2⟩:∃ y,y=(st1.load (a+1)).1:=⟨_,rfl⟩;rw[<- hst2] at HR HF HQ;rw[<- hy2] at HQ ⊢;clear hst2 hy2;go_wp2_with fail
 refine(H2.out _).mono ?_;rintro e wz ⟨rfl,rfl⟩;go_wp2_with fail
 refine(run_load HR.out.run.rm hB HF.out.ok (a+2)).mono ?_;rintro e v3 ⟨rfl,go3,hr3,ha3⟩;have HR:=hJ (HR.out.access hr3 ha3);have HQ:=hJ (HQ.out.load HF.out);have HF:=hJ (HF.out.load (a+2));clear hr3 ha3 H2;obtain⟨st3,hst3⟩:∃ s,s=(st2.load (a+2)).2:=⟨_,rfl⟩;obtain⟨y3,hy3⟩:∃ y,y=(st2.load (a+2)).1:=⟨_,rfl⟩;rw[<- hst3] at HR HF HQ;rw[<- hy3] at HQ ⊢;clear hst3 hy3;go_wp2_with fail
 refine(H3.out _).mono ?_;rintro e wz ⟨rfl,rfl⟩;go_wp2_with fail
 refine(run_load HR.out.run.rm hB HF.out.ok (a+3)).mono ?_;rintro e v4 ⟨rfl,go4,hr4,ha4⟩;have HR:=hJ (HR.out.access hr4 ha4);have HQ:=hJ (HQ.out.load HF.out);have HF:=hJ (HF.out.load (a+3));clear hr4 ha4 H3;obtain⟨st4,hst4⟩:∃ s,s=(st3.load (a+3)).2:=⟨_,rfl⟩;obtain⟨y4,hy4⟩:∃ y,y=(st3.load (a+3)).1:=⟨_,rfl⟩;rw[<- hst4] at HR HF HQ;rw[<- hy4] at HQ ⊢;clear hst4 hy4;go_wp2_with (first | (refine zZ rfl 147 (.tmp 6) (.tmp 27) rfl w.heap.size (wS ⟨y1,y2,y3,y4⟩) rfl rfl 147 (wS ⟨0,0,0,0⟩) HR.out.r (xK _) rfl (JP _) ?_) | fail)
 have hq:=HQ.out.ret;unfold fw at hq;have hm:bB (fun k=>k=w.heap.size) v4 (v4.setRow w.heap.size (wS ⟨y1,y2,y3,y4⟩)):=bB.setRow (S:=fun k=>k=w.heap.size) (bB.refl _ _) (.inr rfl) _;have hru:=HR.out.run.turn (HR.out.run.far HR.out.r (Nat.le_refl _) dZ) (Nat.le_refl _) hm;have hrm:=hru.rm;rw[<- hq.1] at hrm;refine tZ (v:=.agg (wS ⟨y1,y2,y3,y4⟩)) (results_cell_row rfl _ _ w.heap.size _ _ (0,0) _ rfl (setRow_heap _ _ _ _ _ _ HR.out.r) Tryz.underlying147 rfl (xK _)) rfl ⟨_,go4,rfl,hrm,hru.adv,hq.2⟩
end
theorem Ev {d t:Int} {s:Nat->Int} {bk rm:Int} (h:ek d t s bk rm):Laid (aA (aB s bk rm)) (aB s bk rm) (aA (aB s bk rm) 6) where
 b0:=rfl
 next:=fun _ _=>rfl
 c:=rfl
 c1:=h.2
 s0:=fun k _=>uN h.1 k
 m:=⟨s,fun k hk=>⟨h.1.s0 k hk,by unfold aB;rw[if_pos hk]⟩⟩
def iF:Nat->List ByteArray->List Tk
 | _,[]=>[]
 | n,x :: F=>bR (n:Int) (bF x)++iF (n+1) F
def bH (F:List ByteArray):List Tk:=iF 0 F
def E5 (F:List ByteArray):Prop:=4<F.length∨∃ x∈F,512<x.size
instance (F:List ByteArray):Decidable (E5 F):=by unfold E5;exact inferInstance
def xg (F:List ByteArray):Prop:=E5 F∨64<(bH F).length
instance (F:List ByteArray):Decidable (xg F):=by unfold xg;exact inferInstance
def dz (F:List ByteArray):List Tk:=if xg F then [] else bH F
def iN (F:List ByteArray):Int:=if xg F then 4 else 0
theorem mJ:∀ (F:List ByteArray) (n:Nat) (x:ByteArray),iF n (F++[x])=iF n F++bR ((n+F.length:Nat):Int) (bF x)
 | [],n,x=>by simp[iF]
 | y :: F,n,x=>by
  rw[List.cons_append,iF,iF,mJ F (n+1) x,List.append_assoc,List.length_cons,show n+1+F.length=n+(F.length+1) by omega]
theorem vI (s:ByteArray):(bF s).length<=s.size+1:=Nat.le_trans (mh _ _) (zf s)
theorem pM (m:Nat):∀ (F:List ByteArray) (n:Nat),(∀ x∈F,x.size<=m)->(iF n F).length<=F.length*(m+1)
 | [],_,_=>by simp[iF]
 | x :: F,n,h=>by
  have h1:=vI x;have h2:=h x sZ;have h3:=pM m F (n+1) fun y hy=>h y (by simp[hy]);rw[iF,List.length_append,gP,List.length_cons,Nat.succ_mul];omega
structure Two (W:World) (b2:Nat) (vo vl:Value) (A B:List Tk) (w:World):Prop where
 out:dW w W.heap.size vo A
 lst:dW w b2 vl B
 ne:vo.ownBlock=none∨vl.ownBlock=none∨vo.ownBlock≠vl.ownBlock
 b:W.heap.size<=b2
 low:Below W.heap.size W w
theorem Two.alloc {W:World} {b2:Nat} {vo vl:Value} {A B:List Tk} {w:World} (h:Two W b2 vo vl A B w) (o:Obj):Two W b2 vo vl A B (w.alloc o) :=
 ⟨World.ownsRow.alloc h.out o,World.ownsRow.alloc h.lst o,h.ne,h.b,h.low.alloc h.low.size o⟩
theorem Two.drew {W:World} {b2:Nat} {vo vl:Value} {A B:List Tk} {w:World} (h:Two W b2 vo vl A B w):Two W b2 vo vl A B w.drew:=⟨h.out,h.lst,h.ne,h.b,h.low.drew⟩
theorem Two.more {W:World} {b2:Nat} {vo vl:Value} {A B:List Tk} {w w':World} {x:Tk} {g cap:Nat} (h:Two W b2 vo vl A B w)
  (ho:w'.ownsRow W.heap.size 195 3 (.slice (some ⟨g,0,none⟩) (A.length+1) cap) (A.length+1) (je A++[.int .u8 x.1,.string x.2.1,.int .i64 x.2.2])) (hg:w.grownBy w' vo.ownBlock) (hl:vo.ownBlock=some g∨g=w.heap.size) :
  Two W b2 (.slice (some ⟨g,0,none⟩) (A.length+1) cap) vl (A++[x]) B w':=by
 refine⟨by unfold dW;rw[mF];simpa [je,Dg] using ho,World.ownsRow.kept h.lst hg ?_,?_,h.b,h.low.grown hg h.low.size (fun k hk=>(World.ownsRow.lt h.out k hk).1)⟩
 ·rcases h.ne with e | e | e
  ·rw[e];cases hv:vl.ownBlock with
   | none=>exact .inl rfl
   | some k=>exact .inr sZ
  ·exact .inl e
  ·exact .inr (Ne.symm e)
 ·cases hv:vl.ownBlock with
  | none=>exact .inr (.inl rfl)
  | some k =>
   refine .inr (.inr ?_);have hk:=(World.ownsRow.lt h.lst k hv).2;rcases hl with e | e
   ·rcases h.ne with e2 | e2 | e2
    ·rw[e2] at e;cases e
    ·rw[e2] at hv;cases hv
    ·rw[e,hv] at e2;simpa [Value.ownBlock] using e2
   ·simp only[Value.ownBlock];intro e3;injection e3 with e3
    omega
-- tokens
theorem Two.reads {W:World} {b2 n cap:Nat} {vo:Value} {ol:Option Addr} {A B:List Tk} {w:World} (h:Two W b2 vo (.slice ol n cap) A B w):lT w ol B:=by
 obtain⟨oa,c,he,_,_,hr⟩:=jA h.lst;injection he with h1 _ _
 rw[h1];exact hr
theorem Two.KL {W:World} {b2 n cap:Nat} {vo:Value} {ol:Option Addr} {A B:List Tk} {w:World} (h:Two W b2 vo (.slice ol n cap) A B w) {k:Nat} {x:Tk} (hk:B[k]?=some x):∃ g off,ol=some ⟨g,off,none⟩:=by
 obtain⟨g,off,h1,_⟩:=h.reads k x hk;exact⟨g,off,h1⟩
theorem Two.read {W:World} {b2 n cap:Nat} {vo:Value} {g off:Nat} {A B:List Tk} {w:World} (h:Two W b2 vo (.slice (some ⟨g,off,none⟩) n cap) A B w) {k:Nat} {x:Tk} (hk:B[k]?=some x) :
  w.cell? ⟨g,off+k*3+1,none⟩=some (.string x.2.1)/\w.cell? ⟨g,off+k*3+2,none⟩=some (.int .i64 x.2.2):=by
 obtain⟨g',off',h1,_,h2,h3⟩:=h.reads k x hk;injection h1 with h1
 injection h1 with a b
 subst a b;exact⟨h2,h3⟩
theorem Em {w:World} {q:Nat} {x y z:Value} {t:TypeId} {fr:Nat×Nat} (h:w.heap[q]?=some (.cells #[x,y,z] t fr)):∀ (j:Nat) (u:Value),[x,y,z][j]?=some u->w.cell? ((⟨q,0,none⟩:Addr).add j)=some u:=by
 intro j u hj;rw[Addr.add_lit,Lib.cell_of_heap h];simpa using hj
theorem mo (W:World) (oa:Option Addr) (c:Nat) (F:List ByteArray) (hF:fU W oa F) (hs:∀ x∈F,x.size<=1000000) (hn:F.length<=1000000) :
  Calls Tryz.prog 92 #[.slice oa F.length c] W fun e w'=>∃ v,e=.returned (.tuple #[v,.int .i64 (iN F)])/\dW w' W.heap.size v (dz F)/\Below W.heap.size W w':=by
 obtain⟨iT,hi,hz0,hz1,hz2⟩:=info_parts nO;have HIT:=hJ (And.intro hi (And.intro hz0 (And.intro hz1 hz2)));have HF:=hJ hF;have HS:=hJ hs;have bad:xg F->dz F=[]/\iN F=4:=fun h=>⟨by unfold dz;rw[if_pos h],by unfold iN;rw[if_pos h]⟩;have good:¬ xg F->dz F=bH F/\iN F=0:=fun h=>⟨by unfold dz;rw[if_neg h],by unfold iN;rw[if_neg h]⟩;have HBad:=hJ bad;have HGood:=hJ good;obtain⟨n,hnn⟩:∃ n,F.length=n:=⟨_,rfl⟩;have HN:=hJ hnn;rw[hnn] at hn ⊢;clear hi hz0 hz1 hz2 hF hs bad good hnn;by_cases h4:4<n
 ·obtain⟨hl,he⟩:=HBad.out (.inl (.inl (by rw[HN.out];exact h4)));rw[hl,he];clear hl he;go_enter Tryz.func92,Tryz.ntmps92
  go_wp2_with fail
  go_ret2
  exact⟨_,rfl,World.ownsRow_nil _ _ _ _,Below.refl _ _⟩
 have h4i:¬ (4:Int)<(n:Int):=oZ;go_enter Tryz.func92,Tryz.ntmps92
 go_wp2_with fail
 have H1:=hJ (show Below W.heap.size W (W.alloc (.cells #[] 195)) from aj);have HO1:=hJ (show dW (W.alloc (.cells #[] 195)) W.heap.size (.slice (some ⟨W.heap.size,0,none⟩) 0 0) [] from pV W 195 3);generalize hw1:W.alloc (.cells #[] 195)=w1 at H1 HO1;clear hw1;go_loopw [15] (fun iv wr=>∃ i:Nat,i<=n/\iv=.int .i64 i/\wr=w1/\∀ j x,j<i->F[j]?=some x->x.size<=512) (fun iv _=>n-(intOf iv).toNat)
 case atStart=>exact⟨0,oZ,rfl,rfl,fun j x hj=>oZ⟩
 case round =>
  obtain⟨i,hi,rfl,rfl,hok⟩:=hrel;have HK:=hJ hok;clear hok;by_cases hlt:i<n
  ·obtain⟨x,hx⟩:∃ x,F[i]?=some x:=⟨_,gZ (by rw[HN.out];exact hlt)⟩;obtain⟨g,off,rfl,c0⟩:=(HF.out.below H1.out) i x hx;have HX:=hJ hx;clear hx;by_cases hb:512<x.size
   ·have hbi:(512:Int)<(x.size:Int):=oZ;obtain⟨hl,he⟩:=HBad.out (.inl (.inr ⟨x,List.mem_of_getElem? HX.out,hb⟩));have HE:=hJ (And.intro hl he);clear hl he;go_wp2_with fail
    go_ret2
    exact⟨_,by rw[HE.out.2];rfl,by rw[HE.out.1];exact World.ownsRow_nil _ _ _ _,H1.out⟩
   ·have hbi:¬ (512:Int)<(x.size:Int):=oZ;go_wp2_with fail
    go_roundw
    case rel =>
     refine⟨i+1,oZ,by go_num,trivial,fun j y hj hy=>?_⟩;by_cases hji:j<i
     ·exact HK.out j y hji hy
     ·obtain rfl:j=i:=oZ;rw[HX.out] at hy;cases hy;omega
    case measure=>simp[intOf];omega
  ·have hi':n=i:=oZ;subst hi'
   have HSm:=hJ (show ∀ x∈F,x.size<=512 by
    intro x hx;obtain⟨j,hj⟩:=List.getElem?_of_mem hx;exact HK.out j x (by have:=(eZ.1 hj).1;rw[HN.out] at this;omega) hj)
   clear HK HS;go_wp2_with fail
   go_loopw [4,27] (fun vo iv wr=>∃ i:Nat,i<=n/\iv=.int .i64 i/\dW wr W.heap.size vo (bH (F.take i))/\Below W.heap.size W wr) (fun _ iv _=>n-(intOf iv).toNat)
   case atStart=>exact⟨0,oZ,rfl,HO1.out,H1.out⟩
   case round =>
    obtain⟨i,hi,rfl,hown,hlow⟩:=hrel;by_cases hlt:i<n
    ·obtain⟨x,hx⟩:∃ x,F[i]?=some x:=⟨_,gZ (by rw[HN.out];exact hlt)⟩;obtain⟨gF,oF,hoa,c0⟩:=(HF.out.below hlow) i x hx;subst hoa;have hxs:=HSm.out x (List.mem_of_getElem? hx);have HWd:=hJ (F5 wr x oZ);have HO:=hJ hown;have HL:=hJ hlow;have HX:=hJ hx
     have HFt:=hJ (show bH (F.take (i+1))=bH (F.take i)++bR (i:Int) (bF x) by
      rw[List.take_add_one,hx];unfold bH;rw[Option.toList_some,mJ,List.length_take,Nat.min_eq_left (by rw[HN.out];omega),Nat.zero_add])
     have hfl:(bH (F.take i)).length<=4*513:=by
      have h1:=pM 512 (F.take i) 0 fun y hy=>HSm.out y (List.mem_of_mem_take hy);rw[List.length_take,HN.out] at h1;have h2:min i n*(512+1)<=4*513:=Nat.mul_le_mul oZ oZ;unfold bH;omega
     have hwl:=vI x;clear hown hlow hx;go_wp2_with fail
     refine HWd.out.mono ?_;rintro e w5 ⟨vl,rfl,hl5,hb5⟩;obtain⟨ol,cl,hvl,_,_,_⟩:=jA hl5;rw[gP] at hvl;obtain⟨m,hm⟩:∃ m,m=(bF x).length:=⟨_,rfl⟩;rw[<- hm] at hvl hwl;have HM:=hJ hm
     have hT0:Two W wr.heap.size u4 vl (bH (F.take i)) (bR 0 (bF x)) w5:=by
      refine⟨ak HO.out hb5,hl5,?_,HL.out.size,HL.out.trans (hb5.mono HL.out.size)⟩;cases h1:u4.ownBlock with
      | none=>exact .inl rfl
      | some k1 =>
       cases h2:vl.ownBlock with
       | none=>exact .inr (.inl rfl)
       | some k2 =>
        refine .inr (.inr fun e=>?_);injection e with e
        have a1:=(World.ownsRow.lt HO.out k1 h1).2;have a2:=(World.ownsRow.lt hl5 k2 h2).1;omega
     have HT0:=hJ hT0;obtain⟨b2,hb2⟩:∃ b2,b2=wr.heap.size:=⟨_,rfl⟩;rw[<- hb2] at HT0;subst hvl;clear hl5 hb5 hm hT0 HWd HO hb2;go_wp2_with fail
     go_loopw [4,37] (fun vo kv wr=>∃ k:Nat,k<=m/\kv=.int .i64 k/\Two W b2 vo (.slice ol m cl) (bH (F.take i)++bR (i:Int) ((bF x).take k)) (bR 0 (bF x)) wr) (fun _ kv _=>m-(intOf kv).toNat)
     case atStart=>exact⟨0,oZ,rfl,by simpa [bR] using HT0.out⟩
     case round =>
      obtain⟨k,hk,rfl,hT⟩:=hrel;by_cases hkm:k<m
      ·obtain⟨y,hy⟩:∃ y,(bF x)[k]?=some y:=⟨_,gZ (by rw[<- HM.out];exact hkm)⟩;have hB:(bR 0 (bF x))[k]?=some ((0:Int),ay y.1,(y.2:Int)):=by simp[bR,hy]
       obtain⟨g,off,rfl⟩:=hT.KL hB;have HAk:=hJ (show bR (i:Int) ((bF x).take (k+1))=bR (i:Int) ((bF x).take k)++[((i:Int),ay y.1,(y.2:Int))] by rw[List.take_add_one,hy];simp[bR])
       have hal:(bH (F.take i)++bR (i:Int) ((bF x).take k)).length<=4*513+513:=by
        rw[List.length_append,gP,List.length_take,<- HM.out];omega
       obtain⟨a,ha⟩:∃ a,(bH (F.take i)++bR (i:Int) ((bF x).take k)).length=a:=⟨_,rfl⟩;rw[ha] at hal;have HAl:=hJ ha;have HNext:=hJ (fun(vo:Value) (w':World) (h:Two W b2 vo (.slice (some ⟨g,off,none⟩) m cl) ((bH (F.take i)++bR (i:Int) ((bF x).take k))++[((i:Int),ay y.1,(y.2:Int))]) (bR 0 (bF x)) w')=>show Two W b2 vo (.slice (some ⟨g,off,none⟩) m cl) (bH (F.take i)++bR (i:Int) ((bF x).take (k+1))) (bR 0 (bF x)) w' by rw[HAk.out,<- List.append_assoc];exact h);have HTw:=hJ hT;generalize hAA:bH (F.take i)++bR (i:Int) ((bF x).take k)=A at HAl HNext HTw;generalize ay y.1=t at hB HNext;generalize ((y.2:Nat):Int)=p at hB HNext;have HB:=hJ hB;clear hT hB hy ha hAA HAk c0;have hi4:i<4:=oZ;have hwr:IntKind.u8.wrap (i:Int)=(i:Int):=by rcases (show i=0∨i=1∨i=2∨i=3 by omega) with rfl | rfl | rfl | rfl <;> decide
       go_upto_region 17 with fail
       refine fZ (fun(q:Nat×Nat×Nat×Value) j=>[u4,.int .i64 i,.int .u8 i,.slice (some ⟨g,off,none⟩) m cl,.int .i64 k,.pointer (some ⟨g,off+k*3,none⟩),.pointer (some ⟨g,off+k*3+1,none⟩),.string t,.slice (some ⟨g,off,none⟩) m cl,.int .i64 k,.pointer (some ⟨g,off+k*3,none⟩),.pointer (some ⟨g,off+k*3+2,none⟩),.int .i64 p,.agg #[.int .u8 i,.string t,.int .i64 p],.slice (some ⟨q.1,0,none⟩) 1 1,.slice (some ⟨q.2.1,0,none⟩) (a+1) q.2.2.1,q.2.2.2].getD j undef)
        (fun q l wx=>((l 15=true->l 14=true)/\(l 16=true->l 15=true)/\(l 15=true->l 0=true))/\(l 15=false->Two W b2 u4 (.slice (some ⟨g,off,none⟩) m cl) A (bR 0 (bF x)) wx)/\(l 14=true->l 15=false->wx.heap[q.1]?=some (.cells #[.int .u8 i,.string t,.int .i64 p] 195 (0,0))) /\
         (l 15=true->Two W b2 (.slice (some ⟨q.2.1,0,none⟩) (a+1) q.2.2.1) (.slice (some ⟨g,off,none⟩) m cl) (A++[((i:Int),t,p)]) (bR 0 (bF x)) wx)/\(l 16=false->q.2.2.2=u4)/\(l 16=true->q.2.2.2=.slice (some ⟨q.2.1,0,none⟩) (a+1) q.2.2.1))
        _ kZ (fun i j=>i==0&&j==16) kZ pZ (0,0,0,u4) ?_ ?_ ?_ ?_ ?_
       ·exact⟨⟨fun h=>absurd h sZ,fun h=>absurd h sZ,fun h=>absurd h sZ⟩,fun _=>HTw.out.drew,fun h=>absurd h sZ,fun h=>absurd h sZ,fun _=>rfl,fun h=>absurd h sZ⟩
       ·intro l hc i' j' hL hj;obtain⟨rfl,rfl⟩:i'=0/\j'=16:=by simpa using hL
        exact hc 15 _ rfl (hc 16 _ rfl hj ⟨15,.data⟩ sZ rfl) ⟨0,.data⟩ sZ rfl
       ·intro q l wx hR i' j' d hL hd hj;obtain⟨rfl,rfl⟩:i'=0/\j'=16:=by simpa using hL
        obtain rfl:4=d:=Option.some.inj hd;have hcur:=hR.2.2.2.2.1 hj;show some u4=some q.2.2.2;rw[hcur]
       ·intro j o ho q l wx hR hl he K hK
        have cells:wx.cell? ⟨g,off+k*3+1,none⟩=some (.string t)/\wx.cell? ⟨g,off+k*3+2,none⟩=some (.int .i64 p):=by
         cases h:l 15 with
         | false=>exact(hR.2.1 h).read HB.out
         | true=>exact(hR.2.2.2.1 h).read HB.out
        obtain⟨d1,d2⟩:=cells;rcases j with _|_|_|_|_|_|_|_|_|_|_|_|_|_|_|_|_|j
        ·cases ho
         have h16:l 16=false:=by
          cases h:l 16 with
          | false=>rfl
          | true=>have:=hR.1.2.2 (hR.1.2.1 h);rw[hl] at this;cases this
         have hcur:=hR.2.2.2.2.1 h16;obtain⟨qb,qg,qc,qv⟩:=q;obtain rfl:qv=u4:=hcur;go_simp;exact hK (qb,qg,qc,qv) wx (fun _ _=>rfl) ⟨⟨hR.1.1,hR.1.2.1,fun _=>rfl⟩,hR.2⟩
        ·cases ho;go_simp;exact hK q wx (fun _ _=>rfl) hR
        ·cases ho;go_simp;exact hK q wx (fun _ _=>rfl) hR
        ·cases ho;go_simp;exact hK q wx (fun _ _=>rfl) hR
        ·cases ho;go_simp;exact hK q wx (fun _ _=>rfl) hR
        ·cases ho;go_simp;exact hK q wx (fun _ _=>rfl) hR
        ·cases ho;go_simp;exact hK q wx (fun _ _=>rfl) hR
        ·cases ho;go_simp;exact hK q wx (fun _ _=>rfl) hR
        ·cases ho;go_simp;exact hK q wx (fun _ _=>rfl) hR
        ·cases ho;go_simp;exact hK q wx (fun _ _=>rfl) hR
        ·cases ho;go_simp;exact hK q wx (fun _ _=>rfl) hR
        ·cases ho;go_simp;exact hK q wx (fun _ _=>rfl) hR
        ·cases ho;go_simp;exact hK q wx (fun _ _=>rfl) hR
        ·cases ho;go_simp;exact hK q wx (fun _ _=>rfl) hR
        ·cases ho
         have h15:l 15=false:=by
          cases h:l 15 with
          | false=>rfl
          | true=>have:=hR.1.1 h;rw[hl] at this;cases this
         have hT:=hR.2.1 h15;go_simp;refine hK (wx.heap.size,q.2.1,q.2.2.1,q.2.2.2) _ (fun j hj=>?_) ⟨⟨fun _=>rfl,hR.1.2⟩,fun _=>hT.alloc _,fun _ _=>nZ wx _,fun h=>?_,hR.2.2.2.2.1,hR.2.2.2.2.2⟩
         ·rcases j with _|_|_|_|_|_|_|_|_|_|_|_|_|_|_|_|_|j
          all_goals first | rfl | (rw[hl] at hj;cases hj)
         ·have h2:l 15=true:=h;rw[h15] at h2;cases h2
        ·cases ho;have h14:l 14=true:=he ⟨14,.data⟩ sZ rfl;have hT:=hR.2.1 hl;have hq:=hR.2.2.1 h14 hl
         have h16:l 16=false:=by
          cases h:l 16 with
          | false=>rfl
          | true=>have:=hR.1.2.1 h;rw[hl] at this;cases this
         rw[if_pos (by go_simp)];refine wp_append_lies wx (.tmp 40) (.tmp 54) 169 rfl W.heap.size 195 iT _ 3 32 Tryz.underlying169 HIT.out.1 HIT.out.2.1 HIT.out.2.2.1 HIT.out.2.2.2 rfl dZ u4 a (je A) rfl (by have:=hT.out;unfold dW at this;rw[HAl.out] at this;exact this) ⟨q.1,0,none⟩ 1 1 [.int .u8 i,.string t,.int .i64 p] rfl rfl (Em hq) vZ dZ mZ oZ hT.low.size wx.heap.size rfl ?_;intro g' c' w' ho2 hg2 hl2 _;have h0:l 0=true:=he ⟨0,.data⟩ sZ rfl;refine hK (q.1,g',c',q.2.2.2) w' (fun j hj=>?_) ⟨⟨fun _=>h14,fun _=>rfl,fun _=>h0⟩,fun h=>absurd h sZ,fun _ h=>absurd h sZ,fun _=>?_,hR.2.2.2.2.1,fun h=>absurd (show l 16=true from h) (by rw[h16];simp)⟩
         ·rcases j with _|_|_|_|_|_|_|_|_|_|_|_|_|_|_|_|_|j
          all_goals first | rfl | (rw[hl] at hj;cases hj) | (rw[h16] at hj;cases hj)
         ·have hm:=hT.more (x:=((i:Int),t,p)) (g:=g') (cap:=c') (by rw[HAl.out];exact ho2) hg2 hl2;rw[HAl.out] at hm;exact hm
        ·cases ho;have h15:l 15=true:=he ⟨15,.data⟩ sZ rfl;go_simp;refine hK (q.1,q.2.1,q.2.2.1,.slice (some ⟨q.2.1,0,none⟩) (a+1) q.2.2.1) wx (fun j hj=>?_) ⟨⟨hR.1.1,fun _=>h15,hR.1.2.2⟩,hR.2.1,hR.2.2.1,hR.2.2.2.1,fun h=>absurd h sZ,fun _=>rfl⟩;rcases j with _|_|_|_|_|_|_|_|_|_|_|_|_|_|_|_|_|j
         all_goals first | rfl | (rw[hl] at hj;cases hj)
        ·simp at ho
       ·intro q l wx hl hR;have hT16:=hR.2.2.2.1 (hl 15 sZ);have hcur:=hR.2.2.2.2.2 (hl 16 sZ);obtain⟨qb,qg,qc,qv⟩:=q;obtain rfl:qv=.slice (some ⟨qg,0,none⟩) (a+1) qc:=hcur;have HN2:=hJ (HNext.out _ wx hT16);clear hT16 hR hl HTw HNext HB HAl;go_wp2_with fail
        go_roundw
        case rel=>exact⟨k+1,oZ,by go_num,HN2.out⟩
        case measure=>simp[intOf];omega
      ·have hk':k=m:=oZ
       have hT2:Two W b2 u4 (.slice ol m cl) (bH (F.take (i+1))) (bR 0 (bF x)) wr:=by
        rw[HFt.out];rw[show (bF x).take k=bF x from List.take_of_length_le (by rw[<- HM.out];omega)] at hT;exact hT
       have HT2:=hJ hT2;clear hT hT2 c0;go_wp2_with fail
       go_roundw
       case rel=>exact⟨i+1,oZ,by go_num,HT2.out.out,HT2.out.low⟩
       case measure=>simp[intOf];omega
    ·have hi':i=n:=oZ;rw[show F.take i=F from List.take_of_length_le (by rw[HN.out];omega)] at hown;obtain⟨ao,co,rfl⟩:=dP hown (bH F).length rfl;have HO:=hJ hown;have HL:=hJ hlow;obtain⟨z,hz⟩:∃ z,(bH F).length=z:=⟨_,rfl⟩;have HZ:=hJ hz;rw[hz];clear hown hlow hz;by_cases h64:64<z
     ·have h64i:(64:Int)<(z:Int):=oZ;have HE:=hJ (HBad.out (.inr (by rw[HZ.out];exact h64)));go_wp2_with fail
      go_ret2
      exact⟨_,by rw[HE.out.2];rfl,by rw[HE.out.1];exact World.ownsRow_nil _ _ _ _,HL.out⟩
     ·have h64i:¬ (64:Int)<(z:Int):=oZ
      have HE:=hJ (HGood.out (by
       rintro((h | ⟨x,hx,hb⟩) | h)
       ·rw[HN.out] at h;omega
       ·have:=HSm.out x hx;omega
       ·rw[HZ.out] at h;omega))
      rw[HZ.out] at HO;go_wp2_with fail
      go_ret2
      exact⟨_,by rw[HE.out.2];rfl,by rw[HE.out.1];exact HO.out,HL.out⟩
end Go.Proofs.YtafaohnhlgcnpaaGreatDoor
