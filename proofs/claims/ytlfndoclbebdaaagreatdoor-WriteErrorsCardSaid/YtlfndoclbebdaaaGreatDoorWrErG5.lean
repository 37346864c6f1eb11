/-
 What stage 12 rests on.
-/
import Derived.Test.YtlfndoclbebdaaaGreatDoorWrErA1
import Derived.Test.YtlfndoclbebdaaaGreatDoorWrErF2
import Derived.Laws.StructEq
import Derived.Test.YtlfndoclbebdaaaGreatDoorWrErE1
import Derived.Test.YtlfndoclbebdaaaGreatDoorWrErB3
import Derived.Test.YtlfndoclbebdaaaGreatDoorWrErB4
import Derived.Deep.AppendLies
set_option maxRecDepth 100000
set_option maxHeartbeats 16000000
namespace Go.Proofs.YtlfndoclbebdaaaGreatDoor
open Go.RowKit

theorem Qd {w:World} {base base' size n:Nat} {e:TypeId} {v:Value} {xs:List Value} (h:w.ownsRow base e size v n xs) (hb:base'<=base):w.ownsRow base' e size v n xs:=by
 obtain⟨h0,h | ⟨g,cap,cur,k1,k2,k3⟩⟩:=h
 ·exact⟨h0,.inl h⟩
 ·exact⟨h0,.inr ⟨g,cap,cur,k1,Nat.le_trans hb k2,k3⟩⟩
def jq:Nat->List ByteArray->List Tk
 | _,[]=>[]
 | n,x :: F=>cO (n:Int) (bJ x)++jq (n+1) F
def bQ (F:List ByteArray):List Tk:=jq 0 F
def IG (F:List ByteArray):Prop:=4<F.length∨∃ x∈F,512<x.size
instance (F:List ByteArray):Decidable (IG F):=by unfold IG;exact inferInstance
def zF (F:List ByteArray):Prop:=IG F∨64<(bQ F).length
instance (F:List ByteArray):Decidable (zF F):=by unfold zF;exact inferInstance
def dQ (F:List ByteArray):List Tk:=if zF F then [] else bQ F
def jM (F:List ByteArray):Int:=if zF F then 4 else 0
theorem oK:∀ (F:List ByteArray) (n:Nat) (x:ByteArray),jq n (F++[x])=jq n F++cO ((n+F.length:Nat):Int) (bJ x)
 | [],n,x=>by simp[jq]
 | y :: F,n,x=>by
  rw[List.cons_append,jq,jq,oK F (n+1) x,List.append_assoc,List.length_cons,show n+1+F.length=n+(F.length+1) by omega]
theorem xX (s:ByteArray):(bJ s).length<=s.size+1:=Nat.le_trans (oJ _ _) (Dc s)
theorem sK (m:Nat):∀ (F:List ByteArray) (n:Nat),(∀ x∈F,x.size<=m)->(jq n F).length<=F.length*(m+1)
 | [],_,_=>by simp[jq]
 | x :: F,n,h=>by
  have h1:=xX x
  have h2:=h x sZ
  have h3:=sK m F (n+1) fun y hy=>h y (by simp[hy])
  rw[jq,List.length_append,iL,List.length_cons,Nat.succ_mul]
  omega
structure Two (W:World) (b2:Nat) (vo vl:Value) (A B:List Tk) (w:World):Prop where
 out:eX w W.heap.size vo A
 lst:eX w b2 vl B
 ne:vo.ownBlock=none∨vl.ownBlock=none∨vo.ownBlock≠vl.ownBlock
 b:W.heap.size<=b2
 low:Below W.heap.size W w
theorem Two.alloc {W:World} {b2:Nat} {vo vl:Value} {A B:List Tk} {w:World} (h:Two W b2 vo vl A B w) (o:Obj):Two W b2 vo vl A B (w.alloc o) :=
 ⟨World.ownsRow.alloc h.out o,World.ownsRow.alloc h.lst o,h.ne,h.b,h.low.alloc h.low.size o⟩
theorem Two.drew {W:World} {b2:Nat} {vo vl:Value} {A B:List Tk} {w:World} (h:Two W b2 vo vl A B w):Two W b2 vo vl A B w.drew:=⟨h.out,h.lst,h.ne,h.b,h.low.drew⟩
theorem Two.more {W:World} {b2:Nat} {vo vl:Value} {A B:List Tk} {w w':World} {x:Tk} {g cap:Nat} (h:Two W b2 vo vl A B w)
  (ho:w'.ownsRow W.heap.size 195 3 (.slice (some ⟨g,0,none⟩) (A.length+1) cap) (A.length+1) (jS A++[.int .u8 x.1,.string x.2.1,.int .i64 x.2.2])) (hg:w.grownBy w' vo.ownBlock) (hl:vo.ownBlock=some g∨g=w.heap.size) :
  Two W b2 (.slice (some ⟨g,0,none⟩) (A.length+1) cap) vl (A++[x]) B w':=by
 refine⟨by unfold eX;rw[oL];simpa [jS,Gh] using ho,World.ownsRow.kept h.lst hg ?_,?_,h.b,h.low.grown hg h.low.size (fun k hk=>(World.ownsRow.lt h.out k hk).1)⟩
 ·rcases h.ne with e | e | e
  ·rw[e]
   cases hv:vl.ownBlock with
   | none=>exact .inl rfl
   | some k=>exact .inr sZ
  ·exact .inl e
  ·exact .inr (Ne.symm e)
 ·cases hv:vl.ownBlock with
  | none=>exact .inr (.inl rfl)
  | some k =>
   refine .inr (.inr ?_)
   have hk:=(World.ownsRow.lt h.lst k hv).2
   rcases hl with e | e
   ·rcases h.ne with e2 | e2 | e2
    ·rw[e2] at e;cases e
    ·rw[e2] at hv;cases hv
    ·rw[e,hv] at e2
     simpa [Value.ownBlock] using e2
   ·simp only[Value.ownBlock]
    intro e3
    injection e3 with e3
    omega
-- tokens
theorem Two.reads {W:World} {b2 n cap:Nat} {vo:Value} {ol:Option Addr} {A B:List Tk} {w:World} (h:Two W b2 vo (.slice ol n cap) A B w):nY w ol B:=by
 obtain⟨oa,c,he,_,_,hr⟩:=kH h.lst
 injection he with h1 _ _
 rw[h1]
 exact hr
theorem Two.O0 {W:World} {b2 n cap:Nat} {vo:Value} {ol:Option Addr} {A B:List Tk} {w:World} (h:Two W b2 vo (.slice ol n cap) A B w) {k:Nat} {x:Tk} (hk:B[k]?=some x):∃ g off,ol=some ⟨g,off,none⟩:=by
 obtain⟨g,off,h1,_⟩:=h.reads k x hk
 exact⟨g,off,h1⟩
theorem Two.read {W:World} {b2 n cap:Nat} {vo:Value} {g off:Nat} {A B:List Tk} {w:World} (h:Two W b2 vo (.slice (some ⟨g,off,none⟩) n cap) A B w) {k:Nat} {x:Tk} (hk:B[k]?=some x) :
  w.cell? ⟨g,off+k*3+1,none⟩=some (.string x.2.1)/\w.cell? ⟨g,off+k*3+2,none⟩=some (.int .i64 x.2.2):=by
 obtain⟨g',off',h1,_,h2,h3⟩:=h.reads k x hk
 injection h1 with h1
 injection h1 with a b
 subst a b
 exact⟨h2,h3⟩
theorem Ij {w:World} {q:Nat} {x y z:Value} {t:TypeId} {fr:Nat×Nat} (h:w.heap[q]?=some (.cells #[x,y,z] t fr)):∀ (j:Nat) (u:Value),[x,y,z][j]?=some u->w.cell? ((⟨q,0,none⟩:Addr).add j)=some u:=by
 intro j u hj
 rw[Addr.add_lit,Lib.cell_of_heap h]
 simpa using hj
theorem oP (W:World) (oa:Option Addr) (c:Nat) (F:List ByteArray) (hF:iY W oa F) (hs:∀ x∈F,x.size<=1000000) (hn:F.length<=1000000) :
  Calls Tryz.prog 92 #[.slice oa F.length c] W fun e w'=>∃ v,e=.returned (.tuple #[v,.int .i64 (jM F)])/\eX w' W.heap.size v (dQ F)/\Below W.heap.size W w':=by
 obtain⟨iT,hi,hz0,hz1,hz2⟩:=info_parts qh
 have HIT:=hJ (And.intro hi (And.intro hz0 (And.intro hz1 hz2)))
 have HF:=hJ hF
 have HS:=hJ hs
 have bad:zF F->dQ F=[]/\jM F=4:=fun h=>⟨by unfold dQ;rw[if_pos h],by unfold jM;rw[if_pos h]⟩
 have good:¬ zF F->dQ F=bQ F/\jM F=0:=fun h=>⟨by unfold dQ;rw[if_neg h],by unfold jM;rw[if_neg h]⟩
 have HBad:=hJ bad
 have HGood:=hJ good
 obtain⟨n,hnn⟩:∃ n,F.length=n:=⟨_,rfl⟩
 have HN:=hJ hnn
 rw[hnn] at hn ⊢
 clear hi hz0 hz1 hz2 hF hs bad good hnn
 by_cases h4:4<n
 ·obtain⟨hl,he⟩:=HBad.out (.inl (.inl (by rw[HN.out];exact h4)))
  rw[hl,he]
  clear hl he
  go_enter Tryz.func92,Tryz.ntmps92
  go_wp2_with fail
  go_ret2
  exact⟨_,rfl,World.ownsRow_nil _ _ _ _,Below.refl _ _⟩
 have h4i:¬ (4:Int)<(n:Int):=oZ
 go_enter Tryz.func92,Tryz.ntmps92
 go_wp2_with fail
 have H1:=hJ (show Below W.heap.size W (W.alloc (.cells #[] 195)) from au)
 have HO1:=hJ (show eX (W.alloc (.cells #[] 195)) W.heap.size (.slice (some ⟨W.heap.size,0,none⟩) 0 0) [] from sN W 195 3)
 generalize hw1:W.alloc (.cells #[] 195)=w1 at H1 HO1
 clear hw1
 go_loopw [15] (fun iv wr=>∃ i:Nat,i<=n/\iv=.int .i64 i/\wr=w1/\∀ j x,j<i->F[j]?=some x->x.size<=512) (fun iv _=>n-(intOf iv).toNat)
 case atStart=>exact⟨0,oZ,rfl,rfl,fun j x hj=>oZ⟩
 case round =>
  obtain⟨i,hi,rfl,rfl,hok⟩:=hrel
  have HK:=hJ hok
  clear hok
  by_cases hlt:i<n
  ·obtain⟨x,hx⟩:∃ x,F[i]?=some x:=⟨_,gZ (by rw[HN.out];exact hlt)⟩
   obtain⟨g,off,rfl,c0⟩:=(HF.out.below H1.out) i x hx
   have HX:=hJ hx
   clear hx
   by_cases hb:512<x.size
   ·have hbi:(512:Int)<(x.size:Int):=oZ
    obtain⟨hl,he⟩:=HBad.out (.inl (.inr ⟨x,List.mem_of_getElem? HX.out,hb⟩))
    have HE:=hJ (And.intro hl he)
    clear hl he
    go_wp2_with fail
    go_ret2
    exact⟨_,by rw[HE.out.2];rfl,by rw[HE.out.1];exact World.ownsRow_nil _ _ _ _,H1.out⟩
   ·have hbi:¬ (512:Int)<(x.size:Int):=oZ
    go_wp2_with fail
    go_roundw
    case rel =>
     refine⟨i+1,oZ,by go_num,trivial,fun j y hj hy=>?_⟩
     by_cases hji:j<i
     ·exact HK.out j y hji hy
     ·obtain rfl:j=i:=oZ
      rw[HX.out] at hy
      cases hy
      omega
    case measure=>simp[intOf];omega
  ·have hi':n=i:=oZ
   subst hi'
   have HSm:=hJ (show ∀ x∈F,x.size<=512 by
    intro x hx
    obtain⟨j,hj⟩:=List.getElem?_of_mem hx
    exact HK.out j x (by have:=(eZ.1 hj).1;rw[HN.out] at this;omega) hj)
   clear HK HS
   go_wp2_with fail
   go_loopw [4,27] (fun vo iv wr=>∃ i:Nat,i<=n/\iv=.int .i64 i/\eX wr W.heap.size vo (bQ (F.take i))/\Below W.heap.size W wr) (fun _ iv _=>n-(intOf iv).toNat)
   case atStart=>exact⟨0,oZ,rfl,HO1.out,H1.out⟩
   case round =>
    obtain⟨i,hi,rfl,hown,hlow⟩:=hrel
    by_cases hlt:i<n
    ·obtain⟨x,hx⟩:∃ x,F[i]?=some x:=⟨_,gZ (by rw[HN.out];exact hlt)⟩
     obtain⟨gF,oF,hoa,c0⟩:=(HF.out.below hlow) i x hx
     subst hoa
     have hxs:=HSm.out x (List.mem_of_getElem? hx)
     have HWd:=hJ (JQ wr x oZ)
     have HO:=hJ hown
     have HL:=hJ hlow
     have HX:=hJ hx
     have HFt:=hJ (show bQ (F.take (i+1))=bQ (F.take i)++cO (i:Int) (bJ x) by
      rw[List.take_add_one,hx]
      unfold bQ
      rw[Option.toList_some,oK,List.length_take,Nat.min_eq_left (by rw[HN.out];omega),Nat.zero_add])
     have hfl:(bQ (F.take i)).length<=4*513:=by
      have h1:=sK 512 (F.take i) 0 fun y hy=>HSm.out y (List.mem_of_mem_take hy)
      rw[List.length_take,HN.out] at h1
      have h2:min i n*(512+1)<=4*513:=Nat.mul_le_mul oZ oZ
      unfold bQ
      omega
     have hwl:=xX x
     clear hown hlow hx
     go_wp2_with fail
     refine HWd.out.mono ?_
     rintro e w5 ⟨vl,rfl,hl5,hb5⟩
     obtain⟨ol,cl,hvl,_,_,_⟩:=kH hl5
     rw[iL] at hvl
     obtain⟨m,hm⟩:∃ m,m=(bJ x).length:=⟨_,rfl⟩
     rw[<- hm] at hvl hwl
     have HM:=hJ hm
     have hT0:Two W wr.heap.size u4 vl (bQ (F.take i)) (cO 0 (bJ x)) w5:=by
      refine⟨aA HO.out hb5,hl5,?_,HL.out.size,HL.out.trans (hb5.mono HL.out.size)⟩
      cases h1:u4.ownBlock with
      | none=>exact .inl rfl
      | some k1 =>
       cases h2:vl.ownBlock with
       | none=>exact .inr (.inl rfl)
       | some k2 =>
        refine .inr (.inr fun e=>?_)
        injection e with e
        have a1:=(World.ownsRow.lt HO.out k1 h1).2
        have a2:=(World.ownsRow.lt hl5 k2 h2).1
        omega
     have HT0:=hJ hT0
     obtain⟨b2,hb2⟩:∃ b2,b2=wr.heap.size:=⟨_,rfl⟩
     rw[<- hb2] at HT0
     subst hvl
     clear hl5 hb5 hm hT0 HWd HO hb2
     go_wp2_with fail
     go_loopw [4,37] (fun vo kv wr=>∃ k:Nat,k<=m/\kv=.int .i64 k/\Two W b2 vo (.slice ol m cl) (bQ (F.take i)++cO (i:Int) ((bJ x).take k)) (cO 0 (bJ x)) wr) (fun _ kv _=>m-(intOf kv).toNat)
     case atStart=>exact⟨0,oZ,rfl,by simpa [cO] using HT0.out⟩
     case round =>
      obtain⟨k,hk,rfl,hT⟩:=hrel
      by_cases hkm:k<m
      ·obtain⟨y,hy⟩:∃ y,(bJ x)[k]?=some y:=⟨_,gZ (by rw[<- HM.out];exact hkm)⟩
       have hB:(cO 0 (bJ x))[k]?=some ((0:Int),ay y.1,(y.2:Int)):=by simp[cO,hy]
       obtain⟨g,off,rfl⟩:=hT.O0 hB
       have HAk:=hJ (show cO (i:Int) ((bJ x).take (k+1))=cO (i:Int) ((bJ x).take k)++[((i:Int),ay y.1,(y.2:Int))] by rw[List.take_add_one,hy];simp[cO])
       have hal:(bQ (F.take i)++cO (i:Int) ((bJ x).take k)).length<=4*513+513:=by
        rw[List.length_append,iL,List.length_take,<- HM.out]
        omega
       obtain⟨a,ha⟩:∃ a,(bQ (F.take i)++cO (i:Int) ((bJ x).take k)).length=a:=⟨_,rfl⟩
       rw[ha] at hal
       have HAl:=hJ ha
       have HNext:=hJ (fun(vo:Value) (w':World) (h:Two W b2 vo (.slice (some ⟨g,off,none⟩) m cl) ((bQ (F.take i)++cO (i:Int) ((bJ x).take k))++[((i:Int),ay y.1,(y.2:Int))]) (cO 0 (bJ x)) w')=>show Two W b2 vo (.slice (some ⟨g,off,none⟩) m cl) (bQ (F.take i)++cO (i:Int) ((bJ x).take (k+1))) (cO 0 (bJ x)) w' by rw[HAk.out,<- List.append_assoc];exact h)
       have HTw:=hJ hT
       generalize hAA:bQ (F.take i)++cO (i:Int) ((bJ x).take k)=A at HAl HNext HTw
       generalize ay y.1=t at hB HNext
       generalize ((y.2:Nat):Int)=p at hB HNext
       have HB:=hJ hB
       clear hT hB hy ha hAA HAk c0
       have hi4:i<4:=oZ
       have hwr:IntKind.u8.wrap (i:Int)=(i:Int):=by rcases (show i=0∨i=1∨i=2∨i=3 by omega) with rfl | rfl | rfl | rfl <;> decide
       go_upto_region 17 with fail
       refine iC (fun(q:Nat×Nat×Nat×Value) j=>[u4,.int .i64 i,.int .u8 i,.slice (some ⟨g,off,none⟩) m cl,.int .i64 k,.pointer (some ⟨g,off+k*3,none⟩),.pointer (some ⟨g,off+k*3+1,none⟩),.string t,.slice (some ⟨g,off,none⟩) m cl,.int .i64 k,.pointer (some ⟨g,off+k*3,none⟩),.pointer (some ⟨g,off+k*3+2,none⟩),.int .i64 p,.agg #[.int .u8 i,.string t,.int .i64 p],.slice (some ⟨q.1,0,none⟩) 1 1,.slice (some ⟨q.2.1,0,none⟩) (a+1) q.2.2.1,q.2.2.2].getD j undef)
        (fun q l wx=>((l 15=true->l 14=true)/\(l 16=true->l 15=true)/\(l 15=true->l 0=true))/\(l 15=false->Two W b2 u4 (.slice (some ⟨g,off,none⟩) m cl) A (cO 0 (bJ x)) wx)/\(l 14=true->l 15=false->wx.heap[q.1]?=some (.cells #[.int .u8 i,.string t,.int .i64 p] 195 (0,0))) /\
         (l 15=true->Two W b2 (.slice (some ⟨q.2.1,0,none⟩) (a+1) q.2.2.1) (.slice (some ⟨g,off,none⟩) m cl) (A++[((i:Int),t,p)]) (cO 0 (bJ x)) wx)/\(l 16=false->q.2.2.2=u4)/\(l 16=true->q.2.2.2=.slice (some ⟨q.2.1,0,none⟩) (a+1) q.2.2.1))
        _ kZ (fun i j=>i==0&&j==16) kZ pZ (0,0,0,u4) ?_ ?_ ?_ ?_ ?_
       ·exact⟨⟨fun h=>absurd h sZ,fun h=>absurd h sZ,fun h=>absurd h sZ⟩,fun _=>HTw.out.drew,fun h=>absurd h sZ,fun h=>absurd h sZ,fun _=>rfl,fun h=>absurd h sZ⟩
       ·intro l hc i' j' hL hj
        obtain⟨rfl,rfl⟩:i'=0/\j'=16:=by simpa using hL
        exact hc 15 _ rfl (hc 16 _ rfl hj ⟨15,.data⟩ sZ rfl) ⟨0,.data⟩ sZ rfl
       ·intro q l wx hR i' j' d hL hd hj
        obtain⟨rfl,rfl⟩:i'=0/\j'=16:=by simpa using hL
        obtain rfl:4=d:=Option.some.inj hd
        have hcur:=hR.2.2.2.2.1 hj
        show some u4=some q.2.2.2
        rw[hcur]
       ·intro j o ho q l wx hR hl he K hK
        have cells:wx.cell? ⟨g,off+k*3+1,none⟩=some (.string t)/\wx.cell? ⟨g,off+k*3+2,none⟩=some (.int .i64 p):=by
         cases h:l 15 with
         | false=>exact(hR.2.1 h).read HB.out
         | true=>exact(hR.2.2.2.1 h).read HB.out
        obtain⟨d1,d2⟩:=cells
        rcases j with _|_|_|_|_|_|_|_|_|_|_|_|_|_|_|_|_|j
        ·cases ho
         have h16:l 16=false:=by
          cases h:l 16 with
          | false=>rfl
          | true=>have:=hR.1.2.2 (hR.1.2.1 h);rw[hl] at this;cases this
         have hcur:=hR.2.2.2.2.1 h16
         obtain⟨qb,qg,qc,qv⟩:=q
         obtain rfl:qv=u4:=hcur
         go_simp;exact hK (qb,qg,qc,qv) wx (fun _ _=>rfl) ⟨⟨hR.1.1,hR.1.2.1,fun _=>rfl⟩,hR.2⟩
        ·cases ho
         go_simp;exact hK q wx (fun _ _=>rfl) hR
        ·cases ho
         go_simp;exact hK q wx (fun _ _=>rfl) hR
        ·cases ho
         go_simp;exact hK q wx (fun _ _=>rfl) hR
        ·cases ho
         go_simp;exact hK q wx (fun _ _=>rfl) hR
        ·cases ho
         go_simp;exact hK q wx (fun _ _=>rfl) hR
        ·cases ho
         go_simp;exact hK q wx (fun _ _=>rfl) hR
        ·cases ho
         go_simp;exact hK q wx (fun _ _=>rfl) hR
        ·cases ho
         go_simp;exact hK q wx (fun _ _=>rfl) hR
        ·cases ho
         go_simp;exact hK q wx (fun _ _=>rfl) hR
        ·cases ho
         go_simp;exact hK q wx (fun _ _=>rfl) hR
        ·cases ho
         go_simp;exact hK q wx (fun _ _=>rfl) hR
        ·cases ho
         go_simp;exact hK q wx (fun _ _=>rfl) hR
        ·cases ho
         go_simp;exact hK q wx (fun _ _=>rfl) hR
        ·cases ho
         have h15:l 15=false:=by
          cases h:l 15 with
          | false=>rfl
          | true=>have:=hR.1.1 h;rw[hl] at this;cases this
         have hT:=hR.2.1 h15
         go_simp
         refine hK (wx.heap.size,q.2.1,q.2.2.1,q.2.2.2) _ (fun j hj=>?_) ⟨⟨fun _=>rfl,hR.1.2⟩,fun _=>hT.alloc _,fun _ _=>nZ wx _,fun h=>?_,hR.2.2.2.2.1,hR.2.2.2.2.2⟩
         ·rcases j with _|_|_|_|_|_|_|_|_|_|_|_|_|_|_|_|_|j
          all_goals first | rfl | (rw[hl] at hj;cases hj)
         ·have h2:l 15=true:=h
          rw[h15] at h2;cases h2
        ·cases ho
         have h14:l 14=true:=he ⟨14,.data⟩ sZ rfl
         have hT:=hR.2.1 hl
         have hq:=hR.2.2.1 h14 hl
         have h16:l 16=false:=by
          cases h:l 16 with
          | false=>rfl
          | true=>have:=hR.1.2.1 h;rw[hl] at this;cases this
         rw[if_pos (by go_simp)]
         refine wp_append_lies wx (.tmp 40) (.tmp 54) 169 rfl W.heap.size 195 iT _ 3 32 Tryz.underlying169 HIT.out.1 HIT.out.2.1 HIT.out.2.2.1 HIT.out.2.2.2 rfl dZ u4 a (jS A) rfl (by have:=hT.out;unfold eX at this;rw[HAl.out] at this;exact this) ⟨q.1,0,none⟩ 1 1 [.int .u8 i,.string t,.int .i64 p] rfl rfl (Ij hq) vZ dZ mZ oZ hT.low.size wx.heap.size rfl ?_
         intro g' c' w' ho2 hg2 hl2 _
         have h0:l 0=true:=he ⟨0,.data⟩ sZ rfl
         refine hK (q.1,g',c',q.2.2.2) w' (fun j hj=>?_) ⟨⟨fun _=>h14,fun _=>rfl,fun _=>h0⟩,fun h=>absurd h sZ,fun _ h=>absurd h sZ,fun _=>?_,hR.2.2.2.2.1,fun h=>absurd (show l 16=true from h) (by rw[h16];simp)⟩
         ·rcases j with _|_|_|_|_|_|_|_|_|_|_|_|_|_|_|_|_|j
          all_goals first | rfl | (rw[hl] at hj;cases hj) | (rw[h16] at hj;cases hj)
         ·have hm:=hT.more (x:=((i:Int),t,p)) (g:=g') (cap:=c') (by rw[HAl.out];exact ho2) hg2 hl2
          rw[HAl.out] at hm
          exact hm
        ·cases ho
         have h15:l 15=true:=he ⟨15,.data⟩ sZ rfl
         go_simp
         refine hK (q.1,q.2.1,q.2.2.1,.slice (some ⟨q.2.1,0,none⟩) (a+1) q.2.2.1) wx (fun j hj=>?_) ⟨⟨hR.1.1,fun _=>h15,hR.1.2.2⟩,hR.2.1,hR.2.2.1,hR.2.2.2.1,fun h=>absurd h sZ,fun _=>rfl⟩
         rcases j with _|_|_|_|_|_|_|_|_|_|_|_|_|_|_|_|_|j
         all_goals first | rfl | (rw[hl] at hj;cases hj)
        ·simp at ho
       ·intro q l wx hl hR
        have hT16:=hR.2.2.2.1 (hl 15 sZ)
        have hcur:=hR.2.2.2.2.2 (hl 16 sZ)
        obtain⟨qb,qg,qc,qv⟩:=q
        obtain rfl:qv=.slice (some ⟨qg,0,none⟩) (a+1) qc:=hcur
        have HN2:=hJ (HNext.out _ wx hT16)
        clear hT16 hR hl HTw HNext HB HAl
        go_wp2_with fail
        go_roundw
        case rel=>exact⟨k+1,oZ,by go_num,HN2.out⟩
        case measure=>simp[intOf];omega
      ·have hk':k=m:=oZ
       have hT2:Two W b2 u4 (.slice ol m cl) (bQ (F.take (i+1))) (cO 0 (bJ x)) wr:=by
        rw[HFt.out]
        rw[show (bJ x).take k=bJ x from List.take_of_length_le (by rw[<- HM.out];omega)] at hT
        exact hT
       have HT2:=hJ hT2
       clear hT hT2 c0
       go_wp2_with fail
       go_roundw
       case rel=>exact⟨i+1,oZ,by go_num,HT2.out.out,HT2.out.low⟩
       case measure=>simp[intOf];omega
    ·have hi':i=n:=oZ
     rw[show F.take i=F from List.take_of_length_le (by rw[HN.out];omega)] at hown
     obtain⟨ao,co,rfl⟩:=fA hown (bQ F).length rfl
     have HO:=hJ hown
     have HL:=hJ hlow
     obtain⟨z,hz⟩:∃ z,(bQ F).length=z:=⟨_,rfl⟩
     have HZ:=hJ hz
     rw[hz]
     clear hown hlow hz
     by_cases h64:64<z
     ·have h64i:(64:Int)<(z:Int):=oZ
      have HE:=hJ (HBad.out (.inr (by rw[HZ.out];exact h64)))
      go_wp2_with fail
      go_ret2
      exact⟨_,by rw[HE.out.2];rfl,by rw[HE.out.1];exact World.ownsRow_nil _ _ _ _,HL.out⟩
     ·have h64i:¬ (64:Int)<(z:Int):=oZ
      have HE:=hJ (HGood.out (by
       rintro((h | ⟨x,hx,hb⟩) | h)
       ·rw[HN.out] at h;omega
       ·have:=HSm.out x hx;omega
       ·rw[HZ.out] at h;omega))
      rw[HZ.out] at HO
      go_wp2_with fail
      go_ret2
      exact⟨_,by rw[HE.out.2];rfl,by rw[HE.out.1];exact HO.out,HL.out⟩
end Go.Proofs.YtlfndoclbebdaaaGreatDoor
