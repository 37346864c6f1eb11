/-
 What stage 12 rests on.
-/
import Derived.Test.YtafaohnhlgcnpaaGreatDoorWrAlE3
import Derived.Test.YtafaohnhlgcnpaaGreatDoorWrAlC5
import Derived.Test.YtafaohnhlgcnpaaGreatDoorWrAlC2
set_option maxRecDepth 100000
set_option maxHeartbeats 16000000
namespace Go.Proofs.YtafaohnhlgcnpaaGreatDoor
open Go.RowKit
/-! ### Stop words -/
def fO:List ByteArray:=fJ.map ay
def yg:Array Value:=(fO.map Value.string).toArray
theorem rW:fO.length=17:=rfl
theorem Bq:∀ t∈fJ,∀ b∈t,b<256:=dZ
theorem qC (s:ByteArray):s∈fO↔kX (ax s)=true:=by
 unfold fO kX;rw[List.contains_iff_mem,List.mem_map];constructor
 ·rintro⟨t,ht,rfl⟩;rw[aX t (Bq t ht)];exact ht
 ·intro h;exact⟨_,h,iX s⟩
theorem FB (w:World):Calls Tryz.prog 195 #[] w fun e w'=>e=.returned (.slice (some ⟨w.heap.size,0,none⟩) 17 17)/\w'.heap[w.heap.size]?=some (.cells yg 9 (0,0))/\Below w.heap.size w w':=by
 go_enter Tryz.func195,Tryz.ntmps195
 go_wp2_with fail
 go_ret;exact⟨rfl,nZ w _,aj⟩
theorem Hl (w:World) (s:ByteArray):Calls Tryz.prog 168 #[.string s] w fun e w'=>e=.returned (.bool (kX (ax s)))/\Below w.heap.size w w':=by
 go_enter Tryz.func168,Tryz.ntmps168
 go_wp2_with fail
 refine(FB w).mono ?_;rintro e w1 ⟨rfl,hh,hb⟩
 have hc:∀ i x,fO[i]?=some x->w1.cell? ⟨w.heap.size,i,none⟩=some (.string x):=by
  intro i x hx;rw[Lib.cell_of_heap hh i];unfold yg;simp[hx]
 have HC:=hJ hc;have HB:=hJ hb;clear hh hb hc;go_wp2_with fail
 go_loopw [8] (fun iv wr=>∃ i:Nat,i<=17/\iv=.int .i64 i/\wr=w1/\∀ j x,j<i->fO[j]?=some x->x≠s) (fun iv _=>17-(intOf iv).toNat)
 case atStart=>exact⟨0,oZ,rfl,rfl,fun j x hj=>oZ⟩
 case round =>
  obtain⟨i,hi,rfl,rfl,hno⟩:=hrel;have HN:=hJ hno;clear hno;by_cases hlt:i<17
  ·obtain⟨x,hx⟩:∃ x,fO[i]?=some x:=⟨_,gZ (by rw[rW];exact hlt)⟩;have c0:=HC.out i x hx;by_cases he:x=s
   ·have HS:=hJ (show kX (ax s)=true from(qC s).1 (he ▸ List.mem_of_getElem? hx));subst he;clear hx;go_wp2_with fail
    go_ret;exact⟨by rw[HS.out];rfl,HB.out⟩
   ·have HX:=hJ hx;have q:=EK he;clear hx;go_wp2_with fail
    go_roundw
    case rel =>
     refine⟨i+1,oZ,by go_num,trivial,fun j y hj hy=>?_⟩;by_cases hji:j<i
     ·exact HN.out j y hji hy
     ·obtain rfl:j=i:=oZ;rw[HX.out] at hy;cases hy;exact he
    case measure=>simp[intOf];omega
  ·have HS:=hJ (show kX (ax s)=false by
    have hm:¬ s∈fO:=fun hm=>by
     obtain⟨j,hj⟩:=List.getElem?_of_mem hm;exact HN.out j s (by have:=(eZ.1 hj).1;rw[rW] at this;omega) hj rfl
    rw[qC] at hm;simpa using hm)
   go_wp2_with fail
   go_ret;exact⟨by rw[HS.out];rfl,HB.out⟩
/-! ### Words in memory -/
abbrev Tk:=Int×ByteArray×Int
def Dg (x:Tk):List Value:=[.int .u8 x.1,.string x.2.1,.int .i64 x.2.2]
def je (l:List Tk):List Value:=l.flatMap Dg
theorem mF (a b:List Tk):je (a++b)=je a++je b:=List.flatMap_append
theorem yt:∀ (l:List Tk) (j:Nat) (x:Tk),l[j]?=some x->(je l)[j*3]?=some (.int .u8 x.1)/\(je l)[j*3+1]?=some (.string x.2.1)/\(je l)[j*3+2]?=some (.int .i64 x.2.2)
 | [],j,x,h=>by simp at h
 | y :: l,0,x,h=>by
  simp at h;subst h;exact⟨rfl,rfl,rfl⟩
 | y :: l,j+1,x,h=>by
  have:=yt l j x (by simpa using h);have e:je (y :: l)=Dg y++je l:=rfl;rw[e,show (j+1)*3=(Dg y).length+j*3 by simp[Dg];omega];refine⟨?_,?_,?_⟩
  ·rw[List.getElem?_append_right oZ,Nat.add_sub_cancel_left];exact this.1
  ·rw[Nat.add_assoc,List.getElem?_append_right oZ,Nat.add_sub_cancel_left];exact this.2.1
  ·rw[Nat.add_assoc,List.getElem?_append_right oZ,Nat.add_sub_cancel_left];exact this.2.2
def dW (w:World) (base:Nat) (v:Value) (l:List Tk):Prop:=w.ownsRow base 195 3 v l.length (je l)
theorem nO:(Tryz.prog.info? 195).map (fun i=>(i.zero,i.size,i.bytes))=some (some (.agg #[.int .u8 0,.string ⟨#[]⟩,.int .i64 0]),3,32):=kZ
def lT (w:World) (oa:Option Addr) (l:List Tk):Prop:=∀ (j:Nat) (x:Tk),l[j]?=some x->∃ g o:Nat,oa=some ⟨g,o,none⟩/\w.cell? ⟨g,o+j*3,none⟩=some (.int .u8 x.1)/\w.cell? ⟨g,o+j*3+1,none⟩=some (.string x.2.1)/\w.cell? ⟨g,o+j*3+2,none⟩=some (.int .i64 x.2.2)
theorem lT.below {w w':World} {oa:Option Addr} {l:List Tk} (h:lT w oa l) (hb:Below w.heap.size w w'):lT w' oa l:=fun j x hj=>by
 obtain⟨g,o,h0,h1,h2,h3⟩:=h j x hj;exact⟨g,o,h0,az h1 hb,az h2 hb,az h3 hb⟩
theorem jA {w:World} {base:Nat} {v:Value} {l:List Tk} (h:dW w base v l):∃ oa cap,v=.slice oa l.length cap/\l.length<=cap/\cap<=maxLen/\lT w oa l:=by
 rcases h.2 with ⟨rfl,h0⟩ | ⟨g,cap,cur,rfl,hb,hg,hn,hm,hs,ht⟩
 ·have:l=[]:=List.eq_nil_of_length_eq_zero h0;subst this;exact⟨none,0,rfl,sZ,by simp[maxLen],fun j x hj=>by simp at hj⟩
 ·refine⟨_,cap,rfl,hn,hm,fun j x hj=>⟨g,0,rfl,?_⟩⟩;have h3:=yt l j x hj;have hc:=World.ownsRow.cells h (g:=g) rfl;simp only[Addr.add_lit] at hc;exact⟨hc _ _ h3.1,by simpa [Nat.add_assoc] using hc _ _ h3.2.1,by simpa [Nat.add_assoc] using hc _ _ h3.2.2⟩
def outT (o:List (List Nat)):List Tk:=o.zipIdx.map fun x=>((0:Int),ay x.1,(x.2:Int))
theorem GR (o:List (List Nat)) (t:List Nat):outT (o++[t])=outT o++[((0:Int),ay t,(o.length:Int))]:=by
 unfold outT;rw[List.zipIdx_append];simp
theorem kQ (o:List (List Nat)):(outT o).length=o.length:=by simp[outT]
/-! ### Rows of several kinds side by side -/
theorem Lf {e:TypeId} {size n base:Nat} {v:Value} {xs:List Value} {w:World} (h:w.ownsRow base e size v n xs) {b:Nat} {cs:Array Value} {t:TypeId} (hb:w.heap[b]?=some (.cells cs t (0,0))) (hne:e≠t):v.ownBlock≠some b:=by
 rcases h.2 with ⟨rfl,_⟩ | ⟨g,cap,cur,rfl,_,hg,_⟩
 ·simp[Value.ownBlock]
 ·intro hh;simp[Value.ownBlock] at hh;subst hh;rw[hg] at hb;simp at hb;exact hne hb.2
theorem ja {e e2:TypeId} {size n base size2 n2 base2:Nat} {v v2:Value} {xs xs2:List Value} {w w':World} (h:w.ownsRow base e size v n xs) (h2:w.ownsRow base2 e2 size2 v2 n2 xs2) (hne:e2≠e) (hg:w.grownBy w' v2.ownBlock):w'.ownsRow base e size v n xs:=by
 refine h.kept hg ?_;rcases h.2 with ⟨rfl,_⟩ | ⟨g,cap,cur,rfl,_,hgg,_⟩
 ·exact .inl rfl
 ·exact .inr fun e'=>Lf h2 hgg hne (e'.symm.trans (by simp[Value.ownBlock]))
theorem nI {w:World} {a b c:Value} {t:TypeId}:∀ (j:Nat) (u:Value),[a,b,c][j]?=some u->(w.alloc (.cells #[a,b,c] t)).cell? ((⟨w.heap.size,0,none⟩:Addr).add j)=some u:=by
 intro j u hj;rw[Addr.add_lit,Lib.cell_of_heap (nZ w _)];simpa using hj
structure jJ (W:World) (vl vo vc:Value) (L:List Nat) (st:jH) (w:World):Prop where
 row:iV w W.heap.size vl L
 out:dW w W.heap.size vo (outT st.out)
 cur:BytesIn w W.heap.size vc st.cur
 low:Below W.heap.size W w
section
variable {W:World} {vl vo vc:Value} {L:List Nat} {st:jH} {w:World}
theorem jJ.below {w':World} (h:jJ W vl vo vc L st w) (hb:Below w.heap.size w w'):jJ W vl vo vc L st w' :=
 ⟨ak h.row hb,ak h.out hb,ak h.cur hb,h.low.trans (hb.mono h.low.size)⟩
theorem jJ.re (h:jJ W vl vo vc L st w) (f s:Bool):jJ W vl vo vc L ⟨st.out,st.cur,f,s⟩ w:=⟨h.row,h.out,h.cur,h.low⟩
theorem jJ.word {w2:World} {vo':Value} {o:Obj} (h:jJ W vl vo vc L st w)
  (ho:w2.ownsRow W.heap.size 195 3 vo' ((outT st.out).length+1) (je (outT st.out)++[.int .u8 0,.string (ay st.cur),.int .i64 st.out.length])) (hg:(w.alloc o).grownBy w2 vo.ownBlock) :
  jJ W vl vo' vc L ⟨st.out++[st.cur],st.cur,st.full,st.some⟩ w2:=by
 have hs:=h.low.size;refine⟨ja (h.row.alloc o) (World.ownsRow.alloc h.out o) dZ hg,?_,ja (World.ownsRow.alloc h.cur o) (World.ownsRow.alloc h.out o) dZ hg,(h.low.alloc hs o).grown hg uZ (fun k hk=>(World.ownsRow.lt h.out k hk).1)⟩;unfold dW;rw[GR,mF];simpa [je,Dg] using ho
theorem jJ.fresh (h:jJ W vl vo vc L st w) (f s:Bool):jJ W vl vo (.slice (some ⟨w.heap.size,0,none⟩) 0 0) L ⟨st.out,[],f,s⟩ (w.alloc (.cells #[] 5)) :=
 ⟨h.row.alloc _,World.ownsRow.alloc h.out _,World.ownsRow_lit (base:=W.heap.size) (e:=5) (size:=1) w #[] 0 h.low.size dZ sZ,h.low.alloc h.low.size _⟩
theorem jJ.grow {w2:World} {vc':Value} {x:List Nat} (h:jJ W vl vo vc L st w) (s:Bool)
  (ho:w2.ownsRow W.heap.size 5 1 vc' (st.cur.length+x.length) (st.cur.map (fun(b:Nat)=>Value.int .u8 (b:Int))++x.map (fun(b:Nat)=>Value.int .u8 (b:Int)))) (hg:w.grownBy w2 vc.ownBlock) :
  jJ W vl vo vc' L ⟨st.out,st.cur++x,st.full,s⟩ w2 :=
 ⟨ja h.row h.cur dZ hg,ja h.out h.cur dZ hg,by unfold BytesIn;simpa using ho,h.low.grown hg h.low.size (fun k hk=>(World.ownsRow.lt h.cur k hk).1)⟩
end
theorem qh:∀ (l:List Nat) (st:jH),(bq st l).out.length<=st.out.length+l.length
 | [],st=>by simp[bq]
 | r :: l,st=>by
  rw[fC];have h:=qh l (dG st r)
  have h2:(dG st r).out.length<=st.out.length+1:=by
   unfold dG;split
   ·cases st.some <;> simp
   ·split <;> simp
  simp only[List.length_cons];omega
theorem nH.LY {st:jH} (h:nH st):st.cur.length<=16/\∀ b∈st.cur,b<256:=by
 cases hs:st.some
 ·rw[(h.no hs).1];simp
 ·have ht:=h.cur hs;refine⟨ht.len,?_⟩;obtain⟨q,_,e,hq⟩:=ht.ex;rw[e];intro b hb;obtain⟨x,hx,hbx⟩:=List.mem_flatMap.1 hb;exact sJ x (hq x hx).1 b hbx
theorem Hr {w:World} {base:Nat} {v:Value} {L:List Nat} (N:Nat) (h:iV w base v L) (hn:L.length=N) (h0:N≠0):∃ g cap,v=.slice (some ⟨g,0,none⟩) N cap:=by
 rcases h.2 with ⟨_,h1⟩ | ⟨g,cap,cur,rfl,_⟩
 ·omega
 ·exact⟨g,cap,by rw[hn]⟩
theorem dP {e:TypeId} {size n base:Nat} {v:Value} {xs:List Value} {w:World} (h:w.ownsRow base e size v n xs) (m:Nat) (hm:n=m):∃ ao c,v=.slice ao m c:=by
 subst hm;rcases h.2 with ⟨rfl,h0⟩ | ⟨g,cap,cur,rfl,_⟩
 ·exact⟨none,0,by rw[h0]⟩
 ·exact⟨_,cap,rfl⟩
theorem Kr (W:World) (s:ByteArray) (hs:s.size<=1000000) :
    Calls Tryz.prog 167 #[.string s] W fun e w'=>∃ v,e=.returned v/\dW w' W.heap.size v (outT (allT s))/\Below W.heap.size W w':=by
  obtain⟨i0,hi,hz0,hz1,hz2⟩:=info_parts vR;have HI:=hJ (And.intro hi (And.intro hz0 (And.intro hz1 hz2)));obtain⟨iT,hi,hz0,hz1,hz2⟩:=info_parts nO;have HIT:=hJ (And.intro hi (And.intro hz0 (And.intro hz1 hz2)));obtain⟨iB,hi,hz0,hz1,hz2⟩:=info_parts jE;have HIB:=hJ (And.intro hi (And.intro hz0 (And.intro hz1 hz2)));have HL:=hJ (iG s).1;have HOk:=hJ (pI s);have HRun:=hJ (GI W s hs);clear hi hz0 hz1 hz2;obtain⟨N,hN⟩:∃ N,N=(aW s).length+1:=⟨_,rfl⟩;have HN:=hJ (show ((aW s)++[32]).length=N/\N≠0 by rw[hN];simp);have HNe:=hJ hN;clear hN;go_enter Tryz.func167,Tryz.ntmps167
  go_wp2_with fail
  refine HRun.out.mono ?_;rintro e w1 ⟨v,rfl,hnn,hr,hb⟩;have HR:=hJ hr;have HB:=hJ hb;clear hr hb hnn HRun;go_wp2_with (at_builtin;refine wpList_append_own _ rfl (.tmp 11) (.tmp 12) 259 rfl W.heap.size 21 i0 _ 1 4 Tryz.underlying259 HI.out.1 HI.out.2.1 HI.out.2.2.1 HI.out.2.2.2 rfl dZ _ (aW s).length ((aW s).map fun(r:Nat)=>Value.int .i32 (r:Int)) rfl (World.ownsRow.alloc HR.out _) ⟨w1.heap.size,0,none⟩ 1 1 [.int .i32 32] rfl rfl one_cell vZ (by have:=HL.out;unfold maxLen;omega) (by have:=HL.out;omega) (by have:=HB.out.size;simp;omega) ?_;intro v1 w2 ho hg _;have HR2:=hJ (pO (r:=32) HB.out HR.out ho hg);clear ho hg;obtain⟨g,cap,rfl⟩:=Hr N HR2.out.1 HN.out.1 HN.out.2)
  obtain⟨L,hLd⟩:∃ L,L=aW s++[32]:=⟨_,rfl⟩;rw[<- hLd] at HR2;have hLe:L.length=N:=by rw[hLd];exact HN.out.1
  have HLk:=hJ (show ∀ r∈L,gI r by
    intro r hr;rw[hLd] at hr;rcases List.mem_append.1 hr with h | h
    · exact HOk.out r h
    · simp at h;subst h;exact Cc)
  have HAll:=hJ (show allT s=(bq gY L).out by rw[hLd];rfl);have hLs:N<=1000001:=by have:=HL.out;have:=HNe.out;omega
  have HLe:=hJ hLe;clear hLd hLe HR HB HOk HL HN HNe;have hsz2:=HR2.out.2.size;go_loopw [4,5,6,7,18] (fun vo vc fl so iv wr=>∃ i:Nat,i<=N/\iv=.int .i64 i/\fl=.bool (bq gY (L.take i)).full/\so=.bool (bq gY (L.take i)).some/\jJ W (.slice (some ⟨g,0,none⟩) N cap) vo vc L (bq gY (L.take i)) wr) (fun _ _ _ _ iv _=>N-(intOf iv).toNat)
  case atStart =>
    refine⟨0,oZ,rfl,rfl,rfl,?_⟩;have hb:=HR2.out.2
    exact⟨(HR2.out.1.alloc _).alloc _,World.ownsRow.alloc (World.ownsRow_lit (base:=W.heap.size) (e:=195) (size:=3) w2 #[] 0 hsz2 dZ sZ) _,
      by have:=World.ownsRow_lit (base:=W.heap.size) (e:=5) (size:=1) (w2.alloc (.cells #[] 195)) #[] 0 uZ dZ sZ
         rw[show (w2.alloc (.cells #[] 195)).heap.size=w2.heap.size+1 by simp] at this;exact this,(hb.alloc hsz2 _).alloc uZ _⟩
  case round =>
    obtain⟨i,hi,rfl,rfl,rfl,hA⟩:=hrel;have hF:nH (bq gY (L.take i)):=K8.run _ fun r hr=>HLk.out r (List.mem_of_mem_take hr);have hO:=qh (L.take i) gY;by_cases hlt:i<N
    · obtain⟨r,hr⟩:∃ r,L[i]?=some r:=⟨_,gZ (by rw[HLe.out];exact hlt)⟩
      have hcell:wr.cell? ⟨g,i,none⟩=some (.int .i32 (r:Int)):=by
        have:=World.ownsRow.cells hA.row (g:=g) rfl i (.int .i32 (r:Int)) (by simp[hr]);rwa [Addr.add_lit,Nat.zero_add] at this
      have hnx:bq gY (L.take (i+1))=dG (bq gY (L.take i)) r:=by rw[List.take_add_one,hr];exact ut _ _ _
      have hok:=HLk.out r (List.mem_of_getElem? hr);have HC0:=hJ (fun w=>FE w (r:Int));have HFo:=hJ (fun w=>Ib w (r:Int));have HBy:=hJ (fun w=>rU w (dn r) (kW hok).2);rw[<- (kW hok).1] at HFo;have hcur:=hF.LY;have hE:=DK (dn r);have hO2:(bq gY (L.take i)).out.length<=1000001:=by rw[List.length_take,show gY.out.length=0 from rfl] at hO;omega
      have hsz:=hA.low.size;have HX:=hJ hnx;generalize hst:bq gY (L.take i)=st at *;obtain⟨so,sc,sf,ss⟩:=st;have HA:=hJ hA;clear hA hnx hst hF hO hr hok;by_cases hc:cO (r:Int)=0
      · rw[hc] at HC0;have HX2:=hJ (show bq gY (L.take (i+1))=⟨if ss then so++[sc] else so,[],false,false⟩ by rw[HX.out];unfold dG;rw[if_pos hc]);clear hc;cases ss
        · go_wp2_with fail
          refine(HC0.out _).mono ?_;rintro e w5 ⟨rfl,rfl⟩;have HA2:=hJ (HA.out.fresh false false);go_wp2_with fail
          go_roundw
          case rel=>exact⟨i+1,oZ,by go_num,by rw[HX2.out],by rw[HX2.out],by rw[HX2.out];exact HA2.out⟩
          case measure=>simp[intOf];omega
        · have hcs:=mr HA.out.cur hcur.2;obtain⟨ao,co,rfl⟩:=dP HA.out.out so.length (kQ so);go_wp2_with fail
          refine(HC0.out _).mono ?_;rintro e w5 ⟨rfl,rfl⟩;go_wp2_with (at_builtin;refine wpList_append_own _ rfl (.tmp 28) (.tmp 34) 169 rfl W.heap.size 195 iT _ 3 32 Tryz.underlying169 HIT.out.1 HIT.out.2.1 HIT.out.2.2.1 HIT.out.2.2.2 rfl dZ _ (outT so).length (je (outT so)) rfl (World.ownsRow.alloc HA.out.out _) ⟨w5.heap.size,0,none⟩ 1 1 [.int .u8 0,.string (ay sc),.int .i64 so.length] rfl rfl nI vZ (by rw[kQ];unfold maxLen;omega) (by rw[kQ];omega) (by have:=HA.out.low.size;simp;omega) ?_;intro v' w6 ho hg _;have HA6:=hJ (HA.out.word ho hg);clear ho hg)
          have HA7:=hJ (HA6.out.fresh false false);clear HA6 HA;go_wp2_with fail
          go_roundw
          case rel=>exact⟨i+1,oZ,by go_num,by rw[HX2.out],by rw[HX2.out],by rw[HX2.out];exact HA7.out⟩
          case measure=>simp[intOf];omega
      · have hcne:(cO (r:Int)==0)=false:=beq_eq_false_iff_ne.2 hc;have HXc:=hJ hc;generalize cO (r:Int)=cz at HC0 hcne;clear hc;by_cases hfull:sf=true
        · subst hfull;have HX2:=hJ (show bq gY (L.take (i+1))=⟨so,sc,true,true⟩ by rw[HX.out];unfold dG;rw[if_neg HXc.out,if_pos (Or.inl rfl)]);go_wp2_with fail
          refine(HC0.out _).mono ?_;rintro e w5 ⟨rfl,rfl⟩;go_wp2_with fail
          refine(HFo.out _).mono ?_;rintro e w5 ⟨rfl,rfl⟩;go_wp2_with fail
          refine(HBy.out _).mono ?_;rintro e w6 ⟨gb,rfl,hby,hb6⟩;have HA6:=hJ ((HA.out.below hb6).re true true);clear hby hb6 HA;go_wp2_with fail
          go_roundw
          case rel=>exact⟨i+1,oZ,by go_num,by rw[HX2.out],by rw[HX2.out],by rw[HX2.out];exact HA6.out⟩
          case measure=>simp[intOf];omega
        · obtain rfl:sf=false:=by simpa using hfull
          obtain⟨ac,cc,rfl⟩:=dP HA.out.cur sc.length rfl;clear hfull;by_cases hov:16<sc.length+(encR (dn r)).length
          · have HX2:=hJ (show bq gY (L.take (i+1))=⟨so,sc,true,true⟩ by rw[HX.out];unfold dG;rw[if_neg HXc.out,if_pos (Or.inr hov)]);go_wp2_with fail
            refine(HC0.out _).mono ?_;rintro e w5 ⟨rfl,rfl⟩;go_wp2_with fail
            refine(HFo.out _).mono ?_;rintro e w5 ⟨rfl,rfl⟩;go_wp2_with fail
            refine(HBy.out _).mono ?_;rintro e w6 ⟨gb,rfl,hby,hb6⟩;have HA6:=hJ ((HA.out.below hb6).re true true);clear hby hb6 HA;go_wp2_with fail
            go_roundw
            case rel=>exact⟨i+1,oZ,by go_num,by rw[HX2.out],by rw[HX2.out],by rw[HX2.out];exact HA6.out⟩
            case measure=>simp[intOf];omega
          · have HX2:=hJ (show bq gY (L.take (i+1))=⟨so,sc++encR (dn r),false,true⟩ by rw[HX.out];unfold dG;rw[if_neg HXc.out,if_neg uZ]);go_wp2_with fail
            refine(HC0.out _).mono ?_;rintro e w5 ⟨rfl,rfl⟩;go_wp2_with fail
            refine(HFo.out _).mono ?_;rintro e w5 ⟨rfl,rfl⟩;go_wp2_with fail
            refine(HBy.out _).mono ?_;rintro e w6 ⟨gb,rfl,hby,hb6⟩;have HA6:=hJ (HA.out.below hb6);have HG:=hJ hby;clear hby hb6 HA;go_wp2_with (at_builtin;refine wpList_append_own _ rfl (.tmp 52) (.tmp 53) 256 rfl W.heap.size 5 iB _ 1 1 Tryz.underlying256 HIB.out.1 HIB.out.2.1 HIB.out.2.2.1 HIB.out.2.2.2 rfl dZ _ sc.length (sc.map fun(b:Nat)=>Value.int .u8 (b:Int)) rfl HA6.out.cur ⟨gb,0,none⟩ (encR (dn r)).length (encR (dn r)).length ((encR (dn r)).map fun(b:Nat)=>Value.int .u8 (b:Int)) rfl sZ (zt HG.out) (wQ _) mZ oZ (by have:=HA6.out.low.size;omega) ?_;intro v' w7 ho hg _;have HA7:=hJ ((HA6.out.grow true ho hg).re false true);clear ho hg)
            go_roundw
            case rel=>exact⟨i+1,oZ,by go_num,by rw[HX2.out],by rw[HX2.out],by rw[HX2.out];exact HA7.out⟩
            case measure=>simp[intOf];omega
    · have hi':i=N:=oZ
      have hA2:jJ W (.slice (some ⟨g,0,none⟩) N cap) u4 u5 L (bq gY L) wr:=by
        have:L.take i=L:=List.take_of_length_le (by rw[HLe.out];omega);rwa [this] at hA
      have HA:=hJ hA2;clear hA hA2 hF hO;go_wp2_with fail
      go_ret;exact⟨_,rfl,by rw[HAll.out];exact HA.out.out,HA.out.low⟩
/-! ### Without the program's text -/
def aM (x:Tk):List Nat:=x.1.toNat :: ax x.2.1
theorem iE {x:Tk} (h0:0<=x.1) (h1:x.1<=255):∀ b∈aM x,b<256:=by
 intro b hb;rcases List.mem_cons.1 hb with e | e
 ·omega
 ·exact iD _ b e
def jo (P:List (List Nat)×List Nat) (k:List Nat):List (List Nat)×List Nat:=if k∈P.1 then(P.1,P.2.set (P.1.idxOf k) (P.2.getD (P.1.idxOf k) 0+1)) else(P.1++[k],P.2++[1])
def mM (l:List Tk) (P:List (List Nat)×List Nat):List (List Nat)×List Nat:=(l.map aM).foldl jo P
def bg (l:List Tk):List (List Nat)×List Nat:=mM l ([],[])
structure LA (P:List (List Nat)×List Nat) (m:Nat):Prop where
 nd:P.1.Nodup
 len:P.2.length=P.1.length
 many:P.1.length<=m
 cnt:∀ x∈P.2,x<=m
 byte:∀ k∈P.1,∀ b∈k,b<256
theorem LA.new (m:Nat):LA ([],[]) m:=⟨List.nodup_nil,rfl,Nat.zero_le _,sZ,sZ⟩
theorem LA.step {P:List (List Nat)×List Nat} {m:Nat} (h:LA P m) {k:List Nat} (hk8:∀ b∈k,b<256):LA (jo P k) (m+1):=by
 unfold jo;split
 ·refine⟨h.nd,by rw[List.length_set];exact h.len,(by have:=h.many;show P.1.length<=m+1;omega),fun x hx=>?_,h.byte⟩;rcases List.mem_or_eq_of_mem_set hx with hx | hx
  ·have:=h.cnt x hx;omega
  ·rw[hx,List.getD_eq_getElem?_getD];cases e:P.2[P.1.idxOf k]? with
   | none=>simp
   | some y =>
    have:=h.cnt y (List.mem_of_getElem? e);simp only[Option.getD_some];omega
 ·rename_i hk
  refine⟨?_,by simp[h.len],by have:=h.many;simp;omega,fun x hx=>?_,fun a ha=>?_⟩
  ·rw[List.nodup_append];refine⟨h.nd,sZ,fun a ha b hb=>?_⟩;simp at hb;rw[hb];rintro rfl;exact hk ha
  ·rcases List.mem_append.1 hx with hx | hx
   ·have:=h.cnt x hx;omega
   ·simp at hx;omega
  ·rcases List.mem_append.1 ha with ha | ha
   ·exact h.byte a ha
   ·simp at ha;rw[ha];exact hk8
def J4 (K:List (List Nat)) (k:List Nat) (j:Nat):Int:=if k∈K.take j then(K.idxOf k:Int) else -1
theorem J9 {K:List (List Nat)} {k:List Nat} {q:Nat} (hq:K.length=q):(k∈K->∃ p,p<q/\K.idxOf k=p/\J4 K k q=(p:Int))/\(¬ k∈K->J4 K k q=-1):=by
 unfold J4;rw[List.take_of_length_le oZ];refine⟨fun h=>⟨K.idxOf k,by rw[<- hq];exact List.idxOf_lt_length_of_mem h,rfl,by rw[if_pos h]⟩,fun h=>by rw[if_neg h]⟩
theorem Kb {K:List (List Nat)} {k:List Nat} {j:Nat} (hn:K.Nodup) (hj:K[j]?=some k):J4 K k (j+1)=(j:Int):=by
 obtain⟨hlt,he⟩:=eZ.1 hj;unfold J4;rw[if_pos (by rw[List.take_add_one,hj];simp)];have:=hn.idxOf_getElem j hlt;rw[he] at this;rw[this]
theorem JB {K:List (List Nat)} {k y:List Nat} {j:Nat} (hj:K[j]?=some y) (hne:y≠k):J4 K k (j+1)=J4 K k j:=by
 unfold J4;rw[List.take_add_one,hj];simp only[Option.toList_some,List.mem_append,List.mem_singleton];by_cases h:k∈K.take j
 ·rw[if_pos (.inl h),if_pos h]
 ·rw[if_neg (fun c=>c.elim h (fun e=>hne e.symm)),if_neg h]
/-! ### Over the program's text -/
def sI (w:World) (base:Nat) (v:Value) (K:List (List Nat)):Prop:=w.ownsRow base 9 1 v K.length (K.map fun k=>Value.string (ay k))
theorem FW:(Tryz.prog.info? 9).map (fun i=>(i.zero,i.size,i.bytes))=some (some (.string ⟨#[]⟩),1,16):=kZ
theorem Fg:(Tryz.prog.info? 3).map (fun i=>(i.zero,i.size,i.bytes))=some (some (.int .i64 0),1,8):=kZ
theorem Fq {x s:List Nat} (h:x=s):((ay x).toList==(ay s).toList)=true:=by rw[h];simp
theorem Av {x s:List Nat} (hx:∀ b∈x,b<256) (hs:∀ b∈s,b<256) (h:¬ x=s):((ay x).toList==(ay s).toList)=false:=by
 rw[beq_eq_false_iff_ne];intro e;apply h;rw[ByteArray.toList_eq,ByteArray.toList_eq] at e;have e2:ay x=ay s:=ByteArray.ext (Array.toList_inj.1 e);rw[<- aX x hx,<- aX s hs,e2]
theorem sI.read {w:World} {base q ck:Nat} {ok:Option Addr} {K:List (List Nat)} (h:sI w base (.slice ok q ck) K) {j:Nat} {y:List Nat} (hj:K[j]?=some y):∃ g,ok=some ⟨g,0,none⟩/\w.cell? ⟨g,j,none⟩=some (.string (ay y)):=by
 have hlt:=(eZ.1 hj).1;obtain⟨h0,⟨h1,h2⟩ | ⟨g,cap,cur,k1,k2,k3,k4,k5,k6,k7⟩⟩:=h
 ·omega
 ·injection k1 with e1 e2 e3
  refine⟨g,e1,?_⟩;rw[aa k3 j];have hm:(K.map fun k=>Value.string (ay k))[j]?=some (.string (ay y)):=by rw[List.getElem?_map,hj];rfl
  rw[<- k7,List.getElem?_take] at hm;split at hm
  ·simpa using hm
  ·cases hm
theorem Jm {n:Nat} {a b:World} (h:Below n a b) {g:Nat} (hg:n<=g) (o:Nat) (v:Value):Below n a (b.setCell ⟨g,o,none⟩ v):=h.setCell hg v
theorem JG {w w':World} {base size n:Nat} {e:TypeId} {v:Value} {xs:List Value} (h:w.ownsRow base e size v n xs) {k:Nat} {cc:Array Value} {t:TypeId} (hk:w.heap[k]?=some (.cells cc t (0,0))) (ht:t≠e) (hb:∀ j,j≠k->w'.heap[j]?=w.heap[j]?):w'.ownsRow base e size v n xs:=by
 obtain⟨h0,h | ⟨g',cap,cur,k1,k2,k3,k4⟩⟩:=h
 ·exact⟨h0,.inl h⟩
 ·refine⟨h0,.inr ⟨g',cap,cur,k1,k2,(hb g' (fun e=>?_)).trans k3,k4⟩⟩;subst e;rw[hk] at k3;injection k3 with k3
  injection k3 with _ h5
  exact ht h5
theorem Jf (w:World) (oa:Option Addr) (c n:Nat) (l:List Tk) (en:l.length=n) (hn:n<=1000) (hl:lT w oa l) (hf:∀ x∈l,0<=x.1/\x.1<=255/\x.2.1.size<=1000) :
  Calls Tryz.prog 93 #[.slice oa n c] w fun e w'=>∃ kv nv,e=.returned (.tuple #[kv,nv])/\sI w' w.heap.size kv (bg l).1/\fP 3 .i64 w' w.heap.size nv (bg l).2/\Below w.heap.size w w':=by
 have HT:=hJ hl;have HFl:=hJ hf;have HEn:=hJ en;obtain⟨Z,hZ⟩:∃ Z,Z=bg l:=⟨_,rfl⟩;rw[<- hZ];have HF0:=hJ (show mM (l.drop 0) ([],[])=Z from hZ.symm);obtain⟨i0,hi0,hz0,hz1,hz2⟩:=info_parts FW;have HIs:=hJ (And.intro hi0 (And.intro hz0 (And.intro hz1 hz2)));clear hi0 hz0 hz1 hz2;obtain⟨i1,hi0,hz0,hz1,hz2⟩:=info_parts Fg;have HIi:=hJ (And.intro hi0 (And.intro hz0 (And.intro hz1 hz2)));clear hl hf en hZ hi0 hz0 hz1 hz2;go_enter Tryz.func93,Tryz.ntmps93
 go_upto_region 3 with fail
 have HK1:=hJ (show sI ((w.alloc (.cells #[] 9)).alloc (.cells #[] 3)) w.heap.size (.slice (some ⟨w.heap.size,0,none⟩) 0 0) [] from ak (World.ownsRow_lit (base:=w.heap.size) (e:=9) (size:=1) w #[] 0 (Nat.le_refl _) dZ sZ) aj)
 have HN1:=hJ (show fP 3 .i64 ((w.alloc (.cells #[] 9)).alloc (.cells #[] 3)) w.heap.size (.slice (some ⟨w.heap.size+1,0,none⟩) 0 0) [] from by
  have:=fP.new 3 .i64 (w.alloc (.cells #[] 9)) w.heap.size sZ;simpa using this)
 have HB1:=hJ (dh (w:=w) (A:=.cells #[] 9) (B:=.cells #[] 3));generalize (w.alloc (.cells #[] 9)).alloc (.cells #[] 3)=w1 at HK1 HN1 HB1 ⊢;obtain⟨v1,hv1⟩:∃ v1,v1=Value.slice (some ⟨w.heap.size,0,none⟩) 0 0:=⟨_,rfl⟩;obtain⟨v2,hv2⟩:∃ v2,v2=Value.slice (some ⟨w.heap.size+1,0,none⟩) 0 0:=⟨_,rfl⟩;rw[<- hv1] at HK1;rw[<- hv2] at HN1;rw[<- hv1,<- hv2];clear hv1 hv2;go_wp2_with fail
 go_loopg [4,5,14] n (fun g kv nv iv wr=>∃ (i q:Nat) (P:List (List Nat)×List Nat) (kw nw:Value),i+g=n/\kw=kv/\nw=nv/\iv=.int .i64 (i:Int)/\q<=i/\Hid (P.1.length=q)/\Hid (LA P i)/\Hid (sI wr w.heap.size kw P.1)/\Hid (fP 3 .i64 wr w.heap.size nw P.2)/\Hid (Below w.heap.size w wr)/\Hid (mM (l.drop i) P=Z))
 case atStart=>exact⟨0,0,([],[]),v1,v2,oZ,rfl,rfl,rfl,oZ,hJ rfl,hJ (LA.new 0),HK1,HN1,HB1,HF0⟩
 case round =>
  clear HF0 HK1 HN1 HB1;obtain⟨i,q,P,kw,nw,hig,rfl,rfl,rfl,hqi,HQ,HOk,HKs,HNs,HB,HF⟩:=hrel;cases gk with
  | zero =>
   have hi:n=i:=oZ;have hz:=HF.out;rw[List.drop_eq_nil_of_le (by rw[HEn.out];omega)] at hz;have HE:=hJ (show P=Z from hz);subst hi;clear HF hig hz;go_wp2_with fail
   go_ret2
   exact⟨kw,nw,rfl,by rw[<- HE.out];exact HKs.out,by rw[<- HE.out];exact HNs.out,HB.out⟩
  | succ g =>
   have hi:i<n:=oZ;have hi1:(i:Int)<(n:Int):=oZ;obtain⟨x,hx⟩:∃ x,l[i]?=some x:=⟨_,gZ (by rw[HEn.out];exact hi)⟩;obtain⟨gb,ob,rfl,t1,t2,t3⟩:=HT.out.below HB.out i x hx;have hxf:=HFl.out x (List.mem_of_getElem? hx);have HKey:=hJ (fun w=>yH w x.1 x.2.1 hxf.1 hxf.2.1 oZ);have hz:=HF.out
   rw[show l.drop i=x :: l.drop (i+1) by
    have hlt:=(eZ.1 hx).1;rw[List.drop_eq_getElem_cons hlt,(eZ.1 hx).2]] at hz
   have HF2:=hJ (show mM (l.drop (i+1)) (jo P (aM x))=Z from hz);obtain⟨k,hk⟩:∃ k,k=aM x:=⟨_,rfl⟩;rw[<- hk] at HF2;rw[show (x.1.toNat :: ax x.2.1)=k from hk.symm] at HKey;have HK8:=hJ (show ∀ b∈k,b<256 by rw[hk];exact iE hxf.1 hxf.2.1);clear hz hk hx hxf HF t3;go_upto_region 6 with fail
   go_cut [7] (fun sv wx=>sv=.string (ay k)/\Hid (Below wr.heap.size wr wx))
   case first =>
    refine aL (fun(_:Unit) j=>[.slice (some ⟨gb,ob,none⟩) n c,.int .i64 (i:Int),.pointer (some ⟨gb,ob+i*3,none⟩),.pointer (some ⟨gb,ob+i*3,none⟩),.int .u8 x.1,.slice (some ⟨gb,ob,none⟩) n c,.int .i64 (i:Int),.pointer (some ⟨gb,ob+i*3,none⟩),.pointer (some ⟨gb,ob+i*3+1,none⟩),.string x.2.1,.string (ay k),.string (ay k)].getD j undef)
     (fun _ _ wx=>Below wr.heap.size wr wx)
     kZ kZ pZ () ?_ ?_ ?_
    ·exact(Below.refl _ _).drew
    ·intro i' o ho q' l' wx hR hl he K hK;rcases i' with _|_|_|_|_|_|_|_|_|_|_|_|i'
     ·cases ho;go_simp;exact hK () wx (fun _ _=>rfl) hR
     ·cases ho;go_simp;exact hK () wx (fun _ _=>rfl) hR
     ·cases ho;go_simp;exact hK () wx (fun _ _=>rfl) hR
     ·cases ho;go_simp;exact hK () wx (fun _ _=>rfl) hR
     ·cases ho;have q:=az t1 hR;go_simp;exact hK () wx (fun _ _=>rfl) hR
     ·cases ho;go_simp;exact hK () wx (fun _ _=>rfl) hR
     ·cases ho;go_simp;exact hK () wx (fun _ _=>rfl) hR
     ·cases ho;go_simp;exact hK () wx (fun _ _=>rfl) hR
     ·cases ho;go_simp;exact hK () wx (fun _ _=>rfl) hR
     ·cases ho;have q:=az t2 hR;go_simp;exact hK () wx (fun _ _=>rfl) hR
     ·cases ho;go_simp;refine(HKey.out wx).mono ?_;rintro e w2 ⟨rfl,hb2⟩;exact hK () w2 (fun _ _=>rfl) (ag hR hb2)
     ·cases ho;go_simp;exact hK () wx (fun _ _=>rfl) hR
     ·simp at ho
    ·intro q' l' wx hl hR;have HR1:=hJ hR;clear hR hl;go_wp2_with fail
     go_meet
     exact⟨rfl,HR1⟩
   case rest =>
    obtain⟨rfl,HB6⟩:=hcut;have HKs6:=hJ (ak HKs.out HB6.out);have HNs6:=hJ (HNs.out.below HB6.out);have HBw:=hJ (ag HB.out HB6.out);clear t1 t2 HKs HNs HB HKey HB6;obtain⟨ok,ck,hkw⟩:=dP HKs6.out q HQ.out;subst hkw;have HEq:=HQ;go_wp2_with fail
    go_loopg [8,30] q (fun r av jv wy=>∃ j:Nat,j+r=q/\jv=.int .i64 (j:Int)/\av=.int .i64 (J4 P.1 k j)/\Hid (Below wc.heap.size wc wy))
    case atStart=>exact⟨0,oZ,rfl,by simp[J4],hJ (Below.refl _ _)⟩
    case round =>
     obtain⟨j,hjr,rfl,rfl,HBy⟩:=hrel;cases gk with
     | zero =>
      have hj:q=j:=oZ;subst hj;clear hjr;obtain⟨hin,hout⟩:=J9 (k:=k) HQ.out;have HKw:=hJ (ak HKs6.out HBy.out);have HNw:=hJ (HNs6.out.below HBy.out);have HBz:=hJ (ag HBw.out HBy.out);have HPl:=hJ (HOk.out.len.trans HQ.out);obtain⟨on,cn,hnw⟩:=dP HNw.out q HPl.out;subst hnw;by_cases hmem:k∈P.1
      ·obtain⟨p,hp,hpi,hat⟩:=hin hmem;rw[hat];have hst:jo P k=(P.1,P.2.set p (P.2.getD p 0+1)):=by unfold jo;rw[if_pos hmem,hpi]
       obtain⟨y,hy⟩:∃ y,P.2[p]?=some y:=⟨_,gZ (by rw[HPl.out];exact hp)⟩;have hy0:P.2.getD p 0=y:=by rw[List.getD_eq_getElem?_getD,hy];rfl
       have hyb:=HOk.out.cnt y (List.mem_of_getElem? hy);rw[hy0] at hst
       have hHNw:wr.ownsRow w.heap.size 3 1 (.slice on q cn) q (gN .i64 P.2):=by
        have h:=HNw.out;unfold fP at h;rw[HPl.out] at h;exact h
       obtain⟨gn,cap,hv,_,_⟩:=fP.at_ HNw.out (by intro e;injection e with _ e2 _;omega) q HPl.out;injection hv with e1 _ e3
       subst e1 e3;obtain⟨⟨xx,hx1,hcell⟩,hfr,hown⟩:=qO hHNw (i:=p) oZ (.int .i64 ((y:Int)+1));rw[nR hy] at hx1;cases hx1;have hp1:(p:Int)<(q:Int):=oZ;have hp0:¬ (p:Int)<0:=oZ;have s1:IntKind.i64.wrap ((y:Int)+1)=(y:Int)+1:=iZ _ oZ
       have HOwn:=hJ (show fP 3 .i64 (wr.setCell ⟨gn,p,none⟩ (.int .i64 ((y:Int)+1))) w.heap.size (.slice (some ⟨gn,0,none⟩) q cn) (P.2.set p (y+1)) by
        unfold fP;rw[List.length_set,HPl.out,show gN .i64 (P.2.set p (y+1))=(gN .i64 P.2).set p (.int .i64 ((y:Int)+1)) by unfold gN;rw[List.map_set];rfl];exact hown)
       have HKx:=hJ (show sI (wr.setCell ⟨gn,p,none⟩ (.int .i64 ((y:Int)+1))) w.heap.size (.slice ok q ck) P.1 by
        obtain⟨h0,⟨h,_⟩ | ⟨g',cap',cur,k1,k2,k3,k4⟩⟩:=hHNw
        ·cases h
        ·injection k1 with e1 _ _
         injection e1 with e1
         injection e1 with e1 _ _
         subst e1;exact JG HKw.out k3 dZ (fun jj hjj=>Below.heap_setCell wr ⟨gn,p,none⟩ (.int .i64 ((y:Int)+1)) jj hjj))
       have hgw:w.heap.size<=gn:=by
        obtain⟨h0,⟨h,_⟩ | ⟨g',cap',cur,k1,k2,k3,k4⟩⟩:=hHNw
        ·cases h
        ·injection k1 with e1 _ _
         injection e1 with e1
         injection e1 with e1 _ _
         omega
       have HBx:=hJ (Jm HBz.out hgw p (.int .i64 ((y:Int)+1)));have HOk2:=hJ (HOk.out.step HK8.out);have HSt:=hJ hst;clear hin hout hat hy hy0 hHNw hown HNw HKw HBz hst hmem hpi HNs6 HKs6 HBw;go_wp2_with fail
       go_roundg g
       case measure=>omega
       case rel=>exact⟨i+1,q,(P.1,P.2.set p (y+1)),_,_,oZ,rfl,rfl,by go_num,oZ,HQ,by rw[<- HSt.out];exact HOk2,HKx,HOwn,HBx,by rw[<- HSt.out];exact HF2⟩
      ·rw[hout hmem];have hst:jo P k=(P.1++[k],P.2++[1]):=by unfold jo;rw[if_neg hmem]
       have HSt:=hJ hst;have HOk2:=hJ (HOk.out.step HK8.out);have hb1:=aj (w:=wr) (A:=.cells #[.string (ay k)] 9);have HKa:=hJ (show (wr.alloc (.cells #[.string (ay k)] 9)).ownsRow w.heap.size 9 1 (.slice ok q ck) q (P.1.map fun k=>Value.string (ay k)) by have h:=ak HKw.out hb1;rw[HQ.out] at h;exact h);have HNa:=hJ (ak HNw.out hb1);have HBa:=hJ (ag HBz.out hb1)
       have HFin:=hJ (show ∀ (v':Value) (w8:World),w8.ownsRow w.heap.size 9 1 v' (q+1) ((P.1.map fun k=>Value.string (ay k))++[Value.string (ay k)])->(wr.alloc (.cells #[.string (ay k)] 9)).grownBy w8 (Value.slice ok q ck).ownBlock->sI w8 w.heap.size v' (P.1++[k])/\fP 3 .i64 w8 w.heap.size (.slice on q cn) P.2/\Below w.heap.size w w8 from fun v' w8 ho hg=>⟨by
        unfold sI;rw[List.length_append,HQ.out,List.map_append];exact ho,ja HNa.out HKa.out dZ hg,HBa.out.grown hg HBa.out.size (fun k hk=>(World.ownsRow.lt HKa.out k hk).1)⟩)
       clear hin hout hst hmem hb1 HKw HNw HBz HNs6 HKs6 HBw;go_upto_region 16 with (at_builtin;refine wpList_append_own _ rfl (.tmp 43) (.tmp 45) 33 rfl w.heap.size 9 i0 _ 1 16 Tryz.underlying33 HIs.out.1 HIs.out.2.1 HIs.out.2.2.1 HIs.out.2.2.2 rfl dZ (.slice ok q ck) q (P.1.map fun k=>Value.string (ay k)) rfl HKa.out ⟨wr.heap.size,0,none⟩ 1 1 [Value.string (ay k)] rfl rfl one_cell vZ mZ oZ HBa.out.size ?_;intro v' w8 ho2 hg2 _;have HR8:=hJ (HFin.out v' w8 ho2 hg2);obtain⟨so,sc,hv'⟩:=dP ho2 (q+1) rfl;subst hv';clear ho2 hg2)
       have hb2:=aj (w:=w8) (A:=.cells #[.int .i64 1] 3);have HKb:=hJ (show sI (w8.alloc (.cells #[.int .i64 1] 3)) w.heap.size (.slice so (q+1) sc) (P.1++[k]) from ak HR8.out.1 hb2);have HNb:=hJ (show (w8.alloc (.cells #[.int .i64 1] 3)).ownsRow w.heap.size 3 1 (.slice on q cn) q (gN .i64 P.2) by have h:=ak HR8.out.2.1 hb2;rw[HPl.out] at h;exact h);have HBb:=hJ (ag HR8.out.2.2 hb2)
       have HFin2:=hJ (show ∀ (v':Value) (w9:World),w9.ownsRow w.heap.size 3 1 v' (q+1) (gN .i64 P.2++[Value.int .i64 1])->(w8.alloc (.cells #[.int .i64 1] 3)).grownBy w9 (Value.slice on q cn).ownBlock->fP 3 .i64 w9 w.heap.size v' (P.2++[1])/\sI w9 w.heap.size (.slice so (q+1) sc) (P.1++[k])/\Below w.heap.size w w9 from fun v' w9 ho hg=>⟨by
        unfold fP;rw[List.length_append,HPl.out,tY];exact ho,ja HKb.out HNb.out dZ hg,HBb.out.grown hg HBb.out.size (fun k hk=>(World.ownsRow.lt HNb.out k hk).1)⟩)
       clear hb2 HKa HNa HBa HFin HR8;go_wp2_with (at_builtin;refine wpList_append_own _ rfl (.tmp 47) (.tmp 48) 154 rfl w.heap.size 3 i1 _ 1 8 Tryz.underlying154 HIi.out.1 HIi.out.2.1 HIi.out.2.2.1 HIi.out.2.2.2 rfl dZ (.slice on q cn) q (gN .i64 P.2) rfl HNb.out ⟨w8.heap.size,0,none⟩ 1 1 [Value.int .i64 1] rfl rfl one_cell vZ mZ oZ HBb.out.size ?_;intro v2' w9 ho2 hg2 _;have HR9:=hJ (HFin2.out v2' w9 ho2 hg2);clear ho2 hg2)
       go_roundg g
       case measure=>omega
       case rel=>exact⟨i+1,q+1,(P.1++[k],P.2++[1]),_,_,oZ,rfl,rfl,by go_num,oZ,hJ (by rw[List.length_append,HQ.out];rfl),by rw[<- HSt.out];exact HOk2,hJ HR9.out.2.1,hJ HR9.out.1,hJ HR9.out.2.2,by rw[<- HSt.out];exact HF2⟩
     | succ r =>
      have hj:j<q:=oZ;have hj1:(j:Int)<(q:Int):=oZ;obtain⟨y,hy⟩:∃ y,P.1[j]?=some y:=⟨_,gZ (by rw[HQ.out];exact hj)⟩;obtain⟨gk,rfl,hcell⟩:=sI.read (show sI wc w.heap.size (.slice ok q ck) P.1 from HKs6.out) hy;have hcell:=az hcell HBy.out;by_cases hyk:y=k
      ·have b1:=Fq hyk;have ha:=Kb HOk.out.nd (by rw[hy,hyk]:P.1[j]?=some k);have HA:=hJ ha;clear hyk hy ha;go_wp2_with fail
       go_roundg r
       case measure=>omega
       case rel=>exact⟨j+1,oZ,by go_num,by rw[HA.out],HBy⟩
      ·have b1:=Av (HOk.out.byte y (List.mem_of_getElem? hy)) HK8.out hyk;have HA:=hJ (JB hy hyk);clear hyk hy;go_wp2_with fail
       go_roundg r
       case measure=>omega
       case rel=>exact⟨j+1,oZ,by go_num,by rw[HA.out],HBy⟩
def bR (f:Int) (l:List (List Nat×Nat)):List Tk:=l.map fun x=>(f,ay x.1,(x.2:Int))
theorem gP (f:Int) (a:List (List Nat×Nat)):(bR f a).length=a.length:=by simp[bR]
theorem Cn {e:TypeId} {size n base base':Nat} {v:Value} {xs:List Value} {w:World} (h:w.ownsRow base e size v n xs) (hb:base'<=base):w.ownsRow base' e size v n xs:=by
 obtain⟨h0,h | ⟨g,cap,cur,h1,h2,h3⟩⟩:=h
 ·exact⟨h0,.inl h⟩
 ·exact⟨h0,.inr ⟨g,cap,cur,h1,oZ,h3⟩⟩
theorem xS {w w1 w2:World} {v v':Value} {l:List Tk} {x:Tk} {o:Obj} (hl:Below w.heap.size w w1) (hr:dW w1 w.heap.size v l)
  (ho:w2.ownsRow w.heap.size 195 3 v' (l.length+1) (je l++[.int .u8 x.1,.string x.2.1,.int .i64 x.2.2])) (hg:(w1.alloc o).grownBy w2 v.ownBlock) :
  dW w2 w.heap.size v' (l++[x])/\Below w.heap.size w w2 :=
 ⟨by unfold dW;rw[mF];simpa [je,Dg] using ho,(hl.alloc hl.size _).grown hg (by have:=hl.size;simp;omega) (fun k hk=>(World.ownsRow.lt hr k hk).1)⟩
theorem IW (o:List (List Nat)) (i:Nat) (t:List Nat) (h:o[i]?=some t):(outT o)[i]?=some ((0:Int),ay t,(i:Int)):=by
 unfold outT;rw[List.getElem?_map,List.getElem?_zipIdx,h];simp
theorem uo (o:List (List Nat)) (i:Nat) (t:List Nat) (h:o[i]?=some t):bW 0 (o.take (i+1))=bW 0 (o.take i)++(if kX t then [] else [(t,i)]):=by
 have hl:(o.take i).length=i:=by rw[List.length_take];have:=(eZ.1 h).1;omega
 rw[List.take_add_one,h,Option.toList_some,pF,hl,Nat.zero_add,bW,bW]
theorem zf (s:ByteArray):(allT s).length<=s.size+1:=by
 have h:=qh (aW s++[32]) gY;have h2:=(iG s).1;simp[gY] at h;unfold allT Ma;simp only[gY] at *;omega
theorem zT {t:List Nat} (h:Term t):∀ b∈t,b<256:=by
 obtain⟨q,_,rfl,hq⟩:=h.ex;intro b hb;obtain⟨x,hx,hbx⟩:=List.mem_flatMap.1 hb;exact sJ x (hq x hx).1 b hbx
theorem F5 (W:World) (s:ByteArray) (hs:s.size<=1000000) :
  Calls Tryz.prog 130 #[.string s] W fun e w'=>∃ v,e=.returned v/\dW w' W.heap.size v (bR 0 (bF s))/\Below W.heap.size W w':=by
 obtain⟨iT,hi,hz0,hz1,hz2⟩:=info_parts nO;have HIT:=hJ (And.intro hi (And.intro hz0 (And.intro hz1 hz2)));have HAll:=hJ (Kr W s hs);have HTm:=hJ (sN s);have HW:=hJ (show bF s=bW 0 (allT s) from rfl);have hle:=zf s;generalize allT s=o at *;obtain⟨n,hn⟩:∃ n,n=o.length:=⟨_,rfl⟩;have hn2:n<=1000001:=oZ;have HN:=hJ hn;clear hi hz0 hz1 hz2 hle hn;go_enter Tryz.func130,Tryz.ntmps130
 go_wp2_with fail
 refine HAll.out.mono ?_;rintro e w1 ⟨v,rfl,hr,hb⟩;obtain⟨oa,cap,hv,hc1,hc2,hrd⟩:=jA hr;rw[kQ,<- HN.out] at hv;subst hv;have HR:=hJ hrd;have HB:=hJ hb;have hsz:=hb.size;clear hrd hb hr HAll hc1 hc2;go_wp2_with fail
 go_loopw [4,11] (fun vo iv wr=>∃ i:Nat,i<=n/\iv=.int .i64 i/\dW wr w1.heap.size vo (bR 0 (bW 0 (o.take i)))/\Below w1.heap.size w1 wr) (fun _ iv _=>n-(intOf iv).toNat)
 case atStart=>exact⟨0,oZ,rfl,pV w1 _ _,aj⟩
 case round =>
  obtain⟨i,hi,rfl,hown,hlow⟩:=hrel;by_cases hlt:i<n
  ·obtain⟨t,ht⟩:∃ t,o[i]?=some t:=⟨_,gZ (by rw[<- HN.out];exact hlt)⟩;obtain⟨g,off,rfl,c0,c1,c2⟩:=(HR.out.below hlow) i _ (IW o i t ht);simp only at c0 c1 c2;have hlt2:=zT (HTm.out t (List.mem_of_getElem? ht));have HS:=hJ (fun w=>Hl w (ay t));rw[aX t hlt2] at HS;have HP:=hJ (uo o i t ht);have HO:=hJ hown;have HL:=hJ hlow;have hpl:(bW 0 (o.take i)).length<=1000001:=by have:=mh (o.take i) 0;rw[List.length_take] at this;omega
   have HPl:=hJ (show (bR 0 (bW 0 (o.take i))).length<=1000001 by rw[gP];exact hpl);obtain⟨x,hx⟩:∃ x,x=ay t:=⟨_,rfl⟩;rw[<- hx] at c1 HS;have HX:=hJ hx;clear hown hlow ht hlt2 hpl hx;by_cases hst:kX t=true
   ·rw[hst] at HS HP;go_wp2_with fail
    refine(HS.out _).mono ?_;rintro e w5 ⟨rfl,hb5⟩;have HO5:=hJ (show dW w5 _ _ _ from ak HO.out hb5);have HL5:=hJ (HL.out.trans (hb5.mono HL.out.size));clear hb5;go_wp2_with fail
    go_roundw
    case rel=>exact⟨i+1,oZ,by go_num,by rw[HP.out];simpa using HO5.out,HL5.out⟩
    case measure=>simp[intOf];omega
   ·have hsf:kX t=false:=by simpa using hst
    rw[hsf] at HS HP;clear hst hsf;go_wp2_with fail
    refine(HS.out _).mono ?_;rintro e w5 ⟨rfl,hb5⟩;have HO5:=hJ (show dW w5 _ _ _ from ak HO.out hb5);have HL5:=hJ (HL.out.trans (hb5.mono HL.out.size));have d0:=az c0 hb5;have d1:=az c1 hb5;have d2:=az c2 hb5;clear hb5 c0 c1 c2 HO HL;go_wp2_with (at_builtin;refine wpList_append_own _ rfl (.tmp 21) (.tmp 26) 169 rfl w1.heap.size 195 iT _ 3 32 Tryz.underlying169 HIT.out.1 HIT.out.2.1 HIT.out.2.2.1 HIT.out.2.2.2 rfl dZ _ (bR 0 (bW 0 (o.take i))).length (je (bR 0 (bW 0 (o.take i)))) rfl (World.ownsRow.alloc HO5.out _) ⟨w5.heap.size,0,none⟩ 1 1 [.int .u8 0,.string x,.int .i64 i] rfl rfl nI vZ (by have:=HPl.out;unfold maxLen;omega) (by have:=HPl.out;omega) (by have:=HL5.out.size;simp;omega) ?_;intro v' w6 ho hg _;have HO6:=hJ (xS (x:=(0,x,(i:Int))) HL5.out HO5.out ho hg);clear ho hg)
    go_roundw
    case rel=>exact⟨i+1,oZ,by go_num,by rw[HP.out];have:=HO6.out.1;rw[HX.out] at this;simpa [bR] using this,HO6.out.2⟩
    case measure=>simp[intOf];omega
  ·have hi':i=n:=oZ;rw[show o.take i=o from List.take_of_length_le (by rw[<- HN.out];omega)] at hown;have HO:=hJ (show dW wr W.heap.size _ _ from Cn hown hsz);have HL:=hJ (HB.out.trans (hlow.mono hsz));clear hown hlow;go_wp2_with fail
   go_ret;exact⟨_,rfl,by rw[HW.out];exact HO.out,HL.out⟩
end Go.Proofs.YtafaohnhlgcnpaaGreatDoor
