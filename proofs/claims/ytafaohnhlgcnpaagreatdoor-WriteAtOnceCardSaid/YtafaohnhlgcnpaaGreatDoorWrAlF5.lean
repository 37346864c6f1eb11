/-
 What stage 12 rests on.
-/
import Derived.Test.YtafaohnhlgcnpaaGreatDoorWrAlE5
import Derived.Test.YtafaohnhlgcnpaaGreatDoorWrAlE2
import Derived.Test.YtafaohnhlgcnpaaGreatDoorWrAlE3
set_option maxRecDepth 100000
set_option maxHeartbeats 16000000
namespace Go.Proofs.YtafaohnhlgcnpaaGreatDoor
open Go.RowKit
variable {α:Type}
open Go.Lib (IsBuilder OthersKept iterAt_other iterAt_size iterAt_heap below_iterAt run_next_any_at run_next_end_at)
theorem Cb (W:World) (s:ByteArray) (hs:s.size<=1000000) :
  Calls Tryz.prog 184 #[.string s] W fun e w'=>e=.returned (.int .i64 (aW s).length)/\Below W.heap.size W w':=by
 have HL:=hJ (iG s).1;go_enter Tryz.func184,Tryz.ntmps184
 go_wp2_with fail
 go_loopw [2] (fun nv wr=>∃ (pos i:Nat),nv=.int .i64 i/\pos<=s.size/\wr.heap[W.heap.size]?=some (.stringIter s pos)/\(aW s).length=i+(runesL ((ax s).drop pos)).length/\Below W.heap.size W wr) (fun _ wr=>s.size-wr.iterPos W.heap.size)
 case atStart=>exact⟨0,0,rfl,oZ,World.iter_heap _ _ _,by simp[aW],aj⟩
 case round =>
  obtain⟨pos,i,rfl,hpos,hit,heq,hlow⟩:=hrel;have hps:wr.iterPos W.heap.size=pos:=by unfold World.iterPos;rw[hit]
  have hi:=HL.out;by_cases hlt:pos<s.size
  ·have hnx:∀ ty,(Instr.next (.pointer (some ⟨W.heap.size,0,none⟩)) true ty).run Tryz.prog wr=.ok (.tuple #[.bool true,.int .i64 pos,.int .i32 (bS s pos).1]) (wr.iterAt W.heap.size s (pos+(bS s pos).2)):=fun ty=>by rw[run_next_any_at wr _ s pos ty hit hlt,si]
   have hd:=lY hlt;rw[lU hlt,List.length_cons] at heq;have HI:=hJ (iterAt_heap wr W.heap.size s pos (pos+(bS s pos).2) hit);have HB:=hJ (below_iterAt hlow (Nat.le_refl _) s (pos+(bS s pos).2));have HE:=hJ heq;generalize hwi:wr.iterAt W.heap.size s (pos+(bS s pos).2)=wi at hnx HI HB;have hi2:i<=1000000:=oZ;clear hit heq hlow hwi hi;go_wp2_with fail
   go_roundw
   case rel=>exact⟨pos+(bS s pos).2,i+1,by go_num,oZ,HI.out,by have:=HE.out;omega,HB.out⟩
   case measure =>
          have:wi.iterPos W.heap.size=pos+(bS s pos).2:=(by unfold World.iterPos;rw[HI.out]);omega
  ·have hnx:∀ ty,(Instr.next (.pointer (some ⟨W.heap.size,0,none⟩)) true ty).run Tryz.prog wr=.ok (.tuple #[.bool false]) wr:=fun ty=>run_next_end_at wr _ s pos ty hit hlt;have HE:=hJ (show (aW s).length=i by rw[heq,List.drop_eq_nil_of_le (by rw[aD];omega)];simp[jr]);have HB:=hJ hlow;clear hit heq hlow hi;go_wp2_with fail
   go_ret;exact⟨by rw[HE.out];rfl,HB.out⟩
theorem Ir (w:World) (r:Nat) (h:gI r) :
  Calls Tryz.prog 205 #[.int .i32 r] w fun e w'=>e=.returned (.int .i64 (encR r).length)/\w'=w:=by
 rw[il];unfold gI at h;by_cases c1:r<=127
 ·rw[if_pos oZ];go_enter Tryz.func205,Tryz.ntmps205
  go_wp2_with fail
  go_ret;exact⟨rfl,rfl⟩
 by_cases c2:r<=2047
 ·rw[if_neg oZ,if_pos oZ];go_enter Tryz.func205,Tryz.ntmps205
  go_wp2_with fail
  go_ret;exact⟨rfl,rfl⟩
 by_cases c3:r<55296
 ·rw[if_neg oZ,if_neg oZ,if_pos oZ];go_enter Tryz.func205,Tryz.ntmps205
  go_wp2_with fail
  go_ret;exact⟨rfl,rfl⟩
 by_cases c4:r<=65535
 ·rw[if_neg oZ,if_neg oZ,if_pos oZ];have h2:57344<=r:=oZ;clear h;go_enter Tryz.func205,Tryz.ntmps205
  go_wp2_with fail
  go_ret;exact⟨rfl,rfl⟩
 ·rw[if_neg oZ,if_neg oZ,if_neg oZ];have h2:r<=1114111:=oZ;clear h;go_enter Tryz.func205,Tryz.ntmps205
  go_wp2_with fail
  go_ret;exact⟨rfl,rfl⟩
/-! ### Runes -/
structure tK (W:World) (k:Nat) (s:ByteArray) (pos:Nat) (l:List Nat) (v:Value) (w:World):Prop where
 le:pos<=s.size
 it:w.heap[k]?=some (.stringIter s pos)
 kb:W.heap.size<=k
 eq:aW s=l++runesL ((ax s).drop pos)
 own:w.ownsRow W.heap.size 21 1 v l.length (l.map fun(r:Nat)=>Value.int .i32 (r:Int))
 low:Below W.heap.size W w
theorem tK.pos {W:World} {k:Nat} {s:ByteArray} {pos:Nat} {l:List Nat} {v:Value} {w:World} (h:tK W k s pos l v w):w.iterPos k=pos:=by unfold World.iterPos;rw[h.it]
theorem wW {w:World} {B e n k:Nat} {v:Value} {xs:List Value} {s:ByteArray} {pos:Nat} (h:w.ownsRow B e 1 v n xs) (hk:w.heap[k]?=some (.stringIter s pos)):v.ownBlock≠some k:=by
 intro e1;obtain⟨c,fz,hc⟩:=Lib.ownsRow_kind h k e1;rw[hk] at hc;cases hc
theorem tK.more {W:World} {k:Nat} {s:ByteArray} {pos:Nat} {l:List Nat} {v v':Value} {w w2:World} {o:Obj} (h:tK W k s pos l v w) (hp:pos<s.size)
  (ho:w2.ownsRow W.heap.size 21 1 v' (l.length+1) (l.map (fun(r:Nat)=>Value.int .i32 (r:Int))++[.int .i32 (bS s pos).1])) (hg:((w.iterAt k s (pos+(bS s pos).2)).alloc o).grownBy w2 v.ownBlock) :
  tK W k s (pos+(bS s pos).2) (l++[(bS s pos).1]) v' w2:=by
 have hd:=lY hp;have hsz:=lt_of_heap h.it;have hl:=h.low.size;refine⟨hd.2.1,?_,h.kb,?_,by simpa using ho,?_⟩
 ·rw[hg.block _ (by simp[iterAt_size];omega) (fun e=>wW h.own h.it e.symm),heap_alloc_old _ _ (by rw[iterAt_size];omega)];exact iterAt_heap _ _ _ _ _ h.it
 ·rw[h.eq,lU hp];simp
 ·exact((below_iterAt h.low h.kb s _).alloc (by rw[iterAt_size];omega) _).grown hg (by simp[iterAt_size];omega) (fun j hj=>(h.own.lt j hj).1)
theorem Ap (W:World) (s:ByteArray) (hs:s.size<=1000000) :
  Calls Tryz.prog 154 #[.string s] W fun e w'=>∃ v,e=.returned v/\iV w' W.heap.size v (aW s)/\Below W.heap.size W w':=by
 obtain⟨i0,hi,hz0,hz1,hz2⟩:=info_parts vR;have HI:=hJ (And.intro hi (And.intro hz0 (And.intro hz1 hz2)));have HL:=hJ (iG s).1;have HC:=hJ (Cb W s hs);clear hi hz0 hz1 hz2;go_enter Tryz.func154,Tryz.ntmps154
 go_wp2_with fail
 refine HC.out.mono ?_;rintro e w1 ⟨rfl,hb1⟩;have hn1:(aW s).length<=1000000:=by have:=HL.out;omega
 have HB1:=hJ hb1;clear hb1 HC;go_wp2_with (at_make;refine wpList_make_own _ rfl _ _ 259 rfl W.heap.size 21 i0 (.int .i32 0) 1 Tryz.underlying259 HI.out.1 HI.out.2.1 HI.out.2.2.1 .i64 .i64 _ (aW s).length rfl rfl rfl ?mb2 ?mb3 HB1.out.size ?_)
 case mb2=>rw[HI.out.2.2.2];omega
 case mb3=>unfold maxLen;omega
 intro w2 hown0 hgrow0;have HO0:=hJ hown0;have HB2:=hJ (HB1.out.grown hgrow0 HB1.out.size (fun k h=>by cases h));clear hown0 hgrow0;go_wp2_with fail
 go_loopw [3] (fun v wr=>∃ (pos:Nat) (l:List Nat),tK W w2.heap.size s pos l v wr) (fun _ wr=>s.size-wr.iterPos w2.heap.size)
 case atStart=>exact⟨0,[],oZ,World.iter_heap _ _ _,HB2.out.size,by simp[aW],HO0.out.alloc _,HB2.out.alloc HB2.out.size _⟩
 case round =>
  obtain⟨pos,l,hG⟩:=hrel;have hps:=hG.pos;by_cases hlt:pos<s.size
  ·have hnx:∀ ty,(Instr.next (.pointer (some ⟨w2.heap.size,0,none⟩)) true ty).run Tryz.prog wr=.ok (.tuple #[.bool true,.int .i64 pos,.int .i32 (bS s pos).1]) (wr.iterAt w2.heap.size s (pos+(bS s pos).2)):=fun ty=>by rw[run_next_any_at wr _ s pos ty hG.it hlt,si]
   have HG:=hJ hG;have hd:=lY hlt;have hll:l.length<=1000000:=by have:=congrArg List.length hG.eq;simp at *;omega
   have HM:=hJ (fun(v':Value) (w2:World) (o:Obj)=>hG.more (v':=v') (w2:=w2) (o:=o) hlt);have HO:=hJ (qP hG.own hG.it (pos+(bS s pos).2));have HSz:=hJ (show W.heap.size<=(wr.iterAt w2.heap.size s (pos+(bS s pos).2)).heap.size by rw[iterAt_size];exact hG.low.size);generalize hwi:wr.iterAt w2.heap.size s (pos+(bS s pos).2)=wi at hnx HM HO HSz;generalize hk:(bS s pos).2=k at HM hd;generalize hr:(bS s pos).1=r at hnx HM;clear hG hwi hk hr HO0 HB2 HB1 hn1;go_wp2_with (at_builtin;refine wpList_append_own _ rfl (.tmp 14) (.tmp 16) 259 rfl W.heap.size 21 i0 _ 1 4 Tryz.underlying259 HI.out.1 HI.out.2.1 HI.out.2.2.1 HI.out.2.2.2 rfl dZ _ l.length (l.map fun(r:Nat)=>Value.int .i32 (r:Int)) rfl (World.ownsRow.alloc HO.out _) ⟨_,0,none⟩ 1 1 [.int .i32 r] rfl rfl one_cell vZ mZ oZ (by have:=HSz.out;simp;omega) ?_;intro v' w5 ho hg _;have HG5:=hJ (HM.out _ _ _ ho hg);clear ho hg)
   go_roundw
   case rel=>exact⟨pos+k,l++[r],HG5.out⟩
   case measure=>have:=HG5.out.pos;omega
  ·have hnx:∀ ty,(Instr.next (.pointer (some ⟨w2.heap.size,0,none⟩)) true ty).run Tryz.prog wr=.ok (.tuple #[.bool false]) wr:=fun ty=>run_next_end_at wr _ s pos ty hG.it hlt
   have hl:aW s=l:=by
    have:=hG.eq;rw[List.drop_eq_nil_of_le (by rw[aD];omega)] at this;simpa [jr] using this
   have HG:=hJ hG;have HE:=hJ hl;clear hG hl HO0 HB2 HB1;go_wp2_with fail
   go_ret;exact⟨_,rfl,by rw[HE.out];exact HG.out.own,HG.out.low⟩
/-! ### Text -/
theorem pq (w:World):IsBuilder 308 5 w.heap.size w.heap.size (dI (fq [])) (w.alloc (.cells #[.pointer none,.slice none 0 0] 308)):=Lib.fresh_isBuilder _ _ _
theorem vF (w:World) (oa:Option Addr) (c:Nat) (l:List Int) (hn:l.length<=1000000) (hv:iR w oa l) (h32:∀ r∈l,-2147483648<=r/\r<=2147483647) :
  Calls Tryz.prog 187 #[.slice oa l.length c] w fun e w'=>e=.returned (.string (iK l))/\Below w.heap.size w w':=by
 have HV:=hJ hv;have H32:=hJ h32;clear hv h32;go_enter Tryz.func187,Tryz.ntmps187
 go_wp2_with fail
 go_loopw [8] (fun iv wr=>∃ (i:Nat),i<=l.length/\iv=.int .i64 i/\IsBuilder 308 5 w.heap.size w.heap.size (dI (fq (l.take i))) wr/\Below w.heap.size w wr) (fun iv _=>l.length-(intOf iv).toNat)
 case atStart=>exact⟨0,oZ,rfl,pq w,aj⟩
 case round =>
  obtain⟨i,hi,rfl,hI,hb⟩:=hrel;have HI:=hJ hI;have HB:=hJ hb;have hsz:=hb.size;clear hI hb;by_cases hlt:i<l.length
  ·obtain⟨r,hr⟩:∃ r,l[i]?=some r:=⟨_,gZ hlt⟩;obtain⟨ad,rfl,hcell⟩:=(HV.out.below HB.out) i r hr;have hr2:=H32.out r (List.mem_of_getElem? hr);have HT:=hJ (show fq (l.take (i+1))=fq (l.take i)++encR (dH r) by rw[List.take_add_one,hr];exact pR _ _);have HW:=hJ (rQ w.heap.size w.heap.size (fq (l.take i)) r hr2.1 hr2.2 wr HI.out (by have:=rX (l.take i);rw[List.length_take] at this;omega) hsz);clear hr hr2;go_wp2_with fail
   refine HW.out.mono ?_;rintro e w5 ⟨v5,rfl,h5,hb5,_⟩;have HI5:=hJ h5;have HB5:=hJ (HB.out.trans hb5);clear h5 hb5;go_wp2_with fail
   go_roundw
   case rel=>exact⟨i+1,oZ,by go_num,by rw[HT.out];exact HI5.out,HB5.out⟩
   case measure=>simp[intOf];omega
  ·have hi':i=l.length:=oZ;subst hi';have HT:=hJ (mi w.heap.size w.heap.size (fq l) wr (by have:=HI.out;rwa [List.take_length] at this) (mH l) hsz);clear HI;go_wp2_with fail
   refine HT.out.mono ?_;rintro e w5 ⟨rfl,hb5⟩;have HB5:=hJ (HB.out.trans hb5);clear hb5;go_wp2_with fail
   go_ret;exact⟨rfl,HB5.out⟩
/-! ### Fit -/
theorem x9 (r:Nat) (l:List Nat):ints (r :: l)=(r:Int) :: ints l:=rfl
theorem xN (r:Int) (l:List Int) (n:Int):ll (r :: l) n=if((encR (dH r)).length:Int)<=n then ll l (n-(encR (dH r)).length)+1 else 0:=rfl
theorem xW (l:List Nat) (r:Nat):ints (l++[r])=ints l++[(r:Int)]:=by simp[ints]
theorem qJ (s:ByteArray) (i:Nat):gI (bS s i).1:=Ew _ _ _ _
structure Past (W:World) (k:Nat) (s:ByteArray) (n:Int) (pos:Nat) (l:List Nat) (w:World):Prop where
 le:pos<=s.size
 it:w.heap[k]?=some (.stringIter s pos)
 kb:W.heap.size<k
 eq:aW s=l++runesL ((ax s).drop pos)
 fit:ll (ints (aW s)) n=l.length+ll (ints (runesL ((ax s).drop pos))) (n-(fq (ints l)).length)
 own:IsBuilder 308 5 W.heap.size W.heap.size (dI (fq (ints l))) w
 low:Below W.heap.size W w
theorem Past.pos {W:World} {k:Nat} {s:ByteArray} {n:Int} {pos:Nat} {l:List Nat} {w:World} (h:Past W k s n pos l w):w.iterPos k=pos:=by unfold World.iterPos;rw[h.it]
theorem Past.small {W:World} {k:Nat} {s:ByteArray} {n:Int} {pos:Nat} {l:List Nat} {w:World} (h:Past W k s n pos l w) (hs:s.size<=1000000):(fq (ints l)).length<=4000000:=by
 have h1:=congrArg List.length h.eq;have h2:=(iG s).1;have h3:=rX (ints l);rw[List.length_append] at h1;rw[ig] at h3;omega
theorem Past.more {W:World} {k:Nat} {s:ByteArray} {n:Int} {pos:Nat} {l:List Nat} {w w2:World} (h:Past W k s n pos l w) (hp:pos<s.size) (hf:((fq (ints l)).length:Int)+((encR (bS s pos).1).length:Int)<=n)
  (hI:IsBuilder 308 5 W.heap.size W.heap.size (dI (fq (ints l)++encR (dH ((bS s pos).1:Int)))) w2) (hb:Below W.heap.size (w.iterAt k s (pos+(bS s pos).2)) w2) (hk:OthersKept 5 (some W.heap.size) (w.iterAt k s (pos+(bS s pos).2)) w2) :
  Past W k s n (pos+(bS s pos).2) (l++[(bS s pos).1]) w2:=by
 have hkb:=h.kb;refine⟨(lY hp).2.1,hk.iter (iterAt_heap _ _ _ _ _ h.it) oZ,hkb,?_,?_,?_,(below_iterAt h.low oZ s _).trans hb⟩
 ·rw[h.eq,lU hp];simp
 ·have hfit:=h.fit;rw[lU hp,x9,xN,gK (qJ s pos)] at hfit;rw[if_pos oZ] at hfit;rw[hfit,xW,pR,gK (qJ s pos),List.length_append,List.length_append];have e:n-((fq (ints l)).length:Int)-((encR (bS s pos).1).length:Int)=n-(((fq (ints l)).length+(encR (bS s pos).1).length:Nat):Int):=oZ;rw[e];simp;omega
 ·rw[xW,pR];exact hI
theorem Past.stop {W:World} {k:Nat} {s:ByteArray} {n:Int} {pos:Nat} {l:List Nat} {w:World} (h:Past W k s n pos l w) (h0:ll (ints (runesL ((ax s).drop pos))) (n-(fq (ints l)).length)=0) :
  iK ((ints (aW s)).take (ll (ints (aW s)) n))=iK (ints l):=by
 rw[h.fit,h0,Nat.add_zero,lX,h.eq,List.take_left]
theorem Past.full {W:World} {k:Nat} {s:ByteArray} {n:Int} {pos:Nat} {l:List Nat} {w:World} (h:Past W k s n pos l w) (hp:pos<s.size) (hf:¬ ((fq (ints l)).length:Int)+((encR (bS s pos).1).length:Int)<=n) :
  iK ((ints (aW s)).take (ll (ints (aW s)) n))=iK (ints l):=by
 refine h.stop ?_;rw[lU hp,x9,xN,gK (qJ s pos),if_neg oZ]
theorem Past.over {W:World} {k:Nat} {s:ByteArray} {n:Int} {pos:Nat} {l:List Nat} {w:World} (h:Past W k s n pos l w) (hp:¬ pos<s.size) :
  iK ((ints (aW s)).take (ll (ints (aW s)) n))=iK (ints l):=by
 refine h.stop ?_;rw[List.drop_eq_nil_of_le (by rw[aD];omega)];rfl
theorem xq (W:World) (s:ByteArray) (n:Int) (hs:s.size<=1000000) (h1:-9223372036854775808<=n) (h2:n<=9223372036854775807) :
  Calls Tryz.prog 186 #[.string s,.int .i64 n] W fun e w'=>e=.returned (.string (iK ((ints (aW s)).take (ll (ints (aW s)) n))))/\Below W.heap.size W w':=by
 have HA:=hJ (pq W);go_enter Tryz.func186,Tryz.ntmps186
 go_wp2_with fail
 go_loopw [] (fun wr=>∃ (pos:Nat) (l:List Nat),Past W (W.heap.size+1) s n pos l wr) (fun wr=>s.size-wr.iterPos (W.heap.size+1))
 case atStart =>
  refine⟨0,[],oZ,?_,oZ,by simp[aW],by simp[aW,ints,fq],wY HA.out _,aj.alloc sZ _⟩;have:=World.iter_heap (W.alloc (.cells #[.pointer none,.slice none 0 0] 308)) s 0;simpa using this
 case round =>
  obtain⟨pos,l,hG⟩:=hrel;have hps:=hG.pos;have HSz:=hJ (show W.heap.size<=wr.heap.size from hG.low.size);by_cases hlt:pos<s.size
  ·have hnx:∀ ty,(Instr.next (.pointer (some ⟨W.heap.size+1,0,none⟩)) true ty).run Tryz.prog wr=.ok (.tuple #[.bool true,.int .i64 pos,.int .i32 (bS s pos).1]) (wr.iterAt (W.heap.size+1) s (pos+(bS s pos).2)):=fun ty=>by rw[run_next_any_at wr _ s pos ty hG.it hlt,si]
   have hd:=lY hlt;have hs1:=hG.small hs;have hok:=qJ s pos;have hr3:(bS s pos).1<=1114111:=by unfold gI at hok;omega
   have hs2:=DK (bS s pos).1;have HM:=hJ (fun hf (w2:World)=>hG.more (w2:=w2) hlt hf);have HF:=hJ (fun hf=>hG.full hlt hf);have HB:=hJ (below_iterAt hG.low (show W.heap.size<=W.heap.size+1 by omega) s (pos+(bS s pos).2));have HI:=hJ (za hG.own hG.it (pos+(bS s pos).2));generalize hwi:wr.iterAt (W.heap.size+1) s (pos+(bS s pos).2)=wi at hnx HM HB HI;generalize hk:(bS s pos).2=k at HM hd;generalize hr:(bS s pos).1=r at hnx HM HF hs2 hok hr3;have HLn:=hJ (wh _ _ _ wi HI.out);have HRl:=hJ (Ir wi r hok);have HTx:=hJ (mi _ _ _ wi HI.out (mH (ints l)) HB.out.size);have HWr:=hJ (rQ _ _ _ (r:Int) oZ oZ wi HI.out oZ HB.out.size);clear hG hwi hk hr hok;go_wp2_with fail
   refine HLn.out.mono ?_;rintro e w5 ⟨rfl,rfl⟩;go_wp2_with fail
   refine HRl.out.mono ?_;rintro e w6 ⟨rfl,rfl⟩;by_cases hgt:n<((fq (ints l)).length:Int)+((encR r).length:Int)
   ·go_wp2_with fail
    refine HTx.out.mono ?_;rintro e w7 ⟨rfl,hb7⟩;have HB7:=hJ (HB.out.trans hb7);clear hb7;go_wp2_with fail
    go_ret;exact⟨by rw[HF.out oZ];rfl,HB7.out⟩
   ·go_wp2_with fail
    refine HWr.out.mono ?_;rintro e w7 ⟨v7,rfl,h7,hb7,hk7⟩;have HM2:=hJ (HM.out oZ _ h7 hb7 hk7);clear h7 hb7 hk7;go_wp2_with fail
    go_roundw
    case rel=>exact⟨pos+k,l++[r],HM2.out⟩
    case measure=>have:=HM2.out.pos;omega
  ·have hnx:∀ ty,(Instr.next (.pointer (some ⟨W.heap.size+1,0,none⟩)) true ty).run Tryz.prog wr=.ok (.tuple #[.bool false]) wr:=fun ty=>run_next_end_at wr _ s pos ty hG.it hlt;have HG:=hJ hG;have HE:=hJ (hG.over hlt);have HTx:=hJ (mi _ _ _ wr hG.own (mH (ints l)) HSz.out);clear hG;go_wp2_with fail
   refine HTx.out.mono ?_;rintro e w7 ⟨rfl,hb7⟩;have HB7:=hJ (HG.out.low.trans hb7);clear hb7;go_wp2_with fail
   go_ret;exact⟨by rw[HE.out];rfl,HB7.out⟩
theorem Ct {w w':World} {e:Ending} {l:List Nat} (h:∃ v,e=.returned v/\iV w' w.heap.size v l/\Below w.heap.size w w') :
  ∃ oa c,e=.returned (.slice oa (ints l).length c)/\(ints l).length<=c/\c<=maxLen/\iR w' oa (ints l)/\Below w.heap.size w w'/\(oa=none->c=0):=by
 obtain⟨v,rfl,hr,hb⟩:=h;by_cases hn:v=.slice none 0 0
 ·subst hn;rcases hr.2 with ⟨_,h0⟩ | ⟨g,cap,cur,e,_⟩
  ·have:l=[]:=List.eq_nil_of_length_eq_zero h0;subst this;exact⟨none,0,rfl,by simp[ints],by simp[maxLen],fun j r hj=>by simp[ints] at hj,hb,fun _=>rfl⟩
  ·cases e
 ·obtain⟨g,cap,rfl,_,_,h1,h2,h3⟩:=Ej hr hn;exact⟨_,cap,by rw[ig],by rw[ig];exact h1,h2,h3,hb,fun e=>by cases e⟩
theorem kept:Kept:=⟨fun w s hs=>(Ap w s hs).mono fun _ _ h=>Ct h,fun w oa c l hn _ _ hv h32=>vF w oa c l hn hv h32,fun w s n hs h1 h2=>xq w s n hs h1 h2⟩
structure R4 where
 b:Int
 i:Int
 l:Int
 t:Int
def wS (x:R4):Array Value:=#[.int .u32 x.b,.int .u32 x.i,.int .u32 x.l,.int .u32 x.t]
theorem xK (x:R4):(Tryz.prog.info? 147).map (·.size)=some (wS x).size:=kZ
theorem JP (x:R4):(wS x).all (·.oneCell')=true:=by simp[wS,Value.oneCell']
theorem ji (b d k:Int) (hb0:0<=b) (hb1:b<=60000) (hd0:0<=d) (hd1:d<=60000) (hk0:0<=k) (hk1:k<=3) (w:World):Calls Tryz.prog 115 #[.int .i64 b,.int .i64 d,.int .i64 k] w fun e w'=>e=.returned (.int .i64 (b+4*d+k))/\w'=w:=by
 obtain⟨p,hp⟩:∃ p,p=b / 8:=⟨_,rfl⟩;obtain⟨q,hq⟩:∃ q,q=d / 2:=⟨_,rfl⟩;have p0:0<=p/\p<=10000:=oZ;have q0:0<=q/\q<=40000:=oZ;have p1:b.tdiv 8=p:=by rw[Int.tdiv_eq_ediv_of_nonneg hb0];exact hp.symm
 have q1:d.tdiv 2=q:=by rw[Int.tdiv_eq_ediv_of_nonneg hd0];exact hq.symm
 clear hp hq;obtain⟨pp0,pp1⟩:=p0;obtain⟨qq0,qq1⟩:=q0;have r1:IntKind.i64.wrap p=p:=iZ _ oZ;have r2:IntKind.i64.wrap q=q:=iZ _ oZ;have r3:IntKind.i64.wrap (p+q)=p+q:=iZ _ oZ;have t1:¬ p+q < -65536:=oZ;have t2:¬ 65536<p+q:=oZ;have s1:IntKind.i64.wrap (4*d)=4*d:=iZ _ oZ;have s2:IntKind.i64.wrap (b+4*d)=b+4*d:=iZ _ oZ;have s3:IntKind.i64.wrap (b+4*d+k)=b+4*d+k:=iZ _ oZ;go_enter Tryz.func115,Tryz.ntmps115
 go_wp2_with fail
 go_ret;exact⟨rfl,rfl⟩
section
variable {w:World} {rb mb cb:Nat} {go:Option Nat} {st:St} {Bd:Nat}
theorem KG (b d id l v:Int) (hrm:RM w rb mb cb go true st) (hf:st.dO Bd) (hB:Bd<1000000000) (hb0:0<=b) (hb1:b<=60000) (hd0:0<=d) (hd1:d<=60000) (h1:U id) (h2:U l) (h3:U v) :
  Calls Tryz.prog 89 #[.pointer (some ⟨rb,0,none⟩),.int .i64 b,.int .i64 d,.int .u32 id,.int .u32 l,.int .u32 v] w fun e w'=>∃ go',e=.returned (.tuple #[])/\RM w' rb mb cb go' true ((wT b d id l v).on st).2/\jl rb mb cb w go w' go':=by
 have HR:=hJ (fV.start hrm);have HF:=hJ hf;have HQ:=hJ (Rest.start (wT b d id l v) st);have h01:=ji b d 1 hb0 hb1 hd0 hd1 dZ dZ;have h02:=ji b d 2 hb0 hb1 hd0 hd1 dZ dZ;have h00:=ji b d 0 hb0 hb1 hd0 hd1 dZ dZ;have HU:=hJ (And.intro h1 (And.intro h2 h3));obtain⟨a,ha⟩:∃ a,a=b+4*d:=⟨_,rfl⟩;simp only[Int.add_zero,<- ha] at h00 h01 h02;have H0:=hJ h00;have H1:=hJ h01;have H2:=hJ h02;have HE:=hJ ha;clear hrm hf ha h1 h2 h3 h00 h01 h02;go_enter Tryz.func89,Tryz.ntmps89
 go_wp2_with fail
 refine(H1.out _).mono ?_;rintro e w1 ⟨rfl,rfl⟩;go_wp2_with fail
 refine(run_store HR.out.rm hB HF.out.ok (a+1) id).mono ?_;rintro e w2 ⟨rfl,go2,hr2,ha2⟩;have HR:=hJ (HR.out.access hr2 ha2);have hq:=HQ.out;unfold wT at hq;rw[<- HE.out] at hq;have hq2:=hq.store HF.out;have hf2:=HF.out.store (a+1) id;rw[u32_in HU.out.1] at hq2 hf2;have HQ:=hJ hq2;have HF:=hJ hf2;clear hr2 ha2 hq hq2 hf2;go_wp2_with fail
 refine(H2.out _).mono ?_;rintro e w1 ⟨rfl,rfl⟩;go_wp2_with fail
 refine(run_store HR.out.rm hB HF.out.ok (a+2) l).mono ?_;rintro e w3 ⟨rfl,go3,hr3,ha3⟩;have HR:=hJ (HR.out.access hr3 ha3);have hq2:=HQ.out.store HF.out;have hf2:=HF.out.store (a+2) l;rw[u32_in HU.out.2.1] at hq2 hf2;have HQ:=hJ hq2;have HF:=hJ hf2;clear hr3 ha3 hq2 hf2;go_wp2_with fail
 refine(H0.out _).mono ?_;rintro e w1 ⟨rfl,rfl⟩;go_wp2_with fail
 refine(run_store HR.out.rm hB HF.out.ok a v).mono ?_;rintro e w4 ⟨rfl,go4,hr4,ha4⟩;have HR:=hJ (HR.out.access hr4 ha4);have hq2:=HQ.out.store HF.out;rw[u32_in HU.out.2.2] at hq2;have HQ:=hJ hq2.ret;clear hr4 ha4 hq2;go_wp2_with fail
 go_end0
 have hq:=HQ.out;unfold fw at hq;have hrm:=HR.out.rm;rw[<- hq.1] at hrm;refine⟨go4,rfl,?_,HR.out.adv⟩;unfold wT;rw[<- HE.out];exact hrm
theorem Hq (b d v:Int) (hrm:RM w rb mb cb go true st) (hf:st.dO Bd) (hB:Bd<1000000000) (hb0:0<=b) (hb1:b<=60000) (hd0:0<=d) (hd1:d<=60000) (h3:U v) :
  Calls Tryz.prog 82 #[.pointer (some ⟨rb,0,none⟩),.int .i64 b,.int .i64 d,.int .u32 v] w fun e w'=>∃ go',e=.returned (.tuple #[])/\RM w' rb mb cb go' true ((rF b d v).on st).2/\jl rb mb cb w go w' go':=by
 have HR:=hJ (fV.start hrm);have HF:=hJ hf;have HQ:=hJ (Rest.start (rF b d v) st);have h03:=ji b d 3 hb0 hb1 hd0 hd1 dZ dZ;have HU:=hJ h3;obtain⟨a,ha⟩:∃ a,a=b+4*d:=⟨_,rfl⟩;simp only[<- ha] at h03;have HA:=hJ h03;have HE:=hJ ha;clear hrm hf ha h3 h03;go_enter Tryz.func82,Tryz.ntmps82
 go_wp2_with fail
 refine(HA.out _).mono ?_;rintro e w1 ⟨rfl,rfl⟩;go_wp2_with fail
 refine(run_store HR.out.rm hB HF.out.ok (a+3) v).mono ?_;rintro e w2 ⟨rfl,go2,hr2,ha2⟩;have HR:=hJ (HR.out.access hr2 ha2);have hq:=HQ.out;unfold rF at hq;rw[<- HE.out] at hq;have hq2:=hq.store HF.out;rw[u32_in HU.out] at hq2;have HQ:=hJ hq2.ret;clear hr2 ha2 hq hq2;go_wp2_with fail
 go_end0
 have hq:=HQ.out;unfold fw at hq;have hrm:=HR.out.rm;rw[<- hq.1] at hrm;refine⟨go2,rfl,?_,HR.out.adv⟩;unfold rF;rw[<- HE.out];exact hrm
/-! ### Find -/
def tQ (b x:Int):Nat->Nat->Pr Int
 | 0,_=>.ret (-1)
 | m+1,d=>.load (b+4*(d:Int)+1) fun y=>if y=x then .ret (d:Int) else tQ b x m (d+1)
def iH (b n x:Int):Pr Int:=tQ b x n.toNat 0
theorem xL {cs:List Int} {b x:Int} (hb:0<=b):∀ (m d:Nat),b+4*((d+m:Nat):Int)<=cs.length->∃ k,k<=m/\Does (tQ b x m d) cs k (kR cs b x m d) cs
 | 0,d,_=>⟨0,Nat.le_refl _,.ret _ _⟩
 | m+1,d,h=>by
  unfold tQ kR;by_cases hx:bA cs (b+4*(d:Int)+1)=x
  ·refine⟨1,oZ,.load oZ oZ ?_⟩;have e:cs.getD (b+4*(d:Int)+1).toNat 0=x:=hx;rw[if_pos hx,e,if_pos rfl];exact .ret _ _
  ·obtain⟨k,hk,hd⟩:=xL (cs:=cs) hb m (d+1) oZ;refine⟨k+1,oZ,.load oZ oZ ?_⟩;rw[if_neg hx];have e:¬ cs.getD (b+4*(d:Int)+1).toNat 0=x:=hx;rw[if_neg e];exact hd
theorem FI (b n x:Int) (hrm:RM w rb mb cb go true st) (hf:st.dO Bd) (hB:Bd<1000000000) (hb0:0<=b) (hb1:b<=60000) (hn0:0<=n) (hn1:n<=60000) :
  Calls Tryz.prog 113 #[.pointer (some ⟨rb,0,none⟩),.int .i64 b,.int .i64 n,.int .u32 x] w fun e w'=>∃ k go',e=.returned (.int .i64 k)/\RM w' rb mb cb go' true ((iH b n x).on st).2/\jl rb mb cb w go w' go'/\(∀ y,((iH b n x).on st).1=some y->y=k)/\-1<=k/\k<=60000:=by
 obtain⟨m,rfl⟩:=Int.eq_ofNat_of_zero_le hn0;have HR:=hJ (fV.start hrm);have HF:=hJ hf;have HQ:=hJ (show Rest (iH b (m:Int) x) (tQ b x (m-0) 0) st st from Rest.start _ _);have HA:=hJ (fun(d:Nat) (h:d<=m)=>ji b (d:Int) 1 hb0 hb1 oZ oZ dZ dZ);have hkn:(if(65536:Int)<(m:Int) then(65536:Int) else(m:Int))=(m:Int):=by split <;> omega
 have hkb:∀ (ts:Array TypeId) (t:TypeId) (w:World),(Builtin.min_ ts t #[.int .i64 (m:Int),.int .i64 65536]).run Tryz.prog w=.ok (.int .i64 (m:Int)) w:=fun ts t w=>by rw[run_min_int2,hkn]
 clear hrm hf;go_enter Tryz.func113,Tryz.ntmps113
 go_wp2_with fail
 go_loopw [12] (fun iv wr=>∃ (i:Nat) (st':St) (go':Option Nat),i<=m/\iv=.int .i64 i/\Hid (fV w rb mb cb go st' go' wr)/\Hid (st'.dO Bd)/\Hid (Rest (iH b (m:Int) x) (tQ b x (m-i) i) st st')) (fun iv _=>m-(intOf iv).toNat)
 case atStart=>exact⟨0,st,go,oZ,rfl,HR,HF,HQ⟩
 case round =>
  clear HR HF HQ;obtain⟨i,st1,go1,hi,rfl,HR,HF,HQ⟩:=hrel;by_cases hlt:i<m
  ·have hlt1:(i:Int)<(m:Int):=oZ;have hq:=HQ.out;obtain⟨j,hj⟩:∃ j,m-i=j+1:=⟨m-i-1,oZ⟩;have hj2:m-(i+1)=j:=oZ;rw[hj] at hq;unfold tQ at hq;have hq2:=hq.load HF.out;have HOff:Hid (st1.off=true->fw (iH b (m:Int) x) (-1) st st1):=hJ (fun ho=>hq.off HF.out ho rfl _);obtain⟨a,ha⟩:∃ a,a=b+4*(i:Int):=⟨_,rfl⟩;rw[<- ha] at hq2;have hai:=HA.out i hi;rw[<- ha] at hai;have HAi:=hJ hai;have HQ2:=hJ hq2;clear hq hq2 ha HQ hai;obtain⟨capo,hro⟩:=HR.out.rm.run;obtain⟨of,hoff⟩:∃ of,of=st1.off:=⟨_,rfl⟩;rw[<- hoff] at hro HOff;clear hoff;have HRo:=hJ hro;clear hro;cases of with
   | true =>
    go_wp2_with fail
    refine(nJ HRo.out).mono ?_;rintro e w6 ⟨rfl,rfl⟩;clear HRo;go_wp2_with fail
    try rw[Exit.noGoto_ret]
    go_ret;have hq:=HOff.out (by trivial);unfold fw at hq;refine⟨-1,go1,rfl,?_,HR.out.adv,hq.2,oZ,oZ⟩;have:=HR.out.rm;rw[<- hq.1] at this;exact this
   | false =>
   go_wp2_with fail
   refine(nJ HRo.out).mono ?_;rintro e w6 ⟨rfl,rfl⟩;clear HRo HOff;go_wp2_with fail
   refine(HAi.out _).mono ?_;rintro e w1 ⟨rfl,rfl⟩;go_wp2_with fail
   refine(run_load HR.out.rm hB HF.out.ok (a+1)).mono ?_;rintro e w2 ⟨rfl,go2,hr2,ha2⟩;have HR:=hJ (HR.out.access hr2 ha2);have HF:=hJ (HF.out.load (a+1));clear hr2 ha2;obtain⟨st2,hst2⟩:∃ st2,st2=(st1.load (a+1)).2:=⟨_,rfl⟩;obtain⟨y,hy⟩:∃ y,y=(st1.load (a+1)).1:=⟨_,rfl⟩;rw[<- hst2] at HR HF HQ2;rw[<- hy] at HQ2 ⊢;clear hst2 hy;by_cases hyx:y=x
   ·have b1:(y==x)=true:=by simpa using hyx
    have hq2:=HQ2.out;rw[if_pos hyx] at hq2;have HQ:=hJ hq2.ret;clear hq2 hyx;go_wp2_with fail
    go_ret;have hq:=HQ.out;unfold fw at hq;refine⟨(i:Int),go2,rfl,?_,HR.out.adv,hq.2,oZ,oZ⟩;have:=HR.out.rm;rw[<- hq.1] at this;exact this
   ·have b1:(y==x)=false:=by simpa using hyx
    have hq2:=HQ2.out;rw[if_neg hyx] at hq2;have HQ:=hJ hq2;clear hq2 hyx;go_wp2_with fail
    go_roundw
    case rel=>exact⟨i+1,st2,go2,oZ,by go_num,HR,HF,by rw[hj2];exact HQ⟩
    case measure=>simp[intOf];omega
  ·obtain rfl:i=m:=oZ;have hq:=HQ.out;rw[Nat.sub_self] at hq;have HQ2:=hJ hq.ret;clear hq;go_wp2_with fail
   go_ret;have hq:=HQ2.out;unfold fw at hq;refine⟨-1,go1,rfl,?_,HR.out.adv,hq.2,oZ,oZ⟩;have:=HR.out.rm;rw[<- hq.1] at this;exact this
end
end Go.Proofs.YtafaohnhlgcnpaaGreatDoor
