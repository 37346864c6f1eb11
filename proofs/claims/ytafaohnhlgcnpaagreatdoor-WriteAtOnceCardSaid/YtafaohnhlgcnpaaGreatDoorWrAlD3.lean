/-
 What stage 12 rests on.
-/
import Derived.Test.YtafaohnhlgcnpaaGreatDoorWrAlC3
import Derived.Test.YtafaohnhlgcnpaaGreatDoorWrAlB3
import Derived.Test.YtafaohnhlgcnpaaGreatDoorWrAlC1
set_option maxRecDepth 100000
set_option maxHeartbeats 16000000
namespace Go.Proofs.YtafaohnhlgcnpaaGreatDoor
open Go.RowKit
theorem Dq (s:ByteArray) (i:Nat):(ax s).getD i 0=aV s i:=by
 unfold ax aV;rw[List.getD_eq_getElem?_getD,List.getD_eq_getElem?_getD,List.getElem?_map];cases h:s.data.toList[i]? <;> simp
theorem vz (s:ByteArray) (i:Nat):nS ((ax s).drop i)=bS s i:=by
 unfold nS bS
 have h:∀ j,((ax s).drop i).getD j 0=aV s (i+j):=by
  intro j;rw[<- Dq];simp[List.getD_eq_getElem?_getD]
 rw[h 0,h 1,h 2,h 3];rfl
def aW (s:ByteArray):List Nat:=runesL (ax s)
theorem lU {s:ByteArray} {i:Nat} (h:i<s.size):runesL ((ax s).drop i)=(bS s i).1 :: runesL ((ax s).drop (i+(bS s i).2)):=by
 have hne:(ax s).drop i≠[]:=by
  intro e;have:=congrArg List.length e;simp[aD] at this;omega
 rw[kN hne,vz,List.drop_drop]
theorem lY {s:ByteArray} {i:Nat} (h:i<s.size):1<=(bS s i).2/\i+(bS s i).2<=s.size/\(bS s i).2<=4:=by
 have hne:(ax s).drop i≠[]:=by
  intro e;have:=congrArg List.length e;simp[aD] at this;omega
 have h1:=l5 ((ax s).drop i);have h2:=EQ ((ax s).drop i) hne;rw[vz] at h1 h2;simp[aD] at h2;omega
def iV (w:World) (base:Nat) (v:Value) (l:List Nat):Prop:=w.ownsRow base 21 1 v l.length (l.map fun(r:Nat)=>Value.int .i32 (r:Int))
theorem vR:(Tryz.prog.info? 21).map (fun i=>(i.zero,i.size,i.bytes))=some (some (.int .i32 0),1,4):=kZ
theorem pV (w:World) (e:TypeId) (size:Nat):(w.alloc (.cells #[] e)).ownsRow w.heap.size e size (.slice (some ⟨w.heap.size,0,none⟩) 0 0) 0 [] :=
 World.ownsRow_lit (base:=w.heap.size) (e:=e) (size:=size) w #[] 0 (Nat.le_refl _) dZ sZ
theorem pO {w w1 w2:World} {v v':Value} {l:List Nat} {r:Nat} {o:Obj} (hl:Below w.heap.size w w1) (hr:iV w1 w.heap.size v l) (ho:w2.ownsRow w.heap.size 21 1 v' (l.length+1) (l.map (fun(r:Nat)=>Value.int .i32 (r:Int))++[.int .i32 r])) (hg:(w1.alloc o).grownBy w2 v.ownBlock) :
  iV w2 w.heap.size v' (l++[r])/\Below w.heap.size w w2 :=
 ⟨by unfold iV;simpa using ho,(hl.alloc hl.size _).grown hg (by have:=hl.size;simp;omega) (fun k hk=>(World.ownsRow.lt hr k hk).1)⟩
theorem GI (w:World) (s:ByteArray) (hs:s.size<=1000000) :
  Calls Tryz.prog 191 #[.string s] w fun e w'=>∃ v,e=.returned v/\v≠.slice none 0 0/\iV w' w.heap.size v (aW s)/\Below w.heap.size w w':=by
 obtain⟨i0,hi,hz0,hz1,hz2⟩:=info_parts vR;have HI:=hJ (And.intro hi (And.intro hz0 (And.intro hz1 hz2)));have HL:=hJ (ui (ax s)).1;clear hi hz0 hz1 hz2;go_enter Tryz.func191,Tryz.ntmps191
 go_wp2_with fail
 go_loopw [3,4] (fun v iv wr=>∃ (i:Nat) (l:List Nat),i<=s.size/\iv=.int .i64 i/\aW s=l++runesL ((ax s).drop i)/\v≠.slice none 0 0/\iV wr w.heap.size v l/\Below w.heap.size w wr) (fun _ iv _=>s.size-(intOf iv).toNat)
 case atStart=>exact⟨0,[],oZ,rfl,by simp[aW],sZ,pV w _ _,aj⟩
 case round =>
  obtain⟨i,l,hi,rfl,hl,hnn,hown,hlow⟩:=hrel;by_cases hlt:i<s.size
  ·have hd:=lY hlt;have HD:=hJ (lU hlt);have HS:=hJ hl;have HO:=hJ hown;have HW:=hJ hlow;have hll:l.length<=1000000:=by have:=congrArg List.length hl;have:=HL.out;rw[aD] at this;simp[aW] at *;omega
   obtain⟨r,hr⟩:∃ r,r=(bS s i).1:=⟨_,rfl⟩;obtain⟨k,hk⟩:∃ k,k=(bS s i).2:=⟨_,rfl⟩;rw[<- hk] at hd;have HRK:=hJ (And.intro hr hk);have hlt1:(i:Int)<(s.size:Int):=oZ;have hcall:∀ w:World,Calls Tryz.prog 208 #[.string s,.int .i64 i] w fun e w'=>e=.returned (.tuple #[.int .i32 (atR s i).1,.int .i64 (atR s i).2])/\Below w.heap.size w w':=fun w=>Lr w s i hlt mZ;obtain⟨hd1,hd2,hd3⟩:=hd;by_cases hz:bS s i=(65533,1)
   ·have e:atR s i=(0,0):=by unfold atR;rw[if_pos hz]
    rw[e] at hcall;have HC:=hJ hcall;obtain rfl:r=65533:=by rw[hr,hz]
    obtain rfl:k=1:=by rw[hk,hz]
    clear hcall hl hown hlow hr hk hz e;go_wp2_with fail
    refine(HC.out _).mono ?_;rintro e w2 ⟨rfl,hb2⟩;have HO:=hJ (show iV w2 _ _ l from ak HO.out hb2);have HW:=hJ (HW.out.trans (hb2.mono HW.out.size));clear hb2;go_wp2_with (at_builtin;refine wpList_append_own _ rfl (.tmp 20) (.tmp 22) 259 rfl w.heap.size 21 i0 _ 1 4 Tryz.underlying259 HI.out.1 HI.out.2.1 HI.out.2.2.1 HI.out.2.2.2 rfl dZ _ l.length (l.map fun(r:Nat)=>Value.int .i32 (r:Int)) rfl (World.ownsRow.alloc HO.out _) ⟨w2.heap.size,0,none⟩ 1 1 [.int .i32 65533] rfl rfl one_cell vZ mZ oZ (by have:=HW.out.size;simp;omega) ?_;intro v' w5 ho hg hn';have HN5:=hJ (fun h=>absurd (hn'.1 h).2 dZ:v'≠.slice none 0 0);have HO5:=hJ (pO (r:=65533) HW.out HO.out ho hg);clear ho hg hn')
    go_roundw
    case rel =>
     refine⟨i+1,l++[65533],oZ,by go_num,?_,HN5.out,HO5.out.1,HO5.out.2⟩;rw[HS.out,HD.out,<- HRK.out.1,<- HRK.out.2];simp
    case measure=>simp[intOf];omega
   ·have e:atR s i=(r,k):=by unfold atR;rw[if_neg hz,hr,hk]
    rw[e] at hcall;have HC:=hJ hcall;have hk0:((k:Int)==0)=false:=by simp;omega
    clear hcall hl hown hlow hr hk hz e;go_wp2_with fail
    refine(HC.out _).mono ?_;rintro e w2 ⟨rfl,hb2⟩;have HO:=hJ (show iV w2 _ _ l from ak HO.out hb2);have HW:=hJ (HW.out.trans (hb2.mono HW.out.size));clear hb2;go_wp2_with (at_builtin;refine wpList_append_own _ rfl (.tmp 20) (.tmp 22) 259 rfl w.heap.size 21 i0 _ 1 4 Tryz.underlying259 HI.out.1 HI.out.2.1 HI.out.2.2.1 HI.out.2.2.2 rfl dZ _ l.length (l.map fun(r:Nat)=>Value.int .i32 (r:Int)) rfl (World.ownsRow.alloc HO.out _) ⟨w2.heap.size,0,none⟩ 1 1 [.int .i32 r] rfl rfl one_cell vZ mZ oZ (by have:=HW.out.size;simp;omega) ?_;intro v' w5 ho hg hn';have HN5:=hJ (fun h=>absurd (hn'.1 h).2 dZ:v'≠.slice none 0 0);have HO5:=hJ (pO (r:=r) HW.out HO.out ho hg);clear ho hg hn')
    go_roundw
    case rel =>
     refine⟨i+k,l++[r],oZ,by go_num,?_,HN5.out,HO5.out.1,HO5.out.2⟩;rw[HS.out,HD.out,<- HRK.out.1,<- HRK.out.2];simp
    case measure=>simp[intOf];omega
  ·go_wp2_with fail
   go_ret;refine⟨_,rfl,hnn,?_,hlow⟩
   have:aW s=l:=by
    rw[hl,List.drop_eq_nil_of_le (by rw[aD];omega)];simp[jr]
   rw[this];exact hown

theorem DK (n:Nat):(encR n).length<=4:=by
 rw[il];repeat' split
 all_goals omega
def fq (l:List Int):List Nat:=l.flatMap fun r=>encR (dH r)
def iK (l:List Int):ByteArray:=ay (fq l)
theorem pR (l:List Int) (r:Int):fq (l++[r])=fq l++encR (dH r):=by simp[fq]
theorem rX:∀ l:List Int,(fq l).length<=4*l.length
 | []=>by simp[fq]
 | r :: l=>by
  have h1:=rX l;have h2:=il (dH r);have e:fq (r :: l)=encR (dH r)++fq l:=rfl;rw[e,List.length_append,List.length_cons];split at h2
  ·omega
  ·split at h2
   ·omega
   ·split at h2 <;> omega
theorem zt {w:World} {g:Nat} {l:List Nat} (h:BytesAt w g l):∀ j u,(l.map fun(b:Nat)=>Value.int .u8 (b:Int))[j]?=some u->w.cell? ((⟨g,0,none⟩:Addr).add j)=some u:=by
 intro j u hj;rw[Addr.add_lit,cell_of_row w g (0+j) _ _ _ h];simpa using hj
theorem wQ (l:List Nat):∀ u∈(l.map fun(b:Nat)=>Value.int .u8 (b:Int)),u.oneCell'=true:=by
 intro u hu;simp at hu;obtain⟨b,_,rfl⟩:=hu;rfl
theorem sJ (n:Nat) (h:gI n):∀ b∈encR n,b<256:=by
 unfold gI at h;intro b hb;unfold encR at hb;split at hb
 ·simp at hb;omega
 ·split at hb
  ·simp at hb;omega
  ·split at hb
   ·simp at hb;omega
   ·simp at hb;omega
theorem mH (l:List Int):∀ b∈fq l,b<256:=by
 intro b hb;simp[fq] at hb;obtain⟨r,_,h⟩:=hb;exact sJ _ (BJ r) b h
def iR (w:World) (oa:Option Addr) (l:List Int):Prop:=∀ j r,l[j]?=some r->∃ ad,oa=some ad/\w.cell? (ad.add j)=some (.int .i32 r)
theorem iR.below {w w':World} {oa:Option Addr} {l:List Int} (h:iR w oa l) (hb:Below w.heap.size w w'):iR w' oa l:=fun j r hj=>(h j r hj).imp fun _ h=>⟨h.1,az h.2 hb⟩
theorem nE (w:World) (B S U:Nat->Int) (C T L n:Int) (k:Nat) (hk:k<6) (hn:1<=n) (h0:0<=U k) (h1:U k<=S k) (hs:S k<=1000000) (hf:n<=S k-U k) (hb0:0<=B k) (hb1:B k<=1000000) :
  Calls Tryz.prog 169 #[.agg (ae B S C T L),.agg (six U),.int .i64 k,.int .i64 n] w fun e w'=>e=.returned (.tuple #[.int .i64 (B k+U k),.agg (six (more U k n)),.int .i64 0])/\Below w.heap.size w w':=by
 have d0:decide ((k:Int)<0)=false:=decide_eq_false oZ;have d1:decide (5<(k:Int))=false:=decide_eq_false oZ;have d2:decide (n<1)=false:=decide_eq_false oZ;have d3:decide (U k<0)=false:=decide_eq_false oZ;have d4:decide (S k<U k)=false:=decide_eq_false oZ;have d5:decide (S k-U k<n)=false:=decide_eq_false oZ;go_enter Tryz.func169,Tryz.ntmps169
 go_upto_region 1 with fail
 obtain⟨w0,hw0⟩:∃ w0,w0=((w.alloc (.cells (ae B S C T L) 42)).alloc (.cells (six U) 40)).alloc (.cells #[.int .i64 0,.int .i64 0,.int .i64 0,.int .i64 0,.int .i64 0,.int .i64 0] 40):=⟨_,rfl⟩;rw[<- hw0];have k0:w0.heap[w.heap.size]?=some (.cells (ae B S C T L) 42 (0,0)):=by rw[hw0];exact dN _ _ _ _
 have k1:w0.heap[w.heap.size+1]?=some (.cells (six U) 40 (0,0)):=by rw[hw0];exact dM _ _ _ _
 have k2:w0.heap[w.heap.size+1+1]?=some (.cells (six fun _=>0) 40 (0,0)):=by rw[hw0];exact dS _ _ _ _
 have hb:Below w.heap.size w w0:=by rw[hw0];exact bi
 clear hw0;have hk0:(k:Int)<6:=oZ;have c0:w0.cell? ⟨w.heap.size,6+k,none⟩=some (.int .i64 (S k)):=(aa k0 (6+k)).trans (ku _ _ _ _ _ k hk);have c1:w0.cell? ⟨w.heap.size+1,k,none⟩=some (.int .i64 (U k)):=(aa k1 k).trans (dK _ k hk);have c2:w0.cell? ⟨w.heap.size,k,none⟩=some (.int .i64 (B k)):=(aa k0 k).trans (iY _ _ _ _ _ k hk);have f1:=free_at k1 k;have K1:=hJ k1;have K2:=hJ k2;have HB:=hJ hb;clear k0 k1 k2 hb;go_quiet (fail)
 rename Nat=>m1
 go_wp2_with fail
 go_quiet (fail)
 rename Nat=>m2
 go_wp2_with fail
 go_quiet (fail)
 rename Nat=>m3
 go_upto_region 7 with fail
 obtain⟨w4,hw4⟩:∃ w4,w4=(w0.drewN (m1+m2+m3)).setCell ⟨w.heap.size+1,k,none⟩ (.int .i64 (U k+n)):=⟨_,rfl⟩;rw[<- hw4]
 have k1:w4.heap[w.heap.size+1]?=some (.cells (six (more U k n)) 40 (0,0)):=by
  rw[hw4,heap_setCell_same _ _ _ _ _ _ (show (World.drewN _ _).heap[w.heap.size+1]?=_ from K1.out),iC _ (more U k n) k _ hk (fun j _=>rfl)]
 have k2:w4.heap[w.heap.size+1+1]?=some (.cells (six fun _=>0) 40 (0,0)):=by
  rw[hw4,Below.heap_setCell _ _ _ _ sZ];exact K2.out
 have hB4:Below w.heap.size w w4:=by
  rw[hw4];exact(dm HB.out _).setCell sZ _
 clear hw4 K1 K2 HB c0 c1 c2 f1;have e0:w4.cell? ⟨w.heap.size+1,0,none⟩=some (.int .i64 (more U k n 0)):=aa k1 0;have e1:w4.cell? ⟨w.heap.size+1,1,none⟩=some (.int .i64 (more U k n 1)):=aa k1 1;have e2:w4.cell? ⟨w.heap.size+1,2,none⟩=some (.int .i64 (more U k n 2)):=aa k1 2;have e3:w4.cell? ⟨w.heap.size+1,3,none⟩=some (.int .i64 (more U k n 3)):=aa k1 3;have e4:w4.cell? ⟨w.heap.size+1,4,none⟩=some (.int .i64 (more U k n 4)):=aa k1 4;have e5:w4.cell? ⟨w.heap.size+1,5,none⟩=some (.int .i64 (more U k n 5)):=aa k1 5;have K2:=hJ k2;have HB:=hJ hB4;clear k1 k2 hB4;go_still_tail 3,kZ
 change wpList _ _ _ _ _ w4.drew;clear e0 e1 e2 e3 e4 e5
 go_wp2_with (first
  | (refine zZ rfl 40 (.tmp 9) (.tmp 65) rfl (w.heap.size+1+1) (six (more U k n)) rfl rfl 40 (six fun _=>0) (show w4.drew.heap[w.heap.size+1+1]?=_ from K2.out) (af _) (aS _ _) (aQ _) ?_)
  | fail)
 refine tZ (v:=.tuple #[.int .i64 (B k+U k),.agg (six (more U k n)),.int .i64 0]) (bE rfl _ _ (w.heap.size+1+1) _ _ (0,0) _ _ _ rfl rfl rfl (setRow_heap _ _ _ _ _ _ (show w4.drew.heap[w.heap.size+1+1]?=_ from K2.out)) Tryz.underlying40 rfl (af _)) rfl ⟨rfl,below_setRow HB.out.drew oZ _⟩
end Go.Proofs.YtafaohnhlgcnpaaGreatDoor
