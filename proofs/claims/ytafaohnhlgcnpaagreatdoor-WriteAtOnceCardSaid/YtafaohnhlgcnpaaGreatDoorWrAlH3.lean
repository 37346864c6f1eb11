/-
 What stage 12 rests on.
-/
import Derived.Test.YtafaohnhlgcnpaaGreatDoorWrAlG5
import Derived.Test.YtafaohnhlgcnpaaGreatDoorWrAlF4
set_option maxRecDepth 100000
set_option maxHeartbeats 16000000
namespace Go.Proofs.YtafaohnhlgcnpaaGreatDoor
open Go.RowKit

def TW (w:World):Prop:=dE w
/-! ### Runs -/
theorem J8:(Tryz.prog.info? 259).map (fun i=>(i.zero,i.size,i.bytes))=some (some (.slice none 0 0),1,24):=kZ
theorem xV (w:World):(Go.sizeOf 21).run Tryz.prog w=.ok 1 w:=kZ
theorem p9:Tryz.prog.elem 259=21:=kZ
theorem ug:Tryz.prog.underlying 259=some (.slice (Tryz.prog.elem 259)):=by rw[p9];exact Tryz.underlying259
theorem Hf (a:Addr) (i j:Nat):(a.add i).add j=a.add (i+j):=by
 unfold Addr.add;by_cases hi:i=0 <;> by_cases hj:j=0 <;> simp[hi,hj,Nat.add_assoc]
theorem BQ (oa:Option Addr) (n c i:Nat) (hi:i<=c) (w:World) :
  (Instr.slice 259 (.slice oa n c) none (some (.int .i64 (i:Int))) none).run Tryz.prog w=.ok (.slice oa i c) w:=by
 rw[run_slice_h w 259 oa n c ug .i64 (i:Int) oZ oZ,p9,xV];have e:(oa.map fun x=>x.add 0)=oa:=by cases oa <;> simp[Addr.add]
 simp[Result.andThen,sliced,e]
theorem J7 {w:World} {oa:Option Addr} {R:List Nat} (h:iR w oa (ints R)) (i:Nat):iR w oa (ints (R.take i)):=by
 intro j r hj;rw[<- lX,List.getElem?_take] at hj;split at hj
 ·exact h j r hj
 ·cases hj
theorem Eb {W:World} {oa:Option Addr} {R:List Nat} (n c i:Nat) (hn:R.length=n) (hi:i+1<=n) (hc:n<=c) (hm:c<=maxLen) (h:iR W oa (ints R)) :
  ∃ ob d,(∀ w:World,(Instr.slice 259 (.slice oa n c) (some (.int .i64 ((i:Int)+1))) none none).run Tryz.prog w=.ok (.slice ob (R.drop (i+1)).length d) w)/\(R.drop (i+1)).length<=d/\d<=maxLen/\iR W ob (ints (R.drop (i+1))):=by
 refine⟨if c=i+1 then oa else oa.map (·.add (i+1)),c-(i+1),fun w=>?_,by rw[List.length_drop];omega,oZ,?_⟩
 ·rw[run_slice_l w 259 oa n c ug .i64 ((i:Int)+1) oZ oZ,p9,xV];have e:((i:Int)+1).toNat=i+1:=oZ;simp[Result.andThen,sliced,e,hn]
 ·intro j r hj
  have hj2:(ints R)[i+1+j]?=some r:=by
   unfold ints at hj ⊢;rw[List.map_drop,List.getElem?_drop] at hj;exact hj
  have hlt:=(eZ.1 hj2).1;rw[ig] at hlt;obtain⟨ad,rfl,hc2⟩:=h _ r hj2;rw[if_neg oZ];exact⟨ad.add (i+1),rfl,by rw[Hf];exact hc2⟩
def K4 (w:World) (x:Value) (q:List Nat):Prop:=∃ oa c,x=.slice oa q.length c/\q.length<=c/\c<=maxLen/\iR w oa (ints q)
def nM (w:World) (vs:List Value) (qs:List (List Nat)):Prop:=vs.length=qs.length/\∀ (j:Nat) x q,vs[j]?=some x->qs[j]?=some q->K4 w x q
theorem vJ {w:World} {vs:List Value} {qs:List (List Nat)} {x:Value} {q:List Nat} (h:nM w vs qs) (hx:K4 w x q):nM w (vs++[x]) (qs++[q]):=by
 refine⟨by simp[h.1],fun j y p hy hp=>?_⟩;by_cases hj:j<vs.length
 ·rw[List.getElem?_append_left hj] at hy;rw[List.getElem?_append_left (by rw[<- h.1];exact hj)] at hp;exact h.2 j y p hy hp
 ·have h1:=(eZ.1 hy).1;simp at h1;obtain rfl:j=vs.length:=oZ;rw[List.getElem?_append_right (Nat.le_refl _)] at hy;rw[h.1,List.getElem?_append_right (Nat.le_refl _)] at hp;simp at hy hp;subst hy hp;exact hx
def kU (w:World) (base:Nat) (v:Value) (vs:List Value):Prop:=w.ownsRow base 259 1 v vs.length vs
structure jQ (W:World) (R rest:List Nat) (oa:Option Addr) (c:Nat) (v:Value) (vs:List Value) (w:World):Prop where
 cap:rest.length<=c/\c<=maxLen
 rd:iR W oa (ints rest)
 eq:∃ qs,qs++mQ rest=mQ R/\nM W vs qs
 own:kU w W.heap.size v vs
 many:vs.length+rest.length<=R.length
 low:Below W.heap.size W w
theorem jQ.below {W:World} {R rest:List Nat} {oa:Option Addr} {c:Nat} {v:Value} {vs:List Value} {w w':World} (h:jQ W R rest oa c v vs w) (hb:Below w.heap.size w w'):jQ W R rest oa c v vs w' :=
 ⟨h.cap,h.rd,h.eq,ak h.own hb,h.many,h.low.trans (hb.mono h.low.size)⟩
theorem xH {l:List Nat} {i:Nat} {r:Nat} (hi:l[i]?=some r) (hl:bM (l.take i)) (hr:cO (r:Int)=0):mQ l=(if i=0 then [] else [l.take i])++mQ (l.drop (i+1)):=by
 have hlen:=(eZ.1 hi).1
 have e:l=l.take i++r :: l.drop (i+1):=by
  have:=List.take_append_drop i l;rw[List.drop_eq_getElem_cons hlen] at this;rw[(eZ.1 hi).2] at this;exact this.symm
 have key:∀ (a c b:List Nat),bM a->qj c (a++r :: b)=(if c++a=[] then [] else [c++a])++mQ b:=by
  intro a;induction a with
  | nil =>
   intro c b _;rw[List.nil_append,jw,if_pos hr,List.append_nil];split <;> rfl
  | cons x a ih =>
   intro c b h;rw[List.cons_append,jw,if_neg (h x sZ),ih (c++[x]) b fun y hy=>h y (by simp[hy])];simp
 have:=key (l.take i) [] (l.drop (i+1)) hl;rw[<- e] at this;unfold mQ;rw[this];unfold mQ;congr 1
 have:(l.take i=[])↔i=0:=by
  constructor
  ·intro h;have:=congrArg List.length h;rw[List.length_take] at this;simp at this;rcases this with h | h
   ·exact h
   ·rw[h] at hlen;simp at hlen
  ·rintro rfl;rfl
 simp[this]
theorem Ik {l:List Nat} (hl:bM l) (h0:l≠[]):mQ l=[l]:=by
 have key:∀ (a c:List Nat),bM a->qj c a=if c++a=[] then [] else [c++a]:=by
  intro a;induction a with
  | nil=>intro c _;rw[nQ,List.append_nil]
  | cons x a ih =>
   intro c h;rw[jw,if_neg (h x sZ),ih (c++[x]) fun y hy=>h y (by simp[hy])];simp
 unfold mQ;rw[key l [] hl,List.nil_append,if_neg h0]
theorem y5 {l:List Nat} {i r:Nat} (h:bM (l.take i)) (hi:l[i]?=some r) (hr:cO (r:Int)≠0):bM (l.take (i+1)):=by
 rw[List.take_add_one,hi];exact mG h hr
theorem jQ.skip {W:World} {R rest:List Nat} {oa ob:Option Addr} {c d:Nat} {v:Value} {vs:List Value} {w:World} {r:Nat} (h:jQ W R rest oa c v vs w) (hi:rest[0]?=some r) (hr:cO (r:Int)=0)
  (hd:(rest.drop 1).length<=d/\d<=maxLen) (hb:iR W ob (ints (rest.drop 1))):jQ W R (rest.drop 1) ob d v vs w:=by
 obtain⟨qs,hq,hp⟩:=h.eq;rw[xH hi (by simp[bM]) hr,if_pos rfl,List.nil_append] at hq;exact⟨hd,hb,⟨qs,hq,hp⟩,h.own,by have:=h.many;rw[List.length_drop];omega,h.low⟩
theorem jQ.word {W:World} {R rest:List Nat} {oa ob:Option Addr} {c d i:Nat} {v v':Value} {vs:List Value} {w w2:World} {o:Obj} {r:Nat} (h:jQ W R rest oa c v vs w) (hl:bM (rest.take i)) (h0:i≠0) (hi:rest[i]?=some r) (hr:cO (r:Int)=0)
  (hd:(rest.drop (i+1)).length<=d/\d<=maxLen) (hb:iR W ob (ints (rest.drop (i+1))))
  (ho:w2.ownsRow W.heap.size 259 1 v' (vs.length+1) (vs++[.slice oa i c])) (hg:(w.alloc o).grownBy w2 v.ownBlock) :
  jQ W R (rest.drop (i+1)) ob d v' (vs++[.slice oa i c]) w2:=by
 obtain⟨qs,hq,hp⟩:=h.eq;have hlen:=(eZ.1 hi).1;rw[xH hi hl hr,if_neg h0,<- List.append_assoc] at hq;have hsz:=h.low.size;have hcap:=h.cap;refine⟨hd,hb,⟨_,hq,vJ hp ⟨oa,c,?_,?_,hcap.2,J7 h.rd i⟩⟩,?_,?_,(h.low.alloc hsz _).grown hg uZ (fun k hk=>(World.ownsRow.lt h.own k hk).1)⟩
 ·rw[List.length_take,Nat.min_eq_left oZ]
 ·rw[List.length_take];omega
 ·unfold kU;simpa using ho
 ·have:=h.many;simp only[List.length_append,List.length_cons,List.length_nil,List.length_drop];omega
theorem jQ.last {W:World} {R rest:List Nat} {oa:Option Addr} {c n:Nat} {v v':Value} {vs:List Value} {w w2:World} {o:Obj} (h:jQ W R rest oa c v vs w) (hn:rest.length=n) (hl:bM (rest.take n)) (h0:n≠0)
  (ho:w2.ownsRow W.heap.size 259 1 v' (vs.length+1) (vs++[.slice oa n c])) (hg:(w.alloc o).grownBy w2 v.ownBlock) :
  kU w2 W.heap.size v' (vs++[.slice oa n c])/\nM W (vs++[.slice oa n c]) (mQ R)/\Below W.heap.size W w2:=by
 obtain⟨qs,hq,hp⟩:=h.eq;subst hn;rw[List.take_length] at hl;rw[Ik hl (by intro e;rw[e] at h0;simp at h0)] at hq;have hsz:=h.low.size;refine⟨by unfold kU;simpa using ho,?_,(h.low.alloc hsz _).grown hg uZ (fun k hk=>(World.ownsRow.lt h.own k hk).1)⟩;rw[<- hq];exact vJ hp ⟨oa,c,rfl,h.cap.1,h.cap.2,h.rd⟩
theorem jQ.none {W:World} {R rest:List Nat} {oa:Option Addr} {c:Nat} {v:Value} {vs:List Value} {w:World} (h:jQ W R rest oa c v vs w) (hn:rest.length=0) :
  kU w W.heap.size v vs/\nM W vs (mQ R)/\Below W.heap.size W w:=by
 obtain⟨qs,hq,hp⟩:=h.eq;obtain rfl:=List.eq_nil_of_length_eq_zero hn;have:mQ []=[]:=rfl;rw[this,List.append_nil] at hq;exact⟨h.own,by rw[<- hq];exact hp,h.low⟩
theorem GA (W:World) (oa:Option Addr) (c:Nat) (R:List Nat) (hT:dE W) (hR:iR W oa (ints R)) (hn:R.length<=1000000) (hc:R.length<=c) (hm:c<=maxLen) :
  Calls Tryz.prog 153 #[.slice oa R.length c] W fun e w'=>∃ v vs,e=.returned v/\kU w' W.heap.size v vs/\nM W vs (mQ R)/\Below W.heap.size W w':=by
 obtain⟨i0,hi,hz0,hz1,hz2⟩:=info_parts J8;have HI:=hJ (And.intro hi (And.intro hz0 (And.intro hz1 hz2)));have HT:=hJ hT;have HC:Hid (jQ W R R oa c (.slice none 0 0) [] W):=hJ ⟨⟨hc,hm⟩,hR,⟨[],sZ,by simp[nM]⟩,World.ownsRow_nil _ _ _ _,sZ,Below.refl _ _⟩;clear hi hz0 hz1 hz2 hT hR hc hm;go_enter Tryz.func153,Tryz.ntmps153
 go_wp2_with fail
 go_step3
 go_wp2_with fail
 go_step3
 go_wp2_with fail
 go_loopg [0,3] R.length (fun g s0 s3 wr=>∃ (rest:List Nat) (oa1:Option Addr) (c1:Nat) (vs:List Value),rest.length=g/\s0=.slice oa1 g c1/\Hid (jQ W R rest oa1 c1 s3 vs wr))
 case atStart=>exact⟨R,oa,c,[],rfl,rfl,HC⟩
 case round =>
  obtain⟨rest,oa1,c1,vs,hg,rfl,HA⟩:=hrel;have HN:=hJ hg;clear hg;cases gk with
  | zero =>
   go_wp2_with fail
   try rw[Exit.noGoto_ret]
   go_ret;obtain⟨h1,h2,h3⟩:=HA.out.none HN.out;exact⟨_,vs,rfl,h1,h2,h3⟩
  | succ g =>
   have hgl:g+1<=1000000:=by have:=HA.out.many;have:=HN.out;omega
   obtain⟨n,hnn⟩:∃ n,n=g+1:=⟨_,rfl⟩;rw[<- hnn] at HN ⊢;have hn0:0<n:=oZ;have hn6:n<=1000000:=oZ;have HNG:=hJ hnn;clear hnn;go_wp2_with fail
   go_loopg [0,3,11] n (fun g2 s0 s3 s11 wy=>∃ i:Nat,i+g2=n/\s0=.slice oa1 n c1/\s11=.int .i64 i/\Hid (bM (rest.take i))/\Hid (jQ W R rest oa1 c1 s3 vs wy))
   case atStart=>exact⟨0,oZ,rfl,rfl,hJ (by simp[bM]),HA⟩
   case round =>
    obtain⟨i,hig,rfl,rfl,HLt,HA⟩:=hrel;have hvl:vs.length<=1000000:=by have:=HA.out.many;omega
    cases gk with
    | zero =>
     have hin:n=i:=oZ;subst hin;have HA5:=HA;go_wp2_with (at_builtin;refine wpList_append_own _ rfl (.tmp 32) (.tmp 34) 257 rfl W.heap.size 259 i0 _ 1 24 Tryz.underlying257 HI.out.1 HI.out.2.1 HI.out.2.2.1 HI.out.2.2.2 rfl dZ _ vs.length vs rfl (World.ownsRow.alloc HA5.out.own _) ⟨wr.heap.size,0,none⟩ 1 1 [.slice oa1 n c1] rfl rfl one_cell vZ mZ oZ (by have:=HA5.out.low.size;simp;omega) ?_;intro v' w6 ho hg _;have HE:=hJ (HA5.out.last HN.out HLt.out oZ ho hg);clear ho hg)
     try rw[Exit.noGoto_ret]
     go_ret;exact⟨_,_,rfl,HE.out.1,HE.out.2.1,HE.out.2.2⟩
    | succ g2 =>
     have hlt:i<n:=oZ;obtain⟨r,hr⟩:∃ r,rest[i]?=some r:=⟨_,gZ (by rw[HN.out];exact hlt)⟩;obtain⟨ad,rfl,hcell⟩:=(HA.out.rd.below HA.out.low) i (r:Int) (by unfold ints;simp[hr]);have HCl:=hJ (GJ wr (r:Int) (HT.out.below HA.out.low));have HR:=hJ hr;have hcp:=HA.out.cap;rw[HN.out] at hcp;obtain⟨hcp1,hcp2⟩:=hcp;have HM:=hJ hcp2;clear hr hcp2;by_cases hc:cO (r:Int)=0
     ·rw[hc] at HCl;obtain⟨ob,d,hfrom,hd1,hd2,hrd⟩:=Eb n c1 i HN.out oZ hcp1 HM.out HA.out.rd;have hto:=BQ (some ad) n c1 i oZ;have HD:=hJ (And.intro (And.intro hd1 hd2) hrd);obtain⟨m,hmm⟩:∃ m,(rest.drop (i+1)).length=m:=⟨_,rfl⟩;rw[hmm] at hfrom;have HMm:=hJ hmm;have hml:m<n:=by rw[List.length_drop,HN.out] at hmm;omega
      have HCz:=hJ hc;clear hc hd1 hd2 hrd hmm;by_cases h0:i=0
      ·have HI0:=hJ h0;have h0i:¬ (0:Int)<(i:Int):=oZ;clear h0;go_wp2_with fail
       refine HCl.out.mono ?_;rintro e w5 ⟨rfl,hb5⟩;have HA5:=hJ (HA.out.below hb5);clear hb5 hcell HA;go_wp2_with fail
       go_roundg m
       case measure=>have:=HNG.out;omega
       case rel =>
        refine⟨rest.drop (i+1),ob,d,vs,HMm.out,rfl,hJ ?_⟩;have:=HA5.out.skip (ob:=ob) (d:=d) (r:=r) (by have:=HR.out;rwa [HI0.out] at this) HCz.out (by have:=HD.out.1;rwa [HI0.out] at this) (by have:=HD.out.2;rwa [HI0.out] at this);rw[HI0.out];exact this
      ·have h0i:(0:Int)<(i:Int):=oZ;go_wp2_with fail
       refine HCl.out.mono ?_;rintro e w5 ⟨rfl,hb5⟩;have HA5:=hJ (HA.out.below hb5);clear hb5 hcell HA;go_wp2_with (at_builtin;refine wpList_append_own _ rfl (.tmp 21) (.tmp 25) 257 rfl W.heap.size 259 i0 _ 1 24 Tryz.underlying257 HI.out.1 HI.out.2.1 HI.out.2.2.1 HI.out.2.2.2 rfl dZ _ vs.length vs rfl (World.ownsRow.alloc HA5.out.own _) ⟨w5.heap.size,0,none⟩ 1 1 [.slice (some ad) i c1] rfl rfl one_cell vZ mZ oZ (by have:=HA5.out.low.size;simp;omega) ?_;intro v' w6 ho hg _;have HE:=hJ (HA5.out.word HLt.out h0 HR.out HCz.out HD.out.1 HD.out.2 ho hg);clear ho hg)
       go_roundg m
       case measure=>have:=HNG.out;omega
       case rel=>exact⟨rest.drop (i+1),ob,d,_,HMm.out,rfl,HE⟩
     ·have HCz:=hJ hc;have hcne:(cO (r:Int)==0)=false:=beq_eq_false_iff_ne.2 hc;generalize cO (r:Int)=cz at HCl hcne;clear hc;go_wp2_with fail
      refine HCl.out.mono ?_;rintro e w5 ⟨rfl,hb5⟩;have HA5:=hJ (HA.out.below hb5);clear hb5 hcell HA;go_wp2_with fail
      go_roundg g2
      case measure=>omega
      case rel=>exact⟨i+1,oZ,rfl,by go_num,hJ (y5 HLt.out HR.out HCz.out),HA5⟩
def yw (q:List Nat) (i j:Nat):Value:=if j<i then .int .i32 (fK ((q.getD j 0:Nat):Int)) else .int .i32 0
theorem Gh:(Tryz.prog.info? 21).map (fun i=>(i.zero,i.size,i.bytes))=some (some (.int .i32 0),1,4):=kZ
theorem D8 (k:Nat) (hk:k<=16) (w:World):(Instr.makeSlice 259 (.int .i64 k) (.int .i64 k)).run Tryz.prog w=.ok (.slice (some ⟨w.heap.size,0,none⟩) k k) (w.alloc (.cells (madeCells #[.int .i32 0] k) 21)) :=
 run_make_row' 259 21 (.int .i32 0) 4 Tryz.underlying259 Gh rfl .i64 .i64 k oZ oZ w
theorem Fy {w:World} {g:Nat} {t:TypeId} {q:List Nat} {k:Nat} (hk:k<=q.length) (ho:∀ r∈q,gI r) (h:w.rowIs g t k (yw q k)):iR w (some ⟨g,0,none⟩) (ints ((q.take k).map dn)):=by
 intro j r hj;refine⟨_,rfl,?_⟩;have hlt:=(eZ.1 hj).1;rw[ig,List.length_map,List.length_take] at hlt;rw[Addr.add_lit,Nat.zero_add,h.cell oZ];unfold yw;rw[if_pos oZ]
 have hq:q[j]?=some (q.getD j 0):=by
  rw[List.getD_eq_getElem?_getD,gZ oZ];rfl
 have hr:r=((dn (q.getD j 0):Nat):Int):=by
  unfold ints at hj;rw[List.getElem?_map,List.getElem?_map,List.getElem?_take,if_pos oZ,hq] at hj;exact(Option.some.inj hj).symm
 rw[hr,(kW (ho _ (List.mem_of_getElem? hq))).1]
theorem DI (W:World) (oa:Option Addr) (c m:Nat) (q:List Nat) (hm:q.length=m) (hT:dE W) (hR:iR W oa (ints q)) (hc:m<=c) (hm6:m<=1000000) (hl:bM q) (ho:∀ r∈q,gI r) :
  Calls Tryz.prog 155 #[.slice oa m c] W fun e w'=>e=.returned (.string (ay (gT q)))/\Below W.heap.size W w':=by
 obtain⟨k,hk⟩:∃ k,k=min m 16:=⟨_,rfl⟩;have HE:=hJ (Jj (q:=q) (k:=k) (by rw[hm];exact hk) hl ho);have hk16:k<=16:=oZ;have hkc:k<=c:=oZ;have hkm:k<=m:=oZ;have hkn:(if(16:Int)<(m:Int) then(16:Int) else(m:Int))=(k:Int):=by split <;> omega
 have hkb:∀ (ts:Array TypeId) (t:TypeId) (w:World),(Builtin.min_ ts t #[.int .i64 (m:Int),.int .i64 16]).run Tryz.prog w=.ok (.int .i64 (k:Int)) w:=fun ts t w=>by rw[run_min_int2,hkn]
 have hto:=BQ oa m c k hkc;have hmk:=D8 k hk16;have HT:=hJ hT;have HRd:=hJ hR;have HQ:=hJ hm;have HOk:=hJ ho;have HLen:Hid ((ints ((q.take k).map dn)).length=k):=hJ (by rw[ig,List.length_map,List.length_take];omega)
 have HTx:Hid (∀ (w:World) (a:Addr),iR w (some a) (ints ((q.take k).map dn))->Calls Tryz.prog 187 #[.slice (some a) k k] w fun e w'=>e=.returned (.string (iK (ints ((q.take k).map dn))))/\Below w.heap.size w w'):=hJ (fun w a h=>by
  have h1:=vF w (some a) k (ints ((q.take k).map dn)) (by rw[HLen.out];omega) h (by
   refine Jn fun x hx=>?_;obtain⟨r,hr,rfl⟩:=List.mem_map.1 hx;exact(kW (ho r (List.mem_of_mem_take hr))).2)
  rw[HLen.out] at h1;exact h1)
 have HFt:Hid (∀ w:World,Calls Tryz.prog 186 #[.string (iK (ints ((q.take k).map dn))),.int .i64 16] w fun e w'=>e=.returned (.string (ay (gT q)))/\Below w.heap.size w w'):=hJ (fun w=>by
  have h1:=xq w (iK (ints ((q.take k).map dn))) 16 (by
   have:=rX (ints ((q.take k).map dn));rw[HLen.out] at this;rw[Dc];omega) dZ dZ
  rw[HE.out] at h1;exact h1)
 have HFr:=hJ (fun w (h:World.rowIs w W.heap.size 21 k (yw q k))=>Fy (w:=w) (q:=q) (k:=k) oZ ho h);generalize iK (ints ((q.take k).map dn))=tx at HTx HFt;clear hm hT hR hl ho hk HE;go_enter Tryz.func155,Tryz.ntmps155
 go_wp2_with fail
 obtain⟨g,hg⟩:∃ g,g=W.heap.size:=⟨_,rfl⟩;have HRow:=hJ (show (W.alloc (.cells (madeCells #[.int .i32 0] k) 21)).rowIs W.heap.size 21 k (yw q 0) from(World.rowIs_made W (.int .i32 0) k 21).congr fun j _=>rfl);have HB:=hJ (show Below W.heap.size W (W.alloc (.cells (madeCells #[.int .i32 0] k) 21)) from aj);generalize W.alloc (.cells (madeCells #[.int .i32 0] k) 21)=w1 at HRow HB;go_loopw [17] (fun iv wr=>∃ i:Nat,i<=k/\iv=.int .i64 i/\wr.rowIs W.heap.size 21 k (yw q i)/\Below W.heap.size W wr) (fun iv _=>k-(intOf iv).toNat)
 case atStart=>exact⟨0,oZ,rfl,HRow.out,HB.out⟩
 case round =>
  obtain⟨i,hi,rfl,hrow,hlow⟩:=hrel;have HR:=hJ hrow;have HL:=hJ hlow;clear hrow hlow;by_cases hlt:i<k
  ·have hq:q[i]?=some (q.getD i 0):=by
    rw[List.getD_eq_getElem?_getD,gZ (by rw[HQ.out];omega)];rfl
   obtain⟨r,hr⟩:∃ r,r=q.getD i 0:=⟨_,rfl⟩;rw[<- hr] at hq;have hok:=HOk.out r (List.mem_of_getElem? hq);obtain⟨ad,rfl,hcell⟩:=(HRd.out.below HL.out) i (r:Int) (by unfold ints;simp[hq]);have hrr:r<=1114111:=by unfold gI at hok;omega
   have HFo:=hJ (I6 wr (r:Int) oZ oZ (HT.out.below HL.out));have HX:=hJ hr;clear hq hok hr;go_wp2_with fail
   refine HFo.out.mono ?_;rintro e w5 ⟨rfl,hb5⟩;have HR5:=hJ (HR.out.of_block (hb5.block _ HR.out.lt));have HL5:=hJ (HL.out.trans (hb5.mono HL.out.size));clear hb5 hcell HR HL;have hc5:=HR5.out.cell hlt;have hf5:=HR5.out.frozen i;go_wp2_with fail
   go_roundw
   case rel =>
    refine⟨i+1,oZ,by go_num,(HR5.out.set i _).congr fun j hj=>?_,HL5.out.setCell (Nat.le_refl _) _⟩;unfold yw;by_cases hji:j=i
    ·rw[if_pos hji,if_pos oZ,hji,<- HX.out]
    ·rw[if_neg hji];by_cases hj2:j<i
     ·rw[if_pos hj2,if_pos oZ]
     ·rw[if_neg hj2,if_neg oZ]
   case measure=>simp[intOf];omega
  ·have hi':k=i:=oZ;have HRe:=hJ (HFr.out wr (by rw[hi'];rw[hi'] at HR;exact HR.out));clear HR HFr hi';go_wp2_with fail
   refine(HTx.out _ _ HRe.out).mono ?_;rintro e w5 ⟨rfl,hb5⟩;have HL5:=hJ (HL.out.trans (hb5.mono HL.out.size));clear hb5;go_wp2_with fail
   refine(HFt.out _).mono ?_;rintro e w6 ⟨rfl,hb6⟩;have HL6:=hJ (HL5.out.trans (hb6.mono HL5.out.size));clear hb6;go_wp2_with fail
   go_ret;exact⟨rfl,HL6.out⟩
/-! ### Stop words -/
theorem xy {s:ByteArray} {l:List UInt8} (h:s=⟨l.toArray⟩):s.toList=l:=by
 subst h;rw[ByteArray.toList_eq]
theorem DY (w:World) (s:ByteArray):Calls Tryz.prog 156 #[.string s] w fun e w'=>e=.returned (.bool (kX (ax s)))/\w'=w:=by
 by_cases hs:s∈fO
 ·have HS:=(qC s).1 hs;rw[HS];unfold fO fJ at hs;simp only[List.map_cons,List.map_nil,List.mem_cons,List.not_mem_nil,or_false] at hs;clear HS;rcases hs with e | e | e | e | e | e | e | e | e | e | e | e | e | e | e | e | e
  all_goals
   have h:=xy (e.trans rfl);first | have t0:(s.toList==[97])=false:=by rw[h];decide | have t0:(s.toList==[97])=true:=by rw[h];decide
   first | have t1:(s.toList==[97,110])=false:=by rw[h];decide | have t1:(s.toList==[97,110])=true:=by rw[h];decide
   first | have t2:(s.toList==[97,110,100])=false:=by rw[h];decide | have t2:(s.toList==[97,110,100])=true:=by rw[h];decide
   first | have t3:(s.toList==[97,114,101])=false:=by rw[h];decide | have t3:(s.toList==[97,114,101])=true:=by rw[h];decide
   first | have t4:(s.toList==[97,115])=false:=by rw[h];decide | have t4:(s.toList==[97,115])=true:=by rw[h];decide
   first | have t5:(s.toList==[97,116])=false:=by rw[h];decide | have t5:(s.toList==[97,116])=true:=by rw[h];decide
   first | have t6:(s.toList==[98,101])=false:=by rw[h];decide | have t6:(s.toList==[98,101])=true:=by rw[h];decide
   first | have t7:(s.toList==[98,121])=false:=by rw[h];decide | have t7:(s.toList==[98,121])=true:=by rw[h];decide
   first | have t8:(s.toList==[102,111,114])=false:=by rw[h];decide | have t8:(s.toList==[102,111,114])=true:=by rw[h];decide
   first | have t9:(s.toList==[105,110])=false:=by rw[h];decide | have t9:(s.toList==[105,110])=true:=by rw[h];decide
   first | have t10:(s.toList==[105,115])=false:=by rw[h];decide | have t10:(s.toList==[105,115])=true:=by rw[h];decide
   first | have t11:(s.toList==[105,116])=false:=by rw[h];decide | have t11:(s.toList==[105,116])=true:=by rw[h];decide
   first | have t12:(s.toList==[111,102])=false:=by rw[h];decide | have t12:(s.toList==[111,102])=true:=by rw[h];decide
   first | have t13:(s.toList==[111,110])=false:=by rw[h];decide | have t13:(s.toList==[111,110])=true:=by rw[h];decide
   first | have t14:(s.toList==[111,114])=false:=by rw[h];decide | have t14:(s.toList==[111,114])=true:=by rw[h];decide
   first | have t15:(s.toList==[116,104,101])=false:=by rw[h];decide | have t15:(s.toList==[116,104,101])=true:=by rw[h];decide
   first | have t16:(s.toList==[116,111])=false:=by rw[h];decide | have t16:(s.toList==[116,111])=true:=by rw[h];decide
   clear h e;go_enter Tryz.func156,Tryz.ntmps156
   go_wp2_with fail
   go_ret;exact⟨rfl,rfl⟩
 ·have HS:kX (ax s)=false:=by
   cases h:kX (ax s) with
   | false=>rfl
   | true=>exact absurd ((qC s).2 h) hs
  rw[HS]
  have key:∀ (n:List Nat) (l:List UInt8),ay n=⟨l.toArray⟩->ay n∈fO->(s.toList==l)=false:=fun n l e hx=>by
   have:=EK (x:=s) (s:=ay n) fun e=>hs (e ▸ hx);rwa [xy e] at this
  have t0:=key [97] [97] rfl (by simp[fO,fJ]);have t1:=key [97,110] [97,110] rfl (by simp[fO,fJ]);have t2:=key [97,110,100] [97,110,100] rfl (by simp[fO,fJ]);have t3:=key [97,114,101] [97,114,101] rfl (by simp[fO,fJ]);have t4:=key [97,115] [97,115] rfl (by simp[fO,fJ]);have t5:=key [97,116] [97,116] rfl (by simp[fO,fJ]);have t6:=key [98,101] [98,101] rfl (by simp[fO,fJ]);have t7:=key [98,121] [98,121] rfl (by simp[fO,fJ]);have t8:=key [102,111,114] [102,111,114] rfl (by simp[fO,fJ]);have t9:=key [105,110] [105,110] rfl (by simp[fO,fJ]);have t10:=key [105,115] [105,115] rfl (by simp[fO,fJ]);have t11:=key [105,116] [105,116] rfl (by simp[fO,fJ]);have t12:=key [111,102] [111,102] rfl (by simp[fO,fJ]);have t13:=key [111,110] [111,110] rfl (by simp[fO,fJ]);have t14:=key [111,114] [111,114] rfl (by simp[fO,fJ]);have t15:=key [116,104,101] [116,104,101] rfl (by simp[fO,fJ]);have t16:=key [116,111] [116,111] rfl (by simp[fO,fJ]);clear HS hs key;go_enter Tryz.func156,Tryz.ntmps156
  go_wp2_with fail
  go_ret;exact⟨rfl,rfl⟩
end Go.Proofs.YtafaohnhlgcnpaaGreatDoor
