/-
 What stage 12 rests on.
-/
import Derived.Test.YtafaohnhlgcnpaaGreatDoorWrAlC2
import Derived.Test.YtafaohnhlgcnpaaGreatDoorWrAlC1
set_option maxRecDepth 100000
set_option maxHeartbeats 16000000
namespace Go.Proofs.YtafaohnhlgcnpaaGreatDoor
open Go.RowKit

/-! ### Small ones -/
theorem Dt (w:World) (n:Int) (h0:-9223372036854775808<=n) (h1:n<=9223372036854775807):Calls Tryz.prog 163 #[.int .i64 n] w fun e w'=>e=.returned (.bool (decide (0<=n/\n<=65535)))/\w'=w:=by
 by_cases a:0<=n
 ·by_cases b:n<65536
  ·rw[decide_eq_true (p:=0<=n/\n<=65535) oZ];go_enter Tryz.func163,Tryz.ntmps163
   go_wp2_with fail
   go_ret;exact⟨rfl,rfl⟩
  ·rw[decide_eq_false (p:=0<=n/\n<=65535) oZ];go_enter Tryz.func163,Tryz.ntmps163
   go_wp2_with fail
   go_ret;exact⟨rfl,rfl⟩
 ·rw[decide_eq_false (p:=0<=n/\n<=65535) oZ];go_enter Tryz.func163,Tryz.ntmps163
  go_wp2_with fail
  go_ret;exact⟨rfl,rfl⟩
theorem jD (b:Bool) (n:Int) (h0:-9223372036854775808<=n) (h1:n<=9223372036854775807) (h:decide (0<=n/\n<=65535)=b) (w:World):Calls Tryz.prog 163 #[.int .i64 n] w fun e w'=>e=.returned (.bool b)/\w'=w:=by
 subst h;exact Dt w n h0 h1
theorem CG (w:World) (d p:Int) (hd0:-9223372036854775808<=d) (hd1:d<=9223372036854775807) (hp0:-9223372036854775808<=p) (hp1:p<=9223372036854775807) :
  Calls Tryz.prog 127 #[.int .i64 d,.int .i64 p] w fun e w'=>e=.returned (.tuple #[.int .u32 (dV d p),.int .i64 (fE d p)])/\w'=w:=by
 by_cases h:0<=d/\d<=65535
 ·have F1:=hJ (jD true d hd0 hd1 (decide_eq_true h));by_cases h2:0<=p/\p<=65535
  ·have F2:=hJ (jD true p hp0 hp1 (decide_eq_true h2));have hx:dV d p=65536*d+p:=by unfold dV;rw[if_pos ⟨h.1,h.2,h2.1,h2.2⟩]
   have he:fE d p=0:=by unfold fE;rw[if_pos ⟨h.1,h.2,h2.1,h2.2⟩]
   rw[hx,he];obtain⟨a1,a2⟩:=h;obtain⟨a3,a4⟩:=h2;clear hx he;have i1:IntKind.u32.wrap d=d:=IntWalk.u32_in _ oZ;have i2:IntKind.u32.wrap p=p:=IntWalk.u32_in _ oZ;have i3:IntKind.u32.wrap (65536*d)=65536*d:=IntWalk.u32_in _ oZ;have i4:IntKind.u32.wrap (65536*d+p)=65536*d+p:=IntWalk.u32_in _ oZ;go_enter Tryz.func127,Tryz.ntmps127
   go_wp2_with fail
   refine(F1.out _).mono ?_;rintro e w1 ⟨rfl,rfl⟩;go_wp2_with fail
   refine(F2.out _).mono ?_;rintro e w1 ⟨rfl,rfl⟩;go_wp2_with fail
   go_ret2
   exact⟨rfl,rfl⟩
  ·have F2:=hJ (jD false p hp0 hp1 (decide_eq_false h2));have hx:dV d p=0:=by unfold dV;rw[if_neg (fun k=>h2 ⟨k.2.2.1,k.2.2.2⟩)]
   have he:fE d p=1:=by unfold fE;rw[if_neg (fun k=>h2 ⟨k.2.2.1,k.2.2.2⟩)]
   rw[hx,he];clear hx he h2;go_enter Tryz.func127,Tryz.ntmps127
   go_wp2_with fail
   refine(F1.out _).mono ?_;rintro e w1 ⟨rfl,rfl⟩;go_wp2_with fail
   refine(F2.out _).mono ?_;rintro e w1 ⟨rfl,rfl⟩;go_wp2_with fail
   go_ret2
   exact⟨rfl,rfl⟩
 ·have F1:=hJ (jD false d hd0 hd1 (decide_eq_false h));have hx:dV d p=0:=by unfold dV;rw[if_neg (fun k=>h ⟨k.1,k.2.1⟩)]
  have he:fE d p=1:=by unfold fE;rw[if_neg (fun k=>h ⟨k.1,k.2.1⟩)]
  rw[hx,he];clear hx he h;go_enter Tryz.func127,Tryz.ntmps127
  go_wp2_with fail
  refine(F1.out _).mono ?_;rintro e w1 ⟨rfl,rfl⟩;go_wp2_with fail
  go_ret2
  exact⟨rfl,rfl⟩
theorem uf (w:World) (n:Int) (m:Nat) (h0:0<=n) (h1:n<=9223372036854775807) (hm:(m:Int)=(n+3) / 4):Calls Tryz.prog 158 #[.int .i64 n] w fun e w'=>e=.returned (.int .i64 (m:Int))/\w'=w:=by
 obtain⟨q,hq⟩:∃ q,q=n / 4:=⟨_,rfl⟩;obtain⟨r,hr⟩:∃ r,r=n % 4:=⟨_,rfl⟩;obtain⟨t,ht⟩:∃ t,t=(r+3) / 4:=⟨_,rfl⟩;have q1:n / 4=q:=hq.symm;have r1:n % 4=r:=hr.symm;have q2:n.tdiv 4=q:=by rw[Int.tdiv_eq_ediv_of_nonneg h0];exact q1
 have r2:n.tmod 4=r:=by rw[Int.tmod_eq_emod_of_nonneg h0];exact r1
 have q3:IntKind.i64.wrap q=q:=iZ _ oZ;have r3:IntKind.i64.wrap r=r:=iZ _ oZ;have s3:IntKind.i64.wrap (r+3)=r+3:=iZ _ oZ;have t1:(r+3) / 4=t:=ht.symm;have t2:(r+3).tdiv 4=t:=by rw[Int.tdiv_eq_ediv_of_nonneg oZ];exact t1
 have t3:IntKind.i64.wrap t=t:=iZ _ oZ;have u1:q+t=(m:Int):=oZ;have u3:IntKind.i64.wrap (q+t)=(m:Int):=by rw[u1];exact iZ _ oZ
 have HM:=hJ u1;clear hq hr ht hm;go_enter Tryz.func158,Tryz.ntmps158
 go_wp2_with fail
 go_ret;first
 | exact⟨rfl,rfl⟩
 | exact⟨by rw[HM.out],rfl⟩
theorem Bl (w:World) (i k t:Nat) (hi:i<=100000000) (hk:i % 4=k) (ht:k*8=t):Calls Tryz.prog 159 #[.int .i64 (i:Int)] w fun e w'=>e=.returned (.int .i64 (t:Int))/\w'=w:=by
 have r1:(i:Int) % 4=(k:Int):=oZ;have r2:(i:Int).tmod 4=(k:Int):=by rw[Int.tmod_eq_emod_of_nonneg oZ];exact r1
 have r3:IntKind.i64.wrap (k:Int)=(k:Int):=iZ _ oZ;have r4:IntKind.i64.wrap ((k:Int)*8)=(t:Int):=by rw[iZ _ oZ];omega
 have HM:=hJ (show (k:Int)*8=(t:Int) by omega);clear hk ht;go_enter Tryz.func159,Tryz.ntmps159
 go_wp2_with fail
 go_ret;first
 | exact⟨rfl,rfl⟩
 | exact⟨by rw[HM.out],rfl⟩
theorem Ab (h b:Nat) (hh:h<4294967296) (hb:b<256):IntKind.u32.wrap (bits BinOp.xor IntKind.u32 (h:Int) (IntKind.u32.wrap (b:Int))*16777619)=((ic h b:Nat):Int):=by
 have hx:h ^^^ b<4294967296:=Nat.xor_lt_two_pow (n:=32) hh oZ;rw[IntWalk.u32_in (b:Int) oZ]
 have e:bits BinOp.xor IntKind.u32 (h:Int) (b:Int)=((h ^^^ b:Nat):Int):=by
  have h1:h % 2 ^ IntKind.u32.bits=h:=Nat.mod_eq_of_lt (by show h<4294967296;omega);have h2:b % 2 ^ IntKind.u32.bits=b:=Nat.mod_eq_of_lt (by show b<4294967296;omega);simp only[bits,BitVec.ofInt_natCast,BitVec.toNat_xor,BitVec.toNat_ofNat,h1,h2];exact IntWalk.u32_in _ oZ
 rw[e];unfold ic;generalize h ^^^ b=x;rw[IntKind.wrap_u32];omega
theorem JO (f:Int) (s:ByteArray):ay [f.toNat]++s=ay (f.toNat :: ax s):=by
 rw[show ay (f.toNat :: ax s)=ay [f.toNat]++ay (ax s) from ?_,iX];unfold ay;apply ByteArray.ext;simp
theorem Gr (w:World) (f:Int) (s:ByteArray) (h0:0<=f) (h1:f<=255) (hs:s.size<=1000000):Calls Tryz.prog 121 #[.int .u8 f,.string s] w fun e w'=>e=.returned (.string (ay (f.toNat :: ax s)))/\Below w.heap.size w w':=by
 have hrow:(w.alloc (.cells #[.int .u8 f] 5)).ownsRow w.heap.size 5 1 (.slice (some ⟨w.heap.size,0,none⟩) 1 1) 1 [.int .u8 f]:=World.ownsRow_lit (base:=w.heap.size) (e:=5) (size:=1) w #[.int .u8 f] 1 (Nat.le_refl _) dZ rfl
 have hI:BytesIn (w.alloc (.cells #[.int .u8 f] 5)) w.heap.size (.slice (some ⟨w.heap.size,0,none⟩) 1 1) [f.toNat]:=by
  unfold BytesIn;have e:([f.toNat]).map (fun(b:Nat)=>Value.int .u8 (b:Int))=[.int .u8 f]:=by simp;omega
  rw[e];exact hrow
 have hc:=mr hI (by intro b hb;simp at hb;omega);have HK:=hJ (JO f s);have hz:(ay [f.toNat]).size=1:=rfl;generalize ay [f.toNat]=tx at hc HK hz;clear hrow hI;go_enter Tryz.func121,Tryz.ntmps121
 go_wp2_with fail
 go_ret;exact⟨by rw[HK.out];rfl,aj⟩
/-! ### Rows filled by places -/
theorem wJ {w:World} {g n:Nat} {t:TypeId} {k:IntKind} {F:Nat->Value} {l:List Nat} (base:Nat) (hb:base<=g) (hn:l.length=n) (hm:n<=maxLen) (h:w.rowIs g t n F) (hF:∀ j x:Nat,l[j]?=some x->F j=.int k (x:Int)):fP t k w base (.slice (some ⟨g,0,none⟩) n n) l:=by
 obtain⟨c,h1,h2,h3⟩:=h;subst hn;refine⟨by rw[eU,Nat.mul_one],.inr ⟨g,_,c,rfl,hb,h1,Nat.le_refl _,hm,oZ,?_⟩⟩;apply List.ext_getElem?;intro j;rw[List.getElem?_take];by_cases hj:j<l.length
 ·rw[if_pos oZ,Array.getElem?_toList,h3 j hj,hF j _ (gZ hj),nR (gZ hj)]
 ·rw[if_neg oZ,List.getElem?_eq_none (by rw[eU];omega)]
theorem Dk (k:Nat) (hk:k<=1000000) (w:World):(Instr.makeSlice 47 (.int .i64 k) (.int .i64 k)).run Tryz.prog w=.ok (.slice (some ⟨w.heap.size,0,none⟩) k k) (w.alloc (.cells (madeCells #[.int .u32 0] k) 32)) :=
 run_make_row' 47 32 (.int .u32 0) 4 Tryz.underlying47 qH rfl .i64 .i64 k oZ oZ w
theorem getD_take (L:List Nat) (i j:Nat):(L.take i).getD j 0=if j<i then L.getD j 0 else 0:=by
 rw[List.getD_eq_getElem?_getD,List.getElem?_take,List.getD_eq_getElem?_getD];split <;> rfl
theorem uS (L:List Nat) (i j:Nat) (h:j≠i / 4):cellAt (L.take (i+1)) j=cellAt (L.take i) j:=by
 have key:∀ m,m<4->(L.take (i+1)).getD (4*j+m) 0=(L.take i).getD (4*j+m) 0:=fun m hm=>by
  rw[getD_take,getD_take];by_cases a:4*j+m<i
  ·rw[if_pos a,if_pos oZ]
  ·rw[if_neg a,if_neg oZ]
 unfold cellAt;have k0:(L.take (i+1)).getD (4*j) 0=(L.take i).getD (4*j) 0:=key 0 oZ;rw[k0,key 1 oZ,key 2 oZ,key 3 oZ]
theorem xA {L:List Nat} (hL:∀ b∈L,b<256) (i k:Nat) (hk:i % 4=k):cellAt (L.take (i+1)) (i / 4)=cellAt (L.take i) (i / 4)+L.getD i 0*2 ^ (k*8)/\cellAt (L.take i) (i / 4)<2 ^ (k*8)/\L.getD i 0*2 ^ (k*8)<4294967296:=by
 have hb:=getD_lt hL i;obtain⟨j,hj⟩:∃ j,j=i / 4:=⟨_,rfl⟩;rw[<- hj];unfold cellAt;simp only[getD_take];rcases (show k=0∨k=1∨k=2∨k=3 by omega) with rfl | rfl | rfl | rfl
 ·have e:i=4*j:=oZ;subst e;simp only[show (2:Nat) ^ (0*8)=1 from rfl];repeat (first | rw[if_pos oZ] | rw[if_neg oZ])
  have b0:=getD_lt hL (4*j);have b1:=getD_lt hL (4*j+1);have b2:=getD_lt hL (4*j+2);have b3:=getD_lt hL (4*j+3);omega
 ·have e:i=4*j+1:=oZ;subst e;simp only[show (2:Nat) ^ (1*8)=256 from rfl];repeat (first | rw[if_pos oZ] | rw[if_neg oZ])
  have b0:=getD_lt hL (4*j);have b1:=getD_lt hL (4*j+1);have b2:=getD_lt hL (4*j+2);have b3:=getD_lt hL (4*j+3);omega
 ·have e:i=4*j+2:=oZ;subst e;simp only[show (2:Nat) ^ (2*8)=65536 from rfl];repeat (first | rw[if_pos oZ] | rw[if_neg oZ])
  have b0:=getD_lt hL (4*j);have b1:=getD_lt hL (4*j+1);have b2:=getD_lt hL (4*j+2);have b3:=getD_lt hL (4*j+3);omega
 ·have e:i=4*j+3:=oZ;subst e;simp only[show (2:Nat) ^ (3*8)=16777216 from rfl];repeat (first | rw[if_pos oZ] | rw[if_neg oZ])
  have b0:=getD_lt hL (4*j);have b1:=getD_lt hL (4*j+1);have b2:=getD_lt hL (4*j+2);have b3:=getD_lt hL (4*j+3);omega
theorem Ey {c x k:Nat} (hc:c<2 ^ k) (hk:k<=24) (b:Nat) (hx:x=b*2 ^ k) (hx2:x<4294967296):bits .or .u32 (c:Int) (x:Int)=((c+x:Nat):Int):=by
 have hc2:c<4294967296:=Nat.lt_of_lt_of_le hc (by calc 2 ^ k<=2 ^ 24:=Nat.pow_le_pow_right dZ hk
   _<=4294967296:=dZ)
 have h:=(bits_nat .u32 32 dZ (fun n a b=>IntWalk.u32_in n oZ) c x oZ oZ).2;rw[h,hx,Nat.or_comm,Nat.mul_comm b,<- Nat.two_pow_add_eq_or_of_lt hc b,Nat.add_comm]
section
variable {P:Program}
theorem gL {ops:Array Oper} {rest:List Oper} {o:Oper} {a:Act} {w:World} {Q:Exit->Act->World->Prop} (hw:Region.wanted o (yielded ops a.tmps)=true) (ty:TypeId) (x:Operand) (ho:o.op=.load ty x)
  (g f:Nat) (hx:a.eval x=.pointer (some ⟨g,f,none⟩)) (t:TypeId) (cur cs:Array Value) (fr:Nat×Nat) (d:TypeDesc) (hg:w.heap[g]?=some (.cells cur t fr)) (hp:∀ (j:Nat) (v:Value),cs.toList[j]?=some v->cur[f+j]?=some v)
  (hu:P.underlying ty=some d) (hd:(match d with | .struct _ | .array _ _=>true | _=>false)=true) (hi:(P.info? ty).map (·.size)=some cs.size)
  (h:wpList P ops Q rest (a.put o.dst (.agg cs)) w):wpList P ops Q (o :: rest) a w :=
 wpList_step fun K hK=>by
  rw[if_pos hw];exact aR ty x ho g f hx t cur cs fr d hg hp hu hd hi (hK _ _ h)
end
theorem Mq (a d:Int) (z:Bool) (w:World):(Op.equalIn 10000 65 (.agg #[.int .i64 a,.int .i64 d,.bool z]) (.agg #[.int .i64 a,.int .i64 d,.bool z])).run Tryz.prog w=.ok true w:=by
 have u5:=Tryz.underlying4;have a5:=Tryz.isAgg4;have z5:=Tryz.sizeOf4;have u3:=Tryz.underlying3;have a3:=Tryz.isAgg3;have z3:=Tryz.sizeOf3;have hS:Tryz.prog.underlying 65=some (.struct (Tryz.prog.fieldsOf 65)):=kZ;rw[show (10000:Nat)=9999+1 from rfl,run_equalIn_agg w 9999 65 _ _ hS kZ];simp only[Program.fieldsOf,Tryz.underlying65];go_simp
theorem ou (vs:Value) (x:Sx):∀ (j:Nat) (v:Value),(six x.used).toList[j]?=some v->(aO vs x)[3+j]?=some v:=by
 intro j v hj;rcases j with _|_|_|_|_|_|j
 ·simpa [six,aO] using hj
 ·simpa [six,aO] using hj
 ·simpa [six,aO] using hj
 ·simpa [six,aO] using hj
 ·simpa [six,aO] using hj
 ·simpa [six,aO] using hj
 ·simp[six] at hj
theorem sO (w:World) (oa ob:Option Addr) (n ca cb:Nat) (x:Sx) (en:x.aC.length=n) (hn:n<=1000) (ha:eH w oa x.aC) (hb:eH w ob x.aC) :
  Calls Tryz.prog 32 #[.agg (aO (.slice oa n ca) x),.agg (aO (.slice ob n cb) x)] w fun e w'=>e=.returned (.bool true)/\Below w.heap.size w w':=by
 have HA:=hJ ha;have HB:=hJ hb;have HEn:=hJ en;have e6:=fun w=>LZ x.used 9998 w;have b1:(x.terms != x.terms)=false:=sZ;have b2:(x.bT != x.bT)=false:=sZ;clear ha hb en;go_enter Tryz.func32,Tryz.ntmps32
 go_upto_region 1 with fail
 obtain⟨w0,hw0⟩:∃ w0,w0=(w.alloc (.cells (aO (.slice oa n ca) x) 46)).alloc (.cells (aO (.slice ob n cb) x) 46):=⟨_,rfl⟩;rw[<- hw0];have HX:=hJ (show w0.heap[w.heap.size]?=some (.cells (aO (.slice oa n ca) x) 46 (0,0)) by rw[hw0];exact ed _ _ _);have HY:=hJ (show w0.heap[w.heap.size+1]?=some (.cells (aO (.slice ob n cb) x) 46 (0,0)) by rw[hw0];exact eO _ _ _);have HBl:=hJ (show Below w.heap.size w w0 by rw[hw0];exact dh);clear hw0;have c0:w0.cell? ⟨w.heap.size,0,none⟩=some (.slice oa n ca):=aa HX.out 0;have c1:w0.cell? ⟨w.heap.size,1,none⟩=some (.int .i64 x.terms):=aa HX.out 1;have c2:w0.cell? ⟨w.heap.size,2,none⟩=some (.int .u32 x.bT):=aa HX.out 2;have d0:w0.cell? ⟨w.heap.size+1,0,none⟩=some (.slice ob n cb):=aa HY.out 0;have d1:w0.cell? ⟨w.heap.size+1,1,none⟩=some (.int .i64 x.terms):=aa HY.out 1;have d2:w0.cell? ⟨w.heap.size+1,2,none⟩=some (.int .u32 x.bT):=aa HY.out 2;have hnn:((n:Int) != (n:Int))=false:=sZ
 go_wp2_with (first
  | (refine gL rfl 40 (.tmp 19) rfl w.heap.size 3 rfl 46 (aO (.slice oa n ca) x) (six x.used) (0,0) _ HX.out (ou _ _) Tryz.underlying40 rfl (af _) ?_)
  | (refine gL rfl 40 (.tmp 21) rfl (w.heap.size+1) 3 rfl 46 (aO (.slice ob n cb) x) (six x.used) (0,0) _ HY.out (ou _ _) Tryz.underlying40 rfl (af _) ?_)
  | fail)
 clear c0 c1 c2 d0 d1 d2;go_loopg [37] n (fun g iv wr=>∃ i:Nat,i+g=n/\iv=.int .i64 (i:Int)/\∃ m,wr=w0.drewN m)
 case atStart=>exact⟨0,oZ,rfl,0,rfl⟩
 case round =>
  obtain⟨i,hig,rfl,m,rfl⟩:=hrel;cases gk with
  | zero =>
   have hi:n=i:=oZ;subst hi;go_wp2_with fail
   go_ret;exact⟨rfl,dm HBl.out m⟩
  | succ g =>
   have hi:i<n:=oZ;have hi1:(i:Int)<(n:Int):=oZ;obtain⟨s,hs⟩:∃ s,x.aC[i]?=some s:=⟨_,gZ (by rw[HEn.out];exact hi)⟩;obtain⟨ga,pa,rfl,k1,k2,k3⟩:=HA.out.below HBl.out i s hs;obtain⟨gb,pb,rfl,l1,l2,l3⟩:=HB.out.below HBl.out i s hs;have c0:w0.cell? ⟨w.heap.size,0,none⟩=some (.slice (some ⟨ga,pa,none⟩) n ca):=aa HX.out 0;have d0:w0.cell? ⟨w.heap.size+1,0,none⟩=some (.slice (some ⟨gb,pb,none⟩) n cb):=aa HY.out 0;have hq:=Mq s.1 s.2.1 s.2.2;clear hs;go_wp2_with fail
   go_quiet (fail)
   go_wp2_with fail
   go_roundg g
   case measure=>omega
   case rel=>exact⟨i+1,oZ,by go_num,_,rfl⟩
section
variable {w:World} {rb mb cap at_:Nat} {go:Option Nat} {log:List Int} {wi ma off ov:Bool} {er:Int}
theorem ES (h:bu w rb mb go cap log at_ wi ma off ov er) (u:FrameMode) :
  CallsD Tryz.prog 59 #[.pointer (some ⟨rb,0,none⟩)] u w fun e u' w'=>u'=u/\(e=.returned (.tuple #[])/\bu w' rb mb go cap log at_ false ma (er != 0) ov er/\bB (·=rb) w w'):=by
 have h3:=h.c3;have h5:=h.c5;have h7:=h.c7;have f3:=free_at h.rec_ 3;have f5:=free_at h.rec_ 5;go_enter_d Tryz.func59,Tryz.ntmps59
 go_wp2
 go_end0
 exact⟨rfl,(h.set 3 _ (at':=at_) (wi':=false) (ma':=ma) (off':=off) (ov':=ov) (er':=er) rfl).set 5 _ rfl,bB.setCell (S:=fun k=>k=rb) (bB.setCell (S:=fun k=>k=rb) (bB.refl _ _) (.inr rfl) _) (.inr rfl) _⟩
end
theorem CK (w:World) (i k t:Nat) (hi:(i:Int)<=140737488355327) (hk:i % 4=k) (ht:k*8=t):Calls Tryz.prog 159 #[.int .i64 (i:Int)] w fun e w'=>e=.returned (.int .i64 (t:Int))/\w'=w:=by
 have r1:(i:Int) % 4=(k:Int):=oZ;have r2:(i:Int).tmod 4=(k:Int):=by rw[Int.tmod_eq_emod_of_nonneg oZ];exact r1
 have r3:IntKind.i64.wrap (k:Int)=(k:Int):=iZ _ oZ;have r4:IntKind.i64.wrap ((k:Int)*8)=(t:Int):=by rw[iZ _ oZ];omega
 have HM:=hJ (show (k:Int)*8=(t:Int) by omega);clear hk ht;go_enter Tryz.func159,Tryz.ntmps159
 go_wp2_with fail
 go_ret;first
 | exact⟨rfl,rfl⟩
 | exact⟨by rw[HM.out],rfl⟩
theorem G5 (k:Nat) (hk:(k:Int)<=70368744177664) (w:World):(Instr.makeSlice 47 (.int .i64 k) (.int .i64 k)).run Tryz.prog w=.ok (.slice (some ⟨w.heap.size,0,none⟩) k k) (w.alloc (.cells (madeCells #[.int .u32 0] k) 32)) :=
 run_make_row' 47 32 (.int .u32 0) 4 Tryz.underlying47 qH rfl .i64 .i64 k oZ oZ w
theorem Gt (w:World) (s:ByteArray) (hs:(s.size:Int)<=140737488355327):Calls Tryz.prog 188 #[.string s] w fun e w'=>e=.returned (.int .u32 (bZ (ax s)))/\w'=w:=by
 have HLt:=hJ (iD s);have HLn:=hJ (aD s);go_enter Tryz.func188,Tryz.ntmps188
 go_wp2_with fail
 go_loopw [3,7] (fun hv iv wr=>∃ i:Nat,i<=s.size/\iv=.int .i64 i/\hv=.int .u32 (bZ ((ax s).take i))/\wr=w) (fun _ iv _=>s.size-(intOf iv).toNat)
 case atStart=>exact⟨0,oZ,rfl,rfl,rfl⟩
 case round =>
  obtain⟨i,hi,rfl,rfl,rfl⟩:=hrel;by_cases hlt:i<s.size
  ·have hh:=oG ((ax s).take i);have hb:(s[i]'hlt).toNat<256:=(s[i]'hlt).toNat_lt;have HT:=hJ (show bZ ((ax s).take (i+1))=ic (bZ ((ax s).take i)) (s[i]'hlt).toNat by rw[vM hlt,yl]);generalize bZ ((ax s).take i)=h at hh HT;have HW:=hJ (Ab h (s[i]'hlt).toNat hh hb);clear hb;go_wp2_with fail
   refine⟨⟨i+1,oZ,sZ,?_,trivial⟩,by simp[intOf];omega⟩;rw[HT.out];exact congrArg (Value.int IntKind.u32) HW.out
  ·have hi':s.size=i:=oZ;rw[show (ax s).take i=ax s from List.take_of_length_le (by rw[aD];omega)];have hh:=oG (ax s);obtain⟨h,hE⟩:∃ h,bZ (ax s)=h:=⟨_,rfl⟩;have HE:=hJ hE;rw[hE] at hh ⊢;clear hi' hE;go_wp2_with fail
   go_ret;exact⟨by rw[HE.out];rfl,rfl⟩
theorem pG (W:World) (s:ByteArray) (hs:(s.size:Int)<=140737488355327):Calls Tryz.prog 124 #[.string s] W fun e w'=>∃ v,e=.returned v/\fP 32 .u32 w' W.heap.size v (aF (ax s))/\Below W.heap.size W w':=by
 obtain⟨L,hL⟩:∃ L,L=ax s:=⟨_,rfl⟩;have HLt:=hJ (show ∀ b∈L,b<256 by rw[hL];exact iD s);have HLn:=hJ (show L.length=s.size by rw[hL];exact aD s);have HIn:=hJ (show ∀ (i:Nat) (h:i<s.size),L.getD i 0=(s[i]'h).toNat from fun i h=>by rw[hL];exact byte_at h);rw[<- hL];clear hL;obtain⟨n,hn⟩:∃ n,n=(s.size+3) / 4:=⟨_,rfl⟩;have hn0:(n:Int)<=70368744177664:=oZ;have HN:=hJ hn;have HC:=hJ (fun w=>uf w (s.size:Int) n oZ oZ oZ);have hmk:=G5 n hn0
 have HFin:=hJ (show ∀ (w:World) (F:Nat->Value),w.rowIs W.heap.size 32 n F->(∀ j:Nat,F j=.int .u32 (cellAt L j:Nat))->fP 32 .u32 w W.heap.size (.slice (some ⟨W.heap.size,0,none⟩) n n) (aF L) from fun w F h hF =>
  wJ (k:=.u32) W.heap.size (Nat.le_refl _) (by rw[bC,HLn.out,HN.out]) mZ h (fun j x hj=>by
   rw[hF j];unfold aF gM at hj;rw[List.getElem?_map] at hj;obtain⟨y,hy,rfl⟩:=Option.map_eq_some_iff.1 hj;have:=eZ.1 hy;obtain⟨h1,h2⟩:=this;rw[List.getElem_range] at h2;rw[h2]))
 clear hn;go_enter Tryz.func124,Tryz.ntmps124
 go_wp2_with fail
 refine(HC.out _).mono ?_;rintro e w1 ⟨rfl,rfl⟩;go_wp2_with fail
 have HRow:=hJ (show (w1.alloc (.cells (madeCells #[.int .u32 0] n) 32)).rowIs w1.heap.size 32 n (fun j=>.int .u32 (cellAt (L.take 0) j:Nat)) from(World.rowIs_made w1 (.int .u32 0) n 32).congr fun j _=>by simp[cellAt]);have HB:=hJ (show Below w1.heap.size w1 (w1.alloc (.cells (madeCells #[.int .u32 0] n) 32)) from aj);generalize w1.alloc (.cells (madeCells #[.int .u32 0] n) 32)=w2 at HRow HB;go_loopw [11] (fun iv wr=>∃ i:Nat,i<=s.size/\iv=.int .i64 i/\wr.rowIs w1.heap.size 32 n (fun j=>.int .u32 (cellAt (L.take i) j:Nat))/\Below w1.heap.size w1 wr) (fun iv _=>s.size-(intOf iv).toNat)
 case atStart=>exact⟨0,oZ,rfl,HRow.out,HB.out⟩
 case round =>
  obtain⟨i,hi,rfl,hrow,hlow⟩:=hrel;have HR:=hJ hrow;have HL:=hJ hlow;clear hrow hlow;by_cases hlt:i<s.size
  ·have hlt1:(i:Int)<(s.size:Int):=oZ;obtain⟨k,hk⟩:∃ k,i % 4=k:=⟨_,rfl⟩;obtain⟨j,hj⟩:∃ j,j=i / 4:=⟨_,rfl⟩;have hjn:j<n:=by have:=HN.out;omega
   have hjn1:(j:Int)<(n:Int):=oZ;obtain⟨b,hb⟩:∃ b,b=(s[i]'hlt).toNat:=⟨_,rfl⟩;have hb256:b<256:=by rw[hb];exact(s[i]'hlt).toNat_lt
   have hst:=xA HLt.out i k hk;rw[<- hj,HIn.out i hlt,<- hb] at hst;have hcell:=HR.out.cell hjn;have hfr:=HR.out.frozen j;obtain⟨c,hc⟩:∃ c,c=cellAt (L.take i) j:=⟨_,rfl⟩;rw[<- hc] at hst hcell;obtain⟨x,hx⟩:∃ x,b*2 ^ (k*8)=x:=⟨_,rfl⟩;rw[hx] at hst;obtain⟨hs1,hs2,hs3⟩:=hst;have HS:=hJ hs1;have HJ:=hJ hj;obtain⟨m,hm⟩:∃ m,k*8=m:=⟨_,rfl⟩;have hm24:m<=24:=oZ;rw[hm] at hs2 hx;have HSh:=hJ (fun w=>CK w i k m oZ hk hm);have hor:=Ey hs2 hm24 b hx.symm hs3;have q1:(i:Int) / 4=(j:Int):=oZ;have q2:(i:Int).tdiv 4=(j:Int):=by rw[Int.tdiv_eq_ediv_of_nonneg oZ];exact q1
   have q3:IntKind.i64.wrap (j:Int)=(j:Int):=iZ _ oZ;have b1:IntKind.u32.wrap ((s[i]'hlt).toNat:Int)=(b:Int):=by rw[<- hb];exact IntWalk.u32_in _ oZ
   have HBb:=hJ hb
   have HOr:=hJ (show bits BinOp.or IntKind.u32 (c:Int) ((b:Int)*2 ^ m % 4294967296)=((c+x:Nat):Int) by
    rw[show ((b:Int)*2 ^ m)=(x:Int) by rw[<- hx];simp,show (x:Int) % 4294967296=(x:Int) by omega];exact hor)
   clear hor hs1 hs2 hs3 hx hk hj hc hb hm;go_wp2_with fail
   refine wp_region_still_tail 14 kZ kZ ?_;simp only[List.take_succ_cons,List.take_zero,List.drop_succ_cons,List.drop_zero];repeat still_step
   still_call (HSh.out _)
   repeat still_step
   refine wpStill_nil ?_;change wpList _ _ _ _ _ (World.drew _);go_wp2_with fail
   go_roundw
   case rel =>
    refine⟨i+1,oZ,by go_num,?_,(HL.out.setCell sZ _).drew⟩;refine((HR.out.drew).set j _).congr fun y hy=>?_;by_cases hyj:y=j
    ·rw[if_pos hyj,hyj,HS.out];exact congrArg (Value.int IntKind.u32) HOr.out
    ·rw[if_neg hyj,uS L i y (by rw[<- HJ.out];exact hyj)]
   case measure=>simp[intOf];omega
  ·have hi':s.size=i:=oZ;have hlt1:¬ (i:Int)<(s.size:Int):=oZ;have HO:=hJ (HFin.out wr _ HR.out (fun j=>by rw[List.take_of_length_le (by rw[HLn.out];omega)]));clear hi';go_wp2_with fail
   go_ret;exact⟨_,rfl,HO.out,HL.out⟩
theorem Aa (W:World) (s:ByteArray) (hs:s.size<=1000000):Calls Tryz.prog 124 #[.string s] W fun e w'=>∃ v,e=.returned v/\fP 32 .u32 w' W.heap.size v (aF (ax s))/\Below W.heap.size W w':=by
 obtain⟨L,hL⟩:∃ L,L=ax s:=⟨_,rfl⟩;have HLt:=hJ (show ∀ b∈L,b<256 by rw[hL];exact iD s);have HLn:=hJ (show L.length=s.size by rw[hL];exact aD s);have HIn:=hJ (show ∀ (i:Nat) (h:i<s.size),L.getD i 0=(s[i]'h).toNat from fun i h=>by rw[hL];exact byte_at h);rw[<- hL];clear hL;obtain⟨n,hn⟩:∃ n,n=(s.size+3) / 4:=⟨_,rfl⟩;have hn0:n<=1000000:=oZ;have HN:=hJ hn;have HC:=hJ (fun w=>uf w (s.size:Int) n oZ oZ oZ);have hmk:=Dk n hn0
 have HFin:=hJ (show ∀ (w:World) (F:Nat->Value),w.rowIs W.heap.size 32 n F->(∀ j:Nat,F j=.int .u32 (cellAt L j:Nat))->fP 32 .u32 w W.heap.size (.slice (some ⟨W.heap.size,0,none⟩) n n) (aF L) from fun w F h hF =>
  wJ (k:=.u32) W.heap.size (Nat.le_refl _) (by rw[bC,HLn.out,HN.out]) mZ h (fun j x hj=>by
   rw[hF j];unfold aF gM at hj;rw[List.getElem?_map] at hj;obtain⟨y,hy,rfl⟩:=Option.map_eq_some_iff.1 hj;have:=eZ.1 hy;obtain⟨h1,h2⟩:=this;rw[List.getElem_range] at h2;rw[h2]))
 clear hn;go_enter Tryz.func124,Tryz.ntmps124
 go_wp2_with fail
 refine(HC.out _).mono ?_;rintro e w1 ⟨rfl,rfl⟩;go_wp2_with fail
 have HRow:=hJ (show (w1.alloc (.cells (madeCells #[.int .u32 0] n) 32)).rowIs w1.heap.size 32 n (fun j=>.int .u32 (cellAt (L.take 0) j:Nat)) from(World.rowIs_made w1 (.int .u32 0) n 32).congr fun j _=>by simp[cellAt]);have HB:=hJ (show Below w1.heap.size w1 (w1.alloc (.cells (madeCells #[.int .u32 0] n) 32)) from aj);generalize w1.alloc (.cells (madeCells #[.int .u32 0] n) 32)=w2 at HRow HB;go_loopw [11] (fun iv wr=>∃ i:Nat,i<=s.size/\iv=.int .i64 i/\wr.rowIs w1.heap.size 32 n (fun j=>.int .u32 (cellAt (L.take i) j:Nat))/\Below w1.heap.size w1 wr) (fun iv _=>s.size-(intOf iv).toNat)
 case atStart=>exact⟨0,oZ,rfl,HRow.out,HB.out⟩
 case round =>
  obtain⟨i,hi,rfl,hrow,hlow⟩:=hrel;have HR:=hJ hrow;have HL:=hJ hlow;clear hrow hlow;by_cases hlt:i<s.size
  ·have hlt1:(i:Int)<(s.size:Int):=oZ;obtain⟨k,hk⟩:∃ k,i % 4=k:=⟨_,rfl⟩;obtain⟨j,hj⟩:∃ j,j=i / 4:=⟨_,rfl⟩;have hjn:j<n:=by have:=HN.out;omega
   have hjn1:(j:Int)<(n:Int):=oZ;obtain⟨b,hb⟩:∃ b,b=(s[i]'hlt).toNat:=⟨_,rfl⟩;have hb256:b<256:=by rw[hb];exact(s[i]'hlt).toNat_lt
   have hst:=xA HLt.out i k hk;rw[<- hj,HIn.out i hlt,<- hb] at hst;have hcell:=HR.out.cell hjn;have hfr:=HR.out.frozen j;obtain⟨c,hc⟩:∃ c,c=cellAt (L.take i) j:=⟨_,rfl⟩;rw[<- hc] at hst hcell;obtain⟨x,hx⟩:∃ x,b*2 ^ (k*8)=x:=⟨_,rfl⟩;rw[hx] at hst;obtain⟨hs1,hs2,hs3⟩:=hst;have HS:=hJ hs1;have HJ:=hJ hj;obtain⟨m,hm⟩:∃ m,k*8=m:=⟨_,rfl⟩;have hm24:m<=24:=oZ;rw[hm] at hs2 hx;have HSh:=hJ (fun w=>Bl w i k m oZ hk hm);have hor:=Ey hs2 hm24 b hx.symm hs3;have q1:(i:Int) / 4=(j:Int):=oZ;have q2:(i:Int).tdiv 4=(j:Int):=by rw[Int.tdiv_eq_ediv_of_nonneg oZ];exact q1
   have q3:IntKind.i64.wrap (j:Int)=(j:Int):=iZ _ oZ;have b1:IntKind.u32.wrap ((s[i]'hlt).toNat:Int)=(b:Int):=by rw[<- hb];exact IntWalk.u32_in _ oZ
   have HBb:=hJ hb
   have HOr:=hJ (show bits BinOp.or IntKind.u32 (c:Int) ((b:Int)*2 ^ m % 4294967296)=((c+x:Nat):Int) by
    rw[show ((b:Int)*2 ^ m)=(x:Int) by rw[<- hx];simp,show (x:Int) % 4294967296=(x:Int) by omega];exact hor)
   clear hor hs1 hs2 hs3 hx hk hj hc hb hm;go_wp2_with fail
   refine wp_region_still_tail 14 kZ kZ ?_;simp only[List.take_succ_cons,List.take_zero,List.drop_succ_cons,List.drop_zero];repeat still_step
   still_call (HSh.out _)
   repeat still_step
   refine wpStill_nil ?_;change wpList _ _ _ _ _ (World.drew _);go_wp2_with fail
   go_roundw
   case rel =>
    refine⟨i+1,oZ,by go_num,?_,(HL.out.setCell sZ _).drew⟩;refine((HR.out.drew).set j _).congr fun y hy=>?_;by_cases hyj:y=j
    ·rw[if_pos hyj,hyj,HS.out];exact congrArg (Value.int IntKind.u32) HOr.out
    ·rw[if_neg hyj,uS L i y (by rw[<- HJ.out];exact hyj)]
   case measure=>simp[intOf];omega
  ·have hi':s.size=i:=oZ;have hlt1:¬ (i:Int)<(s.size:Int):=oZ;have HO:=hJ (HFin.out wr _ HR.out (fun j=>by rw[List.take_of_length_le (by rw[HLn.out];omega)]));clear hi';go_wp2_with fail
   go_ret;exact⟨_,rfl,HO.out,HL.out⟩
end Go.Proofs.YtafaohnhlgcnpaaGreatDoor
