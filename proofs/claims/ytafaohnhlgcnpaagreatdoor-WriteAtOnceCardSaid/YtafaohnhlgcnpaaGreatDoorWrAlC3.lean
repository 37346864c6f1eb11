/-
 What stage 12 rests on.
-/
import Derived.Test.YtafaohnhlgcnpaaGreatDoorWrAlB5
import Derived.Test.YtafaohnhlgcnpaaGreatDoorWrAlB4
set_option maxRecDepth 100000
set_option maxHeartbeats 16000000
namespace Go.Proofs.YtafaohnhlgcnpaaGreatDoor
open Go.RowKit
theorem uL (w:World) (n:Nat) (h:gI n):Calls Tryz.prog 210 #[.int .i32 n] w fun e w'=>e=.returned (.bool true)/\w=w':=by
 unfold gI at h;rcases h with h | ⟨h1,h2⟩
 ·have h0:(n:Int)<55296:=oZ;clear h;go_enter Tryz.func210,Tryz.ntmps210
  go_wp2
  go_ret;exact⟨rfl,rfl⟩
 ·have h3:¬ (n:Int)<55296:=oZ;have h4:(57344:Int)<=(n:Int):=oZ;have h5:(n:Int)<=1114111:=oZ;clear h1 h2;go_enter Tryz.func210,Tryz.ntmps210
  go_wp2
  go_ret;exact⟨rfl,rfl⟩
theorem CJ (w:World) (r:Int) (h:¬ (0<=r/\gI r.toNat)):Calls Tryz.prog 210 #[.int .i32 r] w fun e w'=>e=.returned (.bool false)/\w=w':=by
 have hr:r<0∨(55296<=r/\r<57344)∨1114111<r:=by unfold gI at h;omega
 clear h;rcases hr with h | ⟨h,h2⟩ | h
 ·have h1:¬ 0<=r:=oZ;have h3:¬ 57344<=r:=oZ;go_enter Tryz.func210,Tryz.ntmps210
  go_wp2
  go_ret;exact⟨rfl,rfl⟩
 ·have h1:0<=r:=oZ;have h3:¬ 57344<=r:=oZ;have h4:¬ r<55296:=oZ;go_enter Tryz.func210,Tryz.ntmps210
  go_wp2
  go_ret;exact⟨rfl,rfl⟩
 ·have h1:0<=r:=oZ;have h3:57344<=r:=oZ;have h4:¬ r<55296:=oZ;have h5:¬ r<=1114111:=oZ;go_enter Tryz.func210,Tryz.ntmps210
  go_wp2
  go_ret;exact⟨rfl,rfl⟩
theorem KO (w:World) (r:Int) (hM:∀ w,Calls Tryz.prog 210 #[.int .i32 r] w fun e w'=>e=.returned (.bool true)/\w=w') (h0:0<=r) (h1:r<128) :
  Calls Tryz.prog 193 #[.int .i32 r] w fun e w'=>e=.returned (.slice (some ⟨w.heap.size,0,none⟩) 1 1)/\w'=w.alloc (.cells #[.int .u8 (r)] 5):=by
 have HM:=hJ hM;clear hM;go_enter Tryz.func193,Tryz.ntmps193
 go_wp2_with (go_at_call 210;refine(HM.out _).mono ?_;rintro e w' ⟨rfl,rfl⟩)
 go_ret;exact⟨rfl,rfl⟩
theorem KM (w:World) (r:Int) (hM:∀ w,Calls Tryz.prog 210 #[.int .i32 r] w fun e w'=>e=.returned (.bool true)/\w=w') (h0:128<=r) (h1:r<2048) :
  Calls Tryz.prog 193 #[.int .i32 r] w fun e w'=>e=.returned (.slice (some ⟨w.heap.size,0,none⟩) 2 2)/\w'=w.alloc (.cells #[.int .u8 (192+r / 64),.int .u8 (128+r % 64)] 5):=by
 have HM:=hJ hM;clear hM;have n1:¬ r<128:=oZ;go_enter Tryz.func193,Tryz.ntmps193
 go_wp2_with (go_at_call 210;refine(HM.out _).mono ?_;rintro e w' ⟨rfl,rfl⟩)
 go_ret;exact⟨rfl,rfl⟩
theorem KN (w:World) (r:Int) (hM:∀ w,Calls Tryz.prog 210 #[.int .i32 r] w fun e w'=>e=.returned (.bool true)/\w=w') (h0:2048<=r) (h1:r<65536) :
  Calls Tryz.prog 193 #[.int .i32 r] w fun e w'=>e=.returned (.slice (some ⟨w.heap.size,0,none⟩) 3 3)/\w'=w.alloc (.cells #[.int .u8 (224+r / 4096),.int .u8 (128+r / 64 % 64),.int .u8 (128+r % 64)] 5):=by
 have HM:=hJ hM;clear hM;have n1:¬ r<128:=oZ;have n2:¬ r<2048:=oZ;go_enter Tryz.func193,Tryz.ntmps193
 go_wp2_with (go_at_call 210;refine(HM.out _).mono ?_;rintro e w' ⟨rfl,rfl⟩)
 go_ret;exact⟨rfl,rfl⟩
theorem KS (w:World) (r:Int) (hM:∀ w,Calls Tryz.prog 210 #[.int .i32 r] w fun e w'=>e=.returned (.bool true)/\w=w') (h0:65536<=r) (h1:r<=1114111) :
  Calls Tryz.prog 193 #[.int .i32 r] w fun e w'=>e=.returned (.slice (some ⟨w.heap.size,0,none⟩) 4 4)/\w'=w.alloc (.cells #[.int .u8 (240+r / 262144),.int .u8 (128+r / 4096 % 64),.int .u8 (128+r / 64 % 64),.int .u8 (128+r % 64)] 5):=by
 have HM:=hJ hM;clear hM;have n1:¬ r<128:=oZ;have n2:¬ r<2048:=oZ;have n3:¬ r<65536:=oZ;go_enter Tryz.func193,Tryz.ntmps193
 go_wp2_with (go_at_call 210;refine(HM.out _).mono ?_;rintro e w' ⟨rfl,rfl⟩)
 go_ret;exact⟨rfl,rfl⟩
def BytesAt (w:World) (g:Nat) (l:List Nat):Prop:=w.heap[g]?=some (.cells (l.map fun(b:Nat)=>Value.int .u8 (b:Int)).toArray 5 (0,0))
def dH (r:Int):Nat:=if 0<=r/\gI r.toNat then r.toNat else 65533
theorem BJ (r:Int):gI (dH r):=by
 unfold dH;split
 ·rename_i h;exact h.2
 ·exact .inr ⟨oZ,oZ⟩
theorem gK {n:Nat} (h:gI n):dH (n:Int)=n:=by
 unfold dH;rw[if_pos ⟨oZ,by simpa using h⟩];simp
theorem rU (w:World) (n:Nat) (h:gI n):Calls Tryz.prog 193 #[.int .i32 n] w fun e w'=>∃ g,e=.returned (.slice (some ⟨g,0,none⟩) (encR n).length (encR n).length)/\BytesAt w' g (encR n)/\Below w.heap.size w w':=by
 have hM:=fun w=>uL w n h;have hb:n<=1114111:=by unfold gI at h;omega
 have fin:∀ (m:Nat) (cs:Array Value),m=(encR n).length->((encR n).map fun(b:Nat)=>Value.int .u8 (b:Int)).toArray=cs->∀ (e:Ending) (w':World),(e=.returned (.slice (some ⟨w.heap.size,0,none⟩) m m)/\w'=w.alloc (.cells cs 5))->∃ g,e=.returned (.slice (some ⟨g,0,none⟩) (encR n).length (encR n).length)/\BytesAt w' g (encR n)/\Below w.heap.size w w':=by
  rintro m cs rfl rfl e w' ⟨rfl,rfl⟩;exact⟨_,rfl,nZ w _,aj⟩
 by_cases h1:n<128
 ·exact(KO w n hM oZ oZ).mono (fin 1 _ (by simp[encR,h1]) (by simp[encR,h1]))
 ·by_cases h2:n<2048
  ·exact(KM w n hM oZ oZ).mono (fin 2 _ (by simp[encR,h1,h2]) (by simp[encR,h1,h2]))
  ·by_cases h3:n<65536
   ·exact(KN w n hM oZ oZ).mono (fin 3 _ (by simp[encR,h1,h2,h3]) (by simp[encR,h1,h2,h3]))
   ·exact(KS w n hM oZ oZ).mono (fin 4 _ (by simp[encR,h1,h2,h3]) (by simp[encR,h1,h2,h3]))
/-! ### The rune at a place -/
theorem rC {s:ByteArray} {i:Nat} (h:i<s.size):(s[i]'h).toNat=aV s i:=by
 unfold aV;congr 1
 have:i<s.data.toList.length:=by simpa using h
 rw[List.getD_eq_getElem?_getD,gZ this];rfl
def atR (s:ByteArray) (i:Nat):Nat×Nat:=if bS s i=(65533,1) then(0,0) else bS s i
def Start (b n k:Nat):Prop:=(k=0/\128<=b/\(b<192∨248<=b))∨(k=2/\192<=b/\b<224/\n=b-192)∨(k=3/\224<=b/\b<240/\n=b-224)∨(k=4/\240<=b/\b<248/\n=b-240)
def sQ (s:ByteArray) (i n0:Nat):Nat->Nat
 | 0=>n0
 | 1=>n0
 | j+2=>sQ s i n0 (j+1)*64+aV s (i+(j+1)) % 64
def Ez (s:ByteArray) (i j:Nat):Prop:=∀ t,1<=t->t<j->aV s (i+t) / 64=2
def Me (d n:Nat):Prop:=(d=0->n<=2097151)/\(d=1->n<=32767)/\(d=2->n<=511)/\(d=3->n<=7)
theorem Gx {x:Nat} (h:x<2048):gI x:=by unfold gI;omega
theorem rA {s:ByteArray} {i n k:Nat} (h:Start (aV s i) n k) (hk:k=0∨s.size<i+k):atR s i=(0,0):=by
 unfold atR;rw[if_pos];unfold bS lN;have ho:∀ j,s.size<=j->aV s j=0:=fun j hj=>uT hj;generalize aV s i=b at *;rcases h with ⟨rfl,h1,h2⟩ | ⟨rfl,h1,h2,_⟩ | ⟨rfl,h1,h2,_⟩ | ⟨rfl,h1,h2,_⟩
 ·have e1:¬ b<128:=oZ;have e2:¬ b / 32=6:=oZ;have e3:¬ b / 16=14:=oZ;have e4:¬ b / 8=30:=oZ;simp[e1,e2,e3,e4]
 ·have e1:¬ b<128:=oZ;have e3:¬ b / 16=14:=oZ;have e4:¬ b / 8=30:=oZ;simp[e1,e3,e4,ho (i+1) oZ]
 ·have e1:¬ b<128:=oZ;have e2:¬ b / 32=6:=oZ;have e4:¬ b / 8=30:=oZ;simp[e1,e2,e4,ho (i+2) oZ]
 ·have e1:¬ b<128:=oZ;have e2:¬ b / 32=6:=oZ;have e3:¬ b / 16=14:=oZ;simp[e1,e2,e3,ho (i+3) oZ]
theorem Df {s:ByteArray} {i n k j:Nat} (h:Start (aV s i) n k) (h1:1<=j) (hj:j<k) (hc:¬ aV s (i+j) / 64=2):atR s i=(0,0):=by
 unfold atR;rw[if_pos];unfold bS lN;generalize aV s i=b at *;rcases h with ⟨rfl,_⟩ | ⟨rfl,h1,h2,_⟩ | ⟨rfl,h1,h2,_⟩ | ⟨rfl,h1,h2,_⟩
 ·omega
 ·obtain rfl:j=1:=oZ;have e1:¬ b<128:=oZ;have e3:¬ b / 16=14:=oZ;have e4:¬ b / 8=30:=oZ;simp[e1,e3,e4,hc]
 ·have e1:¬ b<128:=oZ;have e2:¬ b / 32=6:=oZ;have e4:¬ b / 8=30:=oZ;rcases (show j=1∨j=2 by omega) with rfl | rfl <;> simp[e1,e2,e4,hc]
 ·have e1:¬ b<128:=oZ;have e2:¬ b / 32=6:=oZ;have e3:¬ b / 16=14:=oZ;rcases (show j=1∨j=2∨j=3 by omega) with rfl | rfl | rfl <;> simp[e1,e2,e3,hc]
theorem il (n:Nat):(encR n).length=if n<128 then 1 else if n<2048 then 2 else if n<65536 then 3 else 4:=by
 unfold encR;repeat' split
 all_goals rfl
theorem yU {s:ByteArray} {i n k:Nat} (h:Start (aV s i) n k) (hk:k≠0) (hc:Ez s i k):atR s i=if gI (sQ s i n k)/\(encR (sQ s i n k)).length=k then(sQ s i n k,k) else(0,0):=by
 unfold atR bS lN;have hb:∀ j,aV s j<256:=lF s;have hb0:=hb i;generalize aV s i=b at *;rw[il];rcases h with ⟨rfl,_⟩ | ⟨rfl,h1,h2,hn⟩ | ⟨rfl,h1,h2,hn⟩ | ⟨rfl,h1,h2,hn⟩
 ·exact absurd rfl hk
 ·have c1:=hc 1 oZ oZ;have e1:¬ b<128:=oZ;have e2:b / 32=6:=oZ;have e3:b % 32*64+aV s (i+1) % 64=n*64+aV s (i+1) % 64:=oZ;simp only[sQ,Nat.zero_add,e1,e2,c1,and_self,if_true,if_false,e3];generalize hx:n*64+aV s (i+1) % 64=x;have hx2:x<2048:=oZ;by_cases h3:128<=x
  ·have h4:¬ x<128:=oZ;have h5:gI x:=Gx hx2;simp[h3,h4,h5,hx2]
  ·have h4:x<128:=oZ;simp[h3,h4]
 ·have c1:=hc 1 oZ oZ;have c2:=hc 2 oZ oZ;have e1:¬ b<128:=oZ;have e2:¬ b / 32=6:=oZ;have e2':b / 16=14:=oZ;have e3:b % 16*4096+aV s (i+1) % 64*64+aV s (i+2) % 64=(n*64+aV s (i+1) % 64)*64+aV s (i+2) % 64:=oZ;simp only[sQ,Nat.zero_add,Nat.reduceAdd,e1,e2,e2',c1,c2,and_self,false_and,if_true,if_false,e3];generalize hx:(n*64+aV s (i+1) % 64)*64+aV s (i+2) % 64=x;have hx2:x<65536:=oZ;by_cases h3:2048<=x/\gI x
  ·have h4:¬ x<128:=oZ;have h5:¬ x<2048:=oZ;simp[h3,h4,h5,hx2]
  ·rw[if_neg h3]
   have h4:¬ (gI x/\(if x<128 then 1 else if x<2048 then 2 else if x<65536 then 3 else 4)=3):=by
    rintro⟨h5,h6⟩;split at h6
    ·omega
    ·split at h6
     ·omega
     ·exact h3 ⟨oZ,h5⟩
   rw[if_neg h4];simp
 ·have c1:=hc 1 oZ oZ;have c2:=hc 2 oZ oZ;have c3:=hc 3 oZ oZ;have e1:¬ b<128:=oZ;have e2:¬ b / 32=6:=oZ;have e2':¬ b / 16=14:=oZ;have e2'':b / 8=30:=oZ;have e3:b % 8*262144+aV s (i+1) % 64*4096+aV s (i+2) % 64*64+aV s (i+3) % 64=((n*64+aV s (i+1) % 64)*64+aV s (i+2) % 64)*64+aV s (i+3) % 64:=oZ;simp only[sQ,Nat.zero_add,Nat.reduceAdd,e1,e2,e2',e2'',c1,c2,c3,and_self,false_and,if_true,if_false,e3];generalize hx:((n*64+aV s (i+1) % 64)*64+aV s (i+2) % 64)*64+aV s (i+3) % 64=x;by_cases h3:65536<=x/\gI x
  ·have h4:¬ x<128:=oZ;have h5:¬ x<2048:=oZ;have h6:¬ x<65536:=oZ;simp[h3,h4,h5,h6]
  ·rw[if_neg h3]
   have h4:¬ (gI x/\(if x<128 then 1 else if x<2048 then 2 else if x<65536 then 3 else 4)=4):=by
    rintro⟨h5,h6⟩;split at h6
    ·omega
    ·split at h6
     ·omega
     ·split at h6
      ·omega
      ·exact h3 ⟨oZ,h5⟩
   rw[if_neg h4];simp
theorem LU {s:ByteArray} {i:Nat} (h:aV s i<128):atR s i=(aV s i,1):=by
 have e:bS s i=(aV s i,1):=by unfold bS lN;rw[if_pos h]
 unfold atR;rw[e,if_neg];intro h2;simp only[Prod.mk.injEq] at h2;omega
theorem Lr (w:World) (s:ByteArray) (i:Nat) (hi:i<s.size) (hs:s.size<=maxLen) :
  Calls Tryz.prog 208 #[.string s,.int .i64 i] w fun e w'=>e=.returned (.tuple #[.int .i32 (atR s i).1,.int .i64 (atR s i).2])/\Below w.heap.size w w':=by
 unfold maxLen at hs;have hg:(s[i]'hi).toNat=aV s i:=rC hi;have e0:((s[i]'hi).toNat:Int)<=255:=by have:=lF s i;omega
 obtain⟨r,hr⟩:∃ r:Int,r=(atR s i).1:=⟨_,rfl⟩;obtain⟨m,hm⟩:∃ m:Int,m=(atR s i).2:=⟨_,rfl⟩;rw[<- hr,<- hm];have HR:=hJ (And.intro hr hm);have HG:=hJ hg;clear hr hm hg;go_enter Tryz.func208,Tryz.ntmps208
 go_upto_region 4 with fail
 generalize hb:((s[i]'hi).toNat:Int)=b;have hb0:0<=b:=oZ;have hb1:b<=255:=oZ;have HB:=hJ (show b=(aV s i:Nat) by rw[<- hb,HG.out]);clear hb e0 HG;by_cases hlow:b<128
 ·have HV:=hJ (LU (s:=s) (i:=i) (by have:=HB.out;omega));obtain rfl:r=b:=by rw[HR.out.1,HV.out,HB.out]
  obtain rfl:m=1:=by rw[HR.out.2,HV.out];rfl
  clear HR HB HV;go_wp2_with fail
  go_ret2
  exact⟨rfl,Below.refl _ _⟩
 have hcase:b<192∨248<=b∨(192<=b/\b<224)∨(224<=b/\b<240)∨(240<=b/\b<248):=oZ;rcases hcase with hcase | hcase | hcase | hcase | hcase
 ·have HV:=hJ (rA (s:=s) (i:=i) (n:=0) (k:=0) (.inl ⟨rfl,by have:=HB.out;omega,by have:=HB.out;omega⟩) (.inl rfl));obtain rfl:r=0:=by rw[HR.out.1,HV.out];rfl
  obtain rfl:m=0:=by rw[HR.out.2,HV.out];rfl
  have n2:¬ 192<=b:=oZ;have n4:¬ 224<=b:=oZ;have n5:¬ 240<=b:=oZ;clear hcase HR HB HV;go_wp2_with fail
  go_ret2
  exact⟨rfl,Below.refl _ _⟩
 ·have HV:=hJ (rA (s:=s) (i:=i) (n:=0) (k:=0) (.inl ⟨rfl,by have:=HB.out;omega,by have:=HB.out;omega⟩) (.inl rfl));obtain rfl:r=0:=by rw[HR.out.1,HV.out];rfl
  obtain rfl:m=0:=by rw[HR.out.2,HV.out];rfl
  have n2:192<=b:=oZ;have n3:¬ b<224:=oZ;have n4:224<=b:=oZ;have n6:¬ b<240:=oZ;have n5:240<=b:=oZ;have n7:¬ b<248:=oZ;clear hcase HR HB HV;go_wp2_with fail
  go_ret2
  exact⟨rfl,Below.refl _ _⟩
 ·obtain⟨n,hn⟩:∃ n:Nat,(n:Int)=b-192:=⟨(b-192).toNat,oZ⟩;have hS:Start (aV s i) n 2:=.inr (.inl ⟨rfl,by have:=HB.out;omega,by have:=HB.out;omega,by have:=HB.out;omega⟩);have n2:192<=b:=oZ;have n3:b<224:=oZ;have n4:¬ 224<=b:=oZ;have n5:¬ 240<=b:=oZ;have hnb:Me (2-1) n:=⟨fun h=>oZ,fun h=>oZ,fun h=>oZ,fun h=>oZ⟩;have HS:=hJ hS;have HNB:=hJ hnb;clear hcase hS hnb;go_upto_region 12 with fail
  rw[<- hn];clear HB hn hb0 hb1 hlow;by_cases hsh:s.size<i+2
  ·have HV:=hJ (rA HS.out (.inr hsh));obtain rfl:r=0:=by rw[HR.out.1,HV.out];rfl
   obtain rfl:m=0:=by rw[HR.out.2,HV.out];rfl
   have hsh1:(s.size:Int)-(i:Int)<2:=oZ;clear hsh HR HS HV HNB;go_wp2_with fail
   go_ret2
   exact⟨rfl,Below.refl _ _⟩
  ·have hsh1:¬ (s.size:Int)-(i:Int)<2:=oZ;have hsz:i+2<=s.size:=oZ;clear hsh;go_wp2_with fail
   go_loop [7,9] (fun v7 v9=>∃ (j n':Nat),1<=j/\j<=2/\v9=.int .i64 j/\v7=.int .i64 n'/\Me (2-j) n'/\n'=sQ s i n j/\Ez s i j) (fun _ v9=>2-(intOf v9).toNat)
   case atStart=>exact⟨1,n,oZ,oZ,rfl,rfl,HNB.out,rfl,fun t h1 h2=>oZ⟩
   case round =>
    obtain⟨j,n',hj1,hjK,rfl,rfl,hB,hacc,hco⟩:=hrel;have HA:=hJ (And.intro hB (And.intro hacc hco));clear hB hacc hco;by_cases hlt:j<2
    ·have hij:i+j<s.size:=oZ;have hg:(s[i+j]'hij).toNat=aV s (i+j):=rC hij;have e0:((s[i+j]'hij).toNat:Int)<=255:=by have:=lF s (i+j);omega
     have HG:=hJ hg
     have hn7:(n':Int)<=32767:=by
      obtain⟨_,b1,b2,b3⟩:=HA.out.1;have:2-j=1∨2-j=2∨2-j=3:=oZ;rcases this with h | h | h
      ·have:=b1 h;omega
      ·have:=b2 h;omega
      ·have:=b3 h;omega
     clear hg;go_upto_region 18 with fail
     generalize hc:((s[i+j]'hij).toNat:Int)=c;have hc0:0<=c:=oZ;have hc1:c<=255:=oZ;have HC:=hJ (show c=(aV s (i+j):Nat) by rw[<- hc,HG.out]);clear hc e0 HG;by_cases hbad:c<128∨191<c
     ·have HV:=hJ (Df HS.out hj1 hlt (by have:=HC.out;omega));obtain rfl:r=0:=by rw[HR.out.1,HV.out];rfl
      obtain rfl:m=0:=by rw[HR.out.2,HV.out];rfl
      clear HR HV HC HS HA;rcases hbad with hbad | hbad
      ·go_wp2_with fail
       go_ret2
       exact⟨rfl,Below.refl _ _⟩
      ·have hbad2:¬ c<128:=oZ;go_wp2_with fail
       go_ret2
       exact⟨rfl,Below.refl _ _⟩
     ·have hb2:¬ c<128:=oZ;have hb3:¬ 191<c:=oZ;clear hbad;go_wp2_with fail
      go_round
      case rel =>
       obtain⟨b0,hacc,hco⟩:=HA.out;have hC:=HC.out;refine⟨j+1,n'*64+aV s (i+j) % 64,oZ,oZ,by go_num,?_,?_,?_,?_⟩
       ·have:(n':Int)*64+c-128=((n'*64+aV s (i+j) % 64:Nat):Int):=oZ;rw[this]
       ·obtain⟨d0,d1,d2,d3⟩:=b0;refine⟨fun h=>?_,fun h=>?_,fun h=>?_,fun h=>?_⟩
        ·have:=d1 oZ;omega
        ·have:=d2 oZ;omega
        ·have:=d3 oZ;omega
        ·omega
       ·obtain⟨j',rfl⟩:∃ j',j=j'+1:=⟨j-1,oZ⟩;rw[sQ,<- hacc]
       ·intro t h1 h2;by_cases e:t<j
        ·exact hco t h1 e
        ·obtain rfl:t=j:=oZ;omega
      case measure=>simp[intOf];omega
    ·obtain rfl:j=2:=oZ;obtain⟨b0,hacc,hco⟩:=HA.out;have hn7:(n':Int)<=2097151:=by have:=b0.1 oZ;omega
     have HG:=hJ (yU HS.out oZ hco);rw[<- hacc] at HG;by_cases hok:gI n'
     ·have hlen:=il n';obtain⟨le,hle⟩:∃ le,le=(encR n').length:=⟨_,rfl⟩;have HBY:=hJ (show ∀ w:World,Calls Tryz.prog 193 #[.int .i32 n'] w fun e w'=>∃ g,e=.returned (.slice (some ⟨g,0,none⟩) le le)/\Below w.heap.size w w' from fun w=>by rw[hle];exact(rU w n' hok).mono fun _ _ ⟨g,h1,_,h3⟩=>⟨g,h1,h3⟩);have HMY:=hJ (fun w=>uL w n' hok);by_cases hk:le=2
      ·obtain rfl:r=n':=by rw[HR.out.1,HG.out,if_pos ⟨hok,by rw[<- hle];exact hk⟩]
       obtain rfl:m=2:=by rw[HR.out.2,HG.out,if_pos ⟨hok,by rw[<- hle];exact hk⟩];rfl
       have hk2:((le:Int) != 2)=false:=by simp[hk]
       clear HR HG HS HA b0 hacc hco hlen hle hk hok
       go_wp2_with (first
        | (go_at_call 210;refine(HMY.out _).mono ?_;rintro e w' ⟨rfl,rfl⟩)
        | (go_at_call 193;refine(HBY.out _).mono ?_;rintro e w2 ⟨g,rfl,hb2⟩;have HB2:=hJ hb2;clear hb2))
       go_ret2
       exact⟨rfl,HB2.out⟩
      ·have hne:¬ (gI n'/\(encR n').length=2):=fun h=>hk (hle.trans h.2);obtain rfl:r=0:=by rw[HR.out.1,HG.out,if_neg hne];rfl
       obtain rfl:m=0:=by rw[HR.out.2,HG.out,if_neg hne];rfl
       have hk2:((le:Int) != 2)=true:=by simp;omega
       clear HR HG HS HA b0 hacc hco hlen hle hk hok hne
       go_wp2_with (first
        | (go_at_call 210;refine(HMY.out _).mono ?_;rintro e w' ⟨rfl,rfl⟩)
        | (go_at_call 193;refine(HBY.out _).mono ?_;rintro e w2 ⟨g,rfl,hb2⟩;have HB2:=hJ hb2;clear hb2))
       go_ret2
       exact⟨rfl,HB2.out⟩
     ·have hne:¬ (gI n'/\(encR n').length=2):=fun h=>hok h.1;obtain rfl:r=0:=by rw[HR.out.1,HG.out,if_neg hne];rfl
      obtain rfl:m=0:=by rw[HR.out.2,HG.out,if_neg hne];rfl
      have HMY:=hJ (fun w=>CJ w n' (fun h=>hok (by simpa using h.2)));clear HR HG HS HA b0 hacc hco hne hok;go_wp2_with (go_at_call 210;refine(HMY.out _).mono ?_;rintro e w' ⟨rfl,rfl⟩)
      go_ret2
      exact⟨rfl,Below.refl _ _⟩
 ·obtain⟨n,hn⟩:∃ n:Nat,(n:Int)=b-224:=⟨(b-224).toNat,oZ⟩;have hS:Start (aV s i) n 3:=.inr (.inr (.inl ⟨rfl,by have:=HB.out;omega,by have:=HB.out;omega,by have:=HB.out;omega⟩));have n2:192<=b:=oZ;have n3:¬ b<224:=oZ;have n4:224<=b:=oZ;have n6:b<240:=oZ;have n5:¬ 240<=b:=oZ;have hnb:Me (3-1) n:=⟨fun h=>oZ,fun h=>oZ,fun h=>oZ,fun h=>oZ⟩;have HS:=hJ hS;have HNB:=hJ hnb;clear hcase hS hnb;go_upto_region 12 with fail
  rw[<- hn];clear HB hn hb0 hb1 hlow;by_cases hsh:s.size<i+3
  ·have HV:=hJ (rA HS.out (.inr hsh));obtain rfl:r=0:=by rw[HR.out.1,HV.out];rfl
   obtain rfl:m=0:=by rw[HR.out.2,HV.out];rfl
   have hsh1:(s.size:Int)-(i:Int)<3:=oZ;clear hsh HR HS HV HNB;go_wp2_with fail
   go_ret2
   exact⟨rfl,Below.refl _ _⟩
  ·have hsh1:¬ (s.size:Int)-(i:Int)<3:=oZ;have hsz:i+3<=s.size:=oZ;clear hsh;go_wp2_with fail
   go_loop [7,9] (fun v7 v9=>∃ (j n':Nat),1<=j/\j<=3/\v9=.int .i64 j/\v7=.int .i64 n'/\Me (3-j) n'/\n'=sQ s i n j/\Ez s i j) (fun _ v9=>3-(intOf v9).toNat)
   case atStart=>exact⟨1,n,oZ,oZ,rfl,rfl,HNB.out,rfl,fun t h1 h2=>oZ⟩
   case round =>
    obtain⟨j,n',hj1,hjK,rfl,rfl,hB,hacc,hco⟩:=hrel;have HA:=hJ (And.intro hB (And.intro hacc hco));clear hB hacc hco;by_cases hlt:j<3
    ·have hij:i+j<s.size:=oZ;have hg:(s[i+j]'hij).toNat=aV s (i+j):=rC hij;have e0:((s[i+j]'hij).toNat:Int)<=255:=by have:=lF s (i+j);omega
     have HG:=hJ hg
     have hn7:(n':Int)<=32767:=by
      obtain⟨_,b1,b2,b3⟩:=HA.out.1;have:3-j=1∨3-j=2∨3-j=3:=oZ;rcases this with h | h | h
      ·have:=b1 h;omega
      ·have:=b2 h;omega
      ·have:=b3 h;omega
     clear hg;go_upto_region 18 with fail
     generalize hc:((s[i+j]'hij).toNat:Int)=c;have hc0:0<=c:=oZ;have hc1:c<=255:=oZ;have HC:=hJ (show c=(aV s (i+j):Nat) by rw[<- hc,HG.out]);clear hc e0 HG;by_cases hbad:c<128∨191<c
     ·have HV:=hJ (Df HS.out hj1 hlt (by have:=HC.out;omega));obtain rfl:r=0:=by rw[HR.out.1,HV.out];rfl
      obtain rfl:m=0:=by rw[HR.out.2,HV.out];rfl
      clear HR HV HC HS HA;rcases hbad with hbad | hbad
      ·go_wp2_with fail
       go_ret2
       exact⟨rfl,Below.refl _ _⟩
      ·have hbad2:¬ c<128:=oZ;go_wp2_with fail
       go_ret2
       exact⟨rfl,Below.refl _ _⟩
     ·have hb2:¬ c<128:=oZ;have hb3:¬ 191<c:=oZ;clear hbad;go_wp2_with fail
      go_round
      case rel =>
       obtain⟨b0,hacc,hco⟩:=HA.out;have hC:=HC.out;refine⟨j+1,n'*64+aV s (i+j) % 64,oZ,oZ,by go_num,?_,?_,?_,?_⟩
       ·have:(n':Int)*64+c-128=((n'*64+aV s (i+j) % 64:Nat):Int):=oZ;rw[this]
       ·obtain⟨d0,d1,d2,d3⟩:=b0;refine⟨fun h=>?_,fun h=>?_,fun h=>?_,fun h=>?_⟩
        ·have:=d1 oZ;omega
        ·have:=d2 oZ;omega
        ·have:=d3 oZ;omega
        ·omega
       ·obtain⟨j',rfl⟩:∃ j',j=j'+1:=⟨j-1,oZ⟩;rw[sQ,<- hacc]
       ·intro t h1 h2;by_cases e:t<j
        ·exact hco t h1 e
        ·obtain rfl:t=j:=oZ;omega
      case measure=>simp[intOf];omega
    ·obtain rfl:j=3:=oZ;obtain⟨b0,hacc,hco⟩:=HA.out;have hn7:(n':Int)<=2097151:=by have:=b0.1 oZ;omega
     have HG:=hJ (yU HS.out oZ hco);rw[<- hacc] at HG;by_cases hok:gI n'
     ·have hlen:=il n';obtain⟨le,hle⟩:∃ le,le=(encR n').length:=⟨_,rfl⟩;have HBY:=hJ (show ∀ w:World,Calls Tryz.prog 193 #[.int .i32 n'] w fun e w'=>∃ g,e=.returned (.slice (some ⟨g,0,none⟩) le le)/\Below w.heap.size w w' from fun w=>by rw[hle];exact(rU w n' hok).mono fun _ _ ⟨g,h1,_,h3⟩=>⟨g,h1,h3⟩);have HMY:=hJ (fun w=>uL w n' hok);by_cases hk:le=3
      ·obtain rfl:r=n':=by rw[HR.out.1,HG.out,if_pos ⟨hok,by rw[<- hle];exact hk⟩]
       obtain rfl:m=3:=by rw[HR.out.2,HG.out,if_pos ⟨hok,by rw[<- hle];exact hk⟩];rfl
       have hk2:((le:Int) != 3)=false:=by simp[hk]
       clear HR HG HS HA b0 hacc hco hlen hle hk hok
       go_wp2_with (first
        | (go_at_call 210;refine(HMY.out _).mono ?_;rintro e w' ⟨rfl,rfl⟩)
        | (go_at_call 193;refine(HBY.out _).mono ?_;rintro e w2 ⟨g,rfl,hb2⟩;have HB2:=hJ hb2;clear hb2))
       go_ret2
       exact⟨rfl,HB2.out⟩
      ·have hne:¬ (gI n'/\(encR n').length=3):=fun h=>hk (hle.trans h.2);obtain rfl:r=0:=by rw[HR.out.1,HG.out,if_neg hne];rfl
       obtain rfl:m=0:=by rw[HR.out.2,HG.out,if_neg hne];rfl
       have hk2:((le:Int) != 3)=true:=by simp;omega
       clear HR HG HS HA b0 hacc hco hlen hle hk hok hne
       go_wp2_with (first
        | (go_at_call 210;refine(HMY.out _).mono ?_;rintro e w' ⟨rfl,rfl⟩)
        | (go_at_call 193;refine(HBY.out _).mono ?_;rintro e w2 ⟨g,rfl,hb2⟩;have HB2:=hJ hb2;clear hb2))
       go_ret2
       exact⟨rfl,HB2.out⟩
     ·have hne:¬ (gI n'/\(encR n').length=3):=fun h=>hok h.1;obtain rfl:r=0:=by rw[HR.out.1,HG.out,if_neg hne];rfl
      obtain rfl:m=0:=by rw[HR.out.2,HG.out,if_neg hne];rfl
      have HMY:=hJ (fun w=>CJ w n' (fun h=>hok (by simpa using h.2)));clear HR HG HS HA b0 hacc hco hne hok;go_wp2_with (go_at_call 210;refine(HMY.out _).mono ?_;rintro e w' ⟨rfl,rfl⟩)
      go_ret2
      exact⟨rfl,Below.refl _ _⟩
 ·obtain⟨n,hn⟩:∃ n:Nat,(n:Int)=b-240:=⟨(b-240).toNat,oZ⟩;have hS:Start (aV s i) n 4:=.inr (.inr (.inr ⟨rfl,by have:=HB.out;omega,by have:=HB.out;omega,by have:=HB.out;omega⟩));have n2:192<=b:=oZ;have n3:¬ b<224:=oZ;have n4:224<=b:=oZ;have n6:¬ b<240:=oZ;have n5:240<=b:=oZ;have n7:b<248:=oZ;have hnb:Me (4-1) n:=⟨fun h=>oZ,fun h=>oZ,fun h=>oZ,fun h=>oZ⟩;have HS:=hJ hS;have HNB:=hJ hnb;clear hcase hS hnb;go_upto_region 12 with fail
  rw[<- hn];clear HB hn hb0 hb1 hlow;by_cases hsh:s.size<i+4
  ·have HV:=hJ (rA HS.out (.inr hsh));obtain rfl:r=0:=by rw[HR.out.1,HV.out];rfl
   obtain rfl:m=0:=by rw[HR.out.2,HV.out];rfl
   have hsh1:(s.size:Int)-(i:Int)<4:=oZ;clear hsh HR HS HV HNB;go_wp2_with fail
   go_ret2
   exact⟨rfl,Below.refl _ _⟩
  ·have hsh1:¬ (s.size:Int)-(i:Int)<4:=oZ;have hsz:i+4<=s.size:=oZ;clear hsh;go_wp2_with fail
   go_loop [7,9] (fun v7 v9=>∃ (j n':Nat),1<=j/\j<=4/\v9=.int .i64 j/\v7=.int .i64 n'/\Me (4-j) n'/\n'=sQ s i n j/\Ez s i j) (fun _ v9=>4-(intOf v9).toNat)
   case atStart=>exact⟨1,n,oZ,oZ,rfl,rfl,HNB.out,rfl,fun t h1 h2=>oZ⟩
   case round =>
    obtain⟨j,n',hj1,hjK,rfl,rfl,hB,hacc,hco⟩:=hrel;have HA:=hJ (And.intro hB (And.intro hacc hco));clear hB hacc hco;by_cases hlt:j<4
    ·have hij:i+j<s.size:=oZ;have hg:(s[i+j]'hij).toNat=aV s (i+j):=rC hij;have e0:((s[i+j]'hij).toNat:Int)<=255:=by have:=lF s (i+j);omega
     have HG:=hJ hg
     have hn7:(n':Int)<=32767:=by
      obtain⟨_,b1,b2,b3⟩:=HA.out.1;have:4-j=1∨4-j=2∨4-j=3:=oZ;rcases this with h | h | h
      ·have:=b1 h;omega
      ·have:=b2 h;omega
      ·have:=b3 h;omega
     clear hg;go_upto_region 18 with fail
     generalize hc:((s[i+j]'hij).toNat:Int)=c;have hc0:0<=c:=oZ;have hc1:c<=255:=oZ;have HC:=hJ (show c=(aV s (i+j):Nat) by rw[<- hc,HG.out]);clear hc e0 HG;by_cases hbad:c<128∨191<c
     ·have HV:=hJ (Df HS.out hj1 hlt (by have:=HC.out;omega));obtain rfl:r=0:=by rw[HR.out.1,HV.out];rfl
      obtain rfl:m=0:=by rw[HR.out.2,HV.out];rfl
      clear HR HV HC HS HA;rcases hbad with hbad | hbad
      ·go_wp2_with fail
       go_ret2
       exact⟨rfl,Below.refl _ _⟩
      ·have hbad2:¬ c<128:=oZ;go_wp2_with fail
       go_ret2
       exact⟨rfl,Below.refl _ _⟩
     ·have hb2:¬ c<128:=oZ;have hb3:¬ 191<c:=oZ;clear hbad;go_wp2_with fail
      go_round
      case rel =>
       obtain⟨b0,hacc,hco⟩:=HA.out;have hC:=HC.out;refine⟨j+1,n'*64+aV s (i+j) % 64,oZ,oZ,by go_num,?_,?_,?_,?_⟩
       ·have:(n':Int)*64+c-128=((n'*64+aV s (i+j) % 64:Nat):Int):=oZ;rw[this]
       ·obtain⟨d0,d1,d2,d3⟩:=b0;refine⟨fun h=>?_,fun h=>?_,fun h=>?_,fun h=>?_⟩
        ·have:=d1 oZ;omega
        ·have:=d2 oZ;omega
        ·have:=d3 oZ;omega
        ·omega
       ·obtain⟨j',rfl⟩:∃ j',j=j'+1:=⟨j-1,oZ⟩;rw[sQ,<- hacc]
       ·intro t h1 h2;by_cases e:t<j
        ·exact hco t h1 e
        ·obtain rfl:t=j:=oZ;omega
      case measure=>simp[intOf];omega
    ·obtain rfl:j=4:=oZ;obtain⟨b0,hacc,hco⟩:=HA.out;have hn7:(n':Int)<=2097151:=by have:=b0.1 oZ;omega
     have HG:=hJ (yU HS.out oZ hco);rw[<- hacc] at HG;by_cases hok:gI n'
     ·have hlen:=il n';obtain⟨le,hle⟩:∃ le,le=(encR n').length:=⟨_,rfl⟩;have HBY:=hJ (show ∀ w:World,Calls Tryz.prog 193 #[.int .i32 n'] w fun e w'=>∃ g,e=.returned (.slice (some ⟨g,0,none⟩) le le)/\Below w.heap.size w w' from fun w=>by rw[hle];exact(rU w n' hok).mono fun _ _ ⟨g,h1,_,h3⟩=>⟨g,h1,h3⟩);have HMY:=hJ (fun w=>uL w n' hok);by_cases hk:le=4
      ·obtain rfl:r=n':=by rw[HR.out.1,HG.out,if_pos ⟨hok,by rw[<- hle];exact hk⟩]
       obtain rfl:m=4:=by rw[HR.out.2,HG.out,if_pos ⟨hok,by rw[<- hle];exact hk⟩];rfl
       have hk2:((le:Int) != 4)=false:=by simp[hk]
       clear HR HG HS HA b0 hacc hco hlen hle hk hok
       go_wp2_with (first
        | (go_at_call 210;refine(HMY.out _).mono ?_;rintro e w' ⟨rfl,rfl⟩)
        | (go_at_call 193;refine(HBY.out _).mono ?_;rintro e w2 ⟨g,rfl,hb2⟩;have HB2:=hJ hb2;clear hb2))
       go_ret2
       exact⟨rfl,HB2.out⟩
      ·have hne:¬ (gI n'/\(encR n').length=4):=fun h=>hk (hle.trans h.2);obtain rfl:r=0:=by rw[HR.out.1,HG.out,if_neg hne];rfl
       obtain rfl:m=0:=by rw[HR.out.2,HG.out,if_neg hne];rfl
       have hk2:((le:Int) != 4)=true:=by simp;omega
       clear HR HG HS HA b0 hacc hco hlen hle hk hok hne
       go_wp2_with (first
        | (go_at_call 210;refine(HMY.out _).mono ?_;rintro e w' ⟨rfl,rfl⟩)
        | (go_at_call 193;refine(HBY.out _).mono ?_;rintro e w2 ⟨g,rfl,hb2⟩;have HB2:=hJ hb2;clear hb2))
       go_ret2
       exact⟨rfl,HB2.out⟩
     ·have hne:¬ (gI n'/\(encR n').length=4):=fun h=>hok h.1;obtain rfl:r=0:=by rw[HR.out.1,HG.out,if_neg hne];rfl
      obtain rfl:m=0:=by rw[HR.out.2,HG.out,if_neg hne];rfl
      have HMY:=hJ (fun w=>CJ w n' (fun h=>hok (by simpa using h.2)));clear HR HG HS HA b0 hacc hco hne hok;go_wp2_with (go_at_call 210;refine(HMY.out _).mono ?_;rintro e w' ⟨rfl,rfl⟩)
      go_ret2
      exact⟨rfl,Below.refl _ _⟩
end Go.Proofs.YtafaohnhlgcnpaaGreatDoor
