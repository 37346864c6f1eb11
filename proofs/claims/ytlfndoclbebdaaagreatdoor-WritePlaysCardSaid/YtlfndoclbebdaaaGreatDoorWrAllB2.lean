/-
 What stage 12 rests on.
-/
import Derived.Test.YtlfndoclbebdaaaGreatDoorWrAllA1
import Derived.OwnWalk
import Derived.Laws.AppendOwn
set_option maxRecDepth 100000
set_option maxHeartbeats 16000000
namespace Go.Proofs.YtlfndoclbebdaaaGreatDoor
open Go.RowKit
theorem xK (w:World) (n:Nat) (h:okR n):Calls Tryz.prog 210 #[.int .i32 n] w fun e w'=>e=.returned (.bool true)/\w=w':=by
 unfold okR at h
 rcases h with h | ⟨h1,h2⟩
 ·have h0:(n:Int)<55296:=oZ
  clear h
  go_enter Tryz.func210,Tryz.ntmps210
  go_wp2
  go_ret
  exact⟨rfl,rfl⟩
 ·have h3:¬ (n:Int)<55296:=oZ
  have h4:(57344:Int)<=(n:Int):=oZ
  have h5:(n:Int)<=1114111:=oZ
  clear h1 h2
  go_enter Tryz.func210,Tryz.ntmps210
  go_wp2
  go_ret
  exact⟨rfl,rfl⟩
theorem Hm (w:World) (r:Int) (h:¬ (0<=r/\okR r.toNat)):Calls Tryz.prog 210 #[.int .i32 r] w fun e w'=>e=.returned (.bool false)/\w=w':=by
 have hr:r<0∨(55296<=r/\r<57344)∨1114111<r:=by unfold okR at h;omega
 clear h
 rcases hr with h | ⟨h,h2⟩ | h
 ·have h1:¬ 0<=r:=oZ
  have h3:¬ 57344<=r:=oZ
  go_enter Tryz.func210,Tryz.ntmps210
  go_wp2
  go_ret
  exact⟨rfl,rfl⟩
 ·have h1:0<=r:=oZ
  have h3:¬ 57344<=r:=oZ
  have h4:¬ r<55296:=oZ
  go_enter Tryz.func210,Tryz.ntmps210
  go_wp2
  go_ret
  exact⟨rfl,rfl⟩
 ·have h1:0<=r:=oZ
  have h3:57344<=r:=oZ
  have h4:¬ r<55296:=oZ
  have h5:¬ r<=1114111:=oZ
  go_enter Tryz.func210,Tryz.ntmps210
  go_wp2
  go_ret
  exact⟨rfl,rfl⟩
theorem Py (w:World) (r:Int) (hM:∀ w,Calls Tryz.prog 210 #[.int .i32 r] w fun e w'=>e=.returned (.bool true)/\w=w') (h0:0<=r) (h1:r<128) :
  Calls Tryz.prog 193 #[.int .i32 r] w fun e w'=>e=.returned (.slice (some ⟨w.heap.size,0,none⟩) 1 1)/\w'=w.alloc (.cells #[.int .u8 (r)] 5):=by
 have HM:=hJ hM
 clear hM
 go_enter Tryz.func193,Tryz.ntmps193
 go_wp2_with (go_at_call 210;refine(HM.out _).mono ?_;rintro e w' ⟨rfl,rfl⟩)
 go_ret
 exact⟨rfl,rfl⟩
theorem O8 (w:World) (r:Int) (hM:∀ w,Calls Tryz.prog 210 #[.int .i32 r] w fun e w'=>e=.returned (.bool true)/\w=w') (h0:128<=r) (h1:r<2048) :
  Calls Tryz.prog 193 #[.int .i32 r] w fun e w'=>e=.returned (.slice (some ⟨w.heap.size,0,none⟩) 2 2)/\w'=w.alloc (.cells #[.int .u8 (192+r / 64),.int .u8 (128+r % 64)] 5):=by
 have HM:=hJ hM
 clear hM
 have n1:¬ r<128:=oZ
 go_enter Tryz.func193,Tryz.ntmps193
 go_wp2_with (go_at_call 210;refine(HM.out _).mono ?_;rintro e w' ⟨rfl,rfl⟩)
 go_ret
 exact⟨rfl,rfl⟩
theorem OE (w:World) (r:Int) (hM:∀ w,Calls Tryz.prog 210 #[.int .i32 r] w fun e w'=>e=.returned (.bool true)/\w=w') (h0:2048<=r) (h1:r<65536) :
  Calls Tryz.prog 193 #[.int .i32 r] w fun e w'=>e=.returned (.slice (some ⟨w.heap.size,0,none⟩) 3 3)/\w'=w.alloc (.cells #[.int .u8 (224+r / 4096),.int .u8 (128+r / 64 % 64),.int .u8 (128+r % 64)] 5):=by
 have HM:=hJ hM
 clear hM
 have n1:¬ r<128:=oZ
 have n2:¬ r<2048:=oZ
 go_enter Tryz.func193,Tryz.ntmps193
 go_wp2_with (go_at_call 210;refine(HM.out _).mono ?_;rintro e w' ⟨rfl,rfl⟩)
 go_ret
 exact⟨rfl,rfl⟩
theorem OI (w:World) (r:Int) (hM:∀ w,Calls Tryz.prog 210 #[.int .i32 r] w fun e w'=>e=.returned (.bool true)/\w=w') (h0:65536<=r) (h1:r<=1114111) :
  Calls Tryz.prog 193 #[.int .i32 r] w fun e w'=>e=.returned (.slice (some ⟨w.heap.size,0,none⟩) 4 4)/\w'=w.alloc (.cells #[.int .u8 (240+r / 262144),.int .u8 (128+r / 4096 % 64),.int .u8 (128+r / 64 % 64),.int .u8 (128+r % 64)] 5):=by
 have HM:=hJ hM
 clear hM
 have n1:¬ r<128:=oZ
 have n2:¬ r<2048:=oZ
 have n3:¬ r<65536:=oZ
 go_enter Tryz.func193,Tryz.ntmps193
 go_wp2_with (go_at_call 210;refine(HM.out _).mono ?_;rintro e w' ⟨rfl,rfl⟩)
 go_ret
 exact⟨rfl,rfl⟩
def BytesAt (w:World) (g:Nat) (l:List Nat):Prop:=w.heap[g]?=some (.cells (l.map fun(b:Nat)=>Value.int .u8 (b:Int)).toArray 5 (0,0))
def dS (r:Int):Nat:=if 0<=r/\okR r.toNat then r.toNat else 65533
theorem Ez (r:Int):okR (dS r):=by
 unfold dS
 split
 ·rename_i h;exact h.2
 ·exact .inr ⟨oZ,oZ⟩
theorem iP {n:Nat} (h:okR n):dS (n:Int)=n:=by
 unfold dS
 rw[if_pos ⟨oZ,by simpa using h⟩]
 simp
theorem tq (w:World) (n:Nat) (h:okR n):Calls Tryz.prog 193 #[.int .i32 n] w fun e w'=>∃ g,e=.returned (.slice (some ⟨g,0,none⟩) (encR n).length (encR n).length)/\BytesAt w' g (encR n)/\Below w.heap.size w w':=by
 have hM:=fun w=>xK w n h
 have hb:n<=1114111:=by unfold okR at h;omega
 have fin:∀ (m:Nat) (cs:Array Value),m=(encR n).length->((encR n).map fun(b:Nat)=>Value.int .u8 (b:Int)).toArray=cs->∀ (e:Ending) (w':World),(e=.returned (.slice (some ⟨w.heap.size,0,none⟩) m m)/\w'=w.alloc (.cells cs 5))->∃ g,e=.returned (.slice (some ⟨g,0,none⟩) (encR n).length (encR n).length)/\BytesAt w' g (encR n)/\Below w.heap.size w w':=by
  rintro m cs rfl rfl e w' ⟨rfl,rfl⟩
  exact⟨_,rfl,nZ w _,au⟩
 by_cases h1:n<128
 ·exact(Py w n hM oZ oZ).mono (fin 1 _ (by simp[encR,h1]) (by simp[encR,h1]))
 ·by_cases h2:n<2048
  ·exact(O8 w n hM oZ oZ).mono (fin 2 _ (by simp[encR,h1,h2]) (by simp[encR,h1,h2]))
  ·by_cases h3:n<65536
   ·exact(OE w n hM oZ oZ).mono (fin 3 _ (by simp[encR,h1,h2,h3]) (by simp[encR,h1,h2,h3]))
   ·exact(OI w n hM oZ oZ).mono (fin 4 _ (by simp[encR,h1,h2,h3]) (by simp[encR,h1,h2,h3]))
/-! ### The rune at a place -/
theorem uT {s:ByteArray} {i:Nat} (h:i<s.size):(s[i]'h).toNat=byteAt s i:=by
 unfold byteAt
 congr 1
 have:i<s.data.toList.length:=by simpa using h
 rw[List.getD_eq_getElem?_getD,gZ this]
 rfl
def atR (s:ByteArray) (i:Nat):Nat×Nat:=if bZ s i=(65533,1) then(0,0) else bZ s i
def Start (b n k:Nat):Prop:=(k=0/\128<=b/\(b<192∨248<=b))∨(k=2/\192<=b/\b<224/\n=b-192)∨(k=3/\224<=b/\b<240/\n=b-224)∨(k=4/\240<=b/\b<248/\n=b-240)
def vF (s:ByteArray) (i n0:Nat):Nat->Nat
 | 0=>n0
 | 1=>n0
 | j+2=>vF s i n0 (j+1)*64+byteAt s (i+(j+1)) % 64
def IE (s:ByteArray) (i j:Nat):Prop:=∀ t,1<=t->t<j->byteAt s (i+t) / 64=2
def QD (d n:Nat):Prop:=(d=0->n<=2097151)/\(d=1->n<=32767)/\(d=2->n<=511)/\(d=3->n<=7)
theorem JY {x:Nat} (h:x<2048):okR x:=by unfold okR;omega
theorem uB {s:ByteArray} {i n k:Nat} (h:Start (byteAt s i) n k) (hk:k=0∨s.size<i+k):atR s i=(0,0):=by
 unfold atR
 rw[if_pos]
 unfold bZ ou
 have ho:∀ j,s.size<=j->byteAt s j=0:=fun j hj=>x9 hj
 generalize byteAt s i=b at *
 rcases h with ⟨rfl,h1,h2⟩ | ⟨rfl,h1,h2,_⟩ | ⟨rfl,h1,h2,_⟩ | ⟨rfl,h1,h2,_⟩
 ·have e1:¬ b<128:=oZ
  have e2:¬ b / 32=6:=oZ
  have e3:¬ b / 16=14:=oZ
  have e4:¬ b / 8=30:=oZ
  simp[e1,e2,e3,e4]
 ·have e1:¬ b<128:=oZ
  have e3:¬ b / 16=14:=oZ
  have e4:¬ b / 8=30:=oZ
  simp[e1,e3,e4,ho (i+1) oZ]
 ·have e1:¬ b<128:=oZ
  have e2:¬ b / 32=6:=oZ
  have e4:¬ b / 8=30:=oZ
  simp[e1,e2,e4,ho (i+2) oZ]
 ·have e1:¬ b<128:=oZ
  have e2:¬ b / 32=6:=oZ
  have e3:¬ b / 16=14:=oZ
  simp[e1,e2,e3,ho (i+3) oZ]
theorem at_bad {s:ByteArray} {i n k j:Nat} (h:Start (byteAt s i) n k) (h1:1<=j) (hj:j<k) (hc:¬ byteAt s (i+j) / 64=2):atR s i=(0,0):=by
 unfold atR
 rw[if_pos]
 unfold bZ ou
 generalize byteAt s i=b at *
 rcases h with ⟨rfl,_⟩ | ⟨rfl,h1,h2,_⟩ | ⟨rfl,h1,h2,_⟩ | ⟨rfl,h1,h2,_⟩
 ·omega
 ·obtain rfl:j=1:=oZ
  have e1:¬ b<128:=oZ
  have e3:¬ b / 16=14:=oZ
  have e4:¬ b / 8=30:=oZ
  simp[e1,e3,e4,hc]
 ·have e1:¬ b<128:=oZ
  have e2:¬ b / 32=6:=oZ
  have e4:¬ b / 8=30:=oZ
  rcases (show j=1∨j=2 by omega) with rfl | rfl <;> simp[e1,e2,e4,hc]
 ·have e1:¬ b<128:=oZ
  have e2:¬ b / 32=6:=oZ
  have e3:¬ b / 16=14:=oZ
  rcases (show j=1∨j=2∨j=3 by omega) with rfl | rfl | rfl <;> simp[e1,e2,e3,hc]
theorem jh (n:Nat):(encR n).length=if n<128 then 1 else if n<2048 then 2 else if n<65536 then 3 else 4:=by
 unfold encR
 repeat' split
 all_goals rfl
theorem CV {s:ByteArray} {i n k:Nat} (h:Start (byteAt s i) n k) (hk:k≠0) (hc:IE s i k):atR s i=if okR (vF s i n k)/\(encR (vF s i n k)).length=k then(vF s i n k,k) else(0,0):=by
 unfold atR bZ ou
 have hb:∀ j,byteAt s j<256:=nR s
 have hb0:=hb i
 generalize byteAt s i=b at *
 rw[jh]
 rcases h with ⟨rfl,_⟩ | ⟨rfl,h1,h2,hn⟩ | ⟨rfl,h1,h2,hn⟩ | ⟨rfl,h1,h2,hn⟩
 ·exact absurd rfl hk
 ·have c1:=hc 1 oZ oZ
  have e1:¬ b<128:=oZ
  have e2:b / 32=6:=oZ
  have e3:b % 32*64+byteAt s (i+1) % 64=n*64+byteAt s (i+1) % 64:=oZ
  simp only[vF,Nat.zero_add,e1,e2,c1,and_self,if_true,if_false,e3]
  generalize hx:n*64+byteAt s (i+1) % 64=x
  have hx2:x<2048:=oZ
  by_cases h3:128<=x
  ·have h4:¬ x<128:=oZ
   have h5:okR x:=JY hx2
   simp[h3,h4,h5,hx2]
  ·have h4:x<128:=oZ
   simp[h3,h4]
 ·have c1:=hc 1 oZ oZ
  have c2:=hc 2 oZ oZ
  have e1:¬ b<128:=oZ
  have e2:¬ b / 32=6:=oZ
  have e2':b / 16=14:=oZ
  have e3:b % 16*4096+byteAt s (i+1) % 64*64+byteAt s (i+2) % 64=(n*64+byteAt s (i+1) % 64)*64+byteAt s (i+2) % 64:=oZ
  simp only[vF,Nat.zero_add,Nat.reduceAdd,e1,e2,e2',c1,c2,and_self,false_and,if_true,if_false,e3]
  generalize hx:(n*64+byteAt s (i+1) % 64)*64+byteAt s (i+2) % 64=x
  have hx2:x<65536:=oZ
  by_cases h3:2048<=x/\okR x
  ·have h4:¬ x<128:=oZ
   have h5:¬ x<2048:=oZ
   simp[h3,h4,h5,hx2]
  ·rw[if_neg h3]
   have h4:¬ (okR x/\(if x<128 then 1 else if x<2048 then 2 else if x<65536 then 3 else 4)=3):=by
    rintro⟨h5,h6⟩
    split at h6
    ·omega
    ·split at h6
     ·omega
     ·exact h3 ⟨oZ,h5⟩
   rw[if_neg h4]
   simp
 ·have c1:=hc 1 oZ oZ
  have c2:=hc 2 oZ oZ
  have c3:=hc 3 oZ oZ
  have e1:¬ b<128:=oZ
  have e2:¬ b / 32=6:=oZ
  have e2':¬ b / 16=14:=oZ
  have e2'':b / 8=30:=oZ
  have e3:b % 8*262144+byteAt s (i+1) % 64*4096+byteAt s (i+2) % 64*64+byteAt s (i+3) % 64=((n*64+byteAt s (i+1) % 64)*64+byteAt s (i+2) % 64)*64+byteAt s (i+3) % 64:=oZ
  simp only[vF,Nat.zero_add,Nat.reduceAdd,e1,e2,e2',e2'',c1,c2,c3,and_self,false_and,if_true,if_false,e3]
  generalize hx:((n*64+byteAt s (i+1) % 64)*64+byteAt s (i+2) % 64)*64+byteAt s (i+3) % 64=x
  by_cases h3:65536<=x/\okR x
  ·have h4:¬ x<128:=oZ
   have h5:¬ x<2048:=oZ
   have h6:¬ x<65536:=oZ
   simp[h3,h4,h5,h6]
  ·rw[if_neg h3]
   have h4:¬ (okR x/\(if x<128 then 1 else if x<2048 then 2 else if x<65536 then 3 else 4)=4):=by
    rintro⟨h5,h6⟩
    split at h6
    ·omega
    ·split at h6
     ·omega
     ·split at h6
      ·omega
      ·exact h3 ⟨oZ,h5⟩
   rw[if_neg h4]
   simp
theorem Qh {s:ByteArray} {i:Nat} (h:byteAt s i<128):atR s i=(byteAt s i,1):=by
 have e:bZ s i=(byteAt s i,1):=by unfold bZ ou;rw[if_pos h]
 unfold atR
 rw[e,if_neg]
 intro h2
 simp only[Prod.mk.injEq] at h2
 omega
theorem Qj (w:World) (s:ByteArray) (i:Nat) (hi:i<s.size) (hs:s.size<=maxLen) :
  Calls Tryz.prog 208 #[.string s,.int .i64 i] w fun e w'=>e=.returned (.tuple #[.int .i32 (atR s i).1,.int .i64 (atR s i).2])/\Below w.heap.size w w':=by
 unfold maxLen at hs
 have hg:(s[i]'hi).toNat=byteAt s i:=uT hi
 have e0:((s[i]'hi).toNat:Int)<=255:=by have:=nR s i;omega
 obtain⟨r,hr⟩:∃ r:Int,r=(atR s i).1:=⟨_,rfl⟩
 obtain⟨m,hm⟩:∃ m:Int,m=(atR s i).2:=⟨_,rfl⟩
 rw[<- hr,<- hm]
 have HR:=hJ (And.intro hr hm)
 have HG:=hJ hg
 clear hr hm hg
 go_enter Tryz.func208,Tryz.ntmps208
 go_upto_region 4 with fail
 generalize hb:((s[i]'hi).toNat:Int)=b
 have hb0:0<=b:=oZ
 have hb1:b<=255:=oZ
 have HB:=hJ (show b=(byteAt s i:Nat) by rw[<- hb,HG.out])
 clear hb e0 HG
 by_cases hlow:b<128
 ·have HV:=hJ (Qh (s:=s) (i:=i) (by have:=HB.out;omega))
  obtain rfl:r=b:=by rw[HR.out.1,HV.out,HB.out]
  obtain rfl:m=1:=by rw[HR.out.2,HV.out];rfl
  clear HR HB HV
  go_wp2_with fail
  go_ret2
  exact⟨rfl,Below.refl _ _⟩
 have hcase:b<192∨248<=b∨(192<=b/\b<224)∨(224<=b/\b<240)∨(240<=b/\b<248):=oZ
 rcases hcase with hcase | hcase | hcase | hcase | hcase
 ·have HV:=hJ (uB (s:=s) (i:=i) (n:=0) (k:=0) (.inl ⟨rfl,by have:=HB.out;omega,by have:=HB.out;omega⟩) (.inl rfl))
  obtain rfl:r=0:=by rw[HR.out.1,HV.out];rfl
  obtain rfl:m=0:=by rw[HR.out.2,HV.out];rfl
  have n2:¬ 192<=b:=oZ
  have n4:¬ 224<=b:=oZ
  have n5:¬ 240<=b:=oZ
  clear hcase HR HB HV
  go_wp2_with fail
  go_ret2
  exact⟨rfl,Below.refl _ _⟩
 ·have HV:=hJ (uB (s:=s) (i:=i) (n:=0) (k:=0) (.inl ⟨rfl,by have:=HB.out;omega,by have:=HB.out;omega⟩) (.inl rfl))
  obtain rfl:r=0:=by rw[HR.out.1,HV.out];rfl
  obtain rfl:m=0:=by rw[HR.out.2,HV.out];rfl
  have n2:192<=b:=oZ
  have n3:¬ b<224:=oZ
  have n4:224<=b:=oZ
  have n6:¬ b<240:=oZ
  have n5:240<=b:=oZ
  have n7:¬ b<248:=oZ
  clear hcase HR HB HV
  go_wp2_with fail
  go_ret2
  exact⟨rfl,Below.refl _ _⟩
 ·obtain⟨n,hn⟩:∃ n:Nat,(n:Int)=b-192:=⟨(b-192).toNat,oZ⟩
  have hS:Start (byteAt s i) n 2:=.inr (.inl ⟨rfl,by have:=HB.out;omega,by have:=HB.out;omega,by have:=HB.out;omega⟩)
  have n2:192<=b:=oZ
  have n3:b<224:=oZ
  have n4:¬ 224<=b:=oZ
  have n5:¬ 240<=b:=oZ
  have hnb:QD (2-1) n:=⟨fun h=>oZ,fun h=>oZ,fun h=>oZ,fun h=>oZ⟩
  have HS:=hJ hS
  have HNB:=hJ hnb
  clear hcase hS hnb
  go_upto_region 12 with fail
  rw[<- hn]
  clear HB hn hb0 hb1 hlow
  by_cases hsh:s.size<i+2
  ·have HV:=hJ (uB HS.out (.inr hsh))
   obtain rfl:r=0:=by rw[HR.out.1,HV.out];rfl
   obtain rfl:m=0:=by rw[HR.out.2,HV.out];rfl
   have hsh1:(s.size:Int)-(i:Int)<2:=oZ
   clear hsh HR HS HV HNB
   go_wp2_with fail
   go_ret2
   exact⟨rfl,Below.refl _ _⟩
  ·have hsh1:¬ (s.size:Int)-(i:Int)<2:=oZ
   have hsz:i+2<=s.size:=oZ
   clear hsh
   go_wp2_with fail
   go_loop [7,9] (fun v7 v9=>∃ (j n':Nat),1<=j/\j<=2/\v9=.int .i64 j/\v7=.int .i64 n'/\QD (2-j) n'/\n'=vF s i n j/\IE s i j) (fun _ v9=>2-(intOf v9).toNat)
   case atStart=>exact⟨1,n,oZ,oZ,rfl,rfl,HNB.out,rfl,fun t h1 h2=>oZ⟩
   case round =>
    obtain⟨j,n',hj1,hjK,rfl,rfl,hB,hacc,hco⟩:=hrel
    have HA:=hJ (And.intro hB (And.intro hacc hco))
    clear hB hacc hco
    by_cases hlt:j<2
    ·have hij:i+j<s.size:=oZ
     have hg:(s[i+j]'hij).toNat=byteAt s (i+j):=uT hij
     have e0:((s[i+j]'hij).toNat:Int)<=255:=by have:=nR s (i+j);omega
     have HG:=hJ hg
     have hn7:(n':Int)<=32767:=by
      obtain⟨_,b1,b2,b3⟩:=HA.out.1
      have:2-j=1∨2-j=2∨2-j=3:=oZ
      rcases this with h | h | h
      ·have:=b1 h;omega
      ·have:=b2 h;omega
      ·have:=b3 h;omega
     clear hg
     go_upto_region 18 with fail
     generalize hc:((s[i+j]'hij).toNat:Int)=c
     have hc0:0<=c:=oZ
     have hc1:c<=255:=oZ
     have HC:=hJ (show c=(byteAt s (i+j):Nat) by rw[<- hc,HG.out])
     clear hc e0 HG
     by_cases hbad:c<128∨191<c
     ·have HV:=hJ (at_bad HS.out hj1 hlt (by have:=HC.out;omega))
      obtain rfl:r=0:=by rw[HR.out.1,HV.out];rfl
      obtain rfl:m=0:=by rw[HR.out.2,HV.out];rfl
      clear HR HV HC HS HA
      rcases hbad with hbad | hbad
      ·go_wp2_with fail
       go_ret2
       exact⟨rfl,Below.refl _ _⟩
      ·have hbad2:¬ c<128:=oZ
       go_wp2_with fail
       go_ret2
       exact⟨rfl,Below.refl _ _⟩
     ·have hb2:¬ c<128:=oZ
      have hb3:¬ 191<c:=oZ
      clear hbad
      go_wp2_with fail
      go_round
      case rel =>
       obtain⟨b0,hacc,hco⟩:=HA.out
       have hC:=HC.out
       refine⟨j+1,n'*64+byteAt s (i+j) % 64,oZ,oZ,by go_num,?_,?_,?_,?_⟩
       ·have:(n':Int)*64+c-128=((n'*64+byteAt s (i+j) % 64:Nat):Int):=oZ
        rw[this]
       ·obtain⟨d0,d1,d2,d3⟩:=b0
        refine⟨fun h=>?_,fun h=>?_,fun h=>?_,fun h=>?_⟩
        ·have:=d1 oZ;omega
        ·have:=d2 oZ;omega
        ·have:=d3 oZ;omega
        ·omega
       ·obtain⟨j',rfl⟩:∃ j',j=j'+1:=⟨j-1,oZ⟩
        rw[vF,<- hacc]
       ·intro t h1 h2
        by_cases e:t<j
        ·exact hco t h1 e
        ·obtain rfl:t=j:=oZ
         omega
      case measure=>simp[intOf];omega
    ·obtain rfl:j=2:=oZ
     obtain⟨b0,hacc,hco⟩:=HA.out
     have hn7:(n':Int)<=2097151:=by have:=b0.1 oZ;omega
     have HG:=hJ (CV HS.out oZ hco)
     rw[<- hacc] at HG
     by_cases hok:okR n'
     ·have hlen:=jh n'
      obtain⟨le,hle⟩:∃ le,le=(encR n').length:=⟨_,rfl⟩
      have HBY:=hJ (show ∀ w:World,Calls Tryz.prog 193 #[.int .i32 n'] w fun e w'=>∃ g,e=.returned (.slice (some ⟨g,0,none⟩) le le)/\Below w.heap.size w w' from fun w=>by rw[hle];exact(tq w n' hok).mono fun _ _ ⟨g,h1,_,h3⟩=>⟨g,h1,h3⟩)
      have HMY:=hJ (fun w=>xK w n' hok)
      by_cases hk:le=2
      ·obtain rfl:r=n':=by rw[HR.out.1,HG.out,if_pos ⟨hok,by rw[<- hle];exact hk⟩]
       obtain rfl:m=2:=by rw[HR.out.2,HG.out,if_pos ⟨hok,by rw[<- hle];exact hk⟩];rfl
       have hk2:((le:Int) != 2)=false:=by simp[hk]
       clear HR HG HS HA b0 hacc hco hlen hle hk hok
       go_wp2_with (first
        | (go_at_call 210;refine(HMY.out _).mono ?_;rintro e w' ⟨rfl,rfl⟩)
        | (go_at_call 193;refine(HBY.out _).mono ?_;rintro e w2 ⟨g,rfl,hb2⟩;have HB2:=hJ hb2;clear hb2))
       go_ret2
       exact⟨rfl,HB2.out⟩
      ·have hne:¬ (okR n'/\(encR n').length=2):=fun h=>hk (hle.trans h.2)
       obtain rfl:r=0:=by rw[HR.out.1,HG.out,if_neg hne];rfl
       obtain rfl:m=0:=by rw[HR.out.2,HG.out,if_neg hne];rfl
       have hk2:((le:Int) != 2)=true:=by simp;omega
       clear HR HG HS HA b0 hacc hco hlen hle hk hok hne
       go_wp2_with (first
        | (go_at_call 210;refine(HMY.out _).mono ?_;rintro e w' ⟨rfl,rfl⟩)
        | (go_at_call 193;refine(HBY.out _).mono ?_;rintro e w2 ⟨g,rfl,hb2⟩;have HB2:=hJ hb2;clear hb2))
       go_ret2
       exact⟨rfl,HB2.out⟩
     ·have hne:¬ (okR n'/\(encR n').length=2):=fun h=>hok h.1
      obtain rfl:r=0:=by rw[HR.out.1,HG.out,if_neg hne];rfl
      obtain rfl:m=0:=by rw[HR.out.2,HG.out,if_neg hne];rfl
      have HMY:=hJ (fun w=>Hm w n' (fun h=>hok (by simpa using h.2)))
      clear HR HG HS HA b0 hacc hco hne hok
      go_wp2_with (go_at_call 210;refine(HMY.out _).mono ?_;rintro e w' ⟨rfl,rfl⟩)
      go_ret2
      exact⟨rfl,Below.refl _ _⟩
 ·obtain⟨n,hn⟩:∃ n:Nat,(n:Int)=b-224:=⟨(b-224).toNat,oZ⟩
  have hS:Start (byteAt s i) n 3:=.inr (.inr (.inl ⟨rfl,by have:=HB.out;omega,by have:=HB.out;omega,by have:=HB.out;omega⟩))
  have n2:192<=b:=oZ
  have n3:¬ b<224:=oZ
  have n4:224<=b:=oZ
  have n6:b<240:=oZ
  have n5:¬ 240<=b:=oZ
  have hnb:QD (3-1) n:=⟨fun h=>oZ,fun h=>oZ,fun h=>oZ,fun h=>oZ⟩
  have HS:=hJ hS
  have HNB:=hJ hnb
  clear hcase hS hnb
  go_upto_region 12 with fail
  rw[<- hn]
  clear HB hn hb0 hb1 hlow
  by_cases hsh:s.size<i+3
  ·have HV:=hJ (uB HS.out (.inr hsh))
   obtain rfl:r=0:=by rw[HR.out.1,HV.out];rfl
   obtain rfl:m=0:=by rw[HR.out.2,HV.out];rfl
   have hsh1:(s.size:Int)-(i:Int)<3:=oZ
   clear hsh HR HS HV HNB
   go_wp2_with fail
   go_ret2
   exact⟨rfl,Below.refl _ _⟩
  ·have hsh1:¬ (s.size:Int)-(i:Int)<3:=oZ
   have hsz:i+3<=s.size:=oZ
   clear hsh
   go_wp2_with fail
   go_loop [7,9] (fun v7 v9=>∃ (j n':Nat),1<=j/\j<=3/\v9=.int .i64 j/\v7=.int .i64 n'/\QD (3-j) n'/\n'=vF s i n j/\IE s i j) (fun _ v9=>3-(intOf v9).toNat)
   case atStart=>exact⟨1,n,oZ,oZ,rfl,rfl,HNB.out,rfl,fun t h1 h2=>oZ⟩
   case round =>
    obtain⟨j,n',hj1,hjK,rfl,rfl,hB,hacc,hco⟩:=hrel
    have HA:=hJ (And.intro hB (And.intro hacc hco))
    clear hB hacc hco
    by_cases hlt:j<3
    ·have hij:i+j<s.size:=oZ
     have hg:(s[i+j]'hij).toNat=byteAt s (i+j):=uT hij
     have e0:((s[i+j]'hij).toNat:Int)<=255:=by have:=nR s (i+j);omega
     have HG:=hJ hg
     have hn7:(n':Int)<=32767:=by
      obtain⟨_,b1,b2,b3⟩:=HA.out.1
      have:3-j=1∨3-j=2∨3-j=3:=oZ
      rcases this with h | h | h
      ·have:=b1 h;omega
      ·have:=b2 h;omega
      ·have:=b3 h;omega
     clear hg
     go_upto_region 18 with fail
     generalize hc:((s[i+j]'hij).toNat:Int)=c
     have hc0:0<=c:=oZ
     have hc1:c<=255:=oZ
     have HC:=hJ (show c=(byteAt s (i+j):Nat) by rw[<- hc,HG.out])
     clear hc e0 HG
     by_cases hbad:c<128∨191<c
     ·have HV:=hJ (at_bad HS.out hj1 hlt (by have:=HC.out;omega))
      obtain rfl:r=0:=by rw[HR.out.1,HV.out];rfl
      obtain rfl:m=0:=by rw[HR.out.2,HV.out];rfl
      clear HR HV HC HS HA
      rcases hbad with hbad | hbad
      ·go_wp2_with fail
       go_ret2
       exact⟨rfl,Below.refl _ _⟩
      ·have hbad2:¬ c<128:=oZ
       go_wp2_with fail
       go_ret2
       exact⟨rfl,Below.refl _ _⟩
     ·have hb2:¬ c<128:=oZ
      have hb3:¬ 191<c:=oZ
      clear hbad
      go_wp2_with fail
      go_round
      case rel =>
       obtain⟨b0,hacc,hco⟩:=HA.out
       have hC:=HC.out
       refine⟨j+1,n'*64+byteAt s (i+j) % 64,oZ,oZ,by go_num,?_,?_,?_,?_⟩
       ·have:(n':Int)*64+c-128=((n'*64+byteAt s (i+j) % 64:Nat):Int):=oZ
        rw[this]
       ·obtain⟨d0,d1,d2,d3⟩:=b0
        refine⟨fun h=>?_,fun h=>?_,fun h=>?_,fun h=>?_⟩
        ·have:=d1 oZ;omega
        ·have:=d2 oZ;omega
        ·have:=d3 oZ;omega
        ·omega
       ·obtain⟨j',rfl⟩:∃ j',j=j'+1:=⟨j-1,oZ⟩
        rw[vF,<- hacc]
       ·intro t h1 h2
        by_cases e:t<j
        ·exact hco t h1 e
        ·obtain rfl:t=j:=oZ
         omega
      case measure=>simp[intOf];omega
    ·obtain rfl:j=3:=oZ
     obtain⟨b0,hacc,hco⟩:=HA.out
     have hn7:(n':Int)<=2097151:=by have:=b0.1 oZ;omega
     have HG:=hJ (CV HS.out oZ hco)
     rw[<- hacc] at HG
     by_cases hok:okR n'
     ·have hlen:=jh n'
      obtain⟨le,hle⟩:∃ le,le=(encR n').length:=⟨_,rfl⟩
      have HBY:=hJ (show ∀ w:World,Calls Tryz.prog 193 #[.int .i32 n'] w fun e w'=>∃ g,e=.returned (.slice (some ⟨g,0,none⟩) le le)/\Below w.heap.size w w' from fun w=>by rw[hle];exact(tq w n' hok).mono fun _ _ ⟨g,h1,_,h3⟩=>⟨g,h1,h3⟩)
      have HMY:=hJ (fun w=>xK w n' hok)
      by_cases hk:le=3
      ·obtain rfl:r=n':=by rw[HR.out.1,HG.out,if_pos ⟨hok,by rw[<- hle];exact hk⟩]
       obtain rfl:m=3:=by rw[HR.out.2,HG.out,if_pos ⟨hok,by rw[<- hle];exact hk⟩];rfl
       have hk2:((le:Int) != 3)=false:=by simp[hk]
       clear HR HG HS HA b0 hacc hco hlen hle hk hok
       go_wp2_with (first
        | (go_at_call 210;refine(HMY.out _).mono ?_;rintro e w' ⟨rfl,rfl⟩)
        | (go_at_call 193;refine(HBY.out _).mono ?_;rintro e w2 ⟨g,rfl,hb2⟩;have HB2:=hJ hb2;clear hb2))
       go_ret2
       exact⟨rfl,HB2.out⟩
      ·have hne:¬ (okR n'/\(encR n').length=3):=fun h=>hk (hle.trans h.2)
       obtain rfl:r=0:=by rw[HR.out.1,HG.out,if_neg hne];rfl
       obtain rfl:m=0:=by rw[HR.out.2,HG.out,if_neg hne];rfl
       have hk2:((le:Int) != 3)=true:=by simp;omega
       clear HR HG HS HA b0 hacc hco hlen hle hk hok hne
       go_wp2_with (first
        | (go_at_call 210;refine(HMY.out _).mono ?_;rintro e w' ⟨rfl,rfl⟩)
        | (go_at_call 193;refine(HBY.out _).mono ?_;rintro e w2 ⟨g,rfl,hb2⟩;have HB2:=hJ hb2;clear hb2))
       go_ret2
       exact⟨rfl,HB2.out⟩
     ·have hne:¬ (okR n'/\(encR n').length=3):=fun h=>hok h.1
      obtain rfl:r=0:=by rw[HR.out.1,HG.out,if_neg hne];rfl
      obtain rfl:m=0:=by rw[HR.out.2,HG.out,if_neg hne];rfl
      have HMY:=hJ (fun w=>Hm w n' (fun h=>hok (by simpa using h.2)))
      clear HR HG HS HA b0 hacc hco hne hok
      go_wp2_with (go_at_call 210;refine(HMY.out _).mono ?_;rintro e w' ⟨rfl,rfl⟩)
      go_ret2
      exact⟨rfl,Below.refl _ _⟩
 ·obtain⟨n,hn⟩:∃ n:Nat,(n:Int)=b-240:=⟨(b-240).toNat,oZ⟩
  have hS:Start (byteAt s i) n 4:=.inr (.inr (.inr ⟨rfl,by have:=HB.out;omega,by have:=HB.out;omega,by have:=HB.out;omega⟩))
  have n2:192<=b:=oZ
  have n3:¬ b<224:=oZ
  have n4:224<=b:=oZ
  have n6:¬ b<240:=oZ
  have n5:240<=b:=oZ
  have n7:b<248:=oZ
  have hnb:QD (4-1) n:=⟨fun h=>oZ,fun h=>oZ,fun h=>oZ,fun h=>oZ⟩
  have HS:=hJ hS
  have HNB:=hJ hnb
  clear hcase hS hnb
  go_upto_region 12 with fail
  rw[<- hn]
  clear HB hn hb0 hb1 hlow
  by_cases hsh:s.size<i+4
  ·have HV:=hJ (uB HS.out (.inr hsh))
   obtain rfl:r=0:=by rw[HR.out.1,HV.out];rfl
   obtain rfl:m=0:=by rw[HR.out.2,HV.out];rfl
   have hsh1:(s.size:Int)-(i:Int)<4:=oZ
   clear hsh HR HS HV HNB
   go_wp2_with fail
   go_ret2
   exact⟨rfl,Below.refl _ _⟩
  ·have hsh1:¬ (s.size:Int)-(i:Int)<4:=oZ
   have hsz:i+4<=s.size:=oZ
   clear hsh
   go_wp2_with fail
   go_loop [7,9] (fun v7 v9=>∃ (j n':Nat),1<=j/\j<=4/\v9=.int .i64 j/\v7=.int .i64 n'/\QD (4-j) n'/\n'=vF s i n j/\IE s i j) (fun _ v9=>4-(intOf v9).toNat)
   case atStart=>exact⟨1,n,oZ,oZ,rfl,rfl,HNB.out,rfl,fun t h1 h2=>oZ⟩
   case round =>
    obtain⟨j,n',hj1,hjK,rfl,rfl,hB,hacc,hco⟩:=hrel
    have HA:=hJ (And.intro hB (And.intro hacc hco))
    clear hB hacc hco
    by_cases hlt:j<4
    ·have hij:i+j<s.size:=oZ
     have hg:(s[i+j]'hij).toNat=byteAt s (i+j):=uT hij
     have e0:((s[i+j]'hij).toNat:Int)<=255:=by have:=nR s (i+j);omega
     have HG:=hJ hg
     have hn7:(n':Int)<=32767:=by
      obtain⟨_,b1,b2,b3⟩:=HA.out.1
      have:4-j=1∨4-j=2∨4-j=3:=oZ
      rcases this with h | h | h
      ·have:=b1 h;omega
      ·have:=b2 h;omega
      ·have:=b3 h;omega
     clear hg
     go_upto_region 18 with fail
     generalize hc:((s[i+j]'hij).toNat:Int)=c
     have hc0:0<=c:=oZ
     have hc1:c<=255:=oZ
     have HC:=hJ (show c=(byteAt s (i+j):Nat) by rw[<- hc,HG.out])
     clear hc e0 HG
     by_cases hbad:c<128∨191<c
     ·have HV:=hJ (at_bad HS.out hj1 hlt (by have:=HC.out;omega))
      obtain rfl:r=0:=by rw[HR.out.1,HV.out];rfl
      obtain rfl:m=0:=by rw[HR.out.2,HV.out];rfl
      clear HR HV HC HS HA
      rcases hbad with hbad | hbad
      ·go_wp2_with fail
       go_ret2
       exact⟨rfl,Below.refl _ _⟩
      ·have hbad2:¬ c<128:=oZ
       go_wp2_with fail
       go_ret2
       exact⟨rfl,Below.refl _ _⟩
     ·have hb2:¬ c<128:=oZ
      have hb3:¬ 191<c:=oZ
      clear hbad
      go_wp2_with fail
      go_round
      case rel =>
       obtain⟨b0,hacc,hco⟩:=HA.out
       have hC:=HC.out
       refine⟨j+1,n'*64+byteAt s (i+j) % 64,oZ,oZ,by go_num,?_,?_,?_,?_⟩
       ·have:(n':Int)*64+c-128=((n'*64+byteAt s (i+j) % 64:Nat):Int):=oZ
        rw[this]
       ·obtain⟨d0,d1,d2,d3⟩:=b0
        refine⟨fun h=>?_,fun h=>?_,fun h=>?_,fun h=>?_⟩
        ·have:=d1 oZ;omega
        ·have:=d2 oZ;omega
        ·have:=d3 oZ;omega
        ·omega
       ·obtain⟨j',rfl⟩:∃ j',j=j'+1:=⟨j-1,oZ⟩
        rw[vF,<- hacc]
       ·intro t h1 h2
        by_cases e:t<j
        ·exact hco t h1 e
        ·obtain rfl:t=j:=oZ
         omega
      case measure=>simp[intOf];omega
    ·obtain rfl:j=4:=oZ
     obtain⟨b0,hacc,hco⟩:=HA.out
     have hn7:(n':Int)<=2097151:=by have:=b0.1 oZ;omega
     have HG:=hJ (CV HS.out oZ hco)
     rw[<- hacc] at HG
     by_cases hok:okR n'
     ·have hlen:=jh n'
      obtain⟨le,hle⟩:∃ le,le=(encR n').length:=⟨_,rfl⟩
      have HBY:=hJ (show ∀ w:World,Calls Tryz.prog 193 #[.int .i32 n'] w fun e w'=>∃ g,e=.returned (.slice (some ⟨g,0,none⟩) le le)/\Below w.heap.size w w' from fun w=>by rw[hle];exact(tq w n' hok).mono fun _ _ ⟨g,h1,_,h3⟩=>⟨g,h1,h3⟩)
      have HMY:=hJ (fun w=>xK w n' hok)
      by_cases hk:le=4
      ·obtain rfl:r=n':=by rw[HR.out.1,HG.out,if_pos ⟨hok,by rw[<- hle];exact hk⟩]
       obtain rfl:m=4:=by rw[HR.out.2,HG.out,if_pos ⟨hok,by rw[<- hle];exact hk⟩];rfl
       have hk2:((le:Int) != 4)=false:=by simp[hk]
       clear HR HG HS HA b0 hacc hco hlen hle hk hok
       go_wp2_with (first
        | (go_at_call 210;refine(HMY.out _).mono ?_;rintro e w' ⟨rfl,rfl⟩)
        | (go_at_call 193;refine(HBY.out _).mono ?_;rintro e w2 ⟨g,rfl,hb2⟩;have HB2:=hJ hb2;clear hb2))
       go_ret2
       exact⟨rfl,HB2.out⟩
      ·have hne:¬ (okR n'/\(encR n').length=4):=fun h=>hk (hle.trans h.2)
       obtain rfl:r=0:=by rw[HR.out.1,HG.out,if_neg hne];rfl
       obtain rfl:m=0:=by rw[HR.out.2,HG.out,if_neg hne];rfl
       have hk2:((le:Int) != 4)=true:=by simp;omega
       clear HR HG HS HA b0 hacc hco hlen hle hk hok hne
       go_wp2_with (first
        | (go_at_call 210;refine(HMY.out _).mono ?_;rintro e w' ⟨rfl,rfl⟩)
        | (go_at_call 193;refine(HBY.out _).mono ?_;rintro e w2 ⟨g,rfl,hb2⟩;have HB2:=hJ hb2;clear hb2))
       go_ret2
       exact⟨rfl,HB2.out⟩
     ·have hne:¬ (okR n'/\(encR n').length=4):=fun h=>hok h.1
      obtain rfl:r=0:=by rw[HR.out.1,HG.out,if_neg hne];rfl
      obtain rfl:m=0:=by rw[HR.out.2,HG.out,if_neg hne];rfl
      have HMY:=hJ (fun w=>Hm w n' (fun h=>hok (by simpa using h.2)))
      clear HR HG HS HA b0 hacc hco hne hok
      go_wp2_with (go_at_call 210;refine(HMY.out _).mono ?_;rintro e w' ⟨rfl,rfl⟩)
      go_ret2
      exact⟨rfl,Below.refl _ _⟩
theorem Gp (s:ByteArray) (i:Nat):(ax s).getD i 0=byteAt s i:=by
 unfold ax byteAt
 rw[List.getD_eq_getElem?_getD,List.getD_eq_getElem?_getD,List.getElem?_map]
 cases h:s.data.toList[i]? <;> simp
theorem zf (s:ByteArray) (i:Nat):pY ((ax s).drop i)=bZ s i:=by
 unfold pY bZ
 have h:∀ j,((ax s).drop i).getD j 0=byteAt s (i+j):=by
  intro j
  rw[<- Gp]
  simp[List.getD_eq_getElem?_getD]
 rw[h 0,h 1,h 2,h 3]
 rfl
def runesOf (s:ByteArray):List Nat:=runesL (ax s)
theorem oh {s:ByteArray} {i:Nat} (h:i<s.size):runesL ((ax s).drop i)=(bZ s i).1 :: runesL ((ax s).drop (i+(bZ s i).2)):=by
 have hne:(ax s).drop i≠[]:=by
  intro e
  have:=congrArg List.length e
  simp[aG] at this
  omega
 rw[mJ hne,zf,List.drop_drop]
theorem nN {s:ByteArray} {i:Nat} (h:i<s.size):1<=(bZ s i).2/\i+(bZ s i).2<=s.size/\(bZ s i).2<=4:=by
 have hne:(ax s).drop i≠[]:=by
  intro e
  have:=congrArg List.length e
  simp[aG] at this
  omega
 have h1:=nP ((ax s).drop i)
 have h2:=Ic ((ax s).drop i) hne
 rw[zf] at h1 h2
 simp[aG] at h2
 omega
def jJ (w:World) (base:Nat) (v:Value) (l:List Nat):Prop:=w.ownsRow base 21 1 v l.length (l.map fun(r:Nat)=>Value.int .i32 (r:Int))
theorem yh:(Tryz.prog.info? 21).map (fun i=>(i.zero,i.size,i.bytes))=some (some (.int .i32 0),1,4):=kZ
theorem sN (w:World) (e:TypeId) (size:Nat):(w.alloc (.cells #[] e)).ownsRow w.heap.size e size (.slice (some ⟨w.heap.size,0,none⟩) 0 0) 0 [] :=
 World.ownsRow_lit (base:=w.heap.size) (e:=e) (size:=size) w #[] 0 (Nat.le_refl _) dZ sZ
theorem sV {w w1 w2:World} {v v':Value} {l:List Nat} {r:Nat} {o:Obj} (hl:Below w.heap.size w w1) (hr:jJ w1 w.heap.size v l) (ho:w2.ownsRow w.heap.size 21 1 v' (l.length+1) (l.map (fun(r:Nat)=>Value.int .i32 (r:Int))++[.int .i32 r])) (hg:(w1.alloc o).grownBy w2 v.ownBlock) :
  jJ w2 w.heap.size v' (l++[r])/\Below w.heap.size w w2 :=
 ⟨by unfold jJ;simpa using ho,(hl.alloc hl.size _).grown hg (by have:=hl.size;simp;omega) (fun k hk=>(World.ownsRow.lt hr k hk).1)⟩
theorem Jp (w:World) (s:ByteArray) (hs:s.size<=1000000) :
  Calls Tryz.prog 191 #[.string s] w fun e w'=>∃ v,e=.returned v/\v≠.slice none 0 0/\jJ w' w.heap.size v (runesOf s)/\Below w.heap.size w w':=by
 obtain⟨i0,hi,hz0,hz1,hz2⟩:=info_parts yh
 have HI:=hJ (And.intro hi (And.intro hz0 (And.intro hz1 hz2)))
 have HL:=hJ (wI (ax s)).1
 clear hi hz0 hz1 hz2
 go_enter Tryz.func191,Tryz.ntmps191
 go_wp2_with fail
 go_loopw [3,4] (fun v iv wr=>∃ (i:Nat) (l:List Nat),i<=s.size/\iv=.int .i64 i/\runesOf s=l++runesL ((ax s).drop i)/\v≠.slice none 0 0/\jJ wr w.heap.size v l/\Below w.heap.size w wr) (fun _ iv _=>s.size-(intOf iv).toNat)
 case atStart=>exact⟨0,[],oZ,rfl,by simp[runesOf],sZ,sN w _ _,au⟩
 case round =>
  obtain⟨i,l,hi,rfl,hl,hnn,hown,hlow⟩:=hrel
  by_cases hlt:i<s.size
  ·have hd:=nN hlt
   have HD:=hJ (oh hlt)
   have HS:=hJ hl
   have HO:=hJ hown
   have HW:=hJ hlow
   have hll:l.length<=1000000:=by have:=congrArg List.length hl;have:=HL.out;rw[aG] at this;simp[runesOf] at *;omega
   obtain⟨r,hr⟩:∃ r,r=(bZ s i).1:=⟨_,rfl⟩
   obtain⟨k,hk⟩:∃ k,k=(bZ s i).2:=⟨_,rfl⟩
   rw[<- hk] at hd
   have HRK:=hJ (And.intro hr hk)
   have hlt1:(i:Int)<(s.size:Int):=oZ
   have hcall:∀ w:World,Calls Tryz.prog 208 #[.string s,.int .i64 i] w fun e w'=>e=.returned (.tuple #[.int .i32 (atR s i).1,.int .i64 (atR s i).2])/\Below w.heap.size w w':=fun w=>Qj w s i hlt mZ
   obtain⟨hd1,hd2,hd3⟩:=hd
   by_cases hz:bZ s i=(65533,1)
   ·have e:atR s i=(0,0):=by unfold atR;rw[if_pos hz]
    rw[e] at hcall
    have HC:=hJ hcall
    obtain rfl:r=65533:=by rw[hr,hz]
    obtain rfl:k=1:=by rw[hk,hz]
    clear hcall hl hown hlow hr hk hz e
    go_wp2_with fail
    refine(HC.out _).mono ?_;rintro e w2 ⟨rfl,hb2⟩
    have HO:=hJ (show jJ w2 _ _ l from aA HO.out hb2)
    have HW:=hJ (HW.out.trans (hb2.mono HW.out.size))
    clear hb2
    go_wp2_with (at_builtin;refine wpList_append_own _ rfl (.tmp 20) (.tmp 22) 259 rfl w.heap.size 21 i0 _ 1 4 Tryz.underlying259 HI.out.1 HI.out.2.1 HI.out.2.2.1 HI.out.2.2.2 rfl dZ _ l.length (l.map fun(r:Nat)=>Value.int .i32 (r:Int)) rfl (World.ownsRow.alloc HO.out _) ⟨w2.heap.size,0,none⟩ 1 1 [.int .i32 65533] rfl rfl one_cell vZ mZ oZ (by have:=HW.out.size;simp;omega) ?_;intro v' w5 ho hg hn';have HN5:=hJ (fun h=>absurd (hn'.1 h).2 dZ:v'≠.slice none 0 0);have HO5:=hJ (sV (r:=65533) HW.out HO.out ho hg);clear ho hg hn')
    go_roundw
    case rel =>
     refine⟨i+1,l++[65533],oZ,by go_num,?_,HN5.out,HO5.out.1,HO5.out.2⟩
     rw[HS.out,HD.out,<- HRK.out.1,<- HRK.out.2]
     simp
    case measure=>simp[intOf];omega
   ·have e:atR s i=(r,k):=by unfold atR;rw[if_neg hz,hr,hk]
    rw[e] at hcall
    have HC:=hJ hcall
    have hk0:((k:Int)==0)=false:=by simp;omega
    clear hcall hl hown hlow hr hk hz e
    go_wp2_with fail
    refine(HC.out _).mono ?_;rintro e w2 ⟨rfl,hb2⟩
    have HO:=hJ (show jJ w2 _ _ l from aA HO.out hb2)
    have HW:=hJ (HW.out.trans (hb2.mono HW.out.size))
    clear hb2
    go_wp2_with (at_builtin;refine wpList_append_own _ rfl (.tmp 20) (.tmp 22) 259 rfl w.heap.size 21 i0 _ 1 4 Tryz.underlying259 HI.out.1 HI.out.2.1 HI.out.2.2.1 HI.out.2.2.2 rfl dZ _ l.length (l.map fun(r:Nat)=>Value.int .i32 (r:Int)) rfl (World.ownsRow.alloc HO.out _) ⟨w2.heap.size,0,none⟩ 1 1 [.int .i32 r] rfl rfl one_cell vZ mZ oZ (by have:=HW.out.size;simp;omega) ?_;intro v' w5 ho hg hn';have HN5:=hJ (fun h=>absurd (hn'.1 h).2 dZ:v'≠.slice none 0 0);have HO5:=hJ (sV (r:=r) HW.out HO.out ho hg);clear ho hg hn')
    go_roundw
    case rel =>
     refine⟨i+k,l++[r],oZ,by go_num,?_,HN5.out,HO5.out.1,HO5.out.2⟩
     rw[HS.out,HD.out,<- HRK.out.1,<- HRK.out.2]
     simp
    case measure=>simp[intOf];omega
  ·go_wp2_with fail
   go_ret
   refine⟨_,rfl,hnn,?_,hlow⟩
   have:runesOf s=l:=by
    rw[hl,List.drop_eq_nil_of_le (by rw[aG];omega)]
    simp[kE]
   rw[this]
   exact hown
end Go.Proofs.YtlfndoclbebdaaaGreatDoor
