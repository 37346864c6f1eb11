/-
 What stage 12 rests on.
-/
import Derived.Test.YtlfndoclbebdaaaGreatDoorWrErA1
import Derived.Laws.CopyOwn
import Derived.Laws.RangeAny
import Derived.Laws.Runes
set_option maxRecDepth 100000
set_option maxHeartbeats 16000000
namespace Go.Proofs.YtlfndoclbebdaaaGreatDoor
open Go.RowKit
structure dD (w:World) (b c:Nat) (cs:List Int) (l s:Int):Prop where
 rec_:w.heap[b]?=some (.cells #[.slice (some ⟨c,0,none⟩) cs.length cs.length,.int .i64 l,.int .i64 s] 129 (0,0))
 row:w.heap[c]?=some (.cells (cs.map (Value.int .u32)).toArray 32 (0,0))
theorem dD.ne {w:World} {b c:Nat} {cs:List Int} {l s:Int} (h:dD w b c cs l s):b≠c:=by
 rintro rfl
 have:=h.rec_.symm.trans h.row
 simp at this
theorem dD.eY {w w':World} {b c:Nat} {cs:List Int} {l s:Int} (h:dD w b c cs l s) (hb:w'.heap[b]?=w.heap[b]?) (hc:w'.heap[c]?=w.heap[c]?):dD w' b c cs l s:=⟨hb.trans h.rec_,hc.trans h.row⟩
theorem dD.mod {w w':World} {b c:Nat} {cs:List Int} {l s:Int} (h:dD w b c cs l s) {S:Nat->Prop} (hm:bI S w w') (hb:¬ S b) (hc:¬ S c):dD w' b c cs l s :=
 h.eY (hm.block b (lt_of_heap h.rec_) hb) (hm.block c (lt_of_heap h.row) hc)
theorem dD.below {w w':World} {b c:Nat} {cs:List Int} {l s:Int} (h:dD w b c cs l s) (hm:Below w.heap.size w w'):dD w' b c cs l s :=
 h.eY (hm.block b (lt_of_heap h.rec_)) (hm.block c (lt_of_heap h.row))
theorem dD.loaded {w:World} {b c:Nat} {cs:List Int} {l s:Int} (h:dD w b c cs l s) (l':Int):dD (w.setCell ⟨b,1,none⟩ (.int .i64 l')) b c cs l' s:=by
 refine⟨?_,?_⟩
 ·rw[heap_setCell_same _ _ _ _ _ _ h.rec_];rfl
 ·rw[Below.heap_setCell _ _ _ _ h.ne.symm];exact h.row
theorem dD.counted {w:World} {b c:Nat} {cs:List Int} {l s:Int} (h:dD w b c cs l s) (s':Int):dD (w.setCell ⟨b,2,none⟩ (.int .i64 s')) b c cs l s':=by
 refine⟨?_,?_⟩
 ·rw[heap_setCell_same _ _ _ _ _ _ h.rec_];rfl
 ·rw[Below.heap_setCell _ _ _ _ h.ne.symm];exact h.row
theorem dD.stored {w:World} {b c:Nat} {cs:List Int} {l s:Int} (h:dD w b c cs l s) (a:Nat) (v:Int):dD (w.setCell ⟨c,a,none⟩ (.int .u32 v)) b c (cs.set a v) l s:=by
 refine⟨?_,?_⟩
 ·rw[Below.heap_setCell _ _ _ _ h.ne];simpa using h.rec_
 ·rw[heap_setCell_same _ _ _ _ _ _ h.row];simp[List.map_set]
theorem EK:(Tryz.prog.info? 32).map (fun i=>(i.zero,i.size,i.bytes))=some (some (.int .u32 0),1,4):=kZ
theorem MR (n:Nat):madeCells (Value.cells (.int .u32 0)) n=((List.replicate n (0:Int)).map (Value.int .u32)).toArray:=by
 apply Array.ext
 ·simp[madeCells]
 ·intro i h1 h2
  simp[madeCells,Value.cells]
  simp[Nat.mod_one]
theorem ul (n:Nat) (h2:n<=65536) (w:World):(Instr.makeSlice 47 (.int .i64 n) (.int .i64 n)).run Tryz.prog w=.ok (.slice (some ⟨w.heap.size,0,none⟩) n n) (w.alloc (.cells (Array.replicate n (Value.int .u32 0)) 32)):=by
 obtain⟨i0,hi,hz0,hz1,hz2⟩:=info_parts EK
 have:=run_make (P:=Tryz.prog) w 47 32 i0 _ Tryz.underlying47 hi hz0 .i64 .i64 n n oZ oZ (by rw[hz2];omega) oZ
 rw[this,hz1,MR];simp
theorem L9:(Tryz.prog.info? 32).map (·.size)=some 1:=kZ
/-! ### The calls -/
theorem Qc (w:World) (n:Nat) (h1:1<=n) (h2:n<=65536) :
  Calls Tryz.prog 34 #[.int .i64 n] w fun e w'=>e=.returned (.tuple #[.pointer (some ⟨w.heap.size+1,0,none⟩),.int .i64 0])/\dD w' (w.heap.size+1) w.heap.size (List.replicate n 0) 0 0/\Below w.heap.size w w':=by
 have hmk:=ul n h2
 go_enter Tryz.func34,Tryz.ntmps34
 go_wp2
 go_ret2
 refine⟨rfl,⟨?_,?_⟩,((Below.refl _ _).alloc (Nat.le_refl _) _).alloc sZ _⟩
 ·simpa using nZ (w.alloc (.cells (Array.replicate n (Value.int .u32 0)) 32)) (.cells #[.slice (some ⟨w.heap.size,0,none⟩) n n,.int .i64 0,.int .i64 0] 129)
 ·rw[Below.heap_alloc _ _ _ sZ];simpa using nZ w (.cells (Array.replicate n (Value.int .u32 0)) 32)
theorem dD.c0 {w:World} {b c:Nat} {cs:List Int} {l s:Int} (h:dD w b c cs l s):w.cell? ⟨b,0,none⟩=some (.slice (some ⟨c,0,none⟩) cs.length cs.length):=ae h.rec_ 0
theorem dD.c1 {w:World} {b c:Nat} {cs:List Int} {l s:Int} (h:dD w b c cs l s):w.cell? ⟨b,1,none⟩=some (.int .i64 l):=ae h.rec_ 1
theorem dD.c2 {w:World} {b c:Nat} {cs:List Int} {l s:Int} (h:dD w b c cs l s):w.cell? ⟨b,2,none⟩=some (.int .i64 s):=ae h.rec_ 2
theorem dD.at_ {w:World} {b c:Nat} {cs:List Int} {l s:Int} (h:dD w b c cs l s) {a:Nat} (ha:a<cs.length):w.cell? ⟨c,a,none⟩=some (.int .u32 cs[a]):=by rw[ae h.row a];simp[ha]
theorem yx {w:World} {b c:Nat} {cs:List Int} {l s:Int} (h:dD w b c cs l s) :
  Calls Tryz.prog 64 #[.pointer (some ⟨b,0,none⟩)] w fun e w'=>e=.returned (.int .i64 cs.length)/\w=w':=by
 have h0:=h.c0
 go_enter Tryz.func64,Tryz.ntmps64
 go_wp2
 go_ret
 exact⟨rfl,rfl⟩
theorem Kt {w:World} {b c:Nat} {cs:List Int} {l s:Int} (h:dD w b c cs l s) :
  Calls Tryz.prog 30 #[.pointer (some ⟨b,0,none⟩)] w fun e w'=>e=.returned (.int .i64 s)/\w=w':=by
 have h0:=h.c2
 go_enter Tryz.func30,Tryz.ntmps30
 go_wp2
 go_ret
 exact⟨rfl,rfl⟩
theorem LP {w:World} {b c:Nat} {cs:List Int} {l s:Int} (h:dD w b c cs l s) (a:Nat) (ha:a<cs.length) :
  Calls Tryz.prog 60 #[.pointer (some ⟨b,0,none⟩),.int .i64 a] w fun e w'=>e=.returned (.bool true)/\w=w':=by
 have hd:decide ((a:Int)<(cs.length:Int))=true:=by simpa using ha
 go_enter Tryz.func60,Tryz.ntmps60
 go_wp2_with (go_at_call 64;refine(yx h).mono ?_;rintro e w' ⟨rfl,rfl⟩)
 go_ret
 exact⟨sZ,rfl⟩
theorem Iz {w:World} {b c:Nat} {cs:List Int} {l s:Int} (h:dD w b c cs l s) (a:Int) (ha:a<0∨cs.length<=a) :
  Calls Tryz.prog 60 #[.pointer (some ⟨b,0,none⟩),.int .i64 a] w fun e w'=>e=.returned (.bool false)/\w=w':=by
 by_cases h0:a<0
 ·go_enter Tryz.func60,Tryz.ntmps60
  go_wp2_with (go_at_call 64;refine(yx h).mono ?_;rintro e w' ⟨rfl,rfl⟩)
  go_ret
  exact⟨rfl,rfl⟩
 ·have ha':0<=a:=oZ
  have hd:decide (a<(cs.length:Int))=false:=by simp;omega
  go_enter Tryz.func60,Tryz.ntmps60
  go_wp2_with (go_at_call 64;refine(yx h).mono ?_;rintro e w' ⟨rfl,rfl⟩)
  go_ret
  exact⟨sZ,rfl⟩
theorem O6 {w:World} {b c:Nat} {cs:List Int} {l s:Int} (h:dD w b c cs l s) (a:Nat) (ha:a<cs.length) (hl0:0<=l) (hl:l<1000000000) :
  Calls Tryz.prog 23 #[.pointer (some ⟨b,0,none⟩),.int .i64 a] w fun e w'=>e=.returned (.tuple #[.int .u32 cs[a],.int .i64 0])/\dD w' b c cs (l+1) s/\bI (·=b) w w':=by
 have h0:=h.c0
 have h1:=h.c1
 have f1:=free_at h.rec_ 1
 have h2:=h.at_ ha
 have hne:¬ c=b:=fun e=>h.ne e.symm
 go_enter Tryz.func23,Tryz.ntmps23
 go_wp2_with (go_at_call 60;refine(LP h a ha).mono ?_;rintro e w' ⟨rfl,rfl⟩)
 go_ret2
 exact⟨rfl,h.loaded _,bI.setCell (S:=fun k=>k=b) (bI.refl _ _) (.inr rfl) _⟩
theorem Lr {w:World} {b c:Nat} {cs:List Int} {l s:Int} (h:dD w b c cs l s) (a:Int) (ha:a<0∨cs.length<=a) :
  Calls Tryz.prog 23 #[.pointer (some ⟨b,0,none⟩),.int .i64 a] w fun e w'=>e=.returned (.tuple #[.int .u32 0,.int .i64 2])/\w=w':=by
 go_enter Tryz.func23,Tryz.ntmps23
 go_wp2_with (go_at_call 60;refine(Iz h a ha).mono ?_;rintro e w' ⟨rfl,rfl⟩)
 go_ret2
 exact⟨rfl,rfl⟩
theorem nH {w:World} {b c:Nat} {cs:List Int} {l s:Int} (h:dD w b c cs l s) (a:Nat) (v:Int) (ha:a<cs.length) (hs0:0<=s) (hs:s<1000000000) :
  Calls Tryz.prog 66 #[.pointer (some ⟨b,0,none⟩),.int .i64 a,.int .u32 v] w fun e w'=>e=.returned (.int .i64 0)/\dD w' b c (cs.set a v) l (s+1)/\bI (fun k=>k=b∨k=c) w w':=by
 have h0:=h.c0
 have h1:=h.c2
 have f1:=free_at h.rec_ 2
 have h2:=h.at_ ha
 have f2:=free_at h.row a
 have hne:¬ c=b:=fun e=>h.ne e.symm
 go_enter Tryz.func66,Tryz.ntmps66
 go_wp2_with (go_at_call 60;refine(LP h a ha).mono ?_;rintro e w' ⟨rfl,rfl⟩)
 go_ret
 exact⟨rfl,(h.counted _).stored _ _,bI.setCell (S:=fun k=>k=b∨k=c) (bI.setCell (S:=fun k=>k=b∨k=c) (bI.refl _ _) (.inr (.inl rfl)) _) (.inr (.inr rfl)) _⟩
theorem JG {w:World} {b c:Nat} {cs:List Int} {l s:Int} (h:dD w b c cs l s) (a v:Int) (ha:a<0∨cs.length<=a) :
  Calls Tryz.prog 66 #[.pointer (some ⟨b,0,none⟩),.int .i64 a,.int .u32 v] w fun e w'=>e=.returned (.int .i64 2)/\w=w':=by
 go_enter Tryz.func66,Tryz.ntmps66
 go_wp2_with (go_at_call 60;refine(Iz h a ha).mono ?_;rintro e w' ⟨rfl,rfl⟩)
 go_ret
 exact⟨rfl,rfl⟩
/-! ### What all hold: a copy -/
theorem cells_at {w:World} {b c:Nat} {cs:List Int} {l s:Int} (h:dD w b c cs l s) (hn:cs.length<=65536) :
  Calls Tryz.prog 25 #[.pointer (some ⟨b,0,none⟩)] w fun e w'=>e=.returned (.slice (some ⟨w.heap.size,0,none⟩) cs.length cs.length) /\
   w'.heap[w.heap.size]?=some (.cells (cs.map (Value.int .u32)).toArray 32 (0,0))/\Below w.heap.size w w':=by
 have h0:=h.c0
 have hmk:=ul cs.length hn
 have hbl:=lt_of_heap h.rec_
 have hrl:=lt_of_heap h.row
 have hnew:(w.alloc (.cells (Array.replicate cs.length (Value.int .u32 0)) 32)).heap[w.heap.size]?=some (.cells (List.replicate cs.length (Value.int .u32 0)).toArray 32 (0,0)):=by
  simpa using nZ w (.cells (Array.replicate cs.length (Value.int .u32 0)) 32)
 have HN:=hJ hnew
 have hrow:∀ (j:Nat) (v:Value),(cs.map (Value.int .u32))[j]?=some v->(w.alloc (.cells (Array.replicate cs.length (Value.int .u32 0)) 32)).cell? ((⟨c,0,none⟩:Addr).add j)=some v:=by
  intro j v hj
  rw[Addr.add_lit,Nat.zero_add,World.cell?_of_block (w:=w) (Below.heap_alloc w _ c hrl),ae h.row]
  simpa using hj
 have HR:=hJ hrow
 clear hnew hrow
 have H1:=hJ (show (cs.map (Value.int .u32)).length=Nat.min cs.length cs.length by simp)
 have H3:=hJ (show 0+(cs.map (Value.int .u32)).length<=(List.replicate cs.length (Value.int .u32 0)).length by simp)
 have H4:=hJ (show ∀ v∈cs.map (Value.int .u32),v.oneCell'=true by simp[Value.oneCell'])
 go_enter Tryz.func25,Tryz.ntmps25
 go_wp2_with (with_reducible refine wpList_copy_splice rfl (.tmp 12) (.tmp 16) 47 47 rfl 32 Tryz.underlying47 L9 _ _ _ _ _ _ rfl rfl w.heap.size 0 _ 32 HN.out (cs.map (Value.int .u32)) H1.out (fun _=>⟨rfl,_,rfl,HR.out⟩) H3.out H4.out w.heap.size w ((Below.refl _ _).alloc (Nat.le_refl _) _) (Nat.le_refl _) ?_;intro w2 hg2 hb2)
 go_ret
 refine⟨rfl,?_,hb2⟩
 have:=hg2.out
 simpa [splice] using this
/-! ### A nil memory -/
def okR (x:Nat):Prop:=x<55296∨(57344<=x/\x<=1114111)
instance (x:Nat):Decidable (okR x):=by unfold okR;exact inferInstance
def ou (a b c d:Nat):Nat×Nat :=
 if a<128 then(a,1)
 else if a / 32=6/\b / 64=2 then(if 128<=a % 32*64+b % 64 then(a % 32*64+b % 64,2) else(65533,1))
 else if a / 16=14/\b / 64=2/\c / 64=2 then(if 2048<=a % 16*4096+b % 64*64+c % 64/\okR (a % 16*4096+b % 64*64+c % 64) then(a % 16*4096+b % 64*64+c % 64,3) else(65533,1))
 else if a / 8=30/\b / 64=2/\c / 64=2/\d / 64=2 then(if 65536<=a % 8*262144+b % 64*4096+c % 64*64+d % 64/\okR (a % 8*262144+b % 64*4096+c % 64*64+d % 64) then(a % 8*262144+b % 64*4096+c % 64*64+d % 64,4) else(65533,1))
 else(65533,1)
def encR (r:Nat):List Nat :=
 if r<128 then [r] else if r<2048 then [192+r / 64,128+r % 64] else if r<65536 then [224+r / 4096,128+r / 64 % 64,128+r % 64] else [240+r / 262144,128+r / 4096 % 64,128+r / 64 % 64,128+r % 64]
theorem Oy (a b c d:Nat):1<=(ou a b c d).2/\(ou a b c d).2<=4:=by
 unfold ou
 repeat' split
 all_goals exact⟨sZ,sZ⟩
theorem I4 (a b c d:Nat):okR (ou a b c d).1:=by
 unfold ou
 repeat' split
 all_goals (unfold okR at *;simp only;omega)
theorem Nz {r:Nat} (h:okR r) (x y z:Nat):ou ((encR r++[x,y,z]).getD 0 0) ((encR r++[x,y,z]).getD 1 0) ((encR r++[x,y,z]).getD 2 0) ((encR r++[x,y,z]).getD 3 0)=(r,(encR r).length):=by
 unfold encR
 split
 ·rename_i h1;simp[ou,h1]
 ·split
  ·simp only[List.cons_append,List.nil_append,List.getD_cons_zero,List.getD_cons_succ,List.length_cons,List.length_nil]
   have h1:¬ 192+r / 64<128:=oZ
   have h2:(192+r / 64) / 32=6/\(128+r % 64) / 64=2:=oZ
   have h3:(192+r / 64) % 32*64+(128+r % 64) % 64=r:=oZ
   have h4:128<=r:=oZ
   simp only[ou,h1,if_false,if_pos h2,h3,if_pos h4]
  ·split
   ·simp only[List.cons_append,List.nil_append,List.getD_cons_zero,List.getD_cons_succ,List.length_cons,List.length_nil]
    have h1:¬ 224+r / 4096<128:=oZ
    have h2:¬ ((224+r / 4096) / 32=6/\(128+r / 64 % 64) / 64=2):=oZ
    have h2':(224+r / 4096) / 16=14/\(128+r / 64 % 64) / 64=2/\(128+r % 64) / 64=2:=oZ
    have h3:(224+r / 4096) % 16*4096+(128+r / 64 % 64) % 64*64+(128+r % 64) % 64=r:=oZ
    have h4:2048<=r/\okR r:=⟨oZ,h⟩
    simp only[ou,h1,if_false,if_neg h2,if_pos h2',h3,if_pos h4]
   ·simp only[List.cons_append,List.nil_append,List.getD_cons_zero,List.getD_cons_succ,List.length_cons,List.length_nil]
    have hb:r<=1114111:=by unfold okR at h;omega
    have h1:¬ 240+r / 262144<128:=oZ
    have h2:¬ ((240+r / 262144) / 32=6/\(128+r / 4096 % 64) / 64=2):=oZ
    have h2':¬ ((240+r / 262144) / 16=14/\(128+r / 4096 % 64) / 64=2/\(128+r / 64 % 64) / 64=2):=oZ
    have h2'':(240+r / 262144) / 8=30/\(128+r / 4096 % 64) / 64=2/\(128+r / 64 % 64) / 64=2/\(128+r % 64) / 64=2:=oZ
    have h3:(240+r / 262144) % 8*262144+(128+r / 4096 % 64) % 64*4096+(128+r / 64 % 64) % 64*64+(128+r % 64) % 64=r:=oZ
    have h4:65536<=r/\okR r:=⟨oZ,h⟩
    simp only[ou,h1,if_false,if_neg h2,if_neg h2',if_pos h2'',h3,if_pos h4]
theorem O7 (a b c d:Nat):(2<=(ou a b c d).2->b≠0)/\(3<=(ou a b c d).2->c≠0)/\(4<=(ou a b c d).2->d≠0):=by
 unfold ou
 repeat' split
 all_goals exact⟨fun h=>by simp at h;try omega,fun h=>by simp at h;try omega,fun h=>by simp at h;try omega⟩
/-! ### Texts -/
def byteAt (s:ByteArray) (i:Nat):Nat:=(s.data.toList.getD i 0).toNat
theorem nR (s:ByteArray) (i:Nat):byteAt s i<256:=(s.data.toList.getD i 0).toNat_lt
theorem Md (s:ByteArray) (i:Nat):(s.get! i).toNat=byteAt s i:=by
 unfold byteAt
 congr 1
 simp[ByteArray.get!,getElem!_def,Array.getElem?_toList,List.getD_eq_getElem?_getD]
 cases h:s.data[i]? <;> simp <;> rfl
theorem x9 {s:ByteArray} {i:Nat} (h:s.size<=i):byteAt s i=0:=by
 unfold byteAt
 have:s.data.toList.length<=i:=by simpa using h
 simp[List.getD_eq_getElem?_getD,List.getElem?_eq_none this]
def bZ (s:ByteArray) (i:Nat):Nat×Nat:=ou (byteAt s i) (byteAt s (i+1)) (byteAt s (i+2)) (byteAt s (i+3))
theorem JC (c:Nat):Utf8.valid (c:Int)=decide (okR c):=by
 rw[Bool.eq_iff_iff,decide_eq_true_iff]
 unfold okR
 simp only[Utf8.valid,Bool.or_eq_true,Bool.and_eq_true,decide_eq_true_eq]
 omega
theorem ve (s:ByteArray) (i:Nat):Utf8.decode s i=bZ s i:=by
 have hc:∀ k,(i+k<s.size/\byteAt s (i+k) / 64=2)↔byteAt s (i+k) / 64=2:=by
  intro k
  refine⟨fun h=>h.2,fun h=>⟨?_,h⟩⟩
  by_cases hk:i+k<s.size
  ·exact hk
  ·rw[x9 oZ] at h;omega
 simp only[Utf8.decode,Md,Nat.add_zero,JC,Bool.and_eq_true,beq_iff_eq,decide_eq_true_eq,hc,and_assoc,ge_iff_le,Utf8.runeError]
 rfl
theorem Ir (w:World) (n:Int) (h1:1<=n) (h2:n<=65536) :
  Calls Tryz.prog 34 #[.int .i64 n] w fun e w'=>e=.returned (.tuple #[.pointer (some ⟨w.heap.size+1,0,none⟩),.int .i64 0])/\dD w' (w.heap.size+1) w.heap.size (List.replicate n.toNat 0) 0 0/\Below w.heap.size w w':=by
 obtain⟨k,rfl⟩:=Int.eq_ofNat_of_zero_le (show 0<=n by omega)
 exact Qc w k oZ oZ
def DD (n:Nat) (a:Int):Bool:=decide (0<=a)&&decide (a<n)
theorem tK {n:Nat} {a:Int} (h0:0<=a) (h1:a<n):DD n a=true:=by simp[DD,h0,h1]
theorem IP {n:Nat} {a:Int} (h:a<0∨(n:Int)<=a):DD n a=false:=by simp[DD];omega
theorem P7 {w:World} {b c:Nat} {cs:List Int} {l s:Int} (h:dD w b c cs l s) (a:Nat) (z:Int) (hz:cs[a]?=some z) (hl0:0<=l) (hl:l<1000000000) :
  Calls Tryz.prog 23 #[.pointer (some ⟨b,0,none⟩),.int .i64 a] w fun e w'=>e=.returned (.tuple #[.int .u32 z,.int .i64 0])/\dD w' b c cs (l+1) s/\bI (·=b) w w':=by
 obtain⟨ha,rfl⟩:=eZ.1 hz
 exact O6 h a ha hl0 hl
theorem Ej {w:World} {g:Nat} {l:List Int} {t:TypeId} (h:w.heap[g]?=some (.cells (l.map (Value.int .u32)).toArray t (0,0))) {i:Nat} {z:Int} (hz:l[i]?=some z):w.cell? ⟨g,i,none⟩=some (.int .u32 z):=by
 rw[ae h];simp[hz]
def pY (L:List Nat):Nat×Nat:=ou (L.getD 0 0) (L.getD 1 0) (L.getD 2 0) (L.getD 3 0)
def pq:Nat->List Nat->List Nat
 | 0,_=>[]
 | n+1,L=>if L=[] then [] else(pY L).1 :: pq n (L.drop (pY L).2)
def runesL (L:List Nat):List Nat:=pq L.length L
def lT (l:List Nat):List Nat:=l.flatMap encR
theorem nP (L:List Nat):1<=(pY L).2/\(pY L).2<=4:=Oy _ _ _ _
theorem Ic (L:List Nat) (h:L≠[]):(pY L).2<=L.length:=by
 obtain⟨h1,h2,h3⟩:=O7 (L.getD 0 0) (L.getD 1 0) (L.getD 2 0) (L.getD 3 0)
 have h4:=(nP L).2
 have h0:L.length≠0:=by simpa using h
 have g:∀ i,L.length<=i->L.getD i 0=0:=fun i hi=>by simp[List.getD_eq_getElem?_getD,List.getElem?_eq_none hi]
 change (2<=(pY L).2->_) at h1
 change (3<=(pY L).2->_) at h2
 change (4<=(pY L).2->_) at h3
 by_cases e:(pY L).2<=L.length
 ·exact e
 ·by_cases e1:L.length<=1
  ·exact absurd (g 1 e1) (h1 oZ)
  ·by_cases e2:L.length<=2
   ·exact absurd (g 2 e2) (h2 oZ)
   ·exact absurd (g 3 oZ) (h3 oZ)
theorem qV:∀ (n m:Nat) (L:List Nat),L.length<=n->L.length<=m->pq n L=pq m L
 | 0,m,L,h,_=>by
  obtain rfl:=List.eq_nil_of_length_eq_zero (show L.length=0 by omega)
  cases m <;> simp[pq]
 | n+1,0,L,_,h=>by
  obtain rfl:=List.eq_nil_of_length_eq_zero (show L.length=0 by omega)
  simp[pq]
 | n+1,m+1,L,h1,h2=>by
  unfold pq
  split
  ·rfl
  ·have:=(nP L).1
   rw[qV n m _ uZ uZ]
theorem kE:runesL []=[]:=rfl
theorem mJ {L:List Nat} (h:L≠[]):runesL L=(pY L).1 :: runesL (L.drop (pY L).2):=by
 have h1:=(nP L).1
 have h2:L.length≠0:=by simpa using h
 obtain⟨n,hn⟩:∃ n,L.length=n+1:=⟨L.length-1,oZ⟩
 unfold runesL
 rw[hn]
 conv=>lhs;unfold pq
 rw[if_neg h,qV n _ _ uZ (Nat.le_refl _)]
theorem zL {P:List Nat->Prop} (h0:P []) (h1:∀ L,L≠[]->P (L.drop (pY L).2)->P L):∀ L,P L:=by
 intro L
 generalize hn:L.length=n
 induction n using Nat.strongRecOn generalizing L with
 | _ n ih =>
  by_cases h:L=[]
  ·rw[h];exact h0
  ·have:=(nP L).1
   have h2:L.length≠0:=by simpa using h
   exact h1 L h (ih (L.drop (pY L).2).length uZ _ rfl)
theorem JZ (L:List Nat):∀ r∈runesL L,okR r:=by
 induction L using zL with
 | h0=>simp[kE]
 | h1 L h ih =>
  rw[mJ h]
  intro r hr
  rcases List.mem_cons.1 hr with rfl | hr
  ·exact I4 _ _ _ _
  ·exact ih r hr
theorem wI (L:List Nat):(runesL L).length<=L.length/\L.length<=4*(runesL L).length:=by
 induction L using zL with
 | h0=>simp[kE]
 | h1 L h ih =>
  rw[mJ h]
  have h1:=nP L
  have h2:=Ic L h
  simp only[List.length_drop,List.length_cons] at ih ⊢
  omega
theorem pJ (r:Nat):1<=(encR r).length/\(encR r).length<=4:=by
 unfold encR
 repeat' split
 all_goals simp
theorem MM {r:Nat} (h:okR r) (L:List Nat):pY (encR r++L)=(r,(encR r).length):=by
 rw[<- Nz h (L.getD 0 0) (L.getD 1 0) (L.getD 2 0)]
 unfold pY
 have key:∀ i,i<4->(encR r++L).getD i 0=(encR r++[L.getD 0 0,L.getD 1 0,L.getD 2 0]).getD i 0:=by
  intro i hi
  have h1:=pJ r
  simp only[List.getD_eq_getElem?_getD]
  by_cases e:i<(encR r).length
  ·rw[List.getElem?_append_left e,List.getElem?_append_left e]
  ·rw[List.getElem?_append_right oZ,List.getElem?_append_right oZ]
   obtain⟨j,hj⟩:∃ j,j=i-(encR r).length:=⟨_,rfl⟩
   rw[<- hj]
   have:j<3:=oZ
   match j,this with
   | 0,_=>simp
   | 1,_=>simp
   | 2,_=>simp
 rw[key 0 oZ,key 1 oZ,key 2 oZ,key 3 oZ]
theorem F6 {r:Nat} (h:okR r) (L:List Nat):runesL (encR r++L)=r :: runesL L:=by
 have h1:=pJ r
 have hne:encR r++L≠[]:=by
  intro e
  have:=congrArg List.length e
  simp only[List.length_append,List.length_nil] at this
  omega
 rw[mJ hne,MM h]
 simp
theorem Gq (l:List Nat) (h:∀ r∈l,okR r) (L:List Nat):runesL (lT l++L)=l++runesL L:=by
 induction l with
 | nil=>simp[lT]
 | cons r l ih =>
  have e:lT (r :: l)=encR r++lT l:=by simp[lT]
  rw[e,List.append_assoc,F6 (h r sZ),ih fun x hx=>h x (by simp[hx])]
  rfl
end Go.Proofs.YtlfndoclbebdaaaGreatDoor
