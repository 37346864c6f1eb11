/-
 What stage 12 rests on.
-/
import Derived.Test.YtafaohnhlgcnpaaGreatDoorWrAlA1
import Derived.Laws.CopyOwn
set_option maxRecDepth 100000
set_option maxHeartbeats 16000000
namespace Go.Proofs.YtafaohnhlgcnpaaGreatDoor
open Go.RowKit
structure bD (w:World) (b c:Nat) (cs:List Int) (l s:Int):Prop where
 rec_:w.heap[b]?=some (.cells #[.slice (some ⟨c,0,none⟩) cs.length cs.length,.int .i64 l,.int .i64 s] 129 (0,0))
 row:w.heap[c]?=some (.cells (cs.map (Value.int .u32)).toArray 32 (0,0))
theorem bD.ne {w:World} {b c:Nat} {cs:List Int} {l s:Int} (h:bD w b c cs l s):b≠c:=by
 rintro rfl;have:=h.rec_.symm.trans h.row;simp at this
theorem bD.dJ {w w':World} {b c:Nat} {cs:List Int} {l s:Int} (h:bD w b c cs l s) (hb:w'.heap[b]?=w.heap[b]?) (hc:w'.heap[c]?=w.heap[c]?):bD w' b c cs l s:=⟨hb.trans h.rec_,hc.trans h.row⟩
theorem bD.mod {w w':World} {b c:Nat} {cs:List Int} {l s:Int} (h:bD w b c cs l s) {S:Nat->Prop} (hm:bB S w w') (hb:¬ S b) (hc:¬ S c):bD w' b c cs l s :=
 h.dJ (hm.block b (lt_of_heap h.rec_) hb) (hm.block c (lt_of_heap h.row) hc)
theorem bD.below {w w':World} {b c:Nat} {cs:List Int} {l s:Int} (h:bD w b c cs l s) (hm:Below w.heap.size w w'):bD w' b c cs l s :=
 h.dJ (hm.block b (lt_of_heap h.rec_)) (hm.block c (lt_of_heap h.row))
theorem bD.loaded {w:World} {b c:Nat} {cs:List Int} {l s:Int} (h:bD w b c cs l s) (l':Int):bD (w.setCell ⟨b,1,none⟩ (.int .i64 l')) b c cs l' s:=by
 refine⟨?_,?_⟩
 ·rw[heap_setCell_same _ _ _ _ _ _ h.rec_];rfl
 ·rw[Below.heap_setCell _ _ _ _ h.ne.symm];exact h.row
theorem bD.counted {w:World} {b c:Nat} {cs:List Int} {l s:Int} (h:bD w b c cs l s) (s':Int):bD (w.setCell ⟨b,2,none⟩ (.int .i64 s')) b c cs l s':=by
 refine⟨?_,?_⟩
 ·rw[heap_setCell_same _ _ _ _ _ _ h.rec_];rfl
 ·rw[Below.heap_setCell _ _ _ _ h.ne.symm];exact h.row
theorem bD.stored {w:World} {b c:Nat} {cs:List Int} {l s:Int} (h:bD w b c cs l s) (a:Nat) (v:Int):bD (w.setCell ⟨c,a,none⟩ (.int .u32 v)) b c (cs.set a v) l s:=by
 refine⟨?_,?_⟩
 ·rw[Below.heap_setCell _ _ _ _ h.ne];simpa using h.rec_
 ·rw[heap_setCell_same _ _ _ _ _ _ h.row];simp[List.map_set]
theorem Am:(Tryz.prog.info? 32).map (fun i=>(i.zero,i.size,i.bytes))=some (some (.int .u32 0),1,4):=kZ
theorem JA (n:Nat):madeCells (Value.cells (.int .u32 0)) n=((List.replicate n (0:Int)).map (Value.int .u32)).toArray:=by
 apply Array.ext
 ·simp[madeCells]
 ·intro i h1 h2;simp[madeCells,Value.cells];simp[Nat.mod_one]
theorem q8 (n:Nat) (h2:n<=65536) (w:World):(Instr.makeSlice 47 (.int .i64 n) (.int .i64 n)).run Tryz.prog w=.ok (.slice (some ⟨w.heap.size,0,none⟩) n n) (w.alloc (.cells (Array.replicate n (Value.int .u32 0)) 32)):=by
 obtain⟨i0,hi,hz0,hz1,hz2⟩:=info_parts Am;have:=run_make (P:=Tryz.prog) w 47 32 i0 _ Tryz.underlying47 hi hz0 .i64 .i64 n n oZ oZ (by rw[hz2];omega) oZ;rw[this,hz1,JA];simp
theorem Ia:(Tryz.prog.info? 32).map (·.size)=some 1:=kZ
/-! ### The calls -/
theorem LK (w:World) (n:Nat) (h1:1<=n) (h2:n<=65536) :
  Calls Tryz.prog 34 #[.int .i64 n] w fun e w'=>e=.returned (.tuple #[.pointer (some ⟨w.heap.size+1,0,none⟩),.int .i64 0])/\bD w' (w.heap.size+1) w.heap.size (List.replicate n 0) 0 0/\Below w.heap.size w w':=by
 have hmk:=q8 n h2;go_enter Tryz.func34,Tryz.ntmps34
 go_wp2
 go_ret2
 refine⟨rfl,⟨?_,?_⟩,((Below.refl _ _).alloc (Nat.le_refl _) _).alloc sZ _⟩
 ·simpa using nZ (w.alloc (.cells (Array.replicate n (Value.int .u32 0)) 32)) (.cells #[.slice (some ⟨w.heap.size,0,none⟩) n n,.int .i64 0,.int .i64 0] 129)
 ·rw[Below.heap_alloc _ _ _ sZ];simpa using nZ w (.cells (Array.replicate n (Value.int .u32 0)) 32)
theorem bD.c0 {w:World} {b c:Nat} {cs:List Int} {l s:Int} (h:bD w b c cs l s):w.cell? ⟨b,0,none⟩=some (.slice (some ⟨c,0,none⟩) cs.length cs.length):=aa h.rec_ 0
theorem bD.c1 {w:World} {b c:Nat} {cs:List Int} {l s:Int} (h:bD w b c cs l s):w.cell? ⟨b,1,none⟩=some (.int .i64 l):=aa h.rec_ 1
theorem bD.c2 {w:World} {b c:Nat} {cs:List Int} {l s:Int} (h:bD w b c cs l s):w.cell? ⟨b,2,none⟩=some (.int .i64 s):=aa h.rec_ 2
theorem bD.at_ {w:World} {b c:Nat} {cs:List Int} {l s:Int} (h:bD w b c cs l s) {a:Nat} (ha:a<cs.length):w.cell? ⟨c,a,none⟩=some (.int .u32 cs[a]):=by rw[aa h.row a];simp[ha]
theorem uV {w:World} {b c:Nat} {cs:List Int} {l s:Int} (h:bD w b c cs l s) :
  Calls Tryz.prog 64 #[.pointer (some ⟨b,0,none⟩)] w fun e w'=>e=.returned (.int .i64 cs.length)/\w=w':=by
 have h0:=h.c0;go_enter Tryz.func64,Tryz.ntmps64
 go_wp2
 go_ret;exact⟨rfl,rfl⟩
theorem FT {w:World} {b c:Nat} {cs:List Int} {l s:Int} (h:bD w b c cs l s) :
  Calls Tryz.prog 30 #[.pointer (some ⟨b,0,none⟩)] w fun e w'=>e=.returned (.int .i64 s)/\w=w':=by
 have h0:=h.c2;go_enter Tryz.func30,Tryz.ntmps30
 go_wp2
 go_ret;exact⟨rfl,rfl⟩
theorem JR {w:World} {b c:Nat} {cs:List Int} {l s:Int} (h:bD w b c cs l s) (a:Nat) (ha:a<cs.length) :
  Calls Tryz.prog 60 #[.pointer (some ⟨b,0,none⟩),.int .i64 a] w fun e w'=>e=.returned (.bool true)/\w=w':=by
 have hd:decide ((a:Int)<(cs.length:Int))=true:=by simpa using ha
 go_enter Tryz.func60,Tryz.ntmps60
 go_wp2_with (go_at_call 64;refine(uV h).mono ?_;rintro e w' ⟨rfl,rfl⟩)
 go_ret;exact⟨sZ,rfl⟩
theorem EC {w:World} {b c:Nat} {cs:List Int} {l s:Int} (h:bD w b c cs l s) (a:Int) (ha:a<0∨cs.length<=a) :
  Calls Tryz.prog 60 #[.pointer (some ⟨b,0,none⟩),.int .i64 a] w fun e w'=>e=.returned (.bool false)/\w=w':=by
 by_cases h0:a<0
 ·go_enter Tryz.func60,Tryz.ntmps60
  go_wp2_with (go_at_call 64;refine(uV h).mono ?_;rintro e w' ⟨rfl,rfl⟩)
  go_ret;exact⟨rfl,rfl⟩
 ·have ha':0<=a:=oZ;have hd:decide (a<(cs.length:Int))=false:=by simp;omega
  go_enter Tryz.func60,Tryz.ntmps60
  go_wp2_with (go_at_call 64;refine(uV h).mono ?_;rintro e w' ⟨rfl,rfl⟩)
  go_ret;exact⟨sZ,rfl⟩
theorem Kn {w:World} {b c:Nat} {cs:List Int} {l s:Int} (h:bD w b c cs l s) (a:Nat) (ha:a<cs.length) (hl0:0<=l) (hl:l<1000000000) :
  Calls Tryz.prog 23 #[.pointer (some ⟨b,0,none⟩),.int .i64 a] w fun e w'=>e=.returned (.tuple #[.int .u32 cs[a],.int .i64 0])/\bD w' b c cs (l+1) s/\bB (·=b) w w':=by
 have h0:=h.c0;have h1:=h.c1;have f1:=free_at h.rec_ 1;have h2:=h.at_ ha;have hne:¬ c=b:=fun e=>h.ne e.symm;go_enter Tryz.func23,Tryz.ntmps23
 go_wp2_with (go_at_call 60;refine(JR h a ha).mono ?_;rintro e w' ⟨rfl,rfl⟩)
 go_ret2
 exact⟨rfl,h.loaded _,bB.setCell (S:=fun k=>k=b) (bB.refl _ _) (.inr rfl) _⟩
theorem J3 {w:World} {b c:Nat} {cs:List Int} {l s:Int} (h:bD w b c cs l s) (a:Int) (ha:a<0∨cs.length<=a) :
  Calls Tryz.prog 23 #[.pointer (some ⟨b,0,none⟩),.int .i64 a] w fun e w'=>e=.returned (.tuple #[.int .u32 0,.int .i64 2])/\w=w':=by
 go_enter Tryz.func23,Tryz.ntmps23
 go_wp2_with (go_at_call 60;refine(EC h a ha).mono ?_;rintro e w' ⟨rfl,rfl⟩)
 go_ret2
 exact⟨rfl,rfl⟩
theorem lJ {w:World} {b c:Nat} {cs:List Int} {l s:Int} (h:bD w b c cs l s) (a:Nat) (v:Int) (ha:a<cs.length) (hs0:0<=s) (hs:s<1000000000) :
  Calls Tryz.prog 66 #[.pointer (some ⟨b,0,none⟩),.int .i64 a,.int .u32 v] w fun e w'=>e=.returned (.int .i64 0)/\bD w' b c (cs.set a v) l (s+1)/\bB (fun k=>k=b∨k=c) w w':=by
 have h0:=h.c0;have h1:=h.c2;have f1:=free_at h.rec_ 2;have h2:=h.at_ ha;have f2:=free_at h.row a;have hne:¬ c=b:=fun e=>h.ne e.symm;go_enter Tryz.func66,Tryz.ntmps66
 go_wp2_with (go_at_call 60;refine(JR h a ha).mono ?_;rintro e w' ⟨rfl,rfl⟩)
 go_ret;exact⟨rfl,(h.counted _).stored _ _,bB.setCell (S:=fun k=>k=b∨k=c) (bB.setCell (S:=fun k=>k=b∨k=c) (bB.refl _ _) (.inr (.inl rfl)) _) (.inr (.inr rfl)) _⟩
theorem Gl {w:World} {b c:Nat} {cs:List Int} {l s:Int} (h:bD w b c cs l s) (a v:Int) (ha:a<0∨cs.length<=a) :
  Calls Tryz.prog 66 #[.pointer (some ⟨b,0,none⟩),.int .i64 a,.int .u32 v] w fun e w'=>e=.returned (.int .i64 2)/\w=w':=by
 go_enter Tryz.func66,Tryz.ntmps66
 go_wp2_with (go_at_call 60;refine(EC h a ha).mono ?_;rintro e w' ⟨rfl,rfl⟩)
 go_ret;exact⟨rfl,rfl⟩
/-! ### What all hold: a copy -/
theorem rR {w:World} {b c:Nat} {cs:List Int} {l s:Int} (h:bD w b c cs l s) (hn:cs.length<=65536) :
  Calls Tryz.prog 25 #[.pointer (some ⟨b,0,none⟩)] w fun e w'=>e=.returned (.slice (some ⟨w.heap.size,0,none⟩) cs.length cs.length) /\
   w'.heap[w.heap.size]?=some (.cells (cs.map (Value.int .u32)).toArray 32 (0,0))/\Below w.heap.size w w':=by
 have h0:=h.c0;have hmk:=q8 cs.length hn;have hbl:=lt_of_heap h.rec_;have hrl:=lt_of_heap h.row
 have hnew:(w.alloc (.cells (Array.replicate cs.length (Value.int .u32 0)) 32)).heap[w.heap.size]?=some (.cells (List.replicate cs.length (Value.int .u32 0)).toArray 32 (0,0)):=by
  simpa using nZ w (.cells (Array.replicate cs.length (Value.int .u32 0)) 32)
 have HN:=hJ hnew
 have hrow:∀ (j:Nat) (v:Value),(cs.map (Value.int .u32))[j]?=some v->(w.alloc (.cells (Array.replicate cs.length (Value.int .u32 0)) 32)).cell? ((⟨c,0,none⟩:Addr).add j)=some v:=by
  intro j v hj;rw[Addr.add_lit,Nat.zero_add,World.cell?_of_block (w:=w) (Below.heap_alloc w _ c hrl),aa h.row];simpa using hj
 have HR:=hJ hrow;clear hnew hrow;have H1:=hJ (show (cs.map (Value.int .u32)).length=Nat.min cs.length cs.length by simp);have H3:=hJ (show 0+(cs.map (Value.int .u32)).length<=(List.replicate cs.length (Value.int .u32 0)).length by simp);have H4:=hJ (show ∀ v∈cs.map (Value.int .u32),v.oneCell'=true by simp[Value.oneCell']);go_enter Tryz.func25,Tryz.ntmps25
 go_wp2_with (with_reducible refine wpList_copy_splice rfl (.tmp 12) (.tmp 16) 47 47 rfl 32 Tryz.underlying47 Ia _ _ _ _ _ _ rfl rfl w.heap.size 0 _ 32 HN.out (cs.map (Value.int .u32)) H1.out (fun _=>⟨rfl,_,rfl,HR.out⟩) H3.out H4.out w.heap.size w ((Below.refl _ _).alloc (Nat.le_refl _) _) (Nat.le_refl _) ?_;intro w2 hg2 hb2)
 go_ret;refine⟨rfl,?_,hb2⟩;have:=hg2.out;simpa [splice] using this
/-! ### A nil memory -/
def gI (x:Nat):Prop:=x<55296∨(57344<=x/\x<=1114111)
instance (x:Nat):Decidable (gI x):=by unfold gI;exact inferInstance
def lN (a b c d:Nat):Nat×Nat :=
 if a<128 then(a,1)
 else if a / 32=6/\b / 64=2 then(if 128<=a % 32*64+b % 64 then(a % 32*64+b % 64,2) else(65533,1))
 else if a / 16=14/\b / 64=2/\c / 64=2 then(if 2048<=a % 16*4096+b % 64*64+c % 64/\gI (a % 16*4096+b % 64*64+c % 64) then(a % 16*4096+b % 64*64+c % 64,3) else(65533,1))
 else if a / 8=30/\b / 64=2/\c / 64=2/\d / 64=2 then(if 65536<=a % 8*262144+b % 64*4096+c % 64*64+d % 64/\gI (a % 8*262144+b % 64*4096+c % 64*64+d % 64) then(a % 8*262144+b % 64*4096+c % 64*64+d % 64,4) else(65533,1))
 else(65533,1)
def encR (r:Nat):List Nat :=
 if r<128 then [r] else if r<2048 then [192+r / 64,128+r % 64] else if r<65536 then [224+r / 4096,128+r / 64 % 64,128+r % 64] else [240+r / 262144,128+r / 4096 % 64,128+r / 64 % 64,128+r % 64]
theorem JN (a b c d:Nat):1<=(lN a b c d).2/\(lN a b c d).2<=4:=by
 unfold lN;repeat' split
 all_goals exact⟨sZ,sZ⟩
theorem Ew (a b c d:Nat):gI (lN a b c d).1:=by
 unfold lN;repeat' split
 all_goals (unfold gI at *;simp only;omega)
theorem IA {r:Nat} (h:gI r) (x y z:Nat):lN ((encR r++[x,y,z]).getD 0 0) ((encR r++[x,y,z]).getD 1 0) ((encR r++[x,y,z]).getD 2 0) ((encR r++[x,y,z]).getD 3 0)=(r,(encR r).length):=by
 unfold encR;split
 ·rename_i h1;simp[lN,h1]
 ·split
  ·simp only[List.cons_append,List.nil_append,List.getD_cons_zero,List.getD_cons_succ,List.length_cons,List.length_nil];have h1:¬ 192+r / 64<128:=oZ;have h2:(192+r / 64) / 32=6/\(128+r % 64) / 64=2:=oZ;have h3:(192+r / 64) % 32*64+(128+r % 64) % 64=r:=oZ;have h4:128<=r:=oZ;simp only[lN,h1,if_false,if_pos h2,h3,if_pos h4]
  ·split
   ·simp only[List.cons_append,List.nil_append,List.getD_cons_zero,List.getD_cons_succ,List.length_cons,List.length_nil];have h1:¬ 224+r / 4096<128:=oZ;have h2:¬ ((224+r / 4096) / 32=6/\(128+r / 64 % 64) / 64=2):=oZ;have h2':(224+r / 4096) / 16=14/\(128+r / 64 % 64) / 64=2/\(128+r % 64) / 64=2:=oZ;have h3:(224+r / 4096) % 16*4096+(128+r / 64 % 64) % 64*64+(128+r % 64) % 64=r:=oZ;have h4:2048<=r/\gI r:=⟨oZ,h⟩;simp only[lN,h1,if_false,if_neg h2,if_pos h2',h3,if_pos h4]
   ·simp only[List.cons_append,List.nil_append,List.getD_cons_zero,List.getD_cons_succ,List.length_cons,List.length_nil];have hb:r<=1114111:=by unfold gI at h;omega
    have h1:¬ 240+r / 262144<128:=oZ;have h2:¬ ((240+r / 262144) / 32=6/\(128+r / 4096 % 64) / 64=2):=oZ;have h2':¬ ((240+r / 262144) / 16=14/\(128+r / 4096 % 64) / 64=2/\(128+r / 64 % 64) / 64=2):=oZ;have h2'':(240+r / 262144) / 8=30/\(128+r / 4096 % 64) / 64=2/\(128+r / 64 % 64) / 64=2/\(128+r % 64) / 64=2:=oZ;have h3:(240+r / 262144) % 8*262144+(128+r / 4096 % 64) % 64*4096+(128+r / 64 % 64) % 64*64+(128+r % 64) % 64=r:=oZ;have h4:65536<=r/\gI r:=⟨oZ,h⟩;simp only[lN,h1,if_false,if_neg h2,if_neg h2',if_pos h2'',h3,if_pos h4]
theorem KR (a b c d:Nat):(2<=(lN a b c d).2->b≠0)/\(3<=(lN a b c d).2->c≠0)/\(4<=(lN a b c d).2->d≠0):=by
 unfold lN;repeat' split
 all_goals exact⟨fun h=>by simp at h;try omega,fun h=>by simp at h;try omega,fun h=>by simp at h;try omega⟩
/-! ### Texts -/
def aV (s:ByteArray) (i:Nat):Nat:=(s.data.toList.getD i 0).toNat
theorem lF (s:ByteArray) (i:Nat):aV s i<256:=(s.data.toList.getD i 0).toNat_lt
theorem Jw (s:ByteArray) (i:Nat):(s.get! i).toNat=aV s i:=by
 unfold aV;congr 1
 simp[ByteArray.get!,getElem!_def,Array.getElem?_toList,List.getD_eq_getElem?_getD];cases h:s.data[i]? <;> simp <;> rfl
theorem uT {s:ByteArray} {i:Nat} (h:s.size<=i):aV s i=0:=by
 unfold aV;have:s.data.toList.length<=i:=by simpa using h
 simp[List.getD_eq_getElem?_getD,List.getElem?_eq_none this]
def bS (s:ByteArray) (i:Nat):Nat×Nat:=lN (aV s i) (aV s (i+1)) (aV s (i+2)) (aV s (i+3))
theorem F4 (c:Nat):Utf8.valid (c:Int)=decide (gI c):=by
 rw[Bool.eq_iff_iff,decide_eq_true_iff];unfold gI;simp only[Utf8.valid,Bool.or_eq_true,Bool.and_eq_true,decide_eq_true_eq];omega
theorem si (s:ByteArray) (i:Nat):Utf8.decode s i=bS s i:=by
 have hc:∀ k,(i+k<s.size/\aV s (i+k) / 64=2)↔aV s (i+k) / 64=2:=by
  intro k;refine⟨fun h=>h.2,fun h=>⟨?_,h⟩⟩;by_cases hk:i+k<s.size
  ·exact hk
  ·rw[uT oZ] at h;omega
 simp only[Utf8.decode,Jw,Nat.add_zero,F4,Bool.and_eq_true,beq_iff_eq,decide_eq_true_eq,hc,and_assoc,ge_iff_le,Utf8.runeError];rfl
theorem EY (w:World) (n:Int) (h1:1<=n) (h2:n<=65536) :
  Calls Tryz.prog 34 #[.int .i64 n] w fun e w'=>e=.returned (.tuple #[.pointer (some ⟨w.heap.size+1,0,none⟩),.int .i64 0])/\bD w' (w.heap.size+1) w.heap.size (List.replicate n.toNat 0) 0 0/\Below w.heap.size w w':=by
 obtain⟨k,rfl⟩:=Int.eq_ofNat_of_zero_le (show 0<=n by omega);exact LK w k oZ oZ
def Be (n:Nat) (a:Int):Bool:=decide (0<=a)&&decide (a<n)
theorem nA {n:Nat} {a:Int} (h0:0<=a) (h1:a<n):Be n a=true:=by simp[Be,h0,h1]
theorem EE {n:Nat} {a:Int} (h:a<0∨(n:Int)<=a):Be n a=false:=by simp[Be];omega
theorem H8 {w:World} {b c:Nat} {cs:List Int} {l s:Int} (h:bD w b c cs l s) (a:Nat) (z:Int) (hz:cs[a]?=some z) (hl0:0<=l) (hl:l<1000000000) :
  Calls Tryz.prog 23 #[.pointer (some ⟨b,0,none⟩),.int .i64 a] w fun e w'=>e=.returned (.tuple #[.int .u32 z,.int .i64 0])/\bD w' b c cs (l+1) s/\bB (·=b) w w':=by
 obtain⟨ha,rfl⟩:=eZ.1 hz;exact Kn h a ha hl0 hl
theorem Bn {w:World} {g:Nat} {l:List Int} {t:TypeId} (h:w.heap[g]?=some (.cells (l.map (Value.int .u32)).toArray t (0,0))) {i:Nat} {z:Int} (hz:l[i]?=some z):w.cell? ⟨g,i,none⟩=some (.int .u32 z):=by
 rw[aa h];simp[hz]
def nS (L:List Nat):Nat×Nat:=lN (L.getD 0 0) (L.getD 1 0) (L.getD 2 0) (L.getD 3 0)
def nu:Nat->List Nat->List Nat
 | 0,_=>[]
 | n+1,L=>if L=[] then [] else(nS L).1 :: nu n (L.drop (nS L).2)
def runesL (L:List Nat):List Nat:=nu L.length L
def ky (l:List Nat):List Nat:=l.flatMap encR
theorem l5 (L:List Nat):1<=(nS L).2/\(nS L).2<=4:=JN _ _ _ _
theorem EQ (L:List Nat) (h:L≠[]):(nS L).2<=L.length:=by
 obtain⟨h1,h2,h3⟩:=KR (L.getD 0 0) (L.getD 1 0) (L.getD 2 0) (L.getD 3 0);have h4:=(l5 L).2;have h0:L.length≠0:=by simpa using h
 have g:∀ i,L.length<=i->L.getD i 0=0:=fun i hi=>by simp[List.getD_eq_getElem?_getD,List.getElem?_eq_none hi]
 change (2<=(nS L).2->_) at h1;change (3<=(nS L).2->_) at h2;change (4<=(nS L).2->_) at h3;by_cases e:(nS L).2<=L.length
 ·exact e
 ·by_cases e1:L.length<=1
  ·exact absurd (g 1 e1) (h1 oZ)
  ·by_cases e2:L.length<=2
   ·exact absurd (g 2 e2) (h2 oZ)
   ·exact absurd (g 3 oZ) (h3 oZ)
theorem o6:∀ (n m:Nat) (L:List Nat),L.length<=n->L.length<=m->nu n L=nu m L
 | 0,m,L,h,_=>by
  obtain rfl:=List.eq_nil_of_length_eq_zero (show L.length=0 by omega);cases m <;> simp[nu]
 | n+1,0,L,_,h=>by
  obtain rfl:=List.eq_nil_of_length_eq_zero (show L.length=0 by omega);simp[nu]
 | n+1,m+1,L,h1,h2=>by
  unfold nu;split
  ·rfl
  ·have:=(l5 L).1;rw[o6 n m _ uZ uZ]
theorem jr:runesL []=[]:=rfl
theorem kN {L:List Nat} (h:L≠[]):runesL L=(nS L).1 :: runesL (L.drop (nS L).2):=by
 have h1:=(l5 L).1;have h2:L.length≠0:=by simpa using h
 obtain⟨n,hn⟩:∃ n,L.length=n+1:=⟨L.length-1,oZ⟩;unfold runesL;rw[hn];conv=>lhs;unfold nu
 rw[if_neg h,o6 n _ _ uZ (Nat.le_refl _)]
theorem xB {P:List Nat->Prop} (h0:P []) (h1:∀ L,L≠[]->P (L.drop (nS L).2)->P L):∀ L,P L:=by
 intro L;generalize hn:L.length=n;induction n using Nat.strongRecOn generalizing L with
 | _ n ih =>
  by_cases h:L=[]
  ·rw[h];exact h0
  ·have:=(l5 L).1;have h2:L.length≠0:=by simpa using h
   exact h1 L h (ih (L.drop (nS L).2).length uZ _ rfl)
theorem Fh (L:List Nat):∀ r∈runesL L,gI r:=by
 induction L using xB with
 | h0=>simp[jr]
 | h1 L h ih =>
  rw[kN h];intro r hr;rcases List.mem_cons.1 hr with rfl | hr
  ·exact Ew _ _ _ _
  ·exact ih r hr
theorem ui (L:List Nat):(runesL L).length<=L.length/\L.length<=4*(runesL L).length:=by
 induction L using xB with
 | h0=>simp[jr]
 | h1 L h ih =>
  rw[kN h];have h1:=l5 L;have h2:=EQ L h;simp only[List.length_drop,List.length_cons] at ih ⊢;omega
theorem nL (r:Nat):1<=(encR r).length/\(encR r).length<=4:=by
 unfold encR;repeat' split
 all_goals simp
theorem Io {r:Nat} (h:gI r) (L:List Nat):nS (encR r++L)=(r,(encR r).length):=by
 rw[<- IA h (L.getD 0 0) (L.getD 1 0) (L.getD 2 0)];unfold nS
 have key:∀ i,i<4->(encR r++L).getD i 0=(encR r++[L.getD 0 0,L.getD 1 0,L.getD 2 0]).getD i 0:=by
  intro i hi;have h1:=nL r;simp only[List.getD_eq_getElem?_getD];by_cases e:i<(encR r).length
  ·rw[List.getElem?_append_left e,List.getElem?_append_left e]
  ·rw[List.getElem?_append_right oZ,List.getElem?_append_right oZ];obtain⟨j,hj⟩:∃ j,j=i-(encR r).length:=⟨_,rfl⟩;rw[<- hj];have:j<3:=oZ;match j,this with
   | 0,_=>simp
   | 1,_=>simp
   | 2,_=>simp
 rw[key 0 oZ,key 1 oZ,key 2 oZ,key 3 oZ]
theorem Dj {r:Nat} (h:gI r) (L:List Nat):runesL (encR r++L)=r :: runesL L:=by
 have h1:=nL r
 have hne:encR r++L≠[]:=by
  intro e;have:=congrArg List.length e;simp only[List.length_append,List.length_nil] at this;omega
 rw[kN hne,Io h];simp
theorem Eg (l:List Nat) (h:∀ r∈l,gI r) (L:List Nat):runesL (ky l++L)=l++runesL L:=by
 induction l with
 | nil=>simp[ky]
 | cons r l ih =>
  have e:ky (r :: l)=encR r++ky l:=by simp[ky]
  rw[e,List.append_assoc,Dj (h r sZ),ih fun x hx=>h x (by simp[hx])];rfl
end Go.Proofs.YtafaohnhlgcnpaaGreatDoor
