/-
 What stage 12 rests on.
-/
import Derived.Test.YtafaohnhlgcnpaaGreatDoorWrAlB5
import Derived.Test.YtafaohnhlgcnpaaGreatDoorWrAlB3
import Derived.Deep.OwnRows
import Derived.Test.YtafaohnhlgcnpaaGreatDoorWrAlB4
set_option maxRecDepth 100000
set_option maxHeartbeats 16000000
namespace Go.Proofs.YtafaohnhlgcnpaaGreatDoor
open Go.RowKit
structure Ins where
 op:Int
 a:Int
 v:Int
instance:Inhabited Ins:=⟨⟨0,0,0⟩⟩
structure St where
 log:List Int
 at_:Nat
 made:Bool
 off:Bool
 over:Bool
 err:Int
 cs:List Int
 l:Int
 s:Int
def St.load (st:St) (a:Int):Int×St :=
 if st.at_<st.log.length then(st.log.getD st.at_ 0,{st with at_:=st.at_+1})
 else if st.made=true then(0,{st with off:=true})
 else if Be st.cs.length a=true then(st.cs.getD a.toNat 0,{st with made:=true,off:=false,log:=st.log++[st.cs.getD a.toNat 0],at_:=st.at_+1,l:=st.l+1})
 else(0,{st with made:=true,off:=true,over:=true,err:=2})
def St.store (st:St) (a v:Int):St :=
 if st.at_<st.log.length then {st with at_:=st.at_+1}
 else if st.made=true then {st with off:=true}
 else if Be st.cs.length a=true then {st with made:=true,off:=false,log:=st.log++[0],at_:=st.at_+1,cs:=st.cs.set a.toNat v,s:=st.s+1}
 else {st with made:=true,off:=true,over:=true,err:=2}
def U (x:Int):Prop:=0<=x/\x<=4294967295
theorem yK:U 0:=⟨oZ,oZ⟩
theorem qy (x:Int):U (IntKind.u32.wrap x):=by
 have:IntKind.u32.wrap x=x % 4294967296:=by simp[IntKind.wrap,IntKind.signed,IntKind.bits]
 rw[this];exact⟨oZ,oZ⟩
theorem rY {l:List Int} (h:∀ x∈l,U x) (i:Nat):U (l.getD i 0):=by
 rw[List.getD_eq_getElem?_getD];cases e:l[i]? with
 | none=>exact yK
 | some x=>exact h x (List.mem_of_getElem? e)
structure St.Ok (st:St) (B:Nat):Prop where
 at_le:st.at_<=st.log.length
 log_le:st.log.length+(if st.made=true then 0 else 1)<=B
 l0:0<=st.l
 s0:0<=st.s
 sum:st.l+st.s+(if st.made=true then 0 else 1)<=B
 log_u:∀ x∈st.log,U x
 cs_u:∀ x∈st.cs,U x
theorem St.Ok.load {st:St} {B:Nat} (h:st.Ok B) (a:Int):(st.load a).2.Ok B/\U (st.load a).1:=by
 obtain⟨h1,h2,h3,h4,h5,h6,h7⟩:=h;unfold St.load;split
 ·exact⟨⟨by simp;omega,h2,h3,h4,h5,h6,h7⟩,rY h6 _⟩
 ·split
  ·exact⟨⟨h1,h2,h3,h4,h5,h6,h7⟩,yK⟩
  ·rename_i hm
   simp only[hm] at h2 h5;split
   ·refine⟨⟨by simp;omega,by simp;simp at h2;omega,by simp;omega,h4,by simp;simp at h5;omega,?_,h7⟩,rY h7 _⟩;intro x hx;rcases List.mem_append.1 hx with hx | hx
    ·exact h6 x hx
    ·simp at hx;rw[hx];exact rY h7 _
   ·exact⟨⟨h1,by simp;simp at h2;omega,h3,h4,by simp;simp at h5;omega,h6,h7⟩,yK⟩
theorem St.Ok.store {st:St} {B:Nat} (h:st.Ok B) (a v:Int) (hv:U v):(st.store a v).Ok B:=by
 obtain⟨h1,h2,h3,h4,h5,h6,h7⟩:=h;unfold St.store;split
 ·exact⟨by simp;omega,h2,h3,h4,h5,h6,h7⟩
 ·split
  ·exact⟨h1,h2,h3,h4,h5,h6,h7⟩
  ·rename_i hm
   simp only[hm] at h2 h5;split
   ·refine⟨by simp;omega,by simp;simp at h2;omega,h3,by simp;omega,by simp;simp at h5;omega,?_,?_⟩
    ·intro x hx;rcases List.mem_append.1 hx with hx | hx
     ·exact h6 x hx
     ·simp at hx;rw[hx];exact yK
    ·intro x hx;rcases List.mem_or_eq_of_mem_set hx with hx | hx
     ·exact h7 x hx
     ·rw[hx];exact hv
   ·exact⟨h1,by simp;simp at h2;omega,h3,h4,by simp;simp at h5;omega,h6,h7⟩
def jO (w:World) (go:Option Nat) (cap:Nat) (log:List Int):Prop:=match go with
 | none=>log=[]/\cap=0
 | some g=>∃ cur,w.heap[g]?=some (.cells cur 32 (0,0))/\log.length<=cap/\cap<=maxLen/\cur.size=cap/\cur.toList.take log.length=log.map (Value.int .u32)
structure bu (w:World) (rb mb:Nat) (go:Option Nat) (cap:Nat) (log:List Int) (at_:Nat) (wi ma off ov:Bool) (er:Int):Prop where
 rec_:w.heap[rb]?=some (.cells #[.pointer (some ⟨mb,0,none⟩),.slice (go.map fun g=>⟨g,0,none⟩) log.length cap,.int .i64 at_,.bool wi,.bool ma,.bool off,.bool ov,.int .i64 er] 126 (0,0))
 row:jO w go cap log
def wO (rb:Nat) (go:Option Nat) (k:Nat):Prop:=k=rb∨go=some k
theorem jO.of_block {w w':World} {go:Option Nat} {cap:Nat} {log:List Int} (h:jO w go cap log) (hb:∀ g,go=some g->w'.heap[g]?=w.heap[g]?):jO w' go cap log:=by
 cases go with
 | none=>exact h
 | some g =>
  obtain⟨cur,h1,h2⟩:=h;exact⟨cur,(hb g rfl).trans h1,h2⟩
theorem jO.lt {w:World} {g cap:Nat} {log:List Int} (h:jO w (some g) cap log):g<w.heap.size:=by
 obtain⟨cur,h1,_⟩:=h;exact lt_of_heap h1
theorem bu.lt {w:World} {rb mb cap at_:Nat} {go:Option Nat} {log:List Int} {wi ma off ov:Bool} {er:Int} (h:bu w rb mb go cap log at_ wi ma off ov er):∀ k,wO rb go k->k<w.heap.size:=by
 rintro k (rfl | hk)
 ·exact lt_of_heap h.rec_
 ·subst hk;exact h.row.lt
theorem bu.ne {w:World} {rb mb cap at_:Nat} {go:Option Nat} {log:List Int} {wi ma off ov:Bool} {er:Int} (h:bu w rb mb go cap log at_ wi ma off ov er):go≠some rb:=by
 rintro rfl;obtain⟨cur,h1,_⟩:=h.row;have:=h.rec_.symm.trans h1;simp at this
theorem bu.dJ {w w':World} {rb mb cap at_:Nat} {go:Option Nat} {log:List Int} {wi ma off ov:Bool} {er:Int} (h:bu w rb mb go cap log at_ wi ma off ov er) (hb:∀ k,wO rb go k->w'.heap[k]?=w.heap[k]?):bu w' rb mb go cap log at_ wi ma off ov er :=
 ⟨(hb rb (.inl rfl)).trans h.rec_,h.row.of_block fun g hg=>hb g (.inr hg)⟩
theorem bu.mod {w w':World} {rb mb cap at_:Nat} {go:Option Nat} {log:List Int} {wi ma off ov:Bool} {er:Int} (h:bu w rb mb go cap log at_ wi ma off ov er) {S:Nat->Prop} (hm:bB S w w') (hS:∀ k,wO rb go k->¬ S k):bu w' rb mb go cap log at_ wi ma off ov er :=
 h.dJ fun k hk=>hm.block k (h.lt k hk) (hS k hk)
theorem bu.below {w w':World} {rb mb cap at_:Nat} {go:Option Nat} {log:List Int} {wi ma off ov:Bool} {er:Int} (h:bu w rb mb go cap log at_ wi ma off ov er) (hm:Below w.heap.size w w'):bu w' rb mb go cap log at_ wi ma off ov er :=
 h.dJ fun k hk=>hm.block k (h.lt k hk)
theorem bu.set {w:World} {rb mb cap at_:Nat} {go:Option Nat} {log:List Int} {wi ma off ov:Bool} {er:Int} (h:bu w rb mb go cap log at_ wi ma off ov er) (i:Nat) (u:Value) {at':Nat} {wi' ma' off' ov':Bool} {er':Int}
  (e:(#[Value.pointer (some ⟨mb,0,none⟩),.slice (go.map fun g=>⟨g,0,none⟩) log.length cap,.int .i64 at_,.bool wi,.bool ma,.bool off,.bool ov,.int .i64 er].setIfInBounds i u)=#[Value.pointer (some ⟨mb,0,none⟩),.slice (go.map fun g=>⟨g,0,none⟩) log.length cap,.int .i64 at',.bool wi',.bool ma',.bool off',.bool ov',.int .i64 er']) :
  bu (w.setCell ⟨rb,i,none⟩ u) rb mb go cap log at' wi' ma' off' ov' er':=by
 refine⟨?_,?_⟩
 ·rw[heap_setCell_same _ _ _ _ _ _ h.rec_,e]
 ·refine h.row.of_block fun g hg=>Below.heap_setCell _ _ _ _ ?_;rintro rfl;exact h.ne hg
theorem bu.drawn {w:World} {rb mb cap at_:Nat} {go:Option Nat} {log:List Int} {wi ma off ov:Bool} {er:Int} (h:bu w rb mb go cap log at_ wi ma off ov er) (n:Nat):bu (w.drewN n) rb mb go cap log at_ wi ma off ov er:=⟨h.rec_,h.row⟩
section
variable {w:World} {rb mb cap at_:Nat} {go:Option Nat} {log:List Int} {wi ma off ov:Bool} {er:Int}
theorem bu.c0 (h:bu w rb mb go cap log at_ wi ma off ov er):w.cell? ⟨rb,0,none⟩=some (.pointer (some ⟨mb,0,none⟩)):=aa h.rec_ 0
theorem bu.c1 (h:bu w rb mb go cap log at_ wi ma off ov er):w.cell? ⟨rb,1,none⟩=some (.slice (go.map fun g=>⟨g,0,none⟩) log.length cap):=aa h.rec_ 1
theorem bu.c2 (h:bu w rb mb go cap log at_ wi ma off ov er):w.cell? ⟨rb,2,none⟩=some (.int .i64 at_):=aa h.rec_ 2
theorem bu.c3 (h:bu w rb mb go cap log at_ wi ma off ov er):w.cell? ⟨rb,3,none⟩=some (.bool wi):=aa h.rec_ 3
theorem bu.c4 (h:bu w rb mb go cap log at_ wi ma off ov er):w.cell? ⟨rb,4,none⟩=some (.bool ma):=aa h.rec_ 4
theorem bu.c5 (h:bu w rb mb go cap log at_ wi ma off ov er):w.cell? ⟨rb,5,none⟩=some (.bool off):=aa h.rec_ 5
theorem bu.c6 (h:bu w rb mb go cap log at_ wi ma off ov er):w.cell? ⟨rb,6,none⟩=some (.bool ov):=aa h.rec_ 6
theorem bu.c7 (h:bu w rb mb go cap log at_ wi ma off ov er):w.cell? ⟨rb,7,none⟩=some (.int .i64 er):=aa h.rec_ 7
theorem qI (h:bu w rb mb go cap log at_ wi ma off ov er) :
  Calls Tryz.prog 29 #[.pointer (some ⟨rb,0,none⟩)] w fun e w'=>e=.returned (.bool ov)/\w=w':=by
 have h0:=h.c6;go_enter Tryz.func29,Tryz.ntmps29
 go_wp2
 go_ret;exact⟨rfl,rfl⟩
theorem nJ (h:bu w rb mb go cap log at_ wi ma off ov er) :
  Calls Tryz.prog 125 #[.pointer (some ⟨rb,0,none⟩)] w fun e w'=>e=.returned (.bool off)/\w=w':=by
 have h0:=h.c5;go_enter Tryz.func125,Tryz.ntmps125
 go_wp2
 go_ret;exact⟨rfl,rfl⟩
theorem IY (h:bu w rb mb go cap log at_ wi ma off ov er) :
  Calls Tryz.prog 53 #[.pointer (some ⟨rb,0,none⟩)] w fun e w'=>e=.returned (.int .i64 er)/\w=w':=by
 have h0:=h.c7;go_enter Tryz.func53,Tryz.ntmps53
 go_wp2
 go_ret;exact⟨rfl,rfl⟩
theorem EZ (w:World) (mb:Nat) :
  Calls Tryz.prog 21 #[.pointer (some ⟨mb,0,none⟩)] w fun e w'=>e=.returned (.pointer (some ⟨w.heap.size,0,none⟩))/\bu w' w.heap.size mb none 0 [] 0 false false false false 0/\Below w.heap.size w w':=by
 go_enter Tryz.func21,Tryz.ntmps21
 go_wp2
 go_ret;exact⟨rfl,⟨nZ w _,rfl,rfl⟩,aj⟩
theorem lI (h:bu w rb mb go cap log at_ true ma off ov er) (ha:at_=log.length) :
  Calls Tryz.prog 117 #[.pointer (some ⟨rb,0,none⟩)] w fun e w'=>e=.returned (.bool false)/\∃ n,w'=w.drewN n:=by
 subst ha;have h1:=h.c1;have h2:=h.c2;have h3:=h.c3;go_enter Tryz.func117,Tryz.ntmps117
 go_wp2
 go_quiet (fail)
 go_wp2
 go_ret;exact⟨rfl,_,rfl⟩
theorem x8 (h:bu w rb mb go cap log at_ true ma off ov er) (ha:at_<log.length) (hl:log.length<1000000000) :
  Calls Tryz.prog 117 #[.pointer (some ⟨rb,0,none⟩)] w fun e w'=>e=.returned (.bool true)/\bu w' rb mb go cap log (at_+1) true ma off ov er/\bB (·=rb) w w':=by
 have h1:=h.c1;have h2:=h.c2;have h3:=h.c3;have f2:=free_at h.rec_ 2;have e1:((at_:Int)==(log.length:Int))=false:=by simp;omega
 go_enter Tryz.func117,Tryz.ntmps117
 go_wp2
 go_quiet (fail)
 go_wp2
 go_ret;exact⟨rfl,(h.drawn _).set 2 _ sZ,bB.setCell (S:=fun k=>k=rb) ((bB.refl _ _).drewN _) (.inr rfl) _⟩
theorem rE (h:bu w rb mb go cap log at_ true false off ov er) :
  Calls Tryz.prog 118 #[.pointer (some ⟨rb,0,none⟩)] w fun e w'=>e=.returned (.bool true)/\bu w' rb mb go cap log at_ true true false ov er/\bB (·=rb) w w':=by
 have h3:=h.c3;have h4:=h.c4;have h5:=h.c5;have f4:=free_at h.rec_ 4;have f5:=free_at h.rec_ 5;go_enter Tryz.func118,Tryz.ntmps118
 go_wp2
 go_ret;exact⟨rfl,(h.set 5 _ (at':=at_) (wi':=true) (ma':=false) (off':=false) (ov':=ov) (er':=er) rfl).set 4 _ rfl,bB.setCell (S:=fun k=>k=rb) (bB.setCell (S:=fun k=>k=rb) (bB.refl _ _) (.inr rfl) _) (.inr rfl) _⟩
theorem Ep (h:bu w rb mb go cap log at_ true true off ov er) :
  Calls Tryz.prog 118 #[.pointer (some ⟨rb,0,none⟩)] w fun e w'=>e=.returned (.bool false)/\bu w' rb mb go cap log at_ true true true ov er/\bB (·=rb) w w':=by
 have h3:=h.c3;have h4:=h.c4;have h5:=h.c5;have f4:=free_at h.rec_ 4;have f5:=free_at h.rec_ 5;go_enter Tryz.func118,Tryz.ntmps118
 go_wp2
 go_ret;exact⟨rfl,(h.set 5 _ (at':=at_) (wi':=true) (ma':=true) (off':=true) (ov':=ov) (er':=er) rfl).set 4 _ rfl,bB.setCell (S:=fun k=>k=rb) (bB.setCell (S:=fun k=>k=rb) (bB.refl _ _) (.inr rfl) _) (.inr rfl) _⟩
theorem Cx (h:bu w rb mb go cap log at_ wi ma off ov er) (v:Int) :
  Calls Tryz.prog 119 #[.pointer (some ⟨rb,0,none⟩),.int .u32 v,.int .i64 2] w fun e w'=>e=.returned (.tuple #[])/\bu w' rb mb go cap log at_ wi ma true true 2/\bB (·=rb) w w':=by
 have h5:=h.c5;have h6:=h.c6;have h7:=h.c7;have f5:=free_at h.rec_ 5;have f6:=free_at h.rec_ 6;have f7:=free_at h.rec_ 7;go_enter Tryz.func119,Tryz.ntmps119
 go_wp2
 first | go_end0 | refine tZ (results_none rfl _ _ _) rfl ?_
 exact⟨rfl,((h.set 5 _ (at':=at_) (wi':=wi) (ma':=ma) (off':=true) (ov':=ov) (er':=er) rfl).set 6 _ (at':=at_) (wi':=wi) (ma':=ma) (off':=true) (ov':=true) (er':=er) rfl).set 7 _ rfl,bB.setCell (S:=fun k=>k=rb) (bB.setCell (S:=fun k=>k=rb) (bB.setCell (S:=fun k=>k=rb) (bB.refl _ _) (.inr rfl) _) (.inr rfl) _) (.inr rfl) _⟩
end
theorem Bt (w:World) (d p:Int) (hd0:-9223372036854775808<=d) (hd1:d<=9223372036854775807) (hp0:-9223372036854775808<=p) (hp1:p<=9223372036854775807) :
  Calls Tryz.prog 136 #[.int .i64 d,.int .i64 p] w fun e w'=>e=.returned (.tuple #[.int .u32 (dV d p),.int .i64 (fE d p)])/\w'=w:=by
 by_cases h:J6 d p
 ·have hx:dV d p=65536*d+p:=by unfold dV;rw[if_pos h]
  have he:fE d p=0:=by unfold fE;rw[if_pos h]
  rw[hx,he];obtain⟨h1,h2,h3,h4⟩:=h;clear hx he;go_enter Tryz.func136,Tryz.ntmps136
  go_wp2_with fail
  go_ret2
  exact⟨rfl,rfl⟩
 ·have hx:dV d p=0:=by unfold dV;rw[if_neg h]
  have he:fE d p=1:=by unfold fE;rw[if_neg h]
  rw[hx,he];clear hx he;unfold J6 at h;by_cases h1:d<0
  ·clear h;go_enter Tryz.func136,Tryz.ntmps136
   go_wp2_with fail
   go_ret2
   exact⟨rfl,rfl⟩
  by_cases h2:65535<d
  ·clear h;go_enter Tryz.func136,Tryz.ntmps136
   go_wp2_with fail
   go_ret2
   exact⟨rfl,rfl⟩
  by_cases h3:p<0
  ·clear h;go_enter Tryz.func136,Tryz.ntmps136
   go_wp2_with fail
   go_ret2
   exact⟨rfl,rfl⟩
  ·have h4:65535<p:=oZ;clear h;go_enter Tryz.func136,Tryz.ntmps136
   go_wp2_with fail
   go_ret2
   exact⟨rfl,rfl⟩
theorem Gq (h b:Nat) (hh:h<4294967296) (hb:b<256):(IntKind.u64.wrap (bits BinOp.xor IntKind.u64 (h:Int) (IntKind.u64.wrap (b:Int))*16777619)).tmod 4294967296=((ic h b:Nat):Int):=by
 have hx:h ^^^ b<4294967296:=Nat.xor_lt_two_pow (n:=32) hh oZ;rw[IntWalk.u64_in (b:Int) oZ,bits_xor_u64_nat h b oZ oZ];unfold ic;generalize h ^^^ b=x at hx;rw[IntWalk.u64_in _ oZ,Int.tmod_eq_emod_of_nonneg oZ];omega
theorem vM {s:ByteArray} {i:Nat} (h:i<s.size):(ax s).take (i+1)=(ax s).take i++[(s[i]'h).toNat]:=by
 have hl:i<(ax s).length:=by rw[aD];exact h
 rw[List.take_add_one,gZ hl];simp[ax];rfl
theorem IK (w:World) (s:ByteArray) (hs:s.size<=1000000):Calls Tryz.prog 132 #[.string s] w fun e w'=>e=.returned (.int .u32 (bZ (ax s)))/\w'=w:=by
 have HLt:=hJ (iD s);have HLn:=hJ (aD s);go_enter Tryz.func132,Tryz.ntmps132
 go_wp2_with fail
 go_loopw [3,4] (fun hv iv wr=>∃ i:Nat,i<=s.size/\iv=.int .i64 i/\hv=.int .u64 (bZ ((ax s).take i))/\wr=w) (fun _ iv _=>s.size-(intOf iv).toNat)
 case atStart=>exact⟨0,oZ,rfl,rfl,rfl⟩
 case round =>
  obtain⟨i,hi,rfl,rfl,rfl⟩:=hrel;by_cases hlt:i<s.size
  ·have hh:=oG ((ax s).take i);have hb:(s[i]'hlt).toNat<256:=(s[i]'hlt).toNat_lt;have HT:=hJ (show bZ ((ax s).take (i+1))=ic (bZ ((ax s).take i)) (s[i]'hlt).toNat by rw[vM hlt,yl]);generalize bZ ((ax s).take i)=h at hh HT;have HW:=hJ (Gq h (s[i]'hlt).toNat hh hb);clear hb;go_wp2_with fail
   refine⟨⟨i+1,oZ,sZ,?_,trivial⟩,by simp[intOf];omega⟩;rw[HT.out];exact congrArg (Value.int IntKind.u64) HW.out
  ·have hi':s.size=i:=oZ;rw[show (ax s).take i=ax s from List.take_of_length_le (by rw[aD];omega)];have hh:=oG (ax s);obtain⟨h,hE⟩:∃ h,bZ (ax s)=h:=⟨_,rfl⟩;have HE:=hJ hE;rw[hE] at hh ⊢;clear hi' hE;go_wp2_with fail
   go_ret;exact⟨by rw[HE.out];rfl,rfl⟩
theorem KH {w:World} {base:Nat} {v:Value} {f:Int} {s:ByteArray} (h:w.ownsRow base 5 1 v (1+s.size) ([.int .u8 f]++Lib.strCells s)) (h0:0<=f):BytesIn w base v (f.toNat :: ax s):=by
 unfold BytesIn;rw[List.length_cons,aD,Nat.add_comm]
 have e:(f.toNat :: ax s).map (fun(b:Nat)=>Value.int .u8 (b:Int))=[.int .u8 f]++Lib.strCells s:=by
  rw[List.map_cons,Int.toNat_of_nonneg h0];simp[ax,Lib.strCells]
 rw[e];exact h
theorem LF {f:Int} (h0:0<=f) (h1:f<=255) (s:ByteArray):∀ b∈f.toNat :: ax s,b<256:=by
 intro b hb;rcases List.mem_cons.1 hb with rfl | hb
 ·omega
 ·exact iD s b hb
theorem yH (w:World) (f:Int) (s:ByteArray) (h0:0<=f) (h1:f<=255) (hs:s.size<=1000000):Calls Tryz.prog 131 #[.int .u8 f,.string s] w fun e w'=>e=.returned (.string (ay (f.toNat :: ax s)))/\Below w.heap.size w w':=by
 obtain⟨iB,hi,hz0,hz1,hz2⟩:=info_parts jE;have HIB:=hJ (And.intro hi (And.intro hz0 (And.intro hz1 hz2)));clear hi hz0 hz1 hz2;go_enter Tryz.func131,Tryz.ntmps131
 have hrow:(w.alloc (.cells #[.int .u8 f] 5)).ownsRow w.heap.size 5 1 (.slice (some ⟨w.heap.size,0,none⟩) 1 1) 1 [.int .u8 f]:=World.ownsRow_lit (base:=w.heap.size) (e:=5) (size:=1) w #[.int .u8 f] 1 (Nat.le_refl _) dZ rfl;have HRow:=hJ hrow;clear hrow;go_wp2_with (at_builtin;refine Lib.wpList_append_own_string _ rfl (.tmp 8) (.tmp 9) 256 9 rfl w.heap.size 5 iB Tryz.underlying256 Tryz.underlying9 HIB.out.1 HIB.out.2.1 HIB.out.2.2.1 HIB.out.2.2.2 _ 1 [.int .u8 f] rfl HRow.out s rfl ?c3 ?c4 ?c5 ?_)
 case c3=>unfold maxLen;omega
 case c4=>omega
 case c5=>simp
 intro v' w2 ho hg _;have hI:=KH (f:=f) (s:=s) ho h0;have hB:=(show Below w.heap.size w (w.alloc (.cells #[.int .u8 f] 5)) from aj).grown hg sZ (fun k hk=>by simp[Value.ownBlock] at hk;omega);clear ho hg;have hc:=mr hI (LF h0 h1 s);have HB:=hJ hB;clear hB hI;go_wp2_with fail
 go_ret;exact⟨rfl,HB.out⟩
theorem qH:(Tryz.prog.info? 32).map (fun i=>(i.zero,i.size,i.bytes))=some (some (.int .u32 0),1,4):=kZ
theorem IG:(Tryz.prog.info? 32).map (·.size)=some 1:=kZ
theorem Js (n:Nat):madeCells (Value.cells (.int .u32 0)) n=(gN .u32 (List.replicate n 0)).toArray:=by
 apply Array.ext
 ·simp[madeCells,gN,Value.cells]
 ·intro i h1 h2;simp[madeCells,Value.cells,gN];try simp[Nat.mod_one]
theorem BI (n:Nat) (h2:n<=1000000) (w:World):(Instr.makeSlice 47 (.int .i64 n) (.int .i64 n)).run Tryz.prog w=.ok (.slice (some ⟨w.heap.size,0,none⟩) n n) (w.alloc (.cells (gN .u32 (List.replicate n 0)).toArray 32)):=by
 obtain⟨i0,hi,hz0,hz1,hz2⟩:=info_parts qH;have:=run_make (P:=Tryz.prog) w 47 32 i0 _ Tryz.underlying47 hi hz0 .i64 .i64 n n oZ oZ (by rw[hz2];omega) oZ;rw[this,hz1,Js];simp
inductive Pr (α:Type) where
 | ret (x:α)
 | load (a:Int) (k:Int->Pr α)
 | store (a v:Int) (k:Pr α)
variable {α β:Type}
def u32 (v:Int):Int:=IntKind.u32.wrap v
theorem u32_in {v:Int} (h:U v):u32 v=v:=IntWalk.u32_in _ (by have:=h.1;have:=h.2;omega)
def Pr.bind:Pr α->(α->Pr β)->Pr β
 | .ret x,f=>f x
 | .load a k,f=>.load a fun v=>(k v).bind f
 | .store a v k,f=>.store a v (k.bind f)
def Pr.on:Pr α->St->Option α×St
 | .ret x,st=>(some x,st)
 | .load a k,st=>if(st.load a).2.off=true then(none,(st.load a).2) else(k (st.load a).1).on (st.load a).2
 | .store a v k,st=>if(st.store a (u32 v)).off=true then(none,st.store a (u32 v)) else k.on (st.store a (u32 v))
def St.Good (st:St):Prop:=st.off=true->st.made=true/\st.at_=st.log.length
theorem St.wH {st:St} (h:st.Good) (ho:st.off=true) (a:Int):st.load a=(0,st):=by
 obtain⟨h1,h2⟩:=h ho;unfold St.load;rw[if_neg oZ,if_pos h1];cases st;simp_all
theorem St.nW {st:St} (h:st.Good) (ho:st.off=true) (a v:Int):st.store a v=st:=by
 obtain⟨h1,h2⟩:=h ho;unfold St.store;rw[if_neg oZ,if_pos h1];cases st;simp_all
theorem St.Good.load {st:St} (h:st.Good) (hat:st.at_<=st.log.length) (a:Int):(st.load a).2.Good:=by
 unfold St.load;split
 ·intro ho;have:=h ho;omega
 ·split
  ·intro _;exact⟨by assumption,by show st.at_=st.log.length;omega⟩
  ·split
   ·intro ho;simp at ho
   ·intro _;exact⟨rfl,by show st.at_=st.log.length;omega⟩
theorem St.Good.store {st:St} (h:st.Good) (hat:st.at_<=st.log.length) (a v:Int):(st.store a v).Good:=by
 unfold St.store;split
 ·intro ho;have:=h ho;omega
 ·split
  ·intro _;exact⟨by assumption,by show st.at_=st.log.length;omega⟩
  ·split
   ·intro ho;simp at ho
   ·intro _;exact⟨rfl,by show st.at_=st.log.length;omega⟩
structure St.dO (st:St) (B:Nat):Prop where
 ok:st.Ok B
 good:st.Good
theorem St.dO.load {st:St} {B:Nat} (h:st.dO B) (a:Int):(st.load a).2.dO B:=⟨(h.ok.load a).1,h.good.load h.ok.at_le a⟩
theorem St.dO.store {st:St} {B:Nat} (h:st.dO B) (a v:Int):(st.store a (u32 v)).dO B:=⟨h.ok.store a _ (qy v),h.good.store h.ok.at_le a _⟩
theorem fu {B:Nat}:∀ (p:Pr α) (st:St),st.dO B->(p.on st).2.dO B
 | .ret _,_,h=>h
 | .load a k,st,h=>by
  unfold Pr.on;split
  ·exact h.load a
  ·exact fu (k _) _ (h.load a)
 | .store a v k,st,h=>by
  unfold Pr.on;split
  ·exact h.store a v
  ·exact fu k _ (h.store a v)
theorem oJ:∀ (p:Pr α) (st:St),(p.on st).1=none->(p.on st).2.off=true
 | .ret _,_,h=>by simp[Pr.on] at h
 | .load a k,st,h=>by
  unfold Pr.on at h ⊢;split
  ·assumption
  ·rename_i ho
   rw[if_neg ho] at h;exact oJ (k _) _ h
 | .store a v k,st,h=>by
  unfold Pr.on at h ⊢;split
  ·assumption
  ·rename_i ho
   rw[if_neg ho] at h;exact oJ k _ h
theorem yV:∀ (p:Pr α) (st:St) (x:α),st.off=false->(p.on st).1=some x->(p.on st).2.off=false
 | .ret _,_,_,h,_=>h
 | .load a k,st,x,ho,h=>by
  unfold Pr.on at h ⊢;split
  ·rename_i h1
   rw[if_pos h1] at h;simp at h
  ·rename_i h1
   rw[if_neg h1] at h;exact yV (k _) _ x (by simpa using h1) h
 | .store a v k,st,x,ho,h=>by
  unfold Pr.on at h ⊢;split
  ·rename_i h1
   rw[if_pos h1] at h;simp at h
  ·rename_i h1
   rw[if_neg h1] at h;exact yV k _ x (by simpa using h1) h
theorem uQ (f:α->Pr β):∀ (p:Pr α) (st:St),(p.bind f).on st=match (p.on st).1 with
  | some x=>(f x).on (p.on st).2
  | none=>(none,(p.on st).2)
 | .ret _,_=>rfl
 | .load a k,st=>by
  simp only[Pr.bind,Pr.on];by_cases h:(st.load a).2.off=true
  ·rw[if_pos h,if_pos h]
  ·rw[if_neg h,if_neg h];exact uQ f (k _) _
 | .store a v k,st=>by
  simp only[Pr.bind,Pr.on];by_cases h:(st.store a (u32 v)).off=true
  ·rw[if_pos h,if_pos h]
  ·rw[if_neg h,if_neg h];exact uQ f k _
/-! ### What a Step makes of it -/
def Pr.after:Pr α->List Int->Pr α
 | p,[]=>p
 | .ret x,_ :: _=>.ret x
 | .load _ k,v :: l=>(k v).after l
 | .store _ _ k,_ :: l=>k.after l
def Pr.Fits:Pr α->List Int->Prop
 | _,[]=>True
 | .ret _,_ :: _=>False
 | .load _ k,v :: l=>(k v).Fits l
 | .store _ _ k,_ :: l=>k.Fits l
theorem vV (p:Pr α):p.Fits []:=by cases p <;> trivial
theorem oz (p:Pr α):p.after []=p:=by cases p <;> rfl
theorem mD:∀ (l:List Int) (p:Pr α) (v:Int),p.after (l++[v])=(p.after l).after [v]
 | [],p,v=>by rw[oz];rfl
 | y :: l,p,v=>by
  cases p with
  | ret x=>simp[Pr.after]
  | load a k=>exact mD l (k y) v
  | store a u k=>exact mD l k v
theorem oD:∀ (l:List Int) (p:Pr α) (v:Int),p.Fits l->(p.after l).Fits [v]->p.Fits (l++[v])
 | [],p,v,_,h=>by rw[oz] at h;exact h
 | y :: l,p,v,h1,h2=>by
  cases p with
  | ret x=>exact h1
  | load a k=>exact oD l (k y) v h1 h2
  | store a u k=>exact oD l k v h1 h2
theorem sF:∀ (l2 l1:List Int) (p:Pr α) (st:St),st.log=l1++l2->st.at_=l1.length->st.off=false->p.Fits l2->p.on st=(p.after l2).on {st with at_:=st.log.length}
 | [],l1,p,st,h1,h2,_,_=>by
  rw[oz]
  have:({st with at_:=st.log.length}:St)=st:=by
   cases st;simp_all
  rw[this]
 | v :: l2,l1,p,st,h1,h2,h3,h4=>by
  have hlt:st.at_<st.log.length:=by rw[h1,h2];simp
  have hv:st.log.getD st.at_ 0=v:=by rw[h1,h2];simp
  have hl:({st with at_:=st.at_+1}:St).log=(l1++[v])++l2:=by show st.log=_;rw[h1];simp
  have ha:({st with at_:=st.at_+1}:St).at_=(l1++[v]).length:=by show st.at_+1=_;rw[h2];simp
  cases p with
  | ret x=>exact h4.elim
  | load a k =>
   have e:st.load a=(v,{st with at_:=st.at_+1}):=by simp only[St.load,if_pos hlt,hv]
   have ih:=sF l2 (l1++[v]) (k v) {st with at_:=st.at_+1} hl ha h3 h4;simp only[Pr.on,e];rw[if_neg (by simp[h3]),ih];rfl
  | store a u k =>
   have e:st.store a (u32 u)={st with at_:=st.at_+1}:=by simp only[St.store,if_pos hlt]
   have ih:=sF l2 (l1++[v]) k {st with at_:=st.at_+1} hl ha h3 h4;simp only[Pr.on,e];rw[if_neg (by simp[h3]),ih];rfl
def St.shut (t:St):St:={t with over:=t.over||!t.off,off:=t.err != 0}
def St.iI (st:St) (p:Pr α):St:=if st.over=true then st else(p.on {st with at_:=0,made:=false}).2.shut
def St.FR (st:St) (p:Pr α):Option α:=(p.on {st with at_:=0,made:=false}).1
def Pr.next:Pr α->List Int->Pr α×List Int
 | .ret x,cs=>(.ret x,cs)
 | .load a k,cs=>(k (cs.getD a.toNat 0),cs)
 | .store a v k,cs=>(k,cs.set a.toNat (u32 v))
def Pr.In:Pr α->Nat->Prop
 | .ret _,_=>True
 | .load a _,n=>0<=a/\a<n
 | .store a _ _,n=>0<=a/\a<n
structure At (p q:Pr α) (st:St):Prop where
 fits:p.Fits st.log
 rest:p.after st.log=q
 over:st.over=false
 off:st.off=false
 err:st.err=0
theorem At.new (p:Pr α) (cs:List Int) (l s:Int):At p p ⟨[],0,false,false,false,0,cs,l,s⟩:=⟨vV p,oz p,rfl,rfl,rfl⟩
theorem At.turn {p q:Pr α} {st:St} (h:At p q st) (cs:List Int) (l s:Int):At p q {st with cs:=cs,l:=l,s:=s}:=⟨h.fits,h.rest,h.over,h.off,h.err⟩
theorem qG {p q:Pr α} {st:St} (h:At p q st):p.on {st with at_:=0,made:=false}=q.on {st with at_:=st.log.length,made:=false}:=by
 have:=sF st.log [] p {st with at_:=0,made:=false} sZ sZ h.off h.fits;rw[this,h.rest]
theorem Lt (q:Pr α) (st:St) (h1:st.made=true) (h2:st.at_=st.log.length):q.on st=match q with
  | .ret x=>(some x,st)
  | _=>(none,{st with off:=true}):=by
 cases q with
 | ret x=>rfl
 | load a k =>
  have e:st.load a=(0,{st with off:=true}):=by
   unfold St.load;rw[if_neg oZ,if_pos h1]
  simp only[Pr.on,e];rfl
 | store a v k =>
  have e:st.store a (u32 v)={st with off:=true}:=by
   unfold St.store;rw[if_neg oZ,if_pos h1]
  simp only[Pr.on,e];rfl
def Pr.qE:Pr α->Bool
 | .ret _=>true
 | _=>false
def Pr.ans:Pr α->Option α
 | .ret x=>some x
 | _=>none
theorem zg (q:Pr α) (st:St) (h1:st.made=true) (h2:st.at_=st.log.length) (h3:st.off=false):(q.on st).1=q.ans/\(q.on st).2={st with off:=!q.qE}:=by
 rw[Lt q st h1 h2];cases q with
 | ret x=>exact⟨rfl,by cases st;simp_all [Pr.qE]⟩
 | load a k=>exact⟨rfl,rfl⟩
 | store a v k=>exact⟨rfl,rfl⟩
structure Stepped (p q:Pr α) (cs:List Int) (st st':St) (n:Option α):Prop where
 ans:n=(q.next cs).1.ans
 cells:st'.cs=(q.next cs).2
 over:st'.over=(q.next cs).1.qE
 at_:(q.next cs).1.qE=false->At p (q.next cs).1 st'
 err:st'.err=0
 count:st'.log.length<=st.log.length+1
 sum:st'.l+st'.s<=st.l+st.s+1
 l0:st.l<=st'.l
 s0:st.s<=st'.s
theorem xI {p q:Pr α} {st:St} (h:At p q st) (hin:q.In st.cs.length):Stepped p q st.cs st (st.iI p) (st.FR p):=by
 have ho:=qG h
 have e1:st.iI p=(q.on {st with at_:=st.log.length,made:=false}).2.shut:=by
  unfold St.iI;rw[if_neg (by simp[h.over]),ho]
 have e2:st.FR p=(q.on {st with at_:=st.log.length,made:=false}).1:=by unfold St.FR;rw[ho]
 rw[e1,e2];clear e1 e2 ho;unfold St.shut;cases q with
 | ret x=>exact⟨rfl,rfl,by simp[Pr.on,h.off,h.over,Pr.next,Pr.qE],by simp[Pr.next,Pr.qE],h.err,by simp[Pr.on],by simp only[Pr.on];omega,by simp[Pr.on],by simp[Pr.on]⟩
 | load a k =>
  obtain⟨h1,h2⟩:=hin
  have e:({st with at_:=st.log.length,made:=false}:St).load a=(st.cs.getD a.toNat 0,{st with made:=true,off:=false,log:=st.log++[st.cs.getD a.toNat 0],at_:=st.log.length+1,l:=st.l+1}):=by
   have hk:=nA h1 h2;simp[St.load,hk]
  have hf:=zg (k (st.cs.getD a.toNat 0)) {st with made:=true,off:=false,log:=st.log++[st.cs.getD a.toNat 0],at_:=st.log.length+1,l:=st.l+1} rfl sZ rfl;simp only[Pr.on,e];rw[if_neg sZ,hf.1,hf.2];refine⟨rfl,rfl,by simp[h.over,Pr.next],fun hr=>⟨oD _ _ _ h.fits (by rw[h.rest];exact vV _),?_,by simp[h.over];exact hr,by simp[h.err],h.err⟩,h.err,sZ,by simp;omega,by simp;omega,sZ⟩;show p.after (st.log++_)=_;rw[mD,h.rest];simp only[Pr.after,Pr.next]
 | store a v k =>
  obtain⟨h1,h2⟩:=hin
  have e:({st with at_:=st.log.length,made:=false}:St).store a (u32 v)={st with made:=true,off:=false,log:=st.log++[0],at_:=st.log.length+1,cs:=st.cs.set a.toNat (u32 v),s:=st.s+1}:=by
   have hk:=nA h1 h2;simp[St.store,hk]
  have hf:=zg k {st with made:=true,off:=false,log:=st.log++[0],at_:=st.log.length+1,cs:=st.cs.set a.toNat (u32 v),s:=st.s+1} rfl sZ rfl;simp only[Pr.on,e];rw[if_neg sZ,hf.1,hf.2];refine⟨rfl,rfl,by simp[h.over,Pr.next],fun hr=>⟨oD _ _ _ h.fits (by rw[h.rest];exact vV _),?_,by simp[h.over];exact hr,by simp[h.err],h.err⟩,h.err,sZ,by simp;omega,sZ,by simp;omega⟩;show p.after (st.log++_)=_;rw[mD,h.rest];simp only[Pr.after,Pr.next]
theorem At.fine {p q:Pr α} {st:St} (h:At p q st) {B:Nat} (hl:st.log.length+1<=B) (h0:0<=st.l) (h1:0<=st.s) (h2:st.l+st.s+1<=B) (hlu:∀ x∈st.log,U x) (hcu:∀ x∈st.cs,U x):({st with at_:=0,made:=false}:St).dO B :=
 ⟨⟨Nat.zero_le _,by simp;omega,h0,h1,by simp;omega,hlu,hcu⟩,fun ho=>by have:=h.off;simp_all⟩
/-! ### At once -/
inductive Does:Pr α->List Int->Nat->α->List Int->Prop
 | ret (x:α) (cs:List Int):Does (.ret x) cs 0 x cs
 | load {a:Int} {k:Int->Pr α} {cs cs':List Int} {n:Nat} {x:α}:0<=a->a<cs.length->Does (k (cs.getD a.toNat 0)) cs n x cs'->Does (.load a k) cs (n+1) x cs'
 | store {a v:Int} {k:Pr α} {cs cs':List Int} {n:Nat} {x:α}:0<=a->a<cs.length->Does k (cs.set a.toNat (u32 v)) n x cs'->Does (.store a v k) cs (n+1) x cs'
theorem Does.step {q:Pr α} {cs cs':List Int} {n:Nat} {x:α} (h:Does q cs n x cs'):q.In cs.length/\Does (q.next cs).1 (q.next cs).2 (n-1) x cs'/\(0<n∨(q.next cs).1=.ret x):=by
 cases h with
 | ret=>exact⟨trivial,.ret _ _,.inr rfl⟩
 | load h1 h2 h3=>exact⟨⟨h1,h2⟩,h3,.inl oZ⟩
 | store h1 h2 h3=>exact⟨⟨h1,h2⟩,h3,.inl oZ⟩
theorem Does.yN {y:α} {cs cs':List Int} {n:Nat} {x:α} (h:Does (.ret y) cs n x cs'):y=x/\cs'=cs/\n=0:=by
 cases h;exact⟨rfl,rfl,rfl⟩
theorem Does.len {q:Pr α} {cs cs':List Int} {n:Nat} {x:α} (h:Does q cs n x cs'):cs'.length=cs.length:=by
 induction h with
 | ret=>rfl
 | load _ _ _ ih=>exact ih
 | store _ _ _ ih=>rw[ih,List.length_set]
/-! ### Whoever stores between its Steps -/
theorem bB.BH {w w':World} {row:Option Nat} (h:w.grownBy w' row):bB (fun k=>row=some k) w w':=⟨h.os,h.tape,h.output,h.size,fun k hk hs=>h.block k hk (fun e=>hs e.symm)⟩
theorem jO.owns {w:World} {g cap:Nat} {log:List Int} (h:jO w (some g) cap log):w.ownsRow 0 32 1 (.slice (some ⟨g,0,none⟩) log.length cap) log.length (log.map (Value.int .u32)):=by
 obtain⟨cur,h1,h2,h3,h4,h5⟩:=h;exact⟨sZ,.inr ⟨g,cap,cur,rfl,Nat.zero_le _,h1,h2,h3,oZ,by simpa using h5⟩⟩
theorem jO.EU {w:World} {base n:Nat} {v:Value} {xs:List Value} {log:List Int} (h:w.ownsRow base 32 1 v n xs) (hn:n=log.length) (hx:xs=log.map (Value.int .u32)) (h0:0<n) :
  ∃ g cap,v=.slice (some ⟨g,0,none⟩) log.length cap/\base<=g/\jO w (some g) cap log:=by
 subst hn hx;obtain⟨_,h | ⟨g,cap,cur,h1,h2,h3,h4,h5,h6,h7⟩⟩:=h
 ·omega
 ·exact⟨g,cap,h1,h2,cur,h3,h4,h5,oZ,by simpa using h7⟩
section
variable {P:Program}
theorem qR {w:World} {ops:Array Oper} {rest:List Oper} {o:Oper} {a:Act} {Q:Exit->Act->World->Prop}
  (hg:o.guard=none) (s x:Operand) (hop:o.op=Op.call {callee:=Callee.builtin Builtin.append,args:=#[s,x],argTypes:=#[47,47]})
  {go:Option Nat} {cap:Nat} {log:List Int} (hlog:jO w go cap log) (hl:log.length<1000000000) (hs:a.eval s=.slice (go.map fun g=>⟨g,0,none⟩) log.length cap)
  (b:Nat) (v:Int) (hx:a.eval x=.slice (some ⟨b,0,none⟩) 1 1) (hc:w.cell? ⟨b,0,none⟩=some (.int .u32 v))
  (h:∀ go' cap' w',jO w' go' cap' (log++[v])->(go'=go∨∃ g,go'=some g/\w.heap.size<=g)->bB (fun k=>go=some k) w w'->wpList Tryz.prog ops Q rest (a.put o.dst (.slice (go'.map fun g=>⟨g,0,none⟩) (log.length+1) cap')) w') :
  wpList Tryz.prog ops Q (o :: rest) a w:=by
 obtain⟨i0,hi,hz0,hz1,hz2⟩:=info_parts Am
 have hnews:∀ (j:Nat) (u:Value),[Value.int .u32 v][j]?=some u->w.cell? ((⟨b,0,none⟩:Addr).add j)=some u:=by
  intro j u hj;rcases j with _ | j
  ·simp at hj;subst hj;rw[Addr.add_lit];exact hc
  ·simp at hj
 by_cases hroom:log.length+1<=cap
 ·cases go with
  | none=>obtain⟨_,rfl⟩:=hlog;omega
  | some g =>
   refine wpList_append_fits w hg s x 47 hop 0 32 i0 1 Tryz.underlying47 hi hz1 g log.length cap (log.map (Value.int .u32)) hs hlog.owns ⟨b,0,none⟩ 1 1 [.int .u32 v] hx rfl hnews vZ hroom ?_;intro w' ho hgr;obtain⟨g',cap',hv,_,hl'⟩:=jO.EU (log:=log++[v]) ho sZ sZ oZ;simp only[Value.slice.injEq,Option.some.injEq,Addr.mk.injEq,and_true] at hv;obtain⟨rfl,_,rfl⟩:=hv;exact h (some g) cap w' hl' (.inl rfl) (bB.BH hgr)
 ·refine wpList_append_grows w hg s x 47 hop 32 i0 _ 1 4 Tryz.underlying47 hi hz0 hz1 hz2 rfl dZ (go.map fun g=>⟨g,0,none⟩) log.length cap (log.map (Value.int .u32)) hs ?_ sZ ?_ ⟨b,0,none⟩ 1 1 [.int .u32 v] hx rfl hnews vZ oZ mZ oZ ?_
  ·intro hn;cases go with
   | none=>obtain⟨rfl,rfl⟩:=hlog;exact⟨rfl,rfl⟩
   | some g=>simp at hn
  ·intro ad had j u hj;cases go with
   | none=>simp at had
   | some g =>
    simp at had;subst had;exact hlog.owns.cells (g:=g) rfl j u hj
  ·intro v' w' ho hgr;obtain⟨g',cap',rfl,hge,hl'⟩:=jO.EU (log:=log++[v]) ho sZ sZ oZ;have:=h (some g') cap' w' hl' (.inr ⟨g',rfl,hge⟩) ((bB.BH hgr).mono fun k _ hk=>by cases hk);simpa using this
end
section
variable {w:World} {rb mb cap at_:Nat} {go:Option Nat} {log:List Int} {wi ma off ov:Bool} {er:Int}
theorem EG (h:bu w rb mb go cap log at_ wi ma off ov er) (v:Int) (hl:log.length<1000000000) (ha:at_<1000000000) :
  Calls Tryz.prog 119 #[.pointer (some ⟨rb,0,none⟩),.int .u32 v,.int .i64 0] w fun e w'=>e=.returned (.tuple #[])/\∃ go' cap',bu w' rb mb go' cap' (log++[v]) (at_+1) wi ma off ov er/\(go'=go∨∃ g,go'=some g/\w.heap.size<=g)/\bB (wO rb go) w w':=by
 have h1:=h.c1;have hlt:=lt_of_heap h.rec_;have H:=hJ h;clear h;have hne:¬ w.heap.size=rb:=oZ;go_enter Tryz.func119,Tryz.ntmps119
 go_wp2_with (at_builtin;refine qR rfl (.tmp 22) (.tmp 24) rfl (H.out.row.of_block fun g hg=>Below.heap_alloc _ _ _ (H.out.lt g (.inr hg))) hl rfl w.heap.size v rfl (aa (nZ w _) 0) ?_;intro go' cap' w1 hl1 hgo1 hm1;have hr1:=(hm1.block rb uZ (fun e=>H.out.ne e)).trans ((Below.heap_alloc _ _ _ hlt).trans H.out.rec_);have k1:=aa hr1 1;have k2:=aa hr1 2;have f1:=free_at hr1 1;have f2:=free_at hr1 2;have HE:=hJ (And.intro hl1 (And.intro hgo1 (And.intro hm1 hr1)));clear hl1 hgo1 hm1 hr1)
 go_end0
 obtain⟨hl1,hgo1,hm1,hr1⟩:=HE.out;refine⟨rfl,go',cap',⟨?_,?_⟩,?_,?_⟩
 ·rw[heap_setCell_same _ _ _ _ _ _ (heap_setCell_same _ _ _ _ _ _ hr1)];simp
 ·refine hl1.of_block fun g hg=>?_
  have hgr:g≠rb:=by
   rintro rfl;subst hg;obtain⟨cur,hx,_⟩:=hl1;rw[hr1] at hx;simp at hx
  rw[Below.heap_setCell _ _ _ _ hgr,Below.heap_setCell _ _ _ _ hgr]
 ·rcases hgo1 with e | ⟨g,e,hg⟩
  ·exact .inl e
  ·exact .inr ⟨g,e,by simp at hg;omega⟩
 ·refine bB.setCell (S:=wO rb go) (bB.setCell (S:=wO rb go) ?_ (.inr (.inl rfl)) _) (.inr (.inl rfl)) _;exact((bB.refl (wO rb go) w).alloc _).trans (hm1.mono fun k _ hk=>.inr hk)
end
theorem byte_at {s:ByteArray} {i:Nat} (h:i<s.size):(ax s).getD i 0=(s[i]'h).toNat:=by
 have hl:i<(ax s).length:=by rw[aD];exact h
 rw[List.getD_eq_getElem?_getD,gZ hl];simp[ax];rfl
theorem JD {s:ByteArray} {i:Nat} (h:¬ i<s.size):(ax s).getD i 0=0:=by
 rw[List.getD_eq_getElem?_getD,List.getElem?_eq_none (by rw[aD];omega)];rfl
theorem yn (W:World) (s:ByteArray) (hs:s.size<=1000000):Calls Tryz.prog 95 #[.string s] W fun e w'=>∃ v,e=.returned v/\fP 32 .u32 w' W.heap.size v (aF (ax s))/\Below W.heap.size W w':=by
 obtain⟨i0,hi,hz0,hz1,hz2⟩:=info_parts qH;have HI:=hJ (And.intro hi (And.intro hz0 (And.intro hz1 hz2)));clear hi hz0 hz1 hz2;obtain⟨L,hL⟩:∃ L,L=ax s:=⟨_,rfl⟩;have HLt:=hJ (show ∀ b∈L,b<256 by rw[hL];exact iD s);have HLn:=hJ (show L.length=s.size by rw[hL];exact aD s);have HIn:=hJ (show ∀ (i:Nat) (h:i<s.size),L.getD i 0=(s[i]'h).toNat from fun i h=>by rw[hL];exact byte_at h);have HOut:=hJ (show ∀ (i:Nat),¬ i<s.size->L.getD i 0=0 from fun i h=>by rw[hL];exact JD h);rw[<- hL];clear hL;go_enter Tryz.func95,Tryz.ntmps95
 go_wp2_with fail
 go_loopw [3,4] (fun v iv wr=>∃ j b:Nat,Hid (b=4*j/\b<=s.size+3)/\iv=.int .i64 (b:Int)/\fP 32 .u32 wr W.heap.size v (gM L j)/\Below W.heap.size W wr) (fun _ iv _=>s.size+4-(intOf iv).toNat)
 case atStart=>exact⟨0,0,hJ ⟨rfl,oZ⟩,rfl,fP.new _ _ W _ (Nat.le_refl _),aj⟩
 case round =>
  obtain⟨j,b,HBJ,rfl,hown,hlow⟩:=hrel;have HO:=hJ hown;have HW:=hJ hlow;clear hown hlow;by_cases hlt:b<s.size
  ·have hlt1:(b:Int)<(s.size:Int):=oZ;go_wp2_with fail
   go_loopw [5,6] (fun nv kv wq=>∃ t:Nat,t<=4/\kv=.int .i64 ((t:Int)-1)/\nv=.int .u32 (iO L b (4-t):Nat)/\wq=wr) (fun _ kv _=>(intOf kv+1).toNat)
   case atStart=>exact⟨4,oZ,rfl,rfl,rfl⟩
   case round =>
    obtain⟨t,ht,rfl,rfl,hw⟩:=hrel;have hw':=hw.symm;subst hw';rcases t with _ | t
    ·have hh:=CL L j;rw[<- HBJ.out.1] at hh;obtain⟨cv,hcv⟩:∃ cv,cv=iO L b 4:=⟨_,rfl⟩;have HT:=hJ (show gM L (j+1)=gM L j++[cv] by rw[zR,hcv,hh]);have HLen:=hJ (mV L j);rw[<- hcv];have e0:(((0:Nat):Int)-1)=-1:=oZ;rw[e0];clear hh hcv e0;go_wp2_with (at_builtin;refine wpList_append_own _ rfl (.tmp 34) (.tmp 36) 47 rfl W.heap.size 32 i0 _ 1 4 Tryz.underlying47 HI.out.1 HI.out.2.1 HI.out.2.2.1 HI.out.2.2.2 rfl dZ _ (gM L j).length (gN .u32 (gM L j)) rfl (World.ownsRow.alloc HO.out _) ⟨_,0,none⟩ 1 1 [.int .u32 cv] rfl rfl one_cell vZ (by have:=HLen.out;have:=HBJ.out;unfold maxLen;omega) (by have:=HLen.out;have:=HBJ.out;omega) (by have:=HW.out.size;simp;omega) ?_;intro v' w5 ho hg _;have HO5:=hJ (fP.more (m:=[cv]) HW.out HO.out ho hg);clear ho hg)
     go_roundw
     case rel =>
      refine⟨j+1,b+4,hJ ⟨by have:=HBJ.out;omega,oZ⟩,by go_num,?_,HO5.out.2⟩;rw[HT.out];exact HO5.out.1
     case measure=>simp[intOf];omega
    ·have e0:(((t+1:Nat):Int)-1)=(t:Int):=oZ;rw[e0];have hm:=Cq HLt.out b (4-(t+1)) oZ
     have hstep:iO L b (4-t)=256*iO L b (4-(t+1))+L.getD (b+t) 0:=by
      have e1:4-t=(4-(t+1))+1:=oZ;rw[e1];show 256*iO L b (4-(t+1))+L.getD (b+(3-(4-(t+1)))) 0=_;have e2:3-(4-(t+1))=t:=oZ;rw[e2]
     obtain⟨p,hp⟩:∃ p,p=b+t:=⟨_,rfl⟩;rw[<- hp] at hstep;have hs1:(b:Int)+(t:Int)=(p:Int):=oZ;have hs2:IntKind.i64.wrap ((b:Int)+(t:Int))=(p:Int):=by rw[hs1];exact iZ _ oZ
     have ht4:t<=3:=oZ;generalize iO L b (4-(t+1))=h at hm hstep;obtain⟨h2,hh2⟩:∃ h2,h2=256*h:=⟨_,rfl⟩;have hw1:IntKind.u32.wrap ((h:Int)*256)=(h2:Int):=by rw[IntWalk.u32_in _ oZ];omega
     have HST:=hJ hstep;have HH2:=hJ hh2;have hb2:h2<=4294967040:=oZ;have HP:=hJ hp;clear hstep hh2 hm e0 hp;by_cases hin:p<s.size
     ·have hin1:(p:Int)<(s.size:Int):=oZ;have hb:=(s[p]'hin).toNat_lt;obtain⟨h3,hh3⟩:∃ h3,h3=h2+(s[p]'hin).toNat:=⟨_,rfl⟩;have hw2:IntKind.u32.wrap ((s[p]'hin).toNat:Int)=((s[p]'hin).toNat:Int):=IntWalk.u32_in _ oZ;have hw3:IntKind.u32.wrap ((h2:Int)+((s[p]'hin).toNat:Int))=(h3:Int):=by rw[IntWalk.u32_in _ oZ];omega
      have HH3:=hJ hh3;clear hb hh3;go_wp2_with fail
      go_roundw
      case rel=>exact⟨t,oZ,by go_num,by rw[HST.out,HH3.out,HH2.out,HIn.out p hin],trivial⟩
      case measure=>simp[intOf]
     ·have hin1:¬ (p:Int)<(s.size:Int):=oZ;go_wp2_with fail
      go_roundw
      case rel=>exact⟨t,oZ,by go_num,by rw[HST.out,HH2.out,HOut.out p hin];rfl,trivial⟩
      case measure=>simp[intOf]
  ·have hj:gM L j=aF L:=by
    unfold aF;have:=HBJ.out;have:=HLn.out;rw[show (L.length+3) / 4=j by omega]
   have hlt1:¬ (b:Int)<(s.size:Int):=oZ;rw[hj] at HO;go_wp2_with fail
   go_ret;exact⟨_,rfl,HO.out,HW.out⟩

variable {α σ:Type}
section
variable {I:σ->List Int->Prop} {le:σ->σ->Prop} {Post:σ->α->Prop} {n:Nat} {s:σ} {q:Pr α}
end
structure RM (w:World) (rb mb cb:Nat) (go:Option Nat) (wi:Bool) (st:St):Prop where
 run:∃ cap,bu w rb mb go cap st.log st.at_ wi st.made st.off st.over st.err
 mem:bD w mb cb st.cs st.l st.s
 ne:go≠some cb
def fD (rb mb cb:Nat) (go:Option Nat) (k:Nat):Prop:=k=rb∨go=some k∨k=mb∨k=cb
def K5 (w:World) (go go':Option Nat):Prop:=go'=go∨∃ g,go'=some g/\w.heap.size<=g
structure jl (rb mb cb:Nat) (w:World) (go:Option Nat) (w':World) (go':Option Nat):Prop where
 grows:K5 w go go'
 mod:bB (fD rb mb cb go) w w'
theorem bB.then {S T:Nat->Prop} {a b c:World} (h:bB S a b) (k:bB T b c) (hst:∀ i,i<a.heap.size->T i->S i):bB S a c :=
 ⟨k.os.trans h.os,k.tape.trans h.tape,k.output.trans h.output,Nat.le_trans h.size k.size,fun i hi hs=>(k.block i (Nat.lt_of_lt_of_le hi h.size) fun ht=>hs (hst i hi ht)).trans (h.block i hi hs)⟩
theorem jl.trans {rb mb cb:Nat} {w w1 w2:World} {go go1 go2:Option Nat} (h:jl rb mb cb w go w1 go1) (k:jl rb mb cb w1 go1 w2 go2):jl rb mb cb w go w2 go2:=by
 refine⟨?_,h.mod.then k.mod ?_⟩
 ·rcases k.grows with e | ⟨g,e,hg⟩
  ·rw[e];exact h.grows
  ·exact .inr ⟨g,e,Nat.le_trans h.mod.size hg⟩
 ·rintro i hi (e | e | e)
  ·exact .inl e
  ·rcases h.grows with e' | ⟨g,e',hg⟩
   ·exact .inr (.inl (e' ▸ e))
   ·rw[e'] at e;cases e;omega
  ·exact .inr (.inr e)
theorem jl.lu {rb mb cb:Nat} {w w':World} {go:Option Nat} {S:Nat->Prop} (h:bB S w w') (hS:∀ k,S k->fD rb mb cb go k):jl rb mb cb w go w' go:=⟨.inl rfl,h.mono fun k _ hk=>hS k hk⟩
theorem jl.of_below {rb mb cb:Nat} {w w':World} {go:Option Nat} (h:Below w.heap.size w w'):jl rb mb cb w go w' go:=⟨.inl rfl,Below.mod h _ fun k hk hk'=>oZ⟩
theorem RM.pz {w:World} {rb mb cb:Nat} {go:Option Nat} {wi:Bool} {st:St} (h:RM w rb mb cb go wi st):rb≠mb/\rb≠cb/\go≠some mb:=by
 obtain⟨cap,h1⟩:=h.run;have h2:=h.mem;refine⟨?_,?_,?_⟩
 ·rintro rfl;have:=h1.rec_.symm.trans h2.rec_;simp at this
 ·rintro rfl;have:=h1.rec_.symm.trans h2.row;simp at this
 ·rintro rfl;obtain⟨cur,h3,_⟩:=h1.row;have:=h3.symm.trans h2.rec_;simp at this
theorem RM.lt {w:World} {rb mb cb:Nat} {go:Option Nat} {wi:Bool} {st:St} (h:RM w rb mb cb go wi st):∀ k,fD rb mb cb go k->k<w.heap.size:=by
 obtain⟨cap,h1⟩:=h.run;rintro k (e | e | e | e)
 ·exact h1.lt k (.inl e)
 ·exact h1.lt k (.inr e)
 ·rw[e];exact lt_of_heap h.mem.rec_
 ·rw[e];exact lt_of_heap h.mem.row
theorem RM.dJ {w w':World} {rb mb cb:Nat} {go:Option Nat} {wi:Bool} {st:St} (h:RM w rb mb cb go wi st) (hb:∀ k,fD rb mb cb go k->w'.heap[k]?=w.heap[k]?):RM w' rb mb cb go wi st:=by
 obtain⟨cap,h1⟩:=h.run;exact⟨⟨cap,h1.dJ fun k hk=>hb k (hk.elim .inl fun e=>.inr (.inl e))⟩,h.mem.dJ (hb mb (.inr (.inr (.inl rfl)))) (hb cb (.inr (.inr (.inr rfl)))),h.ne⟩
theorem RM.mod {w w':World} {rb mb cb:Nat} {go:Option Nat} {wi:Bool} {st:St} (h:RM w rb mb cb go wi st) {S:Nat->Prop} (hm:bB S w w') (hS:∀ k,fD rb mb cb go k->¬ S k):RM w' rb mb cb go wi st :=
 h.dJ fun k hk=>hm.block k (h.lt k hk) (hS k hk)
theorem RM.below {w w':World} {rb mb cb:Nat} {go:Option Nat} {wi:Bool} {st:St} (h:RM w rb mb cb go wi st) (hm:Below w.heap.size w w'):RM w' rb mb cb go wi st :=
 h.dJ fun k hk=>hm.block k (h.lt k hk)
theorem jO.cell {w:World} {go:Option Nat} {cap:Nat} {log:List Int} (h:jO w go cap log) {i:Nat} (hi:i<log.length):∃ g,go=some g/\log.length<=cap/\w.cell? ⟨g,i,none⟩=some (.int .u32 (log.getD i 0)):=by
 cases go with
 | none=>obtain⟨rfl,_⟩:=h;simp at hi
 | some g =>
  obtain⟨cur,h1,h2,h3,h4,h5⟩:=h;refine⟨g,rfl,h2,?_⟩;rw[aa h1];have:(cur.toList.take log.length)[i]?=some (Value.int .u32 (log.getD i 0)):=by rw[h5];simp[hi]
  rw[List.getElem?_take_of_lt hi] at this;simpa using this
section
variable {w:World} {rb mb cb:Nat} {go:Option Nat} {st:St}
theorem Hw (h:RM w rb mb cb go true st) (a:Int) (ha:st.at_<st.log.length) (hl:st.log.length<1000000000) :
  Calls Tryz.prog 114 #[.pointer (some ⟨rb,0,none⟩),.int .i64 a] w fun e w'=>e=.returned (.int .u32 (st.log.getD st.at_ 0))/\RM w' rb mb cb go true {st with at_:=st.at_+1}/\jl rb mb cb w go w' go:=by
 have H:=hJ h;obtain⟨hrm,hrc,hgm⟩:=h.pz;obtain⟨cap,h1⟩:=h.run;obtain⟨g,rfl,hcap,_⟩:=h1.row.cell ha;have H1:=hJ h1;obtain⟨z,hz⟩:∃ z,z=st.log.getD st.at_ 0:=⟨_,rfl⟩;rw[<- hz];have HZ:=hJ hz;clear h h1 hz;go_enter Tryz.func114,Tryz.ntmps114
 go_wp2_with fail
 refine(x8 H1.out ha hl).mono ?_;rintro e w1 ⟨rfl,hr1,hm1⟩
 have hcell:w1.cell? ⟨g,st.at_,none⟩=some (.int .u32 z):=by
  obtain⟨g',e,_,hc⟩:=hr1.row.cell ha;obtain rfl:g=g':=Option.some.inj e;rw[hc,HZ.out]
 have k1:=hr1.c1;have k2:=hr1.c2;have e1:IntKind.i64.wrap (((st.at_+1:Nat):Int)-1)=(st.at_:Int):=by rw[iZ _ oZ];omega
 have hlt1:(st.at_:Int)<(st.log.length:Int):=oZ;have HE:=hJ (And.intro hr1 hm1);clear hr1 hm1;simp only[Option.map_some] at k1;go_wp2_with fail
 go_quiet (fail)
 go_wp2_with fail
 go_ret;obtain⟨hr1,hm1⟩:=HE.out;refine⟨rfl,⟨⟨cap,hr1.drawn _⟩,(H.out.mem.mod hm1 (Ne.symm hrm) (Ne.symm hrc)).dJ rfl rfl,H.out.ne⟩,?_⟩;exact jl.lu (hm1.drewN _) fun k hk=>.inl hk
theorem Ij (h:RM w rb mb cb go true st) (a:Int) (ha:st.at_=st.log.length) (hm:st.made=true) :
  Calls Tryz.prog 114 #[.pointer (some ⟨rb,0,none⟩),.int .i64 a] w fun e w'=>e=.returned (.int .u32 0)/\RM w' rb mb cb go true {st with off:=true}/\jl rb mb cb w go w' go:=by
 have H:=hJ h;obtain⟨hrm,hrc,hgm⟩:=h.pz;obtain⟨cap,h1⟩:=h.run;rw[hm] at h1;have H1:=hJ h1;have HM:=hJ hm;have HA:=hJ ha;clear h h1 hm ha;go_enter Tryz.func114,Tryz.ntmps114
 go_wp2_with fail
 refine(lI H1.out HA.out).mono ?_;rintro e w1 ⟨rfl,n,hw1⟩;have hr1:bu w1 rb mb go cap st.log st.at_ true true st.off st.over st.err:=by rw[hw1];exact H1.out.drawn n
 have HW:=hJ hw1;clear hw1;go_wp2_with fail
 refine(Ep hr1).mono ?_;rintro e w2 ⟨rfl,hr2,hm2⟩;have HE:=hJ (And.intro hr2 hm2);clear hr1 hr2 hm2;go_wp2_with fail
 go_ret;obtain⟨hr2,hm2⟩:=HE.out;have hm2':bB (·=rb) w w2:=((show bB (·=rb) w w1 by rw[HW.out];exact(bB.refl _ _).drewN n)).trans hm2;refine⟨rfl,⟨⟨cap,by simpa [HM.out] using hr2⟩,H.out.mem.mod hm2' (Ne.symm hrm) (Ne.symm hrc),H.out.ne⟩,?_⟩;exact jl.lu hm2' fun k hk=>.inl hk
theorem Ih (h:RM w rb mb cb go true st) (a:Nat) (ha:st.at_=st.log.length) (hm:st.made=false) (hin:a<st.cs.length) (hl:st.log.length<1000000000) (hl0:0<=st.l) (hl1:st.l<1000000000) :
  Calls Tryz.prog 114 #[.pointer (some ⟨rb,0,none⟩),.int .i64 a] w fun e w'=>e=.returned (.int .u32 (st.cs.getD a 0))/\∃ go',RM w' rb mb cb go' true {st with made:=true,off:=false,log:=st.log++[st.cs.getD a 0],at_:=st.at_+1,l:=st.l+1}/\jl rb mb cb w go w' go':=by
 have H:=hJ h;obtain⟨hrm,hrc,hgm⟩:=h.pz;obtain⟨cap,h1⟩:=h.run;rw[hm] at h1;have H1:=hJ h1;have HM:=hJ hm;have HA:=hJ ha;have hlt:=h.lt;have HC:=hJ (show st.cs[a]?=some (st.cs.getD a 0) by simp[hin]);obtain⟨z,hz⟩:∃ z,z=st.cs.getD a 0:=⟨_,rfl⟩;rw[<- hz] at HC ⊢;clear h h1 hm ha hz;go_enter Tryz.func114,Tryz.ntmps114
 go_wp2_with fail
 refine(lI H1.out HA.out).mono ?_;rintro e w1 ⟨rfl,n,hw1⟩;have hr1:bu w1 rb mb go cap st.log st.at_ true false st.off st.over st.err:=by rw[hw1];exact H1.out.drawn n
 have hx1:bB (·=rb) w w1:=by rw[hw1];exact(bB.refl _ _).drewN n
 clear hw1;go_wp2_with fail
 refine(rE hr1).mono ?_;rintro e w2 ⟨rfl,hr2,hm2⟩;have hx2:=hx1.trans hm2;have hmem:=H.out.mem.mod hx2 (Ne.symm hrm) (Ne.symm hrc);have k0:=hr2.c0;have HE:=hJ (And.intro hr2 hx2);clear hr1 hr2 hm2 hx1 hx2;go_wp2_with fail
 refine(H8 hmem a z HC.out hl0 hl1).mono ?_;rintro e w3 ⟨rfl,hmem3,hx3⟩;have hr3:=HE.out.1.mod hx3 (fun k hk e=>hk.elim (fun e'=>hrm (e'.symm.trans e)) fun e'=>hgm (e ▸ e'));have hx3':bB (fD rb mb cb go) w w3:=(HE.out.2.mono fun k _ hk=>.inl hk).trans (hx3.mono fun k _ hk=>.inr (.inr (.inl hk)));have HX:=hJ hx3';have HM3:=hJ hmem3;clear HE hx3 hx3' hmem hmem3 k0;go_wp2_with fail
 refine(EG hr3 z hl (by have:=HA.out;omega)).mono ?_;rintro e w4 ⟨rfl,go',cap',hr4,hg4,hm4⟩;have HF:=hJ (And.intro hr4 (And.intro hg4 hm4));clear hr3 hr4 hg4 hm4;go_wp2_with fail
 go_ret;obtain⟨hr4,hg4,hm4⟩:=HF.out;have hne:¬ wO rb go mb/\¬ wO rb go cb:=⟨fun e=>e.elim (fun e=>hrm e.symm) hgm,fun e=>e.elim (fun e=>hrc e.symm) H.out.ne⟩;refine⟨rfl,go',⟨⟨cap',hr4⟩,HM3.out.mod hm4 hne.1 hne.2,?_⟩,?_,?_⟩
 ·rcases hg4 with e | ⟨g,e,hg⟩
  ·rw[e];exact H.out.ne
  ·intro e';rw[e] at e';cases e';have:=hlt cb (.inr (.inr (.inr rfl)));have:=HX.out.size;omega
 ·rcases hg4 with e | ⟨g,e,hg⟩
  ·exact .inl e
  ·exact .inr ⟨g,e,Nat.le_trans HX.out.size hg⟩
 ·exact HX.out.trans (hm4.mono fun k _ hk=>hk.elim .inl fun e=>.inr (.inl e))
theorem G7 (h:RM w rb mb cb go true st) (a:Int) (ha:st.at_=st.log.length) (hm:st.made=false) (hin:a<0∨(st.cs.length:Int)<=a) :
  Calls Tryz.prog 114 #[.pointer (some ⟨rb,0,none⟩),.int .i64 a] w fun e w'=>e=.returned (.int .u32 0)/\RM w' rb mb cb go true {st with made:=true,off:=true,over:=true,err:=2}/\jl rb mb cb w go w' go:=by
 have H:=hJ h;obtain⟨hrm,hrc,hgm⟩:=h.pz;obtain⟨cap,h1⟩:=h.run;rw[hm] at h1;have H1:=hJ h1;have HA:=hJ ha;have HI:=hJ hin;clear h h1 hm ha hin;go_enter Tryz.func114,Tryz.ntmps114
 go_wp2_with fail
 refine(lI H1.out HA.out).mono ?_;rintro e w1 ⟨rfl,n,hw1⟩;have hr1:bu w1 rb mb go cap st.log st.at_ true false st.off st.over st.err:=by rw[hw1];exact H1.out.drawn n
 have hx1:bB (·=rb) w w1:=by rw[hw1];exact(bB.refl _ _).drewN n
 clear hw1;go_wp2_with fail
 refine(rE hr1).mono ?_;rintro e w2 ⟨rfl,hr2,hm2⟩;have hx2:=hx1.trans hm2;have hmem:=H.out.mem.mod hx2 (Ne.symm hrm) (Ne.symm hrc);have k0:=hr2.c0;have HE:=hJ (And.intro hr2 hx2);clear hr1 hr2 hm2 hx1 hx2;go_wp2_with fail
 refine(J3 hmem a HI.out).mono ?_;rintro e w3 ⟨rfl,rfl⟩;clear hmem k0;go_wp2_with fail
 refine(Cx HE.out.1 0).mono ?_;rintro e w4 ⟨rfl,hr4,hm4⟩;have HF:=hJ (And.intro hr4 hm4);clear hr4 hm4;go_wp2_with fail
 go_ret;obtain⟨hr4,hm4⟩:=HF.out;have hx:=HE.out.2.trans hm4;exact⟨rfl,⟨⟨cap,hr4⟩,H.out.mem.mod hx (Ne.symm hrm) (Ne.symm hrc),H.out.ne⟩,jl.lu hx fun k hk=>.inl hk⟩
/-! ### Store -/
theorem Gj (h:RM w rb mb cb go true st) (a v:Int) (ha:st.at_<st.log.length) (hl:st.log.length<1000000000) :
  Calls Tryz.prog 83 #[.pointer (some ⟨rb,0,none⟩),.int .i64 a,.int .u32 v] w fun e w'=>e=.returned (.tuple #[])/\RM w' rb mb cb go true {st with at_:=st.at_+1}/\jl rb mb cb w go w' go:=by
 have H:=hJ h;obtain⟨hrm,hrc,hgm⟩:=h.pz;obtain⟨cap,h1⟩:=h.run;have H1:=hJ h1;clear h h1;go_enter Tryz.func83,Tryz.ntmps83
 go_wp2_with fail
 refine(x8 H1.out ha hl).mono ?_;rintro e w1 ⟨rfl,hr1,hm1⟩;have HE:=hJ (And.intro hr1 hm1);clear hr1 hm1;go_wp2_with fail
 first | go_end0 | refine tZ (results_none rfl _ _ _) rfl ?_
 obtain⟨hr1,hm1⟩:=HE.out;exact⟨rfl,⟨⟨cap,hr1⟩,H.out.mem.mod hm1 (Ne.symm hrm) (Ne.symm hrc),H.out.ne⟩,jl.lu hm1 fun k hk=>.inl hk⟩
theorem Fe (h:RM w rb mb cb go true st) (a v:Int) (ha:st.at_=st.log.length) (hm:st.made=true) :
  Calls Tryz.prog 83 #[.pointer (some ⟨rb,0,none⟩),.int .i64 a,.int .u32 v] w fun e w'=>e=.returned (.tuple #[])/\RM w' rb mb cb go true {st with off:=true}/\jl rb mb cb w go w' go:=by
 have H:=hJ h;obtain⟨hrm,hrc,hgm⟩:=h.pz;obtain⟨cap,h1⟩:=h.run;rw[hm] at h1;have H1:=hJ h1;have HM:=hJ hm;have HA:=hJ ha;clear h h1 hm ha;go_enter Tryz.func83,Tryz.ntmps83
 go_wp2_with fail
 refine(lI H1.out HA.out).mono ?_;rintro e w1 ⟨rfl,n,hw1⟩;have hr1:bu w1 rb mb go cap st.log st.at_ true true st.off st.over st.err:=by rw[hw1];exact H1.out.drawn n
 have HW:=hJ hw1;clear hw1;go_wp2_with fail
 refine(Ep hr1).mono ?_;rintro e w2 ⟨rfl,hr2,hm2⟩;have HE:=hJ (And.intro hr2 hm2);clear hr1 hr2 hm2;go_wp2_with fail
 first | go_end0 | refine tZ (results_none rfl _ _ _) rfl ?_
 obtain⟨hr2,hm2⟩:=HE.out;have hm2':bB (·=rb) w w2:=((show bB (·=rb) w w1 by rw[HW.out];exact(bB.refl _ _).drewN n)).trans hm2;refine⟨rfl,⟨⟨cap,by simpa [HM.out] using hr2⟩,H.out.mem.mod hm2' (Ne.symm hrm) (Ne.symm hrc),H.out.ne⟩,?_⟩;exact jl.lu hm2' fun k hk=>.inl hk
theorem GY (h:RM w rb mb cb go true st) (a:Nat) (v:Int) (ha:st.at_=st.log.length) (hm:st.made=false) (hin:a<st.cs.length) (hl:st.log.length<1000000000) (hs0:0<=st.s) (hs1:st.s<1000000000) :
  Calls Tryz.prog 83 #[.pointer (some ⟨rb,0,none⟩),.int .i64 a,.int .u32 v] w fun e w'=>e=.returned (.tuple #[])/\∃ go',RM w' rb mb cb go' true {st with made:=true,off:=false,log:=st.log++[0],at_:=st.at_+1,cs:=st.cs.set a v,s:=st.s+1}/\jl rb mb cb w go w' go':=by
 have H:=hJ h;obtain⟨hrm,hrc,hgm⟩:=h.pz;obtain⟨cap,h1⟩:=h.run;rw[hm] at h1;have H1:=hJ h1;have HA:=hJ ha;have hlt:=h.lt;clear h h1 hm ha;go_enter Tryz.func83,Tryz.ntmps83
 go_wp2_with fail
 refine(lI H1.out HA.out).mono ?_;rintro e w1 ⟨rfl,n,hw1⟩;have hr1:bu w1 rb mb go cap st.log st.at_ true false st.off st.over st.err:=by rw[hw1];exact H1.out.drawn n
 have hx1:bB (·=rb) w w1:=by rw[hw1];exact(bB.refl _ _).drewN n
 clear hw1;go_wp2_with fail
 refine(rE hr1).mono ?_;rintro e w2 ⟨rfl,hr2,hm2⟩;have hx2:=hx1.trans hm2;have hmem:=H.out.mem.mod hx2 (Ne.symm hrm) (Ne.symm hrc);have k0:=hr2.c0;have HE:=hJ (And.intro hr2 hx2);clear hr1 hr2 hm2 hx1 hx2;go_wp2_with fail
 refine(lJ hmem a v hin hs0 hs1).mono ?_;rintro e w3 ⟨rfl,hmem3,hx3⟩;have hr3:=HE.out.1.mod hx3 (fun k hk e=>hk.elim (fun e'=>e.elim (fun e=>hrm (e'.symm.trans e)) fun e=>hrc (e'.symm.trans e)) fun e'=>e.elim (fun e=>hgm (e ▸ e')) fun e=>H.out.ne (e ▸ e'));have hx3':bB (fD rb mb cb go) w w3:=(HE.out.2.mono fun k _ hk=>.inl hk).trans (hx3.mono fun k _ hk=>.inr (.inr hk));have HX:=hJ hx3';have HM3:=hJ hmem3;clear HE hx3 hx3' hmem hmem3 k0;go_wp2_with fail
 refine(EG hr3 0 hl (by have:=HA.out;omega)).mono ?_;rintro e w4 ⟨rfl,go',cap',hr4,hg4,hm4⟩;have HF:=hJ (And.intro hr4 (And.intro hg4 hm4));clear hr3 hr4 hg4 hm4;go_wp2_with fail
 first | go_end0 | refine tZ (results_none rfl _ _ _) rfl ?_
 obtain⟨hr4,hg4,hm4⟩:=HF.out;have hne:¬ wO rb go mb/\¬ wO rb go cb:=⟨fun e=>e.elim (fun e=>hrm e.symm) hgm,fun e=>e.elim (fun e=>hrc e.symm) H.out.ne⟩;refine⟨rfl,go',⟨⟨cap',hr4⟩,HM3.out.mod hm4 hne.1 hne.2,?_⟩,?_,?_⟩
 ·rcases hg4 with e | ⟨g,e,hg⟩
  ·rw[e];exact H.out.ne
  ·intro e';rw[e] at e';cases e';have:=hlt cb (.inr (.inr (.inr rfl)));have:=HX.out.size;omega
 ·rcases hg4 with e | ⟨g,e,hg⟩
  ·exact .inl e
  ·exact .inr ⟨g,e,Nat.le_trans HX.out.size hg⟩
 ·exact HX.out.trans (hm4.mono fun k _ hk=>hk.elim .inl fun e=>.inr (.inl e))
theorem CV (h:RM w rb mb cb go true st) (a v:Int) (ha:st.at_=st.log.length) (hm:st.made=false) (hin:a<0∨(st.cs.length:Int)<=a) :
  Calls Tryz.prog 83 #[.pointer (some ⟨rb,0,none⟩),.int .i64 a,.int .u32 v] w fun e w'=>e=.returned (.tuple #[])/\RM w' rb mb cb go true {st with made:=true,off:=true,over:=true,err:=2}/\jl rb mb cb w go w' go:=by
 have H:=hJ h;obtain⟨hrm,hrc,hgm⟩:=h.pz;obtain⟨cap,h1⟩:=h.run;rw[hm] at h1;have H1:=hJ h1;have HA:=hJ ha;have HI:=hJ hin;clear h h1 hm ha hin;go_enter Tryz.func83,Tryz.ntmps83
 go_wp2_with fail
 refine(lI H1.out HA.out).mono ?_;rintro e w1 ⟨rfl,n,hw1⟩;have hr1:bu w1 rb mb go cap st.log st.at_ true false st.off st.over st.err:=by rw[hw1];exact H1.out.drawn n
 have hx1:bB (·=rb) w w1:=by rw[hw1];exact(bB.refl _ _).drewN n
 clear hw1;go_wp2_with fail
 refine(rE hr1).mono ?_;rintro e w2 ⟨rfl,hr2,hm2⟩;have hx2:=hx1.trans hm2;have hmem:=H.out.mem.mod hx2 (Ne.symm hrm) (Ne.symm hrc);have k0:=hr2.c0;have HE:=hJ (And.intro hr2 hx2);clear hr1 hr2 hm2 hx1 hx2;go_wp2_with fail
 refine(Gl hmem a v HI.out).mono ?_;rintro e w3 ⟨rfl,rfl⟩;clear hmem k0;go_wp2_with fail
 refine(Cx HE.out.1 0).mono ?_;rintro e w4 ⟨rfl,hr4,hm4⟩;have HF:=hJ (And.intro hr4 hm4);clear hr4 hm4;go_wp2_with fail
 first | go_end0 | refine tZ (results_none rfl _ _ _) rfl ?_
 obtain⟨hr4,hm4⟩:=HF.out;have hx:=HE.out.2.trans hm4;exact⟨rfl,⟨⟨cap,hr4⟩,H.out.mem.mod hx (Ne.symm hrm) (Ne.symm hrc),H.out.ne⟩,jl.lu hx fun k hk=>.inl hk⟩
/-! ### Both, in the words of the state -/
theorem run_load (h:RM w rb mb cb go true st) {B:Nat} (hB:B<1000000000) (hok:st.Ok B) (a:Int) :
  Calls Tryz.prog 114 #[.pointer (some ⟨rb,0,none⟩),.int .i64 a] w fun e w'=>e=.returned (.int .u32 (st.load a).1)/\∃ go',RM w' rb mb cb go' true (st.load a).2/\jl rb mb cb w go w' go':=by
 obtain⟨k1,k2,k3,k4,k5,_,_⟩:=hok;by_cases c1:st.at_<st.log.length
 ·rw[show st.load a=(st.log.getD st.at_ 0,{st with at_:=st.at_+1}) by simp[St.load,c1]];exact(Hw h a c1 (by split at k2 <;> omega)).mono fun e w' ⟨h1,h2,h3⟩=>⟨h1,go,h2,h3⟩
 ·have ha:st.at_=st.log.length:=oZ;by_cases c2:st.made=true
  ·rw[show st.load a=(0,{st with off:=true}) by simp[St.load,c1,c2]];exact(Ij h a ha c2).mono fun e w' ⟨h1,h2,h3⟩=>⟨h1,go,h2,h3⟩
  ·have hm:st.made=false:=by simpa using c2
   simp only[hm,Bool.false_eq_true,if_false] at k2 k5;by_cases c3:0<=a/\a<st.cs.length
   ·obtain⟨x,rfl⟩:=Int.eq_ofNat_of_zero_le c3.1;have e:=nA c3.1 c3.2;rw[show st.load x=(st.cs.getD x 0,{st with made:=true,off:=false,log:=st.log++[st.cs.getD x 0],at_:=st.at_+1,l:=st.l+1}) by simp only[St.load,c1,hm,e,Bool.false_eq_true,if_false,if_true,Int.toNat_natCast]];exact Ih h x ha hm oZ oZ k3 oZ
   ·have e:Be st.cs.length a=false:=EE oZ;rw[show st.load a=(0,{st with made:=true,off:=true,over:=true,err:=2}) by simp[St.load,c1,c2,e]];exact(G7 h a ha hm oZ).mono fun e w' ⟨h1,h2,h3⟩=>⟨h1,go,h2,h3⟩
theorem run_store (h:RM w rb mb cb go true st) {B:Nat} (hB:B<1000000000) (hok:st.Ok B) (a v:Int) :
  Calls Tryz.prog 83 #[.pointer (some ⟨rb,0,none⟩),.int .i64 a,.int .u32 v] w fun e w'=>e=.returned (.tuple #[])/\∃ go',RM w' rb mb cb go' true (st.store a v)/\jl rb mb cb w go w' go':=by
 obtain⟨k1,k2,k3,k4,k5,_,_⟩:=hok;by_cases c1:st.at_<st.log.length
 ·rw[show st.store a v={st with at_:=st.at_+1} by simp[St.store,c1]];exact(Gj h a v c1 (by split at k2 <;> omega)).mono fun e w' ⟨h1,h2,h3⟩=>⟨h1,go,h2,h3⟩
 ·have ha:st.at_=st.log.length:=oZ;by_cases c2:st.made=true
  ·rw[show st.store a v={st with off:=true} by simp[St.store,c1,c2]];exact(Fe h a v ha c2).mono fun e w' ⟨h1,h2,h3⟩=>⟨h1,go,h2,h3⟩
  ·have hm:st.made=false:=by simpa using c2
   simp only[hm,Bool.false_eq_true,if_false] at k2 k5;by_cases c3:0<=a/\a<st.cs.length
   ·obtain⟨x,rfl⟩:=Int.eq_ofNat_of_zero_le c3.1;have e:=nA c3.1 c3.2;rw[show st.store x v={st with made:=true,off:=false,log:=st.log++[0],at_:=st.at_+1,cs:=st.cs.set x v,s:=st.s+1} by simp only[St.store,c1,hm,e,Bool.false_eq_true,if_false,if_true,Int.toNat_natCast]];exact GY h x v ha hm oZ oZ k4 oZ
   ·have e:Be st.cs.length a=false:=EE oZ;rw[show st.store a v={st with made:=true,off:=true,over:=true,err:=2} by simp[St.store,c1,c2,e]];exact(CV h a v ha hm oZ).mono fun e w' ⟨h1,h2,h3⟩=>⟨h1,go,h2,h3⟩
end
structure Ah:Prop where
 word:∀ (w:World) (d p:Int),-9223372036854775808<=d->d<=9223372036854775807->-9223372036854775808<=p->p<=9223372036854775807->Calls Tryz.prog 127 #[.int .i64 d,.int .i64 p] w fun e w'=>e=.returned (.tuple #[.int .u32 (dV d p),.int .i64 (fE d p)])/\Below w.heap.size w w'
 part:∀ (w:World) (x:Int),0<=x->x<=4294967295->Calls Tryz.prog 77 #[.int .u32 x] w fun e w'=>e=.returned (.tuple #[.int .i64 (x / 65536),.int .i64 (x % 65536)])/\Below w.heap.size w w'
 key:∀ (w:World) (f:Int) (s:ByteArray),0<=f->f<=255->s.size<=1000000->Calls Tryz.prog 121 #[.int .u8 f,.string s] w fun e w'=>e=.returned (.string (ay (f.toNat :: ax s)))/\Below w.heap.size w w'
 cells:∀ (w:World) (s:ByteArray),s.size<=1000000->Calls Tryz.prog 124 #[.string s] w fun e w'=>∃ v,e=.returned v/\fP 32 .u32 w' w.heap.size v (aF (ax s))/\Below w.heap.size w w'
 bytes:∀ (w:World) (oa:Option Addr) (c N:Nat) (L:List Nat) (n:Int),L.length=N->bQ .u32 w oa L->N<=c->c<=maxLen->N<=1000000->(∀ x∈L,x<4294967296)->-9223372036854775808<=n->n<=9223372036854775807->Calls Tryz.prog 196 #[.slice oa N c,.int .i64 n] w fun e w'=>e=.returned (.tuple #[.string (Li L n),.int .i64 (Iz L n)])/\Below w.heap.size w w'
 hash:∀ (w:World) (s:ByteArray),s.size<=1000000->Calls Tryz.prog 188 #[.string s] w fun e w'=>e=.returned (.int .u32 (bZ (ax s)))/\Below w.heap.size w w'
theorem Ai {d p:Int} (h:J6 d p):dV d p=65536*d+p/\fE d p=0:=⟨by unfold dV;rw[if_pos h],by unfold fE;rw[if_pos h]⟩
theorem Ah.Mj (K:Ah) (s:ByteArray) (L:List Nat) (n:Nat) (hs:s.size<=1000000) (hL:aF (ax s)=L) (hn:L.length=n) (w:World):Calls Tryz.prog 124 #[.string s] w fun e w'=>∃ oa c,e=.returned (.slice oa n c)/\n<=c/\c<=maxLen/\bQ .u32 w' oa L/\Below w.heap.size w w':=by
 subst hL hn;refine(K.cells w s hs).mono fun _ _ ⟨v,h1,h2,h3⟩=>?_;obtain⟨oa,c,rfl,h4,h5,_,h6⟩:=h2.reads;exact⟨oa,c,h1,h4,h5,h6,h3⟩
theorem qL (s:ByteArray) (L:List Nat) (n:Nat) (hs:s.size<=1000000) (hL:aF (ax s)=L) (hn:L.length=n) (w:World):Calls Tryz.prog 95 #[.string s] w fun e w'=>∃ oa c,e=.returned (.slice oa n c)/\n<=c/\c<=maxLen/\bQ .u32 w' oa L/\Below w.heap.size w w':=by
 subst hL hn;refine(yn w s hs).mono fun _ _ ⟨v,h1,h2,h3⟩=>?_;obtain⟨oa,c,rfl,h4,h5,_,h6⟩:=h2.reads;exact⟨oa,c,h1,h4,h5,h6,h3⟩
theorem EK {x s:ByteArray} (h:¬ x=s):(x.toList==s.toList)=false:=by
 rw[beq_eq_false_iff_ne];intro e;apply h;rw[ByteArray.toList_eq,ByteArray.toList_eq] at e;exact ByteArray.ext (Array.toList_inj.1 e)
theorem jT {P:Program} {fn:Func} {p q r s:Tmp} {ty:TypeId} (h:fn.results=#[.tmp r,.tmp s,.cell p ty,.tmp q]) (tmps:Array Value) (w:World) (g:Nat) (t:TypeId) (cs:Array Value) (fr:Nat×Nat) (d:TypeDesc) (u x v:Value)
  (hr:tmps.getD r undef=u) (hs:tmps.getD s undef=x) (hp:tmps.getD p undef=.pointer (some ⟨g,0,none⟩)) (hq:tmps.getD q undef=v) (hg:w.heap[g]?=some (.cells cs t fr))
  (hu:P.underlying ty=some d) (hd:(match d with | .struct _ | .array _ _=>true | _=>false)=true) (hi:(P.info? ty).map (·.size)=some cs.size) :
  (results fn tmps).run P w=.ok (.tuple #[u,x,.agg cs,v]) w:=by
 have hp':tmps[p]?.getD undef=.pointer (some ⟨g,0,none⟩):=by simpa using hp
 have hq':tmps[q]?.getD undef=v:=by simpa using hq
 have hr':tmps[r]?.getD undef=u:=by simpa using hr
 have hs':tmps[s]?.getD undef=x:=by simpa using hs
 simp[results,h,hp',hq',hr',hs',asAddr,run_loadVar_row w g t ty cs fr d hg hu hd hi]
theorem dD {n:Nat} {a b:World} (h:Below n a b) {g:Nat} (hg:n<=g) (o:Nat) (v:Value):Below n a (b.setCell ⟨g,o,none⟩ v):=h.setCell hg v
def gQ (cs:List Int):List Nat:=cs.map Int.toNat
theorem uh (cs:List Int):(gQ cs).length=cs.length:=by simp[gQ]
theorem jG {cs:List Int} (hU:∀ y∈cs,U y) {a:Nat} (h:a<cs.length):∃ x:Nat,(gQ cs)[a]?=some x/\cs.getD a 0=(x:Int)/\x<4294967296:=by
 have hy:=hU _ (List.getElem_mem h);unfold U at hy;refine⟨(cs[a]).toNat,by unfold gQ;rw[List.getElem?_map,gZ h];rfl,?_,oZ⟩;rw[List.getD_eq_getElem?_getD,gZ h];simp only[Option.getD_some];omega
def cB (w:World) (g:Nat) (cs:List Int):Prop:=w.rowIs g 32 cs.length (fun j=>.int .u32 (cs.getD j 0))
section
variable {w w':World} {g:Nat} {cs:List Int}
theorem cB.lt (h:cB w g cs):g<w.heap.size:=World.rowIs.lt h
theorem cB.of_block (h:cB w g cs) (e:w'.heap[g]?=w.heap[g]?):cB w' g cs:=World.rowIs.of_block h e
theorem cB.below (h:cB w g cs) (hb:Below w.heap.size w w'):cB w' g cs:=h.of_block (hb.block g h.lt)
theorem cB.cell (h:cB w g cs) {a:Nat} (ha:a<cs.length):w.cell? ⟨g,a,none⟩=some (.int .u32 (cs.getD a 0)):=World.rowIs.cell h ha
theorem cB.frozen (h:cB w g cs) (a:Nat):w.frozen? ⟨g,a,none⟩=false:=World.rowIs.frozen h a
theorem cB.set (h:cB w g cs) {a:Nat} (ha:a<cs.length) (v:Int):cB (w.setCell ⟨g,a,none⟩ (.int .u32 v)) g (cs.set a v):=by
 unfold cB;rw[List.length_set];refine(World.rowIs.set h a _).congr fun j _=>?_;simp only[List.getD_eq_getElem?_getD,List.getElem?_set];by_cases e:j=a
 ·subst e;rw[if_pos rfl,if_pos rfl,if_pos ha];rfl
 ·rw[if_neg e,if_neg (fun h=>e h.symm)]
theorem cB.read (h:cB w g cs) (hU:∀ y∈cs,U y):bQ .u32 w (some ⟨g,0,none⟩) (gQ cs):=by
 intro j x hj;have hlt:=(eZ.1 hj).1;rw[uh] at hlt;obtain⟨y,hy,hy2,_⟩:=jG hU hlt;rw[hj] at hy;cases hy;refine⟨g,0,rfl,?_⟩;rw[Nat.zero_add,h.cell hlt,hy2]
theorem cB.drew (h:cB w g cs):cB w.drew g cs:=h
end
theorem lQ (w:World) (oa:Option Addr) (c n:Nat) (cs:List Int) (en:cs.length=n) (hl:n<=1000000) (hU:∀ y∈cs,U y) (ha:bQ .u32 w oa (gQ cs)) :
  Calls Tryz.prog 48 #[.slice oa n c] w fun e w'=>e=.returned (.slice (some ⟨w.heap.size,0,none⟩) n n)/\cB w' w.heap.size cs/\Below w.heap.size w w':=by
 have hmk:=BI n hl;obtain⟨L,hL⟩:∃ L,L=gQ cs:=⟨_,rfl⟩;rw[<- hL] at ha;have HA:=hJ (ha.alloc (.cells (gN .u32 (List.replicate n 0)).toArray 32));have HO:=hJ (Jq .u32 L);have HN:=hJ (show L.length=n by rw[hL,uh,en]);have HE:=hJ (And.intro hL (And.intro en hU));clear ha en hL hU;have H1:=hJ (show (gN .u32 L).length=Nat.min n n by rw[eU,HN.out];simp);have H3:=hJ (show 0+(gN .u32 L).length<=(gN .u32 (List.replicate n 0)).length by rw[eU,eU,HN.out];simp)
 have H2:=hJ (show 0<(gN .u32 L).length->∃ ad,oa=some ad/\∀ j v,(gN .u32 L)[j]?=some v->(w.alloc (.cells (gN .u32 (List.replicate n 0)).toArray 32)).cell? (ad.add j)=some v from by
  intro hp;rw[eU] at hp;obtain⟨g,o,e,_⟩:=HA.out 0 _ (gZ hp);refine⟨⟨g,o,none⟩,e,fun j v hj=>?_⟩;unfold gN at hj;rw[List.getElem?_map] at hj;obtain⟨x,hx,rfl⟩:=Option.map_eq_some_iff.1 hj;obtain⟨g2,o2,e2,hc⟩:=HA.out j x hx;cases e.symm.trans e2;rw[Addr.add_lit];exact hc)
 go_enter Tryz.func48,Tryz.ntmps48
 go_wp2_with (with_reducible refine wpList_copy_splice rfl (.tmp 7) (.tmp 8) 47 47 rfl 32 Tryz.underlying47 IG _ _ _ _ _ _ rfl rfl w.heap.size 0 (gN .u32 (List.replicate n 0)) 32 (nZ w _) (gN .u32 L) H1.out (fun hp=>⟨rfl,H2.out hp⟩) H3.out HO.out w.heap.size w (E9 (Below.refl _ _)) (Nat.le_refl _) ?_)
 intro w2 hg2 hb2;have HG:=hJ hg2.out;have HB:=hJ hb2;clear hg2 hb2;go_wp2_with fail
 go_ret;refine⟨rfl,?_,HB.out⟩
 have e:splice (gN .u32 (List.replicate n 0)) 0 (gN .u32 L)=gN .u32 L:=by
  unfold splice;rw[List.take_zero,List.nil_append,List.drop_eq_nil_of_le (by rw[eU,eU,HN.out];simp),List.append_nil]
 have hg:=HG.out;rw[e] at hg;obtain⟨hL,hn,hU⟩:=HE.out;refine⟨_,hg,by simp[eU,HN.out,hn],fun i hi=>?_⟩;obtain⟨x,hx,hx2,_⟩:=jG hU hi;show _=some (Value.int .u32 (cs.getD i 0));rw[hx2];have:=nR (k:=.u32) (l:=L) (j:=i) (by rw[hL];exact hx);simpa using this
def bA (cs:List Int) (a:Int):Int:=cs.getD a.toNat 0
theorem bJ (cs:List Int) (p:Nat) (v a:Int) (ha:0<=a):bA (cs.set p v) a=if a=(p:Int)/\p<cs.length then v else bA cs a:=by
 unfold bA;rw[List.getD_eq_getElem?_getD,List.getElem?_set];by_cases h:p=a.toNat
 ·subst h;by_cases h2:a.toNat<cs.length
  ·rw[if_pos rfl,if_pos h2,if_pos ⟨oZ,h2⟩];rfl
  ·rw[if_pos rfl,if_neg h2,if_neg (fun h=>h2 h.2)];simp[List.getD_eq_getElem?_getD,List.getElem?_eq_none (Nat.le_of_not_lt h2)]
 ·rw[if_neg h,if_neg oZ,List.getD_eq_getElem?_getD]
def jF (cs:List Int) (b v:Int):Nat->Nat->List Sn
 | 0,_=>[]
 | m+1,d=>if bA cs (b+4*(d:Int))=0∨v<bA cs (b+4*(d:Int)) then [] else(if bA cs (b+4*(d:Int)+3)=0∨v<bA cs (b+4*(d:Int)+3) then [((d:Int),bA cs (b+4*(d:Int)+1),bA cs (b+4*(d:Int)+2))] else [])++jF cs b v m (d+1)
def jR (cs:List Int) (b:Int) (n:Nat) (v:Int):List Sn:=jF cs b v n 0
def kR (cs:List Int) (b x:Int):Nat->Nat->Int
 | 0,_=>-1
 | m+1,d=>if bA cs (b+4*(d:Int)+1)=x then(d:Int) else kR cs b x m (d+1)
def iU (cs:List Int) (b:Int) (n:Nat) (x:Int):Int:=kR cs b x n 0
theorem yu (cs:List Int) (b v:Int):∀ (m d:Nat),(jF cs b v m d).length<=m
 | 0,_=>Nat.le_refl _
 | m+1,d=>by
  have:=yu cs b v m (d+1);unfold jF;split
  ·simp
  ·rw[List.length_append];split <;> simp <;> omega
def uK (cs:List Int) (b:Int) (d:Nat) (id l v:Int):List Int:=((cs.set (b+4*(d:Int)+1).toNat id).set (b+4*(d:Int)+2).toNat l).set (b+4*(d:Int)).toNat v
theorem tO (cs:List Int) (b:Int) (d:Nat) (id l v:Int):(uK cs b d id l v).length=cs.length:=by simp[uK]
theorem JF {cs:List Int} {b:Int} {d:Nat} {id l v:Int} (hb:0<=b) (hl:b+4*(d:Int)+3<cs.length) (a:Int) (ha:0<=a):bA (uK cs b d id l v) a=if a=b+4*(d:Int) then v else if a=b+4*(d:Int)+2 then l else if a=b+4*(d:Int)+1 then id else bA cs a:=by
 unfold uK;rw[bJ _ _ _ _ ha,bJ _ _ _ _ ha,bJ _ _ _ _ ha];simp only[List.length_set];repeat' split
 all_goals first | rfl | (exfalso;omega)
/-! ### Programs -/
def wT (b:Int) (d id l v:Int):Pr Unit:=.store (b+4*d+1) id (.store (b+4*d+2) l (.store (b+4*d) v (.ret ())))
def rF (b d v:Int):Pr Unit:=.store (b+4*d+3) v (.ret ())
/-! ### Versions -/
end Go.Proofs.YtafaohnhlgcnpaaGreatDoor
