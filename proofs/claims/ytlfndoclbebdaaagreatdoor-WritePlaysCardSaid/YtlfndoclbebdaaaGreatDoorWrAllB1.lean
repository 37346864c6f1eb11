/-
 What stage 12 rests on.
-/
import Derived.Test.YtlfndoclbebdaaaGreatDoorWrAllA1
import Derived.StillTailTactics
import Derived.Deep.CutBlock
import Derived.Deep.DeepCutAuto
import Derived.Deep.RegionWith
import Derived.Laws.Rows
import Derived.Laws.CopyOwn
import Derived.Laws.AppendOwn
import Derived.Defers
import Derived.Laws.Bits64
import Derived.IntWalk
import Derived.BigQuiet
import Derived.ArgAppend
import Derived.OwnWalk
import Derived.Deep.OwnRows
import Derived.Laws.StructEq
import Derived.Deep.WholeRow
import Derived.Deep.LoopGhost
set_option maxRecDepth 100000
set_option maxHeartbeats 16000000
namespace Go.Proofs.YtlfndoclbebdaaaGreatDoor
open Go.RowKit
structure Ins where
 op:Int
 a:Int
 v:Int
instance:Inhabited Ins:=⟨⟨0,0,0⟩⟩
structure St where
 log:List Int
 at_:Nat
 made:Bool
 off:Bool
 over:Bool
 err:Int
 cs:List Int
 l:Int
 s:Int
def St.load (st:St) (a:Int):Int×St :=
 if st.at_<st.log.length then(st.log.getD st.at_ 0,{st with at_:=st.at_+1})
 else if st.made=true then(0,{st with off:=true})
 else if DD st.cs.length a=true then(st.cs.getD a.toNat 0,{st with made:=true,off:=false,log:=st.log++[st.cs.getD a.toNat 0],at_:=st.at_+1,l:=st.l+1})
 else(0,{st with made:=true,off:=true,over:=true,err:=2})
def St.store (st:St) (a v:Int):St :=
 if st.at_<st.log.length then {st with at_:=st.at_+1}
 else if st.made=true then {st with off:=true}
 else if DD st.cs.length a=true then {st with made:=true,off:=false,log:=st.log++[0],at_:=st.at_+1,cs:=st.cs.set a.toNat v,s:=st.s+1}
 else {st with made:=true,off:=true,over:=true,err:=2}
def U (x:Int):Prop:=0<=x/\x<=4294967295
theorem CG:U 0:=⟨oZ,oZ⟩
theorem su (x:Int):U (IntKind.u32.wrap x):=by
 have:IntKind.u32.wrap x=x % 4294967296:=by simp[IntKind.wrap,IntKind.signed,IntKind.bits]
 rw[this];exact⟨oZ,oZ⟩
theorem yK {l:List Int} (h:∀ x∈l,U x) (i:Nat):U (l.getD i 0):=by
 rw[List.getD_eq_getElem?_getD]
 cases e:l[i]? with
 | none=>exact CG
 | some x=>exact h x (List.mem_of_getElem? e)
structure St.Ok (st:St) (B:Nat):Prop where
 at_le:st.at_<=st.log.length
 log_le:st.log.length+(if st.made=true then 0 else 1)<=B
 l0:0<=st.l
 s0:0<=st.s
 sum:st.l+st.s+(if st.made=true then 0 else 1)<=B
 log_u:∀ x∈st.log,U x
 cs_u:∀ x∈st.cs,U x
theorem St.Ok.load {st:St} {B:Nat} (h:st.Ok B) (a:Int):(st.load a).2.Ok B/\U (st.load a).1:=by
 obtain⟨h1,h2,h3,h4,h5,h6,h7⟩:=h
 unfold St.load
 split
 ·exact⟨⟨by simp;omega,h2,h3,h4,h5,h6,h7⟩,yK h6 _⟩
 ·split
  ·exact⟨⟨h1,h2,h3,h4,h5,h6,h7⟩,CG⟩
  ·rename_i hm
   simp only[hm] at h2 h5
   split
   ·refine⟨⟨by simp;omega,by simp;simp at h2;omega,by simp;omega,h4,by simp;simp at h5;omega,?_,h7⟩,yK h7 _⟩
    intro x hx
    rcases List.mem_append.1 hx with hx | hx
    ·exact h6 x hx
    ·simp at hx;rw[hx];exact yK h7 _
   ·exact⟨⟨h1,by simp;simp at h2;omega,h3,h4,by simp;simp at h5;omega,h6,h7⟩,CG⟩
theorem St.Ok.store {st:St} {B:Nat} (h:st.Ok B) (a v:Int) (hv:U v):(st.store a v).Ok B:=by
 obtain⟨h1,h2,h3,h4,h5,h6,h7⟩:=h
 unfold St.store
 split
 ·exact⟨by simp;omega,h2,h3,h4,h5,h6,h7⟩
 ·split
  ·exact⟨h1,h2,h3,h4,h5,h6,h7⟩
  ·rename_i hm
   simp only[hm] at h2 h5
   split
   ·refine⟨by simp;omega,by simp;simp at h2;omega,h3,by simp;omega,by simp;simp at h5;omega,?_,?_⟩
    ·intro x hx
     rcases List.mem_append.1 hx with hx | hx
     ·exact h6 x hx
     ·simp at hx;rw[hx];exact CG
    ·intro x hx
     rcases List.mem_or_eq_of_mem_set hx with hx | hx
     ·exact h7 x hx
     ·rw[hx];exact hv
   ·exact⟨h1,by simp;simp at h2;omega,h3,h4,by simp;simp at h5;omega,h6,h7⟩
def aB (s:Nat->Int) (bk rm:Int) (k:Nat):Int:=if k<4 then s k*aS k else if k=4 then bk else if k=5 then rm else 0
def EP (s:Nat->Int) (bk rm:Int) (i k:Nat):Int:=if k<4/\i<=k then 0 else aB s bk rm k
theorem dM (k:Nat):4<=aS k:=by unfold aS;split;omega;split;omega;split <;> omega
theorem fC (k:Nat):aS k<=256:=by unfold aS;split;omega;split;omega;split <;> omega
theorem xG {d t:Int} {s:Nat->Int} {bk rm:Int} (h:La d t s bk rm) (k:Nat):0<=aB s bk rm k:=by
 have:=h.b0;have:=h.r0
 unfold aB
 split
 ·rename_i hk
  exact Int.mul_nonneg (h.s0 k hk) (by have:=dM k;omega)
 ·split
  ·assumption
  ·split <;> omega
theorem BR {d t:Int} {s:Nat->Int} {bk rm:Int} (h:La d t s bk rm) (k:Nat):aB s bk rm k<=131072:=by
 have:=h.b1;have:=h.r1
 unfold aB
 split
 ·rename_i hk
  calc s k*aS k<=512*aS k:=Int.mul_le_mul_of_nonneg_right (h.s1 k hk) (by have:=dM k;omega)
   _<=131072:=by have:=fC k;omega
 ·split
  ·omega
  ·split <;> omega
theorem kF (w:World) (k:Nat) (hk:k<4):Calls Tryz.prog 138 #[.int .i64 k] w fun e w'=>e=.returned (.int .i64 (aS k))/\w'=w:=(Io w k hk).mono fun _ _ ⟨h,h'⟩=>⟨h,h'.symm⟩
def QO (w:World) (d t:Int) (s:Nat->Int) (bk rm:Int) (kf bf:Nat) (i:Nat) (wr:World):Prop :=
 wr.heap[w.heap.size]?=some (.cells (ak d t s bk rm kf bf) 25 (0,0))/\wr.heap[w.heap.size+1]?=some (.cells (six fun _=>0) 40 (0,0)) /\
 wr.heap[w.heap.size+1+1]?=some (.cells (six (EP s bk rm i)) 40 (0,0))/\Below w.heap.size w wr
theorem aX (U:Nat->Int):(six U).all (·.oneCell')=true:=by simp[six,Value.oneCell']
theorem bg (U V:Nat->Int):(six U).size=(six V).size:=rfl
theorem ag (U:Nat->Int):(Tryz.prog.info? 40).map (·.size)=some (six U).size:=kZ
theorem dW (U:Nat->Int) (k:Nat) (hk:k<6):(six U)[k]?=some (.int .i64 (U k)):=by
 rcases ni hk with rfl | rfl | rfl | rfl | rfl | rfl <;> rfl
theorem jm (U V:Nat->Int) (k:Nat) (x:Int) (hk:k<6) (h:∀ j,j<6->V j=if j=k then x else U j):(six U).setIfInBounds k (.int .i64 x)=six V:=by
 have h0:=h 0 oZ
 have h1:=h 1 oZ
 have h2:=h 2 oZ
 have h3:=h 3 oZ
 have h4:=h 4 oZ
 have h5:=h 5 oZ
 rcases ni hk with rfl | rfl | rfl | rfl | rfl | rfl <;> simp at h0 h1 h2 h3 h4 h5 <;> simp[six,h0,h1,h2,h3,h4,h5]
theorem Au (d t:Int) (s:Nat->Int) (bk rm:Int) (kf bf:Nat) (k:Nat) (hk:k<4):(ak d t s bk rm kf bf)[2+k]?=some (.int .i64 (s k)):=by
 have:k=0∨k=1∨k=2∨k=3:=oZ
 rcases this with rfl | rfl | rfl | rfl <;> rfl
theorem KW (s:Nat->Int) (bk rm:Int) (i:Nat) (hi:i<4) (j:Nat):EP s bk rm (i+1) j=if j=i then s i*aS i else EP s bk rm i j:=by
 unfold EP
 by_cases e:j=i
 ·subst e
  have:¬ (j<4/\j+1<=j):=oZ
  rw[if_neg this,if_pos rfl]
  unfold aB
  rw[if_pos hi]
 ·by_cases a:j<4/\i<=j
  ·have b:j<4/\i+1<=j:=oZ
   simp[e,a,b]
  ·have b:¬ (j<4/\i+1<=j):=oZ
   simp[e,a,b]
theorem KD (w:World) (d t:Int) (s:Nat->Int) (bk rm:Int) (kf bf:Nat) (h:La d t s bk rm) :
  Calls Tryz.prog 102 #[.agg (ak d t s bk rm kf bf)] w fun e w'=>e=.returned (.agg (six (aB s bk rm)))/\Below w.heap.size w w':=by
 unfold ak
 go_enter Tryz.func102,Tryz.ntmps102
 go_wp2_with fail
 go_loopw [10] (fun i wr=>∃ k:Nat,k<=4/\i=.int .i64 k/\QO w d t s bk rm kf bf k wr) (fun i _=>4-(intOf i).toNat)
 case atStart =>
  exact⟨0,oZ,rfl,dV _ _ _ _,dX _ _ _ _,eH _ _ _ _,bu⟩
 case round =>
  obtain⟨k,hk,rfl,h1,h2,h3,hb⟩:=hrel
  by_cases hlt:k<4
  ·have c1:=ae h1 (2+k)
   rw[Au _ _ _ _ _ _ _ k hlt] at c1
   have f1:=free_at h3 k
   have c3:=ae h3 k
   rw[dW _ k oZ] at c3
   have HH:=hJ (And.intro h1 (And.intro h2 (And.intro h3 hb)))
   clear h1 h2 h3 hb
   have a0:=h.s0 k hlt
   have a1:=h.s1 k hlt
   have hlt':(k:Int)<4:=oZ
   have hlt6:(k:Int)<6:=oZ
   have hm0:0<=s k*aS k:=Int.mul_nonneg a0 (by have:=dM k;omega)
   have hm1:s k*aS k<=131072:=by
    calc s k*aS k<=512*aS k:=Int.mul_le_mul_of_nonneg_right a1 (by have:=dM k;omega)
     _<=131072:=by have:=fC k;omega
   have hwr:IntKind.i64.wrap (s k*aS k)=s k*aS k:=iZ _ oZ
   go_wp2_with fail
   refine wp_region_still_tail 9 kZ kZ ?_
   simp only[List.take_succ_cons,List.take_zero,List.drop_succ_cons,List.drop_zero]
   repeat still_step
   still_call (kF _ k hlt)
   repeat still_step
   refine wpStill_nil ?_
   change wpList _ _ _ _ _ (World.drew _)
   clear hwr
   go_wp2_with fail
   go_roundw
   case rel =>
    obtain⟨h1,h2,h3,hb⟩:=HH.out
    refine⟨k+1,oZ,by go_num,?_,?_,?_,?_⟩
    ·change (World.heap (World.setCell _ _ _))[_]?=_
     rw[Below.heap_setCell _ _ _ _ uZ];exact h1
    ·change (World.heap (World.setCell _ _ _))[_]?=_
     rw[Below.heap_setCell _ _ _ _ sZ];exact h2
    ·change (World.heap (World.setCell _ _ _))[_]?=_
     rw[heap_setCell_same _ _ _ _ _ _ h3]
     rw[jm _ (EP s bk rm (k+1)) k _ oZ (fun j _=>KW s bk rm k hlt j)]
    ·exact(hb.setCell uZ _).drew
   case measure=>simp[intOf];omega
  ·obtain rfl:k=4:=oZ
   have e4:six (EP s bk rm 4)=six (aB s bk rm):=by
    have:∀ j,EP s bk rm 4 j=aB s bk rm j:=fun j=>by
     unfold EP
     rw[if_neg oZ]
    simp only[six,this]
   rw[e4] at h3
   have H2:=hJ h2
   have H3:=hJ h3
   have HB:=hJ hb
   clear h1 h2 h3 hb e4
   go_wp2_with (first
    | (refine yZ rfl 40 (.tmp 3) rfl (w.heap.size+1+1) rfl 40 (six (aB s bk rm)) (0,0) _ H3.out Tryz.underlying40 rfl kZ ?_)
    | (refine zZ rfl 40 (.tmp 2) (.tmp 23) rfl (w.heap.size+1) (six (aB s bk rm)) rfl rfl 40 (six fun _=>0) H2.out (ag _) (bg _ _) (aX _) ?_))
   refine tZ (v:=.agg (six (aB s bk rm))) (results_cell_row rfl _ _ (w.heap.size+1) _ _ (0,0) _ rfl (setRow_heap _ _ _ _ _ _ H2.out) Tryz.underlying40 rfl (ag _)) rfl ⟨rfl,below_setRow HB.out oZ _⟩
def lg (w:World) (go:Option Nat) (cap:Nat) (log:List Int):Prop:=match go with
 | none=>log=[]/\cap=0
 | some g=>∃ cur,w.heap[g]?=some (.cells cur 32 (0,0))/\log.length<=cap/\cap<=maxLen/\cur.size=cap/\cur.toList.take log.length=log.map (Value.int .u32)
structure bM (w:World) (rb mb:Nat) (go:Option Nat) (cap:Nat) (log:List Int) (at_:Nat) (wi ma off ov:Bool) (er:Int):Prop where
 rec_:w.heap[rb]?=some (.cells #[.pointer (some ⟨mb,0,none⟩),.slice (go.map fun g=>⟨g,0,none⟩) log.length cap,.int .i64 at_,.bool wi,.bool ma,.bool off,.bool ov,.int .i64 er] 126 (0,0))
 row:lg w go cap log
def zh (rb:Nat) (go:Option Nat) (k:Nat):Prop:=k=rb∨go=some k
theorem lg.of_block {w w':World} {go:Option Nat} {cap:Nat} {log:List Int} (h:lg w go cap log) (hb:∀ g,go=some g->w'.heap[g]?=w.heap[g]?):lg w' go cap log:=by
 cases go with
 | none=>exact h
 | some g =>
  obtain⟨cur,h1,h2⟩:=h
  exact⟨cur,(hb g rfl).trans h1,h2⟩
theorem lg.lt {w:World} {g cap:Nat} {log:List Int} (h:lg w (some g) cap log):g<w.heap.size:=by
 obtain⟨cur,h1,_⟩:=h
 exact lt_of_heap h1
theorem bM.lt {w:World} {rb mb cap at_:Nat} {go:Option Nat} {log:List Int} {wi ma off ov:Bool} {er:Int} (h:bM w rb mb go cap log at_ wi ma off ov er):∀ k,zh rb go k->k<w.heap.size:=by
 rintro k (rfl | hk)
 ·exact lt_of_heap h.rec_
 ·subst hk;exact h.row.lt
theorem bM.ne {w:World} {rb mb cap at_:Nat} {go:Option Nat} {log:List Int} {wi ma off ov:Bool} {er:Int} (h:bM w rb mb go cap log at_ wi ma off ov er):go≠some rb:=by
 rintro rfl
 obtain⟨cur,h1,_⟩:=h.row
 have:=h.rec_.symm.trans h1
 simp at this
theorem bM.eY {w w':World} {rb mb cap at_:Nat} {go:Option Nat} {log:List Int} {wi ma off ov:Bool} {er:Int} (h:bM w rb mb go cap log at_ wi ma off ov er) (hb:∀ k,zh rb go k->w'.heap[k]?=w.heap[k]?):bM w' rb mb go cap log at_ wi ma off ov er :=
 ⟨(hb rb (.inl rfl)).trans h.rec_,h.row.of_block fun g hg=>hb g (.inr hg)⟩
theorem bM.mod {w w':World} {rb mb cap at_:Nat} {go:Option Nat} {log:List Int} {wi ma off ov:Bool} {er:Int} (h:bM w rb mb go cap log at_ wi ma off ov er) {S:Nat->Prop} (hm:bI S w w') (hS:∀ k,zh rb go k->¬ S k):bM w' rb mb go cap log at_ wi ma off ov er :=
 h.eY fun k hk=>hm.block k (h.lt k hk) (hS k hk)
theorem bM.below {w w':World} {rb mb cap at_:Nat} {go:Option Nat} {log:List Int} {wi ma off ov:Bool} {er:Int} (h:bM w rb mb go cap log at_ wi ma off ov er) (hm:Below w.heap.size w w'):bM w' rb mb go cap log at_ wi ma off ov er :=
 h.eY fun k hk=>hm.block k (h.lt k hk)
theorem bM.set {w:World} {rb mb cap at_:Nat} {go:Option Nat} {log:List Int} {wi ma off ov:Bool} {er:Int} (h:bM w rb mb go cap log at_ wi ma off ov er) (i:Nat) (u:Value) {at':Nat} {wi' ma' off' ov':Bool} {er':Int}
  (e:(#[Value.pointer (some ⟨mb,0,none⟩),.slice (go.map fun g=>⟨g,0,none⟩) log.length cap,.int .i64 at_,.bool wi,.bool ma,.bool off,.bool ov,.int .i64 er].setIfInBounds i u)=#[Value.pointer (some ⟨mb,0,none⟩),.slice (go.map fun g=>⟨g,0,none⟩) log.length cap,.int .i64 at',.bool wi',.bool ma',.bool off',.bool ov',.int .i64 er']) :
  bM (w.setCell ⟨rb,i,none⟩ u) rb mb go cap log at' wi' ma' off' ov' er':=by
 refine⟨?_,?_⟩
 ·rw[heap_setCell_same _ _ _ _ _ _ h.rec_,e]
 ·refine h.row.of_block fun g hg=>Below.heap_setCell _ _ _ _ ?_
  rintro rfl
  exact h.ne hg
theorem bM.drawn {w:World} {rb mb cap at_:Nat} {go:Option Nat} {log:List Int} {wi ma off ov:Bool} {er:Int} (h:bM w rb mb go cap log at_ wi ma off ov er) (n:Nat):bM (w.drewN n) rb mb go cap log at_ wi ma off ov er:=⟨h.rec_,h.row⟩
section
variable {w:World} {rb mb cap at_:Nat} {go:Option Nat} {log:List Int} {wi ma off ov:Bool} {er:Int}
theorem bM.c0 (h:bM w rb mb go cap log at_ wi ma off ov er):w.cell? ⟨rb,0,none⟩=some (.pointer (some ⟨mb,0,none⟩)):=ae h.rec_ 0
theorem bM.c1 (h:bM w rb mb go cap log at_ wi ma off ov er):w.cell? ⟨rb,1,none⟩=some (.slice (go.map fun g=>⟨g,0,none⟩) log.length cap):=ae h.rec_ 1
theorem bM.c2 (h:bM w rb mb go cap log at_ wi ma off ov er):w.cell? ⟨rb,2,none⟩=some (.int .i64 at_):=ae h.rec_ 2
theorem bM.c3 (h:bM w rb mb go cap log at_ wi ma off ov er):w.cell? ⟨rb,3,none⟩=some (.bool wi):=ae h.rec_ 3
theorem bM.c4 (h:bM w rb mb go cap log at_ wi ma off ov er):w.cell? ⟨rb,4,none⟩=some (.bool ma):=ae h.rec_ 4
theorem bM.c5 (h:bM w rb mb go cap log at_ wi ma off ov er):w.cell? ⟨rb,5,none⟩=some (.bool off):=ae h.rec_ 5
theorem bM.c6 (h:bM w rb mb go cap log at_ wi ma off ov er):w.cell? ⟨rb,6,none⟩=some (.bool ov):=ae h.rec_ 6
theorem bM.c7 (h:bM w rb mb go cap log at_ wi ma off ov er):w.cell? ⟨rb,7,none⟩=some (.int .i64 er):=ae h.rec_ 7
theorem uz (h:bM w rb mb go cap log at_ wi ma off ov er) :
  Calls Tryz.prog 29 #[.pointer (some ⟨rb,0,none⟩)] w fun e w'=>e=.returned (.bool ov)/\w=w':=by
 have h0:=h.c6
 go_enter Tryz.func29,Tryz.ntmps29
 go_wp2
 go_ret
 exact⟨rfl,rfl⟩
theorem qj (h:bM w rb mb go cap log at_ wi ma off ov er) :
  Calls Tryz.prog 125 #[.pointer (some ⟨rb,0,none⟩)] w fun e w'=>e=.returned (.bool off)/\w=w':=by
 have h0:=h.c5
 go_enter Tryz.func125,Tryz.ntmps125
 go_wp2
 go_ret
 exact⟨rfl,rfl⟩
theorem BV (h:bM w rb mb go cap log at_ wi ma off ov er) :
  Calls Tryz.prog 53 #[.pointer (some ⟨rb,0,none⟩)] w fun e w'=>e=.returned (.int .i64 er)/\w=w':=by
 have h0:=h.c7
 go_enter Tryz.func53,Tryz.ntmps53
 go_wp2
 go_ret
 exact⟨rfl,rfl⟩
theorem Iw (w:World) (mb:Nat) :
  Calls Tryz.prog 21 #[.pointer (some ⟨mb,0,none⟩)] w fun e w'=>e=.returned (.pointer (some ⟨w.heap.size,0,none⟩))/\bM w' w.heap.size mb none 0 [] 0 false false false false 0/\Below w.heap.size w w':=by
 go_enter Tryz.func21,Tryz.ntmps21
 go_wp2
 go_ret
 exact⟨rfl,⟨nZ w _,rfl,rfl⟩,au⟩
theorem nX (h:bM w rb mb go cap log at_ true ma off ov er) (ha:at_=log.length) :
  Calls Tryz.prog 117 #[.pointer (some ⟨rb,0,none⟩)] w fun e w'=>e=.returned (.bool false)/\∃ n,w'=w.drewN n:=by
 subst ha
 have h1:=h.c1
 have h2:=h.c2
 have h3:=h.c3
 go_enter Tryz.func117,Tryz.ntmps117
 go_wp2
 go_quiet (fail)
 go_wp2
 go_ret
 exact⟨rfl,_,rfl⟩
theorem zT (h:bM w rb mb go cap log at_ true ma off ov er) (ha:at_<log.length) (hl:log.length<1000000000) :
  Calls Tryz.prog 117 #[.pointer (some ⟨rb,0,none⟩)] w fun e w'=>e=.returned (.bool true)/\bM w' rb mb go cap log (at_+1) true ma off ov er/\bI (·=rb) w w':=by
 have h1:=h.c1
 have h2:=h.c2
 have h3:=h.c3
 have f2:=free_at h.rec_ 2
 have e1:((at_:Int)==(log.length:Int))=false:=by simp;omega
 go_enter Tryz.func117,Tryz.ntmps117
 go_wp2
 go_quiet (fail)
 go_wp2
 go_ret
 exact⟨rfl,(h.drawn _).set 2 _ sZ,bI.setCell (S:=fun k=>k=rb) ((bI.refl _ _).drewN _) (.inr rfl) _⟩
theorem uf (h:bM w rb mb go cap log at_ true false off ov er) :
  Calls Tryz.prog 118 #[.pointer (some ⟨rb,0,none⟩)] w fun e w'=>e=.returned (.bool true)/\bM w' rb mb go cap log at_ true true false ov er/\bI (·=rb) w w':=by
 have h3:=h.c3
 have h4:=h.c4
 have h5:=h.c5
 have f4:=free_at h.rec_ 4
 have f5:=free_at h.rec_ 5
 go_enter Tryz.func118,Tryz.ntmps118
 go_wp2
 go_ret
 exact⟨rfl,(h.set 5 _ (at':=at_) (wi':=true) (ma':=false) (off':=false) (ov':=ov) (er':=er) rfl).set 4 _ rfl,bI.setCell (S:=fun k=>k=rb) (bI.setCell (S:=fun k=>k=rb) (bI.refl _ _) (.inr rfl) _) (.inr rfl) _⟩
theorem Ig (h:bM w rb mb go cap log at_ true true off ov er) :
  Calls Tryz.prog 118 #[.pointer (some ⟨rb,0,none⟩)] w fun e w'=>e=.returned (.bool false)/\bM w' rb mb go cap log at_ true true true ov er/\bI (·=rb) w w':=by
 have h3:=h.c3
 have h4:=h.c4
 have h5:=h.c5
 have f4:=free_at h.rec_ 4
 have f5:=free_at h.rec_ 5
 go_enter Tryz.func118,Tryz.ntmps118
 go_wp2
 go_ret
 exact⟨rfl,(h.set 5 _ (at':=at_) (wi':=true) (ma':=true) (off':=true) (ov':=ov) (er':=er) rfl).set 4 _ rfl,bI.setCell (S:=fun k=>k=rb) (bI.setCell (S:=fun k=>k=rb) (bI.refl _ _) (.inr rfl) _) (.inr rfl) _⟩
theorem EE (h:bM w rb mb go cap log at_ wi ma off ov er) (v:Int) :
  Calls Tryz.prog 119 #[.pointer (some ⟨rb,0,none⟩),.int .u32 v,.int .i64 2] w fun e w'=>e=.returned (.tuple #[])/\bM w' rb mb go cap log at_ wi ma true true 2/\bI (·=rb) w w':=by
 have h5:=h.c5
 have h6:=h.c6
 have h7:=h.c7
 have f5:=free_at h.rec_ 5
 have f6:=free_at h.rec_ 6
 have f7:=free_at h.rec_ 7
 go_enter Tryz.func119,Tryz.ntmps119
 go_wp2
 first | go_end0 | refine tZ (results_none rfl _ _ _) rfl ?_
 exact⟨rfl,((h.set 5 _ (at':=at_) (wi':=wi) (ma':=ma) (off':=true) (ov':=ov) (er':=er) rfl).set 6 _ (at':=at_) (wi':=wi) (ma':=ma) (off':=true) (ov':=true) (er':=er) rfl).set 7 _ rfl,bI.setCell (S:=fun k=>k=rb) (bI.setCell (S:=fun k=>k=rb) (bI.setCell (S:=fun k=>k=rb) (bI.refl _ _) (.inr rfl) _) (.inr rfl) _) (.inr rfl) _⟩
end
theorem Es (w:World) (d p:Int) (hd0:-9223372036854775808<=d) (hd1:d<=9223372036854775807) (hp0:-9223372036854775808<=p) (hp1:p<=9223372036854775807) :
  Calls Tryz.prog 136 #[.int .i64 d,.int .i64 p] w fun e w'=>e=.returned (.tuple #[.int .u32 (eU d p),.int .i64 (gW d p)])/\w'=w:=by
 by_cases h:OD d p
 ·have hx:eU d p=65536*d+p:=by unfold eU;rw[if_pos h]
  have he:gW d p=0:=by unfold gW;rw[if_pos h]
  rw[hx,he]
  obtain⟨h1,h2,h3,h4⟩:=h
  clear hx he
  go_enter Tryz.func136,Tryz.ntmps136
  go_wp2_with fail
  go_ret2
  exact⟨rfl,rfl⟩
 ·have hx:eU d p=0:=by unfold eU;rw[if_neg h]
  have he:gW d p=1:=by unfold gW;rw[if_neg h]
  rw[hx,he]
  clear hx he
  unfold OD at h
  by_cases h1:d<0
  ·clear h
   go_enter Tryz.func136,Tryz.ntmps136
   go_wp2_with fail
   go_ret2
   exact⟨rfl,rfl⟩
  by_cases h2:65535<d
  ·clear h
   go_enter Tryz.func136,Tryz.ntmps136
   go_wp2_with fail
   go_ret2
   exact⟨rfl,rfl⟩
  by_cases h3:p<0
  ·clear h
   go_enter Tryz.func136,Tryz.ntmps136
   go_wp2_with fail
   go_ret2
   exact⟨rfl,rfl⟩
  ·have h4:65535<p:=oZ
   clear h
   go_enter Tryz.func136,Tryz.ntmps136
   go_wp2_with fail
   go_ret2
   exact⟨rfl,rfl⟩
theorem Ku (h b:Nat) (hh:h<4294967296) (hb:b<256):(IntKind.u64.wrap (bits BinOp.xor IntKind.u64 (h:Int) (IntKind.u64.wrap (b:Int))*16777619)).tmod 4294967296=((jb h b:Nat):Int):=by
 have hx:h ^^^ b<4294967296:=Nat.xor_lt_two_pow (n:=32) hh oZ
 rw[IntWalk.u64_in (b:Int) oZ,bits_xor_u64_nat h b oZ oZ]
 unfold jb
 generalize h ^^^ b=x at hx
 rw[IntWalk.u64_in _ oZ,Int.tmod_eq_emod_of_nonneg oZ]
 omega
theorem yM {s:ByteArray} {i:Nat} (h:i<s.size):(ax s).take (i+1)=(ax s).take i++[(s[i]'h).toNat]:=by
 have hl:i<(ax s).length:=by rw[aG];exact h
 rw[List.take_add_one,gZ hl]
 simp[ax]
 rfl
theorem Lc (w:World) (s:ByteArray) (hs:s.size<=1000000):Calls Tryz.prog 132 #[.string s] w fun e w'=>e=.returned (.int .u32 (dB (ax s)))/\w'=w:=by
 have HLt:=hJ (jo s)
 have HLn:=hJ (aG s)
 go_enter Tryz.func132,Tryz.ntmps132
 go_wp2_with fail
 go_loopw [3,4] (fun hv iv wr=>∃ i:Nat,i<=s.size/\iv=.int .i64 i/\hv=.int .u64 (dB ((ax s).take i))/\wr=w) (fun _ iv _=>s.size-(intOf iv).toNat)
 case atStart=>exact⟨0,oZ,rfl,rfl,rfl⟩
 case round =>
  obtain⟨i,hi,rfl,rfl,rfl⟩:=hrel
  by_cases hlt:i<s.size
  ·have hh:=qP ((ax s).take i)
   have hb:(s[i]'hlt).toNat<256:=(s[i]'hlt).toNat_lt
   have HT:=hJ (show dB ((ax s).take (i+1))=jb (dB ((ax s).take i)) (s[i]'hlt).toNat by rw[yM hlt,Ad])
   generalize dB ((ax s).take i)=h at hh HT
   have HW:=hJ (Ku h (s[i]'hlt).toNat hh hb)
   clear hb
   go_wp2_with fail
   refine⟨⟨i+1,oZ,sZ,?_,trivial⟩,by simp[intOf];omega⟩
   rw[HT.out]
   exact congrArg (Value.int IntKind.u64) HW.out
  ·have hi':s.size=i:=oZ
   rw[show (ax s).take i=ax s from List.take_of_length_le (by rw[aG];omega)]
   have hh:=qP (ax s)
   obtain⟨h,hE⟩:∃ h,dB (ax s)=h:=⟨_,rfl⟩
   have HE:=hJ hE
   rw[hE] at hh ⊢
   clear hi' hE
   go_wp2_with fail
   go_ret
   exact⟨by rw[HE.out];rfl,rfl⟩
theorem OO {w:World} {base:Nat} {v:Value} {f:Int} {s:ByteArray} (h:w.ownsRow base 5 1 v (1+s.size) ([.int .u8 f]++Lib.strCells s)) (h0:0<=f):BytesIn w base v (f.toNat :: ax s):=by
 unfold BytesIn
 rw[List.length_cons,aG,Nat.add_comm]
 have e:(f.toNat :: ax s).map (fun(b:Nat)=>Value.int .u8 (b:Int))=[.int .u8 f]++Lib.strCells s:=by
  rw[List.map_cons,Int.toNat_of_nonneg h0]
  simp[ax,Lib.strCells]
 rw[e]
 exact h
theorem Qs {f:Int} (h0:0<=f) (h1:f<=255) (s:ByteArray):∀ b∈f.toNat :: ax s,b<256:=by
 intro b hb
 rcases List.mem_cons.1 hb with rfl | hb
 ·omega
 ·exact jo s b hb
theorem A8 (w:World) (f:Int) (s:ByteArray) (h0:0<=f) (h1:f<=255) (hs:s.size<=1000000):Calls Tryz.prog 131 #[.int .u8 f,.string s] w fun e w'=>e=.returned (.string (ay (f.toNat :: ax s)))/\Below w.heap.size w w':=by
 obtain⟨iB,hi,hz0,hz1,hz2⟩:=info_parts kM
 have HIB:=hJ (And.intro hi (And.intro hz0 (And.intro hz1 hz2)))
 clear hi hz0 hz1 hz2
 go_enter Tryz.func131,Tryz.ntmps131
 have hrow:(w.alloc (.cells #[.int .u8 f] 5)).ownsRow w.heap.size 5 1 (.slice (some ⟨w.heap.size,0,none⟩) 1 1) 1 [.int .u8 f]:=World.ownsRow_lit (base:=w.heap.size) (e:=5) (size:=1) w #[.int .u8 f] 1 (Nat.le_refl _) dZ rfl
 have HRow:=hJ hrow
 clear hrow
 go_wp2_with (at_builtin;refine Lib.wpList_append_own_string _ rfl (.tmp 8) (.tmp 9) 256 9 rfl w.heap.size 5 iB Tryz.underlying256 Tryz.underlying9 HIB.out.1 HIB.out.2.1 HIB.out.2.2.1 HIB.out.2.2.2 _ 1 [.int .u8 f] rfl HRow.out s rfl ?c3 ?c4 ?c5 ?_)
 case c3=>unfold maxLen;omega
 case c4=>omega
 case c5=>simp
 intro v' w2 ho hg _
 have hI:=OO (f:=f) (s:=s) ho h0
 have hB:=(show Below w.heap.size w (w.alloc (.cells #[.int .u8 f] 5)) from au).grown hg sZ (fun k hk=>by simp[Value.ownBlock] at hk;omega)
 clear ho hg
 have hc:=oC hI (Qs h0 h1 s)
 have HB:=hJ hB
 clear hB hI
 go_wp2_with fail
 go_ret
 exact⟨rfl,HB.out⟩
theorem uG:(Tryz.prog.info? 32).map (fun i=>(i.zero,i.size,i.bytes))=some (some (.int .u32 0),1,4):=kZ
theorem N9:(Tryz.prog.info? 32).map (·.size)=some 1:=kZ
theorem MV (n:Nat):madeCells (Value.cells (.int .u32 0)) n=(iM .u32 (List.replicate n 0)).toArray:=by
 apply Array.ext
 ·simp[madeCells,iM,Value.cells]
 ·intro i h1 h2
  simp[madeCells,Value.cells,iM]
  try simp[Nat.mod_one]
theorem Eg (n:Nat) (h2:n<=1000000) (w:World):(Instr.makeSlice 47 (.int .i64 n) (.int .i64 n)).run Tryz.prog w=.ok (.slice (some ⟨w.heap.size,0,none⟩) n n) (w.alloc (.cells (iM .u32 (List.replicate n 0)).toArray 32)):=by
 obtain⟨i0,hi,hz0,hz1,hz2⟩:=info_parts uG
 have:=run_make (P:=Tryz.prog) w 47 32 i0 _ Tryz.underlying47 hi hz0 .i64 .i64 n n oZ oZ (by rw[hz2];omega) oZ
 rw[this,hz1,MV]
 simp
inductive Pr (α:Type) where
 | ret (x:α)
 | load (a:Int) (k:Int->Pr α)
 | store (a v:Int) (k:Pr α)
variable {α β:Type}
def u32 (v:Int):Int:=IntKind.u32.wrap v
theorem u32_in {v:Int} (h:U v):u32 v=v:=IntWalk.u32_in _ (by have:=h.1;have:=h.2;omega)
def Pr.bind:Pr α->(α->Pr β)->Pr β
 | .ret x,f=>f x
 | .load a k,f=>.load a fun v=>(k v).bind f
 | .store a v k,f=>.store a v (k.bind f)
def Pr.on:Pr α->St->Option α×St
 | .ret x,st=>(some x,st)
 | .load a k,st=>if(st.load a).2.off=true then(none,(st.load a).2) else(k (st.load a).1).on (st.load a).2
 | .store a v k,st=>if(st.store a (u32 v)).off=true then(none,st.store a (u32 v)) else k.on (st.store a (u32 v))
def St.Good (st:St):Prop:=st.off=true->st.made=true/\st.at_=st.log.length
theorem St.zk {st:St} (h:st.Good) (ho:st.off=true) (a:Int):st.load a=(0,st):=by
 obtain⟨h1,h2⟩:=h ho
 unfold St.load
 rw[if_neg oZ,if_pos h1]
 cases st
 simp_all
theorem St.qJ {st:St} (h:st.Good) (ho:st.off=true) (a v:Int):st.store a v=st:=by
 obtain⟨h1,h2⟩:=h ho
 unfold St.store
 rw[if_neg oZ,if_pos h1]
 cases st
 simp_all
theorem St.Good.load {st:St} (h:st.Good) (hat:st.at_<=st.log.length) (a:Int):(st.load a).2.Good:=by
 unfold St.load
 split
 ·intro ho
  have:=h ho
  omega
 ·split
  ·intro _
   exact⟨by assumption,by show st.at_=st.log.length;omega⟩
  ·split
   ·intro ho
    simp at ho
   ·intro _
    exact⟨rfl,by show st.at_=st.log.length;omega⟩
theorem St.Good.store {st:St} (h:st.Good) (hat:st.at_<=st.log.length) (a v:Int):(st.store a v).Good:=by
 unfold St.store
 split
 ·intro ho
  have:=h ho
  omega
 ·split
  ·intro _
   exact⟨by assumption,by show st.at_=st.log.length;omega⟩
  ·split
   ·intro ho
    simp at ho
   ·intro _
    exact⟨rfl,by show st.at_=st.log.length;omega⟩
structure St.Fine (st:St) (B:Nat):Prop where
 ok:st.Ok B
 good:st.Good
theorem St.Fine.load {st:St} {B:Nat} (h:st.Fine B) (a:Int):(st.load a).2.Fine B:=⟨(h.ok.load a).1,h.good.load h.ok.at_le a⟩
theorem St.Fine.store {st:St} {B:Nat} (h:st.Fine B) (a v:Int):(st.store a (u32 v)).Fine B:=⟨h.ok.store a _ (su v),h.good.store h.ok.at_le a _⟩
theorem gB {B:Nat}:∀ (p:Pr α) (st:St),st.Fine B->(p.on st).2.Fine B
 | .ret _,_,h=>h
 | .load a k,st,h=>by
  unfold Pr.on
  split
  ·exact h.load a
  ·exact gB (k _) _ (h.load a)
 | .store a v k,st,h=>by
  unfold Pr.on
  split
  ·exact h.store a v
  ·exact gB k _ (h.store a v)
theorem qy:∀ (p:Pr α) (st:St),(p.on st).1=none->(p.on st).2.off=true
 | .ret _,_,h=>by simp[Pr.on] at h
 | .load a k,st,h=>by
  unfold Pr.on at h ⊢
  split
  ·assumption
  ·rename_i ho
   rw[if_neg ho] at h
   exact qy (k _) _ h
 | .store a v k,st,h=>by
  unfold Pr.on at h ⊢
  split
  ·assumption
  ·rename_i ho
   rw[if_neg ho] at h
   exact qy k _ h
theorem Bv:∀ (p:Pr α) (st:St) (x:α),st.off=false->(p.on st).1=some x->(p.on st).2.off=false
 | .ret _,_,_,h,_=>h
 | .load a k,st,x,ho,h=>by
  unfold Pr.on at h ⊢
  split
  ·rename_i h1
   rw[if_pos h1] at h
   simp at h
  ·rename_i h1
   rw[if_neg h1] at h
   exact Bv (k _) _ x (by simpa using h1) h
 | .store a v k,st,x,ho,h=>by
  unfold Pr.on at h ⊢
  split
  ·rename_i h1
   rw[if_pos h1] at h
   simp at h
  ·rename_i h1
   rw[if_neg h1] at h
   exact Bv k _ x (by simpa using h1) h
theorem xJ (f:α->Pr β):∀ (p:Pr α) (st:St),(p.bind f).on st=match (p.on st).1 with
  | some x=>(f x).on (p.on st).2
  | none=>(none,(p.on st).2)
 | .ret _,_=>rfl
 | .load a k,st=>by
  simp only[Pr.bind,Pr.on]
  by_cases h:(st.load a).2.off=true
  ·rw[if_pos h,if_pos h]
  ·rw[if_neg h,if_neg h]
   exact xJ f (k _) _
 | .store a v k,st=>by
  simp only[Pr.bind,Pr.on]
  by_cases h:(st.store a (u32 v)).off=true
  ·rw[if_pos h,if_pos h]
  ·rw[if_neg h,if_neg h]
   exact xJ f k _
/-! ### What a Step makes of it -/
def Pr.after:Pr α->List Int->Pr α
 | p,[]=>p
 | .ret x,_ :: _=>.ret x
 | .load _ k,v :: l=>(k v).after l
 | .store _ _ k,_ :: l=>k.after l
def Pr.Fits:Pr α->List Int->Prop
 | _,[]=>True
 | .ret _,_ :: _=>False
 | .load _ k,v :: l=>(k v).Fits l
 | .store _ _ k,_ :: l=>k.Fits l
theorem xQ (p:Pr α):p.Fits []:=by cases p <;> trivial
theorem qI (p:Pr α):p.after []=p:=by cases p <;> rfl
theorem oO:∀ (l:List Int) (p:Pr α) (v:Int),p.after (l++[v])=(p.after l).after [v]
 | [],p,v=>by rw[qI];rfl
 | y :: l,p,v=>by
  cases p with
  | ret x=>simp[Pr.after]
  | load a k=>exact oO l (k y) v
  | store a u k=>exact oO l k v
theorem qO:∀ (l:List Int) (p:Pr α) (v:Int),p.Fits l->(p.after l).Fits [v]->p.Fits (l++[v])
 | [],p,v,_,h=>by rw[qI] at h;exact h
 | y :: l,p,v,h1,h2=>by
  cases p with
  | ret x=>exact h1
  | load a k=>exact qO l (k y) v h1 h2
  | store a u k=>exact qO l k v h1 h2
theorem vK:∀ (l2 l1:List Int) (p:Pr α) (st:St),st.log=l1++l2->st.at_=l1.length->st.off=false->p.Fits l2->p.on st=(p.after l2).on {st with at_:=st.log.length}
 | [],l1,p,st,h1,h2,_,_=>by
  rw[qI]
  have:({st with at_:=st.log.length}:St)=st:=by
   cases st
   simp_all
  rw[this]
 | v :: l2,l1,p,st,h1,h2,h3,h4=>by
  have hlt:st.at_<st.log.length:=by rw[h1,h2];simp
  have hv:st.log.getD st.at_ 0=v:=by rw[h1,h2];simp
  have hl:({st with at_:=st.at_+1}:St).log=(l1++[v])++l2:=by show st.log=_;rw[h1];simp
  have ha:({st with at_:=st.at_+1}:St).at_=(l1++[v]).length:=by show st.at_+1=_;rw[h2];simp
  cases p with
  | ret x=>exact h4.elim
  | load a k =>
   have e:st.load a=(v,{st with at_:=st.at_+1}):=by simp only[St.load,if_pos hlt,hv]
   have ih:=vK l2 (l1++[v]) (k v) {st with at_:=st.at_+1} hl ha h3 h4
   simp only[Pr.on,e]
   rw[if_neg (by simp[h3]),ih]
   rfl
  | store a u k =>
   have e:st.store a (u32 u)={st with at_:=st.at_+1}:=by simp only[St.store,if_pos hlt]
   have ih:=vK l2 (l1++[v]) k {st with at_:=st.at_+1} hl ha h3 h4
   simp only[Pr.on,e]
   rw[if_neg (by simp[h3]),ih]
   rfl
def St.shut (t:St):St:={t with over:=t.over||!t.off,off:=t.err != 0}
def St.nV (st:St) (p:Pr α):St:=if st.over=true then st else(p.on {st with at_:=0,made:=false}).2.shut
def St.KP (st:St) (p:Pr α):Option α:=(p.on {st with at_:=0,made:=false}).1
def Pr.next:Pr α->List Int->Pr α×List Int
 | .ret x,cs=>(.ret x,cs)
 | .load a k,cs=>(k (cs.getD a.toNat 0),cs)
 | .store a v k,cs=>(k,cs.set a.toNat (u32 v))
def Pr.In:Pr α->Nat->Prop
 | .ret _,_=>True
 | .load a _,n=>0<=a/\a<n
 | .store a _ _,n=>0<=a/\a<n
structure At (p q:Pr α) (st:St):Prop where
 fits:p.Fits st.log
 rest:p.after st.log=q
 over:st.over=false
 off:st.off=false
 err:st.err=0
theorem At.new (p:Pr α) (cs:List Int) (l s:Int):At p p ⟨[],0,false,false,false,0,cs,l,s⟩:=⟨xQ p,qI p,rfl,rfl,rfl⟩
theorem Ew {p q:Pr α} {st:St} (h:At p q st):p.on {st with at_:=0,made:=false}=q.on {st with at_:=st.log.length,made:=false}:=by
 have:=vK st.log [] p {st with at_:=0,made:=false} sZ sZ h.off h.fits
 rw[this,h.rest]
theorem Qr (q:Pr α) (st:St) (h1:st.made=true) (h2:st.at_=st.log.length):q.on st=match q with
  | .ret x=>(some x,st)
  | _=>(none,{st with off:=true}):=by
 cases q with
 | ret x=>rfl
 | load a k =>
  have e:st.load a=(0,{st with off:=true}):=by
   unfold St.load
   rw[if_neg oZ,if_pos h1]
  simp only[Pr.on,e]
  rfl
 | store a v k =>
  have e:st.store a (u32 v)={st with off:=true}:=by
   unfold St.store
   rw[if_neg oZ,if_pos h1]
  simp only[Pr.on,e]
  rfl
def Pr.wV:Pr α->Bool
 | .ret _=>true
 | _=>false
def Pr.ans:Pr α->Option α
 | .ret x=>some x
 | _=>none
theorem IM (q:Pr α) (st:St) (h1:st.made=true) (h2:st.at_=st.log.length) (h3:st.off=false):(q.on st).1=q.ans/\(q.on st).2={st with off:=!q.wV}:=by
 rw[Qr q st h1 h2]
 cases q with
 | ret x=>exact⟨rfl,by cases st;simp_all [Pr.wV]⟩
 | load a k=>exact⟨rfl,rfl⟩
 | store a v k=>exact⟨rfl,rfl⟩
structure Stepped (p q:Pr α) (cs:List Int) (st st':St) (n:Option α):Prop where
 ans:n=(q.next cs).1.ans
 cells:st'.cs=(q.next cs).2
 over:st'.over=(q.next cs).1.wV
 at_:(q.next cs).1.wV=false->At p (q.next cs).1 st'
 err:st'.err=0
 count:st'.log.length<=st.log.length+1
 sum:st'.l+st'.s<=st.l+st.s+1
 l0:st.l<=st'.l
 s0:st.s<=st'.s
theorem step_next {p q:Pr α} {st:St} (h:At p q st) (hin:q.In st.cs.length):Stepped p q st.cs st (st.nV p) (st.KP p):=by
 have ho:=Ew h
 have e1:st.nV p=(q.on {st with at_:=st.log.length,made:=false}).2.shut:=by
  unfold St.nV
  rw[if_neg (by simp[h.over]),ho]
 have e2:st.KP p=(q.on {st with at_:=st.log.length,made:=false}).1:=by unfold St.KP;rw[ho]
 rw[e1,e2]
 clear e1 e2 ho
 unfold St.shut
 cases q with
 | ret x=>exact⟨rfl,rfl,by simp[Pr.on,h.off,h.over,Pr.next,Pr.wV],by simp[Pr.next,Pr.wV],h.err,by simp[Pr.on],by simp only[Pr.on];omega,by simp[Pr.on],by simp[Pr.on]⟩
 | load a k =>
  obtain⟨h1,h2⟩:=hin
  have e:({st with at_:=st.log.length,made:=false}:St).load a=(st.cs.getD a.toNat 0,{st with made:=true,off:=false,log:=st.log++[st.cs.getD a.toNat 0],at_:=st.log.length+1,l:=st.l+1}):=by
   have hk:=tK h1 h2
   simp[St.load,hk]
  have hf:=IM (k (st.cs.getD a.toNat 0)) {st with made:=true,off:=false,log:=st.log++[st.cs.getD a.toNat 0],at_:=st.log.length+1,l:=st.l+1} rfl sZ rfl
  simp only[Pr.on,e]
  rw[if_neg sZ,hf.1,hf.2]
  refine⟨rfl,rfl,by simp[h.over,Pr.next],fun hr=>⟨qO _ _ _ h.fits (by rw[h.rest];exact xQ _),?_,by simp[h.over];exact hr,by simp[h.err],h.err⟩,h.err,sZ,by simp;omega,by simp;omega,sZ⟩
  show p.after (st.log++_)=_
  rw[oO,h.rest]
  simp only[Pr.after,Pr.next]
 | store a v k =>
  obtain⟨h1,h2⟩:=hin
  have e:({st with at_:=st.log.length,made:=false}:St).store a (u32 v)={st with made:=true,off:=false,log:=st.log++[0],at_:=st.log.length+1,cs:=st.cs.set a.toNat (u32 v),s:=st.s+1}:=by
   have hk:=tK h1 h2
   simp[St.store,hk]
  have hf:=IM k {st with made:=true,off:=false,log:=st.log++[0],at_:=st.log.length+1,cs:=st.cs.set a.toNat (u32 v),s:=st.s+1} rfl sZ rfl
  simp only[Pr.on,e]
  rw[if_neg sZ,hf.1,hf.2]
  refine⟨rfl,rfl,by simp[h.over,Pr.next],fun hr=>⟨qO _ _ _ h.fits (by rw[h.rest];exact xQ _),?_,by simp[h.over];exact hr,by simp[h.err],h.err⟩,h.err,sZ,by simp;omega,sZ,by simp;omega⟩
  show p.after (st.log++_)=_
  rw[oO,h.rest]
  simp only[Pr.after,Pr.next]
theorem At.fine {p q:Pr α} {st:St} (h:At p q st) {B:Nat} (hl:st.log.length+1<=B) (h0:0<=st.l) (h1:0<=st.s) (h2:st.l+st.s+1<=B) (hlu:∀ x∈st.log,U x) (hcu:∀ x∈st.cs,U x):({st with at_:=0,made:=false}:St).Fine B :=
 ⟨⟨Nat.zero_le _,by simp;omega,h0,h1,by simp;omega,hlu,hcu⟩,fun ho=>by have:=h.off;simp_all⟩
/-! ### At once -/
inductive Does:Pr α->List Int->Nat->α->List Int->Prop
 | ret (x:α) (cs:List Int):Does (.ret x) cs 0 x cs
 | load {a:Int} {k:Int->Pr α} {cs cs':List Int} {n:Nat} {x:α}:0<=a->a<cs.length->Does (k (cs.getD a.toNat 0)) cs n x cs'->Does (.load a k) cs (n+1) x cs'
 | store {a v:Int} {k:Pr α} {cs cs':List Int} {n:Nat} {x:α}:0<=a->a<cs.length->Does k (cs.set a.toNat (u32 v)) n x cs'->Does (.store a v k) cs (n+1) x cs'
theorem Does.step {q:Pr α} {cs cs':List Int} {n:Nat} {x:α} (h:Does q cs n x cs'):q.In cs.length/\Does (q.next cs).1 (q.next cs).2 (n-1) x cs'/\(0<n∨(q.next cs).1=.ret x):=by
 cases h with
 | ret=>exact⟨trivial,.ret _ _,.inr rfl⟩
 | load h1 h2 h3=>exact⟨⟨h1,h2⟩,h3,.inl oZ⟩
 | store h1 h2 h3=>exact⟨⟨h1,h2⟩,h3,.inl oZ⟩
theorem Does.FP {y:α} {cs cs':List Int} {n:Nat} {x:α} (h:Does (.ret y) cs n x cs'):y=x/\cs'=cs/\n=0:=by
 cases h
 exact⟨rfl,rfl,rfl⟩
theorem Does.len {q:Pr α} {cs cs':List Int} {n:Nat} {x:α} (h:Does q cs n x cs'):cs'.length=cs.length:=by
 induction h with
 | ret=>rfl
 | load _ _ _ ih=>exact ih
 | store _ _ _ ih=>rw[ih,List.length_set]
/-! ### Whoever stores between its Steps -/
def az (S:Nat->Int):Nat->Int
 | 0=>3
 | k+1=>az S k+S k
def pz (S:Nat->Int) (i k:Nat):Int:=if k<i then az S k else 0
def bY (d t:Int):Int:=1+4*d+slotsOf t
theorem iF (B S:Nat->Int) (C T L:Int):(af B S C T L).all (·.oneCell')=true:=by simp[af,Value.oneCell']
theorem sD (B S B' S':Nat->Int) (C T L C' T' L':Int):(af B S C T L).size=(af B' S' C' T' L').size:=rfl
theorem ai (B S:Nat->Int) (C T L:Int):(Tryz.prog.info? 42).map (·.size)=some (af B S C T L).size:=kZ
theorem jL (B S:Nat->Int) (C T L:Int) (k:Nat) (hk:k<6):(af B S C T L)[k]?=some (.int .i64 (B k)):=by
 rcases ni hk with rfl | rfl | rfl | rfl | rfl | rfl <;> rfl
theorem lL (B S:Nat->Int) (C T L:Int) (k:Nat) (hk:k<6):(af B S C T L)[6+k]?=some (.int .i64 (S k)):=by
 rcases ni hk with rfl | rfl | rfl | rfl | rfl | rfl <;> rfl
theorem ry (B S B':Nat->Int) (C T L:Int) (k:Nat) (x:Int) (hk:k<6) (h:∀ j,j<6->B' j=if j=k then x else B j):(af B S C T L).setIfInBounds k (.int .i64 x)=af B' S C T L:=by
 have h0:=h 0 oZ
 have h1:=h 1 oZ
 have h2:=h 2 oZ
 have h3:=h 3 oZ
 have h4:=h 4 oZ
 have h5:=h 5 oZ
 rcases ni hk with rfl | rfl | rfl | rfl | rfl | rfl <;> simp at h0 h1 h2 h3 h4 h5 <;> simp[af,h0,h1,h2,h3,h4,h5]
theorem pF (B S:Nat->Int) (C T L x:Int):(af B S C T L).setIfInBounds 12 (.int .i64 x)=af B S x T L:=rfl
theorem zt (B S:Nat->Int) (C T L x:Int):(af B S C T L).setIfInBounds 14 (.int .i64 x)=af B S C T x:=rfl
theorem wY (S:Nat->Int) (k j:Nat):pz S (k+1) j=if j=k then az S k else pz S k j:=by
 unfold pz
 by_cases e:j=k
 ·subst e;simp
 ·by_cases a:j<k
  ·simp[e,a,show j<k+1 by omega]
  ·simp[e,a,show ¬ j<k+1 by omega]
def jD (w:World) (d t:Int) (s:Nat->Int) (bk rm:Int) (kf bf:Nat) (wr:World):Prop :=
 wr.heap[w.heap.size]?=some (.cells (ak d t s bk rm kf bf) 25 (0,0))/\wr.heap[w.heap.size+1]?=some (.cells (af (fun _=>0) (fun _=>0) 0 0 0) 42 (0,0))/\Below w.heap.size w wr
theorem jD.below {w:World} {d t:Int} {s:Nat->Int} {bk rm:Int} {kf bf:Nat} {wr w':World} (h:jD w d t s bk rm kf bf wr) (hb:Below wr.heap.size wr w'):jD w d t s bk rm kf bf w' :=
 ⟨(hb.block _ (lt_of_heap h.1)).trans h.1,(hb.block _ (lt_of_heap h.2.1)).trans h.2.1,h.2.2.trans (hb.mono h.2.2.size)⟩
theorem jD.setCell {w:World} {d t:Int} {s:Nat->Int} {bk rm:Int} {kf bf:Nat} {wr:World} (h:jD w d t s bk rm kf bf wr) {p:Addr} (hp:w.heap.size+2<=p.block) (v:Value):jD w d t s bk rm kf bf (wr.setCell p v) :=
 ⟨by rw[Below.heap_setCell _ _ _ _ oZ];exact h.1,by rw[Below.heap_setCell _ _ _ _ oZ];exact h.2.1,h.2.2.setCell oZ _⟩
theorem jD.drew {w:World} {d t:Int} {s:Nat->Int} {bk rm:Int} {kf bf:Nat} {wr:World} (h:jD w d t s bk rm kf bf wr):jD w d t s bk rm kf bf wr.drew:=⟨h.1,h.2.1,h.2.2.drew⟩
theorem vO {d t:Int} {s:Nat->Int} {bk rm:Int} (h:La d t s bk rm):∀ k,3<=az (aB s bk rm) k
 | 0=>by simp[az]
 | k+1=>by have:=vO h k;have:=xG h k;simp only[az];omega
theorem vT {d t:Int} {s:Nat->Int} {bk rm:Int} (h:La d t s bk rm):∀ k,az (aB s bk rm) k<=3+131072*k
 | 0=>by simp[az]
 | k+1=>by have:=vT h k;have:=BR h k;simp only[az];omega
theorem FX (t:Int):128<=slotsOf t:=by unfold slotsOf;split;omega;split <;> omega
theorem GX (t:Int):slotsOf t<=512:=by unfold slotsOf;split;omega;split <;> omega
theorem QM (w:World) (d t:Int) (s:Nat->Int) (bk rm:Int) (kf bf:Nat) (h:¬ La d t s bk rm) :
  Calls Tryz.prog 63 #[.agg (ak d t s bk rm kf bf)] w fun e w'=>e=.returned (.tuple #[.agg (af (fun _=>0) (fun _=>0) 0 0 0),.int .i64 1])/\Below w.heap.size w w':=by
 unfold ak
 go_enter Tryz.func63,Tryz.ntmps63
 go_wp2_with fail
 refine(FC _ d t s bk rm kf bf h).mono ?_;rintro e w1 ⟨rfl,hb1⟩
 have hz:w.heap.size+1<w1.heap.size:=by have:=hb1.size;simp at this;omega
 have h2:=(hb1.block (w.heap.size+1) sZ).trans (fK _ _ _)
 have H2:=hJ h2
 have HB:=hJ hb1
 clear h2 hb1 hz
 go_wp2_with (first
  | (refine zZ rfl 42 (.tmp 2) (.tmp 9) rfl (w.heap.size+1) (af (fun _=>0) (fun _=>0) 0 0 0) rfl rfl 42 (af (fun _=>0) (fun _=>0) 0 0 0) H2.out (ai _ _ _ _ _) rfl (iF _ _ _ _ _) ?_))
 refine tZ (v:=.tuple #[.agg (af (fun _=>0) (fun _=>0) 0 0 0),.int .i64 1]) (results_cell_tmp rfl _ _ (w.heap.size+1) _ _ (0,0) _ _ rfl rfl (setRow_heap _ _ _ _ _ _ H2.out) Tryz.underlying42 rfl (ai _ _ _ _ _)) rfl ⟨rfl,?_⟩
 exact below_setRow (dL.trans (HB.out.mono uZ)) oZ _
theorem LK (w:World) (d t:Int) (s:Nat->Int) (bk rm:Int) (kf bf:Nat) (h:La d t s bk rm) :
  Calls Tryz.prog 63 #[.agg (ak d t s bk rm kf bf)] w fun e w'=>e=.returned (if az (aB s bk rm) 6<=65536 then .tuple #[.agg (af (az (aB s bk rm)) (aB s bk rm) (az (aB s bk rm) 6) (slotsOf t) (bY d t)),.int .i64 0] else .tuple #[.agg (af (fun _=>0) (fun _=>0) 0 0 0),.int .i64 1])/\Below w.heap.size w w':=by
 obtain⟨R,hR⟩:∃ R,R=(if az (aB s bk rm) 6<=65536 then Value.tuple #[.agg (af (az (aB s bk rm)) (aB s bk rm) (az (aB s bk rm) 6) (slotsOf t) (bY d t)),.int .i64 0] else .tuple #[.agg (af (fun _=>0) (fun _=>0) 0 0 0),.int .i64 1]):=⟨_,rfl⟩
 rw[<- hR]
 have HR:=hJ hR
 clear hR
 unfold ak
 go_enter Tryz.func63,Tryz.ntmps63
 go_wp2_with fail
 refine(BM _ d t s bk rm kf bf h).mono ?_;rintro e w1 ⟨rfl,hb1⟩
 have h1:=(hb1.block w.heap.size uZ).trans (fO _ _ _)
 have h2:=(hb1.block (w.heap.size+1) sZ).trans (fK _ _ _)
 have hr:jD w d t s bk rm kf bf w1:=⟨h1,h2,dL.trans (hb1.mono uZ)⟩
 clear h1 h2 hb1
 go_upto_region 3 with fail
 go_cut [4] (fun p wx=>∃ q,p=.pointer (some ⟨q,0,none⟩)/\w.heap.size+2<=q/\wx.heap[q]?=some (.cells (af (fun _=>0) (aB s bk rm) 3 (slotsOf t) 0) 42 (0,0))/\jD w d t s bk rm kf bf wx)
 case first =>
  refine aU (fun(q:Nat) j=>[.agg #[.int .i64 d,.int .i64 t,.int .i64 (s 0),.int .i64 (s 1),.int .i64 (s 2),.int .i64 (s 3),.int .i64 bk,.int .i64 rm,.float .f64 kf,.float .f64 bf],.agg #[.int .i64 (aB s bk rm 0),.int .i64 (aB s bk rm 1),.int .i64 (aB s bk rm 2),.int .i64 (aB s bk rm 3),.int .i64 (aB s bk rm 4),.int .i64 (aB s bk rm 5)],.pointer (some ⟨w.heap.size,1,none⟩),.int .i64 t,.int .i64 (slotsOf t),.agg #[.int .i64 0,.int .i64 0,.int .i64 0,.int .i64 0,.int .i64 0,.int .i64 0,.int .i64 (aB s bk rm 0),.int .i64 (aB s bk rm 1),.int .i64 (aB s bk rm 2),.int .i64 (aB s bk rm 3),.int .i64 (aB s bk rm 4),.int .i64 (aB s bk rm 5),.int .i64 3,.int .i64 (slotsOf t),.int .i64 0],.pointer (some ⟨q,0,none⟩)].getD j undef)
   (fun q l wx=>jD w d t s bk rm kf bf wx/\(l 7=true->l 6=true)/\(l 6=true->w.heap.size+2<=q/\wx.heap[q]?=some (.cells (if l 7 then af (fun _=>0) (aB s bk rm) 3 (slotsOf t) 0 else af (fun _=>0) (fun _=>0) 0 0 0) 42 (0,0))))
   kZ kZ pZ 0 ?_ ?_ ?_
  ·exact⟨⟨hr.1,hr.2.1,hr.2.2.drew⟩,(fun h=>by cases h),fun h=>by cases h⟩
  ·intro i o ho q l wx hR hl he K hK
   have hsz:=lt_of_heap hR.1.2.1
   rcases i with _|_|_|_|_|_|_|_|i
   ·cases ho
    refine wp_load_row 25 (.tmp 1) rfl w.heap.size rfl 25 (ak d t s bk rm kf bf) (0,0) _ hR.1.1 Tryz.underlying25 rfl kZ ?_
    exact hK q wx (fun _ _=>rfl) hR
   ·cases ho
    go_simp
    refine(KD _ d t s bk rm kf bf h).mono ?_;rintro e w2 ⟨rfl,hb2⟩
    exact hK q w2 (fun _ _=>rfl) ⟨hR.1.below hb2,hR.2.1,fun h6=>⟨(hR.2.2 h6).1,(hb2.block q (lt_of_heap (hR.2.2 h6).2)).trans (hR.2.2 h6).2⟩⟩
   ·cases ho
    go_simp
    exact hK q wx (fun _ _=>rfl) hR
   ·cases ho
    have c1:wx.cell? ⟨w.heap.size,1,none⟩=some (.int .i64 t):=ae hR.1.1 1
    go_simp
    exact hK q wx (fun _ _=>rfl) hR
   ·cases ho
    go_simp
    refine(Jz _ t h.t0 h.t1).mono ?_;rintro e w2 ⟨rfl,rfl⟩
    exact hK q wx (fun _ _=>rfl) hR
   ·cases ho
    go_simp
    exact hK q wx (fun _ _=>rfl) hR
   ·cases ho
    go_simp
    refine hK wx.heap.size _ (fun j hj=>?_) ⟨hR.1.below au,(fun _=>rfl),fun _=>⟨oZ,?_⟩⟩
    ·rcases j with _|_|_|_|_|_|_|j
     all_goals first | rfl | (rw[hl] at hj;cases hj)
    ·have h7:l 7=false:=by
      cases h:l 7 with
      | false=>rfl
      | true=>have:=hR.2.1 h;rw[hl] at this;cases this
     rw[if_neg (by show ¬ ((7==6||l 7)=true);rw[h7];decide)]
     exact nZ _ _
   ·cases ho
    have h6:=he ⟨6,.data⟩ sZ rfl
    obtain⟨hq1,hq2⟩:=hR.2.2 h6
    rw[if_neg lZ] at hq2
    refine wp_store_row 42 (.tmp 4) (.tmp 15) rfl q (af (fun _=>0) (aB s bk rm) 3 (slotsOf t) 0) rfl rfl 42 _ hq2 (ai _ _ _ _ _) rfl (iF _ _ _ _ _) ?_
    refine hK q _ (fun _ _=>rfl) ⟨?_,(fun _=>h6),fun _=>⟨hq1,setRow_heap _ _ _ _ _ _ hq2⟩⟩
    exact⟨(qZ _ _ _ _ oZ).trans hR.1.1,(qZ _ _ _ _ oZ).trans hR.1.2.1,below_setRow hR.1.2.2 oZ _⟩
   ·simp at ho
  ·intro q l wx hl hR
   have h6:=hl 6 dZ
   have h7:=hl 7 dZ
   obtain⟨hq1,hq2⟩:=hR.2.2 h6
   rw[if_pos h7] at hq2
   have hL:=hR.1
   clear hR
   go_wp2_with fail
   go_meet
   exact⟨q,rfl,hq1,hq2,hL⟩
 case rest =>
  obtain⟨q,rfl,hq1,hq2,hL⟩:=hcut
  have hlim:=h
  clear h
  go_wp2_with fail
  go_loopw [16] (fun i wr=>∃ k:Nat,k<=6/\i=.int .i64 k/\wr.heap[q]?=some (.cells (af (pz (aB s bk rm) k) (aB s bk rm) (az (aB s bk rm) k) (slotsOf t) 0) 42 (0,0))/\jD w d t s bk rm kf bf wr) (fun i _=>6-(intOf i).toNat)
  case atStart=>exact⟨0,oZ,rfl,hq2,hL⟩
  case round =>
   obtain⟨k,hk,rfl,hq,hL⟩:=hrel
   by_cases hlt:k<6
   ·have hlt6:(k:Int)<6:=oZ
    have c1:wr.cell? ⟨q,k,none⟩=some (.int .i64 (pz (aB s bk rm) k k)):=(ae hq k).trans (jL _ _ _ _ _ k hlt)
    have c2:wr.cell? ⟨q,12,none⟩=some (.int .i64 (az (aB s bk rm) k)):=ae hq 12
    have f1:=free_at hq k
    have HQ:=hJ hq
    have HL:=hJ hL
    clear hq hL
    go_upto_region 8 with fail
    obtain⟨w5,hw5⟩:∃ w5,w5=wr.setCell ⟨q,k,none⟩ (.int .i64 (az (aB s bk rm) k)):=⟨_,rfl⟩
    rw[<- hw5]
    have hq5:w5.heap[q]?=some (.cells (af (pz (aB s bk rm) (k+1)) (aB s bk rm) (az (aB s bk rm) k) (slotsOf t) 0) 42 (0,0)):=by
     rw[hw5,heap_setCell_same _ _ _ _ _ _ HQ.out,ry _ _ _ _ _ _ k _ hlt (fun j _=>wY _ k j)]
    have hL5:jD w d t s bk rm kf bf w5:=by
     rw[hw5]
     exact HL.out.setCell hq1 _
    clear c1 c2 f1 hw5
    have c2:w5.cell? ⟨q,12,none⟩=some (.int .i64 (az (aB s bk rm) k)):=ae hq5 12
    have c3:w5.cell? ⟨q,6+k,none⟩=some (.int .i64 (aB s bk rm k)):=(ae hq5 (6+k)).trans (lL _ _ _ _ _ k hlt)
    have f2:=free_at hq5 12
    have b0:=vO hlim k
    have b1:=vT hlim k
    have s0:=xG hlim k
    have s1:=BR hlim k
    have HQ5:=hJ hq5
    have HL5:=hJ hL5
    clear hq5 hL5
    go_still_tail 8,kZ
    change wpList _ _ _ _ _ w5.drew
    go_wp2_with fail
    go_roundw
    case rel =>
     refine⟨k+1,oZ,by go_num,?_,?_⟩
     ·change (World.heap (World.setCell _ _ _))[_]?=_
      rw[heap_setCell_same _ _ _ _ _ _ HQ5.out,pF];rfl
     ·exact(HL5.out.setCell hq1 _).drew
    case measure=>simp[intOf];omega
   ·obtain rfl:k=6:=oZ
    have c2:wr.cell? ⟨q,12,none⟩=some (.int .i64 (az (aB s bk rm) 6)):=ae hq 12
    have c3:wr.cell? ⟨w.heap.size,0,none⟩=some (.int .i64 d):=ae hL.1 0
    have c4:wr.cell? ⟨q,13,none⟩=some (.int .i64 (slotsOf t)):=ae hq 13
    have c5:wr.cell? ⟨q,14,none⟩=some (.int .i64 0):=ae hq 14
    have f5:=free_at hq 14
    have t0:=FX t
    have t1:=GX t
    have d0:=hlim.d0
    have d1:=hlim.d1
    have HQ:=hJ hq
    have HL:=hJ hL
    clear hq hL
    by_cases hc:az (aB s bk rm) 6<=65536
    ·go_upto_region 13 with fail
     obtain⟨w6,hw6⟩:∃ w6,w6=wr.setCell ⟨q,14,none⟩ (.int .i64 (1+4*d+slotsOf t)):=⟨_,rfl⟩
     rw[<- hw6]
     have hq6:w6.heap[q]?=some (.cells (af (az (aB s bk rm)) (aB s bk rm) (az (aB s bk rm) 6) (slotsOf t) (bY d t)) 42 (0,0)):=by
      rw[hw6,heap_setCell_same _ _ _ _ _ _ HQ.out,zt];rfl
     have hL6:jD w d t s bk rm kf bf w6:=by
      rw[hw6]
      exact HL.out.setCell hq1 _
     clear hw6 HQ HL c2 c3 c4 c5 f5
     have H2:=hJ hL6.2.1
     have HQ6:=hJ hq6
     have HB:=hJ hL6.2.2
     clear hq6 hL6
     go_wp2_with (first
      | (refine yZ rfl 42 (.tmp 4) rfl q rfl 42 (af (az (aB s bk rm)) (aB s bk rm) (az (aB s bk rm) 6) (slotsOf t) (bY d t)) (0,0) _ HQ6.out Tryz.underlying42 rfl (ai _ _ _ _ _) ?_)
      | (refine zZ rfl 42 (.tmp 2) (.tmp 45) rfl (w.heap.size+1) (af (az (aB s bk rm)) (aB s bk rm) (az (aB s bk rm) 6) (slotsOf t) (bY d t)) rfl rfl 42 (af (fun _=>0) (fun _=>0) 0 0 0) H2.out (ai _ _ _ _ _) rfl (iF _ _ _ _ _) ?_))
     refine tZ (v:=.tuple #[.agg (af (az (aB s bk rm)) (aB s bk rm) (az (aB s bk rm) 6) (slotsOf t) (bY d t)),.int .i64 0]) (results_cell_tmp rfl _ _ (w.heap.size+1) _ _ (0,0) _ _ rfl rfl (setRow_heap _ _ _ _ _ _ H2.out) Tryz.underlying42 rfl (ai _ _ _ _ _)) rfl ⟨by rw[HR.out,if_pos hc],?_⟩
     exact below_setRow HB.out oZ _
    ·have H2:=hJ HL.out.2.1
     have HC:=hJ hc
     go_wp2_with (first
      | (refine zZ rfl 42 (.tmp 2) (.tmp 36) rfl (w.heap.size+1) (af (fun _=>0) (fun _=>0) 0 0 0) rfl rfl 42 (af (fun _=>0) (fun _=>0) 0 0 0) H2.out (ai _ _ _ _ _) rfl (iF _ _ _ _ _) ?_))
     refine tZ (v:=.tuple #[.agg (af (fun _=>0) (fun _=>0) 0 0 0),.int .i64 1]) (results_cell_tmp rfl _ _ (w.heap.size+1) _ _ (0,0) _ _ rfl rfl (setRow_heap _ _ _ _ _ _ H2.out) Tryz.underlying42 rfl (ai _ _ _ _ _)) rfl ⟨by have:=HC.out;rw[HR.out,if_neg oZ],?_⟩
     exact below_setRow HL.out.2.2 oZ _
def fU (d t:Int) (s:Nat->Int) (bk rm:Int):Prop:=La d t s bk rm/\az (aB s bk rm) 6<=65536
theorem FT (w:World) (d t:Int) (s:Nat->Int) (bk rm:Int) (kf bf:Nat) (h:fU d t s bk rm) :
  Calls Tryz.prog 63 #[.agg (ak d t s bk rm kf bf)] w fun e w'=>e=.returned (.tuple #[.agg (af (az (aB s bk rm)) (aB s bk rm) (az (aB s bk rm) 6) (slotsOf t) (bY d t)),.int .i64 0])/\Below w.heap.size w w' :=
 (LK w d t s bk rm kf bf h.1).mono fun _ _ ⟨he,hb⟩=>⟨by rw[he,if_pos h.2],hb⟩
theorem bI.DI {w w':World} {row:Option Nat} (h:w.grownBy w' row):bI (fun k=>row=some k) w w':=⟨h.os,h.tape,h.output,h.size,fun k hk hs=>h.block k hk (fun e=>hs e.symm)⟩
theorem lg.owns {w:World} {g cap:Nat} {log:List Int} (h:lg w (some g) cap log):w.ownsRow 0 32 1 (.slice (some ⟨g,0,none⟩) log.length cap) log.length (log.map (Value.int .u32)):=by
 obtain⟨cur,h1,h2,h3,h4,h5⟩:=h
 exact⟨sZ,.inr ⟨g,cap,cur,rfl,Nat.zero_le _,h1,h2,h3,oZ,by simpa using h5⟩⟩
theorem lg.Ik {w:World} {base n:Nat} {v:Value} {xs:List Value} {log:List Int} (h:w.ownsRow base 32 1 v n xs) (hn:n=log.length) (hx:xs=log.map (Value.int .u32)) (h0:0<n) :
  ∃ g cap,v=.slice (some ⟨g,0,none⟩) log.length cap/\base<=g/\lg w (some g) cap log:=by
 subst hn hx
 obtain⟨_,h | ⟨g,cap,cur,h1,h2,h3,h4,h5,h6,h7⟩⟩:=h
 ·omega
 ·exact⟨g,cap,h1,h2,cur,h3,h4,h5,oZ,by simpa using h7⟩
section
variable {P:Program}
theorem uU {w:World} {ops:Array Oper} {rest:List Oper} {o:Oper} {a:Act} {Q:Exit->Act->World->Prop}
  (hg:o.guard=none) (s x:Operand) (hop:o.op=Op.call {callee:=Callee.builtin Builtin.append,args:=#[s,x],argTypes:=#[47,47]})
  {go:Option Nat} {cap:Nat} {log:List Int} (hlog:lg w go cap log) (hl:log.length<1000000000) (hs:a.eval s=.slice (go.map fun g=>⟨g,0,none⟩) log.length cap)
  (b:Nat) (v:Int) (hx:a.eval x=.slice (some ⟨b,0,none⟩) 1 1) (hc:w.cell? ⟨b,0,none⟩=some (.int .u32 v))
  (h:∀ go' cap' w',lg w' go' cap' (log++[v])->(go'=go∨∃ g,go'=some g/\w.heap.size<=g)->bI (fun k=>go=some k) w w'->wpList Tryz.prog ops Q rest (a.put o.dst (.slice (go'.map fun g=>⟨g,0,none⟩) (log.length+1) cap')) w') :
  wpList Tryz.prog ops Q (o :: rest) a w:=by
 obtain⟨i0,hi,hz0,hz1,hz2⟩:=info_parts EK
 have hnews:∀ (j:Nat) (u:Value),[Value.int .u32 v][j]?=some u->w.cell? ((⟨b,0,none⟩:Addr).add j)=some u:=by
  intro j u hj
  rcases j with _ | j
  ·simp at hj;subst hj
   rw[Addr.add_lit];exact hc
  ·simp at hj
 by_cases hroom:log.length+1<=cap
 ·cases go with
  | none=>obtain⟨_,rfl⟩:=hlog;omega
  | some g =>
   refine wpList_append_fits w hg s x 47 hop 0 32 i0 1 Tryz.underlying47 hi hz1 g log.length cap (log.map (Value.int .u32)) hs hlog.owns ⟨b,0,none⟩ 1 1 [.int .u32 v] hx rfl hnews vZ hroom ?_
   intro w' ho hgr
   obtain⟨g',cap',hv,_,hl'⟩:=lg.Ik (log:=log++[v]) ho sZ sZ oZ
   simp only[Value.slice.injEq,Option.some.injEq,Addr.mk.injEq,and_true] at hv
   obtain⟨rfl,_,rfl⟩:=hv
   exact h (some g) cap w' hl' (.inl rfl) (bI.DI hgr)
 ·refine wpList_append_grows w hg s x 47 hop 32 i0 _ 1 4 Tryz.underlying47 hi hz0 hz1 hz2 rfl dZ (go.map fun g=>⟨g,0,none⟩) log.length cap (log.map (Value.int .u32)) hs ?_ sZ ?_ ⟨b,0,none⟩ 1 1 [.int .u32 v] hx rfl hnews vZ oZ mZ oZ ?_
  ·intro hn
   cases go with
   | none=>obtain⟨rfl,rfl⟩:=hlog;exact⟨rfl,rfl⟩
   | some g=>simp at hn
  ·intro ad had j u hj
   cases go with
   | none=>simp at had
   | some g =>
    simp at had
    subst had
    exact hlog.owns.cells (g:=g) rfl j u hj
  ·intro v' w' ho hgr
   obtain⟨g',cap',rfl,hge,hl'⟩:=lg.Ik (log:=log++[v]) ho sZ sZ oZ
   have:=h (some g') cap' w' hl' (.inr ⟨g',rfl,hge⟩) ((bI.DI hgr).mono fun k _ hk=>by cases hk)
   simpa using this
end
section
variable {w:World} {rb mb cap at_:Nat} {go:Option Nat} {log:List Int} {wi ma off ov:Bool} {er:Int}
theorem Ib (h:bM w rb mb go cap log at_ wi ma off ov er) (v:Int) (hl:log.length<1000000000) (ha:at_<1000000000) :
  Calls Tryz.prog 119 #[.pointer (some ⟨rb,0,none⟩),.int .u32 v,.int .i64 0] w fun e w'=>e=.returned (.tuple #[])/\∃ go' cap',bM w' rb mb go' cap' (log++[v]) (at_+1) wi ma off ov er/\(go'=go∨∃ g,go'=some g/\w.heap.size<=g)/\bI (zh rb go) w w':=by
 have h1:=h.c1
 have hlt:=lt_of_heap h.rec_
 have H:=hJ h
 clear h
 have hne:¬ w.heap.size=rb:=oZ
 go_enter Tryz.func119,Tryz.ntmps119
 go_wp2_with (at_builtin;refine uU rfl (.tmp 22) (.tmp 24) rfl (H.out.row.of_block fun g hg=>Below.heap_alloc _ _ _ (H.out.lt g (.inr hg))) hl rfl w.heap.size v rfl (ae (nZ w _) 0) ?_;intro go' cap' w1 hl1 hgo1 hm1;have hr1:=(hm1.block rb uZ (fun e=>H.out.ne e)).trans ((Below.heap_alloc _ _ _ hlt).trans H.out.rec_);have k1:=ae hr1 1;have k2:=ae hr1 2;have f1:=free_at hr1 1;have f2:=free_at hr1 2;have HE:=hJ (And.intro hl1 (And.intro hgo1 (And.intro hm1 hr1)));clear hl1 hgo1 hm1 hr1)
 go_end0
 obtain⟨hl1,hgo1,hm1,hr1⟩:=HE.out
 refine⟨rfl,go',cap',⟨?_,?_⟩,?_,?_⟩
 ·rw[heap_setCell_same _ _ _ _ _ _ (heap_setCell_same _ _ _ _ _ _ hr1)];simp
 ·refine hl1.of_block fun g hg=>?_
  have hgr:g≠rb:=by
   rintro rfl
   subst hg
   obtain⟨cur,hx,_⟩:=hl1
   rw[hr1] at hx
   simp at hx
  rw[Below.heap_setCell _ _ _ _ hgr,Below.heap_setCell _ _ _ _ hgr]
 ·rcases hgo1 with e | ⟨g,e,hg⟩
  ·exact .inl e
  ·exact .inr ⟨g,e,by simp at hg;omega⟩
 ·refine bI.setCell (S:=zh rb go) (bI.setCell (S:=zh rb go) ?_ (.inr (.inl rfl)) _) (.inr (.inl rfl)) _
  exact((bI.refl (zh rb go) w).alloc _).trans (hm1.mono fun k _ hk=>.inr hk)
end
theorem byte_at {s:ByteArray} {i:Nat} (h:i<s.size):(ax s).getD i 0=(s[i]'h).toNat:=by
 have hl:i<(ax s).length:=by rw[aG];exact h
 rw[List.getD_eq_getElem?_getD,gZ hl]
 simp[ax]
 rfl
theorem Lh {s:ByteArray} {i:Nat} (h:¬ i<s.size):(ax s).getD i 0=0:=by
 rw[List.getD_eq_getElem?_getD,List.getElem?_eq_none (by rw[aG];omega)]
 rfl
theorem Aw (W:World) (s:ByteArray) (hs:s.size<=1000000):Calls Tryz.prog 95 #[.string s] W fun e w'=>∃ v,e=.returned v/\iw 32 .u32 w' W.heap.size v (aF (ax s))/\Below W.heap.size W w':=by
 obtain⟨i0,hi,hz0,hz1,hz2⟩:=info_parts uG
 have HI:=hJ (And.intro hi (And.intro hz0 (And.intro hz1 hz2)))
 clear hi hz0 hz1 hz2
 obtain⟨L,hL⟩:∃ L,L=ax s:=⟨_,rfl⟩
 have HLt:=hJ (show ∀ b∈L,b<256 by rw[hL];exact jo s)
 have HLn:=hJ (show L.length=s.size by rw[hL];exact aG s)
 have HIn:=hJ (show ∀ (i:Nat) (h:i<s.size),L.getD i 0=(s[i]'h).toNat from fun i h=>by rw[hL];exact byte_at h)
 have HOut:=hJ (show ∀ (i:Nat),¬ i<s.size->L.getD i 0=0 from fun i h=>by rw[hL];exact Lh h)
 rw[<- hL]
 clear hL
 go_enter Tryz.func95,Tryz.ntmps95
 go_wp2_with fail
 go_loopw [3,4] (fun v iv wr=>∃ j b:Nat,Hid (b=4*j/\b<=s.size+3)/\iv=.int .i64 (b:Int)/\iw 32 .u32 wr W.heap.size v (iO L j)/\Below W.heap.size W wr) (fun _ iv _=>s.size+4-(intOf iv).toNat)
 case atStart=>exact⟨0,0,hJ ⟨rfl,oZ⟩,rfl,iw.new _ _ W _ (Nat.le_refl _),au⟩
 case round =>
  obtain⟨j,b,HBJ,rfl,hown,hlow⟩:=hrel
  have HO:=hJ hown
  have HW:=hJ hlow
  clear hown hlow
  by_cases hlt:b<s.size
  ·have hlt1:(b:Int)<(s.size:Int):=oZ
   go_wp2_with fail
   go_loopw [5,6] (fun nv kv wq=>∃ t:Nat,t<=4/\kv=.int .i64 ((t:Int)-1)/\nv=.int .u32 (jE L b (4-t):Nat)/\wq=wr) (fun _ kv _=>(intOf kv+1).toNat)
   case atStart=>exact⟨4,oZ,rfl,rfl,rfl⟩
   case round =>
    obtain⟨t,ht,rfl,rfl,hw⟩:=hrel
    have hw':=hw.symm
    subst hw'
    rcases t with _ | t
    ·have hh:=Hl L j
     rw[<- HBJ.out.1] at hh
     obtain⟨cv,hcv⟩:∃ cv,cv=jE L b 4:=⟨_,rfl⟩
     have HT:=hJ (show iO L (j+1)=iO L j++[cv] by rw[BO,hcv,hh])
     have HLen:=hJ (pI L j)
     rw[<- hcv]
     have e0:(((0:Nat):Int)-1)=-1:=oZ
     rw[e0]
     clear hh hcv e0
     go_wp2_with (at_builtin;refine wpList_append_own _ rfl (.tmp 34) (.tmp 36) 47 rfl W.heap.size 32 i0 _ 1 4 Tryz.underlying47 HI.out.1 HI.out.2.1 HI.out.2.2.1 HI.out.2.2.2 rfl dZ _ (iO L j).length (iM .u32 (iO L j)) rfl (World.ownsRow.alloc HO.out _) ⟨_,0,none⟩ 1 1 [.int .u32 cv] rfl rfl one_cell vZ (by have:=HLen.out;have:=HBJ.out;unfold maxLen;omega) (by have:=HLen.out;have:=HBJ.out;omega) (by have:=HW.out.size;simp;omega) ?_;intro v' w5 ho hg _;have HO5:=hJ (iw.more (m:=[cv]) HW.out HO.out ho hg);clear ho hg)
     go_roundw
     case rel =>
      refine⟨j+1,b+4,hJ ⟨by have:=HBJ.out;omega,oZ⟩,by go_num,?_,HO5.out.2⟩
      rw[HT.out];exact HO5.out.1
     case measure=>simp[intOf];omega
    ·have e0:(((t+1:Nat):Int)-1)=(t:Int):=oZ
     rw[e0]
     have hm:=D7 HLt.out b (4-(t+1)) oZ
     have hstep:jE L b (4-t)=256*jE L b (4-(t+1))+L.getD (b+t) 0:=by
      have e1:4-t=(4-(t+1))+1:=oZ
      rw[e1]
      show 256*jE L b (4-(t+1))+L.getD (b+(3-(4-(t+1)))) 0=_
      have e2:3-(4-(t+1))=t:=oZ
      rw[e2]
     obtain⟨p,hp⟩:∃ p,p=b+t:=⟨_,rfl⟩
     rw[<- hp] at hstep
     have hs1:(b:Int)+(t:Int)=(p:Int):=oZ
     have hs2:IntKind.i64.wrap ((b:Int)+(t:Int))=(p:Int):=by rw[hs1];exact iZ _ oZ
     have ht4:t<=3:=oZ
     generalize jE L b (4-(t+1))=h at hm hstep
     obtain⟨h2,hh2⟩:∃ h2,h2=256*h:=⟨_,rfl⟩
     have hw1:IntKind.u32.wrap ((h:Int)*256)=(h2:Int):=by rw[IntWalk.u32_in _ oZ];omega
     have HST:=hJ hstep
     have HH2:=hJ hh2
     have hb2:h2<=4294967040:=oZ
     have HP:=hJ hp
     clear hstep hh2 hm e0 hp
     by_cases hin:p<s.size
     ·have hin1:(p:Int)<(s.size:Int):=oZ
      have hb:=(s[p]'hin).toNat_lt
      obtain⟨h3,hh3⟩:∃ h3,h3=h2+(s[p]'hin).toNat:=⟨_,rfl⟩
      have hw2:IntKind.u32.wrap ((s[p]'hin).toNat:Int)=((s[p]'hin).toNat:Int):=IntWalk.u32_in _ oZ
      have hw3:IntKind.u32.wrap ((h2:Int)+((s[p]'hin).toNat:Int))=(h3:Int):=by rw[IntWalk.u32_in _ oZ];omega
      have HH3:=hJ hh3
      clear hb hh3
      go_wp2_with fail
      go_roundw
      case rel=>exact⟨t,oZ,by go_num,by rw[HST.out,HH3.out,HH2.out,HIn.out p hin],trivial⟩
      case measure=>simp[intOf]
     ·have hin1:¬ (p:Int)<(s.size:Int):=oZ
      go_wp2_with fail
      go_roundw
      case rel=>exact⟨t,oZ,by go_num,by rw[HST.out,HH2.out,HOut.out p hin];rfl,trivial⟩
      case measure=>simp[intOf]
  ·have hj:iO L j=aF L:=by
    unfold aF
    have:=HBJ.out
    have:=HLn.out
    rw[show (L.length+3) / 4=j by omega]
   have hlt1:¬ (b:Int)<(s.size:Int):=oZ
   rw[hj] at HO
   go_wp2_with fail
   go_ret
   exact⟨_,rfl,HO.out,HW.out⟩

variable {α σ:Type}
section
variable {I:σ->List Int->Prop} {le:σ->σ->Prop} {Post:σ->α->Prop} {n:Nat} {s:σ} {q:Pr α}
end
def more (U:Nat->Int) (k:Nat) (n:Int) (j:Nat):Int:=if j=k then U k+n else U j
theorem qK (w:World) (B S U:Nat->Int) (C T L n:Int) (k:Nat) (hk:k<6) (hn:1<=n) (h0:0<=U k) (h1:U k<=S k) (hs:S k<=1000000) (hf:S k-U k<n) :
  Calls Tryz.prog 65 #[.agg (af B S C T L),.agg (six U),.int .i64 k,.int .i64 n] w fun e w'=>e=.returned (.tuple #[.int .i64 0,.agg (six fun _=>0),.int .i64 3])/\Below w.heap.size w w':=by
 have hk0:decide ((k:Int)<0)=false:=decide_eq_false oZ
 have hk6:decide (6<=(k:Int))=false:=decide_eq_false oZ
 have hn1:decide (n<1)=false:=decide_eq_false oZ
 have hu:wB U S k=true:=CU h0 h1
 have HU:=hJ hu
 clear hu
 go_enter Tryz.func65,Tryz.ntmps65
 go_wp2_with (first
  | (refine iV rfl 42 (.tmp 4) rfl w.heap.size rfl 42 (af B S C T L) (0,0) _ (dV w _ _ _) Tryz.underlying42 rfl (ai _ _ _ _ _) ?_)
  | (refine iV rfl 40 (.tmp 5) rfl (w.heap.size+1) rfl 40 (six U) (0,0) _ (dX w _ _ _) Tryz.underlying40 rfl (ag _) ?_)
  | fail)
 refine(oD _ B S U C T L k hk).mono ?_;rintro e w1 ⟨rfl,hb1⟩
 rw[HU.out]
 have g0:w1.heap[w.heap.size]?=some (.cells (af B S C T L) 42 (0,0)):=(hb1.block _ uZ).trans (dV _ _ _ _)
 have g1:w1.heap[w.heap.size+1]?=some (.cells (six U) 40 (0,0)):=(hb1.block _ sZ).trans (dX _ _ _ _)
 have g2:w1.heap[w.heap.size+1+1]?=some (.cells (six fun _=>0) 40 (0,0)):=(hb1.block _ sZ).trans (eH _ _ _ _)
 have G0:=hJ g0
 have G1:=hJ g1
 have G2:=hJ g2
 have HB:=hJ (bu.trans (hb1.mono uZ))
 clear g0 g1 g2 hb1
 go_wp2_with (first
  | (refine yZ rfl 42 (.tmp 4) rfl w.heap.size rfl 42 (af B S C T L) (0,0) _ G0.out Tryz.underlying42 rfl (ai _ _ _ _ _) ?_)
  | (refine yZ rfl 40 (.tmp 5) rfl (w.heap.size+1) rfl 40 (six U) (0,0) _ G1.out Tryz.underlying40 rfl (ag _) ?_)
  | fail)
 refine(uw _ B S U C T L k hk h0 h1 hs).mono ?_;rintro e w2 ⟨rfl,hb2⟩
 have G0:=hJ ((hb2.block _ (lt_of_heap G0.out)).trans G0.out)
 have G1:=hJ ((hb2.block _ (lt_of_heap G1.out)).trans G1.out)
 have G2:=hJ ((hb2.block _ (lt_of_heap G2.out)).trans G2.out)
 have HB:=hJ (HB.out.trans (hb2.mono HB.out.size))
 clear hb2
 go_wp2_with (first
  | (refine zZ rfl 40 (.tmp 9) (.tmp 36) rfl (w.heap.size+1+1) (six fun _=>0) rfl rfl 40 (six fun _=>0) G2.out (ag _) (bg _ _) (aX _) ?_)
  | fail)
 refine tZ (v:=.tuple #[.int .i64 0,.agg (six fun _=>0),.int .i64 3]) (bG rfl _ _ (w.heap.size+1+1) _ _ (0,0) _ _ _ rfl rfl rfl (setRow_heap _ _ _ _ _ _ G2.out) Tryz.underlying40 rfl (ag _)) rfl ⟨rfl,below_setRow HB.out oZ _⟩
theorem qL (w:World) (B S U:Nat->Int) (C T L n:Int) (k:Nat) (hk:k<6) (hn:1<=n) (h0:0<=U k) (h1:U k<=S k) (hs:S k<=1000000) (hf:n<=S k-U k) (hb0:0<=B k) (hb1:B k<=1000000) :
  Calls Tryz.prog 65 #[.agg (af B S C T L),.agg (six U),.int .i64 k,.int .i64 n] w fun e w'=>e=.returned (.tuple #[.int .i64 (B k+U k),.agg (six (more U k n)),.int .i64 0])/\Below w.heap.size w w':=by
 have hB0:=hb0
 have hB1:=hb1
 clear hb0 hb1
 have hk0:decide ((k:Int)<0)=false:=decide_eq_false oZ
 have hk6:decide (6<=(k:Int))=false:=decide_eq_false oZ
 have hn1:decide (n<1)=false:=decide_eq_false oZ
 have hu:wB U S k=true:=CU h0 h1
 have HU:=hJ hu
 clear hu
 go_enter Tryz.func65,Tryz.ntmps65
 go_wp2_with (first
  | (refine iV rfl 42 (.tmp 4) rfl w.heap.size rfl 42 (af B S C T L) (0,0) _ (dV w _ _ _) Tryz.underlying42 rfl (ai _ _ _ _ _) ?_)
  | (refine iV rfl 40 (.tmp 5) rfl (w.heap.size+1) rfl 40 (six U) (0,0) _ (dX w _ _ _) Tryz.underlying40 rfl (ag _) ?_)
  | fail)
 refine(oD _ B S U C T L k hk).mono ?_;rintro e w1 ⟨rfl,hb1⟩
 rw[HU.out]
 have g0:w1.heap[w.heap.size]?=some (.cells (af B S C T L) 42 (0,0)):=(hb1.block _ uZ).trans (dV _ _ _ _)
 have g1:w1.heap[w.heap.size+1]?=some (.cells (six U) 40 (0,0)):=(hb1.block _ sZ).trans (dX _ _ _ _)
 have g2:w1.heap[w.heap.size+1+1]?=some (.cells (six fun _=>0) 40 (0,0)):=(hb1.block _ sZ).trans (eH _ _ _ _)
 have G0:=hJ g0
 have G1:=hJ g1
 have G2:=hJ g2
 have HB:=hJ (bu.trans (hb1.mono uZ))
 clear g0 g1 g2 hb1
 go_wp2_with (first
  | (refine yZ rfl 42 (.tmp 4) rfl w.heap.size rfl 42 (af B S C T L) (0,0) _ G0.out Tryz.underlying42 rfl (ai _ _ _ _ _) ?_)
  | (refine yZ rfl 40 (.tmp 5) rfl (w.heap.size+1) rfl 40 (six U) (0,0) _ G1.out Tryz.underlying40 rfl (ag _) ?_)
  | fail)
 refine(uw _ B S U C T L k hk h0 h1 hs).mono ?_;rintro e w2 ⟨rfl,hb2⟩
 have G0:=hJ ((hb2.block _ (lt_of_heap G0.out)).trans G0.out)
 have G1:=hJ ((hb2.block _ (lt_of_heap G1.out)).trans G1.out)
 have G2:=hJ ((hb2.block _ (lt_of_heap G2.out)).trans G2.out)
 have HB:=hJ (HB.out.trans (hb2.mono HB.out.size))
 clear hb2
 have hsz:w.heap.size+1+1<w2.heap.size:=lt_of_heap G2.out
 go_upto_region 6 with (first
  | (refine yZ rfl 40 (.tmp 5) rfl (w.heap.size+1) rfl 40 (six U) (0,0) _ G1.out Tryz.underlying40 rfl (ag _) ?_)
  | (refine zZ rfl 40 (.tmp 11) (.tmp 37) rfl w2.heap.size (six U) rfl rfl 40 (six fun _=>0) (nZ w2 _) (ag _) (bg _ _) (aX _) ?_)
  | fail)
 obtain⟨w3,hw3⟩:∃ w3,w3=(w2.alloc (.cells (six fun _=>0) 40)).setRow w2.heap.size (six U):=⟨_,rfl⟩
 rw[show (w2.alloc (.cells #[.int .i64 0,.int .i64 0,.int .i64 0,.int .i64 0,.int .i64 0,.int .i64 0] 40)).setRow w2.heap.size (six U)=w3 from hw3.symm]
 have k3:w3.heap[w2.heap.size]?=some (.cells (six U) 40 (0,0)):=by
  rw[hw3];exact setRow_heap _ _ _ _ _ _ (nZ w2 _)
 have k0:w3.heap[w.heap.size]?=some (.cells (af B S C T L) 42 (0,0)):=by
  rw[hw3,qZ _ _ _ _ oZ,Below.heap_alloc _ _ _ oZ];exact G0.out
 have k1:w3.heap[w.heap.size+1]?=some (.cells (six U) 40 (0,0)):=by
  rw[hw3,qZ _ _ _ _ oZ,Below.heap_alloc _ _ _ oZ];exact G1.out
 have k2:w3.heap[w.heap.size+1+1]?=some (.cells (six fun _=>0) 40 (0,0)):=by
  rw[hw3,qZ _ _ _ _ oZ,Below.heap_alloc _ _ _ oZ];exact G2.out
 have hB3:Below w.heap.size w w3:=by
  rw[hw3];exact below_setRow (HB.out.alloc HB.out.size _) oZ _
 obtain⟨q,hq⟩:∃ q,q=w2.heap.size:=⟨_,rfl⟩
 rw[<- hq] at hsz k3 ⊢
 clear hw3 G0 G1 G2 HB hq
 have c3:w3.cell? ⟨q,k,none⟩=some (.int .i64 (U k)):=(ae k3 k).trans (dW _ k hk)
 have f3:=free_at k3 k
 have hk1:(k:Int)<6:=oZ
 have K0:=hJ k0
 have K1:=hJ k1
 have K2:=hJ k2
 have K3:=hJ k3
 have HB:=hJ hB3
 clear k0 k1 k2 k3 hB3
 go_upto_region 7 with fail
 obtain⟨w4,hw4⟩:∃ w4,w4=w3.setCell ⟨q,k,none⟩ (.int .i64 (U k+n)):=⟨_,rfl⟩
 rw[<- hw4]
 have k3:w4.heap[q]?=some (.cells (six (more U k n)) 40 (0,0)):=by
  rw[hw4,heap_setCell_same _ _ _ _ _ _ K3.out,jm _ (more U k n) k _ hk (fun j _=>rfl)]
 have k0:w4.heap[w.heap.size]?=some (.cells (af B S C T L) 42 (0,0)):=by
  rw[hw4,Below.heap_setCell _ _ _ _ uZ];exact K0.out
 have k1:w4.heap[w.heap.size+1]?=some (.cells (six U) 40 (0,0)):=by
  rw[hw4,Below.heap_setCell _ _ _ _ uZ];exact K1.out
 have k2:w4.heap[w.heap.size+1+1]?=some (.cells (six fun _=>0) 40 (0,0)):=by
  rw[hw4,Below.heap_setCell _ _ _ _ uZ];exact K2.out
 have hB4:Below w.heap.size w w4:=by
  rw[hw4];exact HB.out.setCell uZ _
 clear hw4 K0 K1 K2 K3 HB c3 f3
 have c0:w4.cell? ⟨w.heap.size,k,none⟩=some (.int .i64 (B k)):=(ae k0 k).trans (jL _ _ _ _ _ k hk)
 have c1:w4.cell? ⟨w.heap.size+1,k,none⟩=some (.int .i64 (U k)):=(ae k1 k).trans (dW _ k hk)
 have e0:w4.cell? ⟨q,0,none⟩=some (.int .i64 (more U k n 0)):=ae k3 0
 have e1:w4.cell? ⟨q,1,none⟩=some (.int .i64 (more U k n 1)):=ae k3 1
 have e2:w4.cell? ⟨q,2,none⟩=some (.int .i64 (more U k n 2)):=ae k3 2
 have e3:w4.cell? ⟨q,3,none⟩=some (.int .i64 (more U k n 3)):=ae k3 3
 have e4:w4.cell? ⟨q,4,none⟩=some (.int .i64 (more U k n 4)):=ae k3 4
 have e5:w4.cell? ⟨q,5,none⟩=some (.int .i64 (more U k n 5)):=ae k3 5
 have K2:=hJ k2
 have HB:=hJ hB4
 clear k0 k1 k2 k3 hB4
 go_still_tail 10,kZ
 change wpList _ _ _ _ _ w4.drew
 clear e0 e1 e2 e3 e4 e5 c0 c1
 go_wp2_with (first
  | (refine zZ rfl 40 (.tmp 9) (.tmp 52) rfl (w.heap.size+1+1) (six (more U k n)) rfl rfl 40 (six fun _=>0) (show w4.drew.heap[w.heap.size+1+1]?=_ from K2.out) (ag _) (bg _ _) (aX _) ?_)
  | fail)
 refine tZ (v:=.tuple #[.int .i64 (B k+U k),.agg (six (more U k n)),.int .i64 0]) (bG rfl _ _ (w.heap.size+1+1) _ _ (0,0) _ _ _ rfl rfl rfl (setRow_heap _ _ _ _ _ _ (show w4.drew.heap[w.heap.size+1+1]?=_ from K2.out)) Tryz.underlying40 rfl (ag _)) rfl ⟨rfl,below_setRow HB.out.drew oZ _⟩
structure RM (w:World) (rb mb cb:Nat) (go:Option Nat) (wi:Bool) (st:St):Prop where
 run:∃ cap,bM w rb mb go cap st.log st.at_ wi st.made st.off st.over st.err
 mem:dD w mb cb st.cs st.l st.s
 ne:go≠some cb
def gY (rb mb cb:Nat) (go:Option Nat) (k:Nat):Prop:=k=rb∨go=some k∨k=mb∨k=cb
def PQ (w:World) (go go':Option Nat):Prop:=go'=go∨∃ g,go'=some g/\w.heap.size<=g
structure jY (rb mb cb:Nat) (w:World) (go:Option Nat) (w':World) (go':Option Nat):Prop where
 grows:PQ w go go'
 mod:bI (gY rb mb cb go) w w'
theorem bI.then {S T:Nat->Prop} {a b c:World} (h:bI S a b) (k:bI T b c) (hst:∀ i,i<a.heap.size->T i->S i):bI S a c :=
 ⟨k.os.trans h.os,k.tape.trans h.tape,k.output.trans h.output,Nat.le_trans h.size k.size,fun i hi hs=>(k.block i (Nat.lt_of_lt_of_le hi h.size) fun ht=>hs (hst i hi ht)).trans (h.block i hi hs)⟩
theorem jY.trans {rb mb cb:Nat} {w w1 w2:World} {go go1 go2:Option Nat} (h:jY rb mb cb w go w1 go1) (k:jY rb mb cb w1 go1 w2 go2):jY rb mb cb w go w2 go2:=by
 refine⟨?_,h.mod.then k.mod ?_⟩
 ·rcases k.grows with e | ⟨g,e,hg⟩
  ·rw[e];exact h.grows
  ·exact .inr ⟨g,e,Nat.le_trans h.mod.size hg⟩
 ·rintro i hi (e | e | e)
  ·exact .inl e
  ·rcases h.grows with e' | ⟨g,e',hg⟩
   ·exact .inr (.inl (e' ▸ e))
   ·rw[e'] at e;cases e;omega
  ·exact .inr (.inr e)
theorem jY.mW {rb mb cb:Nat} {w w':World} {go:Option Nat} {S:Nat->Prop} (h:bI S w w') (hS:∀ k,S k->gY rb mb cb go k):jY rb mb cb w go w' go:=⟨.inl rfl,h.mono fun k _ hk=>hS k hk⟩
theorem jY.of_below {rb mb cb:Nat} {w w':World} {go:Option Nat} (h:Below w.heap.size w w'):jY rb mb cb w go w' go:=⟨.inl rfl,Below.mod h _ fun k hk hk'=>oZ⟩
theorem RM.qY {w:World} {rb mb cb:Nat} {go:Option Nat} {wi:Bool} {st:St} (h:RM w rb mb cb go wi st):rb≠mb/\rb≠cb/\go≠some mb:=by
 obtain⟨cap,h1⟩:=h.run
 have h2:=h.mem
 refine⟨?_,?_,?_⟩
 ·rintro rfl
  have:=h1.rec_.symm.trans h2.rec_
  simp at this
 ·rintro rfl
  have:=h1.rec_.symm.trans h2.row
  simp at this
 ·rintro rfl
  obtain⟨cur,h3,_⟩:=h1.row
  have:=h3.symm.trans h2.rec_
  simp at this
theorem RM.lt {w:World} {rb mb cb:Nat} {go:Option Nat} {wi:Bool} {st:St} (h:RM w rb mb cb go wi st):∀ k,gY rb mb cb go k->k<w.heap.size:=by
 obtain⟨cap,h1⟩:=h.run
 rintro k (e | e | e | e)
 ·exact h1.lt k (.inl e)
 ·exact h1.lt k (.inr e)
 ·rw[e];exact lt_of_heap h.mem.rec_
 ·rw[e];exact lt_of_heap h.mem.row
theorem RM.eY {w w':World} {rb mb cb:Nat} {go:Option Nat} {wi:Bool} {st:St} (h:RM w rb mb cb go wi st) (hb:∀ k,gY rb mb cb go k->w'.heap[k]?=w.heap[k]?):RM w' rb mb cb go wi st:=by
 obtain⟨cap,h1⟩:=h.run
 exact⟨⟨cap,h1.eY fun k hk=>hb k (hk.elim .inl fun e=>.inr (.inl e))⟩,h.mem.eY (hb mb (.inr (.inr (.inl rfl)))) (hb cb (.inr (.inr (.inr rfl)))),h.ne⟩
theorem RM.mod {w w':World} {rb mb cb:Nat} {go:Option Nat} {wi:Bool} {st:St} (h:RM w rb mb cb go wi st) {S:Nat->Prop} (hm:bI S w w') (hS:∀ k,gY rb mb cb go k->¬ S k):RM w' rb mb cb go wi st :=
 h.eY fun k hk=>hm.block k (h.lt k hk) (hS k hk)
theorem RM.below {w w':World} {rb mb cb:Nat} {go:Option Nat} {wi:Bool} {st:St} (h:RM w rb mb cb go wi st) (hm:Below w.heap.size w w'):RM w' rb mb cb go wi st :=
 h.eY fun k hk=>hm.block k (h.lt k hk)
theorem lg.cell {w:World} {go:Option Nat} {cap:Nat} {log:List Int} (h:lg w go cap log) {i:Nat} (hi:i<log.length):∃ g,go=some g/\log.length<=cap/\w.cell? ⟨g,i,none⟩=some (.int .u32 (log.getD i 0)):=by
 cases go with
 | none=>obtain⟨rfl,_⟩:=h;simp at hi
 | some g =>
  obtain⟨cur,h1,h2,h3,h4,h5⟩:=h
  refine⟨g,rfl,h2,?_⟩
  rw[ae h1]
  have:(cur.toList.take log.length)[i]?=some (Value.int .u32 (log.getD i 0)):=by rw[h5];simp[hi]
  rw[List.getElem?_take_of_lt hi] at this
  simpa using this
section
variable {w:World} {rb mb cb:Nat} {go:Option Nat} {st:St}
theorem Oa (h:RM w rb mb cb go true st) (a:Int) (ha:st.at_<st.log.length) (hl:st.log.length<1000000000) :
  Calls Tryz.prog 114 #[.pointer (some ⟨rb,0,none⟩),.int .i64 a] w fun e w'=>e=.returned (.int .u32 (st.log.getD st.at_ 0))/\RM w' rb mb cb go true {st with at_:=st.at_+1}/\jY rb mb cb w go w' go:=by
 have H:=hJ h
 obtain⟨hrm,hrc,hgm⟩:=h.qY
 obtain⟨cap,h1⟩:=h.run
 obtain⟨g,rfl,hcap,_⟩:=h1.row.cell ha
 have H1:=hJ h1
 obtain⟨z,hz⟩:∃ z,z=st.log.getD st.at_ 0:=⟨_,rfl⟩
 rw[<- hz]
 have HZ:=hJ hz
 clear h h1 hz
 go_enter Tryz.func114,Tryz.ntmps114
 go_wp2_with fail
 refine(zT H1.out ha hl).mono ?_;rintro e w1 ⟨rfl,hr1,hm1⟩
 have hcell:w1.cell? ⟨g,st.at_,none⟩=some (.int .u32 z):=by
  obtain⟨g',e,_,hc⟩:=hr1.row.cell ha
  obtain rfl:g=g':=Option.some.inj e
  rw[hc,HZ.out]
 have k1:=hr1.c1
 have k2:=hr1.c2
 have e1:IntKind.i64.wrap (((st.at_+1:Nat):Int)-1)=(st.at_:Int):=by rw[iZ _ oZ];omega
 have hlt1:(st.at_:Int)<(st.log.length:Int):=oZ
 have HE:=hJ (And.intro hr1 hm1)
 clear hr1 hm1
 simp only[Option.map_some] at k1
 go_wp2_with fail
 go_quiet (fail)
 go_wp2_with fail
 go_ret
 obtain⟨hr1,hm1⟩:=HE.out
 refine⟨rfl,⟨⟨cap,hr1.drawn _⟩,(H.out.mem.mod hm1 (Ne.symm hrm) (Ne.symm hrc)).eY rfl rfl,H.out.ne⟩,?_⟩
 exact jY.mW (hm1.drewN _) fun k hk=>.inl hk
theorem Nw (h:RM w rb mb cb go true st) (a:Int) (ha:st.at_=st.log.length) (hm:st.made=true) :
  Calls Tryz.prog 114 #[.pointer (some ⟨rb,0,none⟩),.int .i64 a] w fun e w'=>e=.returned (.int .u32 0)/\RM w' rb mb cb go true {st with off:=true}/\jY rb mb cb w go w' go:=by
 have H:=hJ h
 obtain⟨hrm,hrc,hgm⟩:=h.qY
 obtain⟨cap,h1⟩:=h.run
 rw[hm] at h1
 have H1:=hJ h1
 have HM:=hJ hm
 have HA:=hJ ha
 clear h h1 hm ha
 go_enter Tryz.func114,Tryz.ntmps114
 go_wp2_with fail
 refine(nX H1.out HA.out).mono ?_;rintro e w1 ⟨rfl,n,hw1⟩
 have hr1:bM w1 rb mb go cap st.log st.at_ true true st.off st.over st.err:=by rw[hw1];exact H1.out.drawn n
 have HW:=hJ hw1
 clear hw1
 go_wp2_with fail
 refine(Ig hr1).mono ?_;rintro e w2 ⟨rfl,hr2,hm2⟩
 have HE:=hJ (And.intro hr2 hm2)
 clear hr1 hr2 hm2
 go_wp2_with fail
 go_ret
 obtain⟨hr2,hm2⟩:=HE.out
 have hm2':bI (·=rb) w w2:=((show bI (·=rb) w w1 by rw[HW.out];exact(bI.refl _ _).drewN n)).trans hm2
 refine⟨rfl,⟨⟨cap,by simpa [HM.out] using hr2⟩,H.out.mem.mod hm2' (Ne.symm hrm) (Ne.symm hrc),H.out.ne⟩,?_⟩
 exact jY.mW hm2' fun k hk=>.inl hk
theorem Nu (h:RM w rb mb cb go true st) (a:Nat) (ha:st.at_=st.log.length) (hm:st.made=false) (hin:a<st.cs.length) (hl:st.log.length<1000000000) (hl0:0<=st.l) (hl1:st.l<1000000000) :
  Calls Tryz.prog 114 #[.pointer (some ⟨rb,0,none⟩),.int .i64 a] w fun e w'=>e=.returned (.int .u32 (st.cs.getD a 0))/\∃ go',RM w' rb mb cb go' true {st with made:=true,off:=false,log:=st.log++[st.cs.getD a 0],at_:=st.at_+1,l:=st.l+1}/\jY rb mb cb w go w' go':=by
 have H:=hJ h
 obtain⟨hrm,hrc,hgm⟩:=h.qY
 obtain⟨cap,h1⟩:=h.run
 rw[hm] at h1
 have H1:=hJ h1
 have HM:=hJ hm
 have HA:=hJ ha
 have hlt:=h.lt
 have HC:=hJ (show st.cs[a]?=some (st.cs.getD a 0) by simp[hin])
 obtain⟨z,hz⟩:∃ z,z=st.cs.getD a 0:=⟨_,rfl⟩
 rw[<- hz] at HC ⊢
 clear h h1 hm ha hz
 go_enter Tryz.func114,Tryz.ntmps114
 go_wp2_with fail
 refine(nX H1.out HA.out).mono ?_;rintro e w1 ⟨rfl,n,hw1⟩
 have hr1:bM w1 rb mb go cap st.log st.at_ true false st.off st.over st.err:=by rw[hw1];exact H1.out.drawn n
 have hx1:bI (·=rb) w w1:=by rw[hw1];exact(bI.refl _ _).drewN n
 clear hw1
 go_wp2_with fail
 refine(uf hr1).mono ?_;rintro e w2 ⟨rfl,hr2,hm2⟩
 have hx2:=hx1.trans hm2
 have hmem:=H.out.mem.mod hx2 (Ne.symm hrm) (Ne.symm hrc)
 have k0:=hr2.c0
 have HE:=hJ (And.intro hr2 hx2)
 clear hr1 hr2 hm2 hx1 hx2
 go_wp2_with fail
 refine(P7 hmem a z HC.out hl0 hl1).mono ?_;rintro e w3 ⟨rfl,hmem3,hx3⟩
 have hr3:=HE.out.1.mod hx3 (fun k hk e=>hk.elim (fun e'=>hrm (e'.symm.trans e)) fun e'=>hgm (e ▸ e'))
 have hx3':bI (gY rb mb cb go) w w3:=(HE.out.2.mono fun k _ hk=>.inl hk).trans (hx3.mono fun k _ hk=>.inr (.inr (.inl hk)))
 have HX:=hJ hx3'
 have HM3:=hJ hmem3
 clear HE hx3 hx3' hmem hmem3 k0
 go_wp2_with fail
 refine(Ib hr3 z hl (by have:=HA.out;omega)).mono ?_;rintro e w4 ⟨rfl,go',cap',hr4,hg4,hm4⟩
 have HF:=hJ (And.intro hr4 (And.intro hg4 hm4))
 clear hr3 hr4 hg4 hm4
 go_wp2_with fail
 go_ret
 obtain⟨hr4,hg4,hm4⟩:=HF.out
 have hne:¬ zh rb go mb/\¬ zh rb go cb:=⟨fun e=>e.elim (fun e=>hrm e.symm) hgm,fun e=>e.elim (fun e=>hrc e.symm) H.out.ne⟩
 refine⟨rfl,go',⟨⟨cap',hr4⟩,HM3.out.mod hm4 hne.1 hne.2,?_⟩,?_,?_⟩
 ·rcases hg4 with e | ⟨g,e,hg⟩
  ·rw[e];exact H.out.ne
  ·intro e'
   rw[e] at e';cases e'
   have:=hlt cb (.inr (.inr (.inr rfl)))
   have:=HX.out.size
   omega
 ·rcases hg4 with e | ⟨g,e,hg⟩
  ·exact .inl e
  ·exact .inr ⟨g,e,Nat.le_trans HX.out.size hg⟩
 ·exact HX.out.trans (hm4.mono fun k _ hk=>hk.elim .inl fun e=>.inr (.inl e))
theorem JP (h:RM w rb mb cb go true st) (a:Int) (ha:st.at_=st.log.length) (hm:st.made=false) (hin:a<0∨(st.cs.length:Int)<=a) :
  Calls Tryz.prog 114 #[.pointer (some ⟨rb,0,none⟩),.int .i64 a] w fun e w'=>e=.returned (.int .u32 0)/\RM w' rb mb cb go true {st with made:=true,off:=true,over:=true,err:=2}/\jY rb mb cb w go w' go:=by
 have H:=hJ h
 obtain⟨hrm,hrc,hgm⟩:=h.qY
 obtain⟨cap,h1⟩:=h.run
 rw[hm] at h1
 have H1:=hJ h1
 have HA:=hJ ha
 have HI:=hJ hin
 clear h h1 hm ha hin
 go_enter Tryz.func114,Tryz.ntmps114
 go_wp2_with fail
 refine(nX H1.out HA.out).mono ?_;rintro e w1 ⟨rfl,n,hw1⟩
 have hr1:bM w1 rb mb go cap st.log st.at_ true false st.off st.over st.err:=by rw[hw1];exact H1.out.drawn n
 have hx1:bI (·=rb) w w1:=by rw[hw1];exact(bI.refl _ _).drewN n
 clear hw1
 go_wp2_with fail
 refine(uf hr1).mono ?_;rintro e w2 ⟨rfl,hr2,hm2⟩
 have hx2:=hx1.trans hm2
 have hmem:=H.out.mem.mod hx2 (Ne.symm hrm) (Ne.symm hrc)
 have k0:=hr2.c0
 have HE:=hJ (And.intro hr2 hx2)
 clear hr1 hr2 hm2 hx1 hx2
 go_wp2_with fail
 refine(Lr hmem a HI.out).mono ?_;rintro e w3 ⟨rfl,rfl⟩
 clear hmem k0
 go_wp2_with fail
 refine(EE HE.out.1 0).mono ?_;rintro e w4 ⟨rfl,hr4,hm4⟩
 have HF:=hJ (And.intro hr4 hm4)
 clear hr4 hm4
 go_wp2_with fail
 go_ret
 obtain⟨hr4,hm4⟩:=HF.out
 have hx:=HE.out.2.trans hm4
 exact⟨rfl,⟨⟨cap,hr4⟩,H.out.mem.mod hx (Ne.symm hrm) (Ne.symm hrc),H.out.ne⟩,jY.mW hx fun k hk=>.inl hk⟩
/-! ### Store -/
theorem Jt (h:RM w rb mb cb go true st) (a v:Int) (ha:st.at_<st.log.length) (hl:st.log.length<1000000000) :
  Calls Tryz.prog 83 #[.pointer (some ⟨rb,0,none⟩),.int .i64 a,.int .u32 v] w fun e w'=>e=.returned (.tuple #[])/\RM w' rb mb cb go true {st with at_:=st.at_+1}/\jY rb mb cb w go w' go:=by
 have H:=hJ h
 obtain⟨hrm,hrc,hgm⟩:=h.qY
 obtain⟨cap,h1⟩:=h.run
 have H1:=hJ h1
 clear h h1
 go_enter Tryz.func83,Tryz.ntmps83
 go_wp2_with fail
 refine(zT H1.out ha hl).mono ?_;rintro e w1 ⟨rfl,hr1,hm1⟩
 have HE:=hJ (And.intro hr1 hm1)
 clear hr1 hm1
 go_wp2_with fail
 first | go_end0 | refine tZ (results_none rfl _ _ _) rfl ?_
 obtain⟨hr1,hm1⟩:=HE.out
 exact⟨rfl,⟨⟨cap,hr1⟩,H.out.mem.mod hm1 (Ne.symm hrm) (Ne.symm hrc),H.out.ne⟩,jY.mW hm1 fun k hk=>.inl hk⟩
theorem KA (h:RM w rb mb cb go true st) (a v:Int) (ha:st.at_=st.log.length) (hm:st.made=true) :
  Calls Tryz.prog 83 #[.pointer (some ⟨rb,0,none⟩),.int .i64 a,.int .u32 v] w fun e w'=>e=.returned (.tuple #[])/\RM w' rb mb cb go true {st with off:=true}/\jY rb mb cb w go w' go:=by
 have H:=hJ h
 obtain⟨hrm,hrc,hgm⟩:=h.qY
 obtain⟨cap,h1⟩:=h.run
 rw[hm] at h1
 have H1:=hJ h1
 have HM:=hJ hm
 have HA:=hJ ha
 clear h h1 hm ha
 go_enter Tryz.func83,Tryz.ntmps83
 go_wp2_with fail
 refine(nX H1.out HA.out).mono ?_;rintro e w1 ⟨rfl,n,hw1⟩
 have hr1:bM w1 rb mb go cap st.log st.at_ true true st.off st.over st.err:=by rw[hw1];exact H1.out.drawn n
 have HW:=hJ hw1
 clear hw1
 go_wp2_with fail
 refine(Ig hr1).mono ?_;rintro e w2 ⟨rfl,hr2,hm2⟩
 have HE:=hJ (And.intro hr2 hm2)
 clear hr1 hr2 hm2
 go_wp2_with fail
 first | go_end0 | refine tZ (results_none rfl _ _ _) rfl ?_
 obtain⟨hr2,hm2⟩:=HE.out
 have hm2':bI (·=rb) w w2:=((show bI (·=rb) w w1 by rw[HW.out];exact(bI.refl _ _).drewN n)).trans hm2
 refine⟨rfl,⟨⟨cap,by simpa [HM.out] using hr2⟩,H.out.mem.mod hm2' (Ne.symm hrm) (Ne.symm hrc),H.out.ne⟩,?_⟩
 exact jY.mW hm2' fun k hk=>.inl hk
theorem KI (h:RM w rb mb cb go true st) (a:Nat) (v:Int) (ha:st.at_=st.log.length) (hm:st.made=false) (hin:a<st.cs.length) (hl:st.log.length<1000000000) (hs0:0<=st.s) (hs1:st.s<1000000000) :
  Calls Tryz.prog 83 #[.pointer (some ⟨rb,0,none⟩),.int .i64 a,.int .u32 v] w fun e w'=>e=.returned (.tuple #[])/\∃ go',RM w' rb mb cb go' true {st with made:=true,off:=false,log:=st.log++[0],at_:=st.at_+1,cs:=st.cs.set a v,s:=st.s+1}/\jY rb mb cb w go w' go':=by
 have H:=hJ h
 obtain⟨hrm,hrc,hgm⟩:=h.qY
 obtain⟨cap,h1⟩:=h.run
 rw[hm] at h1
 have H1:=hJ h1
 have HA:=hJ ha
 have hlt:=h.lt
 clear h h1 hm ha
 go_enter Tryz.func83,Tryz.ntmps83
 go_wp2_with fail
 refine(nX H1.out HA.out).mono ?_;rintro e w1 ⟨rfl,n,hw1⟩
 have hr1:bM w1 rb mb go cap st.log st.at_ true false st.off st.over st.err:=by rw[hw1];exact H1.out.drawn n
 have hx1:bI (·=rb) w w1:=by rw[hw1];exact(bI.refl _ _).drewN n
 clear hw1
 go_wp2_with fail
 refine(uf hr1).mono ?_;rintro e w2 ⟨rfl,hr2,hm2⟩
 have hx2:=hx1.trans hm2
 have hmem:=H.out.mem.mod hx2 (Ne.symm hrm) (Ne.symm hrc)
 have k0:=hr2.c0
 have HE:=hJ (And.intro hr2 hx2)
 clear hr1 hr2 hm2 hx1 hx2
 go_wp2_with fail
 refine(nH hmem a v hin hs0 hs1).mono ?_;rintro e w3 ⟨rfl,hmem3,hx3⟩
 have hr3:=HE.out.1.mod hx3 (fun k hk e=>hk.elim (fun e'=>e.elim (fun e=>hrm (e'.symm.trans e)) fun e=>hrc (e'.symm.trans e)) fun e'=>e.elim (fun e=>hgm (e ▸ e')) fun e=>H.out.ne (e ▸ e'))
 have hx3':bI (gY rb mb cb go) w w3:=(HE.out.2.mono fun k _ hk=>.inl hk).trans (hx3.mono fun k _ hk=>.inr (.inr hk))
 have HX:=hJ hx3'
 have HM3:=hJ hmem3
 clear HE hx3 hx3' hmem hmem3 k0
 go_wp2_with fail
 refine(Ib hr3 0 hl (by have:=HA.out;omega)).mono ?_;rintro e w4 ⟨rfl,go',cap',hr4,hg4,hm4⟩
 have HF:=hJ (And.intro hr4 (And.intro hg4 hm4))
 clear hr3 hr4 hg4 hm4
 go_wp2_with fail
 first | go_end0 | refine tZ (results_none rfl _ _ _) rfl ?_
 obtain⟨hr4,hg4,hm4⟩:=HF.out
 have hne:¬ zh rb go mb/\¬ zh rb go cb:=⟨fun e=>e.elim (fun e=>hrm e.symm) hgm,fun e=>e.elim (fun e=>hrc e.symm) H.out.ne⟩
 refine⟨rfl,go',⟨⟨cap',hr4⟩,HM3.out.mod hm4 hne.1 hne.2,?_⟩,?_,?_⟩
 ·rcases hg4 with e | ⟨g,e,hg⟩
  ·rw[e];exact H.out.ne
  ·intro e'
   rw[e] at e';cases e'
   have:=hlt cb (.inr (.inr (.inr rfl)))
   have:=HX.out.size
   omega
 ·rcases hg4 with e | ⟨g,e,hg⟩
  ·exact .inl e
  ·exact .inr ⟨g,e,Nat.le_trans HX.out.size hg⟩
 ·exact HX.out.trans (hm4.mono fun k _ hk=>hk.elim .inl fun e=>.inr (.inl e))
theorem F7 (h:RM w rb mb cb go true st) (a v:Int) (ha:st.at_=st.log.length) (hm:st.made=false) (hin:a<0∨(st.cs.length:Int)<=a) :
  Calls Tryz.prog 83 #[.pointer (some ⟨rb,0,none⟩),.int .i64 a,.int .u32 v] w fun e w'=>e=.returned (.tuple #[])/\RM w' rb mb cb go true {st with made:=true,off:=true,over:=true,err:=2}/\jY rb mb cb w go w' go:=by
 have H:=hJ h
 obtain⟨hrm,hrc,hgm⟩:=h.qY
 obtain⟨cap,h1⟩:=h.run
 rw[hm] at h1
 have H1:=hJ h1
 have HA:=hJ ha
 have HI:=hJ hin
 clear h h1 hm ha hin
 go_enter Tryz.func83,Tryz.ntmps83
 go_wp2_with fail
 refine(nX H1.out HA.out).mono ?_;rintro e w1 ⟨rfl,n,hw1⟩
 have hr1:bM w1 rb mb go cap st.log st.at_ true false st.off st.over st.err:=by rw[hw1];exact H1.out.drawn n
 have hx1:bI (·=rb) w w1:=by rw[hw1];exact(bI.refl _ _).drewN n
 clear hw1
 go_wp2_with fail
 refine(uf hr1).mono ?_;rintro e w2 ⟨rfl,hr2,hm2⟩
 have hx2:=hx1.trans hm2
 have hmem:=H.out.mem.mod hx2 (Ne.symm hrm) (Ne.symm hrc)
 have k0:=hr2.c0
 have HE:=hJ (And.intro hr2 hx2)
 clear hr1 hr2 hm2 hx1 hx2
 go_wp2_with fail
 refine(JG hmem a v HI.out).mono ?_;rintro e w3 ⟨rfl,rfl⟩
 clear hmem k0
 go_wp2_with fail
 refine(EE HE.out.1 0).mono ?_;rintro e w4 ⟨rfl,hr4,hm4⟩
 have HF:=hJ (And.intro hr4 hm4)
 clear hr4 hm4
 go_wp2_with fail
 first | go_end0 | refine tZ (results_none rfl _ _ _) rfl ?_
 obtain⟨hr4,hm4⟩:=HF.out
 have hx:=HE.out.2.trans hm4
 exact⟨rfl,⟨⟨cap,hr4⟩,H.out.mem.mod hx (Ne.symm hrm) (Ne.symm hrc),H.out.ne⟩,jY.mW hx fun k hk=>.inl hk⟩
/-! ### Both, in the words of the state -/
theorem run_load (h:RM w rb mb cb go true st) {B:Nat} (hB:B<1000000000) (hok:st.Ok B) (a:Int) :
  Calls Tryz.prog 114 #[.pointer (some ⟨rb,0,none⟩),.int .i64 a] w fun e w'=>e=.returned (.int .u32 (st.load a).1)/\∃ go',RM w' rb mb cb go' true (st.load a).2/\jY rb mb cb w go w' go':=by
 obtain⟨k1,k2,k3,k4,k5,_,_⟩:=hok
 by_cases c1:st.at_<st.log.length
 ·rw[show st.load a=(st.log.getD st.at_ 0,{st with at_:=st.at_+1}) by simp[St.load,c1]]
  exact(Oa h a c1 (by split at k2 <;> omega)).mono fun e w' ⟨h1,h2,h3⟩=>⟨h1,go,h2,h3⟩
 ·have ha:st.at_=st.log.length:=oZ
  by_cases c2:st.made=true
  ·rw[show st.load a=(0,{st with off:=true}) by simp[St.load,c1,c2]]
   exact(Nw h a ha c2).mono fun e w' ⟨h1,h2,h3⟩=>⟨h1,go,h2,h3⟩
  ·have hm:st.made=false:=by simpa using c2
   simp only[hm,Bool.false_eq_true,if_false] at k2 k5
   by_cases c3:0<=a/\a<st.cs.length
   ·obtain⟨x,rfl⟩:=Int.eq_ofNat_of_zero_le c3.1
    have e:=tK c3.1 c3.2
    rw[show st.load x=(st.cs.getD x 0,{st with made:=true,off:=false,log:=st.log++[st.cs.getD x 0],at_:=st.at_+1,l:=st.l+1}) by simp only[St.load,c1,hm,e,Bool.false_eq_true,if_false,if_true,Int.toNat_natCast]]
    exact Nu h x ha hm oZ oZ k3 oZ
   ·have e:DD st.cs.length a=false:=IP oZ
    rw[show st.load a=(0,{st with made:=true,off:=true,over:=true,err:=2}) by simp[St.load,c1,c2,e]]
    exact(JP h a ha hm oZ).mono fun e w' ⟨h1,h2,h3⟩=>⟨h1,go,h2,h3⟩
theorem run_store (h:RM w rb mb cb go true st) {B:Nat} (hB:B<1000000000) (hok:st.Ok B) (a v:Int) :
  Calls Tryz.prog 83 #[.pointer (some ⟨rb,0,none⟩),.int .i64 a,.int .u32 v] w fun e w'=>e=.returned (.tuple #[])/\∃ go',RM w' rb mb cb go' true (st.store a v)/\jY rb mb cb w go w' go':=by
 obtain⟨k1,k2,k3,k4,k5,_,_⟩:=hok
 by_cases c1:st.at_<st.log.length
 ·rw[show st.store a v={st with at_:=st.at_+1} by simp[St.store,c1]]
  exact(Jt h a v c1 (by split at k2 <;> omega)).mono fun e w' ⟨h1,h2,h3⟩=>⟨h1,go,h2,h3⟩
 ·have ha:st.at_=st.log.length:=oZ
  by_cases c2:st.made=true
  ·rw[show st.store a v={st with off:=true} by simp[St.store,c1,c2]]
   exact(KA h a v ha c2).mono fun e w' ⟨h1,h2,h3⟩=>⟨h1,go,h2,h3⟩
  ·have hm:st.made=false:=by simpa using c2
   simp only[hm,Bool.false_eq_true,if_false] at k2 k5
   by_cases c3:0<=a/\a<st.cs.length
   ·obtain⟨x,rfl⟩:=Int.eq_ofNat_of_zero_le c3.1
    have e:=tK c3.1 c3.2
    rw[show st.store x v={st with made:=true,off:=false,log:=st.log++[0],at_:=st.at_+1,cs:=st.cs.set x v,s:=st.s+1} by simp only[St.store,c1,hm,e,Bool.false_eq_true,if_false,if_true,Int.toNat_natCast]]
    exact KI h x v ha hm oZ oZ k4 oZ
   ·have e:DD st.cs.length a=false:=IP oZ
    rw[show st.store a v={st with made:=true,off:=true,over:=true,err:=2} by simp[St.store,c1,c2,e]]
    exact(F7 h a v ha hm oZ).mono fun e w' ⟨h1,h2,h3⟩=>⟨h1,go,h2,h3⟩
end
def xm (B S:Nat->Int) (a:Int) (k:Nat):Prop:=B k<=a/\a<B k+S k
structure Fit (B S:Nat->Int):Prop where
 b0:∀ k,k<6->0<=B k
 b1:∀ k,k<6->B k<=1000000
 s0:∀ k,k<6->0<=S k
 s1:∀ k,k<6->S k<=1000000
 m:∃ m:Nat->Int,∀ k,k<4->0<=m k/\S k=m k*aS k
theorem LG {P:Program} {f:FuncId} {args:Array Value} {w:World} {n:Nat} {v:Value} (h:Calls P f args (w.drewN n) fun e w'=>e=.returned v/\w.drewN n=w'):Calls P f args (w.drewN n) fun e w''=>e=.returned v/\∃ m,w''=w.drewN m :=
 h.mono fun _ _ ⟨he,hw⟩=>⟨he,n,hw.symm⟩
def zn (w:World) (B S:Nat->Int) (C T L:Int) (wr:World):Prop:=wr.heap[w.heap.size]?=some (.cells (af B S C T L) 42 (0,0))/\Below w.heap.size w wr
theorem zn.drawn {w:World} {B S:Nat->Int} {C T L:Int} {wr:World} (h:zn w B S C T L wr) (n:Nat):zn w B S C T L (wr.drewN n):=⟨h.1,fG h.2 n⟩
def BJ (B S:Nat->Int) (a:Int) (w:World) (e:Ending) (w':World):Prop:=Below w.heap.size w w' /\
 ((∃ k,k<4/\xm B S a k/\(∀ j,j<k->¬ xm B S a j)/\e=.returned (.tuple #[.int .i64 k,.int .i64 ((a-B k) % aS k)]))∨((∀ j,j<4->¬ xm B S a j)/\e=.returned (.tuple #[.int .i64 (-1),.int .i64 0])))
theorem JA (w:World) (B S:Nat->Int) (C T L a:Int) (hf:Fit B S) :
  Calls Tryz.prog 189 #[.agg (af B S C T L),.int .i64 a] w fun e w'=>BJ B S a w e w':=by
 have HF:=hJ hf
 clear hf
 go_enter Tryz.func189,Tryz.ntmps189
 go_wp2_with fail
 go_loopw [7] (fun i wr=>∃ k:Nat,k<=4/\i=.int .i64 k/\Hid (∀ j,j<k->¬ xm B S a j)/\zn w B S C T L wr) (fun i _=>4-(intOf i).toNat)
 case atStart=>exact⟨0,oZ,rfl,hJ (fun j hj=>oZ),nZ w _,au⟩
 case round =>
  obtain⟨k,hk,rfl,HO,hT⟩:=hrel
  by_cases hlt:k<4
  ·have hlt4:(k:Int)<4:=oZ
   have hlt6:(k:Int)<6:=oZ
   have c0:wr.cell? ⟨w.heap.size,k,none⟩=some (.int .i64 (B k)):=(ae hT.1 k).trans (jL _ _ _ _ _ k oZ)
   have c1:wr.cell? ⟨w.heap.size,6+k,none⟩=some (.int .i64 (S k)):=(ae hT.1 (6+k)).trans (lL _ _ _ _ _ k oZ)
   have b0:=HF.out.b0 k oZ
   have b1:=HF.out.b1 k oZ
   have s0:=HF.out.s0 k oZ
   have s1:=HF.out.s1 k oZ
   have HT:=hJ hT
   clear hT
   have wr1:IntKind.i64.wrap (B k+S k)=B k+S k:=iZ _ oZ
   by_cases h0:B k<=a
   ·by_cases h1:a<B k+S k
    ·have sl0:=dM k
     have sl1:=fC k
     have d1:decide (a<B k+S k)=true:=decide_eq_true h1
     have a0:0<=a-B k:=oZ
     have md0:=Int.emod_nonneg (a-B k) (show aS k≠0 by omega)
     have md1:=Int.emod_lt_of_pos (a-B k) (show 0<aS k by omega)
     have wr2:IntKind.i64.wrap (a-B k)=a-B k:=iZ _ oZ
     have wr3:IntKind.i64.wrap ((a-B k) % aS k)=(a-B k) % aS k:=iZ _ oZ
     have tm:(a-B k).tmod (aS k)=(a-B k) % aS k:=Int.tmod_eq_emod_of_nonneg a0
     have hz:(aS k==0)=false:=by simp;omega
     go_wp2_with fail
     go_quiet (fail)
     rename Nat=>m1
     go_upto_region 5 with fail
     obtain⟨wz,hwz⟩:∃ wz,wz=wr.drewN m1:=⟨_,rfl⟩
     rw[<- hwz]
     have c2:wz.cell? ⟨w.heap.size,k,none⟩=some (.int .i64 (B k)):=by rw[hwz];exact c0
     have HT:=hJ (show zn w B S C T L wz by rw[hwz];exact HT.out.drawn _)
     clear hwz c0 c1
     go_quiet ((go_at_call 138;exact LG (Io _ k hlt)))
     go_wp2_with fail
     go_ret2
     exact⟨fG HT.out.2 _,.inl ⟨k,hlt,⟨h0,h1⟩,HO.out,rfl⟩⟩
    ·have d1:decide (a<B k+S k)=false:=decide_eq_false h1
     have HN:=hJ (show ¬ xm B S a k from fun h=>h1 h.2)
     clear h1
     go_wp2_with fail
     go_quiet (fail)
     go_wp2_with fail
     go_roundw
     case rel =>
      refine⟨k+1,oZ,by go_num,hJ (fun j hj=>?_),HT.out.drawn _⟩
      by_cases e:j=k
      ·subst e;exact HN.out
      ·exact HO.out j oZ
     case measure=>simp[intOf];omega
   ·have d0:decide (B k<=a)=false:=decide_eq_false h0
    have HN:=hJ (show ¬ xm B S a k from fun h=>h0 h.1)
    clear h0
    go_wp2_with fail
    go_quiet (fail)
    go_wp2_with fail
    go_roundw
    case rel =>
     refine⟨k+1,oZ,by go_num,hJ (fun j hj=>?_),HT.out.drawn _⟩
     by_cases e:j=k
     ·subst e;exact HN.out
     ·exact HO.out j oZ
    case measure=>simp[intOf];omega
  ·obtain rfl:k=4:=oZ
   have HB:=hJ hT.2
   clear hT
   go_wp2_with fail
   go_ret2
   exact⟨HB.out,.inr ⟨HO.out,rfl⟩⟩
theorem Eu (x:Nat) (k:Nat) (r:Int) (h0:0<=r) (h1:r<aS k):(x*aS k+r) % aS k=r:=by
 rw[Int.add_comm,Int.add_mul_emod_self_right]
 exact Int.emod_eq_of_lt h0 h1
theorem Am (x:Nat) (k:Nat) (m S:Int) (hm:S=m*aS k) (h:x*aS k<S):x*aS k+aS k<=S:=by
 subst hm
 have hs:=dM k
 have hlt:(x:Int)<m:=Int.lt_of_mul_lt_mul_right h oZ
 have:((x:Int)+1)*aS k<=m*aS k:=Int.mul_le_mul_of_nonneg_right oZ oZ
 rw[Int.add_mul,Int.one_mul] at this
 exact this
theorem mY (w:World) (B S:Nat->Int) (C T L a:Int) (hf:Fit B S) :
  Calls Tryz.prog 111 #[.agg (af B S C T L),.int .i64 a] w fun e w'=>BJ B S a w e w':=by
 have HF:=hJ hf
 clear hf
 go_enter Tryz.func111,Tryz.ntmps111
 go_wp2_with fail
 go_loopw [6,7] (fun i _ wr=>∃ k:Nat,k<=4/\i=.int .i64 k/\Hid (∀ j,j<k->¬ xm B S a j)/\zn w B S C T L wr) (fun i _ _=>4-(intOf i).toNat)
 case atStart=>exact⟨0,oZ,rfl,hJ (fun j hj=>oZ),nZ w _,au⟩
 case round =>
  obtain⟨k,hk,rfl,HO,hT⟩:=hrel
  obtain⟨wo,rfl⟩:∃ wo:World,wo=wr:=⟨_,rfl⟩
  by_cases hlt:k<4
  ·have hlt4:(k:Int)<4:=oZ
   have hlt6:(k:Int)<6:=oZ
   have c0:wo.cell? ⟨w.heap.size,k,none⟩=some (.int .i64 (B k)):=(ae hT.1 k).trans (jL _ _ _ _ _ k oZ)
   have b0:=HF.out.b0 k oZ
   have b1:=HF.out.b1 k oZ
   have s0:=HF.out.s0 k oZ
   have s1:=HF.out.s1 k oZ
   obtain⟨m,hm⟩:=HF.out.m
   have HM:=hJ (hm k hlt)
   clear hm
   have HT:=hJ hT
   clear hT
   have sl0:=dM k
   have sl1:=fC k
   have wr1:IntKind.i64.wrap (B k+S k)=B k+S k:=iZ _ oZ
   go_wp2_with fail
   clear c0
   go_loopw [7] (fun b wr=>∃ x:Nat,b=.int .i64 (B k+x*aS k)/\Hid (x*aS k<=S k)/\Hid (¬ (B k<=a/\a<B k+x*aS k))/\zn w B S C T L wr) (fun b _=>(B k+S k-intOf b).toNat)
   case atStart=>exact⟨0,sZ,hJ (by simpa using s0),hJ (by rintro⟨p,q⟩;rw[show ((0:Nat):Int)*aS k=0 by simp] at q;omega),HT.out⟩
   case round =>
    obtain⟨x,rfl,hx0,hx1,hT⟩:=hrel
    have HXS:=hJ (Am x k (m k) (S k) HM.out.2)
    obtain⟨y,hy⟩:∃ y,y=(x:Int)*aS k:=⟨_,rfl⟩
    have y0:0<=y:=by rw[hy];exact Int.mul_nonneg oZ oZ
    have HMod:=hJ (fun r=>Eu x k r)
    rw[<- hy] at hx0 hx1 HXS HMod ⊢
    have y1:=hx0.out
    have HY:=hJ hy
    clear hy hx0
    have c0:wr.cell? ⟨w.heap.size,k,none⟩=some (.int .i64 (B k)):=(ae hT.1 k).trans (jL _ _ _ _ _ k oZ)
    have c1:wr.cell? ⟨w.heap.size,6+k,none⟩=some (.int .i64 (S k)):=(ae hT.1 (6+k)).trans (lL _ _ _ _ _ k oZ)
    have HT:=hJ hT
    clear hT
    by_cases hys:y<S k
    ·have d1:decide (B k+y<B k+S k)=true:=decide_eq_true oZ
     by_cases h0:B k+y<=a
     ·by_cases h1:a<B k+y+aS k
      ·have e0:decide (B k+y<=a)=true:=decide_eq_true h0
       have HI:=hJ (show xm B S a k from⟨oZ,by have:=HXS.out hys;omega⟩)
       have HE:=hJ (show (a-B k) % aS k=a-(B k+y) by
        have:=HMod.out (a-(B k+y)) oZ oZ
        rw[show y+(a-(B k+y))=a-B k by omega] at this
        exact this)
       go_wp2_with fail
       go_quiet (fail)
       go_wp2_with (first | (go_at_call 100;refine(mO _ k hlt).mono ?_;rintro e w' ⟨rfl,rfl⟩) | fail)
       go_ret2
       exact⟨fG HT.out.2 _,.inl ⟨k,hlt,HI.out,HO.out,by rw[HE.out];exact rfl⟩⟩
      ·have e0:decide (B k+y<=a)=true:=decide_eq_true h0
       have hn:=HXS.out hys
       go_wp2_with fail
       go_quiet (fail)
       go_wp2_with (first | (go_at_call 100;refine(mO _ k hlt).mono ?_;rintro e w' ⟨rfl,rfl⟩) | fail)
       go_roundw
       case rel =>
        refine⟨x+1,?_,hJ ?_,hJ ?_,HT.out.drawn _⟩
        ·rw[show ((x+1:Nat):Int)*aS k=y+aS k by rw[HY.out];simp[Int.add_mul]];rw[Int.add_assoc]
        ·rw[show ((x+1:Nat):Int)*aS k=y+aS k by rw[HY.out];simp[Int.add_mul]];exact hn
        ·rw[show ((x+1:Nat):Int)*aS k=y+aS k by rw[HY.out];simp[Int.add_mul]];omega
       case measure=>simp[intOf];omega
     ·have e0:decide (B k+y<=a)=false:=decide_eq_false h0
      have hn:=HXS.out hys
      go_wp2_with fail
      go_quiet (fail)
      go_wp2_with (first | (go_at_call 100;refine(mO _ k hlt).mono ?_;rintro e w' ⟨rfl,rfl⟩) | fail)
      go_roundw
      case rel =>
       refine⟨x+1,?_,hJ ?_,hJ ?_,HT.out.drawn _⟩
       ·rw[show ((x+1:Nat):Int)*aS k=y+aS k by rw[HY.out];simp[Int.add_mul]];rw[Int.add_assoc]
       ·rw[show ((x+1:Nat):Int)*aS k=y+aS k by rw[HY.out];simp[Int.add_mul]];exact hn
       ·rw[show ((x+1:Nat):Int)*aS k=y+aS k by rw[HY.out];simp[Int.add_mul]];have:=hx1.out;omega
      case measure=>simp[intOf];omega
    ·have d1:decide (B k+y<B k+S k)=false:=decide_eq_false oZ
     have HN:=hJ (show ¬ xm B S a k from fun h=>hx1.out ⟨h.1,by have:=h.2;omega⟩)
     go_wp2_with fail
     go_quiet (fail)
     go_wp2_with fail
     go_roundw
     case rel =>
      refine⟨k+1,oZ,by go_num,hJ (fun j hj=>?_),HT.out.drawn _⟩
      by_cases e:j=k
      ·subst e;exact HN.out
      ·exact HO.out j oZ
     case measure=>simp[intOf];omega
  ·obtain rfl:k=4:=oZ
   have HB:=hJ hT.2
   clear hT
   go_wp2_with fail
   go_ret2
   exact⟨HB.out,.inr ⟨HO.out,rfl⟩⟩
theorem Cc (w:World) (d t:Int) (s:Nat->Int) (bk rm:Int) (kf bf:Nat)  (h:d<1) :
  Calls Tryz.prog 62 #[.agg (ak d t s bk rm kf bf)] w fun e w'=>e=.returned (.tuple #[.agg (six fun _=>0),.bool false])/\Below w.heap.size w w':=by
 unfold ak
 go_enter Tryz.func62,Tryz.ntmps62
 go_wp2
 refine tZ (v:=.tuple #[.agg (six fun _=>0),.bool false]) (by simp[results,Tryz.results62,go_sem,six]) rfl ⟨rfl,bu⟩
theorem BD (w:World) (d t:Int) (s:Nat->Int) (bk rm:Int) (kf bf:Nat) (g0:1<=d) (h:64<d) :
  Calls Tryz.prog 62 #[.agg (ak d t s bk rm kf bf)] w fun e w'=>e=.returned (.tuple #[.agg (six fun _=>0),.bool false])/\Below w.heap.size w w':=by
 unfold ak
 go_enter Tryz.func62,Tryz.ntmps62
 go_wp2
 refine tZ (v:=.tuple #[.agg (six fun _=>0),.bool false]) (by simp[results,Tryz.results62,go_sem,six]) rfl ⟨rfl,bu⟩
theorem Ce (w:World) (d t:Int) (s:Nat->Int) (bk rm:Int) (kf bf:Nat) (g0:1<=d) (g1:d<=64) (h:t<64) :
  Calls Tryz.prog 62 #[.agg (ak d t s bk rm kf bf)] w fun e w'=>e=.returned (.tuple #[.agg (six fun _=>0),.bool false])/\Below w.heap.size w w':=by
 unfold ak
 go_enter Tryz.func62,Tryz.ntmps62
 go_wp2
 refine tZ (v:=.tuple #[.agg (six fun _=>0),.bool false]) (by simp[results,Tryz.results62,go_sem,six]) rfl ⟨rfl,bu⟩
theorem Cm (w:World) (d t:Int) (s:Nat->Int) (bk rm:Int) (kf bf:Nat) (g0:1<=d) (g1:d<=64) (g2:64<=t) (h:256<t) :
  Calls Tryz.prog 62 #[.agg (ak d t s bk rm kf bf)] w fun e w'=>e=.returned (.tuple #[.agg (six fun _=>0),.bool false])/\Below w.heap.size w w':=by
 unfold ak
 go_enter Tryz.func62,Tryz.ntmps62
 go_wp2
 refine tZ (v:=.tuple #[.agg (six fun _=>0),.bool false]) (by simp[results,Tryz.results62,go_sem,six]) rfl ⟨rfl,bu⟩
theorem BP (w:World) (d t:Int) (s:Nat->Int) (bk rm:Int) (kf bf:Nat) (g0:1<=d) (g1:d<=64) (g2:64<=t) (g3:t<=256) (h:bk<0) :
  Calls Tryz.prog 62 #[.agg (ak d t s bk rm kf bf)] w fun e w'=>e=.returned (.tuple #[.agg (six fun _=>0),.bool false])/\Below w.heap.size w w':=by
 unfold ak
 go_enter Tryz.func62,Tryz.ntmps62
 go_wp2
 refine tZ (v:=.tuple #[.agg (six fun _=>0),.bool false]) (by simp[results,Tryz.results62,go_sem,six]) rfl ⟨rfl,bu⟩
theorem Cf (w:World) (d t:Int) (s:Nat->Int) (bk rm:Int) (kf bf:Nat) (g0:1<=d) (g1:d<=64) (g2:64<=t) (g3:t<=256) (g4:0<=bk) (h:65536<bk) :
  Calls Tryz.prog 62 #[.agg (ak d t s bk rm kf bf)] w fun e w'=>e=.returned (.tuple #[.agg (six fun _=>0),.bool false])/\Below w.heap.size w w':=by
 unfold ak
 go_enter Tryz.func62,Tryz.ntmps62
 go_wp2
 refine tZ (v:=.tuple #[.agg (six fun _=>0),.bool false]) (by simp[results,Tryz.results62,go_sem,six]) rfl ⟨rfl,bu⟩
theorem Dk (w:World) (d t:Int) (s:Nat->Int) (bk rm:Int) (kf bf:Nat) (g0:1<=d) (g1:d<=64) (g2:64<=t) (g3:t<=256) (g4:0<=bk) (g5:bk<=65536) (h:rm<0) :
  Calls Tryz.prog 62 #[.agg (ak d t s bk rm kf bf)] w fun e w'=>e=.returned (.tuple #[.agg (six fun _=>0),.bool false])/\Below w.heap.size w w':=by
 unfold ak
 go_enter Tryz.func62,Tryz.ntmps62
 go_wp2
 refine tZ (v:=.tuple #[.agg (six fun _=>0),.bool false]) (by simp[results,Tryz.results62,go_sem,six]) rfl ⟨rfl,bu⟩
theorem Dh (w:World) (d t:Int) (s:Nat->Int) (bk rm:Int) (kf bf:Nat) (g0:1<=d) (g1:d<=64) (g2:64<=t) (g3:t<=256) (g4:0<=bk) (g5:bk<=65536) (g6:0<=rm) (h:65536<rm) :
  Calls Tryz.prog 62 #[.agg (ak d t s bk rm kf bf)] w fun e w'=>e=.returned (.tuple #[.agg (six fun _=>0),.bool false])/\Below w.heap.size w w':=by
 unfold ak
 go_enter Tryz.func62,Tryz.ntmps62
 go_wp2
 refine tZ (v:=.tuple #[.agg (six fun _=>0),.bool false]) (by simp[results,Tryz.results62,go_sem,six]) rfl ⟨rfl,bu⟩
structure Fp:Prop where
 word:∀ (w:World) (d p:Int),-9223372036854775808<=d->d<=9223372036854775807->-9223372036854775808<=p->p<=9223372036854775807->Calls Tryz.prog 127 #[.int .i64 d,.int .i64 p] w fun e w'=>e=.returned (.tuple #[.int .u32 (eU d p),.int .i64 (gW d p)])/\Below w.heap.size w w'
 part:∀ (w:World) (x:Int),0<=x->x<=4294967295->Calls Tryz.prog 77 #[.int .u32 x] w fun e w'=>e=.returned (.tuple #[.int .i64 (x / 65536),.int .i64 (x % 65536)])/\Below w.heap.size w w'
 key:∀ (w:World) (f:Int) (s:ByteArray),0<=f->f<=255->s.size<=1000000->Calls Tryz.prog 121 #[.int .u8 f,.string s] w fun e w'=>e=.returned (.string (ay (f.toNat :: ax s)))/\Below w.heap.size w w'
 cells:∀ (w:World) (s:ByteArray),s.size<=1000000->Calls Tryz.prog 124 #[.string s] w fun e w'=>∃ v,e=.returned v/\iw 32 .u32 w' w.heap.size v (aF (ax s))/\Below w.heap.size w w'
 bytes:∀ (w:World) (oa:Option Addr) (c N:Nat) (L:List Nat) (n:Int),L.length=N->dH .u32 w oa L->N<=c->c<=maxLen->N<=1000000->(∀ x∈L,x<4294967296)->-9223372036854775808<=n->n<=9223372036854775807->Calls Tryz.prog 196 #[.slice oa N c,.int .i64 n] w fun e w'=>e=.returned (.tuple #[.string (Qp L n),.int .i64 (Oz L n)])/\Below w.heap.size w w'
 hash:∀ (w:World) (s:ByteArray),s.size<=1000000->Calls Tryz.prog 188 #[.string s] w fun e w'=>e=.returned (.int .u32 (dB (ax s)))/\Below w.heap.size w w'
theorem Ep {d p:Int} (h:OD d p):eU d p=65536*d+p/\gW d p=0:=⟨by unfold eU;rw[if_pos h],by unfold gW;rw[if_pos h]⟩
theorem Fp.QI (K:Fp) (s:ByteArray) (L:List Nat) (n:Nat) (hs:s.size<=1000000) (hL:aF (ax s)=L) (hn:L.length=n) (w:World):Calls Tryz.prog 124 #[.string s] w fun e w'=>∃ oa c,e=.returned (.slice oa n c)/\n<=c/\c<=maxLen/\dH .u32 w' oa L/\Below w.heap.size w w':=by
 subst hL hn
 refine(K.cells w s hs).mono fun _ _ ⟨v,h1,h2,h3⟩=>?_
 obtain⟨oa,c,rfl,h4,h5,_,h6⟩:=h2.reads
 exact⟨oa,c,h1,h4,h5,h6,h3⟩
theorem ug (s:ByteArray) (L:List Nat) (n:Nat) (hs:s.size<=1000000) (hL:aF (ax s)=L) (hn:L.length=n) (w:World):Calls Tryz.prog 95 #[.string s] w fun e w'=>∃ oa c,e=.returned (.slice oa n c)/\n<=c/\c<=maxLen/\dH .u32 w' oa L/\Below w.heap.size w w':=by
 subst hL hn
 refine(Aw w s hs).mono fun _ _ ⟨v,h1,h2,h3⟩=>?_
 obtain⟨oa,c,rfl,h4,h5,_,h6⟩:=h2.reads
 exact⟨oa,c,h1,h4,h5,h6,h3⟩
theorem IK {x s:ByteArray} (h:¬ x=s):(x.toList==s.toList)=false:=by
 rw[beq_eq_false_iff_ne]
 intro e
 apply h
 rw[ByteArray.toList_eq,ByteArray.toList_eq] at e
 exact ByteArray.ext (Array.toList_inj.1 e)
theorem lu {P:Program} {fn:Func} {p q r s:Tmp} {ty:TypeId} (h:fn.results=#[.tmp r,.tmp s,.cell p ty,.tmp q]) (tmps:Array Value) (w:World) (g:Nat) (t:TypeId) (cs:Array Value) (fr:Nat×Nat) (d:TypeDesc) (u x v:Value)
  (hr:tmps.getD r undef=u) (hs:tmps.getD s undef=x) (hp:tmps.getD p undef=.pointer (some ⟨g,0,none⟩)) (hq:tmps.getD q undef=v) (hg:w.heap[g]?=some (.cells cs t fr))
  (hu:P.underlying ty=some d) (hd:(match d with | .struct _ | .array _ _=>true | _=>false)=true) (hi:(P.info? ty).map (·.size)=some cs.size) :
  (results fn tmps).run P w=.ok (.tuple #[u,x,.agg cs,v]) w:=by
 have hp':tmps[p]?.getD undef=.pointer (some ⟨g,0,none⟩):=by simpa using hp
 have hq':tmps[q]?.getD undef=v:=by simpa using hq
 have hr':tmps[r]?.getD undef=u:=by simpa using hr
 have hs':tmps[s]?.getD undef=x:=by simpa using hs
 simp[results,h,hp',hq',hr',hs',asAddr,run_loadVar_row w g t ty cs fr d hg hu hd hi]
theorem low_set {n:Nat} {a b:World} (h:Below n a b) {g:Nat} (hg:n<=g) (o:Nat) (v:Value):Below n a (b.setCell ⟨g,o,none⟩ v):=h.setCell hg v
def jB (cs:List Int):List Nat:=cs.map Int.toNat
theorem wF (cs:List Int):(jB cs).length=cs.length:=by simp[jB]
theorem kW {cs:List Int} (hU:∀ y∈cs,U y) {a:Nat} (h:a<cs.length):∃ x:Nat,(jB cs)[a]?=some x/\cs.getD a 0=(x:Int)/\x<4294967296:=by
 have hy:=hU _ (List.getElem_mem h)
 unfold U at hy
 refine⟨(cs[a]).toNat,by unfold jB;rw[List.getElem?_map,gZ h];rfl,?_,oZ⟩
 rw[List.getD_eq_getElem?_getD,gZ h]
 simp only[Option.getD_some]
 omega
def dK (w:World) (g:Nat) (cs:List Int):Prop:=w.rowIs g 32 cs.length (fun j=>.int .u32 (cs.getD j 0))
section
variable {w w':World} {g:Nat} {cs:List Int}
theorem dK.lt (h:dK w g cs):g<w.heap.size:=World.rowIs.lt h
theorem dK.of_block (h:dK w g cs) (e:w'.heap[g]?=w.heap[g]?):dK w' g cs:=World.rowIs.of_block h e
theorem dK.below (h:dK w g cs) (hb:Below w.heap.size w w'):dK w' g cs:=h.of_block (hb.block g h.lt)
theorem dK.cell (h:dK w g cs) {a:Nat} (ha:a<cs.length):w.cell? ⟨g,a,none⟩=some (.int .u32 (cs.getD a 0)):=World.rowIs.cell h ha
theorem dK.frozen (h:dK w g cs) (a:Nat):w.frozen? ⟨g,a,none⟩=false:=World.rowIs.frozen h a
theorem dK.set (h:dK w g cs) {a:Nat} (ha:a<cs.length) (v:Int):dK (w.setCell ⟨g,a,none⟩ (.int .u32 v)) g (cs.set a v):=by
 unfold dK
 rw[List.length_set]
 refine(World.rowIs.set h a _).congr fun j _=>?_
 simp only[List.getD_eq_getElem?_getD,List.getElem?_set]
 by_cases e:j=a
 ·subst e
  rw[if_pos rfl,if_pos rfl,if_pos ha]
  rfl
 ·rw[if_neg e,if_neg (fun h=>e h.symm)]
theorem dK.read (h:dK w g cs) (hU:∀ y∈cs,U y):dH .u32 w (some ⟨g,0,none⟩) (jB cs):=by
 intro j x hj
 have hlt:=(eZ.1 hj).1
 rw[wF] at hlt
 obtain⟨y,hy,hy2,_⟩:=kW hU hlt
 rw[hj] at hy
 cases hy
 refine⟨g,0,rfl,?_⟩
 rw[Nat.zero_add,h.cell hlt,hy2]
theorem dK.drew (h:dK w g cs):dK w.drew g cs:=h
end
theorem nK (w:World) (oa:Option Addr) (c n:Nat) (cs:List Int) (en:cs.length=n) (hl:n<=1000000) (hU:∀ y∈cs,U y) (ha:dH .u32 w oa (jB cs)) :
  Calls Tryz.prog 48 #[.slice oa n c] w fun e w'=>e=.returned (.slice (some ⟨w.heap.size,0,none⟩) n n)/\dK w' w.heap.size cs/\Below w.heap.size w w':=by
 have hmk:=Eg n hl
 obtain⟨L,hL⟩:∃ L,L=jB cs:=⟨_,rfl⟩
 rw[<- hL] at ha
 have HA:=hJ (ha.alloc (.cells (iM .u32 (List.replicate n 0)).toArray 32))
 have HO:=hJ (Nr .u32 L)
 have HN:=hJ (show L.length=n by rw[hL,wF,en])
 have HE:=hJ (And.intro hL (And.intro en hU))
 clear ha en hL hU
 have H1:=hJ (show (iM .u32 L).length=Nat.min n n by rw[gm,HN.out];simp)
 have H3:=hJ (show 0+(iM .u32 L).length<=(iM .u32 (List.replicate n 0)).length by rw[gm,gm,HN.out];simp)
 have H2:=hJ (show 0<(iM .u32 L).length->∃ ad,oa=some ad/\∀ j v,(iM .u32 L)[j]?=some v->(w.alloc (.cells (iM .u32 (List.replicate n 0)).toArray 32)).cell? (ad.add j)=some v from by
  intro hp
  rw[gm] at hp
  obtain⟨g,o,e,_⟩:=HA.out 0 _ (gZ hp)
  refine⟨⟨g,o,none⟩,e,fun j v hj=>?_⟩
  unfold iM at hj
  rw[List.getElem?_map] at hj
  obtain⟨x,hx,rfl⟩:=Option.map_eq_some_iff.1 hj
  obtain⟨g2,o2,e2,hc⟩:=HA.out j x hx
  cases e.symm.trans e2
  rw[Addr.add_lit]
  exact hc)
 go_enter Tryz.func48,Tryz.ntmps48
 go_wp2_with (with_reducible refine wpList_copy_splice rfl (.tmp 7) (.tmp 8) 47 47 rfl 32 Tryz.underlying47 N9 _ _ _ _ _ _ rfl rfl w.heap.size 0 (iM .u32 (List.replicate n 0)) 32 (nZ w _) (iM .u32 L) H1.out (fun hp=>⟨rfl,H2.out hp⟩) H3.out HO.out w.heap.size w (Ih (Below.refl _ _)) (Nat.le_refl _) ?_)
 intro w2 hg2 hb2
 have HG:=hJ hg2.out
 have HB:=hJ hb2
 clear hg2 hb2
 go_wp2_with fail
 go_ret
 refine⟨rfl,?_,HB.out⟩
 have e:splice (iM .u32 (List.replicate n 0)) 0 (iM .u32 L)=iM .u32 L:=by
  unfold splice
  rw[List.take_zero,List.nil_append,List.drop_eq_nil_of_le (by rw[gm,gm,HN.out];simp),List.append_nil]
 have hg:=HG.out
 rw[e] at hg
 obtain⟨hL,hn,hU⟩:=HE.out
 refine⟨_,hg,by simp[gm,HN.out,hn],fun i hi=>?_⟩
 obtain⟨x,hx,hx2,_⟩:=kW hU hi
 show _=some (Value.int .u32 (cs.getD i 0))
 rw[hx2]
 have:=pO (k:=.u32) (l:=L) (j:=i) (by rw[hL];exact hx)
 simpa using this
def bK (cs:List Int) (a:Int):Int:=cs.getD a.toNat 0
theorem bU (cs:List Int) (p:Nat) (v a:Int) (ha:0<=a):bK (cs.set p v) a=if a=(p:Int)/\p<cs.length then v else bK cs a:=by
 unfold bK
 rw[List.getD_eq_getElem?_getD,List.getElem?_set]
 by_cases h:p=a.toNat
 ·subst h
  by_cases h2:a.toNat<cs.length
  ·rw[if_pos rfl,if_pos h2,if_pos ⟨oZ,h2⟩]
   rfl
  ·rw[if_pos rfl,if_neg h2,if_neg (fun h=>h2 h.2)]
   simp[List.getD_eq_getElem?_getD,List.getElem?_eq_none (Nat.le_of_not_lt h2)]
 ·rw[if_neg h,if_neg oZ,List.getD_eq_getElem?_getD]
def pX (cs:List Int) (b v:Int):Nat->Nat->List Sn
 | 0,_=>[]
 | m+1,d=>if bK cs (b+4*(d:Int))=0∨v<bK cs (b+4*(d:Int)) then [] else(if bK cs (b+4*(d:Int)+3)=0∨v<bK cs (b+4*(d:Int)+3) then [((d:Int),bK cs (b+4*(d:Int)+1),bK cs (b+4*(d:Int)+2))] else [])++pX cs b v m (d+1)
def PS (cs:List Int) (b:Int) (n:Nat) (v:Int):List Sn:=pX cs b v n 0
def mM (cs:List Int) (b x:Int):Nat->Nat->Int
 | 0,_=>-1
 | m+1,d=>if bK cs (b+4*(d:Int)+1)=x then(d:Int) else mM cs b x m (d+1)
def kD (cs:List Int) (b:Int) (n:Nat) (x:Int):Int:=mM cs b x n 0
def xu (cs:List Int) (b:Int) (d:Nat) (id l v:Int):List Int:=((cs.set (b+4*(d:Int)+1).toNat id).set (b+4*(d:Int)+2).toNat l).set (b+4*(d:Int)).toNat v
theorem wQ (cs:List Int) (b:Int) (d:Nat) (id l v:Int):(xu cs b d id l v).length=cs.length:=by simp[xu]
theorem Ll {cs:List Int} {b:Int} {d:Nat} {id l v:Int} (hb:0<=b) (hl:b+4*(d:Int)+3<cs.length) (a:Int) (ha:0<=a):bK (xu cs b d id l v) a=if a=b+4*(d:Int) then v else if a=b+4*(d:Int)+2 then l else if a=b+4*(d:Int)+1 then id else bK cs a:=by
 unfold xu
 rw[bU _ _ _ _ ha,bU _ _ _ _ ha,bU _ _ _ _ ha]
 simp only[List.length_set]
 repeat' split
 all_goals first | rfl | (exfalso;omega)
/-! ### Programs -/
def zu (b:Int) (d id l v:Int):Pr Unit:=.store (b+4*d+1) id (.store (b+4*d+2) l (.store (b+4*d) v (.ret ())))
def uV (b d v:Int):Pr Unit:=.store (b+4*d+3) v (.ret ())
/-! ### Versions -/
/-! ### Rows in memory -/
abbrev Sg:=Int×Int×Bool
def O4 (x:Sg):List Value:=[.int .i64 x.1,.int .i64 x.2.1,.bool x.2.2]
def lW (l:List Sg):List Value:=l.flatMap O4
theorem mi:∀ l:List Sg,(lW l).length=l.length*3
 | []=>rfl
 | x :: l=>by
  have e:lW (x :: l)=O4 x++lW l:=rfl
  rw[e,List.length_append,mi l,List.length_cons]
  simp[O4]
  omega
theorem xU:∀ (l:List Sg) (j:Nat) (x:Sg),l[j]?=some x->(lW l)[j*3]?=some (.int .i64 x.1)/\(lW l)[j*3+1]?=some (.int .i64 x.2.1)/\(lW l)[j*3+2]?=some (.bool x.2.2)
 | [],j,x,h=>by simp at h
 | y :: l,0,x,h=>by
  simp at h
  subst h
  exact⟨rfl,rfl,rfl⟩
 | y :: l,j+1,x,h=>by
  have:=xU l j x (by simpa using h)
  have e:lW (y :: l)=O4 y++lW l:=rfl
  rw[e,show (j+1)*3=(O4 y).length+j*3 by simp[O4];omega]
  refine⟨?_,?_,?_⟩
  ·rw[List.getElem?_append_right oZ,Nat.add_sub_cancel_left];exact this.1
  ·rw[Nat.add_assoc,List.getElem?_append_right oZ,Nat.add_sub_cancel_left];exact this.2.1
  ·rw[Nat.add_assoc,List.getElem?_append_right oZ,Nat.add_sub_cancel_left];exact this.2.2
def bF (w:World) (base:Nat) (v:Value) (l:List Sg):Prop:=w.ownsRow base 65 3 v l.length (lW l)
def gy (w:World) (oa:Option Addr) (l:List Sg):Prop:=∀ (j:Nat) (x:Sg),l[j]?=some x->∃ g o:Nat,oa=some ⟨g,o,none⟩/\w.cell? ⟨g,o+j*3,none⟩=some (.int .i64 x.1)/\w.cell? ⟨g,o+j*3+1,none⟩=some (.int .i64 x.2.1)/\w.cell? ⟨g,o+j*3+2,none⟩=some (.bool x.2.2)
theorem gy.below {w w':World} {oa:Option Addr} {l:List Sg} (h:gy w oa l) (hb:Below w.heap.size w w'):gy w' oa l:=fun j x hj=>by
 obtain⟨g,o,h0,h1,h2,h3⟩:=h j x hj
 exact⟨g,o,h0,aC h1 hb,aC h2 hb,aC h3 hb⟩
theorem KR {w:World} {base:Nat} {v:Value} {l:List Sg} (h:bF w base v l):∃ oa cap,v=.slice oa l.length cap/\l.length<=cap/\cap<=maxLen/\gy w oa l:=by
 rcases h.2 with ⟨rfl,h0⟩ | ⟨g,cap,cur,rfl,hb,hg,hn,hm,hs,ht⟩
 ·have:l=[]:=List.eq_nil_of_length_eq_zero h0
  subst this
  exact⟨none,0,rfl,sZ,by simp[maxLen],fun j x hj=>by simp at hj⟩
 ·refine⟨_,cap,rfl,hn,hm,fun j x hj=>⟨g,0,rfl,?_⟩⟩
  have h3:=xU l j x hj
  have hc:=World.ownsRow.cells h (g:=g) rfl
  simp only[Addr.add_lit] at hc
  exact⟨hc _ _ h3.1,by simpa [Nat.add_assoc] using hc _ _ h3.2.1,by simpa [Nat.add_assoc] using hc _ _ h3.2.2⟩
structure Sx where
 aH:List Sg
 terms:Int
 dR:Int
 used:Nat->Int
def aQ (vs:Value) (x:Sx):Array Value:=#[vs,.int .i64 x.terms,.int .u32 x.dR,.int .i64 (x.used 0),.int .i64 (x.used 1),.int .i64 (x.used 2),.int .i64 (x.used 3),.int .i64 (x.used 4),.int .i64 (x.used 5)]
def aK (vc vs:Value) (x:Sx):Array Value:=#[vc,vs,.int .i64 x.terms,.int .u32 x.dR,.int .i64 (x.used 0),.int .i64 (x.used 1),.int .i64 (x.used 2),.int .i64 (x.used 3),.int .i64 (x.used 4),.int .i64 (x.used 5)]
theorem aI (vc vs:Value) (x:Sx):(Tryz.prog.info? 49).map (·.size)=some (aK vc vs x).size:=by
 rw[show (aK vc vs x).size=10 from rfl]
 kernel_rfl
theorem xM (x:Sg):(Tryz.prog.info? 65).map (·.size)=some (O4 x).toArray.size:=by
 rw[show (O4 x).toArray.size=3 from rfl]
 kernel_rfl
def dN (s:Sg):Int:=if s.2.2=true then s.1+2 else s.1+1
theorem yT (w:World) (s:Sg) (h0:-1000000000<=s.1) (h1:s.1<=1000000000):Calls Tryz.prog 26 #[.agg #[.int .i64 s.1,.int .i64 s.2.1,.bool s.2.2]] w fun e w'=>e=.returned (.int .i64 (dN s))/\Below w.heap.size w w':=by
 obtain⟨a,d,z⟩:=s
 simp only at h0 h1
 have s1:IntKind.i64.wrap (a+1)=a+1:=iZ _ oZ
 have s2:IntKind.i64.wrap (a+2)=a+2:=iZ _ oZ
 unfold dN
 cases z
 all_goals
  go_enter Tryz.func26,Tryz.ntmps26
  go_wp2_with fail
  go_ret
  exact⟨rfl,au⟩
theorem QB (U:Nat->Int) (d:Nat) (w:World):(Op.equalIn (d+2) 40 (.agg (six U)) (.agg (six U))).run Tryz.prog w=.ok true w:=by
 have u3:=Tryz.underlying3
 have a3:=Tryz.isAgg3
 have z3:=Tryz.sizeOf3
 unfold six
 rw[show d+2=(d+1)+1 from rfl,Op.equalIn]
 simp only[Sem.run_bind,run_underlying Tryz.underlying40,Result.andThen_ok]
 simp only[Std.Legacy.Range.forIn_eq_forIn_range',Std.Legacy.Range.size,Nat.sub_zero,Nat.add_sub_cancel,Nat.div_one,List.range'_succ,List.range'_zero,List.forIn_cons,List.forIn_nil]
 go_simp
/-! ### gu -/
def bW (n h t:Nat):Nat:=(h+t) % n
theorem lw {n:Nat} (hn:0<n) (h t:Nat):bW n h t<n:=Nat.mod_lt _ hn
theorem AP {n h t:Nat} (ht:t<n):bW n h t=if h % n+t<n then h % n+t else h % n+t-n:=by
 have hn:0<n:=oZ
 have h1:=Nat.mod_lt h hn
 unfold bW
 rw[Nat.add_mod,Nat.mod_eq_of_lt ht]
 split
 ·rw[Nat.mod_eq_of_lt aZ]
 ·rw[Nat.mod_eq_sub_mod oZ,Nat.mod_eq_of_lt oZ]
abbrev dm:=Nat->Option (Int×List Nat)
def dm.Le (d d':dm):Prop:=∀ i x,d i=some x->d' i=some x
theorem dm.Le.refl (d:dm):d.Le d:=fun _ _ h=>h
def dm.put (d:dm) (i:Nat) (x:Int×List Nat) (j:Nat):Option (Int×List Nat):=if j=i then some x else d j
structure AA (cs:List Int) (a:Int) (k:List Nat):Prop where
 len:cs.getD (a+1).toNat 0=(k.length:Int)
 cells:∀ j x:Nat,(aF k)[j]?=some x->cs.getD (a+2+(j:Int)).toNat 0=(x:Int)
def Passed (n:Nat) (d:dm) (k:List Nat) (t:Nat):Prop:=∀ u,u<t->∃ b k',d (bW n (dB k) u)=some (b,k')/\k'≠k
structure ig (n:Nat) (s lo hi:Int) (d:dm) (cs:List Int):Prop where
 n0:0<n
 lo0:3<=lo
 lohi:lo<=hi
 his:hi<=s
 len:s+(n:Int)<=cs.length
 slot:∀ i,i<n->cs.getD (s+(i:Int)).toNat 0=match d i with | none=>0 | some x=>x.1
 rec_:∀ i a k,d i=some (a,k)->lo<=a/\a+2+((aF k).length:Int)<=hi/\AA cs a k/\(∀ x∈k,x<256)/\k.length<=100
 probe:∀ i a k,d i=some (a,k)->∃ t,t<n/\i=bW n (dB k) t/\Passed n d k t
def Good (n:Nat) (k:List Nat) (d:dm) (x:Int×Int):Prop :=
 (∃ t,t<n/\x.2=(bW n (dB k) t:Nat)/\Passed n d k t/\((d (bW n (dB k) t)=none/\x.1=0)∨d (bW n (dB k) t)=some (x.1,k)))∨(x.1=0/\x.2=-1/\Passed n d k n)
def Has (d:dm) (k:List Nat) (a:Int):Prop:=∃ i,d i=some (a,k)
section
variable {n:Nat} {s lo hi:Int} {d d':dm} {cs:List Int} {k:List Nat}
theorem ig.pos (h:ig n s lo hi d cs) {a:Int} (ha:Has d k a):3<=a:=by
 obtain⟨i,hi⟩:=ha
 have:=(h.rec_ i a k hi).1
 have:=h.lo0
 omega
theorem Passed.le {t:Nat} (h:Passed n d k t) (hl:d.Le d'):Passed n d' k t:=fun u hu=>by
 obtain⟨b,k',h1,h2⟩:=h u hu
 exact⟨b,k',hl _ _ h1,h2⟩
theorem ig.only (h:ig n s lo hi d cs) {i j:Nat} {a b:Int} (hi:d i=some (a,k)) (hj:d j=some (b,k)):i=j:=by
 obtain⟨t,ht,rfl,hp⟩:=h.probe i a k hi
 obtain⟨u,hu,rfl,hq⟩:=h.probe j b k hj
 rcases Nat.lt_trichotomy t u with e | e | e
 ·obtain⟨c,k',h1,h2⟩:=hq t e
  rw[hi] at h1
  cases h1
  exact absurd rfl h2
 ·rw[e]
 ·obtain⟨c,k',h1,h2⟩:=hp u e
  rw[hj] at h1
  cases h1
  exact absurd rfl h2
theorem ig.has_eq (h:ig n s lo hi d cs) {a b:Int} (ha:Has d k a) (hb:Has d k b):a=b:=by
 obtain⟨i,hi⟩:=ha
 obtain⟨j,hj⟩:=hb
 have:=h.only hi hj
 subst this
 rw[hi] at hj
 cases hj
 rfl
theorem Good.spec (h:ig n s lo hi d cs) {x:Int×Int} (hg:Good n k d x):(Has d k x.1/\x.1≠0)∨(x.1=0/\∀ a,¬ Has d k a):=by
 have none_of:∀ t,t<=n->Passed n d k t->(t<n->d (bW n (dB k) t)=none)->∀ a,¬ Has d k a:=by
  rintro t htn hp hnone a ⟨i,hi⟩
  obtain⟨u,hu,rfl,hq⟩:=h.probe i a k hi
  rcases Nat.lt_trichotomy u t with e | e | e
  ·obtain⟨c,k',h1,h2⟩:=hp u e
   rw[hi] at h1
   cases h1
   exact absurd rfl h2
  ·subst e
   rw[hnone hu] at hi
   cases hi
  ·obtain⟨c,k',h1,h2⟩:=hq t e
   rw[hnone oZ] at h1
   cases h1
 rcases hg with ⟨t,ht,_,hp,⟨h1,h2⟩ | h1⟩ | ⟨h1,_,hp⟩
 ·exact .inr ⟨h2,none_of t oZ hp fun _=>h1⟩
 ·have hh:Has d k x.1:=⟨_,h1⟩
  exact .inl ⟨hh,by have:=h.pos hh;omega⟩
 ·exact .inr ⟨h1,none_of n (Nat.le_refl _) hp fun h=>oZ⟩
end
/-! ### Find -/
def uM {α:Type} (yes no:Pr α):List Nat->Int->Pr α
 | [],_=>yes
 | c :: cs,x=>.load x fun v=>if v=(c:Int) then uM yes no cs (x+1) else no
def fR (s:Int) (n:Nat) (k:List Nat):Nat->Nat->Pr (Int×Int)
 | 0,_=>.ret (0,-1)
 | m+1,t=>.load (s+(bW n (dB k) t:Nat)) fun a=>if a=0 then .ret (0,(bW n (dB k) t:Nat)) else .load (a+1) fun l=>if l=((k.length % 4294967296:Nat):Int) then uM (.ret (a,(bW n (dB k) t:Nat))) (fR s n k m (t+1)) (aF k) (a+2) else fR s n k m (t+1)
def jV (s n:Int) (k:List Nat):Pr (Int×Int):=if n<1 then .ret (0,-1) else fR s n.toNat k n.toNat 0
section
variable {n:Nat} {s lo top:Int} {C:Nat} {k:List Nat} {d0:dm}
end
/-! ### Put -/
def jK {α:Type} (rest:Pr α):List Nat->Int->Pr α
 | [],_=>rest
 | c :: l,x=>.store x (c:Int) (jK rest l (x+1))
abbrev G7:=Int×(Nat->Int)×Int
def iJ (B S U:Nat->Int) (s slot:Int) (k:List Nat):Pr G7 :=
 if 2+((aF k).length:Int)<=S 4-U 4 then .store (B 4+U 4+1) (k.length:Int) (jK (.store (s+slot) (B 4+U 4) (.ret (B 4+U 4,more U 4 (2+((aF k).length:Int)),0))) (aF k) (B 4+U 4+2))
 else .ret (0,fun _=>0,3)
def zD:List Int->Nat->List Nat->List Int
 | cs,_,[]=>cs
 | cs,p,c :: l=>zD (cs.set p (c:Int)) (p+1) l
theorem wG:∀ (l:List Nat) (cs:List Int) (p:Nat),(zD cs p l).length=cs.length
 | [],_,_=>rfl
 | c :: l,cs,p=>by unfold zD;rw[wG l];simp
theorem gJ (cs:List Int) (p q:Nat) (v:Int):(cs.set p v).getD q 0=if p=q/\p<cs.length then v else cs.getD q 0:=by
 rw[List.getD_eq_getElem?_getD,List.getElem?_set]
 by_cases h:p=q
 ·subst h
  by_cases h2:p<cs.length
  ·simp[h2]
  ·simp[h2,List.getD_eq_getElem?_getD]
 ·simp[h,List.getD_eq_getElem?_getD]
theorem yR:∀ (l:List Nat) (cs:List Int) (p q:Nat),q<p∨p+l.length<=q->(zD cs p l).getD q 0=cs.getD q 0
 | [],_,_,_,_=>rfl
 | c :: l,cs,p,q,h=>by
  simp only[List.length_cons] at h
  unfold zD
  rw[yR l _ _ _ oZ,gJ,if_neg oZ]
theorem Ia:∀ (l:List Nat) (cs:List Int) (p j x:Nat),p+l.length<=cs.length->l[j]?=some x->(zD cs p l).getD (p+j) 0=(x:Int)
 | [],_,_,_,_,_,h=>by simp at h
 | c :: l,cs,p,j,x,hl,h=>by
  simp only[List.length_cons] at hl
  unfold zD
  cases j with
  | zero =>
   simp at h
   subst h
   rw[yR l _ _ _ oZ,gJ,if_pos oZ]
  | succ j =>
   simp at h
   rw[show p+(j+1)=(p+1)+j by omega]
   exact Ia l _ _ j x uZ h
theorem xg {α:Type} {rest:Pr α} {x:α} {cs':List Int} {n:Nat}:∀ (l:List Nat) (cs:List Int) (p:Nat),(∀ c∈l,c<4294967296)->p+l.length<=cs.length->Does rest (zD cs p l) n x cs'->Does (jK rest l (p:Int)) cs (n+l.length) x cs'
 | [],_,_,_,_,h=>h
 | c :: l,cs,p,hc,hl,h=>by
  simp only[List.length_cons] at hl
  unfold zD at h
  have:=xg l (cs.set p (c:Int)) (p+1) (fun y hy=>hc y (by simp[hy])) uZ h
  unfold jK
  refine .store oZ oZ ?_
  rw[u32_in (v:=(c:Int)) ⟨oZ,by have:=hc c sZ;omega⟩,Int.toNat_natCast]
  exact this
theorem cells_lt {k:List Nat} (hk:∀ x∈k,x<256):∀ c∈aF k,c<4294967296:=by
 intro c hc
 obtain⟨j,_,rfl⟩:=List.mem_map.1 hc
 exact J9 hk j
theorem AA.of {cs cs':List Int} {a:Int} {k:List Nat} (h:AA cs a k) (ha:0<=a) {top:Int} (ht:a+2+((aF k).length:Int)<=top) (hs:∀ q:Nat,(q:Int)<top->cs'.getD q 0=cs.getD q 0):AA cs' a k :=
 ⟨by rw[hs _ oZ];exact h.len,fun j x hj=>by
  have:=(eZ.1 hj).1
  rw[hs _ oZ];exact h.cells j x hj⟩
theorem ig.put {n:Nat} {s:Int} {B S U:Nat->Int} {d:dm} {cs:List Int} {k:List Nat} (h:ig n s (B 4) (B 4+U 4) d cs) (hk:∀ x∈k,x<256) (hkl:k.length<=100) (hs:B 4+S 4<=s) (hlen:cs.length<=1000000) {t:Nat} (ht:t<n) (hp:Passed n d k t) (hd:d (bW n (dB k) t)=none) (hf:2+((aF k).length:Int)<=S 4-U 4) :
  ∃ cs',Does (iJ B S U s ((bW n (dB k) t:Nat):Int) k) cs ((aF k).length+2) (B 4+U 4,more U 4 (2+((aF k).length:Int)),0) cs'/\cs'.length=cs.length/\ig n s (B 4) (B 4+more U 4 (2+((aF k).length:Int)) 4) (d.put (bW n (dB k) t) (B 4+U 4,k)) cs'/\d.Le (d.put (bW n (dB k) t) (B 4+U 4,k)):=by
 have hn:=h.n0
 have hsl:=lw hn (dB k) t
 have hln:=h.len
 have hlo:=h.lo0
 have hlh:=h.lohi
 obtain⟨i,hi⟩:∃ i,i=bW n (dB k) t:=⟨_,rfl⟩
 obtain⟨a,ha⟩:∃ a,a=B 4+U 4:=⟨_,rfl⟩
 obtain⟨p,hpa⟩:∃ p:Nat,a=(p:Int):=⟨a.toNat,oZ⟩
 obtain⟨m,hm⟩:∃ m,m=(aF k).length:=⟨_,rfl⟩
 obtain⟨z,hz⟩:∃ z:Nat,s=(z:Int):=⟨s.toNat,oZ⟩
 have hmore:B 4+more U 4 (2+(m:Int)) 4=a+2+(m:Int):=by unfold more;rw[if_pos rfl];omega
 rw[<- hi] at hd hsl ⊢
 rw[<- ha] at h ⊢
 rw[<- hm,hmore]
 rw[<- hm] at hf
 have hle:d.Le (d.put i (a,k)):=by
  intro j x hj
  unfold dm.put
  rw[if_neg (by rintro rfl;rw[hd] at hj;cases hj)]
  exact hj
 obtain⟨cs1,h1⟩:∃ cs1,cs1=cs.set (p+1) (k.length:Int):=⟨_,rfl⟩
 obtain⟨cs2,h2⟩:∃ cs2,cs2=zD cs1 (p+2) (aF k):=⟨_,rfl⟩
 obtain⟨cs3,h3⟩:∃ cs3,cs3=cs2.set (z+i) (p:Int):=⟨_,rfl⟩
 have l1:cs1.length=cs.length:=by rw[h1];simp
 have l2:cs2.length=cs.length:=by rw[h2,wG,l1]
 have l3:cs3.length=cs.length:=by rw[h3];simp[l2]
 have g3:∀ q:Nat,cs3.getD q 0=if z+i=q then(p:Int) else cs2.getD q 0:=by
  intro q
  rw[h3,gJ]
  by_cases e:z+i=q
  ·rw[if_pos ⟨e,oZ⟩,if_pos e]
  ·rw[if_neg (fun x=>e x.1),if_neg e]
 have g2:∀ q:Nat,q<p+2∨p+2+m<=q->cs2.getD q 0=cs1.getD q 0:=by
  intro q hq
  rw[h2]
  exact yR _ _ _ _ oZ
 have g1:∀ q:Nat,q≠p+1->cs1.getD q 0=cs.getD q 0:=by
  intro q hq
  rw[h1,gJ,if_neg oZ]
 have old:∀ q:Nat,(q:Int)<a->cs3.getD q 0=cs.getD q 0:=fun q hq=>by rw[g3,if_neg oZ,g2 _ oZ,g1 _ oZ]
 refine⟨cs3,?_,l3,⟨hn,hlo,oZ,oZ,by rw[l3];exact hln,?_,?_,?_⟩,hle⟩
 ·unfold iJ
  rw[<- hm,if_pos oZ,<- ha]
  refine .store oZ oZ ?_
  rw[u32_in (v:=(k.length:Int)) ⟨oZ,oZ⟩,show (a+1).toNat=p+1 by omega,<- h1,show a+2=((p+2:Nat):Int) by omega]
  have:=xg (rest:=.store (s+(i:Int)) a (.ret (a,more U 4 (2+(m:Int)),(0:Int)))) (n:=1) (x:=(a,more U 4 (2+(m:Int)),(0:Int))) (cs':=cs3) (aF k) cs1 (p+2) (cells_lt hk) oZ (by
   rw[<- h2]
   refine .store oZ oZ ?_
   rw[u32_in (v:=a) ⟨oZ,oZ⟩,show (s+(i:Int)).toNat=z+i by omega,hpa,<- h3]
   exact .ret _ _)
  rw[show 1+(aF k).length=m+1 by omega] at this
  exact this
 ·intro j hj
  by_cases e:j=i
  ·subst e
   unfold dm.put
   rw[if_pos rfl,show (s+(j:Int)).toNat=z+j by omega,g3,if_pos rfl]
   simp only
   omega
  ·unfold dm.put
   rw[if_neg e,show (s+(j:Int)).toNat=z+j by omega,g3,if_neg oZ,g2 _ oZ,g1 _ oZ]
   have:=h.slot j hj
   rw[show (s+(j:Int)).toNat=z+j by omega] at this
   exact this
 ·intro j b q hj
  unfold dm.put at hj
  by_cases e:j=i
  ·rw[if_pos e] at hj
   cases hj
   refine⟨oZ,oZ,⟨?_,fun c x hc=>?_⟩,hk,hkl⟩
   ·rw[show (a+1).toNat=p+1 by omega,g3,if_neg oZ,g2 _ oZ,h1,gJ,if_pos oZ]
   ·have:=(eZ.1 hc).1
    rw[show (a+2+(c:Int)).toNat=(p+2)+c by omega,g3,if_neg oZ,h2]
    exact Ia _ _ _ _ _ oZ hc
  ·rw[if_neg e] at hj
   obtain⟨r1,r2,r3,r4,r5⟩:=h.rec_ j b q hj
   exact⟨r1,oZ,r3.of oZ r2 old,r4,r5⟩
 ·intro j b q hj
  unfold dm.put at hj
  by_cases e:j=i
  ·rw[if_pos e] at hj
   cases hj
   exact⟨t,ht,by rw[e,hi],hp.le hle⟩
  ·rw[if_neg e] at hj
   obtain⟨u,hu,e2,hq⟩:=h.probe j b q hj
   exact⟨u,hu,e2,hq.le hle⟩
/-! ### Read -/

/-! ### Classes -/
instance (B S:Nat->Int) (a:Int) (k:Nat):Decidable (xm B S a k):=by unfold xm;infer_instance
def lX (B S:Nat->Int) (a:Int):Nat:=if xm B S a 0 then 0 else if xm B S a 1 then 1 else if xm B S a 2 then 2 else if xm B S a 3 then 3 else 4
def o5 (B S:Nat->Int) (a:Int):Int:=if lX B S a<4 then(lX B S a:Int) else -1
def iE (B S:Nat->Int) (a:Int):Int:=if lX B S a<4 then(a-B (lX B S a)) % aS (lX B S a) else 0
theorem zN {B S:Nat->Int} {a:Int} {k:Nat} (hk:k<4) (h:xm B S a k) (hn:∀ j,j<k->¬ xm B S a j):lX B S a=k:=by
 unfold lX
 rcases (show k=0∨k=1∨k=2∨k=3 by omega) with rfl | rfl | rfl | rfl
 ·rw[if_pos h]
 ·rw[if_neg (hn 0 oZ),if_pos h]
 ·rw[if_neg (hn 0 oZ),if_neg (hn 1 oZ),if_pos h]
 ·rw[if_neg (hn 0 oZ),if_neg (hn 1 oZ),if_neg (hn 2 oZ),if_pos h]
theorem NI {B S:Nat->Int} {a:Int} (h:∀ j,j<4->¬ xm B S a j):lX B S a=4:=by
 unfold lX
 rw[if_neg (h 0 oZ),if_neg (h 1 oZ),if_neg (h 2 oZ),if_neg (h 3 oZ)]
theorem Gf {B S:Nat->Int} {a:Int} (h:lX B S a<4):xm B S a (lX B S a):=by
 unfold lX at h ⊢
 split
 ·assumption
 split
 ·assumption
 split
 ·assumption
 split
 ·assumption
 ·simp_all
theorem qE {B S:Nat->Int} {a:Int} {w w':World} {e:Ending} (h:BJ B S a w e w'):e=.returned (.tuple #[.int .i64 (o5 B S a),.int .i64 (iE B S a)])/\Below w.heap.size w w':=by
 obtain⟨hb,⟨k,hk,hin,hn,rfl⟩ | ⟨hn,rfl⟩⟩:=h
 ·have e:=zN hk hin hn
  refine⟨?_,hb⟩
  unfold o5 iE
  rw[e,if_pos hk,if_pos hk]
 ·have e:=NI hn
  refine⟨?_,hb⟩
  unfold o5 iE
  rw[e,if_neg oZ,if_neg oZ]
structure Laid (B S:Nat->Int) (C:Int):Prop where
 b0:B 0=3
 next:∀ k,k<6->B (k+1)=B k+S k
 c:B 6=C
 c1:C<=65536
 s0:∀ k,k<6->0<=S k
 m:∃ m:Nat->Int,∀ k,k<4->0<=m k/\S k=m k*aS k
section
variable {B S:Nat->Int} {C:Int}
theorem Laid.bases (h:Laid B S C):3=B 0/\B 1=B 0+S 0/\B 2=B 1+S 1/\B 3=B 2+S 2/\B 4=B 3+S 3/\B 5=B 4+S 4/\C=B 5+S 5/\0<=S 0/\0<=S 1/\0<=S 2/\0<=S 3/\0<=S 4/\0<=S 5/\C<=65536 :=
 ⟨h.b0.symm,h.next 0 oZ,h.next 1 oZ,h.next 2 oZ,h.next 3 oZ,h.next 4 oZ,by rw[<- h.c];exact h.next 5 oZ,h.s0 0 oZ,h.s0 1 oZ,h.s0 2 oZ,h.s0 3 oZ,h.s0 4 oZ,h.s0 5 oZ,h.c1⟩
theorem Laid.pool (h:Laid B S C) {k:Nat} (hk:k<6):3<=B k/\0<=S k/\B k+S k<=C/\C<=65536:=by
 have:=h.bases
 rcases ni hk with rfl | rfl | rfl | rfl | rfl | rfl <;> omega
theorem Laid.fit (h:Laid B S C):Fit B S :=
 ⟨fun k hk=>by have:=h.pool hk;omega,fun k hk=>by have:=h.pool hk;omega,h.s0,fun k hk=>by have:=h.pool hk;omega,h.m⟩
theorem Laid.apart (h:Laid B S C) {j k:Nat} (hj:j<4) (hk:k<4) (hjk:j<k):B j+S j<=B k:=by
 have:=h.bases
 rcases (show k=0∨k=1∨k=2∨k=3 by omega) with rfl | rfl | rfl | rfl <;> rcases (show j=0∨j=1∨j=2∨j=3 by omega) with rfl | rfl | rfl | rfl <;> omega
theorem Laid.Qq (h:Laid B S C) {a:Int} {k:Nat} (hk:k<4) (hin:xm B S a k):lX B S a=k :=
 zN hk hin fun j hj hin'=>by
  have:=h.apart (show j<4 by omega) hk hj
  unfold xm at hin hin'
  omega
theorem Laid.at_ (h:Laid B S C) {a:Int} (ha:0<iE B S a):lX B S a<4/\3<=a/\a<C/\iE B S a<aS (lX B S a):=by
 have hk:lX B S a<4:=by
  unfold iE at ha
  split at ha
  ·assumption
  ·omega
 have hin:=Gf hk
 have hp:=h.pool (show lX B S a<6 by omega)
 have hs:=dM (lX B S a)
 refine⟨hk,by unfold xm at hin;omega,by unfold xm at hin;omega,?_⟩
 unfold iE
 rw[if_pos hk]
 exact Int.emod_lt_of_pos _ oZ
def H8 (B S:Nat->Int) (k:Nat) (z:Int):Prop:=k<4/\(∃ q:Nat,z=B k+q*aS k)/\z+aS k<=B k+S k
theorem Laid.Iu (h:Laid B S C) {k:Nat} {z r:Int} (hz:H8 B S k z) (h0:0<=r) (h1:r<aS k):lX B S (z+r)=k/\iE B S (z+r)=r:=by
 obtain⟨hk,⟨q,hq⟩,hle⟩:=hz
 have hs:=dM k
 have hq0:0<=(q:Int)*aS k:=Int.mul_nonneg oZ oZ
 have e:lX B S (z+r)=k:=h.Qq hk ⟨oZ,oZ⟩
 refine⟨e,?_⟩
 unfold iE
 rw[e,if_pos hk,show z+r-B k=(q:Int)*aS k+r by omega]
 exact Eu q k r h0 h1
theorem Laid.IW (h:Laid B S C) {a:Int} (hk:lX B S a<4):H8 B S (lX B S a) (a-iE B S a)/\0<=iE B S a/\iE B S a<aS (lX B S a):=by
 have hin:=Gf hk
 obtain⟨m,hm⟩:=h.m
 obtain⟨hm0,hmS⟩:=hm _ hk
 generalize hkk:lX B S a=k at *
 have hs:=dM k
 have hat:iE B S a=(a-B k) % aS k:=by unfold iE;rw[hkk,if_pos hk]
 unfold xm at hin
 have h1:=Int.emod_nonneg (a-B k) (show aS k≠0 by omega)
 have h2:=Int.emod_lt_of_pos (a-B k) (show 0<aS k by omega)
 have h3:=Int.emod_add_mul_ediv (a-B k) (aS k)
 have h4:0<=(a-B k) / aS k:=Int.ediv_nonneg oZ oZ
 obtain⟨q,hq⟩:=Int.eq_ofNat_of_zero_le h4
 rw[hq] at h3
 rw[hat]
 have h5:(q:Int)*aS k=aS k*(q:Int):=Int.mul_comm _ _
 refine⟨⟨hk,⟨q,oZ⟩,?_⟩,h1,h2⟩
 have:=Am q k (m k) (S k) hmS oZ
 omega
/-! ### Chains -/
/-! ### A word is added -/
def dh (B S:Nat->Int) (t:Int):Option Nat:=if t=0 then some 0 else if iE B S t<aS (lX B S t)-1 then none else some (if lX B S t<3 then lX B S t+1 else 3)
def bP (B S:Nat->Int) (t:Int):Prop:=t=0∨0<iE B S t
instance (B S:Nat->Int) (t:Int):Decidable (bP B S t):=by unfold bP;infer_instance
abbrev vN:=Int×(Nat->Int)×Int
def fQ (B S U:Nat->Int) (t v:Int):Pr vN :=
 if bP B S t then
  match dh B S t with
  | none=>.store (t+1) v (.ret (t+1,U,0))
  | some k =>
   if aS k<=S k-U k then
    if t=0 then .store (B k+U k+1) v (.ret (B k+U k+1,more U k (aS k),0))
    else .store (B k+U k) t (.store (B k+U k+1) v (.ret (B k+U k+1,more U k (aS k),0)))
   else .ret (0,fun _=>0,3)
 else .ret (0,fun _=>0,1)
def Qu (tails:Nat->Int) (i:Nat) (t:Int) (j:Nat):Int:=if j=i then t else tails j
/-! ### What a Put comes to -/
def dC (B S:Nat->Int) (t:Int):Int:=if t=0 then 0 else aS (lX B S t)-1-iE B S t
def bT (B S:Nat->Int) (t:Int):Nat:=if t=0 then 0 else if lX B S t<3 then lX B S t+1 else 3
def up (k:Nat):Nat:=if k<3 then k+1 else 3
end
def vM (d t:Int) (s:Nat->Int) (bk rm:Int) (w:World) (e:Ending) (w':World):Prop :=
 Below w.heap.size w w'/\((fU d t s bk rm/\e=.returned (.tuple #[.agg (six (aB s bk rm)),.bool true]))∨(¬ fU d t s bk rm/\∃ U,e=.returned (.tuple #[.agg (six U),.bool false])))
def mQ (S:Nat->Int) (i k:Nat):Int:=if k<i then S k else 0
theorem FW (S:Nat->Int) (k j:Nat):mQ S (k+1) j=if j=k then S k else mQ S k j:=by
 unfold mQ
 by_cases e:j=k
 ·subst e;simp
 ·by_cases a:j<k
  ·simp[e,a,show j<k+1 by omega]
  ·simp[e,a,show ¬ j<k+1 by omega]
def xY (w:World) (d t:Int) (s:Nat->Int) (bk rm:Int) (kf bf:Nat) (i:Nat) (wr:World):Prop :=
 wr.heap[w.heap.size]?=some (.cells (ak d t s bk rm kf bf) 25 (0,0))/\wr.heap[w.heap.size+1]?=some (.cells (six fun _=>0) 40 (0,0)) /\
 wr.heap[w.heap.size+1+1]?=some (.cells (six (mQ (aB s bk rm) i)) 40 (0,0))/\Below w.heap.size w wr/\(∀ j,j<i->j<4->0<=s j/\s j<=512) /\
 3<=az (aB s bk rm) i/\az (aB s bk rm) i<=3+131072*i
theorem xY.put {w:World} {d t:Int} {s:Nat->Int} {bk rm:Int} {kf bf i:Nat} {wr w':World} (h:xY w d t s bk rm kf bf i wr) (hi:i<6) (h4:i<4->0<=s i/\s i<=512) (h0:0<=aB s bk rm i) (h1:aB s bk rm i<=131072)
  (hw:w'=wr.setCell ⟨w.heap.size+1+1,i,none⟩ (.int .i64 (aB s bk rm i))∨w'=(wr.setCell ⟨w.heap.size+1+1,i,none⟩ (.int .i64 (aB s bk rm i))).drew):xY w d t s bk rm kf bf (i+1) w':=by
 obtain⟨a,b,c,e,f,g0,g1⟩:=h
 have key:xY w d t s bk rm kf bf (i+1) (wr.setCell ⟨w.heap.size+1+1,i,none⟩ (.int .i64 (aB s bk rm i))):=by
  refine⟨?_,?_,?_,e.setCell uZ _,fun j hj hj4=>?_,?_,?_⟩
  ·rw[Below.heap_setCell _ _ _ _ uZ];exact a
  ·rw[Below.heap_setCell _ _ _ _ sZ];exact b
  ·rw[heap_setCell_same _ _ _ _ _ _ c,jm _ (mQ (aB s bk rm) (i+1)) i _ hi (fun j _=>FW _ i j)]
  ·by_cases e:j=i
   ·subst e;exact h4 hj4
   ·exact f j oZ hj4
  ·simp only[az];omega
  ·simp only[az];omega
 rcases hw with rfl | rfl
 ·exact key
 ·obtain⟨a,b,c,e,f,g⟩:=key
  exact⟨a,b,c,e.drew,f,g⟩
theorem jc (w:World) (k:Nat) (hk:k<4):Calls Tryz.prog 100 #[.int .i64 k] w fun e w'=>e=.returned (.int .i64 (aS k))/\w'=w:=(mO w k hk).mono fun _ _ ⟨h,h'⟩=>⟨h,h'.symm⟩
theorem BF (w:World) (d t:Int) (s:Nat->Int) (bk rm:Int) (kf bf:Nat) (g0:1<=d) (g1:d<=64) (g2:64<=t) (g3:t<=256) (g4:0<=bk) (g5:bk<=65536) (g6:0<=rm) (g7:rm<=65536) :
  Calls Tryz.prog 62 #[.agg (ak d t s bk rm kf bf)] w fun e w'=>vM d t s bk rm w e w':=by
 unfold ak
 go_enter Tryz.func62,Tryz.ntmps62
 go_wp2_with fail
 go_loopw [5,6] (fun al i wr=>∃ k:Nat,k<=6/\i=.int .i64 k/\al=.int .i64 (az (aB s bk rm) k)/\xY w d t s bk rm kf bf k wr) (fun _ i _=>6-(intOf i).toNat)
 case atStart=>exact⟨0,oZ,rfl,rfl,dV _ _ _ _,dX _ _ _ _,eH _ _ _ _,bu,(fun j hj=>oZ),by simp[az],by simp[az]⟩
 case round =>
  obtain⟨k,hk,rfl,rfl,hrel⟩:=hrel
  by_cases hlt:k<4
  ·have hlt4:(k:Int)<4:=oZ
   have hlt6:(k:Int)<6:=oZ
   have c1:=ae hrel.1 (2+k)
   rw[Au _ _ _ _ _ _ _ k hlt] at c1
   have c3:=ae hrel.2.2.1 k
   rw[dW _ k oZ] at c3
   have f3:=free_at hrel.2.2.1 k
   have hk4:((k:Int)==4)=false:=by simp;omega
   have hk5:((k:Int)==5)=false:=by simp;omega
   have hA0:=hrel.2.2.2.2.2.1
   have hA1:=hrel.2.2.2.2.2.2
   have H:=hJ hrel
   clear hrel
   by_cases h0:0<=s k
   ·by_cases h1:s k<=512
    ·have hm0:0<=s k*aS k:=Int.mul_nonneg h0 (by have:=dM k;omega)
     have hm1:s k*aS k<=131072:=by
      calc s k*aS k<=512*aS k:=Int.mul_le_mul_of_nonneg_right h1 (by have:=dM k;omega)
       _<=131072:=by have:=fC k;omega
     have hwr:IntKind.i64.wrap (s k*aS k)=s k*aS k:=iZ _ oZ
     go_upto_region 11 with fail
     refine wp_region_still_tail 9 kZ kZ ?_
     simp only[List.take_succ_cons,List.take_zero,List.drop_succ_cons,List.drop_zero]
     repeat still_step
     still_call (jc _ k hlt)
     repeat still_step
     refine wpStill_nil ?_
     change wpList _ _ _ _ _ (World.drew _)
     clear hwr
     go_wp2_with fail
     go_roundw
     case rel =>
      have e1:aB s bk rm k=s k*aS k:=by unfold aB;rw[if_pos hlt]
      refine⟨k+1,oZ,by go_num,?_,?_⟩
      ·simp only[az,e1]
      ·have:=H.out.put (w':=(wr.setCell ⟨w.heap.size+1+1,k,none⟩ (.int .i64 (aB s bk rm k))).drew) oZ (fun _=>⟨h0,h1⟩) (by rw[e1];exact hm0) (by rw[e1];exact hm1) (.inr rfl)
       rw[e1] at this
       exact this
     case measure=>simp[intOf];omega
    ·have hn:¬ fU d t s bk rm:=fun h=>h1 (h.1.s1 k hlt)
     have HN:=hJ hn
     clear hn
     have H1:=hJ H.out.2.1
     have H2:=hJ H.out.2.2.1
     go_wp2_with (first
      | (refine yZ rfl 40 (.tmp 4) rfl (w.heap.size+1+1) rfl 40 (six (mQ (aB s bk rm) k)) (0,0) _ H2.out Tryz.underlying40 rfl (ag _) ?_)
      | (refine zZ rfl 40 (.tmp 2) (.tmp 65) rfl (w.heap.size+1) (six (mQ (aB s bk rm) k)) rfl rfl 40 (six fun _=>0) H1.out (ag _) (bg _ _) (aX _) ?_))
     refine tZ (v:=.tuple #[.agg (six (mQ (aB s bk rm) k)),.bool false]) (results_cell_tmp rfl _ _ (w.heap.size+1) _ _ (0,0) _ _ rfl rfl (setRow_heap _ _ _ _ _ _ H1.out) Tryz.underlying40 rfl (ag _)) rfl ⟨below_setRow H.out.2.2.2.1 oZ _,.inr ⟨HN.out,_,rfl⟩⟩
   ·have hn:¬ fU d t s bk rm:=fun h=>h0 (h.1.s0 k hlt)
    have HN:=hJ hn
    clear hn
    have H1:=hJ H.out.2.1
    have H2:=hJ H.out.2.2.1
    go_wp2_with (first
     | (refine yZ rfl 40 (.tmp 4) rfl (w.heap.size+1+1) rfl 40 (six (mQ (aB s bk rm) k)) (0,0) _ H2.out Tryz.underlying40 rfl (ag _) ?_)
     | (refine zZ rfl 40 (.tmp 2) (.tmp 65) rfl (w.heap.size+1) (six (mQ (aB s bk rm) k)) rfl rfl 40 (six fun _=>0) H1.out (ag _) (bg _ _) (aX _) ?_))
    refine tZ (v:=.tuple #[.agg (six (mQ (aB s bk rm) k)),.bool false]) (results_cell_tmp rfl _ _ (w.heap.size+1) _ _ (0,0) _ _ rfl rfl (setRow_heap _ _ _ _ _ _ H1.out) Tryz.underlying40 rfl (ag _)) rfl ⟨below_setRow H.out.2.2.2.1 oZ _,.inr ⟨HN.out,_,rfl⟩⟩
  ·have h45:k=4∨k=5∨k=6:=oZ
   rcases h45 with rfl | rfl | rfl
   ·have c1:wr.cell? ⟨w.heap.size,6,none⟩=some (.int .i64 bk):=ae hrel.1 6
    have c3:wr.cell? ⟨w.heap.size+1+1,4,none⟩=some (.int .i64 (mQ (aB s bk rm) 4 4)):=ae hrel.2.2.1 4
    have f3:=free_at hrel.2.2.1 4
    have hA0:=hrel.2.2.2.2.2.1
    have hA1:=hrel.2.2.2.2.2.2
    have H:=hJ hrel
    clear hrel
    go_wp2_with fail
    go_roundw
    case rel=>exact⟨5,oZ,rfl,rfl,H.out.put oZ (fun h=>oZ) g4 (by simp[aB];omega) (.inl rfl)⟩
    case measure=>simp[intOf]
   ·have c1:wr.cell? ⟨w.heap.size,7,none⟩=some (.int .i64 rm):=ae hrel.1 7
    have c3:wr.cell? ⟨w.heap.size+1+1,5,none⟩=some (.int .i64 (mQ (aB s bk rm) 5 5)):=ae hrel.2.2.1 5
    have f3:=free_at hrel.2.2.1 5
    have hA0:=hrel.2.2.2.2.2.1
    have hA1:=hrel.2.2.2.2.2.2
    have H:=hJ hrel
    clear hrel
    go_wp2_with fail
    go_roundw
    case rel=>exact⟨6,oZ,rfl,rfl,H.out.put oZ (fun h=>oZ) g6 (by simp[aB];omega) (.inl rfl)⟩
    case measure=>simp[intOf]
   ·have hlim:La d t s bk rm:=⟨g0,g1,g2,g3,fun k hk=>(hrel.2.2.2.2.1 k oZ hk).1,fun k hk=>(hrel.2.2.2.2.1 k oZ hk).2,g4,g5,g6,g7⟩
    have eo:six (mQ (aB s bk rm) 6)=six (aB s bk rm):=rfl
    have H1:=hJ hrel.2.1
    have H2:=hJ (eo ▸ hrel.2.2.1)
    have HB:=hJ hrel.2.2.2.1
    clear hrel eo
    by_cases hc:az (aB s bk rm) 6<=65536
    ·have HC:=hJ (show fU d t s bk rm from⟨hlim,hc⟩)
     clear hlim
     go_wp2_with (first
      | (refine yZ rfl 40 (.tmp 4) rfl (w.heap.size+1+1) rfl 40 (six (aB s bk rm)) (0,0) _ H2.out Tryz.underlying40 rfl (ag _) ?_)
      | (refine zZ rfl 40 (.tmp 2) (.tmp 92) rfl (w.heap.size+1) (six (aB s bk rm)) rfl rfl 40 (six fun _=>0) H1.out (ag _) (bg _ _) (aX _) ?_))
     refine tZ (v:=.tuple #[.agg (six (aB s bk rm)),.bool true]) (results_cell_tmp rfl _ _ (w.heap.size+1) _ _ (0,0) _ _ rfl rfl (setRow_heap _ _ _ _ _ _ H1.out) Tryz.underlying40 rfl (ag _)) rfl ⟨below_setRow HB.out oZ _,.inl ⟨HC.out,rfl⟩⟩
    ·have HC:=hJ (show ¬ fU d t s bk rm from fun h=>hc h.2)
     have hc':decide (az (aB s bk rm) 6<=65536)=false:=decide_eq_false hc
     clear hlim hc
     go_wp2_with (first
      | (refine yZ rfl 40 (.tmp 4) rfl (w.heap.size+1+1) rfl 40 (six (aB s bk rm)) (0,0) _ H2.out Tryz.underlying40 rfl (ag _) ?_)
      | (refine zZ rfl 40 (.tmp 2) (.tmp 92) rfl (w.heap.size+1) (six (aB s bk rm)) rfl rfl 40 (six fun _=>0) H1.out (ag _) (bg _ _) (aX _) ?_))
     refine tZ (v:=.tuple #[.agg (six (aB s bk rm)),.bool false]) (results_cell_tmp rfl _ _ (w.heap.size+1) _ _ (0,0) _ _ rfl rfl (setRow_heap _ _ _ _ _ _ H1.out) Tryz.underlying40 rfl (ag _)) rfl ⟨below_setRow HB.out oZ _,.inr ⟨HC.out,_,rfl⟩⟩
theorem rF (w:World) (d t:Int) (s:Nat->Int) (bk rm:Int) (kf bf:Nat) :
  Calls Tryz.prog 62 #[.agg (ak d t s bk rm kf bf)] w fun e w'=>vM d t s bk rm w e w':=by
 have no:∀ {e:Ending} {w':World},¬ La d t s bk rm->e=.returned (.tuple #[.agg (six fun _=>0),.bool false])/\Below w.heap.size w w'->vM d t s bk rm w e w':=fun hn h=>⟨h.2,.inr ⟨fun h'=>hn h'.1,_,h.1⟩⟩
 by_cases g0:1<=d
 rotate_left;· exact(Cc w d t s bk rm kf bf oZ).mono fun _ _ h=>no (fun h'=>g0 h'.d0) h
 by_cases g1:d<=64
 rotate_left;· exact(BD w d t s bk rm kf bf g0 oZ).mono fun _ _ h=>no (fun h'=>g1 h'.d1) h
 by_cases g2:64<=t
 rotate_left;· exact(Ce w d t s bk rm kf bf g0 g1 oZ).mono fun _ _ h=>no (fun h'=>g2 h'.t0) h
 by_cases g3:t<=256
 rotate_left;· exact(Cm w d t s bk rm kf bf g0 g1 g2 oZ).mono fun _ _ h=>no (fun h'=>g3 h'.t1) h
 by_cases g4:0<=bk
 rotate_left;· exact(BP w d t s bk rm kf bf g0 g1 g2 g3 oZ).mono fun _ _ h=>no (fun h'=>g4 h'.b0) h
 by_cases g5:bk<=65536
 rotate_left;· exact(Cf w d t s bk rm kf bf g0 g1 g2 g3 g4 oZ).mono fun _ _ h=>no (fun h'=>g5 h'.b1) h
 by_cases g6:0<=rm
 rotate_left;· exact(Dk w d t s bk rm kf bf g0 g1 g2 g3 g4 g5 oZ).mono fun _ _ h=>no (fun h'=>g6 h'.r0) h
 by_cases g7:rm<=65536
 rotate_left;· exact(Dh w d t s bk rm kf bf g0 g1 g2 g3 g4 g5 g6 oZ).mono fun _ _ h=>no (fun h'=>g7 h'.r1) h
 exact BF w d t s bk rm kf bf g0 g1 g2 g3 g4 g5 g6 g7
def QF (U M S:Nat->Int) (j:Nat):Bool:=decide (0<=U j)&&(decide (U j<=S j)&&(decide (0<=M j)&&decide (M j<=S j-U j)))
theorem qH {U M S:Nat->Int} {j:Nat}:QF U M S j=true↔0<=U j/\U j<=S j/\0<=M j/\M j<=S j-U j:=by simp[QF]
def je (U M S:Nat->Int):Bool:=(List.range 6).all (QF U M S)
theorem qo {U M S:Nat->Int} (h:∀ j,j<6->QF U M S j=true):je U M S=true:=List.all_eq_true.2 fun j hj=>h j (List.mem_range.1 hj)
theorem Fj {U M S:Nat->Int} {j:Nat} (hj:j<6) (h:¬ (0<=U j/\U j<=S j/\0<=M j/\M j<=S j-U j)):je U M S=false:=by
 cases hf:je U M S with
 | false=>rfl
 | true=>exact absurd (qH.1 (List.all_eq_true.1 hf j (List.mem_range.2 hj))) h
def gK (w:World) (B S:Nat->Int) (C T L:Int) (U M:Nat->Int) (wr:World):Prop :=
 wr.heap[w.heap.size]?=some (.cells (af B S C T L) 42 (0,0))/\wr.heap[w.heap.size+1]?=some (.cells (six U) 40 (0,0)) /\
 wr.heap[w.heap.size+1+1]?=some (.cells (six M) 40 (0,0))/\Below w.heap.size w wr
theorem gK.below {w:World} {B S:Nat->Int} {C T L:Int} {U M:Nat->Int} {wr w':World} (h:gK w B S C T L U M wr) (hb:Below wr.heap.size wr w'):gK w B S C T L U M w' :=
 ⟨(hb.block _ (lt_of_heap h.1)).trans h.1,(hb.block _ (lt_of_heap h.2.1)).trans h.2.1,(hb.block _ (lt_of_heap h.2.2.1)).trans h.2.2.1,h.2.2.2.trans (hb.mono h.2.2.2.size)⟩
theorem gK.drawn {w:World} {B S:Nat->Int} {C T L:Int} {U M:Nat->Int} {wr:World} (h:gK w B S C T L U M wr) (n:Nat):gK w B S C T L U M (wr.drewN n):=⟨h.1,h.2.1,h.2.2.1,fG h.2.2.2 n⟩
theorem gK.drew {w:World} {B S:Nat->Int} {C T L:Int} {U M:Nat->Int} {wr:World} (h:gK w B S C T L U M wr):gK w B S C T L U M wr.drew:=⟨h.1,h.2.1,h.2.2.1,h.2.2.2.drew⟩
theorem uk (w:World) (B S:Nat->Int) (C T L:Int) (U M:Nat->Int) (hs:∀ j,j<6->S j<=1000000) :
  Calls Tryz.prog 97 #[.agg (af B S C T L),.agg (six U),.agg (six M)] w fun e w'=>e=.returned (.bool (je U M S))/\Below w.heap.size w w':=by
 obtain⟨R,hR⟩:∃ R,R=je U M S:=⟨_,rfl⟩
 rw[<- hR]
 have HR:=hJ hR
 clear hR
 go_enter Tryz.func97,Tryz.ntmps97
 go_wp2_with fail
 go_loopw [7] (fun i wr=>∃ k:Nat,k<=6/\i=.int .i64 k/\Hid (∀ j,j<k->QF U M S j=true)/\gK w B S C T L U M wr) (fun i _=>6-(intOf i).toNat)
 case atStart=>exact⟨0,oZ,rfl,hJ (fun j hj=>oZ),dV _ _ _ _,dX _ _ _ _,eH _ _ _ _,bu⟩
 case round =>
  obtain⟨k,hk,rfl,HO,hT⟩:=hrel
  by_cases hlt:k<6
  ·have hlt6:(k:Int)<6:=oZ
   have c0:wr.cell? ⟨w.heap.size,6+k,none⟩=some (.int .i64 (S k)):=(ae hT.1 (6+k)).trans (lL _ _ _ _ _ k hlt)
   have c1:wr.cell? ⟨w.heap.size+1,k,none⟩=some (.int .i64 (U k)):=(ae hT.2.1 k).trans (dW _ k hlt)
   have c2:wr.cell? ⟨w.heap.size+1+1,k,none⟩=some (.int .i64 (M k)):=(ae hT.2.2.1 k).trans (dW _ k hlt)
   have hsk:=hs k hlt
   have HT:=hJ hT
   have HS:=hJ hs
   clear hT hs
   have fin:∀ m,¬ (0<=U k/\U k<=S k/\0<=M k/\M k<=S k-U k)->Hid (Ending.returned (.bool false)=Ending.returned (.bool R)/\Below w.heap.size w (wr.drewN m)):=fun m h=>hJ ⟨by rw[HR.out,Fj hlt h],fG HT.out.2.2.2 m⟩
   have FIN:=hJ fin
   clear fin
   by_cases d0:U k<0
   ·have e0:decide (U k<0)=true:=decide_eq_true d0
    go_wp2_with fail
    go_quiet (fail)
    go_wp2_with fail
    go_ret
    exact(FIN.out _ oZ).out
   ·have e0:decide (U k<0)=false:=decide_eq_false d0
    by_cases d1:M k<0
    ·have e1:decide (M k<0)=true:=decide_eq_true d1
     go_wp2_with fail
     go_quiet (fail)
     go_wp2_with fail
     go_ret
     exact(FIN.out _ oZ).out
    ·have e1:decide (M k<0)=false:=decide_eq_false d1
     by_cases d2:S k<U k
     ·have e2:decide (S k<U k)=true:=decide_eq_true d2
      go_wp2_with fail
      go_quiet (fail)
      go_wp2_with fail
      go_ret
      exact(FIN.out _ oZ).out
     ·have e2:decide (S k<U k)=false:=decide_eq_false d2
      have u0:0<=U k:=oZ
      have u1:U k<=S k:=oZ
      by_cases d3:S k-U k<M k
      ·have e3:decide (S k-U k<M k)=true:=decide_eq_true d3
       go_wp2_with fail
       go_quiet (fail)
       go_wp2_with fail
       go_ret
       exact(FIN.out _ oZ).out
      ·have e3:decide (S k-U k<M k)=false:=decide_eq_false d3
       have HJ:=hJ (qH.2 (show 0<=U k/\U k<=S k/\0<=M k/\M k<=S k-U k from⟨u0,u1,oZ,oZ⟩))
       go_wp2_with fail
       go_quiet (fail)
       go_wp2_with fail
       go_roundw
       case rel =>
        refine⟨k+1,oZ,by go_num,hJ (fun j hj=>?_),HT.out.drawn _⟩
        by_cases e:j=k
        ·subst e;exact HJ.out
        ·exact HO.out j oZ
       case measure=>simp[intOf];omega
  ·obtain rfl:k=6:=oZ
   have HE:=hJ (show R=true by rw[HR.out];exact qo HO.out)
   have HB:=hJ hT.2.2.2
   clear hT hs
   go_wp2_with fail
   go_ret
   exact⟨by rw[HE.out];exact rfl,HB.out⟩
theorem Ef (l:List Sg):∀ v∈lW l,v.oneCell'=true:=by
 intro v hv
 unfold lW at hv
 obtain⟨x,_,hx⟩:=List.mem_flatMap.1 hv
 simp[O4] at hx
 rcases hx with rfl | rfl | rfl <;> rfl
theorem gy.cells {w:World} {ad:Addr} {l:List Sg} (h:gy w (some ad) l):∀ (j:Nat) (u:Value),(lW l)[j]?=some u->w.cell? (ad.add j)=some u:=by
 intro j u hj
 have hlt:=(eZ.1 hj).1
 rw[mi] at hlt
 obtain⟨i,r,rfl,hr⟩:∃ i r,j=i*3+r/\r<3:=⟨j / 3,j % 3,oZ,Nat.mod_lt _ oZ⟩
 obtain⟨x,hx⟩:∃ x,l[i]?=some x:=⟨_,gZ oZ⟩
 obtain⟨g,o,e,h1,h2,h3⟩:=h i x hx
 obtain⟨k1,k2,k3⟩:=xU l i x hx
 cases e
 rw[Addr.add_lit]
 rcases (show r=0∨r=1∨r=2 by omega) with rfl | rfl | rfl
 ·rw[Nat.add_zero] at hj ⊢
  rw[k1] at hj;cases hj;exact h1
 ·rw[k2] at hj;cases hj;rw[<- Nat.add_assoc];exact h2
 ·rw[k3] at hj;cases hj;rw[<- Nat.add_assoc];exact h3
theorem mg {e:TypeId} {size n base:Nat} {v:Value} {xs:List Value} {w:World} (h:w.ownsRow base e size v n xs) (m:Nat) (hm:n=m):∃ ao c,v=.slice ao m c:=by
 subst hm
 obtain⟨h0,⟨rfl,h⟩ | ⟨g,cap,cur,rfl,_⟩⟩:=h
 ·exact⟨none,0,by rw[h]⟩
 ·exact⟨_,_,rfl⟩
theorem bF.keep {w w':World} {base:Nat} {v:Value} {l:List Sg} (h:bF w base v l) {k:Nat} {cc:Array Value} {t:TypeId} (hk:w.heap[k]?=some (.cells cc t (0,0))) (ht:t≠65) (hb:∀ j,j≠k->w'.heap[j]?=w.heap[j]?):bF w' base v l:=by
 obtain⟨h0,h | ⟨g',cap,cur,k1,k2,k3,k4⟩⟩:=h
 ·exact⟨h0,.inl h⟩
 ·refine⟨h0,.inr ⟨g',cap,cur,k1,k2,(hb g' (fun e=>?_)).trans k3,k4⟩⟩
  subst e
  rw[hk] at k3
  injection k3 with k3
  injection k3 with _ h5
  exact ht h5
theorem Dq:(Tryz.prog.info? 65).map (fun i=>(i.zero,i.size,i.bytes))=some (some (.agg #[.int .i64 0,.int .i64 0,.bool false]),3,24):=kZ
theorem lm {P:Program} {fn:Func} {p:Tmp} {ty:TypeId} (h:fn.results=#[.cell p ty]) (tmps:Array Value) (w:World) (g:Nat) (t:TypeId) (cs:Array Value) (fr:Nat×Nat) (d:TypeDesc)
  (hp:tmps.getD p undef=.pointer (some ⟨g,0,none⟩)) (hg:w.heap[g]?=some (.cells cs t fr))
  (hu:P.underlying ty=some d) (hd:(match d with | .struct _ | .array _ _=>true | _=>false)=true) (hi:(P.info? ty).map (·.size)=some cs.size) :
  (results fn tmps).run P w=.ok (.agg cs) w:=by
 have hp':tmps[p]?.getD undef=.pointer (some ⟨g,0,none⟩):=by simpa using hp
 simp[results,h,hp',asAddr,run_loadVar_row w g t ty cs fr d hg hu hd hi]
theorem yN (w:World) (oa:Option Addr) (c n:Nat) (cs:List Int) (en:cs.length=n) (hn:n<=1000000) (hU:∀ y∈cs,U y) (ha:dH .u32 w oa (jB cs)) (og:Option Addr) (gn gc:Nat) (x:Sx) (eg:x.aH.length=gn) (hg:gy w og x.aH) (hg0:0<gn) (hgl:gn<=1000) :
  Calls Tryz.prog 91 #[.agg (aK (.slice oa n c) (.slice og gn gc) x)] w fun e w'=>∃ g vs,e=.returned (.agg (aK (.slice (some ⟨g,0,none⟩) n n) vs x))/\w.heap.size<=g/\dK w' g cs/\bF w' w.heap.size vs x.aH/\Below w.heap.size w w':=by
 have HCp:=hJ (fun(w':World) (hb:Below w.heap.size w w')=>nK w' oa c n cs en hn hU (ha.below hb))
 obtain⟨s0,hs0⟩:∃ s,x.aH[0]?=some s:=⟨_,gZ oZ⟩
 obtain⟨ga,go,he,hrest⟩:=hg 0 s0 hs0
 subst he
 clear hrest
 have HG:=hJ hg
 have HEg:=hJ eg
 have HOne:=hJ (Ef x.aH)
 obtain⟨i0,hi0,hz0,hz1,hz2⟩:=info_parts Dq
 have HI:=hJ (And.intro hi0 (And.intro hz0 (And.intro hz1 hz2)))
 clear hU ha hg eg en hs0 s0 hi0 hz0 hz1 hz2
 go_enter Tryz.func91,Tryz.ntmps91
 go_upto_region 1 with fail
 obtain⟨w0,hw0⟩:∃ w0,w0=(w.alloc (.cells (aK (.slice oa n c) (.slice (some ⟨ga,go,none⟩) gn gc) x) 49)).alloc (.cells (aK (.slice none 0 0) (.slice none 0 0) ⟨[],0,0,fun _=>0⟩) 49):=⟨_,rfl⟩
 rw[show (w.alloc (.cells (aK (.slice oa n c) (.slice (some ⟨ga,go,none⟩) gn gc) x) 49)).alloc (.cells #[.slice none 0 0,.slice none 0 0,.int .i64 0,.int .u32 0,.int .i64 0,.int .i64 0,.int .i64 0,.int .i64 0,.int .i64 0,.int .i64 0] 49)=w0 from hw0.symm]
 have hX:w0.heap[w.heap.size]?=some (.cells (aK (.slice oa n c) (.slice (some ⟨ga,go,none⟩) gn gc) x) 49 (0,0)):=by rw[hw0];exact fO _ _ _
 have hY:w0.heap[w.heap.size+1]?=some (.cells (aK (.slice none 0 0) (.slice none 0 0) ⟨[],0,0,fun _=>0⟩) 49 (0,0)):=by rw[hw0];exact fK _ _ _
 have hB:Below w.heap.size w w0:=by rw[hw0];exact dL
 have c0:w0.cell? ⟨w.heap.size,0,none⟩=some (.slice oa n c):=ae hX 0
 have HX:=hJ hX
 have HY:=hJ hY
 have HB:=hJ hB
 clear hw0 hX hY hB
 go_wp2_with fail
 refine(HCp.out _ HB.out).mono ?_;rintro e w2 ⟨rfl,hrow,hb⟩
 have HX2:=hJ ((hb.block _ (lt_of_heap HX.out)).trans HX.out)
 have HY2:=hJ ((hb.block _ (lt_of_heap HY.out)).trans HY.out)
 have HB2:=hJ (ah HB.out hb)
 have HG2:=hJ (HG.out.below HB2.out)
 have hgt:w.heap.size+1<w0.heap.size:=lt_of_heap HY.out
 obtain⟨g,hg⟩:∃ g,g=w0.heap.size:=⟨_,rfl⟩
 rw[<- hg] at hrow hgt ⊢
 have HR2:=hJ hrow
 have f0:=free_at HX2.out 0
 have c0:w2.cell? ⟨w.heap.size,0,none⟩=some (.slice oa n c):=ae HX2.out 0
 clear hb hrow hg HX HY HB HCp
 go_upto_region 2 with fail
 have HX3:=hJ (show (w2.setCell ⟨w.heap.size,0,none⟩ (.slice (some ⟨g,0,none⟩) n n)).heap[w.heap.size]?=some (.cells (aK (.slice (some ⟨g,0,none⟩) n n) (.slice (some ⟨ga,go,none⟩) gn gc) x) 49 (0,0)) by
  rw[heap_setCell_same _ _ _ _ _ _ HX2.out];rfl)
 have HY3:=hJ ((Below.heap_setCell w2 ⟨w.heap.size,0,none⟩ (.slice (some ⟨g,0,none⟩) n n) (w.heap.size+1) (show w.heap.size+1≠w.heap.size by omega)).trans HY2.out)
 have HR3:=hJ (HR2.out.of_block (Below.heap_setCell w2 ⟨w.heap.size,0,none⟩ (.slice (some ⟨g,0,none⟩) n n) g (show g≠w.heap.size by omega)))
 have HB3:=hJ (low_set HB2.out (Nat.le_refl w.heap.size) 0 (.slice (some ⟨g,0,none⟩) n n))
 have HG3:=hJ (HG.out.below HB3.out)
 clear f0 c0 HX2 HY2 HR2 HB2 HG2
 generalize w2.setCell ⟨w.heap.size,0,none⟩ (.slice (some ⟨g,0,none⟩) n n)=w3 at HX3 HY3 HR3 HB3 HG3 ⊢
 go_upto_region 3 with fail
 have hb4:=au (w:=w3) (A:=.cells #[] 65)
 have HO4:=hJ (show bF (w3.alloc (.cells #[] 65)) w.heap.size (.slice (some ⟨w3.heap.size,0,none⟩) 0 0) [] from World.ownsRow_lit (base:=w.heap.size) (e:=65) (size:=3) w3 #[] 0 HB3.out.size dZ sZ)
 have HX4:=hJ ((hb4.block _ (lt_of_heap HX3.out)).trans HX3.out)
 have HY4:=hJ ((hb4.block _ (lt_of_heap HY3.out)).trans HY3.out)
 have HR4:=hJ (HR3.out.below hb4)
 have HB4:=hJ (ah HB3.out hb4)
 have HG4:=hJ (HG3.out.below hb4)
 clear hb4 HX3 HY3 HR3 HB3 HG3
 generalize w3.alloc (.cells #[] 65)=w4 at HO4 HX4 HY4 HR4 HB4 HG4 ⊢
 obtain⟨v4,hv4⟩:∃ v4,v4=Value.slice (some ⟨w3.heap.size,0,none⟩) 0 0:=⟨_,rfl⟩
 rw[<- hv4] at HO4 ⊢
 clear hv4
 have c1:w4.cell? ⟨w.heap.size,1,none⟩=some (.slice (some ⟨ga,go,none⟩) gn gc):=ae HX4.out 1
 have HFin:=hJ (show ∀ (v':Value) (w8:World),w8.ownsRow w.heap.size 65 3 v' (0+gn) (lW []++lW x.aH)->w4.grownBy w8 v4.ownBlock->bF w8 w.heap.size v' x.aH/\Below w.heap.size w w8/\w8.heap[w.heap.size]?=some (.cells (aK (.slice (some ⟨g,0,none⟩) n n) (.slice (some ⟨ga,go,none⟩) gn gc) x) 49 (0,0))/\w8.heap[w.heap.size+1]?=some (.cells (aK (.slice none 0 0) (.slice none 0 0) ⟨[],0,0,fun _=>0⟩) 49 (0,0))/\dK w8 g cs from fun v' w8 ho hgr=>by
  have hne:∀ k (cc:Array Value) (t:TypeId),w4.heap[k]?=some (Obj.cells cc t (0,0))->t≠65->v4.ownBlock≠some k:=fun k cc t hk ht e=>by
   obtain⟨h0,⟨h,_⟩ | ⟨g',cap,cur,k1,k2,k3,k4⟩⟩:=HO4.out
   ·rw[h] at e;cases e
   ·rw[k1] at e;cases e
    rw[k3] at hk;injection hk with hk;injection hk with _ h5;exact ht h5.symm
  have hst:∀ k (cc:Array Value) (t:TypeId),w4.heap[k]?=some (Obj.cells cc t (0,0))->t≠65->w8.heap[k]?=some (Obj.cells cc t (0,0)):=fun k cc t hk ht=>(hgr.block k (lt_of_heap hk) (fun e=>hne k cc t hk ht e.symm)).trans hk
  refine⟨?_,HB4.out.grown hgr HB4.out.size (fun k hk=>(World.ownsRow.lt HO4.out k hk).1),hst _ _ _ HX4.out dZ,hst _ _ _ HY4.out dZ,?_⟩
  ·unfold bF
   rw[HEg.out]
   simpa [lW] using ho
  ·obtain⟨cur,hc1,hc2⟩:=HR4.out
   exact⟨cur,hst _ _ _ hc1 dZ,hc2⟩)
 go_upto_region 4 with (at_builtin;refine wpList_append_own _ rfl (.tmp 9) (.tmp 12) 44 rfl w.heap.size 65 i0 _ 3 24 Tryz.underlying44 HI.out.1 HI.out.2.1 HI.out.2.2.1 HI.out.2.2.2 rfl dZ v4 0 (lW []) rfl HO4.out ⟨ga,go,none⟩ gn gc (lW x.aH) rfl (by rw[mi,HEg.out]) HG4.out.cells HOne.out mZ oZ HB4.out.size ?_;intro v' w8 ho2 hg2 _;have HR8:=hJ (HFin.out v' w8 ho2 hg2);obtain⟨so,sc,hv'⟩:=mg ho2 gn oZ;subst hv';clear ho2 hg2)
 clear c1 HO4 HX4 HY4 HR4 HB4 HG4 HFin
 obtain⟨q1,q2,q3,q4,q5⟩:=HR8.out
 have f1:=free_at q3 1
 have c1:w8.cell? ⟨w.heap.size,1,none⟩=some (.slice (some ⟨ga,go,none⟩) gn gc):=ae q3 1
 have HX9:=hJ (show (w8.setCell ⟨w.heap.size,1,none⟩ (Value.slice so gn sc)).heap[w.heap.size]?=some (.cells (aK (.slice (some ⟨g,0,none⟩) n n) (Value.slice so gn sc) x) 49 (0,0)) by
  rw[heap_setCell_same _ _ _ _ _ _ q3];rfl)
 have HY9:=hJ ((Below.heap_setCell w8 ⟨w.heap.size,1,none⟩ (Value.slice so gn sc) (w.heap.size+1) (show w.heap.size+1≠w.heap.size by omega)).trans q4)
 have HRest:=hJ (show dK (w8.setCell ⟨w.heap.size,1,none⟩ (Value.slice so gn sc)) g cs/\Below w.heap.size w (w8.setCell ⟨w.heap.size,1,none⟩ (Value.slice so gn sc)) from⟨q5.of_block (Below.heap_setCell w8 ⟨w.heap.size,1,none⟩ (Value.slice so gn sc) g (show g≠w.heap.size by omega)),low_set q2 (Nat.le_refl w.heap.size) 1 (Value.slice so gn sc)⟩)
 have HOw:=hJ (show bF (w8.setCell ⟨w.heap.size,1,none⟩ (Value.slice so gn sc)) w.heap.size (Value.slice so gn sc) x.aH from by
  obtain⟨h0,h | ⟨g',cap,cur,k1,k2,k3,k4⟩⟩:=q1
  ·exact⟨h0,.inl h⟩
  ·refine⟨h0,.inr ⟨g',cap,cur,k1,k2,(Below.heap_setCell w8 ⟨w.heap.size,1,none⟩ (Value.slice so gn sc) g' (fun e=>?_)).trans k3,k4⟩⟩
   have e2:g'=w.heap.size:=e
   rw[e2,q3] at k3
   injection k3 with k3
   injection k3 with _ h5
   exact absurd h5 dZ)
 clear HR8 q1 q3 q4 q5 q2
 go_upto_region 5 with fail
 clear f1 c1
 generalize w8.setCell ⟨w.heap.size,1,none⟩ (Value.slice so gn sc)=w9 at HX9 HY9 HRest HOw ⊢
 go_wp2_with (first
  | (refine yZ rfl 49 (.tmp 1) rfl w.heap.size rfl 49 (aK (.slice (some ⟨g,0,none⟩) n n) (Value.slice so gn sc) x) (0,0) _ HX9.out Tryz.underlying49 rfl (aI _ _ _) ?_)
  | (refine zZ rfl 49 (.tmp 2) (.tmp 17) rfl (w.heap.size+1) (aK (.slice (some ⟨g,0,none⟩) n n) (Value.slice so gn sc) x) rfl rfl 49 (aK (.slice none 0 0) (.slice none 0 0) ⟨[],0,0,fun _=>0⟩) HY9.out (aI _ _ _) rfl cZ ?_)
  | fail)
 have hy:=HY9.out
 refine tZ (v:=.agg (aK (.slice (some ⟨g,0,none⟩) n n) (.slice so gn sc) x)) (lm rfl _ _ (w.heap.size+1) _ _ (0,0) _ rfl (setRow_heap _ _ _ _ _ _ hy) Tryz.underlying49 rfl (aI _ _ _)) rfl ?_
 exact⟨g,_,rfl,oZ,HRest.out.1.of_block (qZ _ _ _ _ oZ),HOw.out.keep hy dZ (fun j hj=>qZ _ _ _ _ hj),below_setRow HRest.out.2 oZ _⟩

/-! ### Small ones -/
theorem Gx (w:World) (n:Int) (h0:-9223372036854775808<=n) (h1:n<=9223372036854775807):Calls Tryz.prog 163 #[.int .i64 n] w fun e w'=>e=.returned (.bool (decide (0<=n/\n<=65535)))/\w'=w:=by
 by_cases a:0<=n
 ·by_cases b:n<65536
  ·rw[decide_eq_true (p:=0<=n/\n<=65535) oZ]
   go_enter Tryz.func163,Tryz.ntmps163
   go_wp2_with fail
   go_ret
   exact⟨rfl,rfl⟩
  ·rw[decide_eq_false (p:=0<=n/\n<=65535) oZ]
   go_enter Tryz.func163,Tryz.ntmps163
   go_wp2_with fail
   go_ret
   exact⟨rfl,rfl⟩
 ·rw[decide_eq_false (p:=0<=n/\n<=65535) oZ]
  go_enter Tryz.func163,Tryz.ntmps163
  go_wp2_with fail
  go_ret
  exact⟨rfl,rfl⟩
theorem kL (b:Bool) (n:Int) (h0:-9223372036854775808<=n) (h1:n<=9223372036854775807) (h:decide (0<=n/\n<=65535)=b) (w:World):Calls Tryz.prog 163 #[.int .i64 n] w fun e w'=>e=.returned (.bool b)/\w'=w:=by
 subst h
 exact Gx w n h0 h1
theorem G6 (w:World) (d p:Int) (hd0:-9223372036854775808<=d) (hd1:d<=9223372036854775807) (hp0:-9223372036854775808<=p) (hp1:p<=9223372036854775807) :
  Calls Tryz.prog 127 #[.int .i64 d,.int .i64 p] w fun e w'=>e=.returned (.tuple #[.int .u32 (eU d p),.int .i64 (gW d p)])/\w'=w:=by
 by_cases h:0<=d/\d<=65535
 ·have F1:=hJ (kL true d hd0 hd1 (decide_eq_true h))
  by_cases h2:0<=p/\p<=65535
  ·have F2:=hJ (kL true p hp0 hp1 (decide_eq_true h2))
   have hx:eU d p=65536*d+p:=by unfold eU;rw[if_pos ⟨h.1,h.2,h2.1,h2.2⟩]
   have he:gW d p=0:=by unfold gW;rw[if_pos ⟨h.1,h.2,h2.1,h2.2⟩]
   rw[hx,he]
   obtain⟨a1,a2⟩:=h
   obtain⟨a3,a4⟩:=h2
   clear hx he
   have i1:IntKind.u32.wrap d=d:=IntWalk.u32_in _ oZ
   have i2:IntKind.u32.wrap p=p:=IntWalk.u32_in _ oZ
   have i3:IntKind.u32.wrap (65536*d)=65536*d:=IntWalk.u32_in _ oZ
   have i4:IntKind.u32.wrap (65536*d+p)=65536*d+p:=IntWalk.u32_in _ oZ
   go_enter Tryz.func127,Tryz.ntmps127
   go_wp2_with fail
   refine(F1.out _).mono ?_;rintro e w1 ⟨rfl,rfl⟩
   go_wp2_with fail
   refine(F2.out _).mono ?_;rintro e w1 ⟨rfl,rfl⟩
   go_wp2_with fail
   go_ret2
   exact⟨rfl,rfl⟩
  ·have F2:=hJ (kL false p hp0 hp1 (decide_eq_false h2))
   have hx:eU d p=0:=by unfold eU;rw[if_neg (fun k=>h2 ⟨k.2.2.1,k.2.2.2⟩)]
   have he:gW d p=1:=by unfold gW;rw[if_neg (fun k=>h2 ⟨k.2.2.1,k.2.2.2⟩)]
   rw[hx,he]
   clear hx he h2
   go_enter Tryz.func127,Tryz.ntmps127
   go_wp2_with fail
   refine(F1.out _).mono ?_;rintro e w1 ⟨rfl,rfl⟩
   go_wp2_with fail
   refine(F2.out _).mono ?_;rintro e w1 ⟨rfl,rfl⟩
   go_wp2_with fail
   go_ret2
   exact⟨rfl,rfl⟩
 ·have F1:=hJ (kL false d hd0 hd1 (decide_eq_false h))
  have hx:eU d p=0:=by unfold eU;rw[if_neg (fun k=>h ⟨k.1,k.2.1⟩)]
  have he:gW d p=1:=by unfold gW;rw[if_neg (fun k=>h ⟨k.1,k.2.1⟩)]
  rw[hx,he]
  clear hx he h
  go_enter Tryz.func127,Tryz.ntmps127
  go_wp2_with fail
  refine(F1.out _).mono ?_;rintro e w1 ⟨rfl,rfl⟩
  go_wp2_with fail
  go_ret2
  exact⟨rfl,rfl⟩
theorem wU (w:World) (n:Int) (m:Nat) (h0:0<=n) (h1:n<=9223372036854775807) (hm:(m:Int)=(n+3) / 4):Calls Tryz.prog 158 #[.int .i64 n] w fun e w'=>e=.returned (.int .i64 (m:Int))/\w'=w:=by
 obtain⟨q,hq⟩:∃ q,q=n / 4:=⟨_,rfl⟩
 obtain⟨r,hr⟩:∃ r,r=n % 4:=⟨_,rfl⟩
 obtain⟨t,ht⟩:∃ t,t=(r+3) / 4:=⟨_,rfl⟩
 have q1:n / 4=q:=hq.symm
 have r1:n % 4=r:=hr.symm
 have q2:n.tdiv 4=q:=by rw[Int.tdiv_eq_ediv_of_nonneg h0];exact q1
 have r2:n.tmod 4=r:=by rw[Int.tmod_eq_emod_of_nonneg h0];exact r1
 have q3:IntKind.i64.wrap q=q:=iZ _ oZ
 have r3:IntKind.i64.wrap r=r:=iZ _ oZ
 have s3:IntKind.i64.wrap (r+3)=r+3:=iZ _ oZ
 have t1:(r+3) / 4=t:=ht.symm
 have t2:(r+3).tdiv 4=t:=by rw[Int.tdiv_eq_ediv_of_nonneg oZ];exact t1
 have t3:IntKind.i64.wrap t=t:=iZ _ oZ
 have u1:q+t=(m:Int):=oZ
 have u3:IntKind.i64.wrap (q+t)=(m:Int):=by rw[u1];exact iZ _ oZ
 have HM:=hJ u1
 clear hq hr ht hm
 go_enter Tryz.func158,Tryz.ntmps158
 go_wp2_with fail
 go_ret
 first
 | exact⟨rfl,rfl⟩
 | exact⟨by rw[HM.out],rfl⟩
theorem Du (w:World) (i k t:Nat) (hi:i<=100000000) (hk:i % 4=k) (ht:k*8=t):Calls Tryz.prog 159 #[.int .i64 (i:Int)] w fun e w'=>e=.returned (.int .i64 (t:Int))/\w'=w:=by
 have r1:(i:Int) % 4=(k:Int):=oZ
 have r2:(i:Int).tmod 4=(k:Int):=by rw[Int.tmod_eq_emod_of_nonneg oZ];exact r1
 have r3:IntKind.i64.wrap (k:Int)=(k:Int):=iZ _ oZ
 have r4:IntKind.i64.wrap ((k:Int)*8)=(t:Int):=by rw[iZ _ oZ];omega
 have HM:=hJ (show (k:Int)*8=(t:Int) by omega)
 clear hk ht
 go_enter Tryz.func159,Tryz.ntmps159
 go_wp2_with fail
 go_ret
 first
 | exact⟨rfl,rfl⟩
 | exact⟨by rw[HM.out],rfl⟩
theorem Ed (h b:Nat) (hh:h<4294967296) (hb:b<256):IntKind.u32.wrap (bits BinOp.xor IntKind.u32 (h:Int) (IntKind.u32.wrap (b:Int))*16777619)=((jb h b:Nat):Int):=by
 have hx:h ^^^ b<4294967296:=Nat.xor_lt_two_pow (n:=32) hh oZ
 rw[IntWalk.u32_in (b:Int) oZ]
 have e:bits BinOp.xor IntKind.u32 (h:Int) (b:Int)=((h ^^^ b:Nat):Int):=by
  have h1:h % 2 ^ IntKind.u32.bits=h:=Nat.mod_eq_of_lt (by show h<4294967296;omega)
  have h2:b % 2 ^ IntKind.u32.bits=b:=Nat.mod_eq_of_lt (by show b<4294967296;omega)
  simp only[bits,BitVec.ofInt_natCast,BitVec.toNat_xor,BitVec.toNat_ofNat,h1,h2]
  exact IntWalk.u32_in _ oZ
 rw[e]
 unfold jb
 generalize h ^^^ b=x
 rw[IntKind.wrap_u32]
 omega
theorem Nc (f:Int) (s:ByteArray):ay [f.toNat]++s=ay (f.toNat :: ax s):=by
 rw[show ay (f.toNat :: ax s)=ay [f.toNat]++ay (ax s) from ?_,jI]
 unfold ay
 apply ByteArray.ext
 simp
theorem KH (w:World) (f:Int) (s:ByteArray) (h0:0<=f) (h1:f<=255) (hs:s.size<=1000000):Calls Tryz.prog 121 #[.int .u8 f,.string s] w fun e w'=>e=.returned (.string (ay (f.toNat :: ax s)))/\Below w.heap.size w w':=by
 have hrow:(w.alloc (.cells #[.int .u8 f] 5)).ownsRow w.heap.size 5 1 (.slice (some ⟨w.heap.size,0,none⟩) 1 1) 1 [.int .u8 f]:=World.ownsRow_lit (base:=w.heap.size) (e:=5) (size:=1) w #[.int .u8 f] 1 (Nat.le_refl _) dZ rfl
 have hI:BytesIn (w.alloc (.cells #[.int .u8 f] 5)) w.heap.size (.slice (some ⟨w.heap.size,0,none⟩) 1 1) [f.toNat]:=by
  unfold BytesIn
  have e:([f.toNat]).map (fun(b:Nat)=>Value.int .u8 (b:Int))=[.int .u8 f]:=by simp;omega
  rw[e]
  exact hrow
 have hc:=oC hI (by intro b hb;simp at hb;omega)
 have HK:=hJ (Nc f s)
 have hz:(ay [f.toNat]).size=1:=rfl
 generalize ay [f.toNat]=tx at hc HK hz
 clear hrow hI
 go_enter Tryz.func121,Tryz.ntmps121
 go_wp2_with fail
 go_ret
 exact⟨by rw[HK.out];rfl,au⟩
/-! ### Rows filled by places -/
theorem xW {w:World} {g n:Nat} {t:TypeId} {k:IntKind} {F:Nat->Value} {l:List Nat} (base:Nat) (hb:base<=g) (hn:l.length=n) (hm:n<=maxLen) (h:w.rowIs g t n F) (hF:∀ j x:Nat,l[j]?=some x->F j=.int k (x:Int)):iw t k w base (.slice (some ⟨g,0,none⟩) n n) l:=by
 obtain⟨c,h1,h2,h3⟩:=h
 subst hn
 refine⟨by rw[gm,Nat.mul_one],.inr ⟨g,_,c,rfl,hb,h1,Nat.le_refl _,hm,oZ,?_⟩⟩
 apply List.ext_getElem?
 intro j
 rw[List.getElem?_take]
 by_cases hj:j<l.length
 ·rw[if_pos oZ,Array.getElem?_toList,h3 j hj,hF j _ (gZ hj),pO (gZ hj)]
 ·rw[if_neg oZ,List.getElem?_eq_none (by rw[gm];omega)]
theorem Hf (k:Nat) (hk:k<=1000000) (w:World):(Instr.makeSlice 47 (.int .i64 k) (.int .i64 k)).run Tryz.prog w=.ok (.slice (some ⟨w.heap.size,0,none⟩) k k) (w.alloc (.cells (madeCells #[.int .u32 0] k) 32)) :=
 run_make_row' 47 32 (.int .u32 0) 4 Tryz.underlying47 uG rfl .i64 .i64 k oZ oZ w
theorem getD_take (L:List Nat) (i j:Nat):(L.take i).getD j 0=if j<i then L.getD j 0 else 0:=by
 rw[List.getD_eq_getElem?_getD,List.getElem?_take,List.getD_eq_getElem?_getD]
 split <;> rfl
theorem xO (L:List Nat) (i j:Nat) (h:j≠i / 4):cellAt (L.take (i+1)) j=cellAt (L.take i) j:=by
 have key:∀ m,m<4->(L.take (i+1)).getD (4*j+m) 0=(L.take i).getD (4*j+m) 0:=fun m hm=>by
  rw[getD_take,getD_take]
  by_cases a:4*j+m<i
  ·rw[if_pos a,if_pos oZ]
  ·rw[if_neg a,if_neg oZ]
 unfold cellAt
 have k0:(L.take (i+1)).getD (4*j) 0=(L.take i).getD (4*j) 0:=key 0 oZ
 rw[k0,key 1 oZ,key 2 oZ,key 3 oZ]
theorem AY {L:List Nat} (hL:∀ b∈L,b<256) (i k:Nat) (hk:i % 4=k):cellAt (L.take (i+1)) (i / 4)=cellAt (L.take i) (i / 4)+L.getD i 0*2 ^ (k*8)/\cellAt (L.take i) (i / 4)<2 ^ (k*8)/\L.getD i 0*2 ^ (k*8)<4294967296:=by
 have hb:=getD_lt hL i
 obtain⟨j,hj⟩:∃ j,j=i / 4:=⟨_,rfl⟩
 rw[<- hj]
 unfold cellAt
 simp only[getD_take]
 rcases (show k=0∨k=1∨k=2∨k=3 by omega) with rfl | rfl | rfl | rfl
 ·have e:i=4*j:=oZ
  subst e
  simp only[show (2:Nat) ^ (0*8)=1 from rfl]
  repeat (first | rw[if_pos oZ] | rw[if_neg oZ])
  have b0:=getD_lt hL (4*j)
  have b1:=getD_lt hL (4*j+1)
  have b2:=getD_lt hL (4*j+2)
  have b3:=getD_lt hL (4*j+3)
  omega
 ·have e:i=4*j+1:=oZ
  subst e
  simp only[show (2:Nat) ^ (1*8)=256 from rfl]
  repeat (first | rw[if_pos oZ] | rw[if_neg oZ])
  have b0:=getD_lt hL (4*j)
  have b1:=getD_lt hL (4*j+1)
  have b2:=getD_lt hL (4*j+2)
  have b3:=getD_lt hL (4*j+3)
  omega
 ·have e:i=4*j+2:=oZ
  subst e
  simp only[show (2:Nat) ^ (2*8)=65536 from rfl]
  repeat (first | rw[if_pos oZ] | rw[if_neg oZ])
  have b0:=getD_lt hL (4*j)
  have b1:=getD_lt hL (4*j+1)
  have b2:=getD_lt hL (4*j+2)
  have b3:=getD_lt hL (4*j+3)
  omega
 ·have e:i=4*j+3:=oZ
  subst e
  simp only[show (2:Nat) ^ (3*8)=16777216 from rfl]
  repeat (first | rw[if_pos oZ] | rw[if_neg oZ])
  have b0:=getD_lt hL (4*j)
  have b1:=getD_lt hL (4*j+1)
  have b2:=getD_lt hL (4*j+2)
  have b3:=getD_lt hL (4*j+3)
  omega
theorem IB {c x k:Nat} (hc:c<2 ^ k) (hk:k<=24) (b:Nat) (hx:x=b*2 ^ k) (hx2:x<4294967296):bits .or .u32 (c:Int) (x:Int)=((c+x:Nat):Int):=by
 have hc2:c<4294967296:=Nat.lt_of_lt_of_le hc (by calc 2 ^ k<=2 ^ 24:=Nat.pow_le_pow_right dZ hk
   _<=4294967296:=dZ)
 have h:=(bits_nat .u32 32 dZ (fun n a b=>IntWalk.u32_in n oZ) c x oZ oZ).2
 rw[h,hx,Nat.or_comm,Nat.mul_comm b,<- Nat.two_pow_add_eq_or_of_lt hc b,Nat.add_comm]
section
variable {P:Program}
theorem iR {ops:Array Oper} {rest:List Oper} {o:Oper} {a:Act} {w:World} {Q:Exit->Act->World->Prop} (hw:Region.wanted o (yielded ops a.tmps)=true) (ty:TypeId) (x:Operand) (ho:o.op=.load ty x)
  (g f:Nat) (hx:a.eval x=.pointer (some ⟨g,f,none⟩)) (t:TypeId) (cur cs:Array Value) (fr:Nat×Nat) (d:TypeDesc) (hg:w.heap[g]?=some (.cells cur t fr)) (hp:∀ (j:Nat) (v:Value),cs.toList[j]?=some v->cur[f+j]?=some v)
  (hu:P.underlying ty=some d) (hd:(match d with | .struct _ | .array _ _=>true | _=>false)=true) (hi:(P.info? ty).map (·.size)=some cs.size)
  (h:wpList P ops Q rest (a.put o.dst (.agg cs)) w):wpList P ops Q (o :: rest) a w :=
 wpList_step fun K hK=>by
  rw[if_pos hw]
  exact aW ty x ho g f hx t cur cs fr d hg hp hu hd hi (hK _ _ h)
end
theorem QG (a d:Int) (z:Bool) (w:World):(Op.equalIn 10000 65 (.agg #[.int .i64 a,.int .i64 d,.bool z]) (.agg #[.int .i64 a,.int .i64 d,.bool z])).run Tryz.prog w=.ok true w:=by
 have u5:=Tryz.underlying4
 have a5:=Tryz.isAgg4
 have z5:=Tryz.sizeOf4
 have u3:=Tryz.underlying3
 have a3:=Tryz.isAgg3
 have z3:=Tryz.sizeOf3
 have hS:Tryz.prog.underlying 65=some (.struct (Tryz.prog.fieldsOf 65)):=kZ
 rw[show (10000:Nat)=9999+1 from rfl,run_equalIn_agg w 9999 65 _ _ hS kZ]
 simp only[Program.fieldsOf,Tryz.underlying65]
 go_simp
theorem qx (vs:Value) (x:Sx):∀ (j:Nat) (v:Value),(six x.used).toList[j]?=some v->(aQ vs x)[3+j]?=some v:=by
 intro j v hj
 rcases j with _|_|_|_|_|_|j
 ·simpa [six,aQ] using hj
 ·simpa [six,aQ] using hj
 ·simpa [six,aQ] using hj
 ·simpa [six,aQ] using hj
 ·simpa [six,aQ] using hj
 ·simpa [six,aQ] using hj
 ·simp[six] at hj
theorem nT (w:World) (oa ob:Option Addr) (n ca cb:Nat) (x:Sx) (en:x.aH.length=n) (hn:n<=1000) (ha:gy w oa x.aH) (hb:gy w ob x.aH) :
  Calls Tryz.prog 32 #[.agg (aQ (.slice oa n ca) x),.agg (aQ (.slice ob n cb) x)] w fun e w'=>e=.returned (.bool true)/\Below w.heap.size w w':=by
 have HA:=hJ ha
 have HB:=hJ hb
 have HEn:=hJ en
 have e6:=fun w=>QB x.used 9998 w
 have b1:(x.terms != x.terms)=false:=sZ
 have b2:(x.dR != x.dR)=false:=sZ
 clear ha hb en
 go_enter Tryz.func32,Tryz.ntmps32
 go_upto_region 1 with fail
 obtain⟨w0,hw0⟩:∃ w0,w0=(w.alloc (.cells (aQ (.slice oa n ca) x) 46)).alloc (.cells (aQ (.slice ob n cb) x) 46):=⟨_,rfl⟩
 rw[<- hw0]
 have HX:=hJ (show w0.heap[w.heap.size]?=some (.cells (aQ (.slice oa n ca) x) 46 (0,0)) by rw[hw0];exact fO _ _ _)
 have HY:=hJ (show w0.heap[w.heap.size+1]?=some (.cells (aQ (.slice ob n cb) x) 46 (0,0)) by rw[hw0];exact fK _ _ _)
 have HBl:=hJ (show Below w.heap.size w w0 by rw[hw0];exact dL)
 clear hw0
 have c0:w0.cell? ⟨w.heap.size,0,none⟩=some (.slice oa n ca):=ae HX.out 0
 have c1:w0.cell? ⟨w.heap.size,1,none⟩=some (.int .i64 x.terms):=ae HX.out 1
 have c2:w0.cell? ⟨w.heap.size,2,none⟩=some (.int .u32 x.dR):=ae HX.out 2
 have d0:w0.cell? ⟨w.heap.size+1,0,none⟩=some (.slice ob n cb):=ae HY.out 0
 have d1:w0.cell? ⟨w.heap.size+1,1,none⟩=some (.int .i64 x.terms):=ae HY.out 1
 have d2:w0.cell? ⟨w.heap.size+1,2,none⟩=some (.int .u32 x.dR):=ae HY.out 2
 have hnn:((n:Int) != (n:Int))=false:=sZ
 go_wp2_with (first
  | (refine iR rfl 40 (.tmp 19) rfl w.heap.size 3 rfl 46 (aQ (.slice oa n ca) x) (six x.used) (0,0) _ HX.out (qx _ _) Tryz.underlying40 rfl (ag _) ?_)
  | (refine iR rfl 40 (.tmp 21) rfl (w.heap.size+1) 3 rfl 46 (aQ (.slice ob n cb) x) (six x.used) (0,0) _ HY.out (qx _ _) Tryz.underlying40 rfl (ag _) ?_)
  | fail)
 clear c0 c1 c2 d0 d1 d2
 go_loopg [37] n (fun g iv wr=>∃ i:Nat,i+g=n/\iv=.int .i64 (i:Int)/\∃ m,wr=w0.drewN m)
 case atStart=>exact⟨0,oZ,rfl,0,rfl⟩
 case round =>
  obtain⟨i,hig,rfl,m,rfl⟩:=hrel
  cases gk with
  | zero =>
   have hi:n=i:=oZ
   subst hi
   go_wp2_with fail
   go_ret
   exact⟨rfl,fG HBl.out m⟩
  | succ g =>
   have hi:i<n:=oZ
   have hi1:(i:Int)<(n:Int):=oZ
   obtain⟨s,hs⟩:∃ s,x.aH[i]?=some s:=⟨_,gZ (by rw[HEn.out];exact hi)⟩
   obtain⟨ga,pa,rfl,k1,k2,k3⟩:=HA.out.below HBl.out i s hs
   obtain⟨gb,pb,rfl,l1,l2,l3⟩:=HB.out.below HBl.out i s hs
   have c0:w0.cell? ⟨w.heap.size,0,none⟩=some (.slice (some ⟨ga,pa,none⟩) n ca):=ae HX.out 0
   have d0:w0.cell? ⟨w.heap.size+1,0,none⟩=some (.slice (some ⟨gb,pb,none⟩) n cb):=ae HY.out 0
   have hq:=QG s.1 s.2.1 s.2.2
   clear hs
   go_wp2_with fail
   go_quiet (fail)
   go_wp2_with fail
   go_roundg g
   case measure=>omega
   case rel=>exact⟨i+1,oZ,by go_num,_,rfl⟩
end Go.Proofs.YtlfndoclbebdaaaGreatDoor
