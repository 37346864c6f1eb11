/-
 What stage 12 rests on.
-/
import Derived.Test.YtafaohnhlgcnpaaGreatDoorWrAlA1
set_option maxRecDepth 100000
set_option maxHeartbeats 16000000
namespace Go.Proofs.YtafaohnhlgcnpaaGreatDoor
open Go.RowKit
def six (U:Nat->Int):Array Value:=#[.int .i64 (U 0),.int .i64 (U 1),.int .i64 (U 2),.int .i64 (U 3),.int .i64 (U 4),.int .i64 (U 5)]
def ae (B S:Nat->Int) (C T L:Int):Array Value:=#[.int .i64 (B 0),.int .i64 (B 1),.int .i64 (B 2),.int .i64 (B 3),.int .i64 (B 4),.int .i64 (B 5),.int .i64 (S 0),.int .i64 (S 1),.int .i64 (S 2),.int .i64 (S 3),.int .i64 (S 4),.int .i64 (S 5),.int .i64 C,.int .i64 T,.int .i64 L]
def wB (U S:Nat->Int) (k:Nat):Bool:=decide (0<=U k)&&decide (U k<=S k)
theorem zC {U S:Nat->Int} {k:Nat} (h0:0<=U k) (h1:U k<=S k):wB U S k=true:=by simp[wB,h0,h1]
theorem Ic {U S:Nat->Int} {k:Nat} (h:U k<0∨S k<U k):wB U S k=false:=by simp[wB];omega
theorem lg {k:Nat} (h:k<6):k=0∨k=1∨k=2∨k=3∨k=4∨k=5:=oZ
theorem mq (w:World) (B S U:Nat->Int) (C T L:Int) (k:Nat) (hk:k<6) :
  Calls Tryz.prog 104 #[.agg (ae B S C T L),.agg (six U),.int .i64 k] w fun e w'=>e=.returned (.bool (wB U S k))/\Below w.heap.size w w':=by
 unfold ae six;by_cases h0:0<=U k
 ·by_cases h1:U k<=S k
  ·rw[zC h0 h1];rcases lg hk with rfl | rfl | rfl | rfl | rfl | rfl
   all_goals
    go_enter Tryz.func104,Tryz.ntmps104
    go_wp2
    go_quiet (fail)
    go_wp2
    go_ret;exact⟨rfl,oC⟩
  ·rw[Ic oZ];have h1':decide (U k<=S k)=false:=by simpa using h1
   rcases lg hk with rfl | rfl | rfl | rfl | rfl | rfl
   all_goals
    go_enter Tryz.func104,Tryz.ntmps104
    go_wp2
    go_quiet (fail)
    go_wp2
    go_ret;exact⟨rfl,oC⟩
 ·rw[Ic oZ];have h0':decide (0<=U k)=false:=by simpa using h0
  rcases lg hk with rfl | rfl | rfl | rfl | rfl | rfl
  all_goals
   go_enter Tryz.func104,Tryz.ntmps104
   go_wp2
   go_quiet (fail)
   go_wp2
   go_ret;exact⟨rfl,oC⟩
theorem rz (w:World) (B S U:Nat->Int) (C T L:Int) (k:Nat) (hk:k<6) (hu0:0<=U k) (hus:U k<=S k) (hs:S k<=1000000) :
  Calls Tryz.prog 105 #[.agg (ae B S C T L),.agg (six U),.int .i64 k] w fun e w'=>e=.returned (.int .i64 (S k-U k))/\Below w.heap.size w w':=by
 unfold ae six;rcases lg hk with rfl | rfl | rfl | rfl | rfl | rfl
 all_goals
  go_enter Tryz.func105,Tryz.ntmps105
  go_wp2
  go_quiet (fail)
  go_wp2
  go_ret;exact⟨rfl,oC⟩
def aN (k:Nat):Int:=if k=0 then 4 else if k=1 then 16 else if k=2 then 64 else 256
theorem EI (w:World) (k:Nat) (hk:k<4):Calls Tryz.prog 138 #[.int .i64 k] w fun e w'=>e=.returned (.int .i64 (aN k))/\w=w':=by
 have:k=0∨k=1∨k=2∨k=3:=oZ;rcases this with rfl | rfl | rfl | rfl
 all_goals
  go_enter Tryz.func138,Tryz.ntmps138
  go_wp2
  go_ret;exact⟨rfl,rfl⟩
theorem kK (w:World) (k:Nat) (hk:k<4):Calls Tryz.prog 100 #[.int .i64 k] w fun e w'=>e=.returned (.int .i64 (aN k))/\w=w':=by
 have:k=0∨k=1∨k=2∨k=3:=oZ;rcases this with rfl | rfl | rfl | rfl
 ·go_enter Tryz.func100,Tryz.ntmps100
  go_wp2_with fail
  refine wp_loop_rounds 1 ?_;rw[rounds_succ];go_wp2
  go_ret;exact⟨rfl,rfl⟩
 ·go_enter Tryz.func100,Tryz.ntmps100
  go_wp2_with fail
  refine wp_loop_rounds 2 ?_;rw[rounds_succ];go_wp2
  rw[rounds_succ];go_wp2
  go_ret;exact⟨rfl,rfl⟩
 ·go_enter Tryz.func100,Tryz.ntmps100
  go_wp2_with fail
  refine wp_loop_rounds 3 ?_;rw[rounds_succ];go_wp2
  rw[rounds_succ];go_wp2
  rw[rounds_succ];go_wp2
  go_ret;exact⟨rfl,rfl⟩
 ·go_enter Tryz.func100,Tryz.ntmps100
  go_wp2_with fail
  refine wp_loop_rounds 4 ?_;rw[rounds_succ];go_wp2
  rw[rounds_succ];go_wp2
  rw[rounds_succ];go_wp2
  rw[rounds_succ];go_wp2
  go_ret;exact⟨rfl,rfl⟩
def au (d t:Int) (s:Nat->Int) (bk rm:Int) (kf bf:Nat):Array Value:=#[.int .i64 d,.int .i64 t,.int .i64 (s 0),.int .i64 (s 1),.int .i64 (s 2),.int .i64 (s 3),.int .i64 bk,.int .i64 rm,.float .f64 kf,.float .f64 bf]
structure Hd (d t:Int) (s:Nat->Int) (bk rm:Int):Prop where
 d0:1<=d
 d1:d<=64
 t0:64<=t
 t1:t<=256
 s0:∀ k,k<4->0<=s k
 s1:∀ k,k<4->s k<=512
 b0:0<=bk
 b1:bk<=65536
 r0:0<=rm
 r1:rm<=65536
theorem eu (s:Nat->Int) (w:World):(Instr.index 22 (.agg #[.int .i64 (s 0),.int .i64 (s 1),.int .i64 (s 2),.int .i64 (s 3)]) (.int .i64 0)).run Tryz.prog w=.ok (.int .i64 (s 0)) w:=kZ
theorem eD (s:Nat->Int) (w:World):(Instr.index 22 (.agg #[.int .i64 (s 0),.int .i64 (s 1),.int .i64 (s 2),.int .i64 (s 3)]) (.int .i64 1)).run Tryz.prog w=.ok (.int .i64 (s 1)) w:=kZ
theorem eF (s:Nat->Int) (w:World):(Instr.index 22 (.agg #[.int .i64 (s 0),.int .i64 (s 1),.int .i64 (s 2),.int .i64 (s 3)]) (.int .i64 2)).run Tryz.prog w=.ok (.int .i64 (s 2)) w:=kZ
theorem eB (s:Nat->Int) (w:World):(Instr.index 22 (.agg #[.int .i64 (s 0),.int .i64 (s 1),.int .i64 (s 2),.int .i64 (s 3)]) (.int .i64 3)).run Tryz.prog w=.ok (.int .i64 (s 3)) w:=kZ
theorem yR (w:World) (d t:Int) (s:Nat->Int) (bk rm:Int) (kf bf:Nat) (h:Hd d t s bk rm) :
  Calls Tryz.prog 101 #[.agg (au d t s bk rm kf bf)] w fun e w'=>e=.returned (.bool true)/\Below w.heap.size w w':=by
 unfold au;obtain⟨d0,d1,t0,t1,s0,s1,b0,b1,r0,r1⟩:=h;have a0:=s0 0 oZ;have a1:=s0 1 oZ;have a2:=s0 2 oZ;have a3:=s0 3 oZ;have c0:=s1 0 oZ;have c1:=s1 1 oZ;have c2:=s1 2 oZ;have c3:=s1 3 oZ;clear s0 s1;have i0:=eu s;have i1:=eD s;have i2:=eF s;have i3:=eB s;go_enter Tryz.func101,Tryz.ntmps101
 go_wp2_with fail
 refine wp_loop_rounds 5 ?_;rw[rounds_succ];go_wp2
 rw[rounds_succ];go_wp2
 rw[rounds_succ];go_wp2
 rw[rounds_succ];go_wp2
 rw[rounds_succ];go_wp2
 go_ret;exact⟨rfl,(Below.refl _ _).alloc (Nat.le_refl _) _⟩
theorem yJ (w:World) (d t:Int) (s:Nat->Int) (bk rm:Int) (kf bf:Nat)  (h:s 0<0) :
  Calls Tryz.prog 101 #[.agg (au d t s bk rm kf bf)] w fun e w'=>e=.returned (.bool false)/\Below w.heap.size w w':=by
 unfold au;have i0:=eu s;have i1:=eD s;have i2:=eF s;have i3:=eB s;go_enter Tryz.func101,Tryz.ntmps101
 go_wp2_with fail
 refine wp_loop_rounds 5 ?_;rw[rounds_succ];go_wp2
 go_ret;exact⟨rfl,(Below.refl _ _).alloc (Nat.le_refl _) _⟩
theorem yM (w:World) (d t:Int) (s:Nat->Int) (bk rm:Int) (kf bf:Nat)  (h0:0<=s 0) (h:512<s 0) :
  Calls Tryz.prog 101 #[.agg (au d t s bk rm kf bf)] w fun e w'=>e=.returned (.bool false)/\Below w.heap.size w w':=by
 unfold au;have i0:=eu s;have i1:=eD s;have i2:=eF s;have i3:=eB s;go_enter Tryz.func101,Tryz.ntmps101
 go_wp2_with fail
 refine wp_loop_rounds 5 ?_;rw[rounds_succ];go_wp2
 go_ret;exact⟨rfl,(Below.refl _ _).alloc (Nat.le_refl _) _⟩
theorem zh (w:World) (d t:Int) (s:Nat->Int) (bk rm:Int) (kf bf:Nat) (a0:0<=s 0) (c0:s 0<=512) (h:s 1<0) :
  Calls Tryz.prog 101 #[.agg (au d t s bk rm kf bf)] w fun e w'=>e=.returned (.bool false)/\Below w.heap.size w w':=by
 unfold au;have i0:=eu s;have i1:=eD s;have i2:=eF s;have i3:=eB s;go_enter Tryz.func101,Tryz.ntmps101
 go_wp2_with fail
 refine wp_loop_rounds 5 ?_;rw[rounds_succ];go_wp2
 rw[rounds_succ];go_wp2
 go_ret;exact⟨rfl,(Below.refl _ _).alloc (Nat.le_refl _) _⟩
theorem zi (w:World) (d t:Int) (s:Nat->Int) (bk rm:Int) (kf bf:Nat) (a0:0<=s 0) (c0:s 0<=512) (h0:0<=s 1) (h:512<s 1) :
  Calls Tryz.prog 101 #[.agg (au d t s bk rm kf bf)] w fun e w'=>e=.returned (.bool false)/\Below w.heap.size w w':=by
 unfold au;have i0:=eu s;have i1:=eD s;have i2:=eF s;have i3:=eB s;go_enter Tryz.func101,Tryz.ntmps101
 go_wp2_with fail
 refine wp_loop_rounds 5 ?_;rw[rounds_succ];go_wp2
 rw[rounds_succ];go_wp2
 go_ret;exact⟨rfl,(Below.refl _ _).alloc (Nat.le_refl _) _⟩
theorem yO (w:World) (d t:Int) (s:Nat->Int) (bk rm:Int) (kf bf:Nat) (a0:0<=s 0) (c0:s 0<=512) (a1:0<=s 1) (c1:s 1<=512) (h:s 2<0) :
  Calls Tryz.prog 101 #[.agg (au d t s bk rm kf bf)] w fun e w'=>e=.returned (.bool false)/\Below w.heap.size w w':=by
 unfold au;have i0:=eu s;have i1:=eD s;have i2:=eF s;have i3:=eB s;go_enter Tryz.func101,Tryz.ntmps101
 go_wp2_with fail
 refine wp_loop_rounds 5 ?_;rw[rounds_succ];go_wp2
 rw[rounds_succ];go_wp2
 rw[rounds_succ];go_wp2
 go_ret;exact⟨rfl,(Below.refl _ _).alloc (Nat.le_refl _) _⟩
theorem yX (w:World) (d t:Int) (s:Nat->Int) (bk rm:Int) (kf bf:Nat) (a0:0<=s 0) (c0:s 0<=512) (a1:0<=s 1) (c1:s 1<=512) (h0:0<=s 2) (h:512<s 2) :
  Calls Tryz.prog 101 #[.agg (au d t s bk rm kf bf)] w fun e w'=>e=.returned (.bool false)/\Below w.heap.size w w':=by
 unfold au;have i0:=eu s;have i1:=eD s;have i2:=eF s;have i3:=eB s;go_enter Tryz.func101,Tryz.ntmps101
 go_wp2_with fail
 refine wp_loop_rounds 5 ?_;rw[rounds_succ];go_wp2
 rw[rounds_succ];go_wp2
 rw[rounds_succ];go_wp2
 go_ret;exact⟨rfl,(Below.refl _ _).alloc (Nat.le_refl _) _⟩
theorem yS (w:World) (d t:Int) (s:Nat->Int) (bk rm:Int) (kf bf:Nat) (a0:0<=s 0) (c0:s 0<=512) (a1:0<=s 1) (c1:s 1<=512) (a2:0<=s 2) (c2:s 2<=512) (h:s 3<0) :
  Calls Tryz.prog 101 #[.agg (au d t s bk rm kf bf)] w fun e w'=>e=.returned (.bool false)/\Below w.heap.size w w':=by
 unfold au;have i0:=eu s;have i1:=eD s;have i2:=eF s;have i3:=eB s;go_enter Tryz.func101,Tryz.ntmps101
 go_wp2_with fail
 refine wp_loop_rounds 5 ?_;rw[rounds_succ];go_wp2
 rw[rounds_succ];go_wp2
 rw[rounds_succ];go_wp2
 rw[rounds_succ];go_wp2
 go_ret;exact⟨rfl,(Below.refl _ _).alloc (Nat.le_refl _) _⟩
theorem ze (w:World) (d t:Int) (s:Nat->Int) (bk rm:Int) (kf bf:Nat) (a0:0<=s 0) (c0:s 0<=512) (a1:0<=s 1) (c1:s 1<=512) (a2:0<=s 2) (c2:s 2<=512) (h0:0<=s 3) (h:512<s 3) :
  Calls Tryz.prog 101 #[.agg (au d t s bk rm kf bf)] w fun e w'=>e=.returned (.bool false)/\Below w.heap.size w w':=by
 unfold au;have i0:=eu s;have i1:=eD s;have i2:=eF s;have i3:=eB s;go_enter Tryz.func101,Tryz.ntmps101
 go_wp2_with fail
 refine wp_loop_rounds 5 ?_;rw[rounds_succ];go_wp2
 rw[rounds_succ];go_wp2
 rw[rounds_succ];go_wp2
 rw[rounds_succ];go_wp2
 go_ret;exact⟨rfl,(Below.refl _ _).alloc (Nat.le_refl _) _⟩
theorem BP (w:World) (d t:Int) (s:Nat->Int) (bk rm:Int) (kf bf:Nat) (a0:0<=s 0) (c0:s 0<=512) (a1:0<=s 1) (c1:s 1<=512) (a2:0<=s 2) (c2:s 2<=512) (a3:0<=s 3) (c3:s 3<=512)  (h:d<1) :
  Calls Tryz.prog 101 #[.agg (au d t s bk rm kf bf)] w fun e w'=>e=.returned (.bool false)/\Below w.heap.size w w':=by
 unfold au;have i0:=eu s;have i1:=eD s;have i2:=eF s;have i3:=eB s;have h':decide (1<=d)=false:=decide_eq_false oZ;go_enter Tryz.func101,Tryz.ntmps101
 go_wp2_with fail
 refine wp_loop_rounds 5 ?_;rw[rounds_succ];go_wp2
 rw[rounds_succ];go_wp2
 rw[rounds_succ];go_wp2
 rw[rounds_succ];go_wp2
 rw[rounds_succ];go_wp2
 go_ret;exact⟨rfl,(Below.refl _ _).alloc (Nat.le_refl _) _⟩
theorem Ad (w:World) (d t:Int) (s:Nat->Int) (bk rm:Int) (kf bf:Nat) (a0:0<=s 0) (c0:s 0<=512) (a1:0<=s 1) (c1:s 1<=512) (a2:0<=s 2) (c2:s 2<=512) (a3:0<=s 3) (c3:s 3<=512) (g0:1<=d) (h:64<d) :
  Calls Tryz.prog 101 #[.agg (au d t s bk rm kf bf)] w fun e w'=>e=.returned (.bool false)/\Below w.heap.size w w':=by
 unfold au;have i0:=eu s;have i1:=eD s;have i2:=eF s;have i3:=eB s;have h':decide (d<=64)=false:=decide_eq_false oZ;go_enter Tryz.func101,Tryz.ntmps101
 go_wp2_with fail
 refine wp_loop_rounds 5 ?_;rw[rounds_succ];go_wp2
 rw[rounds_succ];go_wp2
 rw[rounds_succ];go_wp2
 rw[rounds_succ];go_wp2
 rw[rounds_succ];go_wp2
 go_ret;exact⟨rfl,(Below.refl _ _).alloc (Nat.le_refl _) _⟩
theorem Bz (w:World) (d t:Int) (s:Nat->Int) (bk rm:Int) (kf bf:Nat) (a0:0<=s 0) (c0:s 0<=512) (a1:0<=s 1) (c1:s 1<=512) (a2:0<=s 2) (c2:s 2<=512) (a3:0<=s 3) (c3:s 3<=512) (g0:1<=d) (g1:d<=64) (h:t<64) :
  Calls Tryz.prog 101 #[.agg (au d t s bk rm kf bf)] w fun e w'=>e=.returned (.bool false)/\Below w.heap.size w w':=by
 unfold au;have i0:=eu s;have i1:=eD s;have i2:=eF s;have i3:=eB s;have h':decide (64<=t)=false:=decide_eq_false oZ;go_enter Tryz.func101,Tryz.ntmps101
 go_wp2_with fail
 refine wp_loop_rounds 5 ?_;rw[rounds_succ];go_wp2
 rw[rounds_succ];go_wp2
 rw[rounds_succ];go_wp2
 rw[rounds_succ];go_wp2
 rw[rounds_succ];go_wp2
 go_ret;exact⟨rfl,(Below.refl _ _).alloc (Nat.le_refl _) _⟩
theorem Cg (w:World) (d t:Int) (s:Nat->Int) (bk rm:Int) (kf bf:Nat) (a0:0<=s 0) (c0:s 0<=512) (a1:0<=s 1) (c1:s 1<=512) (a2:0<=s 2) (c2:s 2<=512) (a3:0<=s 3) (c3:s 3<=512) (g0:1<=d) (g1:d<=64) (g2:64<=t) (h:256<t) :
  Calls Tryz.prog 101 #[.agg (au d t s bk rm kf bf)] w fun e w'=>e=.returned (.bool false)/\Below w.heap.size w w':=by
 unfold au;have i0:=eu s;have i1:=eD s;have i2:=eF s;have i3:=eB s;have h':decide (t<=256)=false:=decide_eq_false oZ;go_enter Tryz.func101,Tryz.ntmps101
 go_wp2_with fail
 refine wp_loop_rounds 5 ?_;rw[rounds_succ];go_wp2
 rw[rounds_succ];go_wp2
 rw[rounds_succ];go_wp2
 rw[rounds_succ];go_wp2
 rw[rounds_succ];go_wp2
 go_ret;exact⟨rfl,(Below.refl _ _).alloc (Nat.le_refl _) _⟩
theorem AP (w:World) (d t:Int) (s:Nat->Int) (bk rm:Int) (kf bf:Nat) (a0:0<=s 0) (c0:s 0<=512) (a1:0<=s 1) (c1:s 1<=512) (a2:0<=s 2) (c2:s 2<=512) (a3:0<=s 3) (c3:s 3<=512) (g0:1<=d) (g1:d<=64) (g2:64<=t) (g3:t<=256) (h:bk<0) :
  Calls Tryz.prog 101 #[.agg (au d t s bk rm kf bf)] w fun e w'=>e=.returned (.bool false)/\Below w.heap.size w w':=by
 unfold au;have i0:=eu s;have i1:=eD s;have i2:=eF s;have i3:=eB s;have h':decide (0<=bk)=false:=decide_eq_false oZ;go_enter Tryz.func101,Tryz.ntmps101
 go_wp2_with fail
 refine wp_loop_rounds 5 ?_;rw[rounds_succ];go_wp2
 rw[rounds_succ];go_wp2
 rw[rounds_succ];go_wp2
 rw[rounds_succ];go_wp2
 rw[rounds_succ];go_wp2
 go_ret;exact⟨rfl,(Below.refl _ _).alloc (Nat.le_refl _) _⟩
theorem Ac (w:World) (d t:Int) (s:Nat->Int) (bk rm:Int) (kf bf:Nat) (a0:0<=s 0) (c0:s 0<=512) (a1:0<=s 1) (c1:s 1<=512) (a2:0<=s 2) (c2:s 2<=512) (a3:0<=s 3) (c3:s 3<=512) (g0:1<=d) (g1:d<=64) (g2:64<=t) (g3:t<=256) (g4:0<=bk) (h:65536<bk) :
  Calls Tryz.prog 101 #[.agg (au d t s bk rm kf bf)] w fun e w'=>e=.returned (.bool false)/\Below w.heap.size w w':=by
 unfold au;have i0:=eu s;have i1:=eD s;have i2:=eF s;have i3:=eB s;have h':decide (bk<=65536)=false:=decide_eq_false oZ;go_enter Tryz.func101,Tryz.ntmps101
 go_wp2_with fail
 refine wp_loop_rounds 5 ?_;rw[rounds_succ];go_wp2
 rw[rounds_succ];go_wp2
 rw[rounds_succ];go_wp2
 rw[rounds_succ];go_wp2
 rw[rounds_succ];go_wp2
 go_ret;exact⟨rfl,(Below.refl _ _).alloc (Nat.le_refl _) _⟩
theorem BO (w:World) (d t:Int) (s:Nat->Int) (bk rm:Int) (kf bf:Nat) (a0:0<=s 0) (c0:s 0<=512) (a1:0<=s 1) (c1:s 1<=512) (a2:0<=s 2) (c2:s 2<=512) (a3:0<=s 3) (c3:s 3<=512) (g0:1<=d) (g1:d<=64) (g2:64<=t) (g3:t<=256) (g4:0<=bk) (g5:bk<=65536) (h:rm<0) :
  Calls Tryz.prog 101 #[.agg (au d t s bk rm kf bf)] w fun e w'=>e=.returned (.bool false)/\Below w.heap.size w w':=by
 unfold au;have i0:=eu s;have i1:=eD s;have i2:=eF s;have i3:=eB s;have h':decide (0<=rm)=false:=decide_eq_false oZ;go_enter Tryz.func101,Tryz.ntmps101
 go_wp2_with fail
 refine wp_loop_rounds 5 ?_;rw[rounds_succ];go_wp2
 rw[rounds_succ];go_wp2
 rw[rounds_succ];go_wp2
 rw[rounds_succ];go_wp2
 rw[rounds_succ];go_wp2
 go_ret;exact⟨rfl,(Below.refl _ _).alloc (Nat.le_refl _) _⟩
theorem Ci (w:World) (d t:Int) (s:Nat->Int) (bk rm:Int) (kf bf:Nat) (a0:0<=s 0) (c0:s 0<=512) (a1:0<=s 1) (c1:s 1<=512) (a2:0<=s 2) (c2:s 2<=512) (a3:0<=s 3) (c3:s 3<=512) (g0:1<=d) (g1:d<=64) (g2:64<=t) (g3:t<=256) (g4:0<=bk) (g5:bk<=65536) (g6:0<=rm) (h:65536<rm) :
  Calls Tryz.prog 101 #[.agg (au d t s bk rm kf bf)] w fun e w'=>e=.returned (.bool false)/\Below w.heap.size w w':=by
 unfold au;have i0:=eu s;have i1:=eD s;have i2:=eF s;have i3:=eB s;have h':decide (rm<=65536)=false:=decide_eq_false oZ;go_enter Tryz.func101,Tryz.ntmps101
 go_wp2_with fail
 refine wp_loop_rounds 5 ?_;rw[rounds_succ];go_wp2
 rw[rounds_succ];go_wp2
 rw[rounds_succ];go_wp2
 rw[rounds_succ];go_wp2
 rw[rounds_succ];go_wp2
 go_ret;exact⟨rfl,(Below.refl _ _).alloc (Nat.le_refl _) _⟩
theorem AV (w:World) (d t:Int) (s:Nat->Int) (bk rm:Int) (kf bf:Nat) (h:¬ Hd d t s bk rm) :
  Calls Tryz.prog 101 #[.agg (au d t s bk rm kf bf)] w fun e w'=>e=.returned (.bool false)/\Below w.heap.size w w':=by
 by_cases a0:0<=s 0
 rotate_left;· exact yJ _ _ _ _ _ _ _ _ oZ
 by_cases c0:s 0<=512
 rotate_left;· exact yM _ _ _ _ _ _ _ _ a0 oZ
 by_cases a1:0<=s 1
 rotate_left;· exact zh _ _ _ _ _ _ _ _ a0 c0 oZ
 by_cases c1:s 1<=512
 rotate_left;· exact zi _ _ _ _ _ _ _ _ a0 c0 a1 oZ
 by_cases a2:0<=s 2
 rotate_left;· exact yO _ _ _ _ _ _ _ _ a0 c0 a1 c1 oZ
 by_cases c2:s 2<=512
 rotate_left;· exact yX _ _ _ _ _ _ _ _ a0 c0 a1 c1 a2 oZ
 by_cases a3:0<=s 3
 rotate_left;· exact yS _ _ _ _ _ _ _ _ a0 c0 a1 c1 a2 c2 oZ
 by_cases c3:s 3<=512
 rotate_left;· exact ze _ _ _ _ _ _ _ _ a0 c0 a1 c1 a2 c2 a3 oZ
 by_cases g0:1<=d
 rotate_left;· exact BP _ _ _ _ _ _ _ _ a0 c0 a1 c1 a2 c2 a3 c3 oZ
 by_cases g1:d<=64
 rotate_left;· exact Ad _ _ _ _ _ _ _ _ a0 c0 a1 c1 a2 c2 a3 c3 g0 oZ
 by_cases g2:64<=t
 rotate_left;· exact Bz _ _ _ _ _ _ _ _ a0 c0 a1 c1 a2 c2 a3 c3 g0 g1 oZ
 by_cases g3:t<=256
 rotate_left;· exact Cg _ _ _ _ _ _ _ _ a0 c0 a1 c1 a2 c2 a3 c3 g0 g1 g2 oZ
 by_cases g4:0<=bk
 rotate_left;· exact AP _ _ _ _ _ _ _ _ a0 c0 a1 c1 a2 c2 a3 c3 g0 g1 g2 g3 oZ
 by_cases g5:bk<=65536
 rotate_left;· exact Ac _ _ _ _ _ _ _ _ a0 c0 a1 c1 a2 c2 a3 c3 g0 g1 g2 g3 g4 oZ
 by_cases g6:0<=rm
 rotate_left;· exact BO _ _ _ _ _ _ _ _ a0 c0 a1 c1 a2 c2 a3 c3 g0 g1 g2 g3 g4 g5 oZ
 by_cases g7:rm<=65536
 rotate_left;· exact Ci _ _ _ _ _ _ _ _ a0 c0 a1 c1 a2 c2 a3 c3 g0 g1 g2 g3 g4 g5 g6 oZ
 have four:∀ k,k<4->k=0∨k=1∨k=2∨k=3:=oZ;exact absurd ⟨g0,g1,g2,g3,fun k hk=>by rcases four k hk with rfl | rfl | rfl | rfl <;> assumption,fun k hk=>by rcases four k hk with rfl | rfl | rfl | rfl <;> assumption,g4,g5,g6,g7⟩ h
def slotsOf (t:Int):Int:=if t<128 then 128 else if t<256 then 256 else 512
theorem GN (w:World) (t:Int) (h0:64<=t) (h1:t<=256):Calls Tryz.prog 103 #[.int .i64 t] w fun e w'=>e=.returned (.int .i64 (slotsOf t))/\w=w':=by
 by_cases a:t<128
 ·have e:slotsOf t=128:=by simp[slotsOf,a]
  rw[e];go_enter Tryz.func103,Tryz.ntmps103
  go_wp2_with fail
  refine wp_loop_rounds 8 ?_;rw[rounds_succ];go_wp2
  rw[rounds_succ];go_wp2
  rw[rounds_succ];go_wp2
  rw[rounds_succ];go_wp2
  rw[rounds_succ];go_wp2
  rw[rounds_succ];go_wp2
  rw[rounds_succ];go_wp2
  rw[rounds_succ];go_wp2
  go_ret;exact⟨rfl,rfl⟩
 ·by_cases b:t<256
  ·have e:slotsOf t=256:=by simp[slotsOf,a,b]
   rw[e];have a':128<=t:=oZ;go_enter Tryz.func103,Tryz.ntmps103
   go_wp2_with fail
   refine wp_loop_rounds 9 ?_;rw[rounds_succ];go_wp2
   rw[rounds_succ];go_wp2
   rw[rounds_succ];go_wp2
   rw[rounds_succ];go_wp2
   rw[rounds_succ];go_wp2
   rw[rounds_succ];go_wp2
   rw[rounds_succ];go_wp2
   rw[rounds_succ];go_wp2
   rw[rounds_succ];go_wp2
   go_ret;exact⟨rfl,rfl⟩
  ·have e:slotsOf t=512:=by simp[slotsOf,a,b]
   rw[e];have b':t=256:=oZ;clear e a b h0 h1;subst b';go_enter Tryz.func103,Tryz.ntmps103
   go_wp2_with fail
   refine wp_loop_rounds 10 ?_;rw[rounds_succ];go_wp2
   rw[rounds_succ];go_wp2
   rw[rounds_succ];go_wp2
   rw[rounds_succ];go_wp2
   rw[rounds_succ];go_wp2
   rw[rounds_succ];go_wp2
   rw[rounds_succ];go_wp2
   rw[rounds_succ];go_wp2
   rw[rounds_succ];go_wp2
   rw[rounds_succ];go_wp2
   go_ret;exact⟨rfl,rfl⟩
end Go.Proofs.YtafaohnhlgcnpaaGreatDoor
