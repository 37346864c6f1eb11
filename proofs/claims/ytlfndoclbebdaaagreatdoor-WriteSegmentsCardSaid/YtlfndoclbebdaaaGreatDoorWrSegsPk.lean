/-
 What stage 12 rests on.
-/
import Derived.Test.YtlfndoclbebdaaaGreatDoorWrAlA1
import Derived.Test.YtlfndoclbebdaaaGreatDoorWrSegNewPk
import Derived.Test.YtlfndoclbebdaaaGreatDoorWrAlK1
import Derived.Test.YtlfndoclbebdaaaGreatDoorWrAlM1
import Derived.Test.YtlfndoclbebdaaaGreatDoorWrAlI3
import Derived.Test.YtlfndoclbebdaaaGreatDoorWrAlI1
set_option maxRecDepth 100000
set_option maxHeartbeats 16000000
namespace Go.Proofs.YtlfndoclbebdaaaGreatDoor
open Go.RowKit
theorem QZ (w:World) (s:Sg) (h0:-1100000000000<=s.1) (h1:s.1<=1100000000000):Calls Tryz.prog 26 #[.agg #[.int .i64 s.1,.int .i64 s.2.1,.bool s.2.2]] w fun e w'=>e=.returned (.int .i64 (dN s))/\Below w.heap.size w w':=by
 obtain⟨a,d,z⟩:=s
 simp only at h0 h1
 have s1:IntKind.i64.wrap (a+1)=a+1:=iZ _ oZ
 have s2:IntKind.i64.wrap (a+2)=a+2:=iZ _ oZ
 unfold dN
 cases z
 all_goals
  go_enter Tryz.func26,Tryz.ntmps26
  go_wp2_with fail
  go_ret
  exact⟨rfl,au⟩
def Rx (w:World) (b c:Nat) (ok:Prop) (e:Ending) (w':World):Prop :=
 ∃ so n k x f l s,e=.returned (.tuple #[.agg (aQ (.slice so n k) x),.int .i64 f])/\bI (fun j=>j=b∨j=c) w w'/\(∃ cs,dD w' b c cs l s)/\(¬ ok->f=1/\s=0)
theorem Rk {w:World} {b c N:Nat} (h1:1<=N) (hM:dD w b c (List.replicate N 0) 0 0) (d t:Int) (ss:Nat->Int) (bk rm:Int) (kf bf:Nat) :
  Calls Tryz.prog 35 #[.pointer (some ⟨b,0,none⟩),.agg (ak d t ss bk rm kf bf)] w (Rx w b c (fU d t ss bk rm/\az (aB ss bk rm) 6=(N:Int))):=by
 have no:∀ e w',Ri w e w'->Rx w b c (fU d t ss bk rm/\az (aB ss bk rm) 6=(N:Int)) e w':=by
  rintro e w' ⟨rfl,hb⟩
  exact⟨none,0,0,aO,1,0,0,rfl,Below.mod hb _ (fun k h1 h2=>absurd h1 oZ),⟨_,hM.below hb⟩,fun _=>⟨rfl,rfl⟩⟩
 by_cases h:fU d t ss bk rm
 ·obtain⟨n,an,ln,m,dd,hN⟩:=QK h
  by_cases hn:N=n
  ·subst hn
   have yes:fU d t ss bk rm/\az (aB ss bk rm) 6=(N:Int):=⟨h,hN.cells⟩
   have hln:=hN.ln_
   have hm1:=hN.m1
   have hd1:=hN.d1
   have hs0:=hN.s0
   have hfits:=hN.fits
   have han:=hN.an_
   have ha3:=hN.a3
   have hn1:=hN.n1
   have hm0:=hN.m0
   by_cases hf:(ln:Int)+2<=aB ss bk rm 5
   ·refine(OL hM oZ oZ d t ss bk rm kf bf h hN.plan sZ oZ hf oZ oZ hN.an_ oZ oZ).mono ?_
    rintro e w4 ⟨sg,rfl,hm4,hg4,hmod⟩
    exact⟨_,_,_,_,_,_,_,rfl,hmod,⟨_,hm4⟩,fun h=>absurd yes h⟩
   ·refine(Je hM d t ss bk rm kf bf h hN.plan sZ oZ oZ oZ oZ oZ).mono ?_
    rintro e w4 ⟨rfl,hb⟩
    exact⟨_,_,_,_,_,_,_,rfl,Below.mod hb _ (fun k h1 h2=>absurd h1 oZ),⟨_,hM.below hb⟩,fun h=>absurd yes h⟩
  ·exact(Q8 w _ N (fun w' hb=>by have:=yx (hM.below hb);rwa [List.length_replicate] at this) d t ss bk rm kf bf h hN.cells hn).mono no
 ·exact(Q5 w _ d t ss bk rm kf bf h).mono no
theorem Rq (w:World) (d t:Int) (ss:Nat->Int) (bk rm:Int) (kf bf:Nat) :
  Calls Tryz.prog 35 #[.pointer none,.agg (ak d t ss bk rm kf bf)] w (Ri w):=by
 by_cases h:fU d t ss bk rm
 ·obtain⟨n,an,ln,m,dd,hN⟩:=QK h
  have:=hN.fits
  have:=hN.a3
  have:=hN.s0
  exact Q8 w none 0 (fun w' _=>len_nil w') d t ss bk rm kf bf h hN.cells oZ
 ·exact Q5 w _ d t ss bk rm kf bf h
theorem Q7 (w:World) (d t:Int) (ss:Nat->Int) (bk rm:Int) (kf bf:Nat) :
  Calls Tryz.prog 33 #[.agg (ak d t ss bk rm kf bf)] w fun e w'=>∃ B S C T L er,e=.returned (.tuple #[.agg (af B S C T L),.int .i64 er])/\Below w.heap.size w w'/\((fU d t ss bk rm/\er=0/\C=az (aB ss bk rm) 6)∨(¬ fU d t ss bk rm/\er=1)):=by
 by_cases h:fU d t ss bk rm
 ·exact(lI w d t ss bk rm kf bf h).mono fun e w' ⟨he,hb⟩=>⟨_,_,_,_,_,_,he,hb,.inl ⟨h,rfl,rfl⟩⟩
 ·exact(FO w d t ss bk rm kf bf h).mono fun e w' ⟨he,hb⟩=>⟨_,_,_,_,_,_,he,hb,.inr ⟨h,rfl⟩⟩
end Go.Proofs.YtlfndoclbebdaaaGreatDoor
