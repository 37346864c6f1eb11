/-
 What stage 12 rests on.
-/
import Derived.Test.YtlfndoclbebdaaaGreatDoorWrErA1
import Derived.Test.YtlfndoclbebdaaaGreatDoorWrErI2
import Derived.Test.YtlfndoclbebdaaaGreatDoorWrErL1
import Derived.Test.YtlfndoclbebdaaaGreatDoorWrErC4
import Derived.Test.YtlfndoclbebdaaaGreatDoorWrErC5
import Derived.Maps.OwnOps
import Derived.Maps.Views
set_option maxRecDepth 100000
set_option maxHeartbeats 16000000
namespace Go.Proofs.YtlfndoclbebdaaaGreatDoor
open Go.RowKit
theorem PT:KC 2 64 Qo 20 200 A7 KZ ((247:Nat):Int) ((137:Nat):Int) 128:=⟨LU,PK.plan,dZ,dZ⟩
def QT:Nat->Nat->List Int->Sx->dm->Prop
 | 0,nd,cs,x,d=>nd=0/\cs=nI 247 47 137/\x=bn 47 137/\d=fun _=>none
 | 1,nd,cs,x,_=>zJ False 1 nd cs x
 | 2,nd,cs,x,_=>zJ False 1 nd cs x
 | _,nd,cs,x,_=>zJ True 2 nd cs x
structure Ot (w wx:World) (Wb mb mc ob tb k:Nat):Prop where
 st:∃ nd cs x d l s og og2 gc gc2 gz,DW w wx Wb mb mc 2 64 Qo 20 200 0 0 A7 KZ ((247:Nat):Int) ((137:Nat):Int) 128 247 nd cs x d l s og og2 gc gc2 gz/\QT k nd cs x d/\l+s<=3+500000*(k:Int)
 op:wx.heap[ob]?=some (.cells #[.bool false,.int .u32 7,.slice (some ⟨tb,0,none⟩) 1 1] 37 (0,0))
 tx:wx.heap[tb]?=some (.cells #[.string ⟨#[102,111,120,32,102,111,120]⟩] 9 (0,0))
 ne:(ob≠mb/\ob≠mc/\ob≠Wb)/\(tb≠mb/\tb≠mc/\tb≠Wb)
section
variable {w wx:World} {Wb mb mc ob tb k:Nat}
theorem Ot.texts (h:Ot w wx Wb mb mc ob tb k) (hT:ed w) (wr:World) (hwr:∀ j,j<wx.heap.size->j≠mb->j≠mc->wr.heap[j]?=wx.heap[j]?):ed wr/\iY wr (some ⟨tb,0,none⟩) PU:=by
 obtain⟨nd,cs,x,d,l,s,og,og2,gc,gc2,gz,hD,-,-⟩:=h.st
 have h1:=hD.low.size
 have h2:=hD.oldm
 have h3:=hD.oldc
 refine⟨l7.tabs (fun j hj=>(hwr j oZ oZ oZ).trans (hD.low.block j hj)) hT,fun j t hj=>?_⟩
 rcases j with _ | j
 ·obtain rfl:_=t:=Option.some.inj hj
  exact⟨tb,0,rfl,ae ((hwr tb (lt_of_heap h.tx) h.ne.2.1 h.ne.2.2.1).trans h.tx) 0⟩
 ·simp[PU] at hj
theorem QT.dR {nd:Nat} {cs:List Int} {x:Sx} {d:dm} (h:QT k nd cs x d):x.dR=if k=0 then 0 else if k<=2 then 1 else 2:=by
 rcases k with _|_|_|k
 ·obtain⟨-,-,rfl,-⟩:=h
  rfl
 ·exact h.2.2.2
 ·exact h.2.2.2
 ·rw[if_neg oZ,if_neg oZ]
  exact h.2.2.2
theorem Ot.cell (h:Ot w wx Wb mb mc ob tb k):wx.cell? ⟨Wb,28,none⟩=some (.int .u32 (if k=0 then 0 else if k<=2 then 1 else 2)):=by
 obtain⟨nd,cs,x,d,l,s,og,og2,gc,gc2,gz,hD,hP,-⟩:=h.st
 rw[<- hP.dR]
 exact(ae hD.box 28).trans (kQ rfl rfl 2 _ rfl)
theorem Ot.add (hk:k<2) (hT:ed w) (h:Ot w wx Wb mb mc ob tb k) :
  Calls Tryz.prog 18 #[.pointer (some ⟨Wb,0,none⟩),.agg #[.bool false,.int .u32 7,.slice (some ⟨tb,0,none⟩) 1 1]] wx fun e w'=>e=.returned (.bool true)/\Ot w w' Wb mb mc ob tb (k+1):=by
 obtain⟨nd,cs,x,d,l,s,og,og2,gc,gc2,gz,hD,hP,hl⟩:=h.st
 have hv:=hP.dR
 refine(NC PT hD 7 (by rw[hv];split <;> (try split) <;> omega) oZ (some ⟨tb,0,none⟩) PU 1 dZ dZ ⟨dZ,dZ⟩ (h.texts hT)).mono ?_
 rintro e w' ⟨rfl,e0,cs',x',nd',d',l',s',og',og2',gc',gc2',gz',hg,hs,hD',hfr⟩
 refine⟨rfl,⟨nd',cs',x',d',l',s',og',og2',gc',gc2',gz',hD',?_,oZ⟩,(hfr ob (lt_of_heap h.op) h.ne.1.1 h.ne.1.2.1 h.ne.1.2.2).trans h.op,(hfr tb (lt_of_heap h.tx) h.ne.2.1 h.ne.2.2.1 h.ne.2.2.2).trans h.tx,h.ne⟩
 rcases k with _|_|k
 ·obtain⟨rfl,rfl,rfl,rfl⟩:=hP
  exact Qa hg
 ·exact Qx hD.inv hP hg
 ·omega
theorem Ot.del (hk:2<=k/\k<4) (hT:ed w) (h:Ot w wx Wb mb mc ob tb k) :
  Calls Tryz.prog 18 #[.pointer (some ⟨Wb,0,none⟩),.agg #[.bool true,.int .u32 7,.slice (some ⟨tb,0,none⟩) 1 1]] wx fun e w'=>e=.returned (.bool true)/\Ot w w' Wb mb mc ob tb (k+1):=by
 obtain⟨nd,cs,x,d,l,s,og,og2,gc,gc2,gz,hD,hP,hl⟩:=h.st
 have hv:=hP.dR
 refine(LZ PT hD 7 (by rw[hv];split <;> (try split) <;> omega) oZ (some ⟨tb,0,none⟩) 1 1 hT).mono ?_
 rintro e w' ⟨rfl,e0,cs',x',l',s',og',og2',gc',gc2',gz',hg,hs,hD',hfr⟩
 refine⟨rfl,⟨nd,cs',x',d,l',s',og',og2',gc',gc2',gz',hD',?_,oZ⟩,(hfr ob (lt_of_heap h.op) h.ne.1.1 h.ne.1.2.1 h.ne.1.2.2).trans h.op,(hfr tb (lt_of_heap h.tx) h.ne.2.1 h.ne.2.2.1 h.ne.2.2.2).trans h.tx,h.ne⟩
 rcases k with _|_|_|_|k
 ·omega
 ·omega
 ·exact Ls hD.inv hP hg
 ·exact PE hD.inv hP hg
 ·omega
end
section
variable {P:Program}
theorem mf {ops:Array Oper} {rest:List Oper} {o:Oper} {a:Act} {w:World} {Q:Exit->Act->World->Prop} (hw:Region.wanted o (yielded ops a.tmps)=true) (ty:TypeId) (x:Operand) (ho:o.op=.load ty x)
  (g:Nat) (hx:a.eval x=.pointer (some ⟨g,0,none⟩)) (t:TypeId) (cs:Array Value) (fr:Nat×Nat) (d:TypeDesc) (hg:w.heap[g]?=some (.cells cs t fr))
  (hu:P.underlying ty=some d) (hd:(match d with | .struct _ | .array _ _=>true | _=>false)=true) (hi:(P.info? ty).map (·.size)=some cs.size)
  (h:wpList P ops Q rest (a.put o.dst (.agg cs)) w):wpList P ops Q (o :: rest) a w :=
 wpList_step fun K hK=>by
  rw[if_pos hw]
  exact wp_load_row ty x ho g hx t cs fr d hg hu hd hi (hK _ _ h)
end
theorem DW.under {W0 W W':World} {Wb mb cb dd:Nat} {tt:Int} {ss:Nat->Int} {bk rm:Int} {kf bf:Nat} {B S:Nat->Int} {C L:Int} {m n nd:Nat} {cs:List Int} {x:Sx} {d:dm} {l s:Int} {og og2:Option Addr} {gc gc2 gz:Nat} (h:DW W0 W Wb mb cb dd tt ss bk rm kf bf B S C L m n nd cs x d l s og og2 gc gc2 gz) (hb:Below W.heap.size W W'):DW W0 W' Wb mb cb dd tt ss bk rm kf bf B S C L m n nd cs x d l s og og2 gc gc2 gz :=
 ⟨aj h.box hb,h.mem.below hb,h.l0,h.s0,h.row.below hb,h.zc,h.aH.under hb,h.segs2.under hb,h.inv,h.len,ah h.low hb,h.oldm,h.oldc,h.oldb⟩
theorem qC (w:World) (hT:ed w):Calls Tryz.prog 15 #[] w fun e w'=>e=.returned (.bool true)/\Below w.heap.size w w':=by
 have HT:=hJ hT
 clear hT
 go_enter Tryz.func15,Tryz.ntmps15
 go_wp2_with fail
 refine(DJ w 2 64 Qo 20 200 0 0 LU PK oZ dZ).mono ?_
 rintro e w1 ⟨Wb,mb,mc,og,og2,gc,gc2,gz,rfl,hdw⟩
 have HD:=hJ hdw
 clear hdw
 go_upto_region 5 with fail
 have HX0:=hJ (show Ot w ((w1.alloc (.cells #[.string ⟨#[102,111,120,32,102,111,120]⟩] 9)).alloc (.cells #[.bool false,.int .u32 7,.slice (some ⟨w1.heap.size,0,none⟩) 1 1] 37)) Wb mb mc (w1.heap.size+1) w1.heap.size 0 from by
  have hD:=HD.out
  have h1:=lt_of_heap hD.mem.rec_
  have h2:=lt_of_heap hD.mem.row
  have h3:=lt_of_heap hD.box
  exact⟨⟨0,_,_,_,0,3,og,og2,gc,gc2,gz,hD.under dL,⟨rfl,rfl,rfl,rfl⟩,oZ⟩,fK _ _ _,fO _ _ _,⟨oZ,oZ,oZ⟩,oZ,oZ,oZ⟩)
 clear HD
 generalize (w1.alloc (.cells #[.string ⟨#[102,111,120,32,102,111,120]⟩] 9)).alloc (.cells #[.bool false,.int .u32 7,.slice (some ⟨w1.heap.size,0,none⟩) 1 1] 37)=w2 at HX0 ⊢
 generalize w1.heap.size+1=ob at HX0 ⊢
 generalize w1.heap.size=tb at HX0 ⊢
 go_wp2_with (first
  | (refine yZ rfl 37 (.tmp 3) rfl ob rfl 37 #[.bool false,.int .u32 7,.slice (some ⟨tb,0,none⟩) 1 1] (0,0) _ HX0.out.op Tryz.underlying37 rfl (mP _ _ _) ?_)
  | fail)
 refine(HX0.out.add oZ HT.out).mono ?_;rintro e w3 ⟨rfl,h1⟩
 have HX1:=hJ h1
 have q:w3.cell? ⟨Wb,28,none⟩=some (.int .u32 1):=h1.cell
 clear h1
 go_wp2_with (first
  | (refine mf rfl 37 (.tmp 3) rfl ob rfl 37 #[.bool false,.int .u32 7,.slice (some ⟨tb,0,none⟩) 1 1] (0,0) _ HX1.out.op Tryz.underlying37 rfl (mP _ _ _) ?_)
  | fail)
 refine(HX1.out.add oZ HT.out).mono ?_;rintro e w4 ⟨rfl,h2⟩
 have HX2:=hJ h2
 clear q
 have q:w4.cell? ⟨Wb,28,none⟩=some (.int .u32 1):=h2.cell
 clear h2
 go_wp2_with (first
  | (refine iR rfl 35 (.tmp 45) rfl ob 1 rfl 37 #[.bool false,.int .u32 7,.slice (some ⟨tb,0,none⟩) 1 1] #[.int .u32 7,.slice (some ⟨tb,0,none⟩) 1 1] (0,0) _ HX2.out.op (tV _ _ _) Tryz.underlying35 rfl (uN _ _) ?_)
  | fail)
 refine(HX2.out.del oZ HT.out).mono ?_;rintro e w5 ⟨rfl,h3⟩
 have HX3:=hJ h3
 clear q
 have q:w5.cell? ⟨Wb,28,none⟩=some (.int .u32 2):=h3.cell
 clear h3
 go_wp2_with (first
  | (refine iR rfl 35 (.tmp 60) rfl ob 1 rfl 37 #[.bool false,.int .u32 7,.slice (some ⟨tb,0,none⟩) 1 1] #[.int .u32 7,.slice (some ⟨tb,0,none⟩) 1 1] (0,0) _ HX3.out.op (tV _ _ _) Tryz.underlying35 rfl (uN _ _) ?_)
  | fail)
 refine(HX3.out.del oZ HT.out).mono ?_;rintro e w6 ⟨rfl,h4⟩
 obtain⟨nd,cs,x,d,l,s,og,og2,gc,gc2,gz,hD,-,-⟩:=h4.st
 have HLw:=hJ hD.low
 clear q
 have q:w6.cell? ⟨Wb,28,none⟩=some (.int .u32 2):=h4.cell
 clear h4 hD
 go_wp2_with fail
 go_ret
 exact⟨rfl,HLw.out⟩
section
variable {w W W':World} {Wb mb mc dd:Nat} {tt:Int} {ss:Nat->Int} {bk rm:Int} {kf bf:Nat} {B S:Nat->Int} {C L:Int} {m n i nd:Nat} {cs:List Int} {x:Sx} {d:dm} {l s:Int} {og og2:Option Addr} {gc gc2 gz:Nat}
theorem DW.keeps (hD:DW w W Wb mb mc dd tt ss bk rm kf bf B S C L m n nd cs x d l s og og2 gc gc2 gz) {wr:World} (h:∀ k,k<W.heap.size->k≠mb->k≠mc->wr.heap[k]?=W.heap[k]?):l7 w.heap.size w wr:=fun k hk=>by
 have h1:=hD.low.size
 have h2:=hD.oldm
 have h3:=hD.oldc
 exact(h k oZ oZ oZ).trans (hD.low.block k hk)
end
section
variable {W0 W1 W W':World} {Wb mb cb dd:Nat} {tt:Int} {ss:Nat->Int} {bk rm:Int} {kf bf:Nat} {B S:Nat->Int} {C L:Int} {m n nd:Nat} {cs:List Int} {x:Sx} {d:dm} {l s:Int} {og og2:Option Addr} {gc gc2 gz:Nat}
end
theorem Sl (w:World) (d t:Int) (ss:Nat->Int) (bk rm:Int) (kf bf:Nat) (h:¬ ∃ n an ln m dd:Nat,fU d t ss bk rm/\CN d t ss bk rm n an ln m dd/\n<=5000/\(ln:Int)+2<=aB ss bk rm 5) :
  Calls Tryz.prog 14 #[.agg (ak d t ss bk rm kf bf)] w fun e w'=>e=.returned (.tuple #[.pointer none,.bool true])/\Below w.heap.size w w':=by
 by_cases ho:fU d t ss bk rm
 ·obtain⟨n,an,ln,m,dd,hN⟩:=QK ho
  by_cases hg:n<=5000
  ·by_cases hf:(ln:Int)+2<=aB ss bk rm 5
   ·exact absurd ⟨n,an,ln,m,dd,ho,hN,hg,hf⟩ h
   ·exact FV w d t ss bk rm kf bf ho hN hg oZ
  ·exact EO w d t ss bk rm kf bf ho (by rw[hN.cells];omega)
 ·exact Kv w d t ss bk rm kf bf ho
end Go.Proofs.YtlfndoclbebdaaaGreatDoor
namespace Go.Proofs.YtlfndoclbebdaaaGreatDoor
open Go.RowKit Go.Maps Go.ChangeAt Go.WideShapes
def SB (s0:Int) (k:Nat):Int:=if k=0 then s0 else 0
theorem TA:Keyed Tryz.prog 32:=int_keyed Tryz.underlying32
theorem Tm (w:World):(zeroValue 3).run Tryz.prog w=.ok (.int .i64 0) w:=kZ
def MapU (w:World) (m N:Nat) (D:DataW Unit):Prop:=w.ownsMap Tryz.prog 32 (plainElem (H:=Unit) Tryz.prog 3) m N D
theorem MapU.lt {w:World} {m N:Nat} {D:DataW Unit} (h:MapU w m N D):m<w.heap.size:=World.ownsMap.lt h
theorem MapU.block {w w':World} {m N:Nat} {D:DataW Unit} (h:MapU w m N D) (hb:w'.heap[m]?=w.heap[m]?):MapU w' m N D:=by
 obtain⟨es,clock,h1,h2⟩:=h
 exact⟨es,clock,hb.trans h1,h2⟩
theorem MapU.below {w w':World} {m N:Nat} {D:DataW Unit} (h:MapU w m N D) (hb:Below w.heap.size w w'):MapU w' m N D:=h.block (hb.block m h.lt)
theorem MapU.ne {w:World} {m N:Nat} {D:DataW Unit} (h:MapU w m N D) {k:Nat} {c:Array Value} {t:TypeId} (hk:w.heap[k]?=some (.cells c t (0,0))):k≠m:=by
 rintro rfl
 obtain⟨es,clock,h1,h2⟩:=h
 rw[hk] at h1
 cases h1
def SS (D:DataW Unit) (ids:List Int):Prop:=∀ y:Int,D.atKey (.int .u32 y) (.lit (.int .i64 0))=.lit (.int .i64 (if y∈ids then 1 else 0))
theorem wf_u32 {x:Int} (h:U x):(Lit.int .u32 x).wf=true:=by
 obtain⟨h0,h1⟩:=h
 simp[Lit.wf,IntKind.min,IntKind.max,IntKind.signed,IntKind.bits]
 omega
theorem SL {c e:Int} (h:(DataW.lit (.int .i64 c):DataW Unit)=.lit (.int .i64 e)):c=e:=by simpa using h
section
variable {W0 W W':World} {Wb mb cb dd:Nat} {tt:Int} {ss:Nat->Int} {bk rm:Int} {kf bf:Nat} {B S:Nat->Int} {C L:Int} {m n nd:Nat} {cs:List Int} {x:Sx} {d:dm} {l s:Int} {og og2:Option Addr} {gc gc2 gz:Nat}
theorem bF.past {base:Nat} {v:Value} {l:List Sg} (h:bF W base v l) (hk:∀ (k:Nat) (c:Array Value) (t:TypeId),W.heap[k]?=some (.cells c t (0,0))->W'.heap[k]?=W.heap[k]?):bF W' base v l:=by
 obtain⟨h0,h | ⟨g',cap,cur,k1,k2,k3,k4⟩⟩:=h
 ·exact⟨h0,.inl h⟩
 ·exact⟨h0,.inr ⟨g',cap,cur,k1,k2,(hk g' _ _ k3).trans k3,k4⟩⟩
theorem DW.past (h:DW W0 W Wb mb cb dd tt ss bk rm kf bf B S C L m n nd cs x d l s og og2 gc gc2 gz) (low:Below W0.heap.size W0 W') (hk:∀ (k:Nat) (c:Array Value) (t:TypeId),W.heap[k]?=some (.cells c t (0,0))->W'.heap[k]?=W.heap[k]?):DW W0 W' Wb mb cb dd tt ss bk rm kf bf B S C L m n nd cs x d l s og og2 gc gc2 gz:=by
 refine⟨(hk _ _ _ h.box).trans h.box,h.mem.eY (hk _ _ _ h.mem.rec_) (hk _ _ _ h.mem.row),h.l0,h.s0,?_,h.zc,bF.past h.aH hk,bF.past h.segs2 hk,h.inv,h.len,low,h.oldm,h.oldc,h.oldb⟩
 obtain⟨cur,hc,_⟩:=h.row
 exact h.row.of_block (hk _ _ _ hc)
end
theorem letter {i:Nat} (h:i<13):Utf8.encode (98+(i:Int))=⟨#[UInt8.ofNat (98+i)]⟩:=by
 rcases (show i=0∨i=1∨i=2∨i=3∨i=4∨i=5∨i=6∨i=7∨i=8∨i=9∨i=10∨i=11∨i=12 by omega) with h | h | h | h | h | h | h | h | h | h | h | h | h
 all_goals (subst h;rfl)
theorem SY (w:World):(Instr.makeSlice 33 (.int .i64 5) (.int .i64 5)).run Tryz.prog w=.ok (.slice (some ⟨w.heap.size,0,none⟩) 5 5) (w.alloc (.cells #[.string ⟨#[]⟩,.string ⟨#[]⟩,.string ⟨#[]⟩,.string ⟨#[]⟩,.string ⟨#[]⟩] 9)):=by
 kernel_rfl
theorem SK {w:World} {g:Nat} {sv:ByteArray} (h:w.heap[g]?=some (.cells #[.string sv] 9 (0,0))):iY w (some ⟨g,0,none⟩) [sv]:=by
 intro j x hj
 refine⟨g,0,rfl,?_⟩
 rcases j with _ | j
 ·simp at hj;subst hj;exact ae h _
 ·simp at hj
theorem S9 {w:World} {g:Nat} (h:w.heap[g]?=some (.cells #[.string ⟨#[]⟩,.string ⟨#[]⟩,.string ⟨#[]⟩,.string ⟨#[]⟩,.string ⟨#[]⟩] 9 (0,0))):iY w (some ⟨g,0,none⟩) Ti:=by
 intro j x hj
 refine⟨g,0,rfl,?_⟩
 unfold Ti at hj
 rcases j with _|_|_|_|_|j
 all_goals first | (simp at hj;subst hj;exact ae h _) | simp at hj
theorem SI {i:Nat}:∀ f∈SG i,f.size<=1000000:=by
 intro f hf
 simp only[SG,List.mem_cons,List.not_mem_nil,or_false] at hf
 subst hf
 show 1<=1000000
 omega
theorem Tq {s fb k:Nat} (h:s<=fb) (hk:k<s):fb≠k:=oZ
theorem Tv {w' w6:World} {e:Int} {gz nn:Nat} {og2:Option Addr} {gc2:Nat} {cs cs':List Int} {x x':Sx} {vc vs:Value} (h:(e≠0/\vc=.slice (some ⟨gz,0,none⟩) nn nn/\vs=.slice og2 1 gc2/\cs'=cs/\x'=x)∨(e=0/\∃ g,vc=.slice (some ⟨g,0,none⟩) nn nn/\dK w' g cs'/\bF w' w6.heap.size vs x'.aH/\w6.heap.size<=g)) :
  ∃ agQ an' ac bgQ bnQ bc,vc=.slice agQ an' ac/\vs=.slice bgQ bnQ bc:=by
 rcases h with ⟨_,h1,h2,_⟩ | ⟨_,g,h1,_,h2,_⟩
 ·exact⟨_,_,_,_,_,_,h1,h2⟩
 ·obtain⟨ao,c2,h3⟩:=mg h2 _ rfl
  exact⟨_,_,_,_,_,_,h1,h3⟩
theorem SN {dd s0 nd:Nat} {ids:List Int} {y:Int} {L:Bool} {fn:Nat} {D:DataW Unit} (h:(L=true/\fn=5)∨(L=false/\fn=1)) (hids:SS D ids) :
  (L=true/\(4:Int)<(fn:Int)/\Sz dd s0 nd ids y L=4) ∨
  (L=false/\¬ (4:Int)<(fn:Int)/\Sz dd s0 nd ids y L=6/\D.atKey (.int .u32 y) (.lit (.int .i64 0))=.lit (.int .i64 1)) ∨
  (L=false/\¬ (4:Int)<(fn:Int)/\Sz dd s0 nd ids y L=5/\D.atKey (.int .u32 y) (.lit (.int .i64 0))=.lit (.int .i64 0)/\((nd:Int)==(dd:Int))=true) ∨
  (L=false/\¬ (4:Int)<(fn:Int)/\Sz dd s0 nd ids y L=3/\D.atKey (.int .u32 y) (.lit (.int .i64 0))=.lit (.int .i64 0)/\((nd:Int)==(dd:Int))=false/\((nd:Int)==(s0:Int))=true) ∨
  (L=false/\¬ (4:Int)<(fn:Int)/\Sz dd s0 nd ids y L=0/\D.atKey (.int .u32 y) (.lit (.int .i64 0))=.lit (.int .i64 0)/\((nd:Int)==(dd:Int))=false/\((nd:Int)==(s0:Int))=false):=by
 have hy:=hids y
 rcases h with ⟨rfl,rfl⟩ | ⟨rfl,rfl⟩
 ·exact .inl ⟨rfl,dZ,rfl⟩
 ·unfold Sz
  by_cases k1:y∈ids
  ·rw[if_pos k1] at hy
   exact .inr (.inl ⟨rfl,dZ,by rw[if_neg dZ,if_pos k1],hy⟩)
  ·rw[if_neg k1] at hy
   by_cases k2:nd=dd
   ·exact .inr (.inr (.inl ⟨rfl,dZ,by rw[if_neg dZ,if_neg k1,if_pos k2],hy,by simp;omega⟩))
   ·by_cases k3:(nd:Int)=(s0:Int)
    ·exact .inr (.inr (.inr (.inl ⟨rfl,dZ,by rw[if_neg dZ,if_neg k1,if_neg k2,if_pos k3],hy,by simp;omega,by simp;omega⟩)))
    ·exact .inr (.inr (.inr (.inr ⟨rfl,dZ,by rw[if_neg dZ,if_neg k1,if_neg k2,if_neg k3],hy,by simp;omega,by simp;omega⟩)))
theorem MapU.isMap {w:World} {m N:Nat} {D:DataW Unit} (h:MapU w m N D):IsMap D:=by
 obtain⟨es,clock,_,F,_,rfl⟩:=h
 exact⟨_,rfl⟩
theorem SS.put {D:DataW Unit} {ids:List Int} (h:SS D ids) (hD:IsMap D) {y:Int}:SS (D.put (.int .u32 y) (.lit (.int .i64 1))) (ids++[y]):=by
 intro z
 by_cases e:z=y
 ·subst e
  have hk:WideAt.IsKeyLit (.int .u32 z):=trivial
  rw[atKey_put_same hD hk,if_pos sZ]
 ·rw[atKey_put_other (by intro h;exact e (by simpa using h)),h z]
  congr 3
  simp[e]
def Tf (w0 W:World) (Wb mb mc dd s0:Nat) (B S:Nat->Int) (C L:Int) (m n mm i nd:Nat) (ids:List Int):Prop :=
 ∃ cs x d l s og og2 gc gc2 gz NN D,DW w0 W Wb mb mc dd 64 (SB (s0:Int)) 20 200 0 0 B S C L m n nd cs x d l s og og2 gc gc2 gz/\SA B S C m dd nd cs x d ids i/\l+s<=3+500000*(i:Int)/\MapU W mm NN D/\NN<=i/\SS D ids/\nd<=s0
theorem Tf.low {w0 W:World} {Wb mb mc dd s0:Nat} {B S:Nat->Int} {C L:Int} {m n mm i nd:Nat} {ids:List Int} (h:Tf w0 W Wb mb mc dd s0 B S C L m n mm i nd ids):Below w0.heap.size w0 W:=by
 obtain⟨cs,x,d,l,s,og,og2,gc,gc2,gz,NN,D,hD,_⟩:=h
 exact hD.low
theorem SX (w:World) (hT:ed w) (dnQ sn:Nat) (oa:Option Addr) (c N:Nat) (l:List Nat) (en:l.length=N) (ha:dH .u32 w oa l) (hu:∀ y∈l,y<4294967296) (lgQ:Bool) (hdn:dnQ<=255) (hsn:sn<=255) :
    Calls Tryz.prog 6 #[.int .u8 (dnQ:Int),.int .u8 (sn:Int),.slice oa N c,.bool lgQ] w fun e w'=>e=.returned (.bool true)/\Below w.heap.size w w':=by
  have HT:=hJ hT
  have HA:=hJ ha
  have HU:=hJ hu
  have HN:=hJ en
  obtain⟨d3,hd3⟩:∃ d3:Nat,d3=dnQ % 3:=⟨_,rfl⟩
  obtain⟨dd,hdd⟩:∃ dd:Nat,dd=1+d3:=⟨_,rfl⟩
  obtain⟨s0,hs0⟩:∃ s0:Nat,s0=sn % 3:=⟨_,rfl⟩
  have HD3:=hJ (show dd<=3 by omega)
  clear hT ha hu en
  go_enter Tryz.func6,Tryz.ntmps6
  have w1:IntKind.i64.wrap (dnQ:Int)=(dnQ:Int):=iZ _ oZ
  have w2:IntKind.i64.wrap (sn:Int)=(sn:Int):=iZ _ oZ
  have w3:IntKind.i64.wrap (1+(dnQ:Int) % 3)=1+(dnQ:Int) % 3:=iZ _ oZ
  have W1:=hJ (show 1+(dnQ:Int) % 3=(dd:Int)/\(sn:Int) % 3=(s0:Int) by omega)
  clear hd3 hdd hs0
  go_upto_region 2 with (first
    | (refine zZ rfl 25 (.tmp 9) (.tmp 29) rfl w.heap.size #[.int .i64 (1+(dnQ:Int) % 3),.int .i64 64,.int .i64 ((sn:Int) % 3),.int .i64 0,.int .i64 0,.int .i64 0,.int .i64 20,.int .i64 200,.float .f64 0,.float .f64 0] rfl rfl 25 #[.int .i64 0,.int .i64 0,.int .i64 0,.int .i64 0,.int .i64 0,.int .i64 0,.int .i64 0,.int .i64 0,.float .f64 0,.float .f64 0] (nZ w _) (eu _ _ (fun k=>if k=0 then(sn:Int) % 3 else 0) _ _ _ _) rfl vZ ?_)
    | fail)
  rw[World.setRow_alloc_new]
  have hz:w.alloc (.cells #[.int .i64 (1+(dnQ:Int) % 3),.int .i64 64,.int .i64 ((sn:Int) % 3),.int .i64 0,.int .i64 0,.int .i64 0,.int .i64 20,.int .i64 200,.float .f64 0,.float .f64 0] 25)=w.alloc (.cells (ak (dd:Int) 64 (SB (s0:Int)) 20 200 0 0) 25):=by rw[W1.out.1,W1.out.2];rfl
  rw[hz]
  have hb0:=au (w:=w) (A:=.cells (ak (dd:Int) 64 (SB (s0:Int)) 20 200 0 0) 25)
  have hc0:=nZ w (.cells (ak (dd:Int) 64 (SB (s0:Int)) 20 200 0 0) 25)
  generalize w.alloc (.cells (ak (dd:Int) 64 (SB (s0:Int)) 20 200 0 0) 25)=w0 at hb0 hc0 ⊢
  have HB0:=hJ hb0
  have HC0:=hJ hc0
  clear hb0 hc0 hz w1 w2 w3
  by_cases hall:∃ n an ln m d9:Nat,fU (dd:Int) 64 (SB (s0:Int)) 20 200/\CN (dd:Int) 64 (SB (s0:Int)) 20 200 n an ln m d9/\n<=5000/\(ln:Int)+2<=aB (SB (s0:Int)) 20 200 5
  · obtain⟨n,an,ln,m,d9,hok,hN,hg,hf⟩:=hall
    obtain rfl:dd=d9:=by have:=hN.dd_;omega
    have HK:=hJ (show KC dd 64 (SB (s0:Int)) 20 200 (az (aB (SB (s0:Int)) 20 200)) (aB (SB (s0:Int)) 20 200) (n:Int) (ln:Int) m from⟨hok,hN.plan,hN.ln_,oZ⟩)
    have HBeg:=hJ (RX w0 dd 64 (SB (s0:Int)) 20 200 0 0 hok hN hg hf)
    have HS0:=hJ (show aB (SB (s0:Int)) 20 200 0=4*(s0:Int)/\aB (SB (s0:Int)) 20 200 4=20 by
      unfold aB SB aS
      refine⟨?_,rfl⟩
      show (s0:Int)*4=_
      omega)
    clear hok hN hg hf
    go_wp2_with (first
      | (refine yZ rfl 25 (.tmp 9) rfl w.heap.size rfl 25 (ak (dd:Int) 64 (SB (s0:Int)) 20 200 0 0) (0,0) _ HC0.out Tryz.underlying25 rfl (eu _ _ _ _ _ _ _) ?_)
      | fail)
    refine HBeg.out.mono ?_;rintro e w1 ⟨Wb,mb,mc,og,og2,gc,gc2,gz,rfl,hD,-⟩
    have HE:=hJ (show SA (az (aB (SB (s0:Int)) 20 200)) (aB (SB (s0:Int)) 20 200) (n:Int) m dd 0 (nI n an ln) (bn an ln) (fun _=>none) [] 0 from
      ⟨hD.inv,rfl,fun j y h=>(by simp at h),fun k _ _=>jO (fun a h=>by obtain⟨i,h⟩:=h;cases h) _,rfl,rfl,rfl,by simp[bn]⟩)
    have HD:=hJ hD
    have HT0:=hJ (HT.out.below HB0.out)
    have HA0:=hJ (HA.out.below HB0.out)
    have HC1:=hJ (aj HC0.out hD.low)
    clear hD HBeg
    generalize az (aB (SB (s0:Int)) 20 200)=B at HK HE HD
    generalize aB (SB (s0:Int)) 20 200=S at HK HE HD HS0
    generalize nI n an ln=cs at HE HD
    generalize bn an ln=x at HE HD
    have hmm:=@run_makeMap Tryz.prog
    go_upto_region 6 with fail
    have hmp:MapU (w1.alloc (.map #[] 0)) w1.heap.size 0 (.map []):=World.ownsMap_made w1 Tryz.prog 32 (plainElem (H:=Unit) Tryz.prog 3)
    have hb2:=au (w:=w1) (A:=.map #[] 0)
    obtain⟨mm,hmq⟩:∃ mm,w1.heap.size=mm:=⟨_,rfl⟩
    rw[hmq] at hmp ⊢
    have HMm:=hJ (show w0.heap.size<=mm by rw[<- hmq];exact HD.out.low.size)
    have HS2:=hJ (show Tf w0 (w1.alloc (.map #[] 0)) Wb mb mc dd s0 B S (n:Int) (ln:Int) m n mm 0 0 [] from⟨cs,x,fun _=>none,0,3,og,og2,gc,gc2,gz,0,.map [],HD.out.under hb2,HE.out,oZ,hmp,oZ,fun y=>rfl,oZ⟩)
    generalize w1.alloc (.map #[] 0)=w2 at hmp HS2 ⊢
    clear hmp hb2 hmq HE HD hmm
    go_upto_block 0 with fail
    go_cut [] (fun wx=>Below w0.heap.size w0 wx)
    case first =>
      have HLn:=HN.out
      go_wp2_with fail
      go_loopw [13,14,48] (fun nv uv iv wr=>∃ (i nd:Nat) (ids:List Int),i<=N/\i<=13/\nv=.int .i64 (nd:Int)/\uv=.int .i64 (nd:Int)/\iv=.int .i64 (i:Int)/\Tf w0 wr Wb mb mc dd s0 B S (n:Int) (ln:Int) m n mm i nd ids) (fun _ _ iv _=>N-(intOf iv).toNat)
      case atStart=>exact⟨0,0,[],oZ,oZ,rfl,rfl,rfl,HS2.out⟩
      case round =>
        obtain⟨i,nd,ids,hi,hi13,rfl,rfl,rfl,hst⟩:=hrel
        have HSt:=hJ hst
        clear hst HS2
        by_cases hlt:i<N
        · have hlt1:(i:Int)<(N:Int):=oZ
          obtain⟨y,hy⟩:∃ y,l[i]?=some y:=⟨_,gZ (by rw[HN.out];omega)⟩
          obtain⟨g,o,hoa,c0⟩:=(HA0.out.below HSt.out.low) i y hy
          subst hoa
          have HY:=hJ (show U (y:Int) from by have:=HU.out y (List.mem_of_getElem? hy);exact⟨oZ,oZ⟩)
          clear hy
          by_cases h12:12<i
          · have h121:(12:Int)<(i:Int):=oZ
            go_wp2_with fail
            go_meet
            exact HSt.out.low
          have h121:¬ (12:Int)<(i:Int):=oZ
          have v1:IntKind.i64.wrap (98+(i:Int))=98+(i:Int):=iZ _ oZ
          have v2:IntKind.i32.wrap (98+(i:Int))=98+(i:Int):=IntWalk.i32_in _ oZ
          go_upto_region 12 with fail
          have hsv:([Utf8.encode (98+(i:Int))]:List ByteArray)=SG i:=by rw[letter (show i<13 by omega)];rfl
          generalize Utf8.encode (98+(i:Int))=sv at hsv ⊢
          have HSv:=hJ hsv
          clear v1 v2 c0 hsv
          have hmk:=SY
          rcases (show (lgQ=true/\i % 3=2)∨(lgQ=true/\¬ i % 3=2)∨lgQ=false by cases lgQ <;> simp <;> omega) with ⟨rfl,h3⟩ | ⟨rfl,h3⟩ | rfl
          case' inl =>
            have r1:((i:Int) % 3==2)=true:=by simp;omega
            go_upto_region 14 with fail
            clear r1 h3
            have hdoc:=dX wr (.cells #[.string sv] 9) (.cells #[.int .u32 (y:Int),.slice (some ⟨wr.heap.size+1+1,0,none⟩) 5 5] 35) (.cells #[.string ⟨#[]⟩,.string ⟨#[]⟩,.string ⟨#[]⟩,.string ⟨#[]⟩,.string ⟨#[]⟩] 9)
            have hsb:=eH wr (.cells #[.string sv] 9) (.cells #[.int .u32 (y:Int),.slice (some ⟨wr.heap.size+1+1,0,none⟩) 5 5] 35) (.cells #[.string ⟨#[]⟩,.string ⟨#[]⟩,.string ⟨#[]⟩,.string ⟨#[]⟩,.string ⟨#[]⟩] 9)
            have hbl:Below wr.heap.size wr (((wr.alloc (.cells #[.string sv] 9)).alloc (.cells #[.int .u32 (y:Int),.slice (some ⟨wr.heap.size+1+1,0,none⟩) 5 5] 35)).alloc (.cells #[.string ⟨#[]⟩,.string ⟨#[]⟩,.string ⟨#[]⟩,.string ⟨#[]⟩,.string ⟨#[]⟩] 9)):=bu
            generalize ((wr.alloc (.cells #[.string sv] 9)).alloc (.cells #[.int .u32 (y:Int),.slice (some ⟨wr.heap.size+1+1,0,none⟩) 5 5] 35)).alloc (.cells #[.string ⟨#[]⟩,.string ⟨#[]⟩,.string ⟨#[]⟩,.string ⟨#[]⟩,.string ⟨#[]⟩] 9)=w5 at hdoc hsb hbl ⊢
            obtain⟨L,hL⟩:∃ L:Bool,L=true:=⟨_,rfl⟩
            obtain⟨F,hF⟩:∃ F:List ByteArray,F=(if L then Ti else SG i):=⟨_,rfl⟩
            obtain⟨fb,hfb⟩:∃ fb,fb=wr.heap.size+1+1:=⟨_,rfl⟩
            obtain⟨tb,htb⟩:∃ tb,tb=wr.heap.size+1:=⟨_,rfl⟩
            obtain⟨fn,hfn⟩:∃ fn,fn=5:=⟨_,rfl⟩
            have hFe:F=Ti:=by rw[hF,hL];rfl
            have hdoc:w5.heap[tb]?=some (.cells #[.int .u32 (y:Int),.slice (some ⟨fb,0,none⟩) fn fn] 35 (0,0)):=by rw[htb,hfb,hfn];exact hdoc
            rw[<- hfb] at hsb
            rw[<- htb]
            have HRd:=hJ (show ∀ w',w'.heap[fb]?=w5.heap[fb]?->iY w' (some ⟨fb,0,none⟩) F from fun w' h=>by rw[hFe];exact S9 (h.trans hsb))
            have HFz:=hJ (show F.length=fn/\∀ f∈F,f.size<=1000000 by rw[hFe,hfn];exact⟨rfl,dZ⟩)
            have HL:=hJ (show L=true/\fn=5 from⟨hL,hfn⟩)
            have HF:=hJ hF
            have HDoc:=hJ hdoc
            have HSb:=hJ (lt_of_heap hsb)
            have HBl:=hJ hbl
            have HTb:=hJ (show wr.heap.size<=tb/\wr.heap.size<=fb by omega)
            clear hdoc hsb hbl hFe hF hL hfb hfn htb HSv hmk
          case' inr.inl =>
            have r1:((i:Int) % 3==2)=false:=by simp;omega
            go_upto_region 14 with fail
            clear r1 h3
            have hdoc:=fK wr (.cells #[.string sv] 9) (.cells #[.int .u32 (y:Int),.slice (some ⟨wr.heap.size,0,none⟩) 1 1] 35)
            have hsb:=fO wr (.cells #[.string sv] 9) (.cells #[.int .u32 (y:Int),.slice (some ⟨wr.heap.size,0,none⟩) 1 1] 35)
            have hbl:Below wr.heap.size wr ((wr.alloc (.cells #[.string sv] 9)).alloc (.cells #[.int .u32 (y:Int),.slice (some ⟨wr.heap.size,0,none⟩) 1 1] 35)):=dL
            generalize (wr.alloc (.cells #[.string sv] 9)).alloc (.cells #[.int .u32 (y:Int),.slice (some ⟨wr.heap.size,0,none⟩) 1 1] 35)=w5 at hdoc hsb hbl ⊢
            obtain⟨L,hL⟩:∃ L:Bool,L=false:=⟨_,rfl⟩
            obtain⟨F,hF⟩:∃ F:List ByteArray,F=(if L then Ti else SG i):=⟨_,rfl⟩
            obtain⟨fb,hfb⟩:∃ fb,fb=wr.heap.size:=⟨_,rfl⟩
            obtain⟨tb,htb⟩:∃ tb,tb=wr.heap.size+1:=⟨_,rfl⟩
            obtain⟨fn,hfn⟩:∃ fn,fn=1:=⟨_,rfl⟩
            have hFe:F=[sv]:=by rw[hF,hL,HSv.out];rfl
            have hdoc:w5.heap[tb]?=some (.cells #[.int .u32 (y:Int),.slice (some ⟨fb,0,none⟩) fn fn] 35 (0,0)):=by rw[htb,hfb,hfn];exact hdoc
            rw[<- hfb] at hsb
            rw[<- htb]
            have HRd:=hJ (show ∀ w',w'.heap[fb]?=w5.heap[fb]?->iY w' (some ⟨fb,0,none⟩) F from fun w' h=>by rw[hFe];exact SK (h.trans hsb))
            have HFz:=hJ (show F.length=fn/\∀ f∈F,f.size<=1000000 by rw[hF,hL,hfn];exact⟨rfl,SI⟩)
            have HL:=hJ (show L=false/\fn=1 from⟨hL,hfn⟩)
            have HF:=hJ hF
            have HDoc:=hJ hdoc
            have HSb:=hJ (lt_of_heap hsb)
            have HBl:=hJ hbl
            have HTb:=hJ (show wr.heap.size<=tb/\wr.heap.size<=fb by omega)
            clear hdoc hsb hbl hFe hF hL hfb hfn htb HSv hmk
          case' inr.inr =>
            go_upto_region 14 with fail
            have hdoc:=fK wr (.cells #[.string sv] 9) (.cells #[.int .u32 (y:Int),.slice (some ⟨wr.heap.size,0,none⟩) 1 1] 35)
            have hsb:=fO wr (.cells #[.string sv] 9) (.cells #[.int .u32 (y:Int),.slice (some ⟨wr.heap.size,0,none⟩) 1 1] 35)
            have hbl:Below wr.heap.size wr ((wr.alloc (.cells #[.string sv] 9)).alloc (.cells #[.int .u32 (y:Int),.slice (some ⟨wr.heap.size,0,none⟩) 1 1] 35)):=dL
            generalize (wr.alloc (.cells #[.string sv] 9)).alloc (.cells #[.int .u32 (y:Int),.slice (some ⟨wr.heap.size,0,none⟩) 1 1] 35)=w5 at hdoc hsb hbl ⊢
            obtain⟨L,hL⟩:∃ L:Bool,L=false:=⟨_,rfl⟩
            obtain⟨F,hF⟩:∃ F:List ByteArray,F=(if L then Ti else SG i):=⟨_,rfl⟩
            obtain⟨fb,hfb⟩:∃ fb,fb=wr.heap.size:=⟨_,rfl⟩
            obtain⟨tb,htb⟩:∃ tb,tb=wr.heap.size+1:=⟨_,rfl⟩
            obtain⟨fn,hfn⟩:∃ fn,fn=1:=⟨_,rfl⟩
            have hFe:F=[sv]:=by rw[hF,hL,HSv.out];rfl
            have hdoc:w5.heap[tb]?=some (.cells #[.int .u32 (y:Int),.slice (some ⟨fb,0,none⟩) fn fn] 35 (0,0)):=by rw[htb,hfb,hfn];exact hdoc
            rw[<- hfb] at hsb
            rw[<- htb]
            have HRd:=hJ (show ∀ w',w'.heap[fb]?=w5.heap[fb]?->iY w' (some ⟨fb,0,none⟩) F from fun w' h=>by rw[hFe];exact SK (h.trans hsb))
            have HFz:=hJ (show F.length=fn/\∀ f∈F,f.size<=1000000 by rw[hF,hL,hfn];exact⟨rfl,SI⟩)
            have HL:=hJ (show L=false/\fn=1 from⟨hL,hfn⟩)
            have HF:=hJ hF
            have HDoc:=hJ hdoc
            have HSb:=hJ (lt_of_heap hsb)
            have HBl:=hJ hbl
            have HTb:=hJ (show wr.heap.size<=tb/\wr.heap.size<=fb by omega)
            clear hdoc hsb hbl hFe hF hL hfb hfn htb HSv hmk
          all_goals
            obtain⟨cs,x,dt,l1,s1,og,og2,gc,gc2,gz,NN,D,hD,hE,hls,hmap,hNN,hids,hns⟩:=HSt.out
            have HD:=hJ (hD.under HBl.out)
            have HE:=hJ hE
            have HLs:=hJ (And.intro hls (And.intro hNN hns))
            have HMap:=hJ (hmap.below HBl.out)
            have HIds:=hJ hids
            have HMl:=hJ (show mb<wr.heap.size/\mc<wr.heap.size/\Wb<wr.heap.size/\mm<wr.heap.size from⟨lt_of_heap hD.mem.rec_,lt_of_heap hD.mem.row,lt_of_heap hD.box,hmap.lt⟩)
            have HKey:=hJ (show keyOf Tryz.prog 32 (.int .u32 (y:Int))=some (.int .u32 (y:Int)) from keyOf_int_mk Tryz.underlying32 (wf_u32 HY.out))
            have hcf:=aj HC0.out HD.out.low
            have c90:w5.cell? ⟨w.heap.size,0,none⟩=some (.int .i64 (dd:Int)):=ae hcf 0
            have c92:w5.cell? ⟨w.heap.size,2,none⟩=some (.int .i64 (s0:Int)):=ae hcf 2
            have cd:w5.cell? ⟨tb,1,none⟩=some (.slice (some ⟨fb,0,none⟩) fn fn):=ae HDoc.out 1
            clear hD hE hls hmap hNN hids hns hcf HSt HBl
            obtain⟨cs',x',nd',dt',d2,ids',hgood,hE',hout⟩:=HE.out.add oZ HS0.out.1 HS0.out.2 HD3.out (by have:=HLs.out.2.2;omega) (y:Int) HY.out L
            rw[<- HF.out] at hgood
            have HGood:=hJ hgood
            have HE':=hJ hE'
            have HOut:=hJ hout
            clear hgood hE' hout
            rcases SN (dd:=dd) (s0:=s0) (nd:=nd) (ids:=ids) (y:=(y:Int)) (L:=L) (fn:=fn) (by first | exact .inl HL.out | exact .inr HL.out) HIds.out with ⟨k1,q0,hw⟩ | ⟨k1,q0,hw,hct⟩ | ⟨k1,q0,hw,hct,q1⟩ | ⟨k1,q0,hw,hct,q1,q2⟩ | ⟨k1,q0,hw,hct,q1,q2⟩
            all_goals try exact absurd (HL.out.1.symm.trans k1) dZ
            all_goals
              try have HCt:=hJ hct
              try clear hct
              clear k1
              go_upto_region 23 with (first
                | (at_lookup;refine wpList_lookup_own_int _ rfl _ _ 77 rfl 32 3 .i64 TA Tryz.underlying77 Tryz.underlying3 (Tm _) mm NN D rfl HMap.out _ _ rfl HKey.out ?_;intro c9 hat hwc;obtain rfl:=SL (hat.symm.trans HCt.out);clear hat hwc)
                | fail)
              rw[hw] at HGood HOut
              try have HNs:Hid (nd<s0):=hJ (by have:=HLs.out.2.2;have:=beq_eq_false_iff_ne.1 q2;omega)
              clear hw q0 c90 c92 cd
              try clear q1
              try clear q2
              go_wp2_with (first
                | (refine yZ rfl 35 (.tmp 17) rfl tb rfl 35 #[.int .u32 (y:Int),.slice (some ⟨fb,0,none⟩) fn fn] (0,0) _ HDoc.out Tryz.underlying35 rfl (uN _ _) ?_)
                | fail)
              refine(Np HD.out.inv HGood.out.out HY.out w5 (some ⟨gz,0,none⟩) n n HD.out.len (HD.out.row.read HD.out.inv.ws.cu) og2 gc2 HD.out.segs2.reads (SB (s0:Int)) 20 200 0 0 (ln:Int) (some ⟨fb,0,none⟩) fn fn HFz.out.1 (HRd.out w5 rfl) HFz.out.2 (by rw[HFz.out.1];have:=HL.out.2;omega) (.pointer (some ⟨mb,0,none⟩)) (aQ (.slice og 1 gc) x) rfl Wb HD.out.box).mono ?_
              rintro e w6 ⟨vc,vs,rfl,hb6,hout6⟩
              obtain⟨agQ,an',ac,bgQ,bnQ,bc,rfl,rfl⟩:=Tv hout6
              have HD6:=hJ (HD.out.under hb6)
              have HDoc6:=hJ (aj HDoc.out hb6)
              have HMap6:=hJ (HMap.out.below hb6)
              have HK6:=hJ (show w6.heap[fb]?=w5.heap[fb]? from hb6.block fb HSb.out)
              have HSz6:=hJ hb6.size
              clear hb6 hout6 HD HDoc HMap
              go_upto_region 24 with (first
                | (refine zZ rfl 49 (.tmp 20) (.tmp 97) rfl w6.heap.size (aK (.slice agQ an' ac) (.slice bgQ bnQ bc) x') rfl rfl 49 dE (nZ w6 _) (aI _ _ _) rfl cZ ?_)
                | fail)
              rw[World.setRow_alloc_new]
              have hb7:=au (w:=w6) (A:=.cells (aK (.slice agQ an' ac) (.slice bgQ bnQ bc) x') 49)
              have HD7:=hJ (HD6.out.under hb7)
              have HDoc7:=hJ (aj HDoc6.out hb7)
              have HMap7:=hJ (HMap6.out.below hb7)
              have HK7:=hJ (show (w6.alloc (.cells (aK (.slice agQ an' ac) (.slice bgQ bnQ bc) x') 49)).heap[fb]?=w5.heap[fb]? from(hb7.block fb (Nat.lt_of_lt_of_le HSb.out HSz6.out)).trans HK6.out)
              have HSz7:=hJ (Nat.le_trans HSz6.out hb7.size)
              generalize w6.alloc (.cells (aK (.slice agQ an' ac) (.slice bgQ bnQ bc) x') 49)=w7 at HD7 HDoc7 HMap7 HK7 HSz7 ⊢
              clear hb7 HD6 HDoc6 HMap6 HK6 HSz6
              have hdo:=JD HK.out HD7.out (y:Int) (by have:=HE.out.dR;have:=HLs.out.2.2;have:=HD3.out;have:=HE.out.inv.nd_;omega) (by have:=HLs.out.1;omega) (some ⟨fb,0,none⟩) F fn HFz.out.2 (by rw[HFz.out.1];have:=HL.out.2;omega) HY.out HGood.out (fun wr9 hwr=>⟨l7.tabs (HD7.out.keeps hwr) HT0.out,HRd.out wr9 ((hwr fb (Nat.lt_of_lt_of_le HSb.out HSz7.out) (Tq HTb.out.2 HMl.out.1) (Tq HTb.out.2 HMl.out.2.1)).trans HK7.out)⟩)
              rw[HFz.out.1] at hdo
              have HDo:=hJ hdo
              clear hdo
              go_wp2_with (first
                | (refine yZ rfl 35 (.tmp 17) rfl tb rfl 35 #[.int .u32 (y:Int),.slice (some ⟨fb,0,none⟩) fn fn] (0,0) _ HDoc7.out Tryz.underlying35 rfl (uN _ _) ?_)
                | fail)
              refine HDo.out.mono ?_
              rintro e w8 ⟨rfl,l7Q,s7,og7,og8,gc7,gc8,gz7,hsum,hD8,hfr⟩
              have HMap8:=hJ (HMap7.out.block (hfr mm HMap7.out.lt (HMap7.out.ne HD7.out.mem.rec_).symm (HMap7.out.ne HD7.out.mem.row).symm (HMap7.out.ne HD7.out.box).symm))
              have HD8:=hJ hD8
              have HSum:=hJ hsum
              clear hsum hD8 hfr HDo HD7 HDoc7 HMap7 HK7 HSz7
              first
                | (obtain⟨h0,-⟩ | ⟨-,hc9,hx9,hn9,hi9⟩:=HOut.out
                   · exact absurd h0 dZ
                   subst hc9 hx9 hn9 hi9
                   go_wp2_with fail
                   go_roundw
                   case rel=>exact⟨i+1,nd',ids',oZ,oZ,rfl,rfl,by go_num,cs',x',d2,_,_,_,_,_,_,_,NN,D,⟨HD8.out.box,HD8.out.mem,HD8.out.l0,HD8.out.s0,HD8.out.row,HD8.out.zc,HD8.out.aH,HD8.out.segs2,HE'.out.inv,HD8.out.len,HD8.out.low,HD8.out.oldm,HD8.out.oldc,HD8.out.oldb⟩,HE'.out,by have:=HSum.out;have:=HLs.out.1;omega,HMap8.out,by have:=HLs.out.2.1;omega,HIds.out,HLs.out.2.2⟩
                   case measure=>simp[intOf];omega
                   done)
                | (obtain⟨-,hn9,hi9⟩ | ⟨h0,-⟩:=HOut.out
                   case' inr=>exact absurd rfl h0
                   subst hn9 hi9
                   have HNm:=hJ (show NN<maxLen by have:=HLs.out.2.1;unfold maxLen;omega)
                   have HW1:=hJ (show (Lit.int .i64 1).wf=true by decide)
                   have wn:IntKind.i64.wrap ((nd:Int)+1)=(nd:Int)+1:=iZ _ (by have:=HNs.out;have:=HD3.out;have:=HE.out.inv.nd_;omega)
                   go_wp2_with (first
                     | (at_lookup;refine wpList_lookup_own_int _ rfl _ _ 77 rfl 32 3 .i64 TA Tryz.underlying77 Tryz.underlying3 (Tm _) mm NN D rfl HMap8.out _ _ rfl HKey.out ?_;intro c9 hat hwc;obtain rfl:=SL (hat.symm.trans HCt.out);clear hat hwc)
                     | (at_mapUpdate;refine wpList_mapUpdate_own _ rfl _ _ _ 77 rfl 32 3 TA Tryz.underlying77 _ mm NN D rfl HMap8.out HNm.out _ _ _ rfl rfl HKey.out _ [] (plainElem_int Tryz.underlying3 HW1.out) ?_;intro w9 hown9 hgrow9;have HO9:=hJ hown9;have HG9:=hJ hgrow9;clear hown9 hgrow9)
                     | fail)
                   go_roundw
                   case rel =>
                     have hk9:∀ (k:Nat) (c:Array Value) (t:TypeId),w8.heap[k]?=some (.cells c t (0,0))->w9.heap[k]?=w8.heap[k]?:=fun k c t h=>HG9.out.block _ (lt_of_heap h) (by simpa using HMap8.out.ne h)
                     have hlow9:=HD8.out.low.grown HG9.out HD8.out.low.size (fun z hz=>by cases hz;exact HMm.out)
                     have hD9:=HD8.out.past hlow9 hk9
                     exact⟨i+1,nd+1,ids++[(y:Int)],oZ,oZ,by go_num,by go_num,by go_num,cs',x',d2,_,_,_,_,_,_,_,NN+1,_,⟨hD9.box,hD9.mem,hD9.l0,hD9.s0,hD9.row,hD9.zc,hD9.aH,hD9.segs2,HE'.out.inv,hD9.len,hD9.low,hD9.oldm,hD9.oldc,hD9.oldb⟩,HE'.out,by have:=HSum.out;have:=HLs.out.1;omega,HO9.out,by have:=HLs.out.2.1;omega,HIds.out.put (MapU.isMap HMap8.out),HNs.out⟩
                   case measure=>simp[intOf];omega)
        · obtain rfl:i=N:=oZ
          go_wp2_with fail
          go_meet
          exact HSt.out.low
    case rest =>
      have HLow:=hJ hcut
      clear hcut HS2
      have HFx:=hJ (qC wc (HT0.out.below HLow.out))
      go_wp2_with fail
      refine HFx.out.mono ?_;rintro e w3 ⟨rfl,hb⟩
      have HB3:=hJ (ah HB0.out (ah HLow.out hb))
      clear hb
      go_wp2_with fail
      go_ret
      exact⟨rfl,HB3.out⟩
  · have HBeg:=hJ (Sl w0 (dd:Int) 64 (SB (s0:Int)) 20 200 0 0 hall)
    clear hall
    go_wp2_with (first
      | (refine yZ rfl 25 (.tmp 9) rfl w.heap.size rfl 25 (ak (dd:Int) 64 (SB (s0:Int)) 20 200 0 0) (0,0) _ HC0.out Tryz.underlying25 rfl (eu _ _ _ _ _ _ _) ?_)
      | fail)
    refine HBeg.out.mono ?_;rintro e w1 ⟨rfl,hb⟩
    have HB2:=hJ (ah HB0.out hb)
    clear hb HBeg
    have HFx:=hJ (qC w1 (HT.out.below HB2.out))
    go_wp2_with fail
    refine HFx.out.mono ?_;rintro e w3 ⟨rfl,hb⟩
    have HB3:=hJ (ah HB2.out hb)
    clear hb
    go_wp2_with fail
    go_ret
    exact⟨rfl,HB3.out⟩
end Go.Proofs.YtlfndoclbebdaaaGreatDoor
