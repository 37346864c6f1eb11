/-
 What stage 12 rests on.
-/
import Derived.Test.YtafaohnhlgcnpaaGreatDoorWrAlD4
import Derived.Test.YtafaohnhlgcnpaaGreatDoorWrAlD5
set_option maxRecDepth 100000
set_option maxHeartbeats 16000000
namespace Go.Proofs.YtafaohnhlgcnpaaGreatDoor
open Go.RowKit
variable {α:Type}
structure lh (S:Nat->Prop) (rb mb cb:Nat) (w:World) (go:Option Nat) (w':World) (go':Option Nat):Prop where
 grows:K5 w go go'
 mod:bB (fun k=>S k∨fD rb mb cb go k) w w'
theorem jl.JM {rb mb cb:Nat} {w w':World} {go go':Option Nat} (h:jl rb mb cb w go w' go') (S:Nat->Prop):lh S rb mb cb w go w' go':=⟨h.grows,h.mod.mono fun _ _ hk=>.inr hk⟩
theorem lh.trans {S:Nat->Prop} {rb mb cb:Nat} {w w1 w2:World} {go go1 go2:Option Nat} (h:lh S rb mb cb w go w1 go1) (k:lh S rb mb cb w1 go1 w2 go2):lh S rb mb cb w go w2 go2:=by
 refine⟨?_,h.mod.then k.mod ?_⟩
 ·rcases k.grows with e | ⟨g,e,hg⟩
  ·rw[e];exact h.grows
  ·exact .inr ⟨g,e,Nat.le_trans h.mod.size hg⟩
 ·rintro i hi (e | e | e | e)
  ·exact .inl e
  ·exact .inr (.inl e)
  ·rcases h.grows with e' | ⟨g,e',hg⟩
   ·exact .inr (.inr (.inl (e' ▸ e)))
   ·rw[e'] at e;cases e;omega
  ·exact .inr (.inr (.inr e))
theorem lh.lu {S:Nat->Prop} {rb mb cb:Nat} {w w':World} {go:Option Nat} {T:Nat->Prop} (h:bB T w w') (hT:∀ k,T k->S k∨fD rb mb cb go k):lh S rb mb cb w go w' go:=⟨.inl rfl,h.mono fun k _ hk=>hT k hk⟩
theorem lh.apart {S:Nat->Prop} {rb mb cb:Nat} {w w':World} {go go':Option Nat} (h:lh S rb mb cb w go w' go') {k:Nat} (hk:k<w.heap.size) (hs:¬ fD rb mb cb go k):¬ fD rb mb cb go' k:=by
 rintro(e | e | e)
 ·exact hs (.inl e)
 ·rcases h.grows with e' | ⟨g,e',hg⟩
  ·exact hs (.inr (.inl (e' ▸ e)))
  ·rw[e'] at e;cases e;omega
 ·exact hs (.inr (.inr e))
theorem bB.setRow {S:Nat->Prop} {a w:World} (h:bB S a w) {g:Nat} (hp:a.heap.size<=g∨S g) (cs:Array Value):bB S a (w.setRow g cs) :=
 ⟨h.os,h.tape,h.output,by simpa using h.size,fun k hk hs=>(qZ _ _ _ _ (by rintro rfl;rcases hp with e | e;omega;exact hs e)).trans (h.block k hk hs)⟩
structure K9 (F:FuncId) (caps:Array Value) (rb mb cb:Nat) (S:Nat->Prop) (I:World->Prop) (p:Pr α) (Post:α->World->Prop) (B:Nat):Prop where
 enter:∀ (args:Array Value) (w:World),(callFunc F args).run Tryz.prog w=.ok (.enter F args) w
 call:∀ (w:World) (go:Option Nat) (st:St),RM w rb mb cb go true st->st.dO B->st.off=false->I w->(∀ k,S k->¬ fD rb mb cb go k) ->
  Calls Tryz.prog F (#[.pointer (some ⟨rb,0,none⟩)]++caps) w fun e w'=>e=.returned (.tuple #[])/\∃ go',RM w' rb mb cb go' true (p.on st).2/\lh S rb mb cb w go w' go'/\I w'/\∀ x,(p.on st).1=some x->Post x w'
 o7:∀ w w',I w->w.heap.size<=w'.heap.size->(∀ k,S k->k<w.heap.size->w'.heap[k]?=w.heap[k]?)->I w'
 wu:∀ x w w' go st,Post x w->RM w rb mb cb go true st->bB (fun k=>k=rb) w w'->Post x w'
 old:∀ w,I w->∀ k,S k->k<w.heap.size
theorem BX {w:World} {rb mb cb:Nat} {go:Option Nat} {st:St} {F:FuncId} {caps:Array Value} {S:Nat->Prop} {I:World->Prop} {p:Pr α} {Post:α->World->Prop} {B:Nat} (h:RM w rb mb cb go false st) (ho:st.over=false) (hoff:st.off=false) (hok:({st with at_:=0,made:=false}:St).dO B)
    (hC:K9 F caps rb mb cb S I p Post B) (hI:I w) (hS:∀ k,S k->¬ fD rb mb cb go k) :
    Calls Tryz.prog 22 #[.pointer (some ⟨rb,0,none⟩),.func (.func F) #[] caps] w fun e w'=>e=.returned (.bool (st.iI p).over)/\∃ go',RM w' rb mb cb go' false (st.iI p)/\lh S rb mb cb w go w' go'/\I w'/\∀ x,st.FR p=some x->Post x w':=by
  have H:=hJ h;obtain⟨hrm,hrc,hgm⟩:=h.pz;obtain⟨rcap,h1⟩:=h.run;rw[ho] at h1;have c2:=h1.c2;have c3:=h1.c3;have c4:=h1.c4;have f2:=free_at h1.rec_ 2;have f3:=free_at h1.rec_ 3;have f4:=free_at h1.rec_ 4;have hr3:=((h1.set 2 (.int .i64 0) (at':=0) (wi':=false) (ma':=st.made) (off':=st.off) (ov':=false) (er':=st.err) rfl).set 4 (.bool false) (at':=0) (wi':=false) (ma':=false) (off':=st.off) (ov':=false) (er':=st.err) rfl).set 3 (.bool true) (at':=0) (wi':=true) (ma':=false) (off':=st.off) (ov':=false) (er':=st.err) rfl;have hx3:bB (fun k=>k=rb) w (((w.setCell ⟨rb,2,none⟩ (.int .i64 0)).setCell ⟨rb,4,none⟩ (.bool false)).setCell ⟨rb,3,none⟩ (.bool true)):=bB.setCell (S:=fun k=>k=rb) (bB.setCell (S:=fun k=>k=rb) (bB.setCell (S:=fun k=>k=rb) (bB.refl _ _) (.inr rfl) _) (.inr rfl) _) (.inr rfl) _;have HR3:=hJ hr3;have HX3:=hJ hx3;have H1:=hJ h1;have HI:=hJ hI;have HS:=hJ hS;have HO:=hJ ho;have HF:=hJ hoff;have HK:=hJ hok;have HC:=hJ hC;clear h h1 hr3 hx3 hI hS ho hok hC hoff;have qF:∀ w:World,(binOp .eql 53 (.func (.func F) #[] caps) .nilFunc).run Tryz.prog w=.ok (.bool false) w:=fun w=>rfl;go_enter_defers Tryz.func22,Tryz.ntmps22
  go_upto_region 8 with (go_at_call 29;refine(qI H1.out).mono ?_;rintro e w' ⟨rfl,rfl⟩)
  obtain⟨w3,hw3⟩:∃ w3,w3=((w.setCell ⟨rb,2,none⟩ (.int .i64 0)).setCell ⟨rb,4,none⟩ (.bool false)).setCell ⟨rb,3,none⟩ (.bool true):=⟨_,rfl⟩;rw[show ((w.setCell ⟨rb,2,none⟩ (.int .i64 0)).setCell ⟨rb,4,none⟩ (.bool false)).setCell ⟨rb,3,none⟩ (.bool true)=w3 from hw3.symm];rw[<- hw3] at HR3 HX3;clear hw3 c2 c3 c4 f2 f3 f4;have hx3:=HX3.out;have hrm3:RM w3 rb mb cb go true {st with at_:=0,made:=false}:=⟨⟨rcap,by show bu w3 rb mb go rcap st.log 0 true false st.off st.over st.err;rw[HO.out];exact HR3.out⟩,H.out.mem.mod hx3 (Ne.symm hrm) (Ne.symm hrc),H.out.ne⟩;have hI3:=HC.out.o7 w w3 HI.out hx3.size fun k hk hl=>hx3.block k hl fun e=>HS.out k hk (.inl e);have HCall:=hJ (HC.out.call w3 go _ hrm3 HK.out HF.out hI3 HS.out);clear hx3 hrm3 hI3;go_wp2_with fail
  rw[HC.out.enter,Oper.upon_enter];refine HCall.out.mono ?_;rintro e w4 ⟨rfl,go4,hr4,ha4,hI4,hP4⟩;obtain⟨o,t,ht⟩:∃ o t,p.on {st with at_:=0,made:=false}=(o,t):=⟨_,_,rfl⟩;rw[ht] at hr4 hP4;have HT:=hJ ht;have HR4:=hJ hr4;have HA4:=hJ ha4;have HI4:=hJ (And.intro hI4 hP4);obtain⟨cap4,h4⟩:=hr4.run;have c5:=h4.c5;have c6:=h4.c6;have f6:=free_at h4.rec_ 6;have H4:=hJ h4;clear hr4 ha4 h4 ht HCall hI4 hP4;go_wp2_with fail
  all_goals
   have hstep:st.iI p={t with over:=t.over||!t.off,off:=t.err != 0}:=by unfold St.iI St.shut;rw[HO.out,if_neg sZ];have:=HT.out;rw[HO.out] at this;rw[this]
   have hans:st.FR p=o:=by unfold St.FR;rw[HT.out]
   have hadv:=(lh.lu (S:=S) (go:=go) (mb:=mb) (cb:=cb) HX3.out fun k hk=>.inr (.inl hk)).trans HA4.out;have hmem:=HR4.out.mem;obtain⟨hn1,hn2,hn3⟩:=HR4.out.pz;have hn4:=HR4.out.ne;have h4:=H4.out;have hS4:∀ k,S k->k≠rb:=fun k hk e=>HS.out k hk (.inl e);rw[hans];refine leaves_cons (f:=59) (args:=#[.pointer (some ⟨rb,0,none⟩)]) sZ (by simp[go_sem]) ?_
  · rename_i hov
    refine(ES (h4.set 6 (.bool true) (at':=t.at_) (wi':=true) (ma':=t.made) (off':=t.off) (ov':=true) (er':=t.err) rfl) .returning).mono ?_;rintro e u' w5 ⟨rfl,rfl,h5,hm5⟩;have hm:bB (fun k=>k=rb) w4 w5:=(bB.setCell (S:=fun k=>k=rb) (bB.refl _ _) (.inr rfl) _).trans hm5;refine⟨_,results_tmp rfl _ _ _,?_,go4,⟨⟨cap4,?_⟩,?_,hn4⟩,hadv.trans (lh.lu hm fun k hk=>.inr (.inl hk)),HC.out.o7 w4 w5 HI4.out.1 hm.size fun k hk hl=>hm.block k hl (hS4 k hk),fun x hx=>HC.out.wu x w4 w5 go4 t (HI4.out.2 x hx) HR4.out hm⟩
    · rw[hstep];simp[hov]
    · rw[hstep];simpa [hov] using h5
    · rw[hstep];exact hmem.mod hm (Ne.symm hn1) (Ne.symm hn2)
  · rename_i hov
    have hov:t.over=false:=by simpa using hov
    refine(ES (h4.set 6 (.bool (!t.off)) (at':=t.at_) (wi':=true) (ma':=t.made) (off':=t.off) (ov':=!t.off) (er':=t.err) rfl) .returning).mono ?_;rintro e u' w5 ⟨rfl,rfl,h5,hm5⟩;have hm:bB (fun k=>k=rb) w4 w5:=(bB.setCell (S:=fun k=>k=rb) (bB.refl _ _) (.inr rfl) _).trans hm5;refine⟨_,results_tmp rfl _ _ _,?_,go4,⟨⟨cap4,?_⟩,?_,hn4⟩,hadv.trans (lh.lu hm fun k hk=>.inr (.inl hk)),HC.out.o7 w4 w5 HI4.out.1 hm.size fun k hk hl=>hm.block k hl (hS4 k hk),fun x hx=>HC.out.wu x w4 w5 go4 t (HI4.out.2 x hx) HR4.out hm⟩
    · rw[hstep];simp[hov]
    · rw[hstep];simpa [hov] using h5
    · rw[hstep];exact hmem.mod hm (Ne.symm hn1) (Ne.symm hn2)
theorem FM (n h t:Nat):(h % n+t) % n=bL n h t:=by
 unfold bL;rw[Nat.mod_add_mod]
theorem sj (w:World) (oa:Option Addr) (c n:Nat) (cs:List Int) (en:cs.length=n) (hU:∀ y∈cs,U y) (ha:bQ .u32 w oa (gQ cs)) (s:Int) (m:Nat) (s0:0<=s) (s1:s<=1000000) (m0:1<=m) (m1:m<=1000000) (key:ByteArray) (hk:key.size<=1000) {q:Nat} {x:Int×Int}
  (hd:Does (fR s m (ax key) m 0) cs q x cs) :
  Calls Tryz.prog 94 #[.slice oa n c,.int .i64 s,.int .i64 (m:Int),.string key] w fun e w'=>e=.returned (.tuple #[.int .i64 x.1,.int .i64 x.2,.bool true])/\Below w.heap.size w w':=by
 have HAt:=hJ (fun(w':World) (hb:Below w.heap.size w w') (j:Int) (k0:0<=j) (k1:j<cs.length)=>yT w' oa c n cs en hU (ha.below hb) j k0 k1);have HIs:=hJ (fun(w':World) (hb:Below w.heap.size w w') (a:Int) (h0:0<=a) (h1:a<=5000000000) (yes no:Pr (Int×Int)) (q:Nat) (hd:Does (.load (a+1) fun l=>if l=(((ax key).length % 4294967296:Nat):Int) then rG yes no (aF (ax key)) (a+2) else no) cs q x cs)=>LD w' oa c n cs en hU (ha.below hb) a h0 h1 key hk hd);have HHash:=hJ (IK w key oZ);have hh:=oG (ax key);have HU:=hJ hU;obtain⟨h,hE⟩:∃ h,h=bZ (ax key):=⟨_,rfl⟩;rw[<- hE] at HHash hh;obtain⟨r,hr⟩:∃ r,r=h % m:=⟨_,rfl⟩;have hrn:r<m:=by rw[hr];exact Nat.mod_lt _ oZ
 have k1:IntKind.u64.wrap (h:Int)=(h:Int):=IntWalk.u64_in _ oZ;have k2:IntKind.u64.wrap (m:Int)=(m:Int):=IntWalk.u64_in _ oZ;have r1:(h:Int) % (m:Int)=(r:Int):=oZ;have r2:(h:Int).tmod (m:Int)=(r:Int):=by rw[Int.tmod_eq_emod_of_nonneg oZ];exact r1
 have k3:IntKind.u64.wrap (r:Int)=(r:Int):=IntWalk.u64_in _ oZ;have k4:IntKind.i64.wrap (r:Int)=(r:Int):=iZ _ oZ;have kz:((m:Int)==0)=false:=by simpa using (show m≠0 by omega)
 have n1:¬ (m:Int)<1:=oZ;have HSl:=hJ (show ∀ t,(r+t) % m=bL m (bZ (ax key)) t from fun t=>by rw[hr,FM,hE]);have HD:=hJ hd;clear hE hr ha hd hk hU;go_enter Tryz.func94,Tryz.ntmps94
 go_wp2_with fail
 refine HHash.out.mono ?_;rintro e w1 ⟨rfl,rfl⟩;go_wp2_with fail
 go_loopg [12] m (fun g iv wr=>∃ (t q1:Nat),t+g=m/\iv=.int .i64 (t:Int)/\Hid (Does (fR s m (ax key) g t) cs q1 x cs)/\Hid (Below w1.heap.size w1 wr))
 case atStart=>exact⟨0,_,oZ,rfl,HD,hJ (Below.refl _ _)⟩
 case round =>
  clear HD;obtain⟨t,q1,htg,rfl,HD,HB⟩:=hrel;cases gk with
  | zero =>
   have htm:t=m:=oZ;have hd:=HD.out;unfold fR at hd;obtain⟨rfl,_,_⟩:=hd.yN;subst htm;clear hd HD htg;go_wp2_with fail
   refine tZ (v:=.tuple #[.int .i64 0,.int .i64 (-1),.bool true]) (by simp[results,Tryz.results94,go_sem]) rfl ⟨rfl,HB.out⟩
  | succ g =>
   have htm:t<m:=oZ;have htm1:(t:Int)<(m:Int):=oZ;obtain⟨sl,hsl⟩:∃ sl,sl=bL m (bZ (ax key)) t:=⟨_,rfl⟩;have hs2:(r+t) % m=sl:=by rw[hsl];exact HSl.out t
   have hslm:sl<m:=by rw[hsl];exact jX oZ _ _
   have m3:((r:Int)+(t:Int)) % (m:Int)=(sl:Int):=by
    have:=congrArg (fun x:Nat=>(x:Int)) hs2;simpa using this
   have m4:((r:Int)+(t:Int)).tmod (m:Int)=(sl:Int):=by rw[Int.tmod_eq_emod_of_nonneg oZ];exact m3
   have m5:IntKind.i64.wrap ((r:Int)+(t:Int))=(r:Int)+(t:Int):=iZ _ oZ;have m6:IntKind.i64.wrap (sl:Int)=(sl:Int):=iZ _ oZ;have m7:IntKind.i64.wrap (s+(sl:Int))=s+(sl:Int):=iZ _ oZ;have hd:=HD.out;unfold fR at hd;rw[<- hsl] at hd;cases hd with
   | load g1 g2 hd2 =>
    rename_i q2
    have HA2:=hJ (HAt.out _ HB.out (s+(sl:Int)) g1 g2);have hu:=rY HU.out (s+(sl:Int)).toNat;obtain⟨v,hv⟩:∃ v,v=cs.getD (s+(sl:Int)).toNat 0:=⟨_,rfl⟩;rw[<- hv] at HA2 hd2 hu;simp only at hd2;unfold U at hu;obtain⟨hu0,hu1⟩:=hu;have m8:IntKind.i64.wrap v=v:=iZ _ oZ;clear hv HD hs2 hsl;by_cases hv0:v=0
    ·rw[if_pos hv0] at hd2;obtain⟨hx,_,_⟩:=hd2.yN;subst hv0 hx;clear hd2;go_wp2_with fail
     refine HA2.out.mono ?_;rintro e w3 ⟨rfl,hb3⟩;have HB3:=hJ (ag HB.out hb3);clear hb3 HA2;go_wp2_with fail
     refine tZ (v:=.tuple #[.int .i64 0,.int .i64 (sl:Int),.bool true]) (by simp[results,Tryz.results94,go_sem]) rfl ⟨rfl,HB3.out⟩
    ·rw[if_neg hv0] at hd2;have b1:(v==0)=false:=by simpa using hv0
     have HK:=hJ (fun(w':World) (hb:Below w1.heap.size w1 w')=>HIs.out w' hb v hu0 oZ _ _ _ hd2);clear hd2 hv0;go_wp2_with fail
     refine HA2.out.mono ?_;rintro e w3 ⟨rfl,hb3⟩;have HB3:=hJ (ag HB.out hb3);clear hb3 HA2;go_wp2_with fail
     refine(HK.out _ HB3.out).mono ?_;rintro e w4 ⟨b,rfl,⟨q3,hd3⟩,hb4⟩;have HB4:=hJ (ag HB3.out hb4);clear hb4 HK;cases b with
     | true =>
      rw[if_pos rfl] at hd3;obtain⟨hx,_,_⟩:=hd3.yN;subst hx;clear hd3;go_wp2_with fail
      refine tZ (v:=.tuple #[.int .i64 v,.int .i64 (sl:Int),.bool true]) (by simp[results,Tryz.results94,go_sem]) rfl ⟨rfl,HB4.out⟩
     | false =>
      rw[if_neg dZ] at hd3;have HD4:=hJ hd3;clear hd3;go_wp2_with fail
      go_roundg g
      case measure=>omega
      case rel=>exact⟨t+1,q3,oZ,by go_num,HD4,HB4⟩
variable {α:Type}
def Rest (p q:Pr α) (st0 st:St):Prop:=(st.off=true/\p.on st0=(none,st))∨q.on st=p.on st0
theorem vE (a:Int) (k:Int->Pr α) (st:St):(Pr.load a k).on st=if(st.load a).2.off=true then(none,(st.load a).2) else(k (st.load a).1).on (st.load a).2:=rfl
theorem tJ (a v:Int) (k:Pr α) (st:St):(Pr.store a v k).on st=if(st.store a (u32 v)).off=true then(none,st.store a (u32 v)) else k.on (st.store a (u32 v)):=rfl
section
variable {p q:Pr α} {st0 st:St} {Bd:Nat}
theorem Rest.start (p:Pr α) (st:St):Rest p p st st:=.inr rfl
theorem Rest.load {a:Int} {k:Int->Pr α} (h:Rest p (.load a k) st0 st) (hf:st.dO Bd):Rest p (k (st.load a).1) st0 (st.load a).2:=by
 rcases h with ⟨h1,h2⟩ | h
 ·have e:=St.wH hf.good h1 a;rw[e];exact .inl ⟨h1,h2⟩
 ·rw[vE] at h;split at h
  ·rename_i h2
   exact .inl ⟨h2,h.symm⟩
  ·exact .inr h
theorem Rest.store {a v:Int} {k:Pr α} (h:Rest p (.store a v k) st0 st) (hf:st.dO Bd):Rest p k st0 (st.store a (u32 v)):=by
 rcases h with ⟨h1,h2⟩ | h
 ·have e:=St.nW hf.good h1 a (u32 v);rw[e];exact .inl ⟨h1,h2⟩
 ·rw[tJ] at h;split at h
  ·rename_i h2
   exact .inl ⟨h2,h.symm⟩
  ·exact .inr h
def fw (p:Pr α) (x:α) (st0 st:St):Prop:=(p.on st0).2=st/\∀ y,(p.on st0).1=some y->y=x
theorem Rest.ret {x:α} (h:Rest p (.ret x) st0 st):fw p x st0 st:=by
 unfold fw;rcases h with ⟨_,h2⟩ | h
 ·rw[h2];exact⟨rfl,fun y hy=>by cases hy⟩
 ·rw[<- h];exact⟨rfl,fun y hy=>by cases hy;rfl⟩
theorem Rest.off (h:Rest p q st0 st) (hf:st.dO Bd) (ho:st.off=true) (hq:q.qE=false) (x:α):fw p x st0 st:=by
 have e:p.on st0=(none,st):=by
  rcases h with ⟨_,h2⟩ | h
  ·exact h2
  ·rw[<- h];cases q with
   | ret y=>cases hq
   | load a k=>unfold Pr.on;rw[St.wH hf.good ho a,if_pos ho]
   | store a v k=>unfold Pr.on;rw[St.nW hf.good ho a (u32 v),if_pos ho]
 unfold fw;rw[e];exact⟨rfl,fun y hy=>by cases hy⟩
theorem Rest.same {q':Pr α} (h:Rest p q st0 st) (e:q=q'):Rest p q' st0 st:=e ▸ h
end
theorem sW {β:Type} (q:Pr β) {st:St} (hg:st.Good) (ho:st.off=true):(q.on st).2=st:=by
 cases q with
 | ret x=>rfl
 | load a k=>rw[vE,St.wH hg ho a,if_pos ho]
 | store a v k=>rw[tJ,St.nW hg ho a (u32 v),if_pos ho]
structure fV (W:World) (rb mb cb:Nat) (go0:Option Nat) (st:St) (go:Option Nat) (w:World):Prop where
 old:rb<W.heap.size/\mb<W.heap.size/\cb<W.heap.size
 rm:RM w rb mb cb go true st
 adv:jl rb mb cb W go0 w go
section
variable {W w w':World} {rb mb cb:Nat} {go0 go go':Option Nat} {st st':St}
theorem fV.start (h:RM W rb mb cb go true st):fV W rb mb cb go st go W:=⟨⟨h.lt rb (.inl rfl),h.lt mb (.inr (.inr (.inl rfl))),h.lt cb (.inr (.inr (.inr rfl)))⟩,h,jl.of_below (Below.refl _ _)⟩
theorem fV.below (h:fV W rb mb cb go0 st go w) (hb:Below w.heap.size w w'):fV W rb mb cb go0 st go w':=⟨h.old,h.rm.below hb,h.adv.trans (jl.of_below hb)⟩
theorem fV.access (h:fV W rb mb cb go0 st go w) (hr:RM w' rb mb cb go' true st') (ha:jl rb mb cb w go w' go'):fV W rb mb cb go0 st' go' w':=⟨h.old,hr,h.adv.trans ha⟩
theorem fV.far (h:fV W rb mb cb go0 st go w) {k:Nat} {c:Array Value} {t:TypeId} (hk:w.heap[k]?=some (.cells c t (0,0))) (hW:W.heap.size<=k) (ht:t≠32):¬ fD rb mb cb go k:=by
 obtain⟨o1,o2,o3⟩:=h.old;rintro(e | e | e | e)
 ·omega
 ·obtain⟨cap,hr⟩:=h.rm.run;have hl:=hr.row;rw[e] at hl;obtain⟨cur,h4,_⟩:=hl;rw[h4] at hk;injection hk with hk
  injection hk with _ h5
  exact ht h5.symm
 ·omega
 ·omega
theorem fV.stays (h:fV W rb mb cb go0 st go w) (ha:jl rb mb cb w go w' go') {k:Nat} {c:Array Value} {t:TypeId} (hk:w.heap[k]?=some (.cells c t (0,0))) (hW:W.heap.size<=k) (ht:t≠32):w'.heap[k]?=some (.cells c t (0,0)) :=
 (ha.mod.block k (lt_of_heap hk) (h.far hk hW ht)).trans hk
theorem fV.turn (h:fV W rb mb cb go0 st go w) {k:Nat} (hk:¬ fD rb mb cb go k) (hW:W.heap.size<=k) (hm:bB (fun j=>j=k) w w'):fV W rb mb cb go0 st go w' :=
 ⟨h.old,h.rm.mod hm fun j hj e=>by subst e;exact hk hj,h.adv.grows,h.adv.mod.then hm fun i hi e=>oZ⟩
end
variable {α:Type}
def Own (S:Nat->Prop) (mb cb:Nat) (k:Nat):Prop:=S k∨k=mb∨k=cb
structure I9 (W:World) (mb cb:Nat) (S:Nat->Prop) (I:World->Prop) (Post:α->World->Prop) (x:α) (cs':List Int) (t:Int) (wx:World):Prop where
 mem:∃ l s,bD wx mb cb cs' l s/\0<=l/\0<=s/\l+s<=t
 cells:∀ y∈cs',U y
 inv:I wx
 post:Post x wx
 mod:bB (Own S mb cb) W wx
theorem EO {p:Pr α} {st:St} {B:Nat} (h:({st with at_:=0,made:=false}:St).dO B) (ho:st.over=false):(∀ y∈(st.iI p).log,U y)/\∀ y∈(st.iI p).cs,U y:=by
 have:=fu p _ h;unfold St.iI;rw[if_neg (by simp[ho])];exact⟨this.ok.log_u,this.ok.cs_u⟩
end Go.Proofs.YtafaohnhlgcnpaaGreatDoor
