/-
 What stage 12 rests on.
-/
import Derived.Test.YtafaohnhlgcnpaaGreatDoorWrAlI1
import Derived.Test.YtafaohnhlgcnpaaGreatDoorWrAlI4
import Derived.Test.YtafaohnhlgcnpaaGreatDoorWrAlH4
import Derived.Test.YtafaohnhlgcnpaaGreatDoorWrAlI5
import Derived.Test.YtafaohnhlgcnpaaGreatDoorWrAlH2
import Derived.Test.YtafaohnhlgcnpaaGreatDoorWrAlI2
set_option maxRecDepth 100000
set_option maxHeartbeats 16000000
namespace Go.Proofs.YtafaohnhlgcnpaaGreatDoor
theorem WS.Kt {B S:Nat->Int} {C:Int} {m:Nat} {s:Int} {cs:List Int} {Us:Nat->Int} {d:bK} (h:WS B S C m s cs Us d) (hs:0<=s) (hocc:qo d m<m) {k:List Nat} (hkb:∀ b∈k,b<256) (hkl:k.length<=100) :
  ∃ q slot,Does (fR s m k m 0) cs q (eQ d k m,slot) cs/\((eQ d k m=0/\bV cs d k m=0)∨∃ r:Nat,r≠0/\eQ d k m=(r:Int)/\r<cs.length/\cs[r]?=some (bV cs d k m)):=by
 obtain⟨q,a,t,hq,ht,hf,hfs⟩:=sG (k:=k) h.dict hs hkb hkl hocc;have hlen:=h.len;have hdl:=h.dict.len;have hhis:=h.dict.his;rcases hfs with hdi | ⟨rfl,hdn,hp,hno⟩
 ·obtain⟨r1,r2,r3,r4,r5⟩:=h.dict.rec_ _ a k hdi;have hrec:=h.dict.mg hdi;have hlo:=h.dict.lo0;obtain⟨r,rfl⟩:=Int.eq_ofNat_of_zero_le (show 0<=a by omega);have htl:bV cs d k m=cs.getD r 0:=by unfold bV;rw[hrec,if_neg oZ];rfl
  refine⟨q,_,by rw[hrec];exact hf,.inr ⟨r,oZ,hrec,oZ,?_⟩⟩;rw[htl,List.getD_eq_getElem?_getD,gZ oZ];rfl
 ·have hrec:=jd hno m;exact⟨q,_,by rw[hrec];exact hf,.inl ⟨hrec,by unfold bV;rw[if_pos hrec]⟩⟩
theorem xY {B S:Nat->Int} {ts:List TR} {i:Nat} {x:TR} (hx:ts[i]?=some x):dA (ts.take (i+1))=dA (ts.take i)+(if x.2.2.1=0 then 1 else 0)/\∀ j,eT B S (ts.take (i+1)) j=eT B S (ts.take i) j+uE B S x j:=by
 rw[List.take_add_one,hx];refine⟨?_,fun j=>qd B S _ x j⟩;unfold dA;rw[List.map_append,List.sum_append];simp
end Go.Proofs.YtafaohnhlgcnpaaGreatDoor
namespace Go.Proofs.YtafaohnhlgcnpaaGreatDoor
open Go.RowKit
def zV (g:Nat) (vt:Value) (k:Nat):Prop:=k=g∨∃ n cap,vt=.slice (some ⟨k,0,none⟩) n cap
structure AF (W:World) (rb mb cb:Nat) (go0:Option Nat) (g:Nat) (B S:Nat->Int) (C T L sl:Int) (Us:Nat->Int) (vt vw:Value) (ts:List TR) (st:St) (go:Option Nat) (w:World):Prop where
 run:ik (zV g vt) W rb mb cb go0 st go w
 ad:w.heap[g]?=some (.cells (lC rb B S C T L sl Us vt vw) 176 (0,0))
 tr:dR w 0 vt ts
section
variable {W w w':World} {rb mb cb:Nat} {go0 go go':Option Nat} {g gt:Nat} {B S:Nat->Int} {C T L sl:Int} {Us:Nat->Int} {vt vw:Value} {ts:List TR} {st st':St}
theorem AF.cases (h:AF W rb mb cb go0 g B S C T L sl Us vt vw ts st go w):(vt=.slice none 0 0/\ts=[])∨∃ gt n cap,vt=.slice (some ⟨gt,0,none⟩) n cap/\n=ts.length/\WF (zV g vt) W rb mb cb go0 g gt B S C T L sl Us n cap vw ts st go w:=by
 have htr:=h.tr;obtain⟨h0,⟨h1,h2⟩ | ⟨gt,cap,cur,k1,k2,k3,k4⟩⟩:=htr
 ·exact .inl ⟨h1,List.eq_nil_of_length_eq_zero h2⟩
 ·refine .inr ⟨gt,ts.length,cap,k1,rfl,⟨h.run,by rw[<- k1];exact h.ad,by rw[<- k1];exact h.tr,.inl rfl,.inr ⟨_,_,k1⟩⟩⟩
theorem AF.KW {n cap:Nat} (h:WF (zV g (.slice (some ⟨gt,0,none⟩) n cap)) W rb mb cb go0 g gt B S C T L sl Us n cap vw ts st go w):AF W rb mb cb go0 g B S C T L sl Us (.slice (some ⟨gt,0,none⟩) n cap) vw ts st go w:=⟨h.run,h.ad,h.tr⟩
end
section
variable {w:World} {rb mb cb:Nat} {go:Option Nat} {g:Nat} {B S:Nat->Int} {C L sl:Int} {m:Nat} {Us:Nat->Int} {vt vw:Value} {ts0:List TR} {st:St} {Bd:Nat}
theorem Gn {T:Int} (had:w.heap[g]?=some (.cells (lC rb B S C T L sl Us (.slice none 0 0) vw) 176 (0,0))) :
  Calls Tryz.prog 86 #[.pointer (some ⟨g,0,none⟩)] w fun e w'=>e=.returned (.tuple #[.int .i64 0,.agg (six fun _=>0)])/\Below w.heap.size w w':=by
 have c23:w.cell? ⟨g,23,none⟩=some (.slice none 0 0):=aa had 23;clear had;go_enter Tryz.func86,Tryz.ntmps86
 go_upto_region 1 with fail
 have hz:(w.alloc (.cells #[.int .i64 0,.int .i64 0,.int .i64 0,.int .i64 0,.int .i64 0,.int .i64 0] 40))=(w.alloc (.cells (six fun _=>0) 40)):=rfl;rw[hz];have hb0:Below w.heap.size w (w.alloc (.cells (six fun _=>0) 40)):=aj;have HQm:=hJ (nZ w (.cells (six fun _=>0) 40));have HB:=hJ hb0;obtain⟨qm,hqm⟩:∃ qm,qm=w.heap.size:=⟨_,rfl⟩;have HQM:=hJ (show w.heap.size<=qm by omega);rw[<- hqm] at HQm;rw[show (Value.pointer (some ⟨w.heap.size,0,none⟩))=.pointer (some ⟨qm,0,none⟩) by rw[hqm]];have c23:=az c23 hb0;generalize w.alloc (.cells (six fun _=>0) 40)=wa at HQm HB c23 ⊢;clear hqm hz hb0;go_wp2_with fail
 clear c23;go_loopw [2,13] (fun fv iv wr=>fv=.int .i64 0/\iv=.int .i64 0/\wr=wa) (fun _ _ _=>0)
 case atStart=>exact⟨rfl,rfl,rfl⟩
 case round =>
  obtain⟨rfl,rfl,hw⟩:=hrel;have hw2:wa=wr:=hw.symm;subst hw2;clear hw;go_upto_region 17 with fail
  refine fZ (fun(p:Unit) jz=>[.int .i64 0,.agg (six fun _=>0),.int .i64 0,undef].getD jz undef)
   (fun p l wx=>Below w.heap.size w wx/\w.heap.size<=qm/\wx.heap[qm]?=some (.cells (six fun _=>0) 40 (0,0)))
   _ kZ (fun i j=>i==0&&j==2) kZ pZ () ?_ ?_ ?_ ?_ ?_
  ·exact⟨HB.out.drew,HQM.out,HQm.out⟩
  ·intro l hc i' j' hL hj;obtain⟨rfl,rfl⟩:i'=0/\j'=2:=by simpa using hL
   exact(hc 2 _ rfl hj ⟨0,.data⟩ sZ rfl)
  ·intro q l wx hR i' j' d hL hd hj;obtain⟨rfl,rfl⟩:i'=0/\j'=2:=by simpa using hL
   obtain rfl:2=d:=Option.some.inj hd;rfl
  ·intro i o ho p l wx hR hl he K hK;rcases i with _|_|_|_|i
   ·cases ho;go_simp;exact hK p wx (fun _ _=>rfl) hR
   ·cases ho;refine wp_load_row 40 (.tmp 3) rfl qm rfl 40 (six fun _=>0) (0,0) _ hR.2.2 Tryz.underlying40 rfl (af _) ?_;exact hK p wx (fun _ _=>rfl) hR
   ·cases ho;go_simp;exact hK p wx (fun _ _=>rfl) hR
   ·cases ho;refine wp_store_row 40 (.tmp 3) (.tmp 107) rfl qm (six fun _=>0) rfl rfl 40 _ hR.2.2 (af _) (aS _ _) (aQ _) ?_;exact hK p _ (fun _ _=>rfl) ⟨below_setRow hR.1 hR.2.1 _,hR.2.1,setRow_heap _ _ _ _ _ _ hR.2.2⟩
   ·simp at ho
  ·intro p l wx hl hR;have HQ9:=hJ hR;clear hR hl;go_wp2_with fail
   refine tZ (v:=.tuple #[.int .i64 0,.agg (six fun _=>0)]) (bX rfl _ _ qm _ _ (0,0) _ _ rfl rfl HQ9.out.2.2 Tryz.underlying40 rfl (af _)) rfl ?_;exact⟨rfl,HQ9.out.1⟩
theorem Dp (doc:Int) (ol:Option Addr) (cl:Nat) :
  Calls Tryz.prog 88 #[.pointer (some ⟨g,0,none⟩),.int .i64 doc,.slice ol 0 cl] w fun e w'=>e=.returned (.int .i64 0)/\w'=w:=by
 go_enter Tryz.func88,Tryz.ntmps88
 go_wp2_with fail
 go_loopw [14] (fun iv wr=>iv=.int .i64 0/\wr=w) (fun _ _=>0)
 case atStart=>exact⟨rfl,rfl⟩
 case round =>
  obtain⟨rfl,hw⟩:=hrel;have hw2:w=wr:=hw.symm;subst hw2;clear hw;go_wp2_with fail
  go_ret;exact⟨rfl,rfl⟩
def Fs (W:World) (rb mb cb:Nat) (go0:Option Nat) (g:Nat) (B S:Nat->Int) (C L sl:Int) (m:Nat) (Us:Nat->Int) (vt vw:Value) (ts0:List TR) (p:Pr (List TR)) (st:St) (e:Ending) (w':World):Prop :=
 ∃ ts1 fr M go',e=.returned (.tuple #[.int .i64 fr,.agg (six M)])/\AF W rb mb cb go0 g B S C (m:Int) L sl Us vt vw ts1 (p.on st).2 go' w'/\ts1.length=ts0.length/\(∀ x∈ts1,(∀ b∈x.1,b<256)/\x.1.length<=1000)/\(0<=fr/\fr<=1000000)/\(st.off=false->∀ y,(p.on st).1=some y->ts1=y/\fr=dA y/\∀ j,j<6->M j=eT B S y j)
theorem G6 (h:AF w rb mb cb go g B S C (m:Int) L sl Us vt vw ts0 st go w) (hf:st.dO Bd) (hB:Bd<1000000000) (hts:∀ x∈ts0,(∀ b∈x.1,b<256)/\x.1.length<=1000/\x.2.1<=3000) (hz0:∀ x∈ts0,x.2.2.2=0) (hn:ts0.length<=1000) (hs0:0<=sl) (hs1:sl<=1000000) (hm0:1<=m) (hm1:m<=1000000) (hL:Laid B S C) :
  Calls Tryz.prog 86 #[.pointer (some ⟨g,0,none⟩)] w fun e w'=>Fs w rb mb cb go g B S C L sl m Us vt vw ts0 (jP sl m [] ts0) st e w':=by
 rcases h.cases with ⟨rfl,rfl⟩ | ⟨gt,n,cap,rfl,hnl,hwf⟩
 ·refine(Gn h.ad).mono ?_;rintro e w' ⟨rfl,hb⟩;refine⟨[],0,fun _=>0,go,rfl,⟨h.run.below hb,(hb.block _ (lt_of_heap h.ad)).trans h.ad,⟨rfl,.inl ⟨rfl,rfl⟩⟩⟩,rfl,sZ,oZ,fun _ y hy=>?_⟩;cases hy;exact⟨rfl,rfl,fun j _=>rfl⟩
 ·refine(IL hwf hf hB hts hz0 oZ hs0 hs1 hm0 hm1 hL).mono ?_;rintro e w' ⟨ts1,fr,M,go',he,hw,h1,h2,h3,h4⟩;exact⟨ts1,fr,M,go',he,AF.KW hw,h1,h2,h3,h4⟩
def CR (W:World) (rb mb cb:Nat) (go0:Option Nat) (g:Nat) (B S:Nat->Int) (C L sl:Int) (m:Nat) (vt vw:Value) (p:Pr ((Nat->Int)×Int)) (st:St) (e:Ending) (w':World):Prop :=
 ∃ V ts er go',e=.returned (.int .i64 er)/\AF W rb mb cb go0 g B S C (m:Int) L sl V vt vw ts (p.on st).2 go' w'/\(st.off=false->∀ y,(p.on st).1=some y->y.2=er/\(er=0->six y.1=six V))
theorem D9 {nw cw:Nat} {ow:Option Addr} (h:AF w rb mb cb go g B S C (m:Int) L sl Us vt (.slice ow nw cw) ts0 st go w) (hf:st.dO Bd) (hB:Bd<1000000000) (hts:∀ x∈ts0,(∀ b∈x.1,b<256)/\x.1.length<=1000) (hn:ts0.length<=1000) (hs0:0<=sl) (hs1:sl<=1000000) (hm0:1<=m) (hm1:m<=1000000) (hL:Laid B S C) (hUs:∀ k,k<6->0<=Us k/\Us k<=S k)
  (doc:Int) (hd0:0<=doc) (hd1:doc<=1000000) (tks:List Tk) (N:Nat) (hN:tks.length=N) (hN2:N<=1000000) (hNw:N=nw) (ol:Option Addr) (cl:Nat) (I:Tk->Nat) (hI:∀ tk∈tks,I tk<ts0.length) (hpos:∀ tk∈tks,0<=tk.2.2/\tk.2.2<=1000000) (hRd:∀ wr:World,(∀ k,k<w.heap.size->¬ zV g vt k->¬ fD rb mb cb go k->wr.heap[k]?=w.heap[k]?)->lT wr ol tks/\bQ .i64 wr ow (tks.map I)) :
  Calls Tryz.prog 88 #[.pointer (some ⟨g,0,none⟩),.int .i64 doc,.slice ol N cl] w fun e w'=>CR w rb mb cb go g B S C L sl m vt (.slice ow nw cw) (storeT B S sl m Us ts0 (tks.map fun tk=>(I tk,dV doc tk.2.2,fE doc tk.2.2))) st e w':=by
 rcases h.cases with ⟨rfl,rfl⟩ | ⟨gt,n,cap,rfl,hnl,hwf⟩
 ·cases tks with
  | nil =>
   obtain rfl:0=N:=hN;refine(Dp doc ol cl).mono ?_;rintro e w' ⟨rfl,rfl⟩;refine⟨Us,[],0,go,rfl,h,fun _ y hy=>?_⟩;cases hy;exact⟨rfl,fun _=>rfl⟩
  | cons tk l =>
   have:=hI tk sZ;simp at this
 ·refine(zU hwf hf hB hts oZ hs0 hs1 hm0 hm1 hL hUs doc hd0 hd1 tks N hN hN2 hNw ol cl I hI hpos hRd).mono ?_;rintro e w' ⟨V,ts,er,go',he,hw,h1⟩;exact⟨V,ts,er,go',he,AF.KW hw,h1⟩
end
/-! ### Blocks of one's own beside a run -/
abbrev IZ:=Nat×Array Value×TypeId
structure AW (W:World) (rb mb cb:Nat) (go0:Option Nat) (L:List IZ) (st:St) (go:Option Nat) (w:World):Prop where
 run:fV W rb mb cb go0 st go w
 keep:∀ x∈L,w.heap[x.1]?=some (.cells x.2.1 x.2.2 (0,0))/\W.heap.size<=x.1/\x.2.2≠32
section
variable {W w w':World} {rb mb cb:Nat} {go0 go go':Option Nat} {L L':List IZ} {st st':St}
theorem AW.below (h:AW W rb mb cb go0 L st go w) (hb:Below w.heap.size w w'):AW W rb mb cb go0 L st go w' :=
 ⟨h.run.below hb,fun x hx=>by obtain⟨h1,h2⟩:=h.keep x hx;exact⟨(hb.block _ (lt_of_heap h1)).trans h1,h2⟩⟩
theorem AW.access (h:AW W rb mb cb go0 L st go w) (hr:RM w' rb mb cb go' true st') (ha:jl rb mb cb w go w' go'):AW W rb mb cb go0 L st' go' w' :=
 ⟨h.run.access hr ha,fun x hx=>by obtain⟨h1,h2,h3⟩:=h.keep x hx;exact⟨h.run.stays ha h1 h2 h3,h2,h3⟩⟩
theorem AW.add (h:AW W rb mb cb go0 L st go w) {k:Nat} {c:Array Value} {t:TypeId} (hk:w.heap[k]?=some (.cells c t (0,0))) (hW:W.heap.size<=k) (ht:t≠32):AW W rb mb cb go0 ((k,c,t) :: L) st go w :=
 ⟨h.run,fun x hx=>by
  rcases List.mem_cons.1 hx with rfl | hx
  ·exact⟨hk,hW,ht⟩
  ·exact h.keep x hx⟩
theorem AW.turn (h:AW W rb mb cb go0 L st go w) {k:Nat} {c:Array Value} {t:TypeId} (hk:w.heap[k]?=some (.cells c t (0,0))) (hW:W.heap.size<=k) (ht:t≠32) (hm:bB (fun j=>j=k) w w') (hs:∀ x∈L',x∈L/\x.1≠k):AW W rb mb cb go0 L' st go w' :=
 ⟨h.run.turn (h.run.far hk hW ht) hW hm,fun x hx=>by
  obtain⟨hx1,hx2⟩:=hs x hx;obtain⟨h1,h2,h3⟩:=h.keep x hx1;exact⟨(hm.block _ (lt_of_heap h1) hx2).trans h1,h2,h3⟩⟩
theorem AW.call {S0:Nat->Prop} (h:AW W rb mb cb go0 L st go w) (hr:RM w' rb mb cb go' true st') (ha:lh S0 rb mb cb w go w' go') (hS:∀ k,S0 k->W.heap.size<=k) (hs:∀ x∈L',x∈L/\¬ S0 x.1):AW W rb mb cb go0 L' st' go' w':=by
 have hfar:∀ {k:Nat} {c:Array Value} {t:TypeId},w.heap[k]?=some (.cells c t (0,0))->W.heap.size<=k->t≠32->¬ fD rb mb cb go k:=fun a b c=>h.run.far a b c;refine⟨⟨h.run.old,hr,?_⟩,fun x hx=>?_⟩
 ·refine⟨?_,h.run.adv.mod.then ha.mod ?_⟩
  ·rcases ha.grows with e | ⟨g,e,hg⟩
   ·rw[e];exact h.run.adv.grows
   ·exact .inr ⟨g,e,Nat.le_trans h.run.adv.mod.size hg⟩
  ·rintro i hi (e | e | e | e)
   ·have:=hS i e;omega
   ·exact .inl e
   ·rcases h.run.adv.grows with e' | ⟨g,e',hg⟩
    ·exact .inr (.inl (e' ▸ e))
    ·rw[e'] at e;cases e;omega
   ·exact .inr (.inr e)
 ·obtain⟨hx1,hx2⟩:=hs x hx;obtain⟨h1,h2,h3⟩:=h.keep x hx1;exact⟨(ha.mod.block _ (lt_of_heap h1) (fun e=>e.elim hx2 (hfar h1 h2 h3))).trans h1,h2,h3⟩
end
theorem Rest.next {α β:Type} {p:Pr α} {q:Pr β} {f:β->Pr α} {r:Pr α} {st0 st:St} {Bd:Nat} (h:Rest p (q.bind f) st0 st) (hf:st.dO Bd) (h0:st0.off=false) (hk:st.off=false->∀ x,(q.on st).1=some x->f x=r):Rest p r st0 (q.on st).2:=by
 by_cases ho:st.off=true
 ·rw[sW q hf.good ho];exact h.any hf.good h0 ho
 ·rcases h with ⟨h1,_⟩ | h
  ·exact absurd h1 ho
  ·rw[uQ] at h;cases e:(q.on st).1 with
   | none =>
    rw[e] at h;exact .inl ⟨oJ q st e,h.symm⟩
   | some x =>
    rw[e] at h;simp only at h;rw[hk (by simpa using ho) x e] at h;exact .inr h
theorem ql {U M M' S:Nat->Int} (h:∀ j,j<6->M j=M' j):iq U M S=iq U M' S:=by
 cases h1:iq U M S with
 | true=>exact(oK fun j hj=>oH.2 (by rw[<- h j hj];exact pU h1 j hj)).symm
 | false =>
  cases h2:iq U M' S with
  | false=>rfl
  | true=>exact absurd (oK (U:=U) (M:=M) (S:=S) fun j hj=>oH.2 (by rw[h j hj];exact pU h2 j hj)) (by rw[h1];decide)
theorem LH (F:List ByteArray):(∀ x∈(bg (dz F)).1.map (qM (dz F)),((∀ b∈x.1,b<256)/\x.1.length<=17/\x.2.1<=64)/\x.2.2.2=0)/\(bg (dz F)).1.length<=64:=by
 have hn:=lV (dz F);have hd:=nP F;refine⟨fun x hx=>?_,oZ⟩;obtain⟨k,hk,rfl⟩:=List.mem_map.1 hx;obtain⟨tk,htk,rfl⟩:=List.mem_map.1 (((gU _).mem k).1 hk);have h:=iy htk;have hc:dY (dz F) (aM tk)<=((dz F).map aM).length:=List.count_le_length;rw[List.length_map] at hc;refine⟨⟨iE h.1 oZ,?_,?_⟩,rfl⟩
 ·show (aM tk).length<=17;unfold aM;rw[List.length_cons,aD];omega
 ·show dY _ _<=64;omega
theorem Ha {w:World} {base:Nat} {so:Option Addr} {sc:Nat} {s:Sg} (h:bn w base (.slice so 1 sc) [s]) :
  ∃ sg cur,so=some ⟨sg,0,none⟩/\base<=sg/\w.heap[sg]?=some (.cells cur 65 (0,0))/\cur[0]?=some (.int .i64 s.1)/\cur[1]?=some (.int .i64 s.2.1)/\cur[2]?=some (.bool s.2.2) /\
   ∀ (wr:World) (base':Nat) (u:Int),base'<=sg->wr.heap[sg]?=some (.cells (cur.setIfInBounds 1 (.int .i64 u)) 65 (0,0))->bn wr base' (.slice so 1 sc) [(s.1,u,s.2.2)]:=by
 obtain⟨hx0,⟨h1,_⟩ | ⟨sg,cap,cur,h1,hb,hh,h4,h5,h6,h7⟩⟩:=h
 ·cases h1
 ·cases h1;have e7:cur.toList.take 3=[.int .i64 s.1,.int .i64 s.2.1,.bool s.2.2]:=h7;have hsz:3<=cur.size:=by simp at h6 h4;omega
  have g:∀ j:Nat,j<3->cur[j]?=([.int .i64 s.1,.int .i64 s.2.1,.bool s.2.2]:List Value)[j]?:=fun j hj=>by
   rw[<- e7,List.getElem?_take,if_pos hj];simp
  refine⟨sg,cur,rfl,hb,hh,g 0 oZ,g 1 oZ,g 2 oZ,fun wr base' u hb' hw=>⟨rfl,.inr ⟨sg,sc,_,rfl,hb',hw,h4,h5,by simpa using h6,?_⟩⟩⟩;show (cur.setIfInBounds 1 _).toList.take 3=[.int .i64 s.1,.int .i64 u,.bool s.2.2];rw[Array.toList_setIfInBounds,List.take_set,e7];rfl
theorem dR.keep {w w':World} {base base':Nat} {v:Value} {l:List TR} (h:dR w base v l) (hb:∀ g c,w.heap[g]?=some (.cells c 223 (0,0))->base<=g->w'.heap[g]?=w.heap[g]?/\base'<=g):dR w' base' v l:=by
 obtain⟨h0,h | ⟨g,cap,cur,k1,k2,k3,k4⟩⟩:=h
 ·exact⟨h0,.inl h⟩
 ·exact⟨h0,.inr ⟨g,cap,cur,k1,(hb g cur k3 k2).2,(hb g cur k3 k2).1.trans k3,k4⟩⟩
section
variable {W w w':World} {rb mb cb:Nat} {go0 go go':Option Nat} {L L':List IZ} {st st':St} {g:Nat} {B S:Nat->Int} {C T Lv sl:Int} {Us Us':Nat->Int} {vt vw:Value} {ts ts':List TR}
theorem AF.nU (hA:AW W rb mb cb go0 L st go w) (hS:∀ k,zV g vt k->W.heap.size<=k) (had:w.heap[g]?=some (.cells (lC rb B S C T Lv sl Us vt vw) 176 (0,0))) (htr:dR w 0 vt ts):AF w rb mb cb go g B S C T Lv sl Us vt vw ts st go w:=by
 refine⟨ik.start hA.run.rm fun k hk=>?_,had,htr⟩;have hW:=hS k hk;rcases hk with rfl | ⟨n,cap,rfl⟩
 ·exact⟨hA.run.far had hW dZ,lt_of_heap had⟩
 ·obtain⟨h0,⟨h1,_⟩ | ⟨g',cap',cur,k1,k2,k3,k4⟩⟩:=htr
  ·cases h1
  ·cases k1;exact⟨hA.run.far k3 hW dZ,lt_of_heap k3⟩
theorem AF.away (hF0:AF w rb mb cb go g B S C T Lv sl Us vt vw ts st go w) {y:IZ} (h1:w.heap[y.1]?=some (.cells y.2.1 y.2.2 (0,0))) (t1:y.2.2≠176) (t2:y.2.2≠223):¬ zV g vt y.1:=by
 intro hk;rcases hk with e | ⟨n,cap,rfl⟩
 ·rw[e,hF0.ad] at h1;injection h1 with h1
  injection h1 with _ h3
  exact t1 h3.symm
 ·obtain⟨h0,⟨h2,_⟩ | ⟨g',cap',cur,k1,k2,k3,k4⟩⟩:=hF0.tr
  ·cases h2
  ·cases k1;rw[k3] at h1;injection h1 with h1
   injection h1 with _ h3
   exact t2 h3.symm
theorem AW.through (hA:AW W rb mb cb go0 L st go w) (hF0:AF w rb mb cb go g B S C T Lv sl Us vt vw ts st go w) (hF:AF w rb mb cb go g B S C T Lv sl Us' vt vw ts' st' go' w') (hS:∀ k,zV g vt k->W.heap.size<=k) (ht:∀ x∈L,x.2.2≠176/\x.2.2≠223):AW W rb mb cb go0 L st' go' w':=by
 refine hA.call hF.run.rm hF.run.adv hS fun x hx=>⟨hx,fun hk=>?_⟩;have h1:=(hA.keep x hx).1;obtain⟨t1,t2⟩:=ht x hx;rcases hk with e | ⟨n,cap,rfl⟩
 ·rw[e,hF0.ad] at h1;injection h1 with h1
  injection h1 with _ h3
  exact t1 h3.symm
 ·obtain⟨h0,⟨h2,_⟩ | ⟨g',cap',cur,k1,k2,k3,k4⟩⟩:=hF0.tr
  ·cases h2
  ·cases k1;rw[k3] at h1;injection h1 with h1
   injection h1 with _ h3
   exact t2 h3.symm
end
structure MB (w4:World) (M:Nat->Int) (w:World):Prop where
 low:Below w4.heap.size w4 w
 box:w.heap[w4.heap.size]?=some (.cells (six M) 40 (0,0))
theorem MB.below {w4 w w':World} {M:Nat->Int} (h:MB w4 M w) (hb:Below w.heap.size w w'):MB w4 M w':=⟨ag h.low hb,(hb.block _ (lt_of_heap h.box)).trans h.box⟩
theorem AU (vc vs:Value) (x:Sx):∀ (j:Nat) (v:Value),(six x.used).toList[j]?=some v->(aH vc vs x)[4+j]?=some v:=by
 intro j v hj;rcases j with _|_|_|_|_|_|j
 all_goals first | exact hj | (simp[six] at hj)
structure AT (w6:World) (T g n:Nat) (vs:Value) (x1:Sx) (c1:List Int) (sg:List Sg) (wx:World):Prop where
 low:Below w6.heap.size w6 wx
 box:wx.heap[T]?=some (.cells (aH (.slice (some ⟨g,0,none⟩) n n) vs x1) 49 (0,0))
 row:cB wx g c1
 seg:bn wx w6.heap.size vs sg
 hT:w6.heap.size<=T
 hg:w6.heap.size<=g
theorem AT.below {w6:World} {T g n:Nat} {vs:Value} {x1:Sx} {c1:List Int} {sg:List Sg} {wx w':World} (h:AT w6 T g n vs x1 c1 sg wx) (hb:Below wx.heap.size wx w'):AT w6 T g n vs x1 c1 sg w' :=
 ⟨ag h.low hb,(hb.block _ (lt_of_heap h.box)).trans h.box,h.row.below hb,ak h.seg hb,h.hT,h.hg⟩
theorem AT.store {w6:World} {T g n g2:Nat} {vs:Value} {x1 x2:Sx} {c1 c2:List Int} {sg:List Sg} {wx:World} (h:AT w6 T g n vs x1 c1 sg wx) (hr:cB wx g2 c2) (hg:w6.heap.size<=g2):AT w6 T g2 n vs x2 c2 sg (wx.setRow T (aH (.slice (some ⟨g2,0,none⟩) n n) vs x2)):=by
 have hs:=setRow_heap wx T _ (aH (.slice (some ⟨g2,0,none⟩) n n) vs x2) _ _ h.box
 have hne:g2≠T:=by
  rintro rfl;obtain⟨cur,hc,_⟩:=hr;rw[h.box] at hc;injection hc with hc
  injection hc with _ hc _
  exact absurd hc dZ
 exact⟨below_setRow h.low h.hT _,hs,hr.of_block (qZ _ _ _ _ hne),h.seg.keep h.box dZ (fun j hj=>qZ _ _ _ _ hj),h.hT,hg⟩
theorem AT.field {w6:World} {T g n:Nat} {vs:Value} {x1:Sx} {c1:List Int} {sg:List Sg} {wx:World} (h:AT w6 T g n vs x1 c1 sg wx) (k:Nat) (v:Value) {g2:Nat} {x2:Sx} {c2:List Int} (hs:(aH (.slice (some ⟨g,0,none⟩) n n) vs x1).setIfInBounds k v=aH (.slice (some ⟨g2,0,none⟩) n n) vs x2) (hr:cB wx g2 c2) (hg:w6.heap.size<=g2):AT w6 T g2 n vs x2 c2 sg (wx.setCell ⟨T,k,none⟩ v):=by
 have hne:g2≠T:=by
  rintro rfl;obtain⟨cur,hc,_⟩:=hr;rw[h.box] at hc;injection hc with hc
  injection hc with _ hc _
  exact absurd hc dZ
 refine⟨dD h.low h.hT _ _,?_,hr.of_block (Below.heap_setCell _ _ _ _ hne),h.seg.keep h.box dZ (fun j hj=>Below.heap_setCell _ _ _ _ hj),h.hT,hg⟩;rw[heap_setCell_same _ _ _ _ _ _ h.box,hs]
theorem ah {p:Nat} {v:Obj} {w w':World} (h:w.heap[p]?=some v) (hb:Below w.heap.size w w'):w'.heap[p]?=some v :=
 (hb.block _ (lt_of_heap h)).trans h
theorem AT.other {w6:World} {T g n:Nat} {vs:Value} {x1:Sx} {c1:List Int} {sg:List Sg} {wx:World} (h:AT w6 T g n vs x1 c1 sg wx) {q:Nat} {cq:List Int} (hq:cB wx q cq) (hqb:w6.heap.size<=q) (hne:q≠g) {a:Nat} (v:Int):AT w6 T g n vs x1 c1 sg (wx.setCell ⟨q,a,none⟩ (.int .u32 v)):=by
 have hqT:q≠T:=hq.ne h.box dZ;obtain⟨cur,hc,_⟩:=hq;exact⟨dD h.low hqb _ _,(Below.heap_setCell _ _ _ _ (Ne.symm hqT)).trans h.box,h.row.of_block (Below.heap_setCell _ _ _ _ (Ne.symm hne)),h.seg.keep hc dZ (fun j hj=>Below.heap_setCell _ _ _ _ hj),h.hT,h.hg⟩
theorem AT.aC {w6:World} {T g n:Nat} {vs:Value} {x1:Sx} {c1:List Int} {sg sg':List Sg} {wx:World} (h:AT w6 T g n vs x1 c1 sg wx) (e:sg=sg'):AT w6 T g n vs x1 c1 sg' wx:=e ▸ h
theorem AT.Ee {w6:World} {T g n sc:Nat} {so:Option Addr} {x1:Sx} {c1:List Int} {b k:Int} {f:Bool} {wx:World} (h:AT w6 T g n (.slice so 1 sc) x1 c1 [(b,k,f)] wx) (k2:Int):∃ gs:Nat,so=some ⟨gs,0,none⟩/\wx.cell? ⟨gs,1,none⟩=some (.int .i64 k)/\wx.frozen? ⟨gs,1,none⟩=false/\AT w6 T g n (.slice so 1 sc) x1 c1 [(b,k2,f)] (wx.setCell ⟨gs,1,none⟩ (.int .i64 k2)):=by
 obtain⟨h1,h2,h3,h4,h5,h6⟩:=h;have h4':=h4;obtain⟨h0,⟨h7,h8⟩ | ⟨gs,cap,cur,k1,k2',k3,k4⟩⟩:=h4'
 ·cases h8
 ·injection k1 with k1 _ k1c
  subst k1 k1c
  have hT:T≠gs:=by
   rintro rfl;rw[h2] at k3;injection k3 with k3
   injection k3 with _ k3 _
   exact absurd k3 dZ
  have hg:g≠gs:=h3.ne k3 dZ;obtain⟨⟨y,hy,hc⟩,hf,ho⟩:=qO (i:=1) h4 dZ (.int .i64 k2)
  have hy2:y=.int .i64 k:=by
   have:(kC [(b,k,f)])[1]?=some (.int .i64 k):=rfl;rw[this] at hy;exact(Option.some.inj hy).symm
  subst hy2;exact⟨gs,rfl,hc,hf,dD h1 k2' _ _,(Below.heap_setCell _ _ _ _ hT).trans h2,h3.of_block (Below.heap_setCell _ _ _ _ hg),ho,h5,h6⟩
theorem bn.lower {w:World} {a b:Nat} {v:Value} {l:List Sg} (h:bn w b v l) (hab:a<=b):bn w a v l:=by
 obtain⟨h0,h | ⟨g',cap,cur,k1,k2,k3⟩⟩:=h
 ·exact⟨h0,.inl h⟩
 ·exact⟨h0,.inr ⟨g',cap,cur,k1,Nat.le_trans hab k2,k3⟩⟩
theorem yL {B S:Nat->Int} {C:Int} (hL:Laid B S C) (m:Nat) (L s:Int) (nd:Nat) (m0:1<=m) (m1:m<=1000000) (s0:0<=s) (s1:s<=1000000) (hnd:nd<=1000) (x:Sx) (vs0:Option Addr) (vsc n:Nat) {cs cs1:List Int} {Us Us1:Nat->Int} {tk:Tk} (en:cs.length=n) (hn:n<=1000000) (hU:∀ y∈cs,U y) (tk0:0<=tk.1/\tk.1<=255) (tk1:tk.2.1.size<=100) (tk2:0<=tk.2.2/\tk.2.2<=1000000) (h:uy B S s m (nd:Int) cs Us tk cs1 Us1) (w:World) (g:Nat) (ha:cB w g cs) :
  Calls Tryz.prog 98 #[.agg (aH (.slice (some ⟨g,0,none⟩) n n) (.slice vs0 1 vsc) {x with used:=Us}),.agg (ae B S C (m:Int) L),.int .i64 s,.int .i64 (nd:Int),.agg #[.int .u8 tk.1,.string tk.2.1,.int .i64 tk.2.2]] w fun e w'=>∃ g2,e=.returned (.agg (aH (.slice (some ⟨g2,0,none⟩) n n) (.slice vs0 1 vsc) {x with used:=Us1}))/\cB w' g2 cs1/\w.heap.size<=g2/\Below w.heap.size w w':=by
 cases h with
 | found k1 k2 k3 k4 k5 k6 k7 k8 k9 =>
  exact vg w g 0 n n cs en hn hU (ha.read hU) vs0 1 vsc {x with used:=Us} hL m L s (nd:Int) tk m0 m1 s0 s1 oZ oZ tk0 tk1 tk2 k1 oZ k3 k4 k5 k6 k7 k8 k9
 | fresh k1 k2 k3 k4 k5 k6 k7 k8 k9 k10 k11 k12 k13 k14 k15 k16 =>
  subst k10;exact zb w (some ⟨g,0,none⟩) n n cs en hn hU (ha.read hU) vs0 1 vsc {x with used:=Us} hL m L s (nd:Int) tk m0 m1 s0 s1 oZ oZ tk0 tk1 tk2 k1 k2 k3 k4 k5 k6 k7 k8 oZ rfl k11 k12 k13 k14 k15 k16
def Il (w:World) (n:Nat) (cs':List Int) (x':Sx) (e:Ending) (w':World):Prop:=∃ g vs,e=.returned (.tuple #[.int .i64 0,.agg (aH (.slice (some ⟨g,0,none⟩) n n) vs x')])/\cB w' g cs'/\bn w' w.heap.size vs x'.aC/\Below w.heap.size w w'/\w.heap.size<=g
def ME (w:World) (n k:Nat) (st:Array Value) (cs':List Int) (x':Sx) (e:Ending) (w':World):Prop:=match k with
 | 0=>Il w n cs' x' e w'
 | k+1=>e=.returned (.tuple #[.int .i64 ((k+1:Nat):Int),.agg st])/\Below w.heap.size w w'
theorem qa {B S:Nat->Int} {C:Int} {m dd:Nat} {tt:Int} {nd:Nat} {cs:List Int} {x:Sx} {d:bK} (hI:WI B S C m dd tt nd cs x d) (w:World) (oa:Option Addr) (c n:Nat) (en:cs.length=n) (ha:bQ .u32 w oa (gQ cs)) (og:Option Addr) (gc:Nat) (hg:eH w og x.aC) (ss:Nat->Int) (bk rm:Int) (kf bf:Nat) (L:Int) (id:Int) (fo:Option Addr) (fc:Nat) (F:List ByteArray) (hF:fU w fo F) (hs:∀ x∈F,x.size<=1000000) (hFn:F.length<=1000000) (hok:iN F=0) (hno:(bO cs id 0 x.aC).2.2=false) (hnd:nd<dd) {cs1:List Int} {Us1:Nat->Int} (kq:Nat) (hc:(kq=5/\tt<x.terms+dA (gm cs d m (dz F)))∨(kq=3/\x.terms+dA (gm cs d m (dz F))<=tt/\iq x.used (eT B S (gm cs d m (dz F))) S=false)∨(kq=0/\x.terms+dA (gm cs d m (dz F))<=tt/\iq x.used (eT B S (gm cs d m (dz F))) S=true/\AC B S (df B dd) m (nd:Int) cs x.used (dz F) cs1 Us1/\cs1.length=cs.length/\∀ y∈cs1,U y)) (hid:U id) :
  Calls Tryz.prog 58 #[.agg (aH (.slice oa n c) (.slice og 1 gc) x),.agg (au (dd:Int) tt ss bk rm kf bf),.agg (ae B S C (m:Int) L),.agg #[.int .u32 id,.slice fo F.length fc]] w fun e w'=>ME w n kq (aH (.slice oa n c) (.slice og 1 gc) x) (zx B nd id (dz F).length (u32 (x.bT+1)) cs1) (uC B x nd (dA (gm cs d m (dz F))) Us1) e w':=by
 obtain⟨b1,b2,b3,b4,b5,b6,b7,b8⟩:=hI.bounds;have hdd:=hI.hdd;have hsl:df B dd=B 5+1+4*(dd:Int):=rfl;have hU:=hI.ws.cu;have eg:x.aC.length=1:=by rw[hI.aC];rfl
 have hlive:x.aC[1-1]?=some (B 5,(nd:Int),false):=by rw[hI.aC];rfl
 have hin:=hI.pY;have HIw:=hJ hI;have HOcc0:=hJ (show qo d m<m by have h1:=hI.terms;have h2:=hI.many;have h3:=hI.htt;omega);have HB5:=hJ (show 0<=x.terms/\x.terms<=1000 by have h1:=hI.many;have h2:=hI.htt;have h3:=hI.hm;omega);have HB65:=hJ (show C<=65536 by omega);have HBd:=hJ (show B 5+1+4*(nd:Int)+3<(n:Int)/\0<=B 5/\B 5<=65536 by have:=hI.room;omega);have HM1a:=hJ (show 1<=m/\m<=1000000 by have h1:=hI.htt;have h2:=hI.many;have h3:=hI.hm;omega);have HTerms:=hJ hc;have HA0:=hJ ha;have HGr:=hJ hg;have HEg:=hJ eg;have HId:=hJ hid;have hn:n<=1000000:=oZ;have hgl:1<=1000:=dZ;clear hc hid;obtain⟨gb,ob,hog,q1,q2,q3⟩:=hg (1-1) (B 5,(nd:Int),false) hlive;subst hog;simp only[Nat.sub_self,Nat.zero_mul,Nat.add_zero] at q1 q2 q3;have HSg:=hJ (And.intro q1 (And.intro q2 q3));have HTk:=hJ (fun(w':World) (hb:Below w.heap.size w w')=>mo w' fo fc F (hF.below hb) hs hFn);have HPl:=hJ (fun(w':World) (hb:Below w.heap.size w w')=>jy w' oa c n cs en hn hU (ha.below hb) (some ⟨gb,ob,none⟩) 1 gc x eg (hg.below hb) hgl hin id);rw[hok] at HTk;rw[hno] at HPl;obtain⟨p1,hp1⟩:∃ p1,p1=(bO cs id 0 x.aC).1:=⟨_,rfl⟩;obtain⟨p2,hp2⟩:∃ p2,p2=(bO cs id 0 x.aC).2.1:=⟨_,rfl⟩;rw[<- hp1,<- hp2] at HPl;clear hok hno hp1 hp2 hlive q1 q2 q3;have HUc:=hJ hU;have HEn:=hJ en;clear hU ha hg hin eg en hF;go_enter Tryz.func58,Tryz.ntmps58
 go_upto_region 1 with fail
 have HA:=hJ (y8.start w (.slice oa n c) (.slice (some ⟨gb,ob,none⟩) 1 gc) x (au (dd:Int) tt ss bk rm kf bf) B S C (m:Int) L id (.slice fo F.length fc));obtain⟨w0,hw0⟩:∃ w0,w0=((((w.alloc (.cells (aH (.slice oa n c) (.slice (some ⟨gb,ob,none⟩) 1 gc) x) 49)).alloc (.cells (au (dd:Int) tt ss bk rm kf bf) 25)).alloc (.cells (ae B S C (m:Int) L) 42)).alloc (.cells #[.int .u32 id,.slice fo F.length fc] 35)).alloc (.cells cK 49):=⟨_,rfl⟩;rw[show ((((w.alloc (.cells (aH (.slice oa n c) (.slice (some ⟨gb,ob,none⟩) 1 gc) x) 49)).alloc (.cells (au (dd:Int) tt ss bk rm kf bf) 25)).alloc (.cells (ae B S C (m:Int) L) 42)).alloc (.cells #[.int .u32 id,.slice fo F.length fc] 35)).alloc (.cells #[.slice none 0 0,.slice none 0 0,.int .i64 0,.int .u32 0,.int .i64 0,.int .i64 0,.int .i64 0,.int .i64 0,.int .i64 0,.int .i64 0] 49)=w0 from hw0.symm];rw[<- hw0] at HA;clear hw0;have c1:w0.cell? ⟨w.heap.size+1+1+1,1,none⟩=some (.slice fo F.length fc):=aa HA.out.dc 1;go_wp2_with fail
 refine(HTk.out _ HA.out.low).mono ?_;rintro e w1 ⟨tv,rfl,htk,hb⟩;have HA:=hJ (HA.out.below hb);have HTv:=hJ htk;clear hb c1 HTk htk
 have htv:∃ tko tkn tkc,tv=Value.slice tko tkn tkc:=by
  obtain⟨q1,q2,q3⟩:=dP HTv.out _ rfl;exact⟨q1,_,q2,q3⟩
 obtain⟨tko,tkn,tkc,rfl⟩:=htv;have d0:w1.cell? ⟨w.heap.size+1+1+1,0,none⟩=some (.int .u32 id):=aa HA.out.dc 0
 go_wp2_with (first
  | (refine yZ rfl 49 (.tmp 4) rfl w.heap.size rfl 49 (aH (.slice oa n c) (.slice (some ⟨gb,ob,none⟩) 1 gc) x) (0,0) _ HA.out.st Tryz.underlying49 rfl (aG _ _ _) ?_)
  | fail)
 refine(HPl.out _ HA.out.low).mono ?_;rintro e w2 ⟨rfl,hb⟩;have HA:=hJ (HA.out.below hb);have HTv:=hJ (ak HTv.out hb);clear hb HPl d0;have c0:w2.cell? ⟨w.heap.size,1,none⟩=some (.slice (some ⟨gb,ob,none⟩) 1 gc):=aa HA.out.st 1;have l1:=az HSg.out.1 HA.out.low;have l2:=az HSg.out.2.1 HA.out.low;have l3:=az HSg.out.2.2 HA.out.low;have cd:w2.cell? ⟨w.heap.size+1,0,none⟩=some (.int .i64 (dd:Int)):=aa HA.out.cf 0;go_upto_region 8 with fail
 have hb3:=aj (w:=w2) (A:=.cells #[.int .i64 (B 5),.int .i64 (nd:Int),.bool false] 65);have HA3:=hJ (HA.out.below hb3);have HTv3:=hJ (ak HTv.out hb3);have HLv:=hJ (nZ w2 (.cells #[.int .i64 (B 5),.int .i64 (nd:Int),.bool false] 65));generalize w2.alloc (.cells #[.int .i64 (B 5),.int .i64 (nd:Int),.bool false] 65)=w3 at HA3 HTv3 HLv ⊢;obtain⟨qb,hqb⟩:∃ qb,qb=w2.heap.size:=⟨_,rfl⟩;rw[<- hqb] at HLv ⊢;clear hb3 hqb c0 l1 l2 l3 cd HA HTv;have l2:w3.cell? ⟨qb,1,none⟩=some (.int .i64 (nd:Int)):=aa HLv.out 1;have cd:w3.cell? ⟨w.heap.size+1,0,none⟩=some (.int .i64 (dd:Int)):=aa HA3.out.cf 0;have hge:¬ (dd:Int)<=(nd:Int):=oZ;go_upto_region 10 with fail
 obtain⟨sl,hsl2⟩:∃ sl:Int,sl=df B dd:=⟨_,rfl⟩;have l1:w3.cell? ⟨qb,0,none⟩=some (.int .i64 (B 5)):=aa HLv.out 0;have f1:IntKind.i64.wrap (B 5+1)=B 5+1:=iZ _ oZ;have f2:IntKind.i64.wrap (4*(dd:Int))=4*(dd:Int):=iZ _ oZ;have f3:B 5+1+4*(dd:Int)=sl:=oZ;have f4:IntKind.i64.wrap sl=sl:=iZ _ oZ;have hslb:0<=sl/\sl<=1000000:=oZ;have HSl:=hJ hsl2;obtain⟨lk,hlk⟩:∃ lk,dz F=lk:=⟨_,rfl⟩;rw[hlk] at HTv3 HTerms;have HDoc:=hJ hlk;obtain⟨tn,htn⟩:∃ tn,lk.length=tn:=⟨_,rfl⟩;have htn64:tn<=64:=by rw[<- htn,<- hlk];exact nP F
 obtain⟨toa,tcap,htv2,_,_,htr⟩:=jA HTv3.out;injection htv2 with e1 e2 e3
 rw[htn] at e2;subst e1 e2 e3;have HTr:=hJ htr
 have HTk2:=hJ (show ∀ x∈lk,0<=x.1/\x.1<=255/\x.2.1.size<=1000 from fun x hx=>by
  have:=iy (F:=F) (x:=x) (by rw[hlk];exact hx);omega)
 have HLk:=hJ htn;have HTk16:=hJ (show ∀ x∈lk,x.2.1.size<=16 from fun x hx=>(iy (F:=F) (x:=x) (by rw[hlk];exact hx)).2.2.1);have HOcc:=hJ (show qo d m<m from HOcc0.out);have HM1b:=hJ (show 1<=m/\m<=1000000 from HM1a.out);have HPos:=hJ (show ∀ x∈lk,0<=x.2.2/\x.2.2<=512 from fun x hx=>(iy (F:=F) (x:=x) (by rw[hlk];exact hx)).2.2.2);have HKn:=hJ (show (bg lk).1.length<=lk.length from lV lk);clear hsl2 hlk htn htr hsl HTv3;go_wp2_with fail
 refine(Jf w3 _ _ tkn lk HLk.out oZ HTr.out HTk2.out).mono ?_;rintro e w4 ⟨kv,nv,rfl,hkv,hnv,hb⟩;have HA4:=hJ (HA3.out.below hb);have HA3lo:=hJ hb;have HKv:=hJ hkv;have HNv:=hJ hnv;clear hkv hnv hb l1 l2 cd f1 f2 f3 hge;obtain⟨K,hK0⟩:∃ K,(bg lk).1=K:=⟨_,rfl⟩;obtain⟨kn,hkn⟩:∃ kn,K.length=kn:=⟨_,rfl⟩;have hq:=gU lk
 have hkk:∀ k∈K,(∀ b∈k,b<256)/\k.length<=17:=fun k hk=>by
  rw[<- hK0,hq.mem] at hk;obtain⟨y,hy,rfl⟩:=List.mem_map.1 hk;have h1:=HTk2.out y hy;refine⟨iE h1.1 h1.2.1,?_⟩;have h2:=HTk16.out y hy;unfold aM;rw[List.length_cons,aD];omega
 have hkn64:kn<=64:=by
  have:=HKn.out;rw[hK0,hkn,HLk.out] at this;omega
 have HKk:=hJ hkk;have hcnt:(bg lk).2=K.map (dY lk):=by rw[<- hK0];exact hq.cnt
 have HK2:=HKv.out;have HN2:=HNv.out;rw[hK0] at HK2;rw[hcnt] at HN2;have HKv:=hJ HK2;obtain⟨no,nc2,rfl,_,_,_,hnr⟩:=HN2.wL kn (by rw[List.length_map];exact hkn);have HNr:=hJ hnr;obtain⟨ko,kc,hkv⟩:=dP HKv.out kn hkn;subst hkv;obtain⟨ts,hts⟩:∃ ts,gm cs d m lk=ts:=⟨_,rfl⟩;rw[hts] at HTerms;have HTsq:=hJ hts
 have HTs:=hJ (show ∀ (i:Nat) (k:List Nat),K[i]?=some k->ts[i]?=some (mX cs d m (dY lk) k) from fun i k hi=>by
  rw[<- hts];unfold gm;rw[hK0,List.getElem?_map,hi];rfl)
 have HLen:=hJ (show ts.length=kn by rw[<- hts];unfold gm;rw[hK0,List.length_map];exact hkn);have HKn2:=hJ hkn;clear hK0 hkn hq hkk hcnt HK2 HN2 hnr hts HNv HKn;go_wp2_with fail
 have HM0:=hJ (show MB w4 (fun _=>0) (w4.alloc (.cells #[.int .i64 0,.int .i64 0,.int .i64 0,.int .i64 0,.int .i64 0,.int .i64 0] 40)) from⟨aj,nZ w4 _⟩);generalize w4.alloc (.cells #[.int .i64 0,.int .i64 0,.int .i64 0,.int .i64 0,.int .i64 0,.int .i64 0] 40)=w5 at HM0 ⊢;go_loopw [19,84] (fun fv iv wr=>∃ (i:Nat) (fr:Int) (M:Nat->Int),i<=kn/\iv=.int .i64 (i:Int)/\fv=.int .i64 fr/\(0<=fr/\fr<=(i:Int))/\Hid (fr=dA (ts.take i)/\∀ j,j<6->M j=eT B S (ts.take i) j/\0<=M j/\M j<=(i:Int)*800000)/\MB w4 M wr) (fun _ iv _=>kn-(intOf iv).toNat)
 case atStart=>exact⟨0,0,fun _=>0,oZ,rfl,rfl,oZ,hJ ⟨rfl,fun j hj=>⟨rfl,Int.le_refl 0,by show (0:Int)<=_;omega⟩⟩,HM0.out⟩
 case round =>
  obtain⟨i,fr,M,hi,rfl,rfl,hfr,HS,hMB⟩:=hrel;have HM:=hJ hMB;clear hMB;by_cases hlt:i<kn
  ·have hlt1:(i:Int)<(kn:Int):=oZ;obtain⟨k,hki⟩:∃ k,K[i]?=some k:=⟨_,gZ (by rw[HKn2.out];exact hlt)⟩;obtain⟨hkb,hkl⟩:=HKk.out k (List.mem_of_getElem? hki);obtain⟨kg,hkg,hkey⟩:=sI.read HKv.out hki;subst hkg;have HKey:=hJ hkey;have HTx:=hJ (HTs.out i k hki);obtain⟨a,haD⟩:∃ a,eQ d k m=a:=⟨_,rfl⟩;obtain⟨t,htD⟩:∃ t,bV cs d k m=t:=⟨_,rfl⟩;obtain⟨cn,hcn⟩:∃ cn,dY lk k=cn:=⟨_,rfl⟩;have hws:=HIw.out.ws;obtain⟨q,slot,hdo,hcase⟩:=hws.Kt (by rw[<- HSl.out];exact hslb.1) HOcc.out hkb oZ;rw[haD] at hdo hcase;rw[htD] at hcase;have HCase:=hJ hcase;have hbl:ax (ay k)=k:=aX k hkb;have hbs:(ay k).size<=1000:=by rw[<- aD,hbl];omega
   have HFind:=hJ (fun(wx:World) (hr:bQ .u32 wx oa (gQ cs))=>sj wx oa c n cs HEn.out HUc.out hr sl m hslb.1 hslb.2 HM1b.out.1 HM1b.out.2 (ay k) hbs (by rw[hbl,HSl.out];exact hdo));have HBl:=hJ hbl;have HTx:=hJ (show ts[i]?=some (k,cn,a,t) from by have h9:=HTx.out;unfold mX at h9;rw[haD,htD,hcn] at h9;exact h9);have HKl:=hJ hkl;have HBs:=hJ (show (ay k).size<=1000000 by omega);have HCi:=hJ (show (K.map (dY lk))[i]?=some cn by rw[List.getElem?_map,hki];exact congrArg some hcn)
   have HCnb:=hJ (show cn<=64 by
    have h9:dY lk k<=lk.length:=by
     unfold dY;have:=List.count_le_length (a:=k) (l:=lk.map aM);rwa [List.length_map] at this
    rw[hcn,HLk.out] at h9;omega)
   clear hki hkb hkl hkey haD htD hcn hws hdo hcase hbl hbs;go_upto_region 17 with fail
   refine aI (fun(p:Unit) jz=>[.pointer (some ⟨w.heap.size,0,none⟩),.slice oa n c,.int .i64 sl,.pointer (some ⟨w.heap.size+1+1,13,none⟩),.int .i64 (m:Int),.slice (some ⟨kg,0,none⟩) kn kc,.int .i64 (i:Int),.pointer (some ⟨kg,i,none⟩),.string (ay k),.tuple #[.int .i64 a,.int .i64 slot,.bool true],.tuple #[.int .i64 a,.int .i64 slot,.bool true],.int .i64 a,.int .i64 slot,.bool true,.int .i64 a,.int .i64 slot,.bool true].getD jz undef)
    (fun p l_ wx=>MB w4 M wx)
    kZ kZ pZ () ?_ ?_ ?_
   ·exact HM.out.below (Below.refl _ _).drew
   ·intro i9 o9 ho p l_ wx hR hl he hcl K hK;rcases i9 with _|_|_|_|_|_|_|_|_|_|_|_|_|_|_|_|_|i9
    any_goals first | (obtain rfl:_=o9:=Option.some.inj ho;go_simp;exact hK () wx (fun _ _=>rfl) hR;done) | fail
    ·obtain rfl:_=o9:=Option.some.inj ho;have q9:=(show wx.cell? ⟨w.heap.size,0,none⟩=some (.slice oa n c) from aa (HA4.out.below hR.low).st 0);go_simp;exact hK () wx (fun _ _=>rfl) hR
    ·obtain rfl:_=o9:=Option.some.inj ho;have q9:=(show wx.cell? ⟨w.heap.size+1+1,13,none⟩=some (.int .i64 (m:Int)) from aa (HA4.out.below hR.low).pl 13);go_simp;exact hK () wx (fun _ _=>rfl) hR
    ·obtain rfl:_=o9:=Option.some.inj ho;have q9:=az HKey.out hR.low;go_simp;exact hK () wx (fun _ _=>rfl) hR
    ·obtain rfl:_=o9:=Option.some.inj ho;go_simp;refine(HFind.out wx (HA0.out.below (HA4.out.below hR.low).low)).mono ?_;rintro e9 w9 ⟨rfl,hb9⟩;exact hK () w9 (fun _ _=>rfl) (hR.below hb9)
    ·simp at ho
   ·intro p l_ wx hl hR;have HM1:=hJ hR;clear hR hl;have HA0e:=hJ HTx.out;have hcn64:cn<=64:=HCnb.out;have HNeed:=hJ (fun wx=>BD (B:=B) (S:=S) HIw.out.hL (m:Int) L t (cn:Int) oZ oZ wx);obtain⟨NZ,hNZ⟩:∃ NZ,NZ=dU B S t (cn:Int):=⟨_,rfl⟩;rw[<- hNZ] at HNeed;have HNzb:=hJ (show ∀ j,0<=NZ j/\NZ j<=768000 from fun j=>by rw[hNZ];exact wK oZ j);have HNZ:=hJ hNZ;obtain⟨ng,noff,hno2,hcnc⟩:=HNr.out i cn HCi.out;subst hno2;have HCn:=hJ hcnc;clear hNZ hcnc;obtain⟨a0,ha0⟩:∃ a0,a0=a:=⟨_,rfl⟩;rw[<- ha0] at HTx;have HA0q:=hJ ha0;clear ha0 HA0e;rcases HCase.out with ⟨rfl,rfl⟩ | ⟨r,hr0,rfl,hrl,hct⟩
    ·have HA0z:=hJ HA0q.out;have z1:IntKind.i64.wrap (fr+1)=fr+1:=iZ _ oZ;obtain⟨cl,hcl9⟩:∃ cl,(aF k).length=cl:=⟨_,rfl⟩;have hclb:cl<=300:=by rw[<- hcl9,bC];have:=HKl.out;omega
     have HCl:=hJ hcl9;have hM4:=HS.out.2 4 dZ;have z2:IntKind.i64.wrap (cl:Int)=(cl:Int):=iZ _ oZ;have z3:IntKind.i64.wrap (2+(cl:Int))=2+(cl:Int):=iZ _ oZ;have z4:IntKind.i64.wrap (M 4+(2+(cl:Int)))=M 4+(2+(cl:Int)):=iZ _ oZ;clear hM4 hcl9;go_upto_region 21 with fail
     refine aI (fun(p:Option Addr×Nat) jz=>[.pointer (some ⟨w4.heap.size,4,none⟩),.int .i64 (M 4),.slice (some ⟨kg,0,none⟩) kn kc,.int .i64 (i:Int),.pointer (some ⟨kg,i,none⟩),.string (ay k),.slice p.1 cl p.2,.int .i64 (cl:Int),.int .i64 (2+(cl:Int)),.int .i64 (M 4+(2+(cl:Int))),.pointer (some ⟨w4.heap.size,4,none⟩),undef].getD jz undef)
      (fun p l_ wx=>(l_ 11=false->MB w4 M wx)/\(l_ 11=true->MB w4 (fun j=>if j=4 then M 4+(2+(cl:Int)) else M j) wx))
      kZ kZ pZ (none,0) ?_ ?_ ?_
     ·exact⟨fun _=>HM1.out.below (Below.refl _ _).drew,fun h=>jZ⟩
     ·intro i9 o9 ho p l_ wx hR hl he hcl K hK;rcases i9 with _|_|_|_|_|_|_|_|_|_|_|_|i9
      any_goals first | (obtain rfl:_=o9:=Option.some.inj ho;go_simp;exact hK p wx (fun _ _=>rfl) hR;done) | fail
      ·obtain rfl:_=o9:=Option.some.inj ho
       have h11:l_ 11=false:=by
        cases h:l_ 11 with
        | false=>rfl
        | true=>exact absurd (hcl 9 _ rfl (hcl 11 _ rfl h ⟨9,.data⟩ sZ rfl) ⟨1,.data⟩ sZ rfl) lZ
       have q9:wx.cell? ⟨w4.heap.size,4,none⟩=some (.int .i64 (M 4)):=aa (hR.1 h11).box 4;go_simp;exact hK p wx (fun _ _=>rfl) hR
      ·obtain rfl:_=o9:=Option.some.inj ho
       have hlow:Below w4.heap.size w4 wx:=by
        cases h:l_ 11 with
        | false=>exact(hR.1 h).low
        | true=>exact(hR.2 h).low
       have q9:=az HKey.out hlow;clear hlow;go_simp;exact hK p wx (fun _ _=>rfl) hR
      ·obtain rfl:_=o9:=Option.some.inj ho;go_simp;refine(yn wx (ay k) HBs.out).mono ?_;rintro e9 w9 ⟨v9,rfl,ho9,hb9⟩;rw[HBl.out] at ho9;obtain⟨oc9,cc9,rfl,_⟩:=ho9.wL cl HCl.out;refine hK (oc9,cc9) w9 (fun j hj=>?_) ⟨fun h=>(hR.1 h).below hb9,fun h=>(hR.2 h).below hb9⟩;rcases j with _|_|_|_|_|_|_|_|_|_|_|_|j
       all_goals first | rfl | (rw[hl] at hj;cases hj)
      ·obtain rfl:_=o9:=Option.some.inj ho;have hb:=hR.1 hl;have f9:wx.frozen? ⟨w4.heap.size,4,none⟩=false:=free_at hb.box 4;have q9:wx.cell? ⟨w4.heap.size,4,none⟩=some (.int .i64 (M 4)):=aa hb.box 4;have HB9:=hJ hb;clear hR hb;go_simp;refine hK p (wx.setCell ⟨w4.heap.size,4,none⟩ (.int .i64 (M 4+(2+(cl:Int))))) (fun _ _=>rfl) ⟨fun h=>jZ,fun _=>⟨HB9.out.low.setCell (p:=⟨w4.heap.size,4,none⟩) (Nat.le_refl _) _,?_⟩⟩;rw[heap_setCell_same _ _ _ _ _ _ HB9.out.box];show some (Obj.cells ((six M).setIfInBounds 4 _) _ _)=_;rw[iC M (fun j=>if j=4 then M 4+(2+(cl:Int)) else M j) 4 _ dZ (fun j hj=>rfl)]
      ·simp at ho
     ·intro p l_ wx hl hR;obtain⟨M2,hM2⟩:∃ M2,M2=(fun j=>if j=4 then M 4+(2+(cl:Int)) else M j):=⟨_,rfl⟩;have hm2:=hR.2 (hl 11 dZ);rw[<- hM2] at hm2;have HM2:=hJ hm2
      have HMs:=hJ (show ∀ j,j<6->M2 j=eT B S (ts.take i) j+(if a0=0/\j=4 then 2+((aF k).length:Int) else 0)/\0<=M2 j/\M2 j<=(i:Int)*800000+1000 from fun j hj=>by
       obtain⟨e1,e2,e3⟩:=HS.out.2 j hj;have e0:=HA0z.out;have ec:=HCl.out;rw[hM2];show (if j=4 then M 4+(2+(cl:Int)) else M j)=_/\0<=(if j=4 then M 4+(2+(cl:Int)) else M j)/\(if j=4 then M 4+(2+(cl:Int)) else M j)<=_;by_cases e:j=4
       ·subst e;rw[if_pos rfl,if_pos ⟨e0,rfl⟩];omega
       ·rw[if_neg e,if_neg (fun h=>e h.2)];omega)
      have HFr:=hJ (show fr+1=dA (ts.take i)+(if a0=0 then(1:Int) else 0) from by rw[if_pos HA0z.out,HS.out.1]);clear hR hl hm2 hM2 HM1;have H2:=hJ (show ∀ j,j<6->M2 j=eT B S (ts.take i) j+(if a0=0/\j=4 then 2+((aF k).length:Int) else 0)/\0<=M2 j/\M2 j<=(i:Int)*800000+1000 from HMs.out)
      have HNx:=hJ (show (fr+1)=dA (ts.take (i+1))/\∀ j,j<6->(fun j=>if j<6 then M2 j+NZ j else M2 j) j=eT B S (ts.take (i+1)) j/\0<=(fun j=>if j<6 then M2 j+NZ j else M2 j) j/\(fun j=>if j<6 then M2 j+NZ j else M2 j) j<=((i+1:Nat):Int)*800000 from by
       obtain⟨s1,s2⟩:=xY (B:=B) (S:=S) HTx.out;refine⟨by rw[s1,HFr.out],fun j hj=>?_⟩;obtain⟨e1,e2,e3⟩:=H2.out j hj;have e5:uE B S (k,cn,a0,0) j=(if a0=0/\j=4 then 2+((aF k).length:Int) else 0)+NZ j:=by rw[HNZ.out];rfl
       have e6:=HNzb.out j;show (if j<6 then M2 j+NZ j else M2 j)=_/\0<=(if j<6 then M2 j+NZ j else M2 j)/\(if j<6 then M2 j+NZ j else M2 j)<=_;rw[if_pos hj,s2,e5];omega)
      go_upto_region 23 with fail
      refine aI (fun(p:Nat) jz=>[.agg (ae B S C (m:Int) L),.int .i64 0,.slice (some ⟨ng,noff,none⟩) kn nc2,.int .i64 (i:Int),.pointer (some ⟨ng,noff+i,none⟩),.int .i64 (cn:Int),.agg (six NZ),.pointer (some ⟨p,0,none⟩),undef].getD jz undef)
       (fun p l_ wx=>MB w4 M2 wx/\(l_ 7=true->w4.heap.size<p/\∃ V9,wx.heap[p]?=some (.cells (six V9) 40 (0,0)))/\(l_ 8=true->wx.heap[p]?=some (.cells (six NZ) 40 (0,0))))
       kZ kZ pZ 0 ?_ ?_ ?_
      ·exact⟨HM2.out.below (Below.refl _ _).drew,fun h=>jZ,fun h=>jZ⟩
      ·intro i9 o9 ho p l_ wx hR hl he hcl K hK;rcases i9 with _|_|_|_|_|_|_|_|_|i9
       any_goals first | (obtain rfl:_=o9:=Option.some.inj ho;go_simp;exact hK p wx (fun _ _=>rfl) hR;done) | fail
       ·obtain rfl:_=o9:=Option.some.inj ho;refine wp_load_row 42 (.tmp 6) rfl (w.heap.size+1+1) rfl 42 (ae B S C (m:Int) L) (0,0) _ (HA4.out.below hR.1.low).pl Tryz.underlying42 rfl (ai _ _ _ _ _) ?_;exact hK p wx (fun _ _=>rfl) hR
       ·obtain rfl:_=o9:=Option.some.inj ho;have q9:=az HCn.out hR.1.low;go_simp;exact hK p wx (fun _ _=>rfl) hR
       ·obtain rfl:_=o9:=Option.some.inj ho;go_simp;refine(HNeed.out wx).mono ?_;rintro e9 w9 ⟨rfl,hb9⟩;exact hK p w9 (fun _ _=>rfl) ⟨hR.1.below hb9,fun h=>⟨(hR.2.1 h).1,by obtain⟨V9,h9⟩:=(hR.2.1 h).2;exact⟨V9,(hb9.block _ (lt_of_heap h9)).trans h9⟩⟩,fun h=>(hb9.block _ (lt_of_heap (hR.2.2 h))).trans (hR.2.2 h)⟩
       ·obtain rfl:_=o9:=Option.some.inj ho
        have h8:l_ 8=false:=by
         cases h:l_ 8 with
         | false=>rfl
         | true=>exact absurd (hcl 8 _ rfl h ⟨7,.data⟩ sZ rfl) lZ
        have hlow:=hR.1.low.size;have HR:=hJ hR;clear hR;go_simp;refine hK wx.heap.size (wx.alloc (.cells (six fun _=>0) 40)) (fun j hj=>?_) ⟨HR.out.1.below aj,fun _=>⟨Nat.lt_of_lt_of_le (Nat.lt_of_lt_of_le (Nat.lt_succ_self _) (lt_of_heap HR.out.1.box)) (Nat.le_refl _),⟨fun _=>0,nZ wx _⟩⟩,fun h=>absurd (show l_ 8=true from h) (by rw[h8];decide)⟩;rcases j with _|_|_|_|_|_|_|_|_|j
        all_goals first | rfl | (rw[hl] at hj;cases hj)
       ·obtain rfl:_=o9:=Option.some.inj ho;have h7:l_ 7=true:=he ⟨7,.data⟩ sZ rfl;obtain⟨h9,V9,hv9⟩:=hR.2.1 h7;refine wp_store_row 40 (.tmp 26) (.tmp 128) rfl p (six NZ) rfl rfl 40 _ hv9 (af _) (aS _ _) (aQ _) ?_;have hs9:=setRow_heap wx p _ (six NZ) _ _ hv9;exact hK p _ (fun _ _=>rfl) ⟨⟨below_setRow hR.1.low oZ _,(qZ _ _ _ _ oZ).trans hR.1.box⟩,fun _=>⟨h9,_,hs9⟩,fun _=>hs9⟩
       ·simp at ho
      ·intro p l_ wx hl hR;have HM4:=hJ hR.1;have HNb:=hJ (And.intro (hR.2.1 (hl 7 dZ)).1 (hR.2.2 (hl 8 dZ)));clear hR hl;obtain⟨qn,hqn⟩:∃ qn,qn=p:=⟨_,rfl⟩;rw[<- hqn] at HNb ⊢;clear hqn;go_wp2_with fail
       go_loopw [27] (fun kv wy=>∃ k1:Nat,k1<=6/\kv=.int .i64 (k1:Int)/\MB w4 (fun j=>if j<k1 then M2 j+NZ j else M2 j) wy/\wy.heap[qn]?=some (.cells (six NZ) 40 (0,0))) (fun kv _=>6-(intOf kv).toNat)
       case atStart=>exact⟨0,oZ,rfl,by rw[show (fun j=>if j<0 then M2 j+NZ j else M2 j)=M2 from funext fun j=>by rw[if_neg oZ]];exact HM4.out,HNb.out.2⟩
       case round =>
        obtain⟨k1,hk1,rfl,hmb,hnz⟩:=hrel;have HMk:=hJ hmb;have HNk:=hJ hnz;clear hmb hnz;by_cases hk6:k1<6
        ·have hk6i:(k1:Int)<6:=oZ;obtain⟨MK,hMK⟩:∃ MK,MK=(fun j=>if j<k1 then M2 j+NZ j else M2 j):=⟨_,rfl⟩;have hmk:MK k1=M2 k1:=by rw[hMK];show (if k1<k1 then _ else _)=_;rw[if_neg oZ]
         rw[<- hMK] at HMk;have hb3:=H2.out k1 hk6;have hbn:=HNzb.out k1;have sM:IntKind.i64.wrap (M2 k1+NZ k1)=M2 k1+NZ k1:=iZ _ oZ;have HMK:=hJ hMK;have HMv:=hJ hmk;clear hMK hmk hb3 hbn;go_upto_region 27 with fail
         refine aI (fun(p:Unit) jz=>[.int .i64 (k1:Int),.pointer (some ⟨w4.heap.size,k1,none⟩),.int .i64 (M2 k1),.int .i64 (k1:Int),.pointer (some ⟨qn,k1,none⟩),.int .i64 (NZ k1),.int .i64 (M2 k1+NZ k1),.pointer (some ⟨w4.heap.size,k1,none⟩),undef].getD jz undef)
          (fun p l_ wx=>(l_ 8=false->MB w4 MK wx)/\(l_ 8=true->MB w4 (fun j=>if j<k1+1 then M2 j+NZ j else M2 j) wx)/\wx.heap[qn]?=some (.cells (six NZ) 40 (0,0)))
          kZ kZ pZ () ?_ ?_ ?_
         ·exact⟨fun _=>HMk.out.below (Below.refl _ _).drew,fun h=>jZ,HNk.out⟩
         ·intro i9 o9 ho p l_ wx hR hl he hcl K hK;rcases i9 with _|_|_|_|_|_|_|_|_|i9
          any_goals first | (obtain rfl:_=o9:=Option.some.inj ho;go_simp;exact hK () wx (fun _ _=>rfl) hR;done) | fail
          ·obtain rfl:_=o9:=Option.some.inj ho
           have h8:l_ 8=false:=by
            cases h:l_ 8 with
            | false=>rfl
            | true=>exact absurd (hcl 6 _ rfl (hcl 8 _ rfl h ⟨6,.data⟩ sZ rfl) ⟨2,.data⟩ sZ rfl) lZ
           have q9:=aa (hR.1 h8).box k1;rw[dK MK k1 hk6,HMv.out] at q9;go_simp;exact hK () wx (fun _ _=>rfl) hR
          ·obtain rfl:_=o9:=Option.some.inj ho;have q9:=aa hR.2.2 k1;rw[dK NZ k1 hk6] at q9;go_simp;exact hK () wx (fun _ _=>rfl) hR
          ·obtain rfl:_=o9:=Option.some.inj ho;have hb:=hR.1 hl;have f9:=free_at hb.box k1;have q9:=aa hb.box k1;rw[dK MK k1 hk6] at q9;have HR:=hJ hR;have HB9:=hJ hb;clear hR hb;go_simp;refine hK () (wx.setCell ⟨w4.heap.size,k1,none⟩ (.int .i64 (M2 k1+NZ k1))) (fun _ _=>rfl) ⟨fun h=>jZ,fun _=>⟨HB9.out.low.setCell (p:=⟨w4.heap.size,k1,none⟩) (Nat.le_refl _) _,?_⟩,(Below.heap_setCell _ _ _ _ (by have:=HNb.out.1;show qn≠w4.heap.size;omega)).trans HR.out.2.2⟩;rw[heap_setCell_same _ _ _ _ _ _ HB9.out.box];show some (Obj.cells ((six MK).setIfInBounds k1 _) _ _)=_
           rw[iC MK (fun j=>if j<k1+1 then M2 j+NZ j else M2 j) k1 _ hk6 (fun j hj=>by
            rw[HMK.out];show (if j<k1+1 then _ else _)=if j=k1 then _ else if j<k1 then _ else _
            by_cases e:j=k1
            ·subst e;rw[if_pos oZ,if_pos rfl]
            ·rw[if_neg e];by_cases e2:j<k1
             ·rw[if_pos oZ,if_pos e2]
             ·rw[if_neg oZ,if_neg e2])]
          ·simp at ho
         ·intro p l_ wx hl hR;have HMn:=hJ (And.intro (hR.2.1 (hl 8 dZ)) hR.2.2);clear hR hl;go_wp2_with fail
          go_roundw
          case rel=>exact⟨k1+1,oZ,by go_num,HMn.out.1,HMn.out.2⟩
          case measure=>simp[intOf];omega
        ·obtain rfl:k1=6:=oZ;go_wp2_with fail
         go_roundw
         case rel=>exact⟨i+1,(fr+1),_,oZ,by go_num,rfl,oZ,HNx.out,HMk.out⟩
         case measure=>simp[intOf];omega
    ·have hr1:((r:Int)==0)=false:=beq_eq_false_iff_ne.2 oZ;obtain⟨tz,htz1,htz2,htz3⟩:=jG HUc.out hrl;rw[List.getD_eq_getElem?_getD,hct] at htz2;have htz2:t=(tz:Int):=htz2;obtain⟨gr,orr,hor,hcr⟩:=HA0.out r tz htz1;subst hor;have HM2:=HM1;have hlowx:=(HA4.out.below HM1.out.low).low;have c22:=az hcr hlowx;have cst:wx.cell? ⟨w.heap.size,0,none⟩=some (.slice (some ⟨gr,orr,none⟩) n c):=aa (HA4.out.below HM1.out.low).st 0;have hrn:r<n:=by have:=HEn.out;omega
     have hrni:(r:Int)<(n:Int):=oZ;have z5:IntKind.i64.wrap (tz:Int)=(tz:Int):=iZ _ oZ
     have HMs:=hJ (show ∀ j,j<6->M j=eT B S (ts.take i) j+(if a0=0/\j=4 then 2+((aF k).length:Int) else 0)/\0<=M j/\M j<=(i:Int)*800000+1000 from fun j hj=>by
      obtain⟨e1,e2,e3⟩:=HS.out.2 j hj;have e0:=HA0q.out;rw[if_neg (fun h=>by have:=h.1;omega)];omega)
     have HFr:=hJ (show fr=dA (ts.take i)+(if a0=0 then(1:Int) else 0) from by rw[if_neg (by have:=HA0q.out;omega),HS.out.1];omega);subst htz2;clear hcr hlowx htz1 hct hrl;go_wp2_with fail
     clear c22 cst;have H2:=hJ (show ∀ j,j<6->M j=eT B S (ts.take i) j+(if a0=0/\j=4 then 2+((aF k).length:Int) else 0)/\0<=M j/\M j<=(i:Int)*800000+1000 from HMs.out)
     have HNx:=hJ (show fr=dA (ts.take (i+1))/\∀ j,j<6->(fun j=>if j<6 then M j+NZ j else M j) j=eT B S (ts.take (i+1)) j/\0<=(fun j=>if j<6 then M j+NZ j else M j) j/\(fun j=>if j<6 then M j+NZ j else M j) j<=((i+1:Nat):Int)*800000 from by
      obtain⟨s1,s2⟩:=xY (B:=B) (S:=S) HTx.out;refine⟨by rw[s1,HFr.out],fun j hj=>?_⟩;obtain⟨e1,e2,e3⟩:=H2.out j hj;have e5:uE B S (k,cn,a0,(tz:Int)) j=(if a0=0/\j=4 then 2+((aF k).length:Int) else 0)+NZ j:=by rw[HNZ.out];rfl
      have e6:=HNzb.out j;show (if j<6 then M j+NZ j else M j)=_/\0<=(if j<6 then M j+NZ j else M j)/\(if j<6 then M j+NZ j else M j)<=_;rw[if_pos hj,s2,e5];omega)
     go_upto_region 23 with fail
     refine aI (fun(p:Nat) jz=>[.agg (ae B S C (m:Int) L),.int .i64 (tz:Int),.slice (some ⟨ng,noff,none⟩) kn nc2,.int .i64 (i:Int),.pointer (some ⟨ng,noff+i,none⟩),.int .i64 (cn:Int),.agg (six NZ),.pointer (some ⟨p,0,none⟩),undef].getD jz undef)
      (fun p l_ wx=>MB w4 M wx/\(l_ 7=true->w4.heap.size<p/\∃ V9,wx.heap[p]?=some (.cells (six V9) 40 (0,0)))/\(l_ 8=true->wx.heap[p]?=some (.cells (six NZ) 40 (0,0))))
      kZ kZ pZ 0 ?_ ?_ ?_
     ·exact⟨HM2.out.below (Below.refl _ _).drew,fun h=>jZ,fun h=>jZ⟩
     ·intro i9 o9 ho p l_ wx hR hl he hcl K hK;rcases i9 with _|_|_|_|_|_|_|_|_|i9
      any_goals first | (obtain rfl:_=o9:=Option.some.inj ho;go_simp;exact hK p wx (fun _ _=>rfl) hR;done) | fail
      ·obtain rfl:_=o9:=Option.some.inj ho;refine wp_load_row 42 (.tmp 6) rfl (w.heap.size+1+1) rfl 42 (ae B S C (m:Int) L) (0,0) _ (HA4.out.below hR.1.low).pl Tryz.underlying42 rfl (ai _ _ _ _ _) ?_;exact hK p wx (fun _ _=>rfl) hR
      ·obtain rfl:_=o9:=Option.some.inj ho;have q9:=az HCn.out hR.1.low;go_simp;exact hK p wx (fun _ _=>rfl) hR
      ·obtain rfl:_=o9:=Option.some.inj ho;go_simp;refine(HNeed.out wx).mono ?_;rintro e9 w9 ⟨rfl,hb9⟩;exact hK p w9 (fun _ _=>rfl) ⟨hR.1.below hb9,fun h=>⟨(hR.2.1 h).1,by obtain⟨V9,h9⟩:=(hR.2.1 h).2;exact⟨V9,(hb9.block _ (lt_of_heap h9)).trans h9⟩⟩,fun h=>(hb9.block _ (lt_of_heap (hR.2.2 h))).trans (hR.2.2 h)⟩
      ·obtain rfl:_=o9:=Option.some.inj ho
       have h8:l_ 8=false:=by
        cases h:l_ 8 with
        | false=>rfl
        | true=>exact absurd (hcl 8 _ rfl h ⟨7,.data⟩ sZ rfl) lZ
       have hlow:=hR.1.low.size;have HR:=hJ hR;clear hR;go_simp;refine hK wx.heap.size (wx.alloc (.cells (six fun _=>0) 40)) (fun j hj=>?_) ⟨HR.out.1.below aj,fun _=>⟨Nat.lt_of_lt_of_le (Nat.lt_of_lt_of_le (Nat.lt_succ_self _) (lt_of_heap HR.out.1.box)) (Nat.le_refl _),⟨fun _=>0,nZ wx _⟩⟩,fun h=>absurd (show l_ 8=true from h) (by rw[h8];decide)⟩;rcases j with _|_|_|_|_|_|_|_|_|j
       all_goals first | rfl | (rw[hl] at hj;cases hj)
      ·obtain rfl:_=o9:=Option.some.inj ho;have h7:l_ 7=true:=he ⟨7,.data⟩ sZ rfl;obtain⟨h9,V9,hv9⟩:=hR.2.1 h7;refine wp_store_row 40 (.tmp 26) (.tmp 128) rfl p (six NZ) rfl rfl 40 _ hv9 (af _) (aS _ _) (aQ _) ?_;have hs9:=setRow_heap wx p _ (six NZ) _ _ hv9;exact hK p _ (fun _ _=>rfl) ⟨⟨below_setRow hR.1.low oZ _,(qZ _ _ _ _ oZ).trans hR.1.box⟩,fun _=>⟨h9,_,hs9⟩,fun _=>hs9⟩
      ·simp at ho
     ·intro p l_ wx hl hR;have HM4:=hJ hR.1;have HNb:=hJ (And.intro (hR.2.1 (hl 7 dZ)).1 (hR.2.2 (hl 8 dZ)));clear hR hl;obtain⟨qn,hqn⟩:∃ qn,qn=p:=⟨_,rfl⟩;rw[<- hqn] at HNb ⊢;clear hqn;go_wp2_with fail
      go_loopw [27] (fun kv wy=>∃ k1:Nat,k1<=6/\kv=.int .i64 (k1:Int)/\MB w4 (fun j=>if j<k1 then M j+NZ j else M j) wy/\wy.heap[qn]?=some (.cells (six NZ) 40 (0,0))) (fun kv _=>6-(intOf kv).toNat)
      case atStart=>exact⟨0,oZ,rfl,by rw[show (fun j=>if j<0 then M j+NZ j else M j)=M from funext fun j=>by rw[if_neg oZ]];exact HM4.out,HNb.out.2⟩
      case round =>
       obtain⟨k1,hk1,rfl,hmb,hnz⟩:=hrel;have HMk:=hJ hmb;have HNk:=hJ hnz;clear hmb hnz;by_cases hk6:k1<6
       ·have hk6i:(k1:Int)<6:=oZ;obtain⟨MK,hMK⟩:∃ MK,MK=(fun j=>if j<k1 then M j+NZ j else M j):=⟨_,rfl⟩;have hmk:MK k1=M k1:=by rw[hMK];show (if k1<k1 then _ else _)=_;rw[if_neg oZ]
        rw[<- hMK] at HMk;have hb3:=H2.out k1 hk6;have hbn:=HNzb.out k1;have sM:IntKind.i64.wrap (M k1+NZ k1)=M k1+NZ k1:=iZ _ oZ;have HMK:=hJ hMK;have HMv:=hJ hmk;clear hMK hmk hb3 hbn;go_upto_region 27 with fail
        refine aI (fun(p:Unit) jz=>[.int .i64 (k1:Int),.pointer (some ⟨w4.heap.size,k1,none⟩),.int .i64 (M k1),.int .i64 (k1:Int),.pointer (some ⟨qn,k1,none⟩),.int .i64 (NZ k1),.int .i64 (M k1+NZ k1),.pointer (some ⟨w4.heap.size,k1,none⟩),undef].getD jz undef)
         (fun p l_ wx=>(l_ 8=false->MB w4 MK wx)/\(l_ 8=true->MB w4 (fun j=>if j<k1+1 then M j+NZ j else M j) wx)/\wx.heap[qn]?=some (.cells (six NZ) 40 (0,0)))
         kZ kZ pZ () ?_ ?_ ?_
        ·exact⟨fun _=>HMk.out.below (Below.refl _ _).drew,fun h=>jZ,HNk.out⟩
        ·intro i9 o9 ho p l_ wx hR hl he hcl K hK;rcases i9 with _|_|_|_|_|_|_|_|_|i9
         any_goals first | (obtain rfl:_=o9:=Option.some.inj ho;go_simp;exact hK () wx (fun _ _=>rfl) hR;done) | fail
         ·obtain rfl:_=o9:=Option.some.inj ho
          have h8:l_ 8=false:=by
           cases h:l_ 8 with
           | false=>rfl
           | true=>exact absurd (hcl 6 _ rfl (hcl 8 _ rfl h ⟨6,.data⟩ sZ rfl) ⟨2,.data⟩ sZ rfl) lZ
          have q9:=aa (hR.1 h8).box k1;rw[dK MK k1 hk6,HMv.out] at q9;go_simp;exact hK () wx (fun _ _=>rfl) hR
         ·obtain rfl:_=o9:=Option.some.inj ho;have q9:=aa hR.2.2 k1;rw[dK NZ k1 hk6] at q9;go_simp;exact hK () wx (fun _ _=>rfl) hR
         ·obtain rfl:_=o9:=Option.some.inj ho;have hb:=hR.1 hl;have f9:=free_at hb.box k1;have q9:=aa hb.box k1;rw[dK MK k1 hk6] at q9;have HR:=hJ hR;have HB9:=hJ hb;clear hR hb;go_simp;refine hK () (wx.setCell ⟨w4.heap.size,k1,none⟩ (.int .i64 (M k1+NZ k1))) (fun _ _=>rfl) ⟨fun h=>jZ,fun _=>⟨HB9.out.low.setCell (p:=⟨w4.heap.size,k1,none⟩) (Nat.le_refl _) _,?_⟩,(Below.heap_setCell _ _ _ _ (by have:=HNb.out.1;show qn≠w4.heap.size;omega)).trans HR.out.2.2⟩;rw[heap_setCell_same _ _ _ _ _ _ HB9.out.box];show some (Obj.cells ((six MK).setIfInBounds k1 _) _ _)=_
          rw[iC MK (fun j=>if j<k1+1 then M j+NZ j else M j) k1 _ hk6 (fun j hj=>by
           rw[HMK.out];show (if j<k1+1 then _ else _)=if j=k1 then _ else if j<k1 then _ else _
           by_cases e:j=k1
           ·subst e;rw[if_pos oZ,if_pos rfl]
           ·rw[if_neg e];by_cases e2:j<k1
            ·rw[if_pos oZ,if_pos e2]
            ·rw[if_neg oZ,if_neg e2])]
         ·simp at ho
        ·intro p l_ wx hl hR;have HMn:=hJ (And.intro (hR.2.1 (hl 8 dZ)) hR.2.2);clear hR hl;go_wp2_with fail
         go_roundw
         case rel=>exact⟨k1+1,oZ,by go_num,HMn.out.1,HMn.out.2⟩
         case measure=>simp[intOf];omega
       ·obtain rfl:k1=6:=oZ;go_wp2_with fail
        go_roundw
        case rel=>exact⟨i+1,fr,_,oZ,by go_num,rfl,oZ,HNx.out,HMk.out⟩
        case measure=>simp[intOf];omega
  ·obtain rfl:i=kn:=oZ;have HSe:=hJ (show fr=dA ts from by rw[HS.out.1,List.take_of_length_le (by rw[HLen.out];exact Nat.le_refl _)]);have hAx:=HA4.out.below HM.out.low;have ct:wr.cell? ⟨w.heap.size,2,none⟩=some (.int .i64 x.terms):=aa hAx.st 2;have ctt:wr.cell? ⟨w.heap.size+1,1,none⟩=some (.int .i64 tt):=aa hAx.cf 1;have hb6:=HB5.out;have y1:IntKind.i64.wrap (x.terms+fr)=x.terms+fr:=iZ _ oZ;rcases HTerms.out with ⟨hk,hterms⟩ | ⟨hk,hterms,hfull⟩ | ⟨hk,hterms,hfull,hrun,hl1,hu1⟩
   ·subst hk;clear HTerms;have hgt:tt<x.terms+fr:=by have:=hterms;have:=HSe.out;omega
    have HAx:=hJ hAx;clear hAx hb6;go_upto_region 30 with fail
    refine aL (fun(_:Unit) j=>[.agg (aH (.slice oa n c) (.slice (some ⟨gb,ob,none⟩) 1 gc) x),.int .i64 5,undef].getD j undef)
     (fun _ l wx=>wx.heap[w.heap.size]?=some (.cells (aH (.slice oa n c) (.slice (some ⟨gb,ob,none⟩) 1 gc) x) 49 (0,0))/\(∃ X Y Z,wx.heap[w.heap.size+1+1+1+1]?=some (.cells (aH X Y Z) 49 (0,0)))/\(l 2=true->wx.heap[w.heap.size+1+1+1+1]?=some (.cells (aH (.slice oa n c) (.slice (some ⟨gb,ob,none⟩) 1 gc) x) 49 (0,0)))/\Below w.heap.size w wx)
     kZ kZ pZ () ?_ ?_ ?_
    ·exact⟨HAx.out.st,HAx.out.rs,(fun h=>by cases h),HAx.out.low.drew⟩
    ·intro i o ho q' l wx hR hl he K hK;rcases i with _|_|_|i
     ·cases ho;refine wp_load_row 49 (.tmp 4) rfl w.heap.size rfl 49 (aH (.slice oa n c) (.slice (some ⟨gb,ob,none⟩) 1 gc) x) (0,0) _ hR.1 Tryz.underlying49 rfl (aG _ _ _) ?_;exact hK () wx (fun _ _=>rfl) hR
     ·cases ho;go_simp;exact hK () wx (fun _ _=>rfl) hR
     ·cases ho;obtain⟨X,Y,Z,hX⟩:=hR.2.1;refine wp_store_row 49 (.tmp 9) (.tmp 150) rfl (w.heap.size+1+1+1+1) (aH (.slice oa n c) (.slice (some ⟨gb,ob,none⟩) 1 gc) x) rfl rfl 49 (aH X Y Z) hX (aG _ _ _) rfl cZ ?_;have hs:=setRow_heap wx (w.heap.size+1+1+1+1) _ (aH (.slice oa n c) (.slice (some ⟨gb,ob,none⟩) 1 gc) x) _ _ hX;exact hK () _ (fun _ _=>rfl) ⟨(qZ _ _ _ _ oZ).trans hR.1,⟨_,_,_,hs⟩,(fun _=>hs),below_setRow hR.2.2.2 oZ _⟩
     ·simp at ho
    ·intro q' l wx hl hR;have H4:=hJ (hR.2.2.1 (hl 2 dZ));have HRX:=hJ hR.2.2.2;clear hR hl;go_wp2_with fail
     refine tZ (v:=.tuple #[.int .i64 5,.agg (aH (.slice oa n c) (.slice (some ⟨gb,ob,none⟩) 1 gc) x)]) (bX rfl _ _ (w.heap.size+1+1+1+1) _ _ (0,0) _ _ rfl rfl H4.out Tryz.underlying49 rfl (aG _ _ _)) rfl ?_;exact⟨rfl,HRX.out⟩
   ·subst hk;have HFull:=hJ hfull;clear HTerms hfull;have hgt:¬ tt<x.terms+fr:=by have:=hterms;have:=HSe.out;omega
    have HAx:=hJ hAx;clear hAx hb6
    have HFb:=hJ (show iq x.used M S=false from by
     rw[ql (M':=eT B S ts) (fun j hj=>by have h9:=(HS.out.2 j hj).1;rwa [List.take_of_length_le (by rw[HLen.out];exact Nat.le_refl _)] at h9)];exact HFull.out)
    go_wp2_with (first
     | (refine yZ rfl 42 (.tmp 6) rfl (w.heap.size+1+1) rfl 42 (ae B S C (m:Int) L) (0,0) _ HAx.out.pl Tryz.underlying42 rfl (ai _ _ _ _ _) ?_)
     | (refine dC rfl 40 (.tmp 153) rfl w.heap.size 4 rfl 49 (aH (.slice oa n c) (.slice (some ⟨gb,ob,none⟩) 1 gc) x) (six x.used) (0,0) _ HAx.out.st (AU _ _ _) Tryz.underlying40 rfl (af _) ?_)
     | (refine yZ rfl 40 (.tmp 20) rfl w4.heap.size rfl 40 (six M) (0,0) _ HM.out.box Tryz.underlying40 rfl (af _) ?_)
     | fail)
    refine(qW _ B S C (m:Int) L x.used M (fun j hj=>by have h9:=HIw.out.hL.pool hj;have h8:=HB65.out;omega)).mono ?_;rintro e w6 ⟨rfl,hb⟩;rw[HFb.out];have HAx:=hJ (HAx.out.below hb);clear hb ct ctt;go_upto_region 32 with fail
    refine aL (fun(_:Unit) j=>[.agg (aH (.slice oa n c) (.slice (some ⟨gb,ob,none⟩) 1 gc) x),.int .i64 3,undef].getD j undef)
     (fun _ l wx=>wx.heap[w.heap.size]?=some (.cells (aH (.slice oa n c) (.slice (some ⟨gb,ob,none⟩) 1 gc) x) 49 (0,0))/\(∃ X Y Z,wx.heap[w.heap.size+1+1+1+1]?=some (.cells (aH X Y Z) 49 (0,0)))/\(l 2=true->wx.heap[w.heap.size+1+1+1+1]?=some (.cells (aH (.slice oa n c) (.slice (some ⟨gb,ob,none⟩) 1 gc) x) 49 (0,0)))/\Below w.heap.size w wx)
     kZ kZ pZ () ?_ ?_ ?_
    ·exact⟨HAx.out.st,HAx.out.rs,(fun h=>by cases h),HAx.out.low.drew⟩
    ·intro i o ho q' l wx hR hl he K hK;rcases i with _|_|_|i
     ·cases ho;refine wp_load_row 49 (.tmp 4) rfl w.heap.size rfl 49 (aH (.slice oa n c) (.slice (some ⟨gb,ob,none⟩) 1 gc) x) (0,0) _ hR.1 Tryz.underlying49 rfl (aG _ _ _) ?_;exact hK () wx (fun _ _=>rfl) hR
     ·cases ho;go_simp;exact hK () wx (fun _ _=>rfl) hR
     ·cases ho;obtain⟨X,Y,Z,hX⟩:=hR.2.1;refine wp_store_row 49 (.tmp 9) (.tmp 158) rfl (w.heap.size+1+1+1+1) (aH (.slice oa n c) (.slice (some ⟨gb,ob,none⟩) 1 gc) x) rfl rfl 49 (aH X Y Z) hX (aG _ _ _) rfl cZ ?_;have hs:=setRow_heap wx (w.heap.size+1+1+1+1) _ (aH (.slice oa n c) (.slice (some ⟨gb,ob,none⟩) 1 gc) x) _ _ hX;exact hK () _ (fun _ _=>rfl) ⟨(qZ _ _ _ _ oZ).trans hR.1,⟨_,_,_,hs⟩,(fun _=>hs),below_setRow hR.2.2.2 oZ _⟩
     ·simp at ho
    ·intro q' l wx hl hR;have H4:=hJ (hR.2.2.1 (hl 2 dZ));have HRX:=hJ hR.2.2.2;clear hR hl;go_wp2_with fail
     refine tZ (v:=.tuple #[.int .i64 3,.agg (aH (.slice oa n c) (.slice (some ⟨gb,ob,none⟩) 1 gc) x)]) (bX rfl _ _ (w.heap.size+1+1+1+1) _ _ (0,0) _ _ rfl rfl H4.out Tryz.underlying49 rfl (aG _ _ _)) rfl ?_;exact⟨rfl,HRX.out⟩
   ·subst hk;have HFull:=hJ hfull;have HRun:=hJ hrun;have HU1:=hJ (And.intro hl1 hu1);clear HTerms hfull hrun hl1 hu1;have hgt:¬ tt<x.terms+fr:=by have:=hterms;have:=HSe.out;omega
    have HAx:=hJ hAx;clear hAx hb6
    have HFb:=hJ (show iq x.used M S=true from by
     rw[ql (M':=eT B S ts) (fun j hj=>by have h9:=(HS.out.2 j hj).1;rwa [List.take_of_length_le (by rw[HLen.out];exact Nat.le_refl _)] at h9)];exact HFull.out)
    go_wp2_with (first
     | (refine yZ rfl 42 (.tmp 6) rfl (w.heap.size+1+1) rfl 42 (ae B S C (m:Int) L) (0,0) _ HAx.out.pl Tryz.underlying42 rfl (ai _ _ _ _ _) ?_)
     | (refine dC rfl 40 (.tmp 153) rfl w.heap.size 4 rfl 49 (aH (.slice oa n c) (.slice (some ⟨gb,ob,none⟩) 1 gc) x) (six x.used) (0,0) _ HAx.out.st (AU _ _ _) Tryz.underlying40 rfl (af _) ?_)
     | (refine yZ rfl 40 (.tmp 20) rfl w4.heap.size rfl 40 (six M) (0,0) _ HM.out.box Tryz.underlying40 rfl (af _) ?_)
     | fail)
    refine(qW _ B S C (m:Int) L x.used M (fun j hj=>by have h9:=HIw.out.hL.pool hj;have h8:=HB65.out;omega)).mono ?_;rintro e w6 ⟨rfl,hb⟩;rw[HFb.out];have HAx:=hJ (HAx.out.below hb);have HW46:=hJ (ag HM.out.low hb);clear hb ct ctt;have hgl6:w6.heap.size=w6.heap.size:=rfl;have HHi:=hJ HAx.out.low
    go_wp2_with (first
     | (refine yZ rfl 49 (.tmp 4) rfl w.heap.size rfl 49 (aH (.slice oa n c) (.slice (some ⟨gb,ob,none⟩) 1 gc) x) (0,0) _ HAx.out.st Tryz.underlying49 rfl (aG _ _ _) ?_)
     | fail)
    refine(wN w6 oa c n cs HEn.out hn HUc.out (HA0.out.below HAx.out.low) (some ⟨gb,ob,none⟩) 1 gc x HEg.out (HGr.out.below HAx.out.low) oZ oZ).mono ?_;rintro e w7 ⟨g,vs,rfl,hgz,hrow,hown,hb⟩;obtain⟨so,sc,hvs⟩:=jV hown 1 HEg.out;subst hvs;have HRw:=hJ hrow;have HOw:=hJ hown;have HB7:=hJ hb;have HGz:=hJ hgz;clear hb hrow hown hgz
    go_upto_region 34 with (first
     | (refine zZ rfl 49 (.tmp 28) (.tmp 160) rfl w7.heap.size (aH (.slice (some ⟨g,0,none⟩) n n) (.slice so 1 sc) x) rfl rfl 49 cK (nZ w7 _) (aG _ _ _) rfl cZ ?_)
     | fail)
    rw[World.setRow_alloc_new];have hb8:=aj (w:=w7) (A:=.cells (aH (.slice (some ⟨g,0,none⟩) n n) (.slice so 1 sc) x) 49);have HAT:=hJ (show AT w6 w7.heap.size g n (.slice so 1 sc) {x with used:=x.used} cs x.aC (w7.alloc (.cells (aH (.slice (some ⟨g,0,none⟩) n n) (.slice so 1 sc) x) 49)) from⟨ag HB7.out hb8,nZ w7 _,HRw.out.below hb8,ak HOw.out hb8,HB7.out.size,HGz.out⟩);generalize w7.alloc (.cells (aH (.slice (some ⟨g,0,none⟩) n n) (.slice so 1 sc) x) 49)=w8 at HAT ⊢;obtain⟨T,hT⟩:∃ T,T=w7.heap.size:=⟨_,rfl⟩;rw[<- hT] at HAT ⊢;have HTok6:=hJ (show lT w6 _ lk from(HTr.out.below HA3lo.out).below HW46.out);have HLv6:=hJ (show w6.heap[qb]?=some (.cells #[.int .i64 (B 5),.int .i64 (nd:Int),.bool false] 65 (0,0)) from ah (ah HLv.out HA3lo.out) HW46.out);clear hb8 hT;go_wp2_with fail
    go_loopw [163] (fun iv wr=>∃ (j gi:Nat) (ci:List Int) (Ui:Nat->Int),j<=tkn/\iv=.int .i64 (j:Int)/\Hid (AC B S sl m (nd:Int) ci Ui (lk.drop j) cs1 Us1/\ci.length=n)/\AT w6 T gi n (.slice so 1 sc) {x with used:=Ui} ci x.aC wr) (fun iv _=>tkn-(intOf iv).toNat)
    case atStart=>exact⟨0,g,cs,x.used,oZ,rfl,hJ ⟨by rw[HSl.out,List.drop_zero];exact HRun.out,HEn.out⟩,HAT.out⟩
    case round =>
     obtain⟨j,gi,ci,Ui,hj,rfl,HR9,hat⟩:=hrel;have HAT:=hJ hat;clear hat;by_cases hjt:j<tkn
     ·have hjt1:(j:Int)<(tkn:Int):=oZ;obtain⟨tk,htk⟩:∃ tk,lk[j]?=some tk:=⟨_,gZ (by rw[HLk.out];exact hjt)⟩;have htb:=HTk2.out tk (List.mem_of_getElem? htk);have htp:=HPos.out tk (List.mem_of_getElem? htk);have htz:=HTk16.out tk (List.mem_of_getElem? htk);obtain⟨tg,toff,hto,t1,t2,t3⟩:=HTok6.out j tk htk;subst hto;have HTc:=hJ (And.intro t1 (And.intro t2 t3))
      have hdr:lk.drop j=tk :: lk.drop (j+1):=by
       obtain⟨h1,h2⟩:=eZ.1 htk;rw[List.drop_eq_getElem_cons h1,h2]
      have hrr:=HR9.out.1;rw[hdr] at hrr
      obtain⟨c2,U2,hcu,hstep,hlen2,hrest⟩:∃ c2 U2,(∀ y∈ci,U y)/\uy B S sl m (nd:Int) ci Ui tk c2 U2/\c2.length=ci.length/\AC B S sl m (nd:Int) c2 U2 (lk.drop (j+1)) cs1 Us1:=by
       cases hrr with
       | cons k1 k2 k3 k4=>exact⟨_,_,k1,k2,k3,k4⟩
      have HWd:=hJ (fun(wx:World) (h:cB wx gi ci)=>yL HIw.out.hL m L sl nd HM1b.out.1 HM1b.out.2 hslb.1 hslb.2 oZ x so sc n HR9.out.2 hn hcu ⟨htb.1,htb.2.1⟩ oZ ⟨htp.1,oZ⟩ hstep wx gi h);have HNx:=hJ (And.intro hrest (hlen2.trans HR9.out.2));clear htk htb htp htz t1 t2 t3 hdr hrr hcu hstep hlen2 hrest;obtain⟨k0,k1,k2⟩:=tk;dsimp only at HTc HWd
      go_upto_region 37 with fail
      refine aI (fun(p:Nat) jz=>[.agg (aH (.slice (some ⟨gi,0,none⟩) n n) (.slice so 1 sc) {x with used:=Ui}),.agg (ae B S C (m:Int) L),.int .i64 sl,.pointer (some ⟨qb,1,none⟩),.int .i64 (nd:Int),.slice (some ⟨tg,toff,none⟩) tkn tkc,.int .i64 (j:Int),.pointer (some ⟨tg,toff+j*3,none⟩),.agg #[.int .u8 k0,.string k1,.int .i64 k2],.agg (aH (.slice (some ⟨p,0,none⟩) n n) (.slice so 1 sc) {x with used:=U2}),undef].getD jz undef)
       (fun p l wx=>Below w6.heap.size w6 wx/\(l 10=false->AT w6 T gi n (.slice so 1 sc) {x with used:=Ui} ci x.aC wx)/\(l 9=true->cB wx p c2/\w6.heap.size<=p)/\(l 10=true->AT w6 T p n (.slice so 1 sc) {x with used:=U2} c2 x.aC wx))
       kZ kZ pZ gi ?_ ?_ ?_
      ·exact⟨HAT.out.low.drew,fun _=>HAT.out.below (Below.refl _ _).drew,fun h=>jZ,fun h=>jZ⟩
      ·intro i o ho p l wx hR hl he hcl K hK;rcases i with _|_|_|_|_|_|_|_|_|_|_|i
       ·cases ho
        have h10:l 10=false:=by
         cases h:l 10 with
         | false=>rfl
         | true=>exact absurd (hcl 9 _ rfl (hcl 10 _ rfl h ⟨9,.data⟩ sZ rfl) ⟨0,.data⟩ sZ rfl) lZ
        refine wp_load_row 49 (.tmp 28) rfl T rfl 49 (aH (.slice (some ⟨gi,0,none⟩) n n) (.slice so 1 sc) {x with used:=Ui}) (0,0) _ (hR.2.1 h10).box Tryz.underlying49 rfl (aG _ _ _) ?_;exact hK p wx (fun _ _=>rfl) hR
       ·cases ho;refine wp_load_row 42 (.tmp 6) rfl (w.heap.size+1+1) rfl 42 (ae B S C (m:Int) L) (0,0) _ (HAx.out.below hR.1).pl Tryz.underlying42 rfl (ai _ _ _ _ _) ?_;exact hK p wx (fun _ _=>rfl) hR
       ·cases ho;have HR:=hJ hR;clear hR;go_simp;exact hK p wx (fun _ _=>rfl) HR.out
       ·cases ho;have HR:=hJ hR;clear hR;go_simp;exact hK p wx (fun _ _=>rfl) HR.out
       ·cases ho;have q9:wx.cell? ⟨qb,1,none⟩=some (.int .i64 (nd:Int)):=aa (ah HLv6.out hR.1) 1;have HR:=hJ hR;clear hR;go_simp;exact hK p wx (fun _ _=>rfl) HR.out
       ·cases ho;have HR:=hJ hR;clear hR;go_simp;exact hK p wx (fun _ _=>rfl) HR.out
       ·cases ho;have HR:=hJ hR;clear hR;go_simp;exact hK p wx (fun _ _=>rfl) HR.out
       ·cases ho;have HR:=hJ hR;clear hR;go_simp;exact hK p wx (fun _ _=>rfl) HR.out
       ·cases ho;have q1:=az HTc.out.1 hR.1;have q2:=az HTc.out.2.1 hR.1;have q3:=az HTc.out.2.2 hR.1;have HR:=hJ hR;clear hR;go_simp;exact hK p wx (fun _ _=>rfl) HR.out
       ·cases ho
        have h10:l 10=false:=by
         cases h:l 10 with
         | false=>rfl
         | true=>exact absurd (hcl 10 _ rfl h ⟨9,.data⟩ sZ rfl) lZ
        have hA:=hR.2.1 h10;have H10:=hJ h10;have HA9:=hJ hA;clear hR h10 hA;go_simp;refine(HWd.out wx HA9.out.row).mono ?_;rintro e9 w9 ⟨g9,rfl,hr9,hg9,hb9⟩;refine hK g9 w9 (fun j hj=>?_) ⟨ag HA9.out.low hb9,fun _=>HA9.out.below hb9,fun _=>⟨hr9,Nat.le_trans HA9.out.low.size hg9⟩,fun h=>absurd (show l 10=true from h) (by rw[H10.out];decide)⟩;rcases j with _|_|_|_|_|_|_|_|_|_|_|j
        all_goals first | rfl | (rw[hl] at hj;cases hj) | (rw[H10.out] at hj;cases hj)
       ·cases ho;have h9:l 9=true:=he ⟨9,.data⟩ sZ rfl;have hA:=hR.2.1 hl;obtain⟨hr9,hg9⟩:=hR.2.2.1 h9;refine wp_store_row 49 (.tmp 28) (.tmp 175) rfl T (aH (.slice (some ⟨p,0,none⟩) n n) (.slice so 1 sc) {x with used:=U2}) rfl rfl 49 (aH (.slice (some ⟨gi,0,none⟩) n n) (.slice so 1 sc) {x with used:=Ui}) hA.box (aG _ _ _) rfl cZ ?_;have hs:=AT.store (x2:={x with used:=U2}) hA hr9 hg9;exact hK p _ (fun _ _=>rfl) ⟨hs.low,fun h=>jZ,fun _=>⟨hs.row,hs.hg⟩,fun _=>hs⟩
       ·simp at ho
      ·intro p l wx hl hR;have HAn:=hJ (hR.2.2.2 (hl 10 dZ));clear hR hl;go_wp2_with fail
       go_roundw
       case rel=>exact⟨j+1,p,c2,U2,oZ,by go_num,hJ HNx.out,HAn.out⟩
       case measure=>simp[intOf];omega
     ·obtain rfl:j=tkn:=oZ
      have hfin:ci=cs1/\Ui=Us1:=by
       have h9:=HR9.out.1;rw[List.drop_eq_nil_of_le (by rw[HLk.out];exact Nat.le_refl _)] at h9;cases h9;exact⟨rfl,rfl⟩
      obtain⟨rfl,rfl⟩:=hfin;have hcl:=HR9.out.2;obtain⟨v,hv⟩:∃ v,v=u32 (x.bT+1):=⟨_,rfl⟩;have s4:IntKind.u32.wrap (x.bT+1)=v:=hv.symm;obtain⟨ly,hly⟩:∃ ly,uK ci (B 5+1) nd id (j:Int) v=ly:=⟨_,rfl⟩;have hlyl:ly.length=n:=by rw[<- hly,tO];exact hcl
      have HRt:=hJ (fun(wx:World) (h:cB wx gi ci)=>JW wx (some ⟨gi,0,none⟩) n n ci hcl hn HU1.out.2 (h.read HU1.out.2) (B 5+1) nd id (j:Int) v oZ (by rw[hcl];have:=HBd.out;omega));rw[hly] at HRt
      have KX:uC B x nd (dA (gm cs d m (dz F))) Ui=⟨[(B 5,(nd:Int)+1,false)],x.terms+fr,v,Ui⟩:=by
       rw[HDoc.out,HTsq.out,<- HSe.out,hv];rfl
      have KC:zx B nd id (dz F).length (u32 (x.bT+1)) ci=ly.set 1 v:=by
       unfold zx;rw[HDoc.out,HLk.out,<- hv,hly]
      have HKX:=hJ KX;have HKC:=hJ KC;have HLl:=hJ hlyl;have c3:wr.cell? ⟨T,3,none⟩=some (.int .u32 x.bT):=aa HAT.out.box 3;clear hcl hv hly KX KC hlyl;go_upto_region 40 with fail
      have c0:wr.cell? ⟨T,0,none⟩=some (.slice (some ⟨gi,0,none⟩) n n):=aa HAT.out.box 0;have l0:wr.cell? ⟨qb,0,none⟩=some (.int .i64 (B 5)):=aa (ah HLv6.out HAT.out.low) 0;have l1:wr.cell? ⟨qb,1,none⟩=some (.int .i64 (nd:Int)):=aa (ah HLv6.out HAT.out.low) 1;have dc:wr.cell? ⟨w.heap.size+1+1+1,0,none⟩=some (.int .u32 id):=aa (HAx.out.below HAT.out.low).dc 0;have f1:IntKind.i64.wrap (B 5+1)=B 5+1:=iZ _ (by have:=HBd.out;omega);have f2:IntKind.u32.wrap (j:Int)=(j:Int):=IntWalk.u32_in _ oZ;go_wp2_with fail
      refine(HRt.out _ HAT.out.row).mono ?_;rintro e w9 ⟨g9,rfl,hr9,hb9,hg9⟩;have hlt9:=HAT.out.row.lt;have hne9:g9≠gi:=oZ;have hw69:w6.heap.size<=g9:=by have:=HAT.out.low.size;omega
      have HA9:=hJ (HAT.out.below hb9);have HR9b:=hJ hr9;clear hr9 hb9 hg9 hlt9 c0 l0 l1 dc f1 f2 c3 HRt HAT;have h1n:1<n:=by have:=HBd.out;omega
      have fa:=HR9b.out.frozen 1;have ca:=HR9b.out.cell (a:=1) (by rw[HLl.out];omega);have hn3:(1:Int)<(n:Int):=oZ;go_upto_region 42 with fail
      have HA10:=hJ (HA9.out.other HR9b.out hw69 hne9 (a:=1) v);have HR10:=hJ (HR9b.out.set (a:=1) (by rw[HLl.out];omega) v);clear fa ca HA9 HR9b;generalize w9.setCell ⟨g9,1,none⟩ (.int .u32 v)=w10 at HA10 HR10 ⊢;have c0:w10.cell? ⟨T,0,none⟩=some (.slice (some ⟨gi,0,none⟩) n n):=aa HA10.out.box 0;have f0:=free_at HA10.out.box 0;go_upto_region 43 with fail
      have HA11:=hJ (AT.field HA10.out 0 (.slice (some ⟨g9,0,none⟩) n n) (x2:={x with used:=Ui}) (c2:=ly.set 1 v) rfl HR10.out hw69);clear c0 f0 HA10 HR10;generalize w10.setCell ⟨T,0,none⟩ (.slice (some ⟨g9,0,none⟩) n n)=w11 at HA11 ⊢;have c0:w11.cell? ⟨T,3,none⟩=some (.int .u32 x.bT):=aa HA11.out.box 3;have f0:=free_at HA11.out.box 3;go_upto_region 44 with fail
      have HA12:=hJ (AT.field HA11.out 3 (.int .u32 v) (x2:=⟨x.aC,x.terms,v,Ui⟩) rfl HA11.out.row hw69);clear c0 f0 HA11;generalize w11.setCell ⟨T,3,none⟩ (.int .u32 v)=w12 at HA12 ⊢;have c0:w12.cell? ⟨T,2,none⟩=some (.int .i64 x.terms):=aa HA12.out.box 2;have f0:=free_at HA12.out.box 2;have y1:IntKind.i64.wrap (x.terms+fr)=x.terms+fr:=iZ _ (by have:=HB5.out;omega);go_upto_region 45 with fail
      have HA13:=hJ ((AT.field HA12.out 2 (.int .i64 (x.terms+fr)) (x2:=⟨x.aC,x.terms+fr,v,Ui⟩) rfl HA12.out.row hw69).aC HIw.out.aC);clear c0 f0 HA12;generalize w12.setCell ⟨T,2,none⟩ (.int .i64 (x.terms+fr))=w13 at HA13 ⊢;obtain⟨gs,hgs,q1,q2,hA14⟩:=AT.Ee HA13.out ((nd:Int)+1);subst hgs;have c0:w13.cell? ⟨T,1,none⟩=some (.slice (some ⟨gs,0,none⟩) 1 sc):=aa HA13.out.box 1;have f1:IntKind.i64.wrap ((nd:Int)+1)=(nd:Int)+1:=iZ _ oZ;have HA14:=hJ hA14;clear hA14;go_upto_region 46 with fail
      clear c0 q1 q2 f1 HA13;generalize w13.setCell ⟨gs,1,none⟩ (.int .i64 ((nd:Int)+1))=w14 at HA14 ⊢;obtain⟨X,Y,Z,hrs⟩:=HAx.out.rs;have hrl:=lt_of_heap hrs;have HRs:=hJ (show ∃ X Y Z,w14.heap[w.heap.size+1+1+1+1]?=some (.cells (aH X Y Z) 49 (0,0)) from⟨X,Y,Z,ah hrs HA14.out.low⟩);have hTw:T≠w.heap.size+1+1+1+1:=by have:=HA14.out.hT;omega
      have hGw:g9≠w.heap.size+1+1+1+1:=oZ;have HOw2:=hJ (HA14.out.seg.lower (a:=w.heap.size) oZ);have HBw:=hJ (ag HHi.out HA14.out.low);clear hrs hrl
      refine aL (fun(_:Unit) j=>[.agg (aH (.slice (some ⟨g9,0,none⟩) n n) (.slice (some ⟨gs,0,none⟩) 1 sc) ⟨x.aC,x.terms+fr,v,Ui⟩),.int .i64 0,undef].getD j undef)
       (fun _ l wx=>wx.heap[T]?=some (.cells (aH (.slice (some ⟨g9,0,none⟩) n n) (.slice (some ⟨gs,0,none⟩) 1 sc) ⟨x.aC,x.terms+fr,v,Ui⟩) 49 (0,0))/\(∃ X Y Z,wx.heap[w.heap.size+1+1+1+1]?=some (.cells (aH X Y Z) 49 (0,0)))/\(l 2=true->wx.heap[w.heap.size+1+1+1+1]?=some (.cells (aH (.slice (some ⟨g9,0,none⟩) n n) (.slice (some ⟨gs,0,none⟩) 1 sc) ⟨x.aC,x.terms+fr,v,Ui⟩) 49 (0,0)))/\Below w.heap.size w wx/\cB wx g9 (ly.set 1 v)/\bn wx w.heap.size (.slice (some ⟨gs,0,none⟩) 1 sc) [(B 5,(nd:Int)+1,false)])
       kZ kZ pZ () ?_ ?_ ?_
      ·exact⟨HA14.out.box,HRs.out,(fun h=>by cases h),HBw.out.drew,HA14.out.row.drew,HOw2.out⟩
      ·intro i o ho q' l wx hR hl he K hK;rcases i with _|_|_|i
       ·cases ho;refine wp_load_row 49 (.tmp 28) rfl T rfl 49 (aH (.slice (some ⟨g9,0,none⟩) n n) (.slice (some ⟨gs,0,none⟩) 1 sc) ⟨x.aC,x.terms+fr,v,Ui⟩) (0,0) _ hR.1 Tryz.underlying49 rfl (aG _ _ _) ?_;exact hK () wx (fun _ _=>rfl) hR
       ·cases ho;go_simp;exact hK () wx (fun _ _=>rfl) hR
       ·cases ho;obtain⟨X,Y,Z,hX⟩:=hR.2.1;refine wp_store_row 49 (.tmp 9) (.tmp 227) rfl (w.heap.size+1+1+1+1) (aH (.slice (some ⟨g9,0,none⟩) n n) (.slice (some ⟨gs,0,none⟩) 1 sc) ⟨x.aC,x.terms+fr,v,Ui⟩) rfl rfl 49 (aH X Y Z) hX (aG _ _ _) rfl cZ ?_;have hs:=setRow_heap wx (w.heap.size+1+1+1+1) _ (aH (.slice (some ⟨g9,0,none⟩) n n) (.slice (some ⟨gs,0,none⟩) 1 sc) ⟨x.aC,x.terms+fr,v,Ui⟩) _ _ hX;exact hK () _ (fun _ _=>rfl) ⟨(qZ _ _ _ _ hTw).trans hR.1,⟨_,_,_,hs⟩,(fun _=>hs),below_setRow hR.2.2.2.1 oZ _,hR.2.2.2.2.1.of_block (qZ _ _ _ _ hGw),hR.2.2.2.2.2.keep hX dZ (fun j hj=>qZ _ _ _ _ hj)⟩
       ·simp at ho
      ·intro q' l wx hl hR;have H4:=hJ (hR.2.2.1 (hl 2 dZ));have HRX:=hJ hR.2.2.2;clear hR hl;go_wp2_with fail
       refine tZ (v:=.tuple #[.int .i64 0,.agg (aH (.slice (some ⟨g9,0,none⟩) n n) (.slice (some ⟨gs,0,none⟩) 1 sc) ⟨x.aC,x.terms+fr,v,Ui⟩)]) (bX rfl _ _ (w.heap.size+1+1+1+1) _ _ (0,0) _ _ rfl rfl H4.out Tryz.underlying49 rfl (aG _ _ _)) rfl ?_;refine⟨g9,.slice (some ⟨gs,0,none⟩) 1 sc,?_,?_,?_,HRX.out.1,by have:=HHi.out.size;omega⟩
       ·rw[HKX.out];rfl
       ·rw[HKC.out];exact HRX.out.2.1
       ·rw[HKX.out];exact HRX.out.2.2
theorem di {P:Program} {fn:Func} {p r:Tmp} {ty:TypeId} (h:fn.results=#[.cell p ty,.tmp r]) (tmps:Array Value) (w:World) (g:Nat) (t:TypeId) (cs:Array Value) (fr:Nat×Nat) (d:TypeDesc) (u:Value)
  (hp:tmps.getD p undef=.pointer (some ⟨g,0,none⟩)) (hr:tmps.getD r undef=u) (hg:w.heap[g]?=some (.cells cs t fr))
  (hu:P.underlying ty=some d) (hd:(match d with | .struct _ | .array _ _=>true | _=>false)=true) (hi:(P.info? ty).map (·.size)=some cs.size) :
  (results fn tmps).run P w=.ok (.tuple #[.agg cs,u]) w:=by
 have hp':tmps[p]?.getD undef=.pointer (some ⟨g,0,none⟩):=by simpa using hp
 have hr':tmps[r]?.getD undef=u:=by simpa using hr
 simp[results,h,hp',hr',asAddr,run_loadVar_row w g t ty cs fr d hg hu hd hi]
theorem zX {w:World} {base size n:Nat} {e:TypeId} {v:Value} {xs:List Value} (h:w.ownsRow base e size v n xs):∃ LB:List IZ,(∀ x∈LB,w.heap[x.1]?=some (.cells x.2.1 x.2.2 (0,0))/\base<=x.1/\x.2.2=e)/\∀ wr:World,(∀ x∈LB,wr.heap[x.1]?=some (.cells x.2.1 x.2.2 (0,0)))->wr.ownsRow base e size v n xs:=by
 obtain⟨h0,h | ⟨g,cap,cur,k1,k2,k3,k4⟩⟩:=h
 ·exact⟨[],sZ,fun wr _=>⟨h0,.inl h⟩⟩
 ·refine⟨[(g,cur,e)],fun x hx=>?_,fun wr hwr=>⟨h0,.inr ⟨g,cap,cur,k1,k2,hwr (g,cur,e) sZ,k4⟩⟩⟩;simp at hx;subst hx;exact⟨k3,k2,rfl⟩
theorem AW.all {W w:World} {rb mb cb:Nat} {go0 go:Option Nat} {L LB:List IZ} {st:St} (h:AW W rb mb cb go0 L st go w) (hb:∀ x∈LB,w.heap[x.1]?=some (.cells x.2.1 x.2.2 (0,0))/\W.heap.size<=x.1/\x.2.2≠32):AW W rb mb cb go0 (LB++L) st go w :=
 ⟨h.run,fun x hx=>by
  rcases List.mem_append.1 hx with hx | hx
  ·exact hb x hx
  ·exact h.keep x hx⟩
theorem AW.ne {W w:World} {rb mb cb:Nat} {go0 go:Option Nat} {L:List IZ} {st:St} (h:AW W rb mb cb go0 L st go w) {x y:IZ} (hx:x∈L) (hy:y∈L) (ht:x.2.2≠y.2.2):x.1≠y.1:=by
 intro e;have h1:=(h.keep x hx).1;have h2:=(h.keep y hy).1;rw[e,h2] at h1;injection h1 with h1
 injection h1 with _ h3
 exact ht h3.symm
theorem AW.get {W w:World} {rb mb cb:Nat} {go0 go:Option Nat} {L:List IZ} {st:St} (h:AW W rb mb cb go0 L st go w) {k:Nat} {c:Array Value} {t:TypeId} (hx:(k,c,t)∈L):w.heap[k]?=some (.cells c t (0,0)):=(h.keep _ hx).1
def fQ (W:World) (rb mb cb:Nat) (go0:Option Nat) (p:Pr oM) (st:St) (e:Ending) (w':World):Prop :=
 ∃ so sn sc x er go',e=.returned (.tuple #[.agg (aO (.slice so sn sc) x),.int .i64 er])/\RM w' rb mb cb go' true (p.on st).2/\jl rb mb cb W go0 w' go'/\bn w' W.heap.size (.slice so sn sc) x.aC/\sn=x.aC.length/\∀ y,(p.on st).1=some y->y.2=er/\(er=0->aO (.slice so sn sc) y.1=aO (.slice so sn sc) x/\y.1.aC=x.aC)
theorem fQ.bad {W w':World} {rb mb cb:Nat} {go0 go':Option Nat} {p:Pr oM} {st st':St} {er:Int} {y:Sx} (hr:fV W rb mb cb go0 st' go' w') (he:fw p (y,er) st st') (h0:er≠0):fQ W rb mb cb go0 p st (.returned (.tuple #[.agg (aO (.slice none 0 0) aJ),.int .i64 er])) w':=by
 unfold fw at he;refine⟨none,0,0,aJ,er,go',rfl,by rw[he.1];exact hr.rm,hr.adv,⟨rfl,.inl ⟨rfl,rfl⟩⟩,rfl,fun z hz=>?_⟩;rw[he.2 z hz];exact⟨rfl,fun h=>absurd h h0⟩
theorem fQ.good {W w':World} {rb mb cb:Nat} {go0 go':Option Nat} {p:Pr oM} {st st':St} {so:Option Addr} {sn sc:Nat} {x:Sx} (hr:fV W rb mb cb go0 st' go' w') (he:(p.on st).2=st') (hx:∀ y,(p.on st).1=some y->y.2=0/\aO (.slice so sn sc) y.1=aO (.slice so sn sc) x/\y.1.aC=x.aC) (ho:bn w' W.heap.size (.slice so sn sc) x.aC) (hn:sn=x.aC.length):fQ W rb mb cb go0 p st (.returned (.tuple #[.agg (aO (.slice so sn sc) x),.int .i64 0])) w' :=
 ⟨so,sn,sc,x,0,go',rfl,by rw[he];exact hr.rm,hr.adv,ho,hn,fun z hz=>⟨(hx z hz).1,fun _=>(hx z hz).2⟩⟩
theorem dQ (d t:Int) (s:Nat->Int) (bk rm:Int) (kf bf:Nat):(Tryz.prog.info? 25).map (·.size)=some (au d t s bk rm kf bf).size:=by
 rw[show (au d t s bk rm kf bf).size=10 from rfl];kernel_rfl
theorem IE {w:World} {rb mb cb:Nat} {go:Option Nat} {st:St} {Bd:Nat} {dd:Nat} {tt:Int} {ss:Nat->Int} {bk rm:Int} {kf bf:Nat} (hok:ek (dd:Int) tt ss bk rm) {B S:Nat->Int} {C L:Int} {m:Nat} (hpl:ae (aA (aB ss bk rm)) (aB ss bk rm) (aA (aB ss bk rm) 6) (slotsOf tt) (bN (dd:Int) tt)=ae B S C (m:Int) L) (hL:Laid B S C) (hLv:L=1+4*(dd:Int)+(m:Int)) (hC:C<=50000) (hm0:1<=m) (hm1:m<=1000) (hdd:dd<=64)
  {x:Sx} {nd:Nat} (hsegs:x.aC=[(B 5,(nd:Int),false)]) (hnd:nd<=dd) (hused:∀ k,k<6->0<=x.used k/\x.used k<=S k) (hterms:0<=x.terms/\x.terms<=1000000) (hver:U x.bT) {id:Int} (hid:U id) (F:List ByteArray) (fo:Option Addr) (fc:Nat) (hFs:∀ f∈F,f.size<=1000000) (hFn:F.length<=1000000) (og:Option Addr) (gc:Nat)
  (hrm:RM w rb mb cb go true st) (hf:st.dO Bd) (hB:Bd<1000000000) (hoff:st.off=false)
  (hArgs:∀ wr:World,(∀ k,k<w.heap.size->¬ fD rb mb cb go k->wr.heap[k]?=w.heap[k]?)->eH wr og x.aC/\fU wr fo F/\dE wr) :
  Calls Tryz.prog 56 #[.pointer (some ⟨rb,0,none⟩),.agg (au (dd:Int) tt ss bk rm kf bf),.agg (aO (.slice og 1 gc) x),.agg #[.int .u32 id,.slice fo F.length fc]] w fun e w'=>fQ w rb mb cb go (jN B S m dd tt nd id F x) st e w':=by
 obtain⟨pt,hpt⟩:∃ pt,pt=jN B S m dd tt nd id F x:=⟨_,rfl⟩;have hr0:Rest pt (jN B S m dd tt nd id F x) st st:=(Rest.start pt st).same hpt;unfold jN at hr0;rw[<- hpt];obtain⟨ga,oa,rfl,sg0,sg1,sg2⟩:=(hArgs w fun _ _ _=>rfl).1 0 (B 5,(nd:Int),false) (by rw[hsegs];rfl);have HArgs:=hJ hArgs;have HF:=hJ hf;have HOff:=hJ hoff;have hp5:=hL.pool (show 5<6 by omega);have HRun:=hJ (fV.start hrm);have hsl:df B dd=B 5+1+4*(dd:Int):=rfl;have HSegs:=hJ hsegs;have HR0:=hJ hr0;have HLay:=hJ (fun w=>Dn w (dd:Int) tt ss bk rm kf bf hok);rw[hpl] at HLay;have HFs:=hJ (And.intro hFs hFn);have HUs:=hJ hused;have HVer:=hJ hver;have HId:=hJ hid;obtain⟨l,hl⟩:∃ l,l=dz F:=⟨_,rfl⟩;obtain⟨N,hN⟩:∃ N,N=l.length:=⟨_,rfl⟩;have hN64:N<=64:=by rw[hN,hl];exact nP F
 have HDoc:=hJ (show ∀ tk∈l,0<=tk.1/\tk.1<=3/\tk.2.1.size<=16/\0<=tk.2.2/\tk.2.2<=512 from fun tk htk=>iy (by rw[<- hl];exact htk));have HL:=hJ (And.intro hl hN);have HLaid:=hJ hL;obtain⟨ee,hee⟩:∃ ee,ee=iN F:=⟨_,rfl⟩;have HTok:=hJ (fun(wr:World) (h1:dE wr) (h2:fU wr fo F)=>yG wr fo fc F h1 h2 hFs hFn);rw[<- hee] at HTok HR0;have HLv:=hJ hLv;clear hLv hArgs hf hoff hrm hsegs hr0 hpt hok hpl hFs hFn hused hver hid hl hN hee sg0 sg1 sg2 hL;go_enter Tryz.func56,Tryz.ntmps56
 go_upto_region 1 with fail
 have hAW0:AW w rb mb cb go [(w.heap.size,(au (dd:Int) tt ss bk rm kf bf),25),(w.heap.size+1,(aO (.slice (some ⟨ga,oa,none⟩) 1 gc) x),46),(w.heap.size+1+1,#[.int .u32 id,.slice fo F.length fc],35),(w.heap.size+1+1+1,(aO (.slice none 0 0) aJ),46)] st go ((((w.alloc (.cells (au (dd:Int) tt ss bk rm kf bf) 25)).alloc (.cells (aO (.slice (some ⟨ga,oa,none⟩) 1 gc) x) 46)).alloc (.cells #[.int .u32 id,.slice fo F.length fc] 35)).alloc (.cells (aO (.slice none 0 0) aJ) 46)):=by
  refine⟨HRun.out.below ((bi (A:=_) (B:=_) (C:=_)).alloc xZ _),fun y hy=>?_⟩;simp only[List.mem_cons,List.not_mem_nil,or_false] at hy;rcases hy with rfl | rfl | rfl | rfl
  ·exact⟨(Below.heap_alloc _ _ _ xZ).trans (dN _ _ _ _),sZ,by show (25:TypeId)≠32;decide⟩
  ·exact⟨(Below.heap_alloc _ _ _ xZ).trans (dM _ _ _ _),sZ,by show (46:TypeId)≠32;decide⟩
  ·exact⟨(Below.heap_alloc _ _ _ xZ).trans (dS _ _ _ _),by simp <;> omega,by show (35:TypeId)≠32;decide⟩
  ·refine⟨?_,by simp <;> omega,by show (46:TypeId)≠32;decide⟩;have:=nZ (((w.alloc (.cells (au (dd:Int) tt ss bk rm kf bf) 25)).alloc (.cells (aO (.slice (some ⟨ga,oa,none⟩) 1 gc) x) 46)).alloc (.cells #[.int .u32 id,.slice fo F.length fc] 35)) (.cells (aO (.slice none 0 0) aJ) 46);simpa using this
 obtain⟨w0,hw0⟩:∃ w0,w0=((((w.alloc (.cells (au (dd:Int) tt ss bk rm kf bf) 25)).alloc (.cells (aO (.slice (some ⟨ga,oa,none⟩) 1 gc) x) 46)).alloc (.cells #[.int .u32 id,.slice fo F.length fc] 35)).alloc (.cells (aO (.slice none 0 0) aJ) 46)):=⟨_,rfl⟩;rw[show ((((w.alloc (.cells (au (dd:Int) tt ss bk rm kf bf) 25)).alloc (.cells (aO (.slice (some ⟨ga,oa,none⟩) 1 gc) x) 46)).alloc (.cells #[.int .u32 id,.slice fo F.length fc] 35)).alloc (.cells #[.slice none 0 0,.int .i64 0,.int .u32 0,.int .i64 0,.int .i64 0,.int .i64 0,.int .i64 0,.int .i64 0,.int .i64 0] 46))=w0 from hw0.symm];rw[<- hw0] at hAW0;have HA:=hJ hAW0;clear hw0 hAW0 HRun;have c1:w0.cell? ⟨w.heap.size+1+1,1,none⟩=some (.slice fo F.length fc):=aa (HA.out.get (k:=w.heap.size+1+1) (c:=#[.int .u32 id,.slice fo F.length fc]) (t:=35) sZ) 1;have ha0:=HArgs.out w0 (fun k h1 h2=>HA.out.run.adv.mod.block k h1 h2);go_wp2_with fail
 refine(HTok.out w0 ha0.2.2 ha0.2.1).mono ?_;rintro e w1 ⟨tv,rfl,htk,hb⟩;obtain⟨LT,hLT,hTok⟩:=zX htk;obtain⟨ot,ct,hv⟩:=dP htk N (by rw[<- HL.out.1];exact HL.out.2.symm);subst hv
 have HTk:=hJ (show ∀ wr:World,(∀ x∈LT,wr.heap[x.1]?=some (.cells x.2.1 x.2.2 (0,0)))->lT wr ot l from fun wr h=>by
  obtain⟨oa',cap',e1,_,_,h4⟩:=jA (hTok wr h);cases e1;rw[HL.out.1];exact h4)
 have hA1:=(HA.out.below hb).all (LB:=LT) (fun x hx=>by obtain⟨h1,h2,h3⟩:=hLT x hx;exact⟨h1,Nat.le_trans HA.out.run.adv.mod.size h2,by rw[h3];decide⟩);have HA:=hJ hA1;have HLT:=hJ (show ∀ x∈LT,x.2.2=195 from fun x hx=>(hLT x hx).2.2);clear hb htk hLT hTok hA1 c1 ha0 HTok;by_cases hee:ee=0
 ·have b1:(ee != 0)=false:=by simpa using hee
  have HR1:=hJ (HR0.out.same (by rw[if_neg oZ]));subst hee;clear HR0
  go_wp2_with (first
   | (refine yZ rfl 25 (.tmp 5) rfl w.heap.size rfl 25 (au (dd:Int) tt ss bk rm kf bf) (0,0) _ (HA.out.get (k:=w.heap.size) (c:=(au (dd:Int) tt ss bk rm kf bf)) (t:=25) sZ) Tryz.underlying25 rfl (dQ _ _ _ _ _ _ _) ?_)
   | fail)
  refine(HLay.out _).mono ?_;rintro e w2 ⟨rfl,hb⟩
  go_upto_region 5 with (first
   | (refine zZ rfl 42 (.tmp 12) (.tmp 34) rfl w2.heap.size (ae B S C (m:Int) L) rfl rfl 42 (ae (fun _=>0) (fun _=>0) 0 0 0) (nZ w2 _) (ai _ _ _ _ _) (pW _ _ _ _ _ _ _ _ _ _) (gB _ _ _ _ _) ?_)
   | fail)
  rw[World.setRow_alloc_new];have HA2:=hJ (HA.out.below hb);have hb3:Below w2.heap.size w2 (w2.alloc (.cells (ae B S C (m:Int) L) 42)):=aj;have hA3:=(HA2.out.below hb3).add (nZ w2 (.cells (ae B S C (m:Int) L) 42)) (HA2.out.run.adv.mod.size) (by show (42:TypeId)≠32;decide);obtain⟨qp,hqp⟩:∃ qp,qp=w2.heap.size:=⟨_,rfl⟩;rw[<- hqp] at hA3 ⊢;obtain⟨w3,hw3⟩:∃ w3,w3=w2.alloc (.cells (ae B S C (m:Int) L) 42):=⟨_,rfl⟩;rw[show w2.alloc (.cells (ae B S C (m:Int) L) 42)=w3 from hw3.symm];rw[<- hw3] at hA3;have HA:=hJ hA3;have HQp:=hJ (show w.heap.size+1+1+1<qp by rw[hqp];exact lt_of_heap (HA2.out.get (k:=w.heap.size+1+1+1) (c:=(aO (.slice none 0 0) aJ)) (t:=46) sZ));clear hb hb3 hA3 hqp hw3 HA2 HLay;have c60:w3.cell? ⟨w.heap.size+1,0,none⟩=some (.slice (some ⟨ga,oa,none⟩) 1 gc):=aa (HA.out.get (k:=w.heap.size+1) (c:=(aO (.slice (some ⟨ga,oa,none⟩) 1 gc) x)) (t:=46) sZ) 0;have c70:w3.cell? ⟨w.heap.size+1+1,0,none⟩=some (.int .u32 id):=aa (HA.out.get (k:=w.heap.size+1+1) (c:=#[.int .u32 id,.slice fo F.length fc]) (t:=35) sZ) 0
  have HFi:=hJ (yh (some ⟨ga,oa,none⟩) 1 gc x.aC id HA.out.run.rm HF.out hB (by rw[HSegs.out];rfl) oZ (fun wr h=>(HArgs.out wr (fun k h1 h2=>(h k (Nat.lt_of_lt_of_le h1 HA.out.run.adv.mod.size) ((HA.out.run.adv.JM (fun _=>False)).apart h1 h2)).trans (HA.out.run.adv.mod.block k h1 h2))).1) (fun s hs=>by
   rw[HSegs.out] at hs;simp at hs;subst hs;exact⟨oZ,by show B 5<=59000;omega,by show (0:Int)<=(nd:Int);omega,by show (nd:Int)<=60000;omega⟩))
  go_wp2_with fail
  refine HFi.out.mono ?_;clear HFi c60 c70;rintro e w4 ⟨bb,kk,zz,go4,rfl,hr4,ha4,hans,_,_,_⟩;have HA4:=hJ (HA.out.access hr4 ha4);have HF4:=hJ (fu (fG id x.aC) st HF.out);have hq:=HR1.out.bind HF.out (k:=(bb,kk,zz)) hans;obtain⟨st4,hst4⟩:∃ st4,st4=((fG id x.aC).on st).2:=⟨_,rfl⟩;rw[<- hst4] at HA4 HF4 hq;have HR4:=hJ hq;clear hr4 ha4 hans hq hst4 HA HF HR1;cases zz with
  | true =>
   have HE:=hJ ((HR4.out.same (q':=.ret (aJ,6)) (by show (if(true:Bool)=true then _ else _)=_;rw[if_pos rfl])).ret);clear HR4;have HRs:=hJ (HA4.out.get (k:=w.heap.size+1+1+1) (c:=(aO (.slice none 0 0) aJ)) (t:=46) sZ)
   go_wp2_with (first
    | (refine zZ rfl 46 (.tmp 8) (.tmp 56) rfl (w.heap.size+1+1+1) (aO (.slice none 0 0) aJ) rfl rfl 46 (aO (.slice none 0 0) aJ) HRs.out (aK _ _) rfl (dL _ _ _ _) ?_)
    | fail)
   refine tZ (v:=.tuple #[.agg (aO (.slice none 0 0) aJ),.int .i64 6]) (di rfl _ _ (w.heap.size+1+1+1) _ _ (0,0) _ _ rfl rfl (setRow_heap _ _ _ _ _ _ HRs.out) Tryz.underlying46 rfl (aK _ _)) rfl ?_;exact fQ.bad (HA4.out.turn (L':=[]) HRs.out oZ dZ (bB.setRow (S:=fun j=>j=w.heap.size+1+1+1) (bB.refl _ _) (.inr rfl) _) sZ).run HE.out dZ
  | false =>
   have HR4:=hJ (HR4.out.same (by show (if(false:Bool)=true then _ else _)=_;rw[if_neg dZ]));obtain⟨v,hv⟩:∃ v,v=u32 (x.bT+1):=⟨_,rfl⟩;have hg4:=(HArgs.out w4 (fun k h1 h2=>HA4.out.run.adv.mod.block k h1 h2)).1;have HNx:=hJ (BR w4 ga oa 1 gc x (by rw[HSegs.out];rfl) oZ hg4);rw[<- hv] at HNx;have HV:=hJ hv;clear hv;clear hg4
   go_wp2_with (first
    | (refine yZ rfl 46 (.tmp 6) rfl (w.heap.size+1) rfl 46 (aO (.slice (some ⟨ga,oa,none⟩) 1 gc) x) (0,0) _ (HA4.out.get (k:=w.heap.size+1) (c:=(aO (.slice (some ⟨ga,oa,none⟩) 1 gc) x)) (t:=46) sZ) Tryz.underlying46 rfl (aK _ _) ?_)
    | fail)
   refine HNx.out.mono ?_;rintro e w5 ⟨so,sc,rfl,hown,hb⟩;have HA5:=hJ (HA4.out.below hb);have HOw:=hJ hown;have HSz:=hJ (show w.heap.size<=w4.heap.size from HA4.out.run.adv.mod.size);clear hb hown HNx;have hseg:=HOw.out;rw[HSegs.out] at hseg;obtain⟨sg,cur,rfl,hsgb,hsgh,hg0,hg1,hg2,hOwn⟩:=Ha hseg;clear hseg;have hA5:=HA5.out.add hsgh (by have:=HSz.out;omega) (by show (65:TypeId)≠32;decide);obtain⟨x1,hx1⟩:∃ x1:Sx,x1={x with bT:=v}:=⟨_,rfl⟩;rw[<- hx1];have HX1:=hJ hx1;clear hx1
   go_upto_region 13 with (first
    | (refine zZ rfl 46 (.tmp 6) (.tmp 58) rfl (w.heap.size+1) (aO (.slice (some ⟨sg,0,none⟩) 1 sc) x1) rfl rfl 46 (aO (.slice (some ⟨ga,oa,none⟩) 1 gc) x) (hA5.get (k:=w.heap.size+1) (c:=(aO (.slice (some ⟨ga,oa,none⟩) 1 gc) x)) (t:=46) sZ) (aK _ _) rfl (dL _ _ _ _) ?_)
    | fail)
   have hT:=(hA5.turn (L':=(sg,cur,65) :: (qp,(ae B S C (m:Int) L),42) :: (LT++[(w.heap.size,(au (dd:Int) tt ss bk rm kf bf),25),(w.heap.size+1+1,#[.int .u32 id,.slice fo F.length fc],35),(w.heap.size+1+1+1,(aO (.slice none 0 0) aJ),46)])) (k:=w.heap.size+1) (hA5.get (k:=w.heap.size+1) (c:=(aO (.slice (some ⟨ga,oa,none⟩) 1 gc) x)) (t:=46) sZ) oZ dZ (bB.setRow (S:=fun j=>j=w.heap.size+1) (bB.refl _ _) (.inr rfl) (aO (.slice (some ⟨sg,0,none⟩) 1 sc) x1)) (fun y hy=>by
    have hm:y∈(sg,cur,65) :: (qp,(ae B S C (m:Int) L),42) :: (LT++[(w.heap.size,(au (dd:Int) tt ss bk rm kf bf),25),(w.heap.size+1,(aO (.slice (some ⟨ga,oa,none⟩) 1 gc) x),46),(w.heap.size+1+1,#[.int .u32 id,.slice fo F.length fc],35),(w.heap.size+1+1+1,(aO (.slice none 0 0) aJ),46)]):=by
     simp only[List.mem_cons,List.mem_append,List.not_mem_nil,or_false] at hy ⊢;rcases hy with h | h | h | h | h | h <;> simp[h]
    refine⟨hm,?_⟩;by_cases hz:y=(w.heap.size+1+1+1,(aO (.slice none 0 0) aJ),46)
    ·rw[hz];show w.heap.size+1+1+1≠w.heap.size+1;omega
    ·refine hA5.ne (y:=(w.heap.size+1,(aO (.slice (some ⟨ga,oa,none⟩) 1 gc) x),46)) hm sZ ?_;simp only[List.mem_cons,List.mem_append,List.not_mem_nil,or_false] at hy;rcases hy with rfl | rfl | h | rfl | rfl | h
     ·dsimp only;decide
     ·dsimp only;decide
     ·rw[HLT.out y h];dsimp only;decide
     ·dsimp only;decide
     ·dsimp only;decide
     ·exact absurd h hz)).add (setRow_heap _ _ _ _ _ _ (hA5.get (k:=w.heap.size+1) (c:=(aO (.slice (some ⟨ga,oa,none⟩) 1 gc) x)) (t:=46) sZ)) oZ (by show (46:TypeId)≠32;decide)
   have hTy:∀ y∈(w.heap.size+1,(aO (.slice (some ⟨sg,0,none⟩) 1 sc) x1),46) :: (sg,cur,65) :: (qp,(ae B S C (m:Int) L),42) :: (LT++[(w.heap.size,(au (dd:Int) tt ss bk rm kf bf),25),(w.heap.size+1+1,#[.int .u32 id,.slice fo F.length fc],35),(w.heap.size+1+1+1,(aO (.slice none 0 0) aJ),46)]),y.2.2≠176/\y.2.2≠223:=by
    intro y hy;simp only[List.mem_cons,List.mem_append,List.not_mem_nil,or_false] at hy;rcases hy with rfl | rfl | rfl | h | rfl | rfl | rfl
    ·dsimp only;decide
    ·dsimp only;decide
    ·dsimp only;decide
    ·rw[HLT.out y h];decide
    ·dsimp only;decide
    ·dsimp only;decide
    ·dsimp only;decide
   have hLTm:∀ y∈LT,y∈(w.heap.size+1,(aO (.slice (some ⟨sg,0,none⟩) 1 sc) x1),46) :: (sg,cur,65) :: (qp,(ae B S C (m:Int) L),42) :: (LT++[(w.heap.size,(au (dd:Int) tt ss bk rm kf bf),25),(w.heap.size+1+1,#[.int .u32 id,.slice fo F.length fc],35),(w.heap.size+1+1+1,(aO (.slice none 0 0) aJ),46)]):=fun y hy=>by simp[hy]
   obtain⟨L1,hL1⟩:∃ L1:List IZ,L1=(w.heap.size+1,(aO (.slice (some ⟨sg,0,none⟩) 1 sc) x1),46) :: (sg,cur,65) :: (qp,(ae B S C (m:Int) L),42) :: (LT++[(w.heap.size,(au (dd:Int) tt ss bk rm kf bf),25),(w.heap.size+1+1,#[.int .u32 id,.slice fo F.length fc],35),(w.heap.size+1+1+1,(aO (.slice none 0 0) aJ),46)]):=⟨_,rfl⟩;rw[<- hL1] at hT hTy hLTm;have hm6:(w.heap.size+1,(aO (.slice (some ⟨sg,0,none⟩) 1 sc) x1),46)∈L1:=by rw[hL1];simp
   have hmS:(sg,cur,65)∈L1:=by rw[hL1];simp
   have hmP:(qp,(ae B S C (m:Int) L),42)∈L1:=by rw[hL1];simp
   have hmC:(w.heap.size,(au (dd:Int) tt ss bk rm kf bf),25)∈L1:=by rw[hL1];simp
   have hmD:(w.heap.size+1+1,#[.int .u32 id,.slice fo F.length fc],35)∈L1:=by rw[hL1];simp
   have hmZ:(w.heap.size+1+1+1,(aO (.slice none 0 0) aJ),46)∈L1:=by rw[hL1];simp
   have hX1:six x1.used=six x.used/\x1.terms=x.terms/\x1.bT=v:=by rw[HX1.out];exact⟨rfl,rfl,rfl⟩
   obtain⟨w6,hw6⟩:∃ w6,w6=w5.setRow (w.heap.size+1) (aO (.slice (some ⟨sg,0,none⟩) 1 sc) x1):=⟨_,rfl⟩;rw[<- hw6] at hT;rw[show w5.setRow (w.heap.size+1) (aO (.slice (some ⟨sg,0,none⟩) 1 sc) x1)=w6 from hw6.symm];have HA6:=hJ hT;have HTy:=hJ hTy;have HLTm:=hJ hLTm;have HX:=hJ hX1;have HOwn:=hJ hOwn;have HSgb:=hJ (show w.heap.size<=sg by have:=HSz.out;omega);have Hm6:=hJ hm6;have HmS:=hJ hmS;have HmP:=hJ hmP;have HmC:=hJ hmC;have HmD:=hJ hmD;have HmZ:=hJ hmZ;have HG0:=hJ (show cur[0]?=some (.int .i64 (B 5)) from hg0);have HG1:=hJ (show cur[1]?=some (.int .i64 (nd:Int)) from hg1);have HG2:=hJ (show cur[2]?=some (.bool false) from hg2);clear hT hTy hLTm hX1 hOwn hm6 hmS hmP hmC hmD hmZ hL1 hg0 hg1 hg2 hsgh hsgb hA5 hw6 HOw HA5 HA4 HSz HA;have c60:w6.cell? ⟨w.heap.size+1,0,none⟩=some (.slice (some ⟨sg,0,none⟩) 1 sc):=aa (HA6.out.get Hm6.out) 0;go_upto_region 14 with fail
   obtain⟨sl,hsl2⟩:∃ sl,sl=df B dd:=⟨_,rfl⟩;rw[<- hsl2] at hsl;have HW1:=hJ (show IntKind.i64.wrap (B 5+L)=B 5+L from iZ _ (by have:=HLv.out;omega));have HW2:=hJ (show IntKind.i64.wrap (B 5+L-(m:Int))=sl from by rw[show B 5+L-(m:Int)=sl by have:=HLv.out;omega];exact iZ _ oZ);have HR4:=hJ (HR4.out);rw[<- hsl2] at HR4;have HSl:=hJ (show 0<=sl/\sl<=60000 by have:=HLv.out;omega);clear hsl2 hsl c60
   refine aI (fun(pg:Nat) jz=>[.pointer (some ⟨rb,0,none⟩),.agg (ae B S C (m:Int) L),.pointer (some ⟨sg,0,none⟩),.pointer (some ⟨sg,0,none⟩),.pointer (some ⟨sg,0,none⟩),.int .i64 (B 5),.pointer (some ⟨qp,14,none⟩),.int .i64 L,.int .i64 (B 5+L),.pointer (some ⟨qp,13,none⟩),.int .i64 (m:Int),.int .i64 sl,.pointer (some ⟨w.heap.size+1,3,none⟩),.agg (six x.used),.agg (lC rb B S C (m:Int) L sl x.used (.slice none 0 0) (.slice none 0 0)),.pointer (some ⟨pg,0,none⟩),.pointer (some ⟨pg,0,none⟩)].getD jz undef)
    (fun pg l wx=>AW w rb mb cb go L1 st4 go4 wx/\(l 15=true->wx.heap[pg]?=some (.cells (lC rb B S C (m:Int) L sl x.used (.slice none 0 0) (.slice none 0 0)) 176 (0,0))/\w.heap.size<=pg))
    kZ kZ pZ 0 ?_ ?_ ?_
   ·exact⟨HA6.out.below (Below.refl _ _).drew,fun h=>by cases h⟩
   ·intro i o ho pg l wx hR hl he hcl K hK;rcases i with _|_|_|_|_|_|_|_|_|_|_|_|_|_|_|_|_|i
    ·cases ho;go_simp;exact hK pg wx (fun _ _=>rfl) hR
    ·cases ho;refine wp_load_row 42 (.tmp 12) rfl qp rfl 42 (ae B S C (m:Int) L) (0,0) _ (hR.1.get HmP.out) Tryz.underlying42 rfl (ai _ _ _ _ _) ?_;exact hK pg wx (fun _ _=>rfl) hR
    iterate 3 (· cases ho;go_simp;exact hK pg wx (fun _ _=>rfl) hR)
    ·cases ho;have q:=(show wx.cell? ⟨sg,0,none⟩=some (.int .i64 (B 5)) from(aa (hR.1.get HmS.out) 0).trans HG0.out);go_simp;exact hK pg wx (fun _ _=>rfl) hR
    ·cases ho;go_simp;exact hK pg wx (fun _ _=>rfl) hR
    ·cases ho;have q:=(show wx.cell? ⟨qp,14,none⟩=some (.int .i64 L) from aa (hR.1.get HmP.out) 14);go_simp;exact hK pg wx (fun _ _=>rfl) hR
    ·cases ho;have q:=HW1.out;go_simp;exact hK pg wx (fun _ _=>rfl) hR
    ·cases ho;go_simp;exact hK pg wx (fun _ _=>rfl) hR
    ·cases ho;have q:=(show wx.cell? ⟨qp,13,none⟩=some (.int .i64 (m:Int)) from aa (hR.1.get HmP.out) 13);go_simp;exact hK pg wx (fun _ _=>rfl) hR
    ·cases ho;have q:=HW2.out;go_simp;exact hK pg wx (fun _ _=>rfl) hR
    ·cases ho;go_simp;exact hK pg wx (fun _ _=>rfl) hR
    ·cases ho;refine aR 40 (.tmp 78) rfl (w.heap.size+1) 3 rfl 46 (aO (.slice (some ⟨sg,0,none⟩) 1 sc) x1) (six x.used) (0,0) _ (hR.1.get Hm6.out) (by rw[<- HX.out.1];exact ou _ _) Tryz.underlying40 rfl (af _) ?_;exact hK pg wx (fun _ _=>rfl) hR
    ·cases ho;simp only[ae,six];go_simp;exact hK pg wx (fun _ _=>rfl) hR
    ·cases ho;go_simp;refine hK wx.heap.size _ (fun j hj=>?_) ⟨hR.1.below (aj (A:=.cells (lC rb B S C (m:Int) L sl x.used (.slice none 0 0) (.slice none 0 0)) 176)),fun _=>⟨nZ wx _,hR.1.run.adv.mod.size⟩⟩;rcases j with _|_|_|_|_|_|_|_|_|_|_|_|_|_|_|_|_|j
     all_goals first | rfl | (rw[hl] at hj;cases hj) | (exact absurd (hcl 16 _ rfl hj ⟨15,.data⟩ sZ rfl) lZ)
    ·cases ho;go_simp;exact hK pg wx (fun _ _=>rfl) hR
    ·simp at ho
   ·intro pg lz wx hl hR;obtain⟨g,hgp⟩:∃ g,g=pg:=⟨_,rfl⟩;rw[<- hgp] at hR ⊢;have hR7:=hR.2 (hl 15 dZ);have HA7:=hJ (hR.1.add hR7.1 hR7.2 dZ);have HGb:=hJ hR7.2;clear hR hR7 hl hgp HA6;have HTS:=hJ (LH F);have hrt:lT wx ot l:=HTk.out wx (fun y hy=>(HA7.out.keep y (List.mem_cons_of_mem _ (HLTm.out y hy))).1);have HGa:=hJ (DT wx ot ct N l HL.out.2.symm oZ hrt (fun tk htk=>by have:=HDoc.out tk htk;omega));clear hrt;go_wp2_with fail
    refine HGa.out.mono ?_;rintro e w8 ⟨tv,wv,rfl,htr,hwn,hb⟩;clear HGa;obtain⟨LW,hLW,hWn⟩:=zX hwn;obtain⟨oW,cW,hwv⟩:=dP hwn N (by rw[List.length_map];exact HL.out.2.symm);subst hwv;obtain⟨nk,hnk⟩:∃ nk,nk=((bg l).1.map (qM l)).length:=⟨_,rfl⟩;obtain⟨oT,cT,htv⟩:=dP htr nk hnk.symm;subst htv;have HTR8:=hJ htr;have HWn:=hJ hWn;have HLWt:=hJ (show ∀ y∈LW,y.2.2=3 from fun y hy=>(hLW y hy).2.2);have HA8:=hJ ((HA7.out.below hb).all (LB:=LW) (fun y hy=>by obtain⟨h1,h2,h3⟩:=hLW y hy;exact⟨h1,Nat.le_trans HA7.out.run.adv.mod.size h2,by rw[h3];decide⟩));have HNk:=hJ hnk
    have HS0:=hJ (show ∀ k,zV g (.slice oT nk cT) k->w.heap.size<=k from fun k hk=>by
     rcases hk with rfl | ⟨n,cap,hk⟩
     ·exact HGb.out
     ·have h:=HTR8.out;obtain⟨h0,⟨h1,_⟩ | ⟨g',cap',cur',k1,k2,_⟩⟩:=h
      ·rw[h1] at hk;cases hk
      ·rw[k1] at hk;cases hk;have:=HA7.out.run.adv.mod.size;omega)
    clear hwn hLW hWn htr hb hnk HA7;have hg8:w8.heap[g]?=some (.cells (lC rb B S C (m:Int) L sl x.used (.slice none 0 0) (.slice none 0 0)) 176 (0,0)):=HA8.out.get (List.mem_append_right LW (List.mem_cons_self ..));have c23:w8.cell? ⟨g,23,none⟩=some (.slice none 0 0):=aa hg8 23;have c24:w8.cell? ⟨g,24,none⟩=some (.slice none 0 0):=aa hg8 24;have f23:w8.frozen? ⟨g,23,none⟩=false:=free_at hg8 23;have f24:w8.frozen? ⟨g,24,none⟩=false:=free_at hg8 24;have HG8:=hJ hg8;clear hg8;go_upto_region 16 with fail
    clear c23 c24 f23 f24;obtain⟨w9,hw9⟩:∃ w9,w9=(w8.setCell ⟨g,23,none⟩ (.slice oT nk cT)).setCell ⟨g,24,none⟩ (.slice oW N cW):=⟨_,rfl⟩;rw[show (w8.setCell ⟨g,23,none⟩ (.slice oT nk cT)).setCell ⟨g,24,none⟩ (.slice oW N cW)=w9 from hw9.symm]
    have hg9:w9.heap[g]?=some (.cells (lC rb B S C (m:Int) L sl x.used (.slice oT nk cT) (.slice oW N cW)) 176 (0,0)):=by
     rw[hw9,heap_setCell_same _ _ _ _ _ _ (heap_setCell_same _ _ _ _ _ _ HG8.out)];rfl
    have hoth:∀ k,k≠g->w9.heap[k]?=w8.heap[k]?:=fun k hk=>by
     rw[hw9,Below.heap_setCell _ _ _ _ hk,Below.heap_setCell _ _ _ _ hk]
    have htr9:dR w9 0 (.slice oT nk cT) ((bg l).1.map (qM l)):=by
     have htr:=HTR8.out;refine htr.keep fun g' c' h' _=>⟨hoth g' ?_,oZ⟩;rintro rfl;rw[HG8.out] at h';injection h' with h'
     injection h' with _ h3
     exact absurd h3 dZ
    have hA9:=HA8.out.turn (L':=LW++L1) (k:=g) HG8.out HGb.out dZ (w':=w9) (by rw[hw9];exact bB.setCell (S:=fun j=>j=g) (bB.setCell (S:=fun j=>j=g) (bB.refl _ _) (.inr rfl) _) (.inr rfl) _) (fun y hy=>by
     have hm:y∈LW++(g,(lC rb B S C (m:Int) L sl x.used (.slice none 0 0) (.slice none 0 0)),176) :: L1:=by
      rcases List.mem_append.1 hy with h | h
      ·exact List.mem_append_left _ h
      ·exact List.mem_append_right _ (List.mem_cons_of_mem _ h)
     refine⟨hm,HA8.out.ne (y:=(g,(lC rb B S C (m:Int) L sl x.used (.slice none 0 0) (.slice none 0 0)),176)) hm (List.mem_append_right LW (List.mem_cons_self ..)) ?_⟩;rcases List.mem_append.1 hy with h | h
     ·rw[HLWt.out y h];dsimp only;decide
     ·exact(HTy.out y h).1)
    have hTy2:∀ y∈LW++L1,y.2.2≠176/\y.2.2≠223:=fun y hy=>by
     rcases List.mem_append.1 hy with h | h
     ·rw[HLWt.out y h];decide
     ·exact HTy.out y h
    obtain⟨L2,hL2⟩:∃ L2,L2=LW++L1:=⟨_,rfl⟩;rw[<- hL2] at hA9 hTy2;have up:∀ y,y∈L1->y∈L2:=fun y hy=>by rw[hL2];exact List.mem_append_right _ hy
    have HLWm:=hJ (show ∀ y∈LW,y∈L2 from fun y hy=>by rw[hL2];exact List.mem_append_left _ hy);have HLTm:=hJ (show ∀ y∈LT,y∈L2 from fun y hy=>up _ (HLTm.out y hy));have Hm6:=hJ (up _ Hm6.out);have HmS:=hJ (up _ HmS.out);have HmP:=hJ (up _ HmP.out);have HmC:=hJ (up _ HmC.out);have HmD:=hJ (up _ HmD.out);have HmZ:=hJ (up _ HmZ.out);have hF9:=AF.nU hA9 HS0.out hg9 htr9;have HA9:=hJ hA9;have HTy2:=hJ hTy2;have HF9:=hJ hF9;clear hA9 hTy2 up hL2 hF9 htr9 hoth hg9 hw9 HG8 HA8 HTR8 HTy
    have hts1:∀ y∈(bg l).1.map (qM l),(∀ b∈y.1,b<256)/\y.1.length<=1000/\y.2.1<=3000:=by
     rw[HL.out.1];intro y hy;have h9:=(HTS.out.1 y hy).1;exact⟨h9.1,oZ,oZ⟩
    have hts2:∀ y∈(bg l).1.map (qM l),y.2.2.2=0:=by
     rw[HL.out.1];exact fun y hy=>(HTS.out.1 y hy).2
    have hts3:((bg l).1.map (qM l)).length<=1000:=by
     rw[HL.out.1,List.length_map];exact Nat.le_trans HTS.out.2 oZ
    have HLk:=hJ (G6 (m:=m) HF9.out HF4.out hB hts1 hts2 hts3 HSl.out.1 (Int.le_trans HSl.out.2 oZ) hm0 oZ HLaid.out);clear hts1 hts2 hts3;go_wp2_with fail
    refine HLk.out.mono ?_;rintro e w10 ⟨ts1,fr,M,go5,rfl,hF,hlen,hby,hfr,hans⟩;clear HLk;obtain⟨st5,hst5⟩:∃ st5,st5=((jP sl m [] ((bg l).1.map (qM l))).on st4).2:=⟨_,rfl⟩
    have HR5:=hJ (show Rest pt (if(dd:Int)<=(nd:Int)∨tt<x.terms+fr then .ret (aJ,5) else if iq x.used M S=false then .ret (aJ,3) else uM B S m sl (B 5+1) nd id (dz F) (bg (dz F)).1 x (fun Us=>uC B x nd fr Us) ts1) st st5 from by
     rw[hst5,HL.out.1];refine HR4.out.next HF4.out HOff.out fun h0 y hy=>?_
     obtain⟨e1,e2,e3⟩:=hans h0 y (by rw[HL.out.1];exact hy);subst e1;subst e2;simp only[ql (U:=x.used) (S:=S) e3])
    have hFi5:st5.dO Bd:=by rw[hst5];exact fu _ st4 HF4.out
    rw[<- hst5] at hF;have HA10:=hJ (HA9.out.through HF9.out hF HS0.out HTy2.out);have HFi5:=hJ hFi5;have HF10:=hJ hF;have HBy:=hJ (And.intro hlen hby);have HFr:=hJ hfr;clear hF hlen hby hfr hans hst5 hFi5 HA9 HF9 HR4 HF4
    go_upto_region 17 with (first
     | (refine zZ rfl 40 (.tmp 19) (.tmp 97) rfl w10.heap.size (six M) rfl rfl 40 (six fun _=>0) (nZ w10 _) (af _) (aS _ _) (aQ _) ?_)
     | fail)
    rw[World.setRow_alloc_new];have hb11:Below w10.heap.size w10 (w10.alloc (.cells (six M) 40)):=aj;have hA11:=(HA10.out.below hb11).add (nZ w10 (.cells (six M) 40)) HA10.out.run.adv.mod.size (by show (40:TypeId)≠32;decide);obtain⟨q6,hq6⟩:∃ q6,q6=w10.heap.size:=⟨_,rfl⟩;obtain⟨w11,hw11⟩:∃ w11,w11=w10.alloc (.cells (six M) 40):=⟨_,rfl⟩;rw[<- hq6] at hA11 ⊢;rw[show w10.alloc (.cells (six M) 40)=w11 from hw11.symm];rw[<- hw11] at hA11 hb11;have HF11:=hJ (AF.nU hA11 HS0.out ((hb11.block _ (lt_of_heap HF10.out.ad)).trans HF10.out.ad) (ak HF10.out.tr hb11));have HA11:=hJ hA11;clear hb11 hA11 hq6 hw11 HA10 HF10;have cs1:w11.cell? ⟨sg,1,none⟩=some (.int .i64 (nd:Int)):=(aa (HA11.out.get (List.mem_cons_of_mem _ HmS.out)) 1).trans HG1.out;have cc0:w11.cell? ⟨w.heap.size,0,none⟩=some (.int .i64 (dd:Int)):=aa (HA11.out.get (List.mem_cons_of_mem _ HmC.out)) 0;have cc1:w11.cell? ⟨w.heap.size,1,none⟩=some (.int .i64 tt):=aa (HA11.out.get (List.mem_cons_of_mem _ HmC.out)) 1;have c61:w11.cell? ⟨w.heap.size+1,1,none⟩=some (.int .i64 x.terms):=by rw[<- HX.out.2.1];exact aa (HA11.out.get (List.mem_cons_of_mem _ Hm6.out)) 1
    have s61:IntKind.i64.wrap (x.terms+fr)=x.terms+fr:=iZ _ (by have:=HFr.out;omega);have HC17:=hJ (And.intro cs1 (And.intro cc0 (And.intro cc1 c61)));have HS61:=hJ s61;clear cs1 cc0 cc1 c61 s61;by_cases t1:(dd:Int)<=(nd:Int)
    ·have HE:=hJ ((HR5.out.same (if_pos (.inl t1))).ret);have HT17:=hJ (show (decide ((dd:Int)<=(nd:Int))=true/\decide ((nd:Int)<(dd:Int))=false/\(dd:Int)<=(nd:Int)/\¬ (nd:Int)<(dd:Int))/\True from⟨⟨by simpa using t1,by simpa using t1,t1,Int.not_lt.2 t1⟩,trivial⟩);clear t1
     refine aI (fun(p:Unit) jz=>[.pointer (some ⟨sg,0,none⟩),.pointer (some ⟨sg,0,none⟩),.pointer (some ⟨sg,1,none⟩),.int .i64 (nd:Int),.pointer (some ⟨w.heap.size,0,none⟩),.int .i64 (dd:Int),.bool true,.bool true,undef,undef,undef,undef,undef,undef,undef,.bool true].getD jz undef)
      (fun p l wx=>Below w11.heap.size w11 wx)
      kZ kZ pZ () ?_ ?_ ?_
     ·exact(Below.refl _ _).drew
     ·intro i o ho p l wx hR hl he hcl K hK;rcases i with _|_|_|_|_|_|_|_|_|_|_|_|_|_|_|_|i
      iterate 3 (· cases ho;go_simp;exact hK () wx (fun _ _=>rfl) hR)
      ·cases ho;have q:=az HC17.out.1 hR;go_simp;exact hK () wx (fun _ _=>rfl) hR
      ·cases ho;go_simp;exact hK () wx (fun _ _=>rfl) hR
      ·cases ho;have q:=az HC17.out.2.1 hR;go_simp;exact hK () wx (fun _ _=>rfl) hR
      ·cases ho;obtain⟨t1a,t1b,t1c,t1d⟩:=HT17.out.1;go_simp;exact hK () wx (fun _ _=>rfl) hR
      iterate 9 (· cases ho;go_simp;exact hK () wx (fun _ _=>rfl) hR)
      ·simp at ho
     ·intro p lz wx hl hR;have HA12:=hJ (HA11.out.below hR);clear hR hl;have HRs:=hJ (HA12.out.get (List.mem_cons_of_mem _ HmZ.out))
      go_wp2_with (first
       | (refine zZ rfl 46 (.tmp 8) (.tmp 114) rfl (w.heap.size+1+1+1) (aO (.slice none 0 0) aJ) rfl rfl 46 (aO (.slice none 0 0) aJ) HRs.out (aK _ _) rfl (dL _ _ _ _) ?_)
       | fail)
      refine tZ (v:=.tuple #[.agg (aO (.slice none 0 0) aJ),.int .i64 5]) (di rfl _ _ (w.heap.size+1+1+1) _ _ (0,0) _ _ rfl rfl (setRow_heap _ _ _ _ _ _ HRs.out) Tryz.underlying46 rfl (aK _ _)) rfl ?_;exact fQ.bad (HA12.out.turn (L':=[]) HRs.out oZ dZ (bB.setRow (S:=fun j=>j=w.heap.size+1+1+1) (bB.refl _ _) (.inr rfl) _) sZ).run HE.out dZ
    ·by_cases t2:tt<x.terms+fr
     ·have HE:=hJ ((HR5.out.same (if_pos (.inr t2))).ret);have HT17:=hJ (show (decide ((dd:Int)<=(nd:Int))=false/\decide ((nd:Int)<(dd:Int))=true/\¬ (dd:Int)<=(nd:Int)/\(nd:Int)<(dd:Int))/\decide (tt<x.terms+fr)=true/\tt<x.terms+fr from⟨⟨by simpa using t1,by simpa using t1,t1,Int.not_le.1 t1⟩,by simpa using t2,t2⟩);clear t1 t2
      refine aI (fun(p:Unit) jz=>[.pointer (some ⟨sg,0,none⟩),.pointer (some ⟨sg,0,none⟩),.pointer (some ⟨sg,1,none⟩),.int .i64 (nd:Int),.pointer (some ⟨w.heap.size,0,none⟩),.int .i64 (dd:Int),.bool false,.bool false,.pointer (some ⟨w.heap.size+1,1,none⟩),.int .i64 x.terms,.int .i64 fr,.int .i64 (x.terms+fr),.pointer (some ⟨w.heap.size,1,none⟩),.int .i64 tt,.bool true,.bool true].getD jz undef)
       (fun p l wx=>Below w11.heap.size w11 wx)
       kZ kZ pZ () ?_ ?_ ?_
      ·exact(Below.refl _ _).drew
      ·intro i o ho p l wx hR hl he hcl K hK;rcases i with _|_|_|_|_|_|_|_|_|_|_|_|_|_|_|_|i
       iterate 3 (· cases ho;go_simp;exact hK () wx (fun _ _=>rfl) hR)
       ·cases ho;have q:=az HC17.out.1 hR;go_simp;exact hK () wx (fun _ _=>rfl) hR
       ·cases ho;go_simp;exact hK () wx (fun _ _=>rfl) hR
       ·cases ho;have q:=az HC17.out.2.1 hR;go_simp;exact hK () wx (fun _ _=>rfl) hR
       ·cases ho;obtain⟨t1a,t1b,t1c,t1d⟩:=HT17.out.1;go_simp;exact hK () wx (fun _ _=>rfl) hR
       iterate 2 (· cases ho;go_simp;exact hK () wx (fun _ _=>rfl) hR)
       ·cases ho;have q:=az HC17.out.2.2.2 hR;go_simp;exact hK () wx (fun _ _=>rfl) hR
       ·cases ho;go_simp;exact hK () wx (fun _ _=>rfl) hR
       ·cases ho;have s61:=HS61.out;go_simp;exact hK () wx (fun _ _=>rfl) hR
       ·cases ho;go_simp;exact hK () wx (fun _ _=>rfl) hR
       ·cases ho;have q:=az HC17.out.2.2.1 hR;go_simp;exact hK () wx (fun _ _=>rfl) hR
       ·cases ho;obtain⟨t2a,t2b⟩:=HT17.out.2;go_simp;exact hK () wx (fun _ _=>rfl) hR
       ·cases ho;go_simp;exact hK () wx (fun _ _=>rfl) hR
       ·simp at ho
      ·intro p lz wx hl hR;have HA12:=hJ (HA11.out.below hR);clear hR hl;have HRs:=hJ (HA12.out.get (List.mem_cons_of_mem _ HmZ.out))
       go_wp2_with (first
        | (refine zZ rfl 46 (.tmp 8) (.tmp 114) rfl (w.heap.size+1+1+1) (aO (.slice none 0 0) aJ) rfl rfl 46 (aO (.slice none 0 0) aJ) HRs.out (aK _ _) rfl (dL _ _ _ _) ?_)
        | fail)
       refine tZ (v:=.tuple #[.agg (aO (.slice none 0 0) aJ),.int .i64 5]) (di rfl _ _ (w.heap.size+1+1+1) _ _ (0,0) _ _ rfl rfl (setRow_heap _ _ _ _ _ _ HRs.out) Tryz.underlying46 rfl (aK _ _)) rfl ?_;exact fQ.bad (HA12.out.turn (L':=[]) HRs.out oZ dZ (bB.setRow (S:=fun j=>j=w.heap.size+1+1+1) (bB.refl _ _) (.inr rfl) _) sZ).run HE.out dZ
     ·have HR6:=hJ (HR5.out.same (if_neg (fun h=>h.elim t1 t2)));have HT17:=hJ (show (decide ((dd:Int)<=(nd:Int))=false/\decide ((nd:Int)<(dd:Int))=true/\¬ (dd:Int)<=(nd:Int)/\(nd:Int)<(dd:Int))/\decide (tt<x.terms+fr)=false/\¬ tt<x.terms+fr from⟨⟨by simpa using t1,by simpa using t1,t1,Int.not_le.1 t1⟩,by simpa using t2,t2⟩);have HNd:=hJ (Int.not_le.1 t1);clear t1 t2 HR5
      refine aI (fun(p:Unit) jz=>[.pointer (some ⟨sg,0,none⟩),.pointer (some ⟨sg,0,none⟩),.pointer (some ⟨sg,1,none⟩),.int .i64 (nd:Int),.pointer (some ⟨w.heap.size,0,none⟩),.int .i64 (dd:Int),.bool false,.bool false,.pointer (some ⟨w.heap.size+1,1,none⟩),.int .i64 x.terms,.int .i64 fr,.int .i64 (x.terms+fr),.pointer (some ⟨w.heap.size,1,none⟩),.int .i64 tt,.bool false,.bool false].getD jz undef)
       (fun p l wx=>Below w11.heap.size w11 wx)
       kZ kZ pZ () ?_ ?_ ?_
      ·exact(Below.refl _ _).drew
      ·intro i o ho p l wx hR hl he hcl K hK;rcases i with _|_|_|_|_|_|_|_|_|_|_|_|_|_|_|_|i
       iterate 3 (· cases ho;go_simp;exact hK () wx (fun _ _=>rfl) hR)
       ·cases ho;have q:=az HC17.out.1 hR;go_simp;exact hK () wx (fun _ _=>rfl) hR
       ·cases ho;go_simp;exact hK () wx (fun _ _=>rfl) hR
       ·cases ho;have q:=az HC17.out.2.1 hR;go_simp;exact hK () wx (fun _ _=>rfl) hR
       ·cases ho;obtain⟨t1a,t1b,t1c,t1d⟩:=HT17.out.1;go_simp;exact hK () wx (fun _ _=>rfl) hR
       iterate 2 (· cases ho;go_simp;exact hK () wx (fun _ _=>rfl) hR)
       ·cases ho;have q:=az HC17.out.2.2.2 hR;go_simp;exact hK () wx (fun _ _=>rfl) hR
       ·cases ho;go_simp;exact hK () wx (fun _ _=>rfl) hR
       ·cases ho;have s61:=HS61.out;go_simp;exact hK () wx (fun _ _=>rfl) hR
       ·cases ho;go_simp;exact hK () wx (fun _ _=>rfl) hR
       ·cases ho;have q:=az HC17.out.2.2.1 hR;go_simp;exact hK () wx (fun _ _=>rfl) hR
       ·cases ho;obtain⟨t2a,t2b⟩:=HT17.out.2;go_simp;exact hK () wx (fun _ _=>rfl) hR
       ·cases ho;go_simp;exact hK () wx (fun _ _=>rfl) hR
       ·simp at ho
      ·intro p lz wx hl hR;have HF12:=hJ (AF.nU (HA11.out.below hR) HS0.out ((hR.block _ (lt_of_heap HF11.out.ad)).trans HF11.out.ad) (ak HF11.out.tr hR));have HA12:=hJ (HA11.out.below hR);have HBnd:=hJ (show ∀ j,j<6->S j<=1000000 from fun j hj=>by have:=HLaid.out.pool hj;omega);clear hR hl HF11 HA11 HC17 HT17
       go_wp2_with (first
        | (refine yZ rfl 42 (.tmp 12) rfl qp rfl 42 (ae B S C (m:Int) L) (0,0) _ (HA12.out.get (List.mem_cons_of_mem _ HmP.out)) Tryz.underlying42 rfl (ai _ _ _ _ _) ?_)
        | (refine dC rfl 40 (.tmp 116) rfl (w.heap.size+1) 3 rfl 46 (aO (.slice (some ⟨sg,0,none⟩) 1 sc) x1) (six x.used) (0,0) _ (HA12.out.get (List.mem_cons_of_mem _ Hm6.out)) (by rw[<- HX.out.1];exact ou _ _) Tryz.underlying40 rfl (af _) ?_)
        | (refine yZ rfl 40 (.tmp 19) rfl q6 rfl 40 (six M) (0,0) _ (HA12.out.get (List.mem_cons_self ..)) Tryz.underlying40 rfl (af _) ?_)
        | fail)
       refine(JU _ B S C (m:Int) L x.used M HBnd.out).mono ?_;rintro e w13 ⟨rfl,hb⟩;have HF13:=hJ (AF.nU (HA12.out.below hb) HS0.out ((hb.block _ (lt_of_heap HF12.out.ad)).trans HF12.out.ad) (ak HF12.out.tr hb));have HA13:=hJ (HA12.out.below hb);obtain⟨fb,hfb⟩:∃ fb,fb=iq x.used M S:=⟨_,rfl⟩;have HFB:=hJ hfb;rw[<- hfb];clear hfb hb HF12 HA12 HBnd;cases fb with
       | false =>
        have HE:=hJ ((HR6.out.same (if_pos HFB.out.symm)).ret);have HRs:=hJ (HA13.out.get (List.mem_cons_of_mem _ HmZ.out))
        go_wp2_with (first
         | (refine zZ rfl 46 (.tmp 8) (.tmp 121) rfl (w.heap.size+1+1+1) (aO (.slice none 0 0) aJ) rfl rfl 46 (aO (.slice none 0 0) aJ) HRs.out (aK _ _) rfl (dL _ _ _ _) ?_)
         | fail)
        refine tZ (v:=.tuple #[.agg (aO (.slice none 0 0) aJ),.int .i64 3]) (di rfl _ _ (w.heap.size+1+1+1) _ _ (0,0) _ _ rfl rfl (setRow_heap _ _ _ _ _ _ HRs.out) Tryz.underlying46 rfl (aK _ _)) rfl ?_;exact fQ.bad (HA13.out.turn (L':=[]) HRs.out oZ dZ (bB.setRow (S:=fun j=>j=w.heap.size+1+1+1) (bB.refl _ _) (.inr rfl) _) sZ).run HE.out dZ
       | true =>
        have HR7:=hJ (HR6.out.same (if_neg (by rw[<- HFB.out];decide)));clear HR6;have cs1:w13.cell? ⟨sg,1,none⟩=some (.int .i64 (nd:Int)):=(aa (HA13.out.get (List.mem_cons_of_mem _ HmS.out)) 1).trans HG1.out
        have hI:∀ tk∈l,(bg l).1.idxOf (aM tk)<ts1.length:=fun tk htk=>by
         rw[HBy.out.1,List.length_map];exact List.idxOf_lt_length_of_mem (((gU l).mem _).2 (List.mem_map.2 ⟨tk,htk,rfl⟩))
        have hn1:ts1.length<=1000:=by
         rw[HBy.out.1,HL.out.1,List.length_map];exact Nat.le_trans HTS.out.2 oZ
        have hps:∀ tk∈l,0<=tk.2.2/\tk.2.2<=1000000:=fun tk htk=>by have:=HDoc.out tk htk;omega
        have hTy3:∀ y∈(q6,six M,40) :: L2,y.2.2≠176/\y.2.2≠223:=fun y hy=>by
         rcases List.mem_cons.1 hy with rfl | h
         ·dsimp only;decide
         ·exact HTy2.out y h
        have hRd:∀ wr:World,(∀ k,k<w13.heap.size->¬ zV g (.slice oT nk cT) k->¬ fD rb mb cb go5 k->wr.heap[k]?=w13.heap[k]?)->lT wr ot l/\bQ .i64 wr oW (l.map fun tk=>(bg l).1.idxOf (aM tk)):=fun wr h=>by
         have hst:∀ y∈L2,wr.heap[y.1]?=some (.cells y.2.1 y.2.2 (0,0)):=fun y hy=>by
          obtain⟨k1,k2,k3⟩:=HA13.out.keep y (List.mem_cons_of_mem _ hy);exact(h _ (lt_of_heap k1) (HF13.out.away k1 (HTy2.out y hy).1 (HTy2.out y hy).2) (HA13.out.run.far k1 k2 k3)).trans k1
         refine⟨HTk.out wr fun y hy=>hst y (HLTm.out y hy),?_⟩;obtain⟨oa',cap',e1,_,_,_,h4⟩:=fP.reads (HWn.out wr fun y hy=>hst y (HLWm.out y hy));injection e1 with e1 _ _
         rw[e1];exact h4
        have HSt:=hJ (D9 (m:=m) HF13.out HFi5.out hB HBy.out.2 hn1 HSl.out.1 (Int.le_trans HSl.out.2 oZ) hm0 oZ HLaid.out HUs.out (nd:Int) oZ oZ l N HL.out.2.symm oZ rfl ot ct (fun tk=>(bg l).1.idxOf (aM tk)) hI hps hRd);have HTy3:=hJ hTy3;clear hI hn1 hps hRd hTy3;go_wp2_with fail
        refine HSt.out.mono ?_;rintro e w14 ⟨V,ts2,er,go6,rfl,hF,hans⟩;clear HSt cs1
        obtain⟨U',hU,hU2⟩:∃ U':Nat->Int,(er=0->six U'=six V)/\(st5.off=false->∀ y,((storeT B S sl m x.used ts1 (l.map fun tk=>((bg l).1.idxOf (aM tk),dV (nd:Int) tk.2.2,fE (nd:Int) tk.2.2))).on st5).1=some y->y.2=er/\(er=0->y.1=U')):=by
         cases e:((storeT B S sl m x.used ts1 (l.map fun tk=>((bg l).1.idxOf (aM tk),dV (nd:Int) tk.2.2,fE (nd:Int) tk.2.2))).on st5).1 with
         | none=>exact⟨V,fun _=>rfl,fun _ y hy=>by cases hy⟩
         | some y =>
          by_cases h0:st5.off=false
          ·obtain⟨h1,h2⟩:=hans h0 y e;exact⟨y.1,h2,fun _ z hz=>by cases hz;exact⟨h1,fun _=>rfl⟩⟩
          ·exact⟨V,fun _=>rfl,fun h=>absurd h h0⟩
        obtain⟨st6,hst6⟩:∃ st6,st6=((storeT B S sl m x.used ts1 (l.map fun tk=>((bg l).1.idxOf (aM tk),dV (nd:Int) tk.2.2,fE (nd:Int) tk.2.2))).on st5).2:=⟨_,rfl⟩
        have hR8:Rest pt (if er≠0 then .ret (aJ,er) else(wT (B 5+1) (nd:Int) id (N:Int) v).bind fun _=>.store 1 v (.ret ((uC B x nd fr U'),0))) st st6:=by
         have h:=HR7.out;unfold uM at h;rw[<- HV.out,<- HL.out.1,<- HL.out.2] at h;rw[hst6];refine h.next HFi5.out HOff.out fun h0 y hy=>?_
         obtain⟨e1,e2⟩:=hU2 h0 y hy;show (if y.2≠0 then _ else _)=_;rw[e1];by_cases h9:er=0
         ·rw[if_neg (by simpa using h9),if_neg (by simpa using h9),e2 h9]
         ·rw[if_pos h9,if_pos h9]
        have hFi6:st6.dO Bd:=by rw[hst6];exact fu _ st5 HFi5.out
        rw[<- hst6] at hF;have hA14:=HA13.out.through HF13.out hF HS0.out HTy3.out;have HR8:=hJ hR8;have HFi6:=hJ hFi6;have HU:=hJ hU;clear hR8 hFi6 hU hU2 hans hst6 HR7 HF13 HA13 HFi5;by_cases h9:er=0
        ·subst h9;have HR9:=hJ (HR8.out.same (if_neg sZ));have hA15:=hA14.add hF.ad HGb.out (by show (176:TypeId)≠32;decide);obtain⟨L4,hL4⟩:∃ L4:List IZ,L4=(g,(lC rb B S C (m:Int) L sl V (.slice oT nk cT) (.slice oW N cW)),176) :: (q6,six M,40) :: L2:=⟨_,rfl⟩;rw[<- hL4] at hA15;have up:∀ y,y∈L2->y∈L4:=fun y hy=>by rw[hL4];exact List.mem_cons_of_mem _ (List.mem_cons_of_mem _ hy)
         have HmG:=hJ (show (g,(lC rb B S C (m:Int) L sl V (.slice oT nk cT) (.slice oW N cW)),176)∈L4 by rw[hL4];exact List.mem_cons_self ..);have Hm6:=hJ (up _ Hm6.out);have HmS:=hJ (up _ HmS.out);have HmD:=hJ (up _ HmD.out);have HmZ:=hJ (up _ HmZ.out);have HA15:=hJ hA15;clear hA14 hA15 up hL4 hF HR8 HTy3 HTy2 HmP HmC HLWm HLTm HWn HTk;have HC32:=hJ (show IntKind.u32.wrap ((N:Nat):Int)=(N:Int) from u32_in (show U (N:Int) by unfold U;omega));go_upto_region 24 with fail
         refine aI (fun(p:Option Nat) jz=>[.pointer (some ⟨rb,0,none⟩),.pointer (some ⟨sg,0,none⟩),.pointer (some ⟨sg,0,none⟩),.agg #[.int .i64 (B 5),.int .i64 (nd:Int),.bool false],.int .i64 (B 5+1),.pointer (some ⟨sg,0,none⟩),.pointer (some ⟨sg,0,none⟩),.pointer (some ⟨sg,1,none⟩),.int .i64 (nd:Int),.pointer (some ⟨w.heap.size+1+1,0,none⟩),.int .u32 id,.slice ot N ct,.int .i64 (N:Int),.int .u32 (N:Int),.pointer (some ⟨w.heap.size+1,2,none⟩),.int .u32 v,undef].getD jz undef)
          (fun p l_ wx=>(l_ 16=false->AW w rb mb cb go L4 st6 go6 wx)/\(l_ 16=true->AW w rb mb cb go L4 ((wT (B 5+1) (nd:Int) id (N:Int) v).on st6).2 p wx))
          kZ kZ pZ go6 ?_ ?_ ?_
         ·exact⟨fun _=>HA15.out.below (Below.refl _ _).drew,fun h=>by cases h⟩
         ·intro i o ho p l_ wx hR hl he hcl K hK;rcases i with _|_|_|_|_|_|_|_|_|_|_|_|_|_|_|_|_|i
          iterate 3 (· cases ho;go_simp;exact hK p wx (fun _ _=>rfl) hR)
          ·cases ho
           obtain⟨st',go',hA⟩:∃ st' go',AW w rb mb cb go L4 st' go' wx:=by
            cases h:l_ 16 with
            | false=>exact⟨_,_,hR.1 h⟩
            | true=>exact⟨_,_,hR.2 h⟩
           refine aR 65 (.tmp 135) rfl sg 0 rfl 65 cur #[.int .i64 (B 5),.int .i64 (nd:Int),.bool false] (0,0) _ (hA.get HmS.out) (fun j u hj=>by
             rcases j with _|_|_|j
             ·cases hj;exact HG0.out
             ·cases hj;exact HG1.out
             ·cases hj;exact HG2.out
             ·simp at hj) Tryz.underlying65 rfl (nT (B 5,(nd:Int),false)) ?_
           exact hK p wx (fun _ _=>rfl) hR
          ·cases ho;go_simp;refine(vL wx (B 5,(nd:Int),false) (by show -1100000000000<=B 5;omega) (by show B 5<=1100000000000;omega)).mono ?_;rintro e w2 ⟨rfl,hb⟩;exact hK p w2 (fun _ _=>rfl) ⟨fun h=>(hR.1 h).below hb,fun h=>(hR.2 h).below hb⟩
          iterate 3 (· cases ho;go_simp;exact hK p wx (fun _ _=>rfl) hR)
          ·cases ho
           obtain⟨st',go',hA⟩:∃ st' go',AW w rb mb cb go L4 st' go' wx:=by
            cases h:l_ 16 with
            | false=>exact⟨_,_,hR.1 h⟩
            | true=>exact⟨_,_,hR.2 h⟩
           have q:=(aa (hA.get HmS.out) 1).trans HG1.out;go_simp;exact hK p wx (fun _ _=>rfl) hR
          ·cases ho;go_simp;exact hK p wx (fun _ _=>rfl) hR
          ·cases ho
           obtain⟨st',go',hA⟩:∃ st' go',AW w rb mb cb go L4 st' go' wx:=by
            cases h:l_ 16 with
            | false=>exact⟨_,_,hR.1 h⟩
            | true=>exact⟨_,_,hR.2 h⟩
           have q:=(show wx.cell? ⟨w.heap.size+1+1,0,none⟩=some (.int .u32 id) from aa (hA.get HmD.out) 0);go_simp;exact hK p wx (fun _ _=>rfl) hR
          iterate 2 (· cases ho;go_simp;exact hK p wx (fun _ _=>rfl) hR)
          ·cases ho;have q:=HC32.out;go_simp;exact hK p wx (fun _ _=>rfl) hR
          ·cases ho;go_simp;exact hK p wx (fun _ _=>rfl) hR
          ·cases ho
           obtain⟨st',go',hA⟩:∃ st' go',AW w rb mb cb go L4 st' go' wx:=by
            cases h:l_ 16 with
            | false=>exact⟨_,_,hR.1 h⟩
            | true=>exact⟨_,_,hR.2 h⟩
           have q:=(show wx.cell? ⟨w.heap.size+1,2,none⟩=some (.int .u32 v) from by rw[<- HX.out.2.2];exact aa (hA.get Hm6.out) 2);go_simp;exact hK p wx (fun _ _=>rfl) hR
          ·cases ho;have hw:=hR.1 hl;go_simp;refine(KG (B 5+1) (nd:Int) id (N:Int) v hw.run.rm HFi6.out hB oZ oZ oZ oZ HId.out (by unfold U;omega) (by rw[HV.out];exact qy _)).mono ?_;rintro e w2 ⟨go2,rfl,hr2,ha2⟩;exact hK go2 w2 (fun _ _=>rfl) ⟨(fun h=>by cases h),fun _=>hw.access hr2 ha2⟩
          ·simp at ho
         ·intro p lz wx hl hR;have hA:=hR.2 (hl 16 dZ);have hq:=HR9.out.bind HFi6.out (k:=()) (fun _ _=>rfl);have hf7:=fu (wT (B 5+1) (nd:Int) id (N:Int) v) st6 HFi6.out;obtain⟨st7,hst7⟩:∃ st7,st7=((wT (B 5+1) (nd:Int) id (N:Int) v).on st6).2:=⟨_,rfl⟩;rw[<- hst7] at hA hq hf7;have HR10:=hJ (show Rest pt (.store 1 v (.ret ((uC B x nd fr U'),0))) st st7 from hq);have HFi7:=hJ hf7;have HA16:=hJ hA;clear hR hl hA hq hf7 hst7 HR9 HA15 HFi6;have c62:wx.cell? ⟨w.heap.size+1,2,none⟩=some (.int .u32 v):=by rw[<- HX.out.2.2];exact aa (HA16.out.get Hm6.out) 2
          go_wp2_with fail
          refine(run_store HA16.out.run.rm hB HFi7.out.ok 1 v).mono ?_;rintro e w17 ⟨rfl,go8,hr8,ha8⟩;clear c62;have hq:=HR10.out.store HFi7.out;rw[u32_in (show U v by rw[HV.out];exact qy _)] at hq;have HE:=hJ hq.ret;have HA17:=hJ (HA16.out.access hr8 ha8);clear hr8 ha8 hq HA16 HR10;have hsg:=HA17.out.get HmS.out;have cs1:w17.cell? ⟨sg,1,none⟩=some (.int .i64 (nd:Int)):=(aa hsg 1).trans HG1.out;have fs1:w17.frozen? ⟨sg,1,none⟩=false:=free_at hsg 1;have s1:IntKind.i64.wrap ((nd:Int)+1)=(nd:Int)+1:=iZ _ oZ;have HSg:=hJ hsg;clear hsg;go_upto_region 27 with fail
          clear cs1 fs1 s1;obtain⟨w18,hw18⟩:∃ w18,w18=w17.setCell ⟨sg,1,none⟩ (.int .i64 ((nd:Int)+1)):=⟨_,rfl⟩;rw[show w17.setCell ⟨sg,1,none⟩ (.int .i64 ((nd:Int)+1))=w18 from hw18.symm]
          have hA18:=(HA17.out.turn (L':=[(w.heap.size+1,(aO (.slice (some ⟨sg,0,none⟩) 1 sc) x1),46),(g,(lC rb B S C (m:Int) L sl V (.slice oT nk cT) (.slice oW N cW)),176),(w.heap.size+1+1+1,(aO (.slice none 0 0) aJ),46)]) HSg.out HSgb.out dZ (w':=w18) (by rw[hw18];exact bB.setCell (S:=fun j=>j=sg) (bB.refl _ _) (.inr rfl) _) (fun y hy=>by
           simp only[List.mem_cons,List.not_mem_nil,or_false] at hy;rcases hy with rfl | rfl | rfl
           ·exact⟨Hm6.out,HA17.out.ne Hm6.out HmS.out (by dsimp only;decide)⟩
           ·exact⟨HmG.out,HA17.out.ne HmG.out HmS.out (by dsimp only;decide)⟩
           ·exact⟨HmZ.out,HA17.out.ne HmZ.out HmS.out (by dsimp only;decide)⟩)).add (k:=sg) (c:=(cur.setIfInBounds 1 (.int .i64 ((nd:Int)+1)))) (t:=65) (by rw[hw18];exact heap_setCell_same _ _ _ _ _ _ HSg.out) HSgb.out (by show (65:TypeId)≠32;decide)
          have HA18:=hJ hA18;clear hA18 hw18 HSg HA17;have h6:=HA18.out.get (k:=w.heap.size+1) (c:=(aO (.slice (some ⟨sg,0,none⟩) 1 sc) x1)) (t:=46) sZ;have c61:w18.cell? ⟨w.heap.size+1,1,none⟩=some (.int .i64 x.terms):=by rw[<- HX.out.2.1];exact aa h6 1
          have f61:w18.frozen? ⟨w.heap.size+1,1,none⟩=false:=free_at h6 1;have s61:=HS61.out;have H6:=hJ h6;clear h6;go_upto_region 28 with fail
          clear c61 f61 s61;obtain⟨w19,hw19⟩:∃ w19,w19=w18.setCell ⟨w.heap.size+1,1,none⟩ (.int .i64 (x.terms+fr)):=⟨_,rfl⟩;rw[show w18.setCell ⟨w.heap.size+1,1,none⟩ (.int .i64 (x.terms+fr))=w19 from hw19.symm]
          have hA19:=(HA18.out.turn (L':=[(sg,(cur.setIfInBounds 1 (.int .i64 ((nd:Int)+1))),65),(g,(lC rb B S C (m:Int) L sl V (.slice oT nk cT) (.slice oW N cW)),176),(w.heap.size+1+1+1,(aO (.slice none 0 0) aJ),46)]) H6.out oZ dZ (w':=w19) (by rw[hw19];exact bB.setCell (S:=fun j=>j=w.heap.size+1) (bB.refl _ _) (.inr rfl) _) (fun y hy=>by
           simp only[List.mem_cons,List.not_mem_nil,or_false] at hy;rcases hy with rfl | rfl | rfl
           ·exact⟨sZ,HA18.out.ne (y:=(w.heap.size+1,(aO (.slice (some ⟨sg,0,none⟩) 1 sc) x1),46)) sZ sZ (by dsimp only;decide)⟩
           ·exact⟨sZ,HA18.out.ne (y:=(w.heap.size+1,(aO (.slice (some ⟨sg,0,none⟩) 1 sc) x1),46)) sZ sZ (by dsimp only;decide)⟩
           ·exact⟨sZ,by show w.heap.size+1+1+1≠w.heap.size+1;omega⟩)).add (k:=w.heap.size+1) (c:=(aO (.slice (some ⟨sg,0,none⟩) 1 sc) {x1 with terms:=x.terms+fr})) (t:=46) (by rw[hw19];exact heap_setCell_same _ _ _ _ _ _ H6.out) oZ (by show (46:TypeId)≠32;decide)
          have HA19:=hJ hA19;clear hA19 hw19 H6 HA18
          go_upto_region 29 with (first
           | (refine dC rfl 40 (.tmp 168) rfl g 17 rfl 176 (lC rb B S C (m:Int) L sl V (.slice oT nk cT) (.slice oW N cW)) (six V) (0,0) _ (HA19.out.get (k:=g) (c:=(lC rb B S C (m:Int) L sl V (.slice oT nk cT) (.slice oW N cW))) (t:=176) sZ) (oI _ _ _ _ _ _ _ _ _ _) Tryz.underlying40 rfl (af _) ?_)
           | (refine dw rfl 40 (.tmp 170) (.tmp 169) rfl (w.heap.size+1) 3 (six V) rfl rfl 46 (aO (.slice (some ⟨sg,0,none⟩) 1 sc) {x1 with terms:=x.terms+fr}) (aO (.slice (some ⟨sg,0,none⟩) 1 sc) (⟨[(B 5,(nd:Int)+1,false)],x.terms+fr,v,V⟩:Sx)) (HA19.out.get (k:=w.heap.size+1) (c:=(aO (.slice (some ⟨sg,0,none⟩) 1 sc) {x1 with terms:=x.terms+fr})) (t:=46) sZ) (by show 3+6<=9;omega) (af _) (aQ _) (by rw[show (aO (.slice (some ⟨sg,0,none⟩) 1 sc) (⟨[(B 5,(nd:Int)+1,false)],x.terms+fr,v,V⟩:Sx))=aO (.slice (some ⟨sg,0,none⟩) 1 sc) {x with bT:=v,terms:=x.terms+fr,used:=V,aC:=[(B 5,(nd:Int)+1,false)]} from rfl,show x1.bT=v from HX.out.2.2 ▸ rfl];rfl) ?_)
           | fail)
          obtain⟨w20,hw20⟩:∃ w20,w20=w19.setRow (w.heap.size+1) (aO (.slice (some ⟨sg,0,none⟩) 1 sc) (⟨[(B 5,(nd:Int)+1,false)],x.terms+fr,v,V⟩:Sx)):=⟨_,rfl⟩;rw[show w19.setRow (w.heap.size+1) (aO (.slice (some ⟨sg,0,none⟩) 1 sc) (⟨[(B 5,(nd:Int)+1,false)],x.terms+fr,v,V⟩:Sx))=w20 from hw20.symm]
          have hA20:=(HA19.out.turn (L':=[(sg,(cur.setIfInBounds 1 (.int .i64 ((nd:Int)+1))),65),(w.heap.size+1+1+1,(aO (.slice none 0 0) aJ),46)]) (HA19.out.get (k:=w.heap.size+1) (c:=(aO (.slice (some ⟨sg,0,none⟩) 1 sc) {x1 with terms:=x.terms+fr})) (t:=46) sZ) oZ dZ (w':=w20) (by rw[hw20];exact bB.setRow (S:=fun j=>j=w.heap.size+1) (bB.refl _ _) (.inr rfl) _) (fun y hy=>by
           simp only[List.mem_cons,List.not_mem_nil,or_false] at hy;rcases hy with rfl | rfl
           ·exact⟨sZ,HA19.out.ne (y:=(w.heap.size+1,(aO (.slice (some ⟨sg,0,none⟩) 1 sc) {x1 with terms:=x.terms+fr}),46)) sZ sZ (by dsimp only;decide)⟩
           ·exact⟨sZ,by show w.heap.size+1+1+1≠w.heap.size+1;omega⟩)).add (k:=w.heap.size+1) (c:=(aO (.slice (some ⟨sg,0,none⟩) 1 sc) (⟨[(B 5,(nd:Int)+1,false)],x.terms+fr,v,V⟩:Sx))) (t:=46) (by rw[hw20];exact setRow_heap _ _ _ _ _ _ (HA19.out.get (k:=w.heap.size+1) (c:=(aO (.slice (some ⟨sg,0,none⟩) 1 sc) {x1 with terms:=x.terms+fr})) (t:=46) sZ)) oZ (by show (46:TypeId)≠32;decide)
          have HA20:=hJ hA20;clear hA20 hw20 HA19;have HRs:=hJ (HA20.out.get (k:=w.heap.size+1+1+1) (c:=(aO (.slice none 0 0) aJ)) (t:=46) sZ)
          go_wp2_with (first
           | (refine yZ rfl 46 (.tmp 6) rfl (w.heap.size+1) rfl 46 (aO (.slice (some ⟨sg,0,none⟩) 1 sc) (⟨[(B 5,(nd:Int)+1,false)],x.terms+fr,v,V⟩:Sx)) (0,0) _ (HA20.out.get (k:=w.heap.size+1) (c:=(aO (.slice (some ⟨sg,0,none⟩) 1 sc) (⟨[(B 5,(nd:Int)+1,false)],x.terms+fr,v,V⟩:Sx))) (t:=46) sZ) Tryz.underlying46 rfl (aK _ _) ?_)
           | (refine zZ rfl 46 (.tmp 8) (.tmp 171) rfl (w.heap.size+1+1+1) (aO (.slice (some ⟨sg,0,none⟩) 1 sc) (⟨[(B 5,(nd:Int)+1,false)],x.terms+fr,v,V⟩:Sx)) rfl rfl 46 (aO (.slice none 0 0) aJ) HRs.out (aK _ _) rfl (dL _ _ _ _) ?_)
           | fail)
          refine tZ (v:=.tuple #[.agg (aO (.slice (some ⟨sg,0,none⟩) 1 sc) (⟨[(B 5,(nd:Int)+1,false)],x.terms+fr,v,V⟩:Sx)),.int .i64 0]) (di rfl _ _ (w.heap.size+1+1+1) _ _ (0,0) _ _ rfl rfl (setRow_heap _ _ _ _ _ _ HRs.out) Tryz.underlying46 rfl (aK _ _)) rfl ?_;have hE:=HE.out;unfold fw at hE;have hne:sg≠w.heap.size+1+1+1:=HA20.out.ne (x:=(sg,(cur.setIfInBounds 1 (.int .i64 ((nd:Int)+1))),65)) (y:=(w.heap.size+1+1+1,(aO (.slice none 0 0) aJ),46)) sZ sZ (by dsimp only;decide);refine fQ.good (st':=st7.store 1 v) (HA20.out.turn (L':=[]) HRs.out oZ dZ (bB.setRow (S:=fun j=>j=w.heap.size+1+1+1) (bB.refl _ _) (.inr rfl) _) sZ).run hE.1 (fun y hy=>?_) (HOwn.out _ _ ((nd:Int)+1) HSgb.out ((qZ _ _ _ _ hne).trans (HA20.out.get (k:=sg) (c:=(cur.setIfInBounds 1 (.int .i64 ((nd:Int)+1)))) (t:=65) sZ))) rfl;rw[hE.2 y hy];refine⟨rfl,?_,rfl⟩;have hs:=l7 (HU.out (by trivial));show aO _ (uC B x nd fr U')=aO _ (⟨[(B 5,(nd:Int)+1,false)],x.terms+fr,v,V⟩:Sx);unfold aO uC;simp only[hs 0 oZ,hs 1 oZ,hs 2 oZ,hs 3 oZ,hs 4 oZ,hs 5 oZ,<- HV.out]
        ·have HE:=hJ ((HR8.out.same (if_pos h9)).ret);have b2:(er != 0)=true:=by simpa using h9
         have HA14:=hJ hA14;have HEr:=hJ h9;clear hA14 hF HR8 HTy2 HTy3;have HRs:=hJ (HA14.out.get (List.mem_cons_of_mem _ HmZ.out))
         go_wp2_with (first
          | (refine zZ rfl 46 (.tmp 8) (.tmp 131) rfl (w.heap.size+1+1+1) (aO (.slice none 0 0) aJ) rfl rfl 46 (aO (.slice none 0 0) aJ) HRs.out (aK _ _) rfl (dL _ _ _ _) ?_)
          | fail)
         refine tZ (v:=.tuple #[.agg (aO (.slice none 0 0) aJ),.int .i64 er]) (di rfl _ _ (w.heap.size+1+1+1) _ _ (0,0) _ _ rfl rfl (setRow_heap _ _ _ _ _ _ HRs.out) Tryz.underlying46 rfl (aK _ _)) rfl ?_;exact fQ.bad (HA14.out.turn (L':=[]) HRs.out oZ dZ (bB.setRow (S:=fun j=>j=w.heap.size+1+1+1) (bB.refl _ _) (.inr rfl) _) sZ).run HE.out HEr.out
 ·have b1:(ee != 0)=true:=by simpa using hee
  have HE:=hJ ((HR0.out.same (q':=.ret (aJ,ee)) (by rw[if_pos hee])).ret);clear HR0;have HRs:=hJ (HA.out.get (k:=w.heap.size+1+1+1) (c:=(aO (.slice none 0 0) aJ)) (t:=46) sZ)
  go_wp2_with (first
   | (refine zZ rfl 46 (.tmp 8) (.tmp 29) rfl (w.heap.size+1+1+1) (aO (.slice none 0 0) aJ) rfl rfl 46 (aO (.slice none 0 0) aJ) HRs.out (aK _ _) rfl (dL _ _ _ _) ?_)
   | fail)
  refine tZ (v:=.tuple #[.agg (aO (.slice none 0 0) aJ),.int .i64 ee]) (di rfl _ _ (w.heap.size+1+1+1) _ _ (0,0) _ _ rfl rfl (setRow_heap _ _ _ _ _ _ HRs.out) Tryz.underlying46 rfl (aK _ _)) rfl ?_;exact fQ.bad (HA.out.turn (L':=[]) HRs.out oZ dZ (bB.setRow (S:=fun j=>j=w.heap.size+1+1+1) (bB.refl _ _) (.inr rfl) _) sZ).run HE.out hee
end Go.Proofs.YtafaohnhlgcnpaaGreatDoor
