/-
 What stage 12 rests on.
-/
import Derived.Test.YtlfndoclbebdaaaGreatDoorWrAllA1
import Derived.Test.YtlfndoclbebdaaaGreatDoorWrAllB1
set_option maxRecDepth 100000
set_option maxHeartbeats 16000000
namespace Go.Proofs.YtlfndoclbebdaaaGreatDoor
open Go.RowKit
/-! ### How many slots are taken -/
def sW (d:dm):Nat->Nat
 | 0=>0
 | i+1=>sW d i+if(d i).isSome then 1 else 0
theorem P8 (d:dm):∀ n,sW d n<=n
 | 0=>Nat.le_refl _
 | i+1=>by
  have:=P8 d i
  unfold sW
  split <;> omega
theorem Eo {d d':dm}:∀ n,(∀ i,i<n->d' i=d i)->sW d' n=sW d n
 | 0,_=>rfl
 | i+1,h=>by
  unfold sW
  rw[Eo i (fun j hj=>h j oZ),h i oZ]
theorem IX {d:dm} {i:Nat} {x:Int×List Nat} (hd:d i=none):∀ n,i<n->sW (d.put i x) n=sW d n+1
 | 0,h=>oZ
 | j+1,h=>by
  unfold sW
  by_cases e:i=j
  ·subst e
   rw[Eo i (fun k hk=>by unfold dm.put;rw[if_neg oZ]),hd]
   unfold dm.put
   simp
  ·rw[IX hd j oZ]
   have:d.put i x j=d j:=by unfold dm.put;rw[if_neg (fun h=>e h.symm)]
   rw[this]
   omega
theorem IU {d:dm}:∀ n,(∀ i,i<n->(d i).isSome=true)->sW d n=n
 | 0,_=>rfl
 | i+1,h=>by
  unfold sW
  rw[IU i (fun j hj=>h j oZ),h i oZ,if_pos rfl]
theorem JO {n h i:Nat} (hi:i<n):∃ t,t<n/\bW n h t=i:=by
 have hm:=Nat.mod_lt h (show 0<n by omega)
 by_cases hle:h % n<=i
 ·refine⟨i-h % n,oZ,?_⟩
  rw[AP oZ,if_pos oZ]
  omega
 ·refine⟨i+n-h % n,oZ,?_⟩
  rw[AP oZ,if_neg oZ]
  omega
theorem GZ {n:Nat} {d:dm} {k:List Nat} (h:Passed n d k n):sW d n=n:=by
 refine IU n fun i hi=>?_
 obtain⟨t,ht,rfl⟩:=JO (h:=dB k) hi
 obtain⟨b,k',e,_⟩:=h t ht
 rw[e]
 rfl
/-! ### Find -/
section
variable {n:Nat} {s lo hi:Int} {d:dm} {cs:List Int} {k:List Nat}
theorem Ec {yes no:Pr (Int×Int)} {a:Int} {q:Nat} {x:Int×Int} (hr:AA cs a k) (ha:0<=a) (hl:a+2+((aF k).length:Int)<=cs.length) (hy:Does yes cs q x cs):∀ (l:List Nat) (j:Nat),(aF k).drop j=l->Does (uM yes no l (a+2+(j:Int))) cs (q+l.length) x cs
 | [],j,_=>hy
 | c :: l,j,hd=>by
  have hj:(aF k)[j]?=some c:=by
   have:=congrArg (fun q=>q[0]?) hd
   simpa using this
  have hd2:(aF k).drop (j+1)=l:=by
   rw[<- List.drop_drop,hd]
   rfl
  have hjl:=(eZ.1 hj).1
  unfold uM
  refine .load oZ oZ ?_
  rw[hr.cells j c hj,if_pos rfl]
  have:=Ec (yes:=yes) (no:=no) hr ha hl hy l (j+1) hd2
  rw[show a+2+((j+1:Nat):Int)=a+2+(j:Int)+1 by omega] at this
  exact this
theorem Ff {yes no:Pr (Int×Int)} {a:Int} {k':List Nat} {q:Nat} {x:Int×Int} (hk:∀ y∈k,y<256) (hk':∀ y∈k',y<256) (hkl:k'.length=k.length) (hr:AA cs a k') (ha:0<=a) (hl:a+2+((aF k').length:Int)<=cs.length) (hne:k'≠k) (hn:Does no cs q x cs):∀ (l:List Nat) (j:Nat),(aF k).drop j=l->(∀ m,m<j->(aF k')[m]?=(aF k)[m]?)->∃ q',q'<=q+l.length/\Does (uM yes no l (a+2+(j:Int))) cs q' x cs
 | [],j,hd,heq=>by
  have hl2:(aF k').length=(aF k).length:=by rw[bH,bH,hkl]
  have hj:(aF k).length<=j:=by
   have:=congrArg List.length hd
   simp at this
   omega
  exact absurd (EU hk' hk hkl (List.ext_getElem? fun m=>by
   by_cases hm:m<j
   ·exact heq m hm
   ·rw[List.getElem?_eq_none oZ,List.getElem?_eq_none oZ])) hne
 | c :: l,j,hd,heq=>by
  have hl2:(aF k').length=(aF k).length:=by rw[bH,bH,hkl]
  have hj:(aF k)[j]?=some c:=by
   have:=congrArg (fun q=>q[0]?) hd
   simpa using this
  have hd2:(aF k).drop (j+1)=l:=by
   rw[<- List.drop_drop,hd]
   rfl
  have hjl:=(eZ.1 hj).1
  obtain⟨c',hc'⟩:∃ c',(aF k')[j]?=some c':=⟨_,gZ oZ⟩
  unfold uM
  by_cases he:c'=c
  ·obtain⟨q',hq',hD⟩:=Ff (yes:=yes) (no:=no) hk hk' hkl hr ha hl hne hn l (j+1) hd2 (fun m hm=>by
    by_cases e:m=j
    ·subst e;rw[hc',hj,he]
    ·exact heq m oZ)
   refine⟨q'+1,by simp only[List.length_cons];omega,.load oZ oZ ?_⟩
   rw[hr.cells j c' hc',if_pos oZ]
   rw[show a+2+((j+1:Nat):Int)=a+2+(j:Int)+1 by omega] at hD
   exact hD
  ·refine⟨q+1,by simp only[List.length_cons];omega,.load oZ oZ ?_⟩
   rw[hr.cells j c' hc',if_neg oZ]
   exact hn
theorem MX (h:ig n s lo hi d cs) (hs:0<=s) (hk:∀ x∈k,x<256) (hkl:k.length<=100):∀ g t,t+g=n->Passed n d k t->∃ q x,q<=g*(2+(aF k).length)/\Does (fR s n k g t) cs q x cs/\Good n k d x
 | 0,t,ht,hp=>by
  obtain rfl:t=n:=oZ
  exact⟨0,(0,-1),Nat.zero_le _,.ret _ _,.inr ⟨rfl,rfl,hp⟩⟩
 | g+1,t,ht,hp=>by
  have hn:=h.n0
  have hsl:=lw hn (dB k) t
  have hln:=h.len
  have hlo:=h.lo0
  have hhis:=h.his
  have hmul:(g+1)*(2+(aF k).length)=g*(2+(aF k).length)+(2+(aF k).length):=Nat.succ_mul _ _
  unfold fR
  cases hdi:d (bW n (dB k) t) with
  | none =>
   refine⟨1,(0,(bW n (dB k) t:Nat)),oZ,.load oZ oZ ?_,.inl ⟨t,oZ,rfl,hp,.inl ⟨hdi,rfl⟩⟩⟩
   rw[h.slot _ hsl,hdi]
   simp only
   rw[if_pos trivial]
   exact .ret _ _
  | some x =>
   obtain⟨a,k'⟩:=x
   obtain⟨r1,r2,r3,r4,r5⟩:=h.rec_ _ a k' hdi
   have hcl:=bH k'
   by_cases hkk:k'=k
   ·subst hkk
    have hc:=Ec (yes:=.ret (a,((bW n (dB k') t:Nat):Int))) (no:=fR s n k' g (t+1)) (q:=0) r3 oZ oZ (.ret _ _) (aF k') 0 rfl
    rw[show a+2+((0:Nat):Int)=a+2 by omega] at hc
    refine⟨0+(aF k').length+1+1,(a,((bW n (dB k') t:Nat):Int)),oZ,.load oZ oZ ?_,.inl ⟨t,oZ,rfl,hp,.inr hdi⟩⟩
    rw[h.slot _ hsl,hdi]
    simp only
    rw[if_neg oZ]
    refine .load oZ oZ ?_
    rw[r3.len,if_pos oZ]
    exact hc
   ·obtain⟨q,x,hq,hD,hG⟩:=MX h hs hk hkl g (t+1) oZ (fun u hu=>by
     by_cases e:u=t
     ·subst e;exact⟨a,k',hdi,hkk⟩
     ·exact hp u oZ)
    by_cases hll:k'.length=k.length
    ·obtain⟨q',hq',hD'⟩:=Ff (yes:=.ret (a,((bW n (dB k) t:Nat):Int))) hk r4 hll r3 oZ oZ hkk hD (aF k) 0 rfl (fun m hm=>oZ)
     rw[show a+2+((0:Nat):Int)=a+2 by omega] at hD'
     refine⟨q'+1+1,x,oZ,.load oZ oZ ?_,hG⟩
     rw[h.slot _ hsl,hdi]
     simp only
     rw[if_neg oZ]
     refine .load oZ oZ ?_
     rw[r3.len,if_pos oZ]
     exact hD'
    ·refine⟨q+1+1,x,oZ,.load oZ oZ ?_,hG⟩
     rw[h.slot _ hsl,hdi]
     simp only
     rw[if_neg oZ]
     refine .load oZ oZ ?_
     rw[r3.len,if_neg oZ]
     exact hD
theorem vg (h:ig n s lo hi d cs) (hs:0<=s) (hk:∀ x∈k,x<256) (hkl:k.length<=100) (hocc:sW d n<n):∃ q a t,q<=n*(2+(aF k).length)/\t<n/\Does (fR s n k n 0) cs q (a,((bW n (dB k) t:Nat):Int)) cs /\
  (d (bW n (dB k) t)=some (a,k)∨(a=0/\d (bW n (dB k) t)=none/\Passed n d k t/\∀ b,¬ Has d k b)):=by
 obtain⟨q,x,hq,hD,hG⟩:=MX h hs hk hkl n 0 oZ (fun u hu=>oZ)
 have hsp:=hG.spec h
 obtain⟨x1,x2⟩:=x
 rcases hG with ⟨t,ht,h2,hp,⟨h3,h4⟩ | h3⟩ | ⟨h1,_,hp⟩
 ·simp only at h2 h4
  subst h4
  refine⟨q,0,t,hq,ht,by rw[<- h2];exact hD,.inr ⟨rfl,h3,hp,?_⟩⟩
  rcases hsp with ⟨_,e⟩ | ⟨_,e⟩
  ·exact absurd rfl e
  ·exact e
 ·simp only at h2 h3
  exact⟨q,x1,t,hq,ht,by rw[<- h2];exact hD,.inl h3⟩
 ·have:=GZ hp
  omega
end
/-! ### A key's record -/
def fV (d:dm) (k:List Nat):Nat->Int
 | 0=>0
 | i+1=>match d i with
  | some x=>if x.2=k then x.1 else fV d k i
  | none=>fV d k i
theorem jO {d:dm} {k:List Nat} (h:∀ a,¬ Has d k a):∀ n,fV d k n=0
 | 0=>rfl
 | i+1=>by
  unfold fV
  cases hd:d i with
  | none=>exact jO h i
  | some x =>
   simp only
   rw[if_neg (fun e=>h x.1 ⟨i,by rw[hd,<- e]⟩)]
   exact jO h i
theorem vC {d:dm} {k:List Nat} {a:Int} (hu:∀ i b,d i=some (b,k)->b=a) {i:Nat} (hi:d i=some (a,k)):∀ n,i<n->fV d k n=a
 | 0,h=>oZ
 | j+1,h=>by
  unfold fV
  by_cases e:i=j
  ·subst e
   rw[hi]
   simp
  ·cases hd:d j with
   | none=>exact vC hu hi j oZ
   | some x =>
    obtain⟨b,k'⟩:=x
    simp only
    by_cases e2:k'=k
    ·rw[if_pos e2]
     subst e2
     exact hu j b hd
    ·rw[if_neg e2]
     exact vC hu hi j oZ
section
variable {n:Nat} {s lo hi:Int} {d d':dm} {cs:List Int} {k:List Nat}
theorem ig.oH (h:ig n s lo hi d cs) {i:Nat} {a:Int} (hi:d i=some (a,k)):fV d k n=a:=by
 obtain⟨t,ht,rfl,_⟩:=h.probe i a k hi
 exact vC (fun j b hb=>h.has_eq ⟨j,hb⟩ ⟨_,hi⟩) hi n (lw h.n0 _ _)
theorem ig.MS (h:ig n s lo hi d cs) {hi':Int} {cs':List Int} {i:Nat} {x:Int×List Nat} (h':ig n s lo hi' (d.put i x) cs') (hle:d.Le (d.put i x)) (hne:x.2≠k):fV (d.put i x) k n=fV d k n:=by
 by_cases hh:∃ a,Has d k a
 ·obtain⟨a,j,hj⟩:=hh
  rw[h.oH hj,h'.oH (hle j _ hj)]
 ·rw[jO (fun a ha=>hh ⟨a,ha⟩),jO]
  rintro a ⟨j,hj⟩
  unfold dm.put at hj
  by_cases e:j=i
  ·rw[if_pos e] at hj
   cases hj
   exact hne rfl
  ·rw[if_neg e] at hj
   exact hh ⟨a,j,hj⟩
end
section
variable {w:World} {rb mb cap at_:Nat} {go:Option Nat} {log:List Int} {wi ma off ov:Bool} {er:Int}
theorem IY (h:bM w rb mb go cap log at_ wi ma off ov er) (u:FrameMode) :
  CallsD Tryz.prog 59 #[.pointer (some ⟨rb,0,none⟩)] u w fun e u' w'=>u'=u/\(e=.returned (.tuple #[])/\bM w' rb mb go cap log at_ false ma (er != 0) ov er/\bI (·=rb) w w'):=by
 have h3:=h.c3
 have h5:=h.c5
 have h7:=h.c7
 have f3:=free_at h.rec_ 3
 have f5:=free_at h.rec_ 5
 go_enter_d Tryz.func59,Tryz.ntmps59
 go_wp2
 go_end0
 exact⟨rfl,(h.set 3 _ (at':=at_) (wi':=false) (ma':=ma) (off':=off) (ov':=ov) (er':=er) rfl).set 5 _ rfl,bI.setCell (S:=fun k=>k=rb) (bI.setCell (S:=fun k=>k=rb) (bI.refl _ _) (.inr rfl) _) (.inr rfl) _⟩
end
theorem Gu {α:Type} {st:St} (a v:Int) (x:α):((Pr.store a v (.ret x)).on st).2=st.store a (u32 v)/\∀ y,((Pr.store a v (.ret x)).on st).1=some y->y=x:=by
 unfold Pr.on
 split
 ·exact⟨rfl,fun y h=>by cases h⟩
 ·exact⟨rfl,fun y h=>by cases h;rfl⟩
theorem Ql {α:Type} {st:St} {Bd:Nat} (hf:st.Fine Bd) (a v b u:Int) (x:α):((Pr.store a v (.store b u (.ret x))).on st).2=(st.store a (u32 v)).store b (u32 u)/\∀ y,((Pr.store a v (.store b u (.ret x))).on st).1=some y->y=x:=by
 have h1:=hf.store a v
 unfold Pr.on
 split
 ·rename_i ho
  exact⟨(St.qJ h1.good ho b _).symm,fun y h=>by cases h⟩
 ·exact Gu b u x
theorem En (W:World) (s:ByteArray) (hs:s.size<=1000000):Calls Tryz.prog 124 #[.string s] W fun e w'=>∃ v,e=.returned v/\iw 32 .u32 w' W.heap.size v (aF (ax s))/\Below W.heap.size W w':=by
 obtain⟨L,hL⟩:∃ L,L=ax s:=⟨_,rfl⟩
 have HLt:=hJ (show ∀ b∈L,b<256 by rw[hL];exact jo s)
 have HLn:=hJ (show L.length=s.size by rw[hL];exact aG s)
 have HIn:=hJ (show ∀ (i:Nat) (h:i<s.size),L.getD i 0=(s[i]'h).toNat from fun i h=>by rw[hL];exact byte_at h)
 rw[<- hL]
 clear hL
 obtain⟨n,hn⟩:∃ n,n=(s.size+3) / 4:=⟨_,rfl⟩
 have hn0:n<=1000000:=oZ
 have HN:=hJ hn
 have HC:=hJ (fun w=>wU w (s.size:Int) n oZ oZ oZ)
 have hmk:=Hf n hn0
 have HFin:=hJ (show ∀ (w:World) (F:Nat->Value),w.rowIs W.heap.size 32 n F->(∀ j:Nat,F j=.int .u32 (cellAt L j:Nat))->iw 32 .u32 w W.heap.size (.slice (some ⟨W.heap.size,0,none⟩) n n) (aF L) from fun w F h hF =>
  xW (k:=.u32) W.heap.size (Nat.le_refl _) (by rw[bH,HLn.out,HN.out]) mZ h (fun j x hj=>by
   rw[hF j]
   unfold aF iO at hj
   rw[List.getElem?_map] at hj
   obtain⟨y,hy,rfl⟩:=Option.map_eq_some_iff.1 hj
   have:=eZ.1 hy
   obtain⟨h1,h2⟩:=this
   rw[List.getElem_range] at h2
   rw[h2]))
 clear hn
 go_enter Tryz.func124,Tryz.ntmps124
 go_wp2_with fail
 refine(HC.out _).mono ?_;rintro e w1 ⟨rfl,rfl⟩
 go_wp2_with fail
 have HRow:=hJ (show (w1.alloc (.cells (madeCells #[.int .u32 0] n) 32)).rowIs w1.heap.size 32 n (fun j=>.int .u32 (cellAt (L.take 0) j:Nat)) from(World.rowIs_made w1 (.int .u32 0) n 32).congr fun j _=>by simp[cellAt])
 have HB:=hJ (show Below w1.heap.size w1 (w1.alloc (.cells (madeCells #[.int .u32 0] n) 32)) from au)
 generalize w1.alloc (.cells (madeCells #[.int .u32 0] n) 32)=w2 at HRow HB
 go_loopw [11] (fun iv wr=>∃ i:Nat,i<=s.size/\iv=.int .i64 i/\wr.rowIs w1.heap.size 32 n (fun j=>.int .u32 (cellAt (L.take i) j:Nat))/\Below w1.heap.size w1 wr) (fun iv _=>s.size-(intOf iv).toNat)
 case atStart=>exact⟨0,oZ,rfl,HRow.out,HB.out⟩
 case round =>
  obtain⟨i,hi,rfl,hrow,hlow⟩:=hrel
  have HR:=hJ hrow
  have HL:=hJ hlow
  clear hrow hlow
  by_cases hlt:i<s.size
  ·have hlt1:(i:Int)<(s.size:Int):=oZ
   obtain⟨k,hk⟩:∃ k,i % 4=k:=⟨_,rfl⟩
   obtain⟨j,hj⟩:∃ j,j=i / 4:=⟨_,rfl⟩
   have hjn:j<n:=by have:=HN.out;omega
   have hjn1:(j:Int)<(n:Int):=oZ
   obtain⟨b,hb⟩:∃ b,b=(s[i]'hlt).toNat:=⟨_,rfl⟩
   have hb256:b<256:=by rw[hb];exact(s[i]'hlt).toNat_lt
   have hst:=AY HLt.out i k hk
   rw[<- hj,HIn.out i hlt,<- hb] at hst
   have hcell:=HR.out.cell hjn
   have hfr:=HR.out.frozen j
   obtain⟨c,hc⟩:∃ c,c=cellAt (L.take i) j:=⟨_,rfl⟩
   rw[<- hc] at hst hcell
   obtain⟨x,hx⟩:∃ x,b*2 ^ (k*8)=x:=⟨_,rfl⟩
   rw[hx] at hst
   obtain⟨hs1,hs2,hs3⟩:=hst
   have HS:=hJ hs1
   have HJ:=hJ hj
   obtain⟨m,hm⟩:∃ m,k*8=m:=⟨_,rfl⟩
   have hm24:m<=24:=oZ
   rw[hm] at hs2 hx
   have HSh:=hJ (fun w=>Du w i k m oZ hk hm)
   have hor:=IB hs2 hm24 b hx.symm hs3
   have q1:(i:Int) / 4=(j:Int):=oZ
   have q2:(i:Int).tdiv 4=(j:Int):=by rw[Int.tdiv_eq_ediv_of_nonneg oZ];exact q1
   have q3:IntKind.i64.wrap (j:Int)=(j:Int):=iZ _ oZ
   have b1:IntKind.u32.wrap ((s[i]'hlt).toNat:Int)=(b:Int):=by rw[<- hb];exact IntWalk.u32_in _ oZ
   have HBb:=hJ hb
   have HOr:=hJ (show bits BinOp.or IntKind.u32 (c:Int) ((b:Int)*2 ^ m % 4294967296)=((c+x:Nat):Int) by
    rw[show ((b:Int)*2 ^ m)=(x:Int) by rw[<- hx];simp,show (x:Int) % 4294967296=(x:Int) by omega];exact hor)
   clear hor hs1 hs2 hs3 hx hk hj hc hb hm
   go_wp2_with fail
   refine wp_region_still_tail 14 kZ kZ ?_
   simp only[List.take_succ_cons,List.take_zero,List.drop_succ_cons,List.drop_zero]
   repeat still_step
   still_call (HSh.out _)
   repeat still_step
   refine wpStill_nil ?_
   change wpList _ _ _ _ _ (World.drew _)
   go_wp2_with fail
   go_roundw
   case rel =>
    refine⟨i+1,oZ,by go_num,?_,(HL.out.setCell sZ _).drew⟩
    refine((HR.out.drew).set j _).congr fun y hy=>?_
    by_cases hyj:y=j
    ·rw[if_pos hyj,hyj,HS.out];exact congrArg (Value.int IntKind.u32) HOr.out
    ·rw[if_neg hyj,xO L i y (by rw[<- HJ.out];exact hyj)]
   case measure=>simp[intOf];omega
  ·have hi':s.size=i:=oZ
   have hlt1:¬ (i:Int)<(s.size:Int):=oZ
   have HO:=hJ (HFin.out wr _ HR.out (fun j=>by rw[List.take_of_length_le (by rw[HLn.out];omega)]))
   clear hi'
   go_wp2_with fail
   go_ret
   exact⟨_,rfl,HO.out,HL.out⟩
variable {α:Type}
structure mX (S:Nat->Prop) (rb mb cb:Nat) (w:World) (go:Option Nat) (w':World) (go':Option Nat):Prop where
 grows:PQ w go go'
 mod:bI (fun k=>S k∨gY rb mb cb go k) w w'
theorem jY.Lm {rb mb cb:Nat} {w w':World} {go go':Option Nat} (h:jY rb mb cb w go w' go') (S:Nat->Prop):mX S rb mb cb w go w' go':=⟨h.grows,h.mod.mono fun _ _ hk=>.inr hk⟩
theorem mX.trans {S:Nat->Prop} {rb mb cb:Nat} {w w1 w2:World} {go go1 go2:Option Nat} (h:mX S rb mb cb w go w1 go1) (k:mX S rb mb cb w1 go1 w2 go2):mX S rb mb cb w go w2 go2:=by
 refine⟨?_,h.mod.then k.mod ?_⟩
 ·rcases k.grows with e | ⟨g,e,hg⟩
  ·rw[e];exact h.grows
  ·exact .inr ⟨g,e,Nat.le_trans h.mod.size hg⟩
 ·rintro i hi (e | e | e | e)
  ·exact .inl e
  ·exact .inr (.inl e)
  ·rcases h.grows with e' | ⟨g,e',hg⟩
   ·exact .inr (.inr (.inl (e' ▸ e)))
   ·rw[e'] at e;cases e;omega
  ·exact .inr (.inr (.inr e))
theorem mX.mW {S:Nat->Prop} {rb mb cb:Nat} {w w':World} {go:Option Nat} {T:Nat->Prop} (h:bI T w w') (hT:∀ k,T k->S k∨gY rb mb cb go k):mX S rb mb cb w go w' go:=⟨.inl rfl,h.mono fun k _ hk=>hT k hk⟩
theorem mX.apart {S:Nat->Prop} {rb mb cb:Nat} {w w':World} {go go':Option Nat} (h:mX S rb mb cb w go w' go') {k:Nat} (hk:k<w.heap.size) (hs:¬ gY rb mb cb go k):¬ gY rb mb cb go' k:=by
 rintro(e | e | e)
 ·exact hs (.inl e)
 ·rcases h.grows with e' | ⟨g,e',hg⟩
  ·exact hs (.inr (.inl (e' ▸ e)))
  ·rw[e'] at e;cases e;omega
 ·exact hs (.inr (.inr e))
theorem bI.setRow {S:Nat->Prop} {a w:World} (h:bI S a w) {g:Nat} (hp:a.heap.size<=g∨S g) (cs:Array Value):bI S a (w.setRow g cs) :=
 ⟨h.os,h.tape,h.output,by simpa using h.size,fun k hk hs=>(qZ _ _ _ _ (by rintro rfl;rcases hp with e | e;omega;exact hs e)).trans (h.block k hk hs)⟩
structure QP (F:FuncId) (caps:Array Value) (rb mb cb:Nat) (S:Nat->Prop) (I:World->Prop) (p:Pr α) (Post:α->World->Prop) (B:Nat):Prop where
 enter:∀ (args:Array Value) (w:World),(callFunc F args).run Tryz.prog w=.ok (.enter F args) w
 call:∀ (w:World) (go:Option Nat) (st:St),RM w rb mb cb go true st->st.Fine B->st.off=false->I w->(∀ k,S k->¬ gY rb mb cb go k) ->
  Calls Tryz.prog F (#[.pointer (some ⟨rb,0,none⟩)]++caps) w fun e w'=>e=.returned (.tuple #[])/\∃ go',RM w' rb mb cb go' true (p.on st).2/\mX S rb mb cb w go w' go'/\I w'/\∀ x,(p.on st).1=some x->Post x w'
 rC:∀ w w',I w->w.heap.size<=w'.heap.size->(∀ k,S k->k<w.heap.size->w'.heap[k]?=w.heap[k]?)->I w'
 yz:∀ x w w' go st,Post x w->RM w rb mb cb go true st->bI (fun k=>k=rb) w w'->Post x w'
 old:∀ w,I w->∀ k,S k->k<w.heap.size
theorem Om {w:World} {rb mb cb:Nat} {go:Option Nat} {st:St} {F:FuncId} {caps:Array Value} {S:Nat->Prop} {I:World->Prop} {p:Pr α} {Post:α->World->Prop} {B:Nat} (h:RM w rb mb cb go false st) (ho:st.over=false) (hoff:st.off=false) (hok:({st with at_:=0,made:=false}:St).Fine B)
    (hC:QP F caps rb mb cb S I p Post B) (hI:I w) (hS:∀ k,S k->¬ gY rb mb cb go k) :
    Calls Tryz.prog 22 #[.pointer (some ⟨rb,0,none⟩),.func (.func F) #[] caps] w fun e w'=>e=.returned (.bool (st.nV p).over)/\∃ go',RM w' rb mb cb go' false (st.nV p)/\mX S rb mb cb w go w' go'/\I w'/\∀ x,st.KP p=some x->Post x w':=by
  have H:=hJ h
  obtain⟨hrm,hrc,hgm⟩:=h.qY
  obtain⟨rcap,h1⟩:=h.run
  rw[ho] at h1
  have c2:=h1.c2
  have c3:=h1.c3
  have c4:=h1.c4
  have f2:=free_at h1.rec_ 2
  have f3:=free_at h1.rec_ 3
  have f4:=free_at h1.rec_ 4
  have hr3:=((h1.set 2 (.int .i64 0) (at':=0) (wi':=false) (ma':=st.made) (off':=st.off) (ov':=false) (er':=st.err) rfl).set 4 (.bool false) (at':=0) (wi':=false) (ma':=false) (off':=st.off) (ov':=false) (er':=st.err) rfl).set 3 (.bool true) (at':=0) (wi':=true) (ma':=false) (off':=st.off) (ov':=false) (er':=st.err) rfl
  have hx3:bI (fun k=>k=rb) w (((w.setCell ⟨rb,2,none⟩ (.int .i64 0)).setCell ⟨rb,4,none⟩ (.bool false)).setCell ⟨rb,3,none⟩ (.bool true)):=bI.setCell (S:=fun k=>k=rb) (bI.setCell (S:=fun k=>k=rb) (bI.setCell (S:=fun k=>k=rb) (bI.refl _ _) (.inr rfl) _) (.inr rfl) _) (.inr rfl) _
  have HR3:=hJ hr3
  have HX3:=hJ hx3
  have H1:=hJ h1
  have HI:=hJ hI
  have HS:=hJ hS
  have HO:=hJ ho
  have HF:=hJ hoff
  have HK:=hJ hok
  have HC:=hJ hC
  clear h h1 hr3 hx3 hI hS ho hok hC hoff
  have qF:∀ w:World,(binOp .eql 53 (.func (.func F) #[] caps) .nilFunc).run Tryz.prog w=.ok (.bool false) w:=fun w=>rfl
  go_enter_defers Tryz.func22,Tryz.ntmps22
  go_upto_region 8 with (go_at_call 29;refine(uz H1.out).mono ?_;rintro e w' ⟨rfl,rfl⟩)
  obtain⟨w3,hw3⟩:∃ w3,w3=((w.setCell ⟨rb,2,none⟩ (.int .i64 0)).setCell ⟨rb,4,none⟩ (.bool false)).setCell ⟨rb,3,none⟩ (.bool true):=⟨_,rfl⟩
  rw[show ((w.setCell ⟨rb,2,none⟩ (.int .i64 0)).setCell ⟨rb,4,none⟩ (.bool false)).setCell ⟨rb,3,none⟩ (.bool true)=w3 from hw3.symm]
  rw[<- hw3] at HR3 HX3
  clear hw3 c2 c3 c4 f2 f3 f4
  have hx3:=HX3.out
  have hrm3:RM w3 rb mb cb go true {st with at_:=0,made:=false}:=⟨⟨rcap,by show bM w3 rb mb go rcap st.log 0 true false st.off st.over st.err;rw[HO.out];exact HR3.out⟩,H.out.mem.mod hx3 (Ne.symm hrm) (Ne.symm hrc),H.out.ne⟩
  have hI3:=HC.out.rC w w3 HI.out hx3.size fun k hk hl=>hx3.block k hl fun e=>HS.out k hk (.inl e)
  have HCall:=hJ (HC.out.call w3 go _ hrm3 HK.out HF.out hI3 HS.out)
  clear hx3 hrm3 hI3
  go_wp2_with fail
  rw[HC.out.enter,Oper.upon_enter]
  refine HCall.out.mono ?_
  rintro e w4 ⟨rfl,go4,hr4,ha4,hI4,hP4⟩
  obtain⟨o,t,ht⟩:∃ o t,p.on {st with at_:=0,made:=false}=(o,t):=⟨_,_,rfl⟩
  rw[ht] at hr4 hP4
  have HT:=hJ ht
  have HR4:=hJ hr4
  have HA4:=hJ ha4
  have HI4:=hJ (And.intro hI4 hP4)
  obtain⟨cap4,h4⟩:=hr4.run
  have c5:=h4.c5
  have c6:=h4.c6
  have f6:=free_at h4.rec_ 6
  have H4:=hJ h4
  clear hr4 ha4 h4 ht HCall hI4 hP4
  go_wp2_with fail
  all_goals
   have hstep:st.nV p={t with over:=t.over||!t.off,off:=t.err != 0}:=by unfold St.nV St.shut;rw[HO.out,if_neg sZ];have:=HT.out;rw[HO.out] at this;rw[this]
   have hans:st.KP p=o:=by unfold St.KP;rw[HT.out]
   have hadv:=(mX.mW (S:=S) (go:=go) (mb:=mb) (cb:=cb) HX3.out fun k hk=>.inr (.inl hk)).trans HA4.out
   have hmem:=HR4.out.mem
   obtain⟨hn1,hn2,hn3⟩:=HR4.out.qY
   have hn4:=HR4.out.ne
   have h4:=H4.out
   have hS4:∀ k,S k->k≠rb:=fun k hk e=>HS.out k hk (.inl e)
   rw[hans]
   refine leaves_cons (f:=59) (args:=#[.pointer (some ⟨rb,0,none⟩)]) sZ (by simp[go_sem]) ?_
  · rename_i hov
    refine(IY (h4.set 6 (.bool true) (at':=t.at_) (wi':=true) (ma':=t.made) (off':=t.off) (ov':=true) (er':=t.err) rfl) .returning).mono ?_
    rintro e u' w5 ⟨rfl,rfl,h5,hm5⟩
    have hm:bI (fun k=>k=rb) w4 w5:=(bI.setCell (S:=fun k=>k=rb) (bI.refl _ _) (.inr rfl) _).trans hm5
    refine⟨_,results_tmp rfl _ _ _,?_,go4,⟨⟨cap4,?_⟩,?_,hn4⟩,hadv.trans (mX.mW hm fun k hk=>.inr (.inl hk)),HC.out.rC w4 w5 HI4.out.1 hm.size fun k hk hl=>hm.block k hl (hS4 k hk),fun x hx=>HC.out.yz x w4 w5 go4 t (HI4.out.2 x hx) HR4.out hm⟩
    · rw[hstep];simp[hov]
    · rw[hstep];simpa [hov] using h5
    · rw[hstep];exact hmem.mod hm (Ne.symm hn1) (Ne.symm hn2)
  · rename_i hov
    have hov:t.over=false:=by simpa using hov
    refine(IY (h4.set 6 (.bool (!t.off)) (at':=t.at_) (wi':=true) (ma':=t.made) (off':=t.off) (ov':=!t.off) (er':=t.err) rfl) .returning).mono ?_
    rintro e u' w5 ⟨rfl,rfl,h5,hm5⟩
    have hm:bI (fun k=>k=rb) w4 w5:=(bI.setCell (S:=fun k=>k=rb) (bI.refl _ _) (.inr rfl) _).trans hm5
    refine⟨_,results_tmp rfl _ _ _,?_,go4,⟨⟨cap4,?_⟩,?_,hn4⟩,hadv.trans (mX.mW hm fun k hk=>.inr (.inl hk)),HC.out.rC w4 w5 HI4.out.1 hm.size fun k hk hl=>hm.block k hl (hS4 k hk),fun x hx=>HC.out.yz x w4 w5 go4 t (HI4.out.2 x hx) HR4.out hm⟩
    · rw[hstep];simp[hov]
    · rw[hstep];simpa [hov] using h5
    · rw[hstep];exact hmem.mod hm (Ne.symm hn1) (Ne.symm hn2)
end Go.Proofs.YtlfndoclbebdaaaGreatDoor
