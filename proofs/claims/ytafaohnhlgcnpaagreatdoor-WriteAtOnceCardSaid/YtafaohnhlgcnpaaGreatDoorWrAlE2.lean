/-
 What stage 12 rests on.
-/
import Derived.Test.YtafaohnhlgcnpaaGreatDoorWrAlD3
import Derived.Lib.OwnKind
set_option maxRecDepth 100000
set_option maxHeartbeats 16000000
namespace Go.Proofs.YtafaohnhlgcnpaaGreatDoor
open Go.RowKit
open Go.Lib (IsBuilder BuilderAt OthersKept byteCells)
theorem zy:liesAt Tryz.prog Tryz.prog.depth 308 (2 / Tryz.prog.cellsOf 308) 0 308 1=true:=kZ
theorem qU:(Tryz.prog.info? 308).map (·.size)=some 2:=kZ
theorem Dm:Tryz.prog.cellsOf 5=1:=kZ
theorem DF (b:Nat) (w:World) (h0:w.cell? ⟨b,0,none⟩=some (.pointer (some ⟨b,0,none⟩))) :
  Calls Tryz.prog 221 #[.pointer (some ⟨b,0,none⟩)] w fun e w'=>e=.returned (.tuple #[])/\w'=w:=by
 obtain⟨j,hj,_⟩:=Option.map_eq_some_iff.1 qU;go_enter Tryz.func221,Tryz.ntmps221
 go_wp2
 rw[Lib.run_neq_ptr_same w _ Tryz.underlying306 hj];go_wp2
 go_end0
 exact⟨rfl,rfl⟩
theorem AY (b:Nat) (w:World) (h0:w.cell? ⟨b,0,none⟩=some (.pointer none)) (hsh:w.shape? b=some (308,2)) (hfz:w.frozen? ⟨b,0,none⟩=false) :
  Calls Tryz.prog 221 #[.pointer (some ⟨b,0,none⟩)] w fun e w'=>e=.returned (.tuple #[])/\w'=w.setCell ⟨b,0,none⟩ (.pointer (some ⟨b,0,none⟩)):=by
 obtain⟨j,hj,hjs⟩:=Option.map_eq_some_iff.1 qU;go_enter Tryz.func221,Tryz.ntmps221
 go_wp2
 rw[Lib.run_to_unsafe w ⟨b,0,none⟩ Tryz.underlying306 Tryz.underlying335 hj (by rw[hjs];decide) hsh (Nat.zero_lt_succ 1)];simp only[Result.andThen];rw[Oper.upon_value];go_wp2
 rw[run_callFunc_extern Tryz.func228 kZ kZ kZ (e:=Extern.AbiNoEscape.same) kZ];rw[Lib.run_noEscape];simp only[Result.andThen];rw[Oper.upon_value];go_wp2
 rw[Lib.run_from_unsafe w ⟨b,0,none⟩ Tryz.underlying335 Tryz.underlying306 hj hsh zy];simp only[Result.andThen];rw[Oper.upon_value];go_wp2
 go_end0
 exact⟨rfl,rfl⟩
theorem wU (B b:Nat) (bs:List Value) (w:World) (h:IsBuilder 308 5 B b bs w) :
  Calls Tryz.prog 221 #[.pointer (some ⟨b,0,none⟩)] w fun e w'=>e=.returned (.tuple #[])/\BuilderAt 308 5 B b (.pointer (some ⟨b,0,none⟩)) bs w'/\Below B w w'/\OthersKept 5 (some b) w w':=by
 rcases h with h | h
 ·refine(AY b w h.cell0 h.shape h.frozen0).mono ?_;rintro e w' ⟨rfl,rfl⟩;exact⟨rfl,h.used _,(Below.refl B w).setCell (p:=⟨b,0,none⟩) h.1 _,(OthersKept.refl _ _ w).setCell ⟨b,0,none⟩ rfl _⟩
 ·refine(DF b w h.cell0).mono ?_;rintro e w' ⟨rfl,rfl⟩;exact⟨rfl,h,Below.refl B _,OthersKept.refl _ _ _⟩
/-! ### A rune's bytes appended -/
def dI (l:List Nat):List Value:=l.map fun(b:Nat)=>Value.int .u8 (b:Int)
theorem xh (a b:List Nat):dI (a++b)=dI a++dI b:=by simp[dI]
theorem iP (a:List Nat):(dI a).length=a.length:=by simp[dI]
theorem El (B:Nat) (v:Value) (n:Nat) (xs:List Value) (r:Int) (h0:128<=r) (h1:r<=2047) (w:World) (hown:w.ownsRow B 5 1 v n xs) (hlen:n+4<=140737488355328) (hBw:B<=w.heap.size) :
  Calls Tryz.prog 229 #[v,.int .i32 r] w fun e w'=>∃ v',e=.returned v'/\w'.ownsRow B 5 1 v' (n+2) (xs++[.int .u8 (192+r / 64),.int .u8 (128+r % 64)])/\∃ o,(w.alloc o).grownBy w' v.ownBlock:=by
 obtain⟨i0,hi,hz0,hz1,hz2⟩:=info_parts jE;go_enter Tryz.func229,Tryz.ntmps229
 go_wp2_with (at_builtin;refine wpList_append_own _ rfl _ _ 256 rfl B 5 i0 (.int .u8 0) 1 1 Tryz.underlying256 hi hz0 hz1 hz2 rfl dZ _ _ _ rfl (hown.alloc _) ⟨w.heap.size,0,none⟩ 2 2 [.int .u8 (192+r / 64),.int .u8 (128+r % 64)] rfl rfl ?c1 ?c2 ?c3 ?c4 ?c5 ?_)
 case c1 =>
  intro j u hj;match j,hj with
  | 0,hj=>simp at hj;subst hj;simp[Addr.add]
  | 1,hj=>simp at hj;subst hj;simp[Addr.add]
  | (j+2),hj=>simp at hj
 case c2=>intro u hu;simp at hu;rcases hu with rfl | rfl <;> rfl
 case c3=>unfold maxLen;omega
 case c4=>omega
 case c5=>simp;omega
 intro v' w2 hown' hgrow _;go_wp2
 go_ret;exact⟨_,rfl,hown',_,hgrow⟩
theorem uF (B:Nat) (v:Value) (n:Nat) (xs:List Value) (r:Int) (h0:2048<=r) (h1:r<55296) (w:World) (hown:w.ownsRow B 5 1 v n xs) (hlen:n+4<=140737488355328) (hBw:B<=w.heap.size) :
  Calls Tryz.prog 229 #[v,.int .i32 r] w fun e w'=>∃ v',e=.returned v'/\w'.ownsRow B 5 1 v' (n+3) (xs++[.int .u8 (224+r / 4096),.int .u8 (128+r / 64 % 64),.int .u8 (128+r % 64)])/\∃ o,(w.alloc o).grownBy w' v.ownBlock:=by
 obtain⟨i0,hi,hz0,hz1,hz2⟩:=info_parts jE;go_enter Tryz.func229,Tryz.ntmps229
 go_wp2_with (at_builtin;refine wpList_append_own _ rfl _ _ 256 rfl B 5 i0 (.int .u8 0) 1 1 Tryz.underlying256 hi hz0 hz1 hz2 rfl dZ _ _ _ rfl (hown.alloc _) ⟨w.heap.size,0,none⟩ 3 3 [.int .u8 (224+r / 4096),.int .u8 (128+r / 64 % 64),.int .u8 (128+r % 64)] rfl rfl ?c1 ?c2 ?c3 ?c4 ?c5 ?_)
 case c1 =>
  intro j u hj;match j,hj with
  | 0,hj=>simp at hj;subst hj;simp[Addr.add]
  | 1,hj=>simp at hj;subst hj;simp[Addr.add]
  | 2,hj=>simp at hj;subst hj;simp[Addr.add]
  | (j+3),hj=>simp at hj
 case c2=>intro u hu;simp at hu;rcases hu with rfl | rfl | rfl <;> rfl
 case c3=>unfold maxLen;omega
 case c4=>omega
 case c5=>simp;omega
 intro v' w2 hown' hgrow _;go_wp2
 go_ret;exact⟨_,rfl,hown',_,hgrow⟩
theorem uA (B:Nat) (v:Value) (n:Nat) (xs:List Value) (r:Int) (h0:57343<r) (h1:r<=65535) (w:World) (hown:w.ownsRow B 5 1 v n xs) (hlen:n+4<=140737488355328) (hBw:B<=w.heap.size) :
  Calls Tryz.prog 229 #[v,.int .i32 r] w fun e w'=>∃ v',e=.returned v'/\w'.ownsRow B 5 1 v' (n+3) (xs++[.int .u8 (224+r / 4096),.int .u8 (128+r / 64 % 64),.int .u8 (128+r % 64)])/\∃ o,(w.alloc o).grownBy w' v.ownBlock:=by
 obtain⟨i0,hi,hz0,hz1,hz2⟩:=info_parts jE;go_enter Tryz.func229,Tryz.ntmps229
 go_wp2_with (at_builtin;refine wpList_append_own _ rfl _ _ 256 rfl B 5 i0 (.int .u8 0) 1 1 Tryz.underlying256 hi hz0 hz1 hz2 rfl dZ _ _ _ rfl (hown.alloc _) ⟨w.heap.size,0,none⟩ 3 3 [.int .u8 (224+r / 4096),.int .u8 (128+r / 64 % 64),.int .u8 (128+r % 64)] rfl rfl ?c1 ?c2 ?c3 ?c4 ?c5 ?_)
 case c1 =>
  intro j u hj;match j,hj with
  | 0,hj=>simp at hj;subst hj;simp[Addr.add]
  | 1,hj=>simp at hj;subst hj;simp[Addr.add]
  | 2,hj=>simp at hj;subst hj;simp[Addr.add]
  | (j+3),hj=>simp at hj
 case c2=>intro u hu;simp at hu;rcases hu with rfl | rfl | rfl <;> rfl
 case c3=>unfold maxLen;omega
 case c4=>omega
 case c5=>simp;omega
 intro v' w2 hown' hgrow _;go_wp2
 go_ret;exact⟨_,rfl,hown',_,hgrow⟩
theorem AX (B:Nat) (v:Value) (n:Nat) (xs:List Value) (r:Int) (h0:65536<=r) (h1:r<=1114111) (w:World) (hown:w.ownsRow B 5 1 v n xs) (hlen:n+4<=140737488355328) (hBw:B<=w.heap.size) :
  Calls Tryz.prog 229 #[v,.int .i32 r] w fun e w'=>∃ v',e=.returned v'/\w'.ownsRow B 5 1 v' (n+4) (xs++[.int .u8 (240+r / 262144),.int .u8 (128+r / 4096 % 64),.int .u8 (128+r / 64 % 64),.int .u8 (128+r % 64)])/\∃ o,(w.alloc o).grownBy w' v.ownBlock:=by
 obtain⟨i0,hi,hz0,hz1,hz2⟩:=info_parts jE;go_enter Tryz.func229,Tryz.ntmps229
 go_wp2_with (at_builtin;refine wpList_append_own _ rfl _ _ 256 rfl B 5 i0 (.int .u8 0) 1 1 Tryz.underlying256 hi hz0 hz1 hz2 rfl dZ _ _ _ rfl (hown.alloc _) ⟨w.heap.size,0,none⟩ 4 4 [.int .u8 (240+r / 262144),.int .u8 (128+r / 4096 % 64),.int .u8 (128+r / 64 % 64),.int .u8 (128+r % 64)] rfl rfl ?c1 ?c2 ?c3 ?c4 ?c5 ?_)
 case c1 =>
  intro j u hj;match j,hj with
  | 0,hj=>simp at hj;subst hj;simp[Addr.add]
  | 1,hj=>simp at hj;subst hj;simp[Addr.add]
  | 2,hj=>simp at hj;subst hj;simp[Addr.add]
  | 3,hj=>simp at hj;subst hj;simp[Addr.add]
  | (j+4),hj=>simp at hj
 case c2=>intro u hu;simp at hu;rcases hu with rfl | rfl | rfl | rfl <;> rfl
 case c3=>unfold maxLen;omega
 case c4=>omega
 case c5=>simp;omega
 intro v' w2 hown' hgrow _;go_wp2
 go_ret;exact⟨_,rfl,hown',_,hgrow⟩
theorem vQ (B:Nat) (v:Value) (n:Nat) (xs:List Value) (r:Int) (h0:-2147483648<=r) (h1:r<0) (w:World) (hown:w.ownsRow B 5 1 v n xs) (hlen:n+4<=140737488355328) (hBw:B<=w.heap.size) :
    Calls Tryz.prog 229 #[v,.int .i32 r] w fun e w'=>∃ v',e=.returned v'/\w'.ownsRow B 5 1 v' (n+3) (xs++[.int .u8 (239),.int .u8 (191),.int .u8 (189)])/\∃ o,(w.alloc o).grownBy w' v.ownBlock:=by
  obtain⟨i0,hi,hz0,hz1,hz2⟩:=info_parts jE;go_enter Tryz.func229,Tryz.ntmps229
  go_wp2_with (at_builtin;refine wpList_append_own _ rfl _ _ 256 rfl B 5 i0 (.int .u8 0) 1 1 Tryz.underlying256 hi hz0 hz1 hz2 rfl dZ _ _ _ rfl (hown.alloc _) ⟨w.heap.size,0,none⟩ 3 3 [.int .u8 (239),.int .u8 (191),.int .u8 (189)] rfl rfl ?c1 ?c2 ?c3 ?c4 ?c5 ?_)
  all_goals first
    | (intro v' w2 hown' hgrow _;go_wp2;go_ret;exact⟨_,rfl,hown',_,hgrow⟩)
    | (unfold maxLen;omega)
    | omega
    | (simp;omega)
    | exact⟨rfl,rfl,rfl⟩
    | (intro u hu;simp at hu;rcases hu with rfl | rfl | rfl <;> rfl)
    | (intro j u hj
       match j,hj with
       | 0,hj=>simp at hj;subst hj;simp[Addr.add]
       | 1,hj=>simp at hj;subst hj;simp[Addr.add]
       | 2,hj=>simp at hj;subst hj;simp[Addr.add]
       | (j+3),hj=>simp at hj)
theorem vY (B:Nat) (v:Value) (n:Nat) (xs:List Value) (r:Int) (h0:55296<=r) (h1:r<=57343) (w:World) (hown:w.ownsRow B 5 1 v n xs) (hlen:n+4<=140737488355328) (hBw:B<=w.heap.size) :
    Calls Tryz.prog 229 #[v,.int .i32 r] w fun e w'=>∃ v',e=.returned v'/\w'.ownsRow B 5 1 v' (n+3) (xs++[.int .u8 (239),.int .u8 (191),.int .u8 (189)])/\∃ o,(w.alloc o).grownBy w' v.ownBlock:=by
  obtain⟨i0,hi,hz0,hz1,hz2⟩:=info_parts jE;go_enter Tryz.func229,Tryz.ntmps229
  go_wp2_with (at_builtin;refine wpList_append_own _ rfl _ _ 256 rfl B 5 i0 (.int .u8 0) 1 1 Tryz.underlying256 hi hz0 hz1 hz2 rfl dZ _ _ _ rfl (hown.alloc _) ⟨w.heap.size,0,none⟩ 3 3 [.int .u8 (239),.int .u8 (191),.int .u8 (189)] rfl rfl ?c1 ?c2 ?c3 ?c4 ?c5 ?_)
  all_goals first
    | (intro v' w2 hown' hgrow _;go_wp2;go_ret;exact⟨_,rfl,hown',_,hgrow⟩)
    | (unfold maxLen;omega)
    | omega
    | (simp;omega)
    | exact⟨rfl,rfl,rfl⟩
    | (intro u hu;simp at hu;rcases hu with rfl | rfl | rfl <;> rfl)
    | (intro j u hj
       match j,hj with
       | 0,hj=>simp at hj;subst hj;simp[Addr.add]
       | 1,hj=>simp at hj;subst hj;simp[Addr.add]
       | 2,hj=>simp at hj;subst hj;simp[Addr.add]
       | (j+3),hj=>simp at hj)
theorem wm (B:Nat) (v:Value) (n:Nat) (xs:List Value) (r:Int) (h0:1114111<r) (h1:r<=2147483647) (w:World) (hown:w.ownsRow B 5 1 v n xs) (hlen:n+4<=140737488355328) (hBw:B<=w.heap.size) :
    Calls Tryz.prog 229 #[v,.int .i32 r] w fun e w'=>∃ v',e=.returned v'/\w'.ownsRow B 5 1 v' (n+3) (xs++[.int .u8 (239),.int .u8 (191),.int .u8 (189)])/\∃ o,(w.alloc o).grownBy w' v.ownBlock:=by
  obtain⟨i0,hi,hz0,hz1,hz2⟩:=info_parts jE;go_enter Tryz.func229,Tryz.ntmps229
  go_wp2_with (at_builtin;refine wpList_append_own _ rfl _ _ 256 rfl B 5 i0 (.int .u8 0) 1 1 Tryz.underlying256 hi hz0 hz1 hz2 rfl dZ _ _ _ rfl (hown.alloc _) ⟨w.heap.size,0,none⟩ 3 3 [.int .u8 (239),.int .u8 (191),.int .u8 (189)] rfl rfl ?c1 ?c2 ?c3 ?c4 ?c5 ?_)
  all_goals first
    | (intro v' w2 hown' hgrow _;go_wp2;go_ret;exact⟨_,rfl,hown',_,hgrow⟩)
    | (unfold maxLen;omega)
    | omega
    | (simp;omega)
    | exact⟨rfl,rfl,rfl⟩
    | (intro u hu;simp at hu;rcases hu with rfl | rfl | rfl <;> rfl)
    | (intro j u hj
       match j,hj with
       | 0,hj=>simp at hj;subst hj;simp[Addr.add]
       | 1,hj=>simp at hj;subst hj;simp[Addr.add]
       | 2,hj=>simp at hj;subst hj;simp[Addr.add]
       | (j+3),hj=>simp at hj)
theorem zo (B:Nat) (v:Value) (n:Nat) (xs:List Value) (r:Int) (h0:0<=r) (h1:r<=127) (w:World) (hown:w.ownsRow B 5 1 v n xs) (hlen:n+4<=140737488355328) (hBw:B<=w.heap.size) :
  Calls Tryz.prog 222 #[v,.int .i32 r] w fun e w'=>∃ v',e=.returned v'/\w'.ownsRow B 5 1 v' (n+1) (xs++[.int .u8 r])/\∃ o,(w.alloc o).grownBy w' v.ownBlock:=by
 obtain⟨i0,hi,hz0,hz1,hz2⟩:=info_parts jE;have hm:n+1<=maxLen:=by unfold maxLen;omega
 go_enter Tryz.func222,Tryz.ntmps222
 go_wp2_with (at_builtin;refine wpList_append_own _ rfl _ _ 256 rfl B 5 i0 (.int .u8 0) 1 1 Tryz.underlying256 hi hz0 hz1 hz2 rfl dZ _ _ _ rfl (hown.alloc _) ⟨w.heap.size,0,none⟩ 1 1 [.int .u8 r] rfl rfl one_cell vZ hm oZ uZ ?_)
 intro v' w2 hown' hgrow _;go_wp2
 go_ret;exact⟨_,rfl,hown',_,hgrow⟩
theorem cells_one {r:Int} (h0:0<=r) (h1:r<=127):dI (encR (dH r))=[.int .u8 r]:=by
 obtain⟨n,rfl⟩:=Int.eq_ofNat_of_zero_le h0;have h:gI n:=by unfold gI;omega
 rw[show ((n:Nat):Int)=Int.ofNat n from rfl] at *;rw[show dH (Int.ofNat n)=n from gK h];have a:n<128:=by simp only[Int.ofNat_eq_natCast] at h1;omega
 simp[dI,encR,a]
theorem GV {r:Int} (h0:128<=r) (h1:r<=2047):dI (encR (dH r))=[.int .u8 (192+r / 64),.int .u8 (128+r % 64)]:=by
 obtain⟨n,rfl⟩:=Int.eq_ofNat_of_zero_le (by omega:0<=r);have h:gI n:=by unfold gI;omega
 rw[gK h];have a:¬ n<128:=oZ;have b:n<2048:=oZ;simp[dI,encR,a,b]
theorem tT {r:Int} (h:(2048<=r/\r<55296)∨(57343<r/\r<=65535)):dI (encR (dH r))=[.int .u8 (224+r / 4096),.int .u8 (128+r / 64 % 64),.int .u8 (128+r % 64)]:=by
 obtain⟨n,rfl⟩:=Int.eq_ofNat_of_zero_le (by omega:0<=r);have hk:gI n:=by unfold gI;omega
 rw[gK hk];have a:¬ n<128:=oZ;have b:¬ n<2048:=oZ;have c:n<65536:=oZ;simp[dI,encR,a,b,c]
theorem Dw {r:Int} (h0:65536<=r) (h1:r<=1114111):dI (encR (dH r))=[.int .u8 (240+r / 262144),.int .u8 (128+r / 4096 % 64),.int .u8 (128+r / 64 % 64),.int .u8 (128+r % 64)]:=by
 obtain⟨n,rfl⟩:=Int.eq_ofNat_of_zero_le (by omega:0<=r);have hk:gI n:=by unfold gI;omega
 rw[gK hk];have a:¬ n<128:=oZ;have b:¬ n<2048:=oZ;have c:¬ n<65536:=oZ;simp[dI,encR,a,b,c]
theorem sH {r:Int} (h:r<0∨(55296<=r/\r<=57343)∨1114111<r):dI (encR (dH r))=[.int .u8 239,.int .u8 191,.int .u8 189]:=by
 have hk:¬ (0<=r/\gI r.toNat):=by unfold gI;omega
 unfold dH;rw[if_neg hk];rfl
theorem yF (B:Nat) (v:Value) (n:Nat) (xs:List Value) (r:Int) (hr0:-2147483648<=r) (hr1:r<=2147483647) (hna:r<0∨128<=r) (w:World) (hown:w.ownsRow B 5 1 v n xs) (hlen:n+4<=140737488355328) (hBw:B<=w.heap.size) :
  Calls Tryz.prog 229 #[v,.int .i32 r] w fun e w'=>∃ v',e=.returned v'/\w'.ownsRow B 5 1 v' (n+(encR (dH r)).length) (xs++dI (encR (dH r)))/\∃ o,(w.alloc o).grownBy w' v.ownBlock:=by
 rw[<- iP];by_cases c0:r<0
 ·rw[sH (Or.inl c0)];exact vQ B v n xs r hr0 c0 w hown hlen hBw
 by_cases c1:r<=2047
 ·rw[GV oZ c1];exact El B v n xs r oZ c1 w hown hlen hBw
 by_cases c2:r<55296
 ·rw[tT (Or.inl ⟨oZ,c2⟩)];exact uF B v n xs r oZ c2 w hown hlen hBw
 by_cases c3:r<=57343
 ·rw[sH (Or.inr (Or.inl ⟨oZ,c3⟩))];exact vY B v n xs r oZ c3 w hown hlen hBw
 by_cases c4:r<=65535
 ·rw[tT (Or.inr ⟨oZ,c4⟩)];exact uA B v n xs r oZ c4 w hown hlen hBw
 by_cases c5:r<=1114111
 ·rw[Dw oZ c5];exact AX B v n xs r oZ c5 w hown hlen hBw
 ·rw[sH (Or.inr (Or.inr oZ))];exact wm B v n xs r oZ hr1 w hown hlen hBw
theorem Dv (B:Nat) (v:Value) (n:Nat) (xs:List Value) (r:Int) (hr0:-2147483648<=r) (hr1:r<=2147483647) (hna:r<0∨128<=r) (w:World) (hown:w.ownsRow B 5 1 v n xs) (hlen:n+4<=140737488355328) (hBw:B<=w.heap.size) :
  Calls Tryz.prog 222 #[v,.int .i32 r] w fun e w'=>∃ v',e=.returned v'/\w'.ownsRow B 5 1 v' (n+(encR (dH r)).length) (xs++dI (encR (dH r)))/\∃ o,(w.alloc o).grownBy w' v.ownBlock:=by
 have HA:=hJ (yF B v n xs r hr0 hr1 hna w hown hlen hBw);clear hown;rcases hna with hna | hna
 all_goals
  go_enter Tryz.func222,Tryz.ntmps222
  go_wp2_with fail
  refine HA.out.mono ?_;rintro e w1 ⟨v',rfl,h1,o,h2⟩;go_wp2
  go_ret;exact⟨_,rfl,h1,o,h2⟩
theorem BA (B:Nat) (v:Value) (n:Nat) (xs:List Value) (r:Int) (hr0:-2147483648<=r) (hr1:r<=2147483647) (w:World) (hown:w.ownsRow B 5 1 v n xs) (hlen:n+4<=140737488355328) (hBw:B<=w.heap.size) :
  Calls Tryz.prog 222 #[v,.int .i32 r] w fun e w'=>∃ v',e=.returned v'/\w'.ownsRow B 5 1 v' (n+(encR (dH r)).length) (xs++dI (encR (dH r)))/\∃ o,(w.alloc o).grownBy w' v.ownBlock:=by
 by_cases c:0<=r/\r<=127
 ·rw[<- iP,cells_one c.1 c.2];exact zo B v n xs r c.1 c.2 w hown hlen hBw
 ·exact Dv B v n xs r hr0 hr1 oZ w hown hlen hBw
theorem rQ (B b:Nat) (l:List Nat) (r:Int) (hr0:-2147483648<=r) (hr1:r<=2147483647) (w:World) (h:IsBuilder 308 5 B b (dI l) w) (hlen:l.length+4<=140737488355328) (hBw:B<=w.heap.size) :
  Calls Tryz.prog 206 #[.pointer (some ⟨b,0,none⟩),.int .i32 r] w fun e w'=>∃ v,e=.returned v/\IsBuilder 308 5 B b (dI (l++encR (dH r))) w'/\Below B w w'/\OthersKept 5 (some b) w w':=by
 have hk4:=DK (dH r);have HC:=hJ (wU B b (dI l) w h);clear h;go_enter Tryz.func206,Tryz.ntmps206
 go_wp2_with fail
 refine HC.out.mono ?_;rintro e w1 ⟨rfl,h1,hb1,hk1⟩;obtain⟨hB,v,hbk,hown,hne⟩:=h1;rw[iP] at hown
 obtain⟨ao,cap,rfl⟩:∃ ao cap,v=.slice ao l.length cap:=by
  rcases hown.2 with ⟨hv,h0⟩ | ⟨g,cap,cur,hv,_⟩
  ·exact⟨none,0,by rw[hv,h0]⟩
  ·exact⟨_,_,hv⟩
 have c1:w1.cell? ⟨b,1,none⟩=some (.slice ao l.length cap):=by rw[Lib.cell_of_heap hbk];rfl
 have HA:=hJ (BA B _ l.length (dI l) r hr0 hr1 w1 hown hlen (by have:=hb1.size;omega));have HO:=hJ hown;have HB:=hJ hbk;have HN:=hJ hne;clear hown hbk hne HC;go_wp2_with fail
 refine HA.out.mono ?_;rintro e w2 ⟨v',rfl,hown',o,hgrow⟩;have hlt:b<w1.heap.size:=lt_of_heap HB.out
 have hb2:w2.heap[b]?=some (.cells #[.pointer (some ⟨b,0,none⟩),.slice ao l.length cap] 308 (0,0)):=by
  rw[hgrow.block b uZ (fun e=>HN.out e.symm),Lib.alloc_old w1 _ b hlt];exact HB.out
 have d1:w2.cell? ⟨b,1,none⟩=some (.slice ao l.length cap):=by rw[Lib.cell_of_heap hb2];rfl
 have f1:w2.frozen? ⟨b,1,none⟩=false:=Lib.frozen_of_heap hb2 1
 obtain⟨g,cap',rfl⟩:∃ g cap',v'=.slice g (l.length+(encR (dH r)).length) cap':=by
  rcases hown'.2 with ⟨hv,h0⟩ | ⟨g,cap',cur,hv,_⟩
  ·exact⟨none,0,by rw[hv,h0]⟩
  ·exact⟨_,cap',hv⟩
 have HP:=hJ (BuilderAt.put (T:=308) (e:=5) hB hb2 (bs':=dI (l++encR (dH r))) (by simpa [xh,iP] using hown') dZ);have HW:=hJ (((hb1.alloc (by have:=hb1.size;omega) o).grown hgrow (by have:=hb1.size;simp;omega) (fun k hk=>(HO.out.lt k hk).1)).setCell (p:=⟨b,1,none⟩) hB (.slice g (l.length+(encR (dH r)).length) cap'));have HK:=hJ (((hk1.alloc o).grown hgrow (Lib.ownsRow_kind (HO.out.alloc _))).setCell ⟨b,1,none⟩ rfl (.slice g (l.length+(encR (dH r)).length) cap'));clear hown' hgrow hb2 HA HO HB HN hb1 hk1;go_wp2_with fail
 go_ret2
 exact⟨_,rfl,Or.inr HP.out,HW.out,HK.out⟩
theorem AB (B b:Nat) (bs:List Value) (w:World) (h:IsBuilder 308 5 B b bs w) :
  Calls Tryz.prog 204 #[.pointer (some ⟨b,0,none⟩)] w fun e w'=>e=.returned (.int .i64 bs.length)/\w'=w:=by
 obtain⟨p,hB,v,hbk,hown,hne⟩:∃ p,BuilderAt 308 5 B b p bs w:=by
  rcases h with h | h
  ·exact⟨_,h⟩
  ·exact⟨_,h⟩
 obtain⟨ao,cap,rfl⟩:∃ ao cap,v=.slice ao bs.length cap:=by
  rcases hown.2 with ⟨hv,h0⟩ | ⟨g,cap,cur,hv,_⟩
  ·exact⟨none,0,by rw[hv,h0]⟩
  ·exact⟨_,_,hv⟩
 have c1:w.cell? ⟨b,1,none⟩=some (.slice ao bs.length cap):=by rw[Lib.cell_of_heap hbk];rfl
 clear hbk hown hne;go_enter Tryz.func204,Tryz.ntmps204
 go_wp2_with fail
 go_ret;exact⟨rfl,rfl⟩
theorem zm (l:List Nat) (h:∀ b∈l,b<256):byteCells (l.map UInt8.ofNat)=dI l:=by
 simp only[byteCells,dI,List.map_map];apply List.map_congr_left;intro b hb;have:=h b hb;simp;omega
theorem FC (B b:Nat) (l:List UInt8) (w:World) (h:IsBuilder 308 5 B b (byteCells l) w) (h0:l≠[]) :
  Calls Tryz.prog 207 #[.pointer (some ⟨b,0,none⟩)] w fun e w'=>e=.returned (.string ⟨l.toArray⟩)/\Below B w w':=by
 obtain⟨p,hB,v,hbk,hown,hne⟩:∃ p,BuilderAt 308 5 B b p (byteCells l) w:=by
  rcases h with h | h
  ·exact⟨_,h⟩
  ·exact⟨_,h⟩
 rw[Lib.byteCells_length] at hown;have hl:l.length≠0:=by simpa using h0
 obtain⟨g,cap,cur,rfl,hbg,hg,hnc,hcm,hcs,_⟩:∃ g cap cur,v=.slice (some ⟨g,0,none⟩) l.length cap/\B<=g/\w.heap[g]?=some (.cells cur 5 (0,0))/\l.length<=cap/\cap<=maxLen/\cur.size=cap*1/\cur.toList.take (l.length*1)=byteCells l:=by
  rcases hown.2 with ⟨_,h00⟩ | ⟨g,cap,cur,hv,a,b,c,d,e,f⟩
  ·exact absurd h00 hl
  ·exact⟨g,cap,cur,hv,a,b,c,d,e,f⟩
 have c1:w.drew.cell? ⟨b,1,none⟩=some (.slice (some ⟨g,0,none⟩) l.length cap):=by
  have:w.drew.heap[b]?=some (.cells #[p,.slice (some ⟨g,0,none⟩) l.length cap] 308 (0,0)):=hbk;rw[Lib.cell_of_heap this];rfl
 have hSD:(Builtin.unsafeSliceData_ #[256] 328 #[.slice (some ⟨g,0,none⟩) l.length cap]).run Tryz.prog w.drew=.ok (.pointer (some ⟨g,0,none⟩)) w.drew :=
  Lib.run_unsafeSliceData_row _ _ _ _ _ _ oZ
 have hUS:(Builtin.unsafeString_ #[328,3] 9 #[.pointer (some ⟨g,0,none⟩),.int .i64 l.length]).run Tryz.prog w.drew=.ok (.string ⟨l.toArray⟩) (w.drew.freeze ⟨g,0,none⟩ l.length):=by
  refine Lib.run_unsafeString_row w.drew 328 3 9 5 Tryz.underlying328 Dm g cur.size (by have hg':w.drew.heap[g]?=some (.cells cur 5 (0,0)):=hg;simp[World.shape?,hg']) l h0 oZ (by unfold maxLen at hcm;omega) ?_;intro j x hx;have:=hown.cells (g:=g) rfl j (.int .u8 x.toNat) (by simp[byteCells,hx]);exact this
 go_enter Tryz.func207,Tryz.ntmps207
 go_wp2
 go_region
 all_goals (go_wp2;go_ret;exact⟨rfl,Lib.below_freeze (Below.drew (Below.refl B w)) (p:=⟨g,0,none⟩) hbg _⟩)
theorem Ga (B b:Nat) (w:World) (h:IsBuilder 308 5 B b [] w) (hBw:B<=w.heap.size) :
  Calls Tryz.prog 207 #[.pointer (some ⟨b,0,none⟩)] w fun e w'=>e=.returned (.string ⟨#[]⟩)/\Below B w w':=by
 obtain⟨p,hB,v,hbk,hown,hne⟩:∃ p,BuilderAt 308 5 B b p [] w:=by
  rcases h with h | h
  ·exact⟨_,h⟩
  ·exact⟨_,h⟩
 have hUS:∀ (W:World) (q:Option Addr),(Builtin.unsafeString_ #[328,3] 9 #[.pointer q,.int .i64 0]).run Tryz.prog W=.ok (.string .empty) W:=fun W q=>Lib.run_unsafeString_none W _ _ _ q;rcases hown.2 with ⟨rfl,_⟩ | ⟨g,cap,cur,rfl,hbg,hg,_,_,_,_⟩
 ·have c1:w.drew.cell? ⟨b,1,none⟩=some (.slice none 0 0):=by
   have:w.drew.heap[b]?=some (.cells #[p,.slice none 0 0] 308 (0,0)):=hbk;rw[Lib.cell_of_heap this];rfl
  have hSD:(Builtin.unsafeSliceData_ #[256] 328 #[.slice none 0 0]).run Tryz.prog w.drew=.ok (.pointer none) w.drew:=rfl;go_enter Tryz.func207,Tryz.ntmps207
  go_wp2
  go_region
  all_goals (go_wp2;go_ret;exact⟨rfl,Below.drew (Below.refl B w)⟩)
 ·by_cases hc0:cap=0
  ·subst hc0;have hlt:b<w.heap.size:=lt_of_heap hbk
   have c1:w.drew.cell? ⟨b,1,none⟩=some (.slice (some ⟨g,0,none⟩) 0 0):=by
    have:w.drew.heap[b]?=some (.cells #[p,.slice (some ⟨g,0,none⟩) 0 0] 308 (0,0)):=hbk;rw[Lib.cell_of_heap this];rfl
   have hSD:(Builtin.unsafeSliceData_ #[256] 328 #[.slice (some ⟨g,0,none⟩) 0 0]).run Tryz.prog w.drew=.ok (.pointer (some ⟨w.drew.heap.size,0,none⟩)) (w.drew.alloc (.view ⟨g,0,none⟩ 5)) :=
    Lib.run_unsafeSliceData_zero w.drew _ _ 5 Tryz.underlying328 ⟨g,0,none⟩ 0 (5,cur.size) (by have hg':w.drew.heap[g]?=some (.cells cur 5 (0,0)):=hg;simp[World.shape?,hg'])
   have c2:(w.drew.alloc (.view ⟨g,0,none⟩ 5)).cell? ⟨b,1,none⟩=some (.slice (some ⟨g,0,none⟩) 0 0):=by
    have:(w.drew.alloc (.view ⟨g,0,none⟩ 5)).heap[b]?=_:=(Lib.alloc_old w.drew _ b hlt).trans hbk;rw[Lib.cell_of_heap this];rfl
   have c3:(w.alloc (.view ⟨g,0,none⟩ 5)).drew.cell? ⟨b,1,none⟩=some (.slice (some ⟨g,0,none⟩) 0 0):=c2;have c0:w.cell? ⟨b,1,none⟩=some (.slice (some ⟨g,0,none⟩) 0 0):=c1;go_enter Tryz.func207,Tryz.ntmps207
   go_wp2
   go_region
   all_goals (go_wp2;go_ret;exact⟨rfl,(Below.drew (Below.refl B w)).alloc hBw _⟩)
  ·have c1:w.drew.cell? ⟨b,1,none⟩=some (.slice (some ⟨g,0,none⟩) 0 cap):=by
    have:w.drew.heap[b]?=some (.cells #[p,.slice (some ⟨g,0,none⟩) 0 cap] 308 (0,0)):=hbk;rw[Lib.cell_of_heap this];rfl
   have hSD:(Builtin.unsafeSliceData_ #[256] 328 #[.slice (some ⟨g,0,none⟩) 0 cap]).run Tryz.prog w.drew=.ok (.pointer (some ⟨g,0,none⟩)) w.drew :=
    Lib.run_unsafeSliceData_row _ _ _ _ _ _ hc0
   clear hc0;go_enter Tryz.func207,Tryz.ntmps207
   go_wp2
   go_region
   all_goals (go_wp2;go_ret;exact⟨rfl,Below.drew (Below.refl B w)⟩)
theorem mi (B b:Nat) (l:List Nat) (w:World) (h:IsBuilder 308 5 B b (dI l) w) (hl:∀ x∈l,x<256) (hBw:B<=w.heap.size) :
  Calls Tryz.prog 207 #[.pointer (some ⟨b,0,none⟩)] w fun e w'=>e=.returned (.string (ay l))/\Below B w w':=by
 rw[<- zm l hl] at h;cases l with
 | nil=>exact Ga B b w h hBw
 | cons x r=>exact FC B b ((x :: r).map UInt8.ofNat) w h sZ
theorem wh (B b:Nat) (l:List Nat) (w:World) (h:IsBuilder 308 5 B b (dI l) w) :
  Calls Tryz.prog 204 #[.pointer (some ⟨b,0,none⟩)] w fun e w'=>e=.returned (.int .i64 l.length)/\w'=w:=by
 rw[<- iP l];exact AB B b _ w h
theorem qP {w:World} {B e n k:Nat} {v:Value} {xs:List Value} {s:ByteArray} {pos:Nat} (h:w.ownsRow B e 1 v n xs) (hk:w.heap[k]?=some (.stringIter s pos)) (pos':Nat):(w.iterAt k s pos').ownsRow B e 1 v n xs:=by
 obtain⟨h0,h | ⟨g,cap,cur,h1,h2,h3,h4⟩⟩:=h
 ·exact⟨h0,.inl h⟩
 ·refine⟨h0,.inr ⟨g,cap,cur,h1,h2,(Lib.iterAt_other _ _ _ _ _ ?_).trans h3,h4⟩⟩;rintro rfl;rw[h3] at hk;cases hk
theorem za {B b k:Nat} {bs:List Value} {w:World} {s:ByteArray} {pos:Nat} (h:IsBuilder 308 5 B b bs w) (hk:w.heap[k]?=some (.stringIter s pos)) (pos':Nat):IsBuilder 308 5 B b bs (w.iterAt k s pos'):=by
 have go:∀ p,BuilderAt 308 5 B b p bs w->BuilderAt 308 5 B b p bs (w.iterAt k s pos'):=by
  rintro p ⟨hB,v,hb,hown,hne⟩;refine⟨hB,v,(Lib.iterAt_other _ _ _ _ _ ?_).trans hb,qP hown hk pos',hne⟩;rintro rfl;rw[hb] at hk;cases hk
 exact h.elim (fun x=>.inl (go _ x)) (fun x=>.inr (go _ x))
theorem wY {B b:Nat} {bs:List Value} {w:World} (h:IsBuilder 308 5 B b bs w) (o:Obj):IsBuilder 308 5 B b bs (w.alloc o):=by
 have go:∀ p,BuilderAt 308 5 B b p bs w->BuilderAt 308 5 B b p bs (w.alloc o):=by
  rintro p ⟨hB,v,hb,hown,hne⟩;exact⟨hB,v,(Lib.alloc_old _ _ _ (lt_of_heap hb)).trans hb,hown.alloc o,hne⟩
 exact h.elim (fun x=>.inl (go _ x)) (fun x=>.inr (go _ x))
end Go.Proofs.YtafaohnhlgcnpaaGreatDoor
