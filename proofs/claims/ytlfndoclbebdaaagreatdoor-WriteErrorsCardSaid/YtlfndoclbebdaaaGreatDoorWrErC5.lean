/-
 What stage 12 rests on.
-/
import Derived.Test.YtlfndoclbebdaaaGreatDoorWrErA1
import Derived.Test.YtlfndoclbebdaaaGreatDoorWrErB3
import Derived.Test.YtlfndoclbebdaaaGreatDoorWrErB5
import Derived.Test.YtlfndoclbebdaaaGreatDoorWrErB4
set_option maxRecDepth 100000
set_option maxHeartbeats 16000000
namespace Go.Proofs.YtlfndoclbebdaaaGreatDoor
open Go.RowKit
theorem ut {w:World} {base:Nat} {e:TypeId} {size n:Nat} {xs:List Value} {g cap:Nat} (h:w.ownsRow base e size (.slice (some ⟨g,0,none⟩) n cap) n xs) {i:Nat} (hi:i<n*size) (u:Value) :
  (∃ x,xs[i]?=some x/\w.cell? ⟨g,i,none⟩=some x)/\w.frozen? ⟨g,i,none⟩=false/\(w.setCell ⟨g,i,none⟩ u).ownsRow base e size (.slice (some ⟨g,0,none⟩) n cap) n (xs.set i u):=by
 obtain⟨h0,⟨h,_⟩ | ⟨g',cap',cur,k1,k2,k3,k4,k5,k6,k7⟩⟩:=h
 ·cases h
 ·cases k1
  have hlt:i<xs.length:=oZ
  have hc:cur.toList[i]?=xs[i]?:=by rw[<- k7,List.getElem?_take,if_pos hi]
  refine⟨⟨xs[i],gZ hlt,?_⟩,?_,by rw[List.length_set];exact h0,.inr ⟨g,cap,cur.setIfInBounds i u,rfl,k2,?_,k4,k5,by simpa using k6,?_⟩⟩
  ·rw[ae k3 i,<- gZ hlt,<- hc]
   simp
  ·exact free_at k3 i
  ·rw[heap_setCell_same _ _ _ _ _ _ k3]
  ·rw[Array.toList_setIfInBounds,List.take_set,k7]
theorem same_eq (w:World) (g1 g2 n:Nat) (l:List Int) (t1 t2:TypeId) (hn:n=l.length) (hl:n<=1000000) (h1:w.heap[g1]?=some (.cells (l.map (Value.int .u32)).toArray t1 (0,0))) (h2:w.heap[g2]?=some (.cells (l.map (Value.int .u32)).toArray t2 (0,0))) :
  Calls Tryz.prog 31 #[.slice (some ⟨g1,0,none⟩) n n,.slice (some ⟨g2,0,none⟩) n n] w fun e w'=>e=.returned (.bool true)/\Below w.heap.size w w':=by
 have HH:=hJ (And.intro h1 h2)
 clear h1 h2
 have HN:=hJ hn
 clear hn
 go_enter Tryz.func31,Tryz.ntmps31
 go_wp2_with fail
 go_loopw [13] (fun i wr=>∃ i':Nat,i'<=n/\i=.int .i64 i'/\∃ m,wr=w.drewN m) (fun i _=>n-(intOf i).toNat)
 case atStart=>exact⟨0,oZ,rfl,0,rfl⟩
 case round =>
  obtain⟨i,hi,rfl,m,rfl⟩:=hrel
  by_cases hlt:i<n
  ·obtain⟨z,hz⟩:∃ z,l[i]?=some z:=⟨_,gZ (by have:=HN.out;omega)⟩
   have c1:=Ej HH.out.1 hz
   have c2:=Ej HH.out.2 hz
   have hlt1:(i:Int)<(n:Int):=oZ
   clear hz
   go_wp2_with fail
   go_quiet (fail)
   go_wp2_with fail
   go_roundw
   case rel=>exact⟨i+1,oZ,by go_num,_,rfl⟩
   case measure=>simp[intOf];omega
  ·go_wp2_with fail
   go_ret
   exact⟨rfl,fG (Below.refl _ _) _⟩

end Go.Proofs.YtlfndoclbebdaaaGreatDoor
