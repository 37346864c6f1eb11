/-
  What package post's landed code keeps: its walk goes as the program walkR does. Over the program's own text.
-/
import Derived.Test.YtiabmbkmahlhkaaPostLandsW
import Derived.Test.YtiabmbkmahlhkaaPostLandsP
import Derived.Test.YtiabmbkmahlhkaaPostLandsN
namespace Go.Proofs.Ytiabmbkmahlhkaa
open Go.RowKit

theorem kept_post : KeptPost walkR where
  put := fun _ _ _ _ _ _ _ _ hrm hf hB hL hU _ _ v0 v1 => lands_put hrm hf hB hL hU v0 v1
  walk := fun B S C T L t hrm hf hB hL h0 h1 => lands_walk B S C T L t hrm hf hB hL h0 h1
  walks := walkR_sure
  need := fun w B S C T L t n hL _ _ n0 n1 => lands_need w B S C T L t n hL n0 n1
end Go.Proofs.Ytiabmbkmahlhkaa
