/-
 What stage 12 rests on.
-/
import Derived.Test.YtlfndoclbebdaaaGreatDoorWrErA1
import Derived.Test.YtlfndoclbebdaaaGreatDoorWrErB3
import Derived.Deep.Slices
import Derived.Test.YtlfndoclbebdaaaGreatDoorWrErB2
set_option maxRecDepth 100000
set_option maxHeartbeats 16000000
namespace Go.Proofs.YtlfndoclbebdaaaGreatDoor
open Go.ChangeShapes Go.WideShapes Go.ChangeAt Go.RowKit Go.Deep
end Go.Proofs.YtlfndoclbebdaaaGreatDoor
namespace Go.Proofs.YtlfndoclbebdaaaGreatDoor
open Go.ChangeShapes Go.WideShapes Go.ChangeAt Go.RowKit Go.Deep
end Go.Proofs.YtlfndoclbebdaaaGreatDoor
namespace Go.Proofs.YtlfndoclbebdaaaGreatDoor
open Go.RowKit

end Go.Proofs.YtlfndoclbebdaaaGreatDoor
