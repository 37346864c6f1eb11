/-
  Trees in memory beside a reader's: see NodeRd. Over the program's own text.
-/
import Derived.Test.YtaaeooimalglaaaDoorQryLandD
import Derived.Test.YtaaeooimalglaaaDoorNodeRd
