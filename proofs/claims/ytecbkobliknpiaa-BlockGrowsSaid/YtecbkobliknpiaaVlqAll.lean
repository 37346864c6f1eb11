/-
  The reference of layer 8: all numbers of a row of bytes. Over the program's own text.
-/
import Derived.Test.YtecbkobliknpiaaVlqRef
namespace Go.Proofs.Ytecbkobliknpiaa
open Go.RowKit

end Go.Proofs.Ytecbkobliknpiaa
