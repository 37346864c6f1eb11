/-
  The reference of layer 8: all numbers of a row of bytes. Over the program's own text.
-/
import Derived.Test.YtpmhkmakkeckkaaVlqRef
namespace Go.Proofs.Ytpmhkmakkeckkaa
open Go.RowKit

end Go.Proofs.Ytpmhkmakkeckkaa
