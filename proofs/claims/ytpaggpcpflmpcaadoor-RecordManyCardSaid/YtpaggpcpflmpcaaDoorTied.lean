/-
  What a law that reads package-level variables needs beyond the rest: the given ties, and the condition on what is laid.
-/
import Derived.Test.YtpaggpcpflmpcaaDoorCards
import Derived.Test.YtpaggpcpflmpcaaDoorTie
import Derived.Test.YtpaggpcpflmpcaaDoorBase
import Derived.Deep.DeepHandedRow
import Derived.Lib.LaidTab
import Derived.Lay
import Derived.MakeChecks
namespace Go.Proofs.YtpaggpcpflmpcaaDoor
end Go.Proofs.YtpaggpcpflmpcaaDoor
