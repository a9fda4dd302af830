/-
  What a law that reads package-level variables needs beyond the rest: the given ties, and the condition on what is laid.
-/
import Derived.Test.YtceomdbahiimlaaDoorCards
import Derived.Test.YtceomdbahiimlaaDoorTie
import Derived.Test.YtceomdbahiimlaaDoorBase
import Derived.Deep.DeepHandedRow
import Derived.Lib.LaidTab
import Derived.Lay
import Derived.MakeChecks
namespace Go.Proofs.YtceomdbahiimlaaDoor
set_option maxRecDepth 100000

end Go.Proofs.YtceomdbahiimlaaDoor
