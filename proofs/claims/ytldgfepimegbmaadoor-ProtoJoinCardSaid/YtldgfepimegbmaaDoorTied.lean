/-
  What a law that reads package-level variables needs beyond the rest: the given ties, and the condition on what is laid.
-/
import Derived.Test.YtldgfepimegbmaaDoorCards
import Derived.Test.YtldgfepimegbmaaDoorTie
import Derived.Test.YtldgfepimegbmaaDoorBase
import Derived.Deep.DeepHandedRow
import Derived.Lib.LaidTab
import Derived.Lay
import Derived.MakeChecks
namespace Go.Proofs.YtldgfepimegbmaaDoor
set_option maxRecDepth 100000

end Go.Proofs.YtldgfepimegbmaaDoor
