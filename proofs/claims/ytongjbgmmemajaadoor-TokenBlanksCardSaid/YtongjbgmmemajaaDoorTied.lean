/-
  What a law that reads package-level variables needs beyond the rest: the given ties, and the condition on what is laid.
-/
import Derived.Test.YtongjbgmmemajaaDoorCards
import Derived.Test.YtongjbgmmemajaaDoorTie
import Derived.Test.YtongjbgmmemajaaDoorBase
import Derived.Deep.DeepHandedRow
import Derived.Lib.LaidTab
import Derived.Lay
import Derived.MakeChecks
namespace Go.Proofs.YtongjbgmmemajaaDoor
end Go.Proofs.YtongjbgmmemajaaDoor
