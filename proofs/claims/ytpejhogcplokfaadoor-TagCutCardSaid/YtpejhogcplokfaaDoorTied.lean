/-
  What a law that reads package-level variables needs beyond the rest: the given ties, and the condition on what is laid.
-/
import Derived.Test.YtpejhogcplokfaaDoorCards
import Derived.Test.YtpejhogcplokfaaDoorTie
import Derived.Test.YtpejhogcplokfaaDoorBase
import Derived.Deep.DeepHandedRow
import Derived.Lib.LaidTab
import Derived.Lay
import Derived.MakeChecks
namespace Go.Proofs.YtpejhogcplokfaaDoor
end Go.Proofs.YtpejhogcplokfaaDoor
