/- The contract of the chapter's runs. -/

import Derived.Test.YtabhnhodhbpmmaaRows
import Derived.Test.YtabhnhodhbpmmaaLew
import Derived.WalkKit
import Derived.ProofKit
import Derived.OpenShut
import Derived.ShutString
import Derived.ChangeOld
import Derived.Below
namespace Go.Proofs.Ytabhnhodhbpmmaa
open Go.ChangeShapes Go.WideShapes Go.ChangeAt Go.RowKit
open Go.ChangeMaps (open_string shut_string)
set_option linter.unusedVariables false
theorem runs_any (w : World) : Calls Try.prog 3 #[] w fun e w' => e = .returned (.bool true) ∧ Below w.heap.size w w' :=
  Go.Lev.run_true (P := Try.prog) (fuel := 5000) (by kernel_rfl) w
end Go.Proofs.Ytabhnhodhbpmmaa
