/- ThreadLimits: the rest of a run behind the cut -/
import Derived.Test.YtcgkfbdbbfpofaaGreatDoorCT6
import Derived.Test.YtcgkfbdbbfpofaaGreatDoorLc
import Derived.Test.YtcgkfbdbbfpofaaGreatDoorChecked
import Derived.KernelRfl
import Derived.Test.YtcgkfbdbbfpofaaGreatDoorLc
namespace Go.Lev
set_option linter.unusedSimpArgs false
set_option linter.unusedVariables false
open Go.RowKit
open Go.Proofs.Tryz (prog)
set_option maxRecDepth 100000
noncomputable section
theorem ts7b (q:Nat) (p:Nat):okE (lsp prog (ctrOf cxr) 20000 137 ((sp prog 3).drop 10) (mkTm 137 ((1,.int .i64 (Int.negSucc q))::tkT (Int.ofNat (p+7)))) (mkS (tkH 0) gtab))=true:=by kernel_rfl
end
end Go.Lev
