/- ThreadLimits: its runs with 0 programs -/
import Derived.Test.YtcgkfbdbbfpofaaGreatDoorCT3
import Derived.Test.YtcgkfbdbbfpofaaGreatDoorLc
import Derived.Test.YtcgkfbdbbfpofaaGreatDoorChecked
import Derived.KernelRfl
import Derived.Test.YtcgkfbdbbfpofaaGreatDoorLc
namespace Go.Lev
set_option linter.unusedSimpArgs false
set_option linter.unusedVariables false
open Go.RowKit
open Go.Proofs.Tryz (prog)
set_option maxRecDepth 100000
noncomputable section
theorem tr0a (q:Nat):okE (lsp prog (ctrOf cxr) 20000 137 ((sp prog 3).drop 7) (mkTm 137 (tlT (Int.ofNat (q+4)) 0)) (mkS tlH gtab))=true:=by kernel_rfl
theorem tr0b (q:Nat):okE (lsp prog (ctrOf cxr) 20000 137 ((sp prog 3).drop 7) (mkTm 137 (tlT (Int.negSucc q) 0)) (mkS tlH gtab))=true:=by kernel_rfl
theorem tr00:okE (lsp prog (ctrOf cxr) 20000 137 ((sp prog 3).drop 7) (mkTm 137 (tlT 0 0)) (mkS tlH gtab))=true:=by kernel_rfl
theorem tr01:okE (lsp prog (ctrOf cxr) 20000 137 ((sp prog 3).drop 7) (mkTm 137 (tlT 1 0)) (mkS tlH gtab))=true:=by kernel_rfl
theorem tr02:okE (lsp prog (ctrOf cxr) 20000 137 ((sp prog 3).drop 7) (mkTm 137 (tlT 2 0)) (mkS tlH gtab))=true:=by kernel_rfl
theorem tr03:okE (lsp prog (ctrOf cxr) 20000 137 ((sp prog 3).drop 7) (mkTm 137 (tlT 3 0)) (mkS tlH gtab))=true:=by kernel_rfl
end
end Go.Lev
