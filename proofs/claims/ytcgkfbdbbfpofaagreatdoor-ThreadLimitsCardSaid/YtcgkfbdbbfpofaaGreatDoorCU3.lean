/- ThreadLimits: its runs with 3 programs -/
import Derived.Test.YtcgkfbdbbfpofaaGreatDoorCT3
import Derived.Test.YtcgkfbdbbfpofaaGreatDoorLc
import Derived.Test.YtcgkfbdbbfpofaaGreatDoorChecked
import Derived.KernelRfl
import Derived.Test.YtcgkfbdbbfpofaaGreatDoorLc
namespace Go.Lev
set_option linter.unusedSimpArgs false
set_option linter.unusedVariables false
open Go.RowKit
open Go.Proofs.Tryz (prog)
set_option maxRecDepth 100000
noncomputable section
theorem tr3a (q:Nat):okE (lsp prog (ctrOf cxr) 20000 137 ((sp prog 3).drop 7) (mkTm 137 (tlT (Int.ofNat (q+4)) 3)) (mkS tlH gtab))=true:=by kernel_rfl
theorem tr3b (q:Nat):okE (lsp prog (ctrOf cxr) 20000 137 ((sp prog 3).drop 7) (mkTm 137 (tlT (Int.negSucc q) 3)) (mkS tlH gtab))=true:=by kernel_rfl
theorem tr30:okE (lsp prog (ctrOf cxr) 20000 137 ((sp prog 3).drop 7) (mkTm 137 (tlT 0 3)) (mkS tlH gtab))=true:=by kernel_rfl
theorem tr31:okE (lsp prog (ctrOf cxr) 20000 137 ((sp prog 3).drop 7) (mkTm 137 (tlT 1 3)) (mkS tlH gtab))=true:=by kernel_rfl
theorem tr32:okE (lsp prog (ctrOf cxr) 20000 137 ((sp prog 3).drop 7) (mkTm 137 (tlT 2 3)) (mkS tlH gtab))=true:=by kernel_rfl
theorem tr33:okE (lsp prog (ctrOf cxr) 20000 137 ((sp prog 3).drop 7) (mkTm 137 (tlT 3 3)) (mkS tlH gtab))=true:=by kernel_rfl
end
end Go.Lev
