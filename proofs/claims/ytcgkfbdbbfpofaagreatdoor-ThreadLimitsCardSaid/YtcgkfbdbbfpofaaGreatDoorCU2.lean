/- ThreadLimits: its runs with 2 programs -/
import Derived.Test.YtcgkfbdbbfpofaaGreatDoorCT3
import Derived.Test.YtcgkfbdbbfpofaaGreatDoorLc
import Derived.Test.YtcgkfbdbbfpofaaGreatDoorChecked
import Derived.KernelRfl
import Derived.Test.YtcgkfbdbbfpofaaGreatDoorLc
namespace Go.Lev
set_option linter.unusedSimpArgs false
set_option linter.unusedVariables false
open Go.RowKit
open Go.Proofs.Tryz (prog)
set_option maxRecDepth 100000
noncomputable section
theorem tr2a (q:Nat):okE (lsp prog (ctrOf cxr) 20000 137 ((sp prog 3).drop 7) (mkTm 137 (tlT (Int.ofNat (q+4)) 2)) (mkS tlH gtab))=true:=by kernel_rfl
theorem tr2b (q:Nat):okE (lsp prog (ctrOf cxr) 20000 137 ((sp prog 3).drop 7) (mkTm 137 (tlT (Int.negSucc q) 2)) (mkS tlH gtab))=true:=by kernel_rfl
theorem tr20:okE (lsp prog (ctrOf cxr) 20000 137 ((sp prog 3).drop 7) (mkTm 137 (tlT 0 2)) (mkS tlH gtab))=true:=by kernel_rfl
theorem tr21:okE (lsp prog (ctrOf cxr) 20000 137 ((sp prog 3).drop 7) (mkTm 137 (tlT 1 2)) (mkS tlH gtab))=true:=by kernel_rfl
theorem tr22:okE (lsp prog (ctrOf cxr) 20000 137 ((sp prog 3).drop 7) (mkTm 137 (tlT 2 2)) (mkS tlH gtab))=true:=by kernel_rfl
theorem tr23:okE (lsp prog (ctrOf cxr) 20000 137 ((sp prog 3).drop 7) (mkTm 137 (tlT 3 2)) (mkS tlH gtab))=true:=by kernel_rfl
end
end Go.Lev
