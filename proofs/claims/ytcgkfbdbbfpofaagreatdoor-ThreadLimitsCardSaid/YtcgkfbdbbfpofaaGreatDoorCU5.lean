/- ThreadLimits: its runs with 5 programs -/
import Derived.Test.YtcgkfbdbbfpofaaGreatDoorCT3
import Derived.Test.YtcgkfbdbbfpofaaGreatDoorLc
import Derived.Test.YtcgkfbdbbfpofaaGreatDoorChecked
import Derived.KernelRfl
import Derived.Test.YtcgkfbdbbfpofaaGreatDoorLc
namespace Go.Lev
set_option linter.unusedSimpArgs false
set_option linter.unusedVariables false
open Go.RowKit
open Go.Proofs.Tryz (prog)
set_option maxRecDepth 100000
noncomputable section
theorem tr5a (q:Nat):okE (lsp prog (ctrOf cxr) 20000 137 ((sp prog 3).drop 7) (mkTm 137 (tlT (Int.ofNat (q+4)) 5)) (mkS tlH gtab))=true:=by kernel_rfl
theorem tr5b (q:Nat):okE (lsp prog (ctrOf cxr) 20000 137 ((sp prog 3).drop 7) (mkTm 137 (tlT (Int.negSucc q) 5)) (mkS tlH gtab))=true:=by kernel_rfl
theorem tr50:okE (lsp prog (ctrOf cxr) 20000 137 ((sp prog 3).drop 7) (mkTm 137 (tlT 0 5)) (mkS tlH gtab))=true:=by kernel_rfl
theorem tr51:okE (lsp prog (ctrOf cxr) 20000 137 ((sp prog 3).drop 7) (mkTm 137 (tlT 1 5)) (mkS tlH gtab))=true:=by kernel_rfl
theorem tr52:okE (lsp prog (ctrOf cxr) 20000 137 ((sp prog 3).drop 7) (mkTm 137 (tlT 2 5)) (mkS tlH gtab))=true:=by kernel_rfl
theorem tr53:okE (lsp prog (ctrOf cxr) 20000 137 ((sp prog 3).drop 7) (mkTm 137 (tlT 3 5)) (mkS tlH gtab))=true:=by kernel_rfl
end
end Go.Lev
