/- ThreadLimits: up to the cut, 10 programs -/
import Derived.Test.YtcgkfbdbbfpofaaGreatDoorCT6
import Derived.Test.YtcgkfbdbbfpofaaGreatDoorLc
import Derived.Test.YtcgkfbdbbfpofaaGreatDoorChecked
import Derived.KernelRfl
import Derived.Test.YtcgkfbdbbfpofaaGreatDoorLc
namespace Go.Lev
set_option linter.unusedSimpArgs false
set_option linter.unusedVariables false
open Go.RowKit
open Go.Proofs.Tryz (prog)
set_option maxRecDepth 100000
noncomputable section
theorem tk10a (q:Nat):cutR tlL [0,11,48,5,7,8,10,78,94,47,4,6,9,51,56,61,66,71,76,86,92,93,97,91,90,122,141,96,89,88,87] (tkT 10) (tkH 3) (lsp prog (ctrOf cxr) 20000 137 (seg (sp prog 3) 7 3) (mkTm 137 (tlT (Int.ofNat (q+4)) 10)) (mkS tlH gtab))=(true,.int .i64 (Int.ofNat (q+4))):=by kernel_rfl
theorem tk10b (q:Nat):cutR tlL [0,11,48,5,7,8,10,78,94,47,4,6,9,51,56,61,66,71,76,86,92,93,97,91,90,122,141,96,89,88,87] (tkT 10) (tkH 0) (lsp prog (ctrOf cxr) 20000 137 (seg (sp prog 3) 7 3) (mkTm 137 (tlT (Int.negSucc q) 10)) (mkS tlH gtab))=(true,.int .i64 (Int.negSucc q)):=by kernel_rfl
theorem tk100  : cutR tlL [0,11,48,5,7,8,10,78,94,47,4,6,9,51,56,61,66,71,76,86,92,93,97,91,90,122,141,96,89,88,87] (tkT 10) (tkH 0) (lsp prog (ctrOf cxr) 20000 137 (seg (sp prog 3) 7 3) (mkTm 137 (tlT (0) 10)) (mkS tlH gtab))=(true,.int .i64 (0)):=by kernel_rfl
theorem tk101  : cutR tlL [0,11,48,5,7,8,10,78,94,47,4,6,9,51,56,61,66,71,76,86,92,93,97,91,90,122,141,96,89,88,87] (tkT 10) (tkH 1) (lsp prog (ctrOf cxr) 20000 137 (seg (sp prog 3) 7 3) (mkTm 137 (tlT (1) 10)) (mkS tlH gtab))=(true,.int .i64 (1)):=by kernel_rfl
theorem tk102  : cutR tlL [0,11,48,5,7,8,10,78,94,47,4,6,9,51,56,61,66,71,76,86,92,93,97,91,90,122,141,96,89,88,87] (tkT 10) (tkH 2) (lsp prog (ctrOf cxr) 20000 137 (seg (sp prog 3) 7 3) (mkTm 137 (tlT (2) 10)) (mkS tlH gtab))=(true,.int .i64 (2)):=by kernel_rfl
theorem tk103  : cutR tlL [0,11,48,5,7,8,10,78,94,47,4,6,9,51,56,61,66,71,76,86,92,93,97,91,90,122,141,96,89,88,87] (tkT 10) (tkH 3) (lsp prog (ctrOf cxr) 20000 137 (seg (sp prog 3) 7 3) (mkTm 137 (tlT (3) 10)) (mkS tlH gtab))=(true,.int .i64 (3)):=by kernel_rfl
end
end Go.Lev
