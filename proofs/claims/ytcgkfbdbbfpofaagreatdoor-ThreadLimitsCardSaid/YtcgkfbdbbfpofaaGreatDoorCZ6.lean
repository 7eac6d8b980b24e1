/- ThreadLimits: up to the cut, 6 programs -/
import Derived.Test.YtcgkfbdbbfpofaaGreatDoorCT6
import Derived.Test.YtcgkfbdbbfpofaaGreatDoorLc
import Derived.Test.YtcgkfbdbbfpofaaGreatDoorChecked
import Derived.KernelRfl
import Derived.Test.YtcgkfbdbbfpofaaGreatDoorLc
namespace Go.Lev
set_option linter.unusedSimpArgs false
set_option linter.unusedVariables false
open Go.RowKit
open Go.Proofs.Tryz (prog)
set_option maxRecDepth 100000
noncomputable section
theorem tk6a (q:Nat):cutR tlL [0,11,36,5,7,8,10,66,82,35,4,6,9,39,44,49,54,59,64,74,80,81,85,79,78,110,129,84,77,76,75] (tkT 6) (tkH 3) (lsp prog (ctrOf cxr) 20000 137 (seg (sp prog 3) 7 3) (mkTm 137 (tlT (Int.ofNat (q+4)) 6)) (mkS tlH gtab))=(true,.int .i64 (Int.ofNat (q+4))):=by kernel_rfl
theorem tk6b (q:Nat):cutR tlL [0,11,36,5,7,8,10,66,82,35,4,6,9,39,44,49,54,59,64,74,80,81,85,79,78,110,129,84,77,76,75] (tkT 6) (tkH 0) (lsp prog (ctrOf cxr) 20000 137 (seg (sp prog 3) 7 3) (mkTm 137 (tlT (Int.negSucc q) 6)) (mkS tlH gtab))=(true,.int .i64 (Int.negSucc q)):=by kernel_rfl
theorem tk60  : cutR tlL [0,11,36,5,7,8,10,66,82,35,4,6,9,39,44,49,54,59,64,74,80,81,85,79,78,110,129,84,77,76,75] (tkT 6) (tkH 0) (lsp prog (ctrOf cxr) 20000 137 (seg (sp prog 3) 7 3) (mkTm 137 (tlT (0) 6)) (mkS tlH gtab))=(true,.int .i64 (0)):=by kernel_rfl
theorem tk61  : cutR tlL [0,11,36,5,7,8,10,66,82,35,4,6,9,39,44,49,54,59,64,74,80,81,85,79,78,110,129,84,77,76,75] (tkT 6) (tkH 1) (lsp prog (ctrOf cxr) 20000 137 (seg (sp prog 3) 7 3) (mkTm 137 (tlT (1) 6)) (mkS tlH gtab))=(true,.int .i64 (1)):=by kernel_rfl
theorem tk62  : cutR tlL [0,11,36,5,7,8,10,66,82,35,4,6,9,39,44,49,54,59,64,74,80,81,85,79,78,110,129,84,77,76,75] (tkT 6) (tkH 2) (lsp prog (ctrOf cxr) 20000 137 (seg (sp prog 3) 7 3) (mkTm 137 (tlT (2) 6)) (mkS tlH gtab))=(true,.int .i64 (2)):=by kernel_rfl
theorem tk63  : cutR tlL [0,11,36,5,7,8,10,66,82,35,4,6,9,39,44,49,54,59,64,74,80,81,85,79,78,110,129,84,77,76,75] (tkT 6) (tkH 3) (lsp prog (ctrOf cxr) 20000 137 (seg (sp prog 3) 7 3) (mkTm 137 (tlT (3) 6)) (mkS tlH gtab))=(true,.int .i64 (3)):=by kernel_rfl
end
end Go.Lev
