/- ThreadLimits: up to the cut, 11 programs -/
import Derived.Test.YtcgkfbdbbfpofaaGreatDoorCT6
import Derived.Test.YtcgkfbdbbfpofaaGreatDoorLc
import Derived.Test.YtcgkfbdbbfpofaaGreatDoorChecked
import Derived.KernelRfl
import Derived.Test.YtcgkfbdbbfpofaaGreatDoorLc
namespace Go.Lev
set_option linter.unusedSimpArgs false
set_option linter.unusedVariables false
open Go.RowKit
open Go.Proofs.Tryz (prog)
set_option maxRecDepth 100000
noncomputable section
theorem tk11a (q:Nat):cutR tlL [0,11,51,5,7,8,10,81,97,50,4,6,9,54,59,64,69,74,79,89,95,96,100,94,93,125,144,99,92,91,90] (tkT 11) (tkH 3) (lsp prog (ctrOf cxr) 20000 137 (seg (sp prog 3) 7 3) (mkTm 137 (tlT (Int.ofNat (q+4)) 11)) (mkS tlH gtab))=(true,.int .i64 (Int.ofNat (q+4))):=by kernel_rfl
theorem tk11b (q:Nat):cutR tlL [0,11,51,5,7,8,10,81,97,50,4,6,9,54,59,64,69,74,79,89,95,96,100,94,93,125,144,99,92,91,90] (tkT 11) (tkH 0) (lsp prog (ctrOf cxr) 20000 137 (seg (sp prog 3) 7 3) (mkTm 137 (tlT (Int.negSucc q) 11)) (mkS tlH gtab))=(true,.int .i64 (Int.negSucc q)):=by kernel_rfl
theorem tk110  : cutR tlL [0,11,51,5,7,8,10,81,97,50,4,6,9,54,59,64,69,74,79,89,95,96,100,94,93,125,144,99,92,91,90] (tkT 11) (tkH 0) (lsp prog (ctrOf cxr) 20000 137 (seg (sp prog 3) 7 3) (mkTm 137 (tlT (0) 11)) (mkS tlH gtab))=(true,.int .i64 (0)):=by kernel_rfl
theorem tk111  : cutR tlL [0,11,51,5,7,8,10,81,97,50,4,6,9,54,59,64,69,74,79,89,95,96,100,94,93,125,144,99,92,91,90] (tkT 11) (tkH 1) (lsp prog (ctrOf cxr) 20000 137 (seg (sp prog 3) 7 3) (mkTm 137 (tlT (1) 11)) (mkS tlH gtab))=(true,.int .i64 (1)):=by kernel_rfl
theorem tk112  : cutR tlL [0,11,51,5,7,8,10,81,97,50,4,6,9,54,59,64,69,74,79,89,95,96,100,94,93,125,144,99,92,91,90] (tkT 11) (tkH 2) (lsp prog (ctrOf cxr) 20000 137 (seg (sp prog 3) 7 3) (mkTm 137 (tlT (2) 11)) (mkS tlH gtab))=(true,.int .i64 (2)):=by kernel_rfl
theorem tk113  : cutR tlL [0,11,51,5,7,8,10,81,97,50,4,6,9,54,59,64,69,74,79,89,95,96,100,94,93,125,144,99,92,91,90] (tkT 11) (tkH 3) (lsp prog (ctrOf cxr) 20000 137 (seg (sp prog 3) 7 3) (mkTm 137 (tlT (3) 11)) (mkS tlH gtab))=(true,.int .i64 (3)):=by kernel_rfl
end
end Go.Lev
