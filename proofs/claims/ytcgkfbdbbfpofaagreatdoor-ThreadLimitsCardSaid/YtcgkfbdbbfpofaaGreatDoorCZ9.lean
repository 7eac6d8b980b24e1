/- ThreadLimits: up to the cut, 9 programs -/
import Derived.Test.YtcgkfbdbbfpofaaGreatDoorCT6
import Derived.Test.YtcgkfbdbbfpofaaGreatDoorLc
import Derived.Test.YtcgkfbdbbfpofaaGreatDoorChecked
import Derived.KernelRfl
import Derived.Test.YtcgkfbdbbfpofaaGreatDoorLc
namespace Go.Lev
set_option linter.unusedSimpArgs false
set_option linter.unusedVariables false
open Go.RowKit
open Go.Proofs.Tryz (prog)
set_option maxRecDepth 100000
noncomputable section
theorem tk9a (q:Nat):cutR tlL [0,11,45,5,7,8,10,75,91,44,4,6,9,48,53,58,63,68,73,83,89,90,94,88,87,119,138,93,86,85,84] (tkT 9) (tkH 3) (lsp prog (ctrOf cxr) 20000 137 (seg (sp prog 3) 7 3) (mkTm 137 (tlT (Int.ofNat (q+4)) 9)) (mkS tlH gtab))=(true,.int .i64 (Int.ofNat (q+4))):=by kernel_rfl
theorem tk9b (q:Nat):cutR tlL [0,11,45,5,7,8,10,75,91,44,4,6,9,48,53,58,63,68,73,83,89,90,94,88,87,119,138,93,86,85,84] (tkT 9) (tkH 0) (lsp prog (ctrOf cxr) 20000 137 (seg (sp prog 3) 7 3) (mkTm 137 (tlT (Int.negSucc q) 9)) (mkS tlH gtab))=(true,.int .i64 (Int.negSucc q)):=by kernel_rfl
theorem tk90  : cutR tlL [0,11,45,5,7,8,10,75,91,44,4,6,9,48,53,58,63,68,73,83,89,90,94,88,87,119,138,93,86,85,84] (tkT 9) (tkH 0) (lsp prog (ctrOf cxr) 20000 137 (seg (sp prog 3) 7 3) (mkTm 137 (tlT (0) 9)) (mkS tlH gtab))=(true,.int .i64 (0)):=by kernel_rfl
theorem tk91  : cutR tlL [0,11,45,5,7,8,10,75,91,44,4,6,9,48,53,58,63,68,73,83,89,90,94,88,87,119,138,93,86,85,84] (tkT 9) (tkH 1) (lsp prog (ctrOf cxr) 20000 137 (seg (sp prog 3) 7 3) (mkTm 137 (tlT (1) 9)) (mkS tlH gtab))=(true,.int .i64 (1)):=by kernel_rfl
theorem tk92  : cutR tlL [0,11,45,5,7,8,10,75,91,44,4,6,9,48,53,58,63,68,73,83,89,90,94,88,87,119,138,93,86,85,84] (tkT 9) (tkH 2) (lsp prog (ctrOf cxr) 20000 137 (seg (sp prog 3) 7 3) (mkTm 137 (tlT (2) 9)) (mkS tlH gtab))=(true,.int .i64 (2)):=by kernel_rfl
theorem tk93  : cutR tlL [0,11,45,5,7,8,10,75,91,44,4,6,9,48,53,58,63,68,73,83,89,90,94,88,87,119,138,93,86,85,84] (tkT 9) (tkH 3) (lsp prog (ctrOf cxr) 20000 137 (seg (sp prog 3) 7 3) (mkTm 137 (tlT (3) 9)) (mkS tlH gtab))=(true,.int .i64 (3)):=by kernel_rfl
end
end Go.Lev
