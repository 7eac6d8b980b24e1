/- ThreadLimits: up to the cut, 8 programs -/
import Derived.Test.YtcgkfbdbbfpofaaGreatDoorCT6
import Derived.Test.YtcgkfbdbbfpofaaGreatDoorLc
import Derived.Test.YtcgkfbdbbfpofaaGreatDoorChecked
import Derived.KernelRfl
import Derived.Test.YtcgkfbdbbfpofaaGreatDoorLc
namespace Go.Lev
set_option linter.unusedSimpArgs false
set_option linter.unusedVariables false
open Go.RowKit
open Go.Proofs.Tryz (prog)
set_option maxRecDepth 100000
noncomputable section
theorem tk8a (q:Nat):cutR tlL [0,11,42,5,7,8,10,72,88,41,4,6,9,45,50,55,60,65,70,80,86,87,91,85,84,116,135,90,83,82,81] (tkT 8) (tkH 3) (lsp prog (ctrOf cxr) 20000 137 (seg (sp prog 3) 7 3) (mkTm 137 (tlT (Int.ofNat (q+4)) 8)) (mkS tlH gtab))=(true,.int .i64 (Int.ofNat (q+4))):=by kernel_rfl
theorem tk8b (q:Nat):cutR tlL [0,11,42,5,7,8,10,72,88,41,4,6,9,45,50,55,60,65,70,80,86,87,91,85,84,116,135,90,83,82,81] (tkT 8) (tkH 0) (lsp prog (ctrOf cxr) 20000 137 (seg (sp prog 3) 7 3) (mkTm 137 (tlT (Int.negSucc q) 8)) (mkS tlH gtab))=(true,.int .i64 (Int.negSucc q)):=by kernel_rfl
theorem tk80  : cutR tlL [0,11,42,5,7,8,10,72,88,41,4,6,9,45,50,55,60,65,70,80,86,87,91,85,84,116,135,90,83,82,81] (tkT 8) (tkH 0) (lsp prog (ctrOf cxr) 20000 137 (seg (sp prog 3) 7 3) (mkTm 137 (tlT (0) 8)) (mkS tlH gtab))=(true,.int .i64 (0)):=by kernel_rfl
theorem tk81  : cutR tlL [0,11,42,5,7,8,10,72,88,41,4,6,9,45,50,55,60,65,70,80,86,87,91,85,84,116,135,90,83,82,81] (tkT 8) (tkH 1) (lsp prog (ctrOf cxr) 20000 137 (seg (sp prog 3) 7 3) (mkTm 137 (tlT (1) 8)) (mkS tlH gtab))=(true,.int .i64 (1)):=by kernel_rfl
theorem tk82  : cutR tlL [0,11,42,5,7,8,10,72,88,41,4,6,9,45,50,55,60,65,70,80,86,87,91,85,84,116,135,90,83,82,81] (tkT 8) (tkH 2) (lsp prog (ctrOf cxr) 20000 137 (seg (sp prog 3) 7 3) (mkTm 137 (tlT (2) 8)) (mkS tlH gtab))=(true,.int .i64 (2)):=by kernel_rfl
theorem tk83  : cutR tlL [0,11,42,5,7,8,10,72,88,41,4,6,9,45,50,55,60,65,70,80,86,87,91,85,84,116,135,90,83,82,81] (tkT 8) (tkH 3) (lsp prog (ctrOf cxr) 20000 137 (seg (sp prog 3) 7 3) (mkTm 137 (tlT (3) 8)) (mkS tlH gtab))=(true,.int .i64 (3)):=by kernel_rfl
end
end Go.Lev
