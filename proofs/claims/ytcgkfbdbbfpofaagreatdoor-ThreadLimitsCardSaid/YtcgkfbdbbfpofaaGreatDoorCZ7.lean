/- ThreadLimits: up to the cut, 7 programs -/
import Derived.Test.YtcgkfbdbbfpofaaGreatDoorCT6
import Derived.Test.YtcgkfbdbbfpofaaGreatDoorLc
import Derived.Test.YtcgkfbdbbfpofaaGreatDoorChecked
import Derived.KernelRfl
import Derived.Test.YtcgkfbdbbfpofaaGreatDoorLc
namespace Go.Lev
set_option linter.unusedSimpArgs false
set_option linter.unusedVariables false
open Go.RowKit
open Go.Proofs.Tryz (prog)
set_option maxRecDepth 100000
noncomputable section
theorem tk7a (q:Nat):cutR tlL [0,11,39,5,7,8,10,69,85,38,4,6,9,42,47,52,57,62,67,77,83,84,88,82,81,113,132,87,80,79,78] (tkT 7) (tkH 3) (lsp prog (ctrOf cxr) 20000 137 (seg (sp prog 3) 7 3) (mkTm 137 (tlT (Int.ofNat (q+4)) 7)) (mkS tlH gtab))=(true,.int .i64 (Int.ofNat (q+4))):=by kernel_rfl
theorem tk7b (q:Nat):cutR tlL [0,11,39,5,7,8,10,69,85,38,4,6,9,42,47,52,57,62,67,77,83,84,88,82,81,113,132,87,80,79,78] (tkT 7) (tkH 0) (lsp prog (ctrOf cxr) 20000 137 (seg (sp prog 3) 7 3) (mkTm 137 (tlT (Int.negSucc q) 7)) (mkS tlH gtab))=(true,.int .i64 (Int.negSucc q)):=by kernel_rfl
theorem tk70  : cutR tlL [0,11,39,5,7,8,10,69,85,38,4,6,9,42,47,52,57,62,67,77,83,84,88,82,81,113,132,87,80,79,78] (tkT 7) (tkH 0) (lsp prog (ctrOf cxr) 20000 137 (seg (sp prog 3) 7 3) (mkTm 137 (tlT (0) 7)) (mkS tlH gtab))=(true,.int .i64 (0)):=by kernel_rfl
theorem tk71  : cutR tlL [0,11,39,5,7,8,10,69,85,38,4,6,9,42,47,52,57,62,67,77,83,84,88,82,81,113,132,87,80,79,78] (tkT 7) (tkH 1) (lsp prog (ctrOf cxr) 20000 137 (seg (sp prog 3) 7 3) (mkTm 137 (tlT (1) 7)) (mkS tlH gtab))=(true,.int .i64 (1)):=by kernel_rfl
theorem tk72  : cutR tlL [0,11,39,5,7,8,10,69,85,38,4,6,9,42,47,52,57,62,67,77,83,84,88,82,81,113,132,87,80,79,78] (tkT 7) (tkH 2) (lsp prog (ctrOf cxr) 20000 137 (seg (sp prog 3) 7 3) (mkTm 137 (tlT (2) 7)) (mkS tlH gtab))=(true,.int .i64 (2)):=by kernel_rfl
theorem tk73  : cutR tlL [0,11,39,5,7,8,10,69,85,38,4,6,9,42,47,52,57,62,67,77,83,84,88,82,81,113,132,87,80,79,78] (tkT 7) (tkH 3) (lsp prog (ctrOf cxr) 20000 137 (seg (sp prog 3) 7 3) (mkTm 137 (tlT (3) 7)) (mkS tlH gtab))=(true,.int .i64 (3)):=by kernel_rfl
end
end Go.Lev
