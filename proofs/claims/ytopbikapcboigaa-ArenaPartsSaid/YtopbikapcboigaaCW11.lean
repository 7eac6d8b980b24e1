/- chapter 9: the code's levels: Open, Drop, Keep -/
import Derived.Test.YtopbikapcboigaaCW10
import Derived.Test.YtopbikapcboigaaLc
import Derived.Test.YtopbikapcboigaaChecked
import Derived.KernelRfl
namespace Go.Lev
set_option linter.unusedSimpArgs false
set_option linter.unusedVariables false
open Go.RowKit
open Go.Proofs.Try (prog)
set_option maxRecDepth 100000
noncomputable section
theorem ints_all {xs:List Int} {n:Nat} (h:xs.length≤n):xcut (encL (cI .i64) xs) 0 n=encL (cI .i64) xs:=xcut_all (by rw [encIi64_len]; exact h)
theorem cxl4_ok:CtrOk prog (ctrOf cxl4):=cxl_ok ⟨wnewG_ok,wtakeG_ok,cloneCell_ok,trivial⟩
end
end Go.Lev
