/- SlateRuns: chapter 13's runs: the law returns true. No condition. -/
import Derived.Test.YtalliccdgpfkaaaLc
import Derived.Test.YtalliccdgpfkaaaChecked
import Derived.KernelRfl
import Derived.Test.YtalliccdgpfkaaaCW1
namespace Go.Lev
set_option linter.unusedSimpArgs false
set_option linter.unusedVariables false
open Go.RowKit
open Go.Proofs.Try (prog)
set_option maxRecDepth 100000
def cx13:Cx:=cxl [(29,joinG)]
theorem cx13_ok:CtrOk prog (ctrOf cx13):=cxl_ok ⟨joinG_ok,trivial⟩
theorem slate_runs (W:World):Calls prog 3 #[] W fun e W'=>e=.returned (.bool true)∧Below W.heap.size W W' :=
 run_trueC (g:=[]) cx13_ok (fuel:=4000) (by kernel_rfl) W fun x hx=>by cases hx
end Go.Lev
