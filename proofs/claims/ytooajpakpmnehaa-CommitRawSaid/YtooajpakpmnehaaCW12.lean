/- chapter 25: the reference's Put; New; trees of alone -/
import Derived.Test.YtooajpakpmnehaaCW11
import Derived.Test.YtooajpakpmnehaaLc
import Derived.Test.YtooajpakpmnehaaChecked
import Derived.KernelRfl

namespace Go.Lev
open Go.RowKit
set_option linter.unusedVariables false
set_option linter.unusedSimpArgs false
set_option maxRecDepth 100000
noncomputable section
/-! Place, Put -/
end
end Go.Lev
