/- chapter 25: the memory's Do: trees -/
import Derived.Test.YtooajpakpmnehaaCW7
import Derived.Test.YtooajpakpmnehaaLc
import Derived.Test.YtooajpakpmnehaaChecked
import Derived.KernelRfl

namespace Go.Lev
open Go.RowKit
set_option linter.unusedVariables false
set_option linter.unusedSimpArgs false
set_option maxRecDepth 100000
noncomputable section
/-! rows of integers -/
/-! a memory, what an operation does to it -/
structure MS where
  W : List Int
  L : List Lk
  N : Int
  S : List Int
  C : Int
structure MS.ok (m : MS) : Prop where
  w : m.W.length ≤ 1000000
  l : m.L.length ≤ 1000000
  s : m.S.length ≤ 1000000
end
end Go.Lev
