/- A closed run in pieces: the calls that it makes, each reckoned by itself. No statement of its own. -/
import Derived.Test.YtbfaabodebiafaaPcA
import Derived.Test.YtbfaabodebiafaaPcB
import Derived.Test.YtbfaabodebiafaaPcC
import Derived.Test.YtbfaabodebiafaaPcD
import Derived.Test.YtbfaabodebiafaaPcE
import Derived.Test.YtbfaabodebiafaaPcF
import Derived.Test.YtbfaabodebiafaaPcG
import Derived.Test.YtbfaabodebiafaaPcH
import Derived.Test.YtbfaabodebiafaaPcI
import Derived.KernelRfl
namespace Go.Proofs.Ytbfaabodebiafaa.pieces
open Go.Lev
set_option maxRecDepth 100000
def T : List En := [e0, e1, e2, e3, e4, e5, e6, e7, e8, e9, e10, e11, e12]
theorem tab : CallOk Try.prog (tabFind T) := tab_cons (e := e0) (tab_cons (e := e1) (tab_cons (e := e2) (tab_cons (e := e3) (tab_cons (e := e4) (tab_cons (e := e5) (tab_cons (e := e6) (tab_cons (e := e7) (tab_cons (e := e8) (tab_cons (e := e9) (tab_cons (e := e10) (tab_cons (e := e11) (tab_cons (e := e12) (tab_nil) tab12 t12) tab11 t11) tab10 t10) tab9 t9) tab8 t8) tab7 t7) tab6 t6) tab5 t5) tab_nil t4) tab_nil t3) tab_nil t2) tab_nil t1) tab_nil t0
theorem all : isTrue (krun Try.prog T 3000 200 3) = true := by kernel_rfl
end Go.Proofs.Ytbfaabodebiafaa.pieces
