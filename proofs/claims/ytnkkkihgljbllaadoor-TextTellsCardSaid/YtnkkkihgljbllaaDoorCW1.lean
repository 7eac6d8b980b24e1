/- chapter 14: whether an instruction may be (code) -/
import Derived.Test.YtnkkkihgljbllaaDoorLc
import Derived.Test.YtnkkkihgljbllaaDoorChecked
import Derived.KernelRfl
import Derived.Test.YtnkkkihgljbllaaDoorLc
import Derived.Test.YtnkkkihgljbllaaDoorLc
import Derived.Test.YtnkkkihgljbllaaDoorRows
namespace Go.Lev
set_option linter.unusedSimpArgs false
set_option linter.unusedVariables false
open Go.RowKit
open Go.Proofs.Tryd (prog)
set_option maxRecDepth 100000
noncomputable section
def a2h:List LV:=c4y Go.Proofs.YtnkkkihgljbllaaDoor.Rows.laid_quietus_code_forms
def a0l (rest:Glb):Glb:=(0,a2h)::rest
theorem a0k.h0b {P:Program} {f:Nat} {args:List LV} {v:LV} {s:St} (hfr:∀ b,s.n≤b→s.h.get b=none) (ha:a1q args=true) (hv:b2j v=true) (h:a0k P f args (mkS [] s.g) fun l s'=>l=v∧s'=mkS [] s.g):a0k P f args s fun l s'=>l=v∧s'=s :=
 a0k.h0f (ρ:=[]) (bs:=[]) hfr List.nodup_nil trivial (a7z ha) hv h
end
end Go.Lev
