/- chapter 9: the code's levels: Open, Drop, Keep -/
import Derived.Test.YtbeolgofafknmaaGreatDoorCW10
import Derived.Test.YtbeolgofafknmaaGreatDoorLc
import Derived.Test.YtbeolgofafknmaaGreatDoorChecked
import Derived.KernelRfl
namespace Go.Lev
set_option linter.unusedSimpArgs false
set_option linter.unusedVariables false
open Go.RowKit
open Go.Proofs.Tryz (prog)
set_option maxRecDepth 100000
noncomputable section
theorem ints_app:∀ (xs ys:List Int),encL (cI .i64) (xs++ys)=encL (cI .i64) xs++encL (cI .i64) ys
 | [],ys=>rfl
 | x::r,ys=>by simp only [List.cons_append,encL,ints_app r ys,List.append_assoc]
theorem ints_all {xs:List Int} {n:Nat} (h:xs.length≤n):xcut (encL (cI .i64) xs) 0 n=encL (cI .i64) xs:=xcut_all (by rw [encIi64_len]; exact h)
theorem ints_cat2 {xs ys:List Int}:xcat (encL (cI .i64) xs) (encL (cI .i64) ys)=encL (cI .i64) (xs++ys):=by rw [ints_app]; rfl
theorem cxl4_ok:CtrOk prog (ctrOf cxl4):=cxl_ok ⟨wnewG_ok,wtakeG_ok,cloneCell_ok,trivial⟩
def lkeepE (cs:List LV):Int:=clE (decLs cs)
def lkeepD (cs:List LV):Nat:=(kpL (decLs cs)).length
def lkeepC (cs:List LV):List LV:=encLs (kpL (decLs cs))
end
end Go.Lev
