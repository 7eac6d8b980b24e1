/- chapter 9: the code's levels: Put, Free -/
import Derived.Test.YtbeolgofafknmaaGreatDoorCW9
import Derived.Test.YtbeolgofafknmaaGreatDoorLc
import Derived.Test.YtbeolgofafknmaaGreatDoorChecked
import Derived.KernelRfl
namespace Go.Lev
set_option linter.unusedSimpArgs false
set_option linter.unusedVariables false
open Go.RowKit
open Go.Proofs.Tryz (prog)
set_option maxRecDepth 100000
noncomputable section
theorem wT1e (m:Int) (xs:CL) (a v:Int):(wTk m xs [(a,v)]).1=wPe m xs a:=by
 rw [wTk]; split
 ·rename_i h; exact h.symm
 ·rfl
theorem wT1c (m:Int) (xs:CL) (a v:Int):wTc m xs [(a,v)]=wPc m xs a v:=by
 rw [wTc,wT1e,wPc]
 by_cases h:wPe m xs a=0
 ·rw [if_pos h,if_pos h,wTk,if_pos h]; rfl
 ·rw [if_neg h,if_neg h]
def lpE (most:Int) (cs:List LV) (a v:Int):Int:=tkE most (decLs cs) [(a,v)]
def lpD (most:Int) (cs:List LV) (a v:Int):Nat:=(tkC most (decLs cs) [(a,v)]).length
def lpC (most:Int) (cs:List LV) (a v:Int):List LV:=encLs (tkC most (decLs cs) [(a,v)])
end
end Go.Lev
