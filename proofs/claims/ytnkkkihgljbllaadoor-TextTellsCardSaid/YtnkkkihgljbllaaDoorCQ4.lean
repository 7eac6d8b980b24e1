/- text: label, printValue, printIns and the reference's Line: their trees -/
import Derived.Test.YtnkkkihgljbllaaDoorCW7
import Derived.Test.YtnkkkihgljbllaaDoorCQ3
import Derived.Test.YtnkkkihgljbllaaDoorLc
import Derived.Test.YtnkkkihgljbllaaDoorChecked
import Derived.KernelRfl
import Derived.Test.YtnkkkihgljbllaaDoorLc
import Derived.Test.YtnkkkihgljbllaaDoorRows
namespace Go.Lev
set_option linter.unusedSimpArgs false
set_option linter.unusedVariables false
open Go.RowKit
open Go.Proofs.Tryd (prog)
set_option maxRecDepth 100000
noncomputable section
abbrev gt4:Glb:=[(0,a2h),(2,a2n),(1,a6x),(1000,[.fact b8t])]
def fsN:Nat→Int×Int×Int×Int
 | 1=>(1,0,0,7)
 | 2=>(1,1,0,0)
 | 3=>(1,1,1,0)
 | 4=>(1,1,1,0)
 | 5=>(1,1,1,0)
 | 6=>(1,1,1,0)
 | 7=>(1,1,1,0)
 | 8=>(1,1,3,0)
 | 9=>(1,1,3,0)
 | 10=>(1,1,0,0)
 | 11=>(1,0,0,0)
 | 12=>(0,0,4,0)
 | 13=>(1,0,4,0)
 | 21=>(1,0,0,0)
 | 23=>(6,5,2,0)
 | _=>(0,0,0,0)
def fA (op:Int):Int:=(fsN op.toNat).1
def fB (op:Int):Int:=(fsN op.toNat).2.1
def fC (op:Int):Int:=(fsN op.toNat).2.2.1
def fD (op:Int):Int:=(fsN op.toNat).2.2.2
def fdG:Gc:=fun args s=>match args,s.g with
 | [.int .i64 op],(g0,F0)::_=>cond (Nat.beq g0 0 && a2x F0 a2h) (some ([xcm .leq 1 op,xcm .leq op 23],.agg [.int .i64 (fA op),.int .i64 (fB op),.int .i64 (fC op),.int .i64 (fD op)],s)) none
 | _,_=>none
abbrev piV (op:Int):LV:=.agg [.int .i64 (fA op),.int .i64 (fB op),.int .i64 (fC op),.int .i64 (fD op)]
end
end Go.Lev
