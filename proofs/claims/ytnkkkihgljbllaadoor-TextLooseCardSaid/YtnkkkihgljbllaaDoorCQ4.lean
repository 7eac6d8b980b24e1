/- text: label, printValue, printIns and the reference's Line: their trees -/
import Derived.Test.YtnkkkihgljbllaaDoorCW5
import Derived.Test.YtnkkkihgljbllaaDoorCQ3
import Derived.Test.YtnkkkihgljbllaaDoorLc
import Derived.Test.YtnkkkihgljbllaaDoorChecked
import Derived.KernelRfl
import Derived.Test.YtnkkkihgljbllaaDoorLc
import Derived.Test.YtnkkkihgljbllaaDoorRows
namespace Go.Lev
set_option linter.unusedSimpArgs false
set_option linter.unusedVariables false
open Go.RowKit
open Go.Proofs.Tryd (prog)
set_option maxRecDepth 100000
noncomputable section
abbrev gt4:Glb:=[(0,formsL),(2,callsL),(2,callsL),(1000,[.fact powF])]
abbrev gtw (g2:Nat) (F2:List LV) (g3:Nat):Glb:=[(0,formsL),(2,callsL),(g2,F2),(g3,[.fact powF])]
def fsN:Nat→Int×Int×Int×Int
 | 1=>(1,0,0,7)
 | 2=>(1,1,0,0)
 | 3=>(1,1,1,0)
 | 4=>(1,1,1,0)
 | 5=>(1,1,1,0)
 | 6=>(1,1,1,0)
 | 7=>(1,1,1,0)
 | 8=>(1,1,3,0)
 | 9=>(1,1,3,0)
 | 10=>(1,1,0,0)
 | 11=>(1,0,0,0)
 | 12=>(0,0,4,0)
 | 13=>(1,0,4,0)
 | 21=>(1,0,0,0)
 | 23=>(6,5,2,0)
 | _=>(0,0,0,0)
def fA (op:Int):Int:=(fsN op.toNat).1
def fB (op:Int):Int:=(fsN op.toNat).2.1
def fC (op:Int):Int:=(fsN op.toNat).2.2.1
def fD (op:Int):Int:=(fsN op.toNat).2.2.2
def fdG:Gc:=fun args s=>match args,s.g with
 | [.int .i64 op],(g0,F0)::_=>cond (Nat.beq g0 0 && eqbs F0 formsL) (some ([xcm .leq 1 op,xcm .leq op 23],.agg [.int .i64 (fA op),.int .i64 (fB op),.int .i64 (fC op),.int .i64 (fD op)],s)) none
 | _,_=>none
def lbG:Gc:=fun args s=>match args with
 | [.int .i64 n]=>some ([xcm .leq 0 n,xcm .lss n 100],.str (108::decW n),s)
 | _=>none
def cxI:Cx:=cxl [(40,itG)]
def cxV:Cx:=cxl [(53,fuG),(26,lbG),(54,callG)]
def pvW (s n:Int):List UInt8:=if s=1∨s=2 then 114::decW n else if s=6 then callW n else if s=4 then 108::decW n else decW n
def pvB (s n:Int):Bool:=@decide (0≤n∧n≤18446744073709551615∧(s=4→n < 100)∧(s=6→n < 100)) (Classical.propDecidable _)
def pvG:Gc:=fun args s=>match args,s.g with
 | [.int .i64 k,.int .u64 n],[(g0,F0),(g1,F1),(g2,F2),(g3,[.fact F])]=>cond (Nat.beq g0 0 && eqbs F0 formsL && (Nat.beq g1 2 && eqbs F1 callsL)) (some ([isFt F,pvB k n],.str (pvW k n),s)) none
 | _,_=>none
def cxP:Cx:=cxl [(16,nameG),(41,fdG),(42,pvG)]
theorem lb_x (n:Int) (g:Glb) (K:Fk):(xfun prog cxI 40 26 [.int .i64 n] (mkS [] g) (vF K))=(
 ck (xcm .leq 0 n) <|
 ck (xcm .lss n 100) <|
 ck (xle (xadd 1 (xsln (decW n))) 1000000000) <|
 K (.str (xscat [108] (decW n))) [] g):=by kernel_rfl
theorem pv_x (k n:Int) (g2:Nat) (F2:List LV) (g3:Nat) (K:Fk):(xfun prog cxV 40 42 [.int .i64 k,.int .u64 n] (mkS [] (gtw g2 F2 g3)) (vF K))=(
 bif xcm .eql k 1 then(
 bif xcm .eql k 1 then(
 ck (isFt powF) <|
 ck (xcm .leq 0 n) <|
 ck (xcm .leq n 18446744073709551615) <|
 ck (xle (xadd 1 (xsln (decW n))) 1000000000) <|
 K (.str (xscat [114] (decW n))) [] (gtw g2 F2 g3))
 else(
 bif xcm .eql k 6 then(
 K (.str (callW (xwr .i64 n))) [] (gtw g2 F2 g3))
 else(
 bif xcm .eql k 4 then(
 ck (xcm .leq 0 (xwr .i64 n)) <|
 ck (xcm .lss (xwr .i64 n) 100) <|
 K (.str (108::decW (xwr .i64 n))) [] (gtw g2 F2 g3))
 else(
 ck (isFt powF) <|
 ck (xcm .leq 0 n) <|
 ck (xcm .leq n 18446744073709551615) <|
 K (.str (decW n)) [] (gtw g2 F2 g3)))))
 else(
 bif xcm .eql k 2 then(
 ck (isFt powF) <|
 ck (xcm .leq 0 n) <|
 ck (xcm .leq n 18446744073709551615) <|
 ck (xle (xadd 1 (xsln (decW n))) 1000000000) <|
 K (.str (xscat [114] (decW n))) [] (gtw g2 F2 g3))
 else(
 bif xcm .eql k 6 then(
 K (.str (callW (xwr .i64 n))) [] (gtw g2 F2 g3))
 else(
 bif xcm .eql k 4 then(
 ck (xcm .leq 0 (xwr .i64 n)) <|
 ck (xcm .lss (xwr .i64 n) 100) <|
 K (.str (108::decW (xwr .i64 n))) [] (gtw g2 F2 g3))
 else(
 ck (isFt powF) <|
 ck (xcm .leq 0 n) <|
 ck (xcm .leq n 18446744073709551615) <|
 K (.str (decW n)) [] (gtw g2 F2 g3)))))):=by kernel_rfl
abbrev piL:List Nat:=[2,3,4,24,25]
abbrev piV (op:Int):LV:=.agg [.int .i64 (fA op),.int .i64 (fB op),.int .i64 (fC op),.int .i64 (fD op)]
abbrev piH (op a b c n:Int):List LB:=[.cells [.int .i64 op,.int .i64 a,.int .i64 b,.int .i64 c,.int .u64 n] none,.cells [.int .u64 a,.int .u64 b,.int .u64 c,.int .u64 n] none]
abbrev piT (op:Int) (t:List UInt8) (k:Int):List (Nat×LV):=[(2,.str []),(3,.str t),(4,.ptr 1 0),(24,piV op),(25,.int .i64 k)]
theorem pi_a (op a b c n:Int) (K:Pk):(xsp prog cxP 40 41 (seg (sp prog 27) 0 4) (tm0 [.agg [.int .i64 op,.int .i64 a,.int .i64 b,.int .i64 c,.int .u64 n]]) (mkS [] gt4) (vK piL K))=(
 ck (xcm .leq 1 op) <|
 ck (xcm .leq op 23) <|
 K .normal [.str [],.str (nameW op),.ptr 1 0,.agg [.int .i64 (fA op),.int .i64 (fB op),.int .i64 (fC op),.int .i64 (fD op)],.int .i64 0] [sN [.int .i64 op,.int .i64 a,.int .i64 b,.int .i64 c,.int .u64 n],sN [.int .u64 (xwr .u64 a),.int .u64 (xwr .u64 b),.int .u64 (xwr .u64 c),.int .u64 n]] gt4):=by kernel_rfl
abbrev pi_l0_b1 (op:Int) (a:Int) (b:Int) (c:Int) (n:Int):List (Option LB):=[sN [.int .i64 op,.int .i64 a,.int .i64 b,.int .i64 c,.int .u64 n],sN [.int .u64 a,.int .u64 b,.int .u64 c,.int .u64 n]]
theorem pi_l0 (op a b c n:Int) (t:List UInt8) (K:Pk):(xcode prog cxP 40 41 (loopOf (nthC (sp prog 27) 4)) (mkTm 41 (piT op t 0)) (mkS (piH op a b c n) gt4) (vK piL K))=(
 bif xcm .neq (fA op) 0 then(
 ck (isFt powF) <|
 ck (pvB (fA op) a) <|
 ck (xle (xadd 1 (xsln (pvW (fA op) a))) 1000000000) <|
 ck (xle (xadd (xsln t) (xsln (xscat [32] (pvW (fA op) a)))) 1000000000) <|
 K .normal [.str [],.str (xscat t (xscat [32] (pvW (fA op) a))),.ptr 1 0,.agg [.int .i64 (fA op),.int .i64 (fB op),.int .i64 (fC op),.int .i64 (fD op)],.int .i64 1] (pi_l0_b1 op a b c n) gt4)
 else(
 K .normal [.str [],.str t,.ptr 1 0,.agg [.int .i64 (fA op),.int .i64 (fB op),.int .i64 (fC op),.int .i64 (fD op)],.int .i64 1] (pi_l0_b1 op a b c n) gt4)):=by kernel_rfl
abbrev pi_l1_b1 (op:Int) (a:Int) (b:Int) (c:Int) (n:Int):List (Option LB):=[sN [.int .i64 op,.int .i64 a,.int .i64 b,.int .i64 c,.int .u64 n],sN [.int .u64 a,.int .u64 b,.int .u64 c,.int .u64 n]]
theorem pi_l1 (op a b c n:Int) (t:List UInt8) (K:Pk):(xcode prog cxP 40 41 (loopOf (nthC (sp prog 27) 4)) (mkTm 41 (piT op t 1)) (mkS (piH op a b c n) gt4) (vK piL K))=(
 bif xcm .neq (fB op) 0 then(
 ck (isFt powF) <|
 ck (pvB (fB op) b) <|
 ck (xle (xadd 1 (xsln (pvW (fB op) b))) 1000000000) <|
 ck (xle (xadd (xsln t) (xsln (xscat [32] (pvW (fB op) b)))) 1000000000) <|
 K .normal [.str [],.str (xscat t (xscat [32] (pvW (fB op) b))),.ptr 1 0,.agg [.int .i64 (fA op),.int .i64 (fB op),.int .i64 (fC op),.int .i64 (fD op)],.int .i64 2] (pi_l1_b1 op a b c n) gt4)
 else(
 K .normal [.str [],.str t,.ptr 1 0,.agg [.int .i64 (fA op),.int .i64 (fB op),.int .i64 (fC op),.int .i64 (fD op)],.int .i64 2] (pi_l1_b1 op a b c n) gt4)):=by kernel_rfl
abbrev pi_l2_b1 (op:Int) (a:Int) (b:Int) (c:Int) (n:Int):List (Option LB):=[sN [.int .i64 op,.int .i64 a,.int .i64 b,.int .i64 c,.int .u64 n],sN [.int .u64 a,.int .u64 b,.int .u64 c,.int .u64 n]]
theorem pi_l2 (op a b c n:Int) (t:List UInt8) (K:Pk):(xcode prog cxP 40 41 (loopOf (nthC (sp prog 27) 4)) (mkTm 41 (piT op t 2)) (mkS (piH op a b c n) gt4) (vK piL K))=(
 bif xcm .neq (fC op) 0 then(
 ck (isFt powF) <|
 ck (pvB (fC op) c) <|
 ck (xle (xadd 1 (xsln (pvW (fC op) c))) 1000000000) <|
 ck (xle (xadd (xsln t) (xsln (xscat [32] (pvW (fC op) c)))) 1000000000) <|
 K .normal [.str [],.str (xscat t (xscat [32] (pvW (fC op) c))),.ptr 1 0,.agg [.int .i64 (fA op),.int .i64 (fB op),.int .i64 (fC op),.int .i64 (fD op)],.int .i64 3] (pi_l2_b1 op a b c n) gt4)
 else(
 K .normal [.str [],.str t,.ptr 1 0,.agg [.int .i64 (fA op),.int .i64 (fB op),.int .i64 (fC op),.int .i64 (fD op)],.int .i64 3] (pi_l2_b1 op a b c n) gt4)):=by kernel_rfl
abbrev pi_l3_b1 (op:Int) (a:Int) (b:Int) (c:Int) (n:Int):List (Option LB):=[sN [.int .i64 op,.int .i64 a,.int .i64 b,.int .i64 c,.int .u64 n],sN [.int .u64 a,.int .u64 b,.int .u64 c,.int .u64 n]]
theorem pi_l3 (op a b c n:Int) (t:List UInt8) (K:Pk):(xcode prog cxP 40 41 (loopOf (nthC (sp prog 27) 4)) (mkTm 41 (piT op t 3)) (mkS (piH op a b c n) gt4) (vK piL K))=(
 bif xcm .neq (fD op) 0 then(
 ck (isFt powF) <|
 ck (pvB (fD op) n) <|
 ck (xle (xadd 1 (xsln (pvW (fD op) n))) 1000000000) <|
 ck (xle (xadd (xsln t) (xsln (xscat [32] (pvW (fD op) n)))) 1000000000) <|
 K .normal [.str [],.str (xscat t (xscat [32] (pvW (fD op) n))),.ptr 1 0,.agg [.int .i64 (fA op),.int .i64 (fB op),.int .i64 (fC op),.int .i64 (fD op)],.int .i64 4] (pi_l3_b1 op a b c n) gt4)
 else(
 K .normal [.str [],.str t,.ptr 1 0,.agg [.int .i64 (fA op),.int .i64 (fB op),.int .i64 (fC op),.int .i64 (fD op)],.int .i64 4] (pi_l3_b1 op a b c n) gt4)):=by kernel_rfl
theorem pi_l4 (op a b c n:Int) (t:List UInt8) (K:Pk):(xcode prog cxP 40 41 (loopOf (nthC (sp prog 27) 4)) (mkTm 41 (piT op t 4)) (mkS (piH op a b c n) gt4) (vK piL K))=(
 K (.exit 0) [.str [],.str t,.ptr 1 0,.agg [.int .i64 (fA op),.int .i64 (fB op),.int .i64 (fC op),.int .i64 (fD op)],.int .i64 4] [sN [.int .i64 op,.int .i64 a,.int .i64 b,.int .i64 c,.int .u64 n],sN [.int .u64 a,.int .u64 b,.int .u64 c,.int .u64 n]] gt4):=by kernel_rfl
theorem pi_z (op a b c n:Int) (t:List UInt8) (K:Pk):(xsp prog cxP 40 41 ((sp prog 27).drop 5) (mkTm 41 (piT op t 4)) (mkS (piH op a b c n) gt4) (vK piL K))=(
 K .ret [.str t,.str t,.ptr 1 0,.agg [.int .i64 (fA op),.int .i64 (fB op),.int .i64 (fC op),.int .i64 (fD op)],.int .i64 4] [sN [.int .i64 op,.int .i64 a,.int .i64 b,.int .i64 c,.int .u64 n],sN [.int .u64 a,.int .u64 b,.int .u64 c,.int .u64 n]] gt4):=by kernel_rfl
end
end Go.Lev
