/- chapter 14: whether an instruction may be (code) -/
import Derived.Test.YtnkkkihgljbllaaDoorLc
import Derived.Test.YtnkkkihgljbllaaDoorChecked
import Derived.KernelRfl
import Derived.Test.YtnkkkihgljbllaaDoorLc
import Derived.Test.YtnkkkihgljbllaaDoorLc
import Derived.Test.YtnkkkihgljbllaaDoorRows
namespace Go.Lev
set_option linter.unusedSimpArgs false
set_option linter.unusedVariables false
open Go.RowKit
open Go.Proofs.Tryd (prog)
set_option maxRecDepth 100000
noncomputable section
def formsL:List LV:=flatD Go.Proofs.YtnkkkihgljbllaaDoor.Rows.laid_quietus_code_forms
def formsG (rest:Glb):Glb:=(0,formsL)::rest
abbrev insL (op a b c n:Int):LV:=.agg [.int .i64 op,.int .i64 a,.int .i64 b,.int .i64 c,.int .u64 n]
def bW:Nat→Int×Int×Int×Int×Bool
 | 1=>(0,7,0,0,true)
 | 2=>(0,7,7,0,false)
 | 3=>(0,7,7,7,false)
 | 4=>(0,7,7,7,false)
 | 5=>(0,7,7,7,false)
 | 6=>(0,7,7,7,false)
 | 7=>(0,7,7,7,false)
 | 8=>(0,7,7,15,false)
 | 9=>(0,7,7,15,false)
 | 10=>(0,7,7,0,false)
 | 11=>(0,7,0,0,false)
 | 12=>(0,0,0,40,false)
 | 13=>(0,7,0,40,false)
 | 14=>(0,0,0,0,false)
 | 15=>(0,0,0,0,false)
 | 16=>(0,0,0,0,false)
 | 17=>(0,0,0,0,false)
 | 18=>(0,0,0,0,false)
 | 19=>(0,0,0,0,false)
 | 20=>(0,0,0,0,false)
 | 21=>(0,7,0,0,false)
 | 22=>(0,0,0,0,false)
 | 23=>(1,12,7,6,false)
 | _=>(0,0,0,0,false)
def mayP (t:Int×Int×Int×Int×Bool) (a b c n:Int):Prop:=t.1≤a∧a≤t.2.1∧0≤b∧b≤t.2.2.1∧0≤c∧c≤t.2.2.2.1∧(t.2.2.2.2=true∨n=0)
def mayW (op a b c n:Int):Bool:=@decide (1≤op∧op≤23∧mayP (bW op.toNat) a b c n) (Classical.propDecidable _)
theorem mayW_iff {op a b c n:Int}:mayW op a b c n=true↔1≤op∧op≤23∧mayP (bW op.toNat) a b c n:=by simp only [mayW,decide_eq_true_eq]
def outW (op:Int):Bool:=decide (op < 1∨23 < op)
theorem outW_iff {op:Int}:outW op=true↔op < 1∨23 < op:=by simp [outW]
theorem mayW_out {op a b c n:Int} (h:op < 1∨23 < op):mayW op a b c n=false:=Bool.eq_false_iff.2 fun e=>by have:=mayW_iff.1 e; omega
theorem leafB {x y:Bool} {bs:List (Option LB)} (h:y=x):convOk 0 1 [0] [.bool x] bs [] [(0,.bool y)] []:=by subst h; (exact zC)
theorem nite_way {c:Prop} [Decidable c] {A B:Prop} (h1:¬ c→A) (h2:c→B):cond (!decide c) A B:=by by_cases h:c <;> simp [h,h1,h2]
theorem mw1 (a b c n:Int):mayW 1 a b c n=true↔0≤a∧a≤7∧0≤b∧b≤0∧0≤c∧c≤0∧(true=true∨n=0):=mayW_iff.trans ⟨fun h=>h.2.2,fun h=>⟨by omega,by omega,h⟩⟩
theorem mw2 (a b c n:Int):mayW 2 a b c n=true↔0≤a∧a≤7∧0≤b∧b≤7∧0≤c∧c≤0∧(false=true∨n=0):=mayW_iff.trans ⟨fun h=>h.2.2,fun h=>⟨by omega,by omega,h⟩⟩
theorem mw3 (a b c n:Int):mayW 3 a b c n=true↔0≤a∧a≤7∧0≤b∧b≤7∧0≤c∧c≤7∧(false=true∨n=0):=mayW_iff.trans ⟨fun h=>h.2.2,fun h=>⟨by omega,by omega,h⟩⟩
theorem mw4 (a b c n:Int):mayW 4 a b c n=true↔0≤a∧a≤7∧0≤b∧b≤7∧0≤c∧c≤7∧(false=true∨n=0):=mayW_iff.trans ⟨fun h=>h.2.2,fun h=>⟨by omega,by omega,h⟩⟩
theorem mw5 (a b c n:Int):mayW 5 a b c n=true↔0≤a∧a≤7∧0≤b∧b≤7∧0≤c∧c≤7∧(false=true∨n=0):=mayW_iff.trans ⟨fun h=>h.2.2,fun h=>⟨by omega,by omega,h⟩⟩
theorem mw6 (a b c n:Int):mayW 6 a b c n=true↔0≤a∧a≤7∧0≤b∧b≤7∧0≤c∧c≤7∧(false=true∨n=0):=mayW_iff.trans ⟨fun h=>h.2.2,fun h=>⟨by omega,by omega,h⟩⟩
theorem mw7 (a b c n:Int):mayW 7 a b c n=true↔0≤a∧a≤7∧0≤b∧b≤7∧0≤c∧c≤7∧(false=true∨n=0):=mayW_iff.trans ⟨fun h=>h.2.2,fun h=>⟨by omega,by omega,h⟩⟩
theorem mw8 (a b c n:Int):mayW 8 a b c n=true↔0≤a∧a≤7∧0≤b∧b≤7∧0≤c∧c≤15∧(false=true∨n=0):=mayW_iff.trans ⟨fun h=>h.2.2,fun h=>⟨by omega,by omega,h⟩⟩
theorem mw9 (a b c n:Int):mayW 9 a b c n=true↔0≤a∧a≤7∧0≤b∧b≤7∧0≤c∧c≤15∧(false=true∨n=0):=mayW_iff.trans ⟨fun h=>h.2.2,fun h=>⟨by omega,by omega,h⟩⟩
theorem mw10 (a b c n:Int):mayW 10 a b c n=true↔0≤a∧a≤7∧0≤b∧b≤7∧0≤c∧c≤0∧(false=true∨n=0):=mayW_iff.trans ⟨fun h=>h.2.2,fun h=>⟨by omega,by omega,h⟩⟩
theorem mw11 (a b c n:Int):mayW 11 a b c n=true↔0≤a∧a≤7∧0≤b∧b≤0∧0≤c∧c≤0∧(false=true∨n=0):=mayW_iff.trans ⟨fun h=>h.2.2,fun h=>⟨by omega,by omega,h⟩⟩
theorem mw12 (a b c n:Int):mayW 12 a b c n=true↔0≤a∧a≤0∧0≤b∧b≤0∧0≤c∧c≤40∧(false=true∨n=0):=mayW_iff.trans ⟨fun h=>h.2.2,fun h=>⟨by omega,by omega,h⟩⟩
theorem mw13 (a b c n:Int):mayW 13 a b c n=true↔0≤a∧a≤7∧0≤b∧b≤0∧0≤c∧c≤40∧(false=true∨n=0):=mayW_iff.trans ⟨fun h=>h.2.2,fun h=>⟨by omega,by omega,h⟩⟩
theorem mw14 (a b c n:Int):mayW 14 a b c n=true↔0≤a∧a≤0∧0≤b∧b≤0∧0≤c∧c≤0∧(false=true∨n=0):=mayW_iff.trans ⟨fun h=>h.2.2,fun h=>⟨by omega,by omega,h⟩⟩
theorem mw15 (a b c n:Int):mayW 15 a b c n=true↔0≤a∧a≤0∧0≤b∧b≤0∧0≤c∧c≤0∧(false=true∨n=0):=mayW_iff.trans ⟨fun h=>h.2.2,fun h=>⟨by omega,by omega,h⟩⟩
theorem mw16 (a b c n:Int):mayW 16 a b c n=true↔0≤a∧a≤0∧0≤b∧b≤0∧0≤c∧c≤0∧(false=true∨n=0):=mayW_iff.trans ⟨fun h=>h.2.2,fun h=>⟨by omega,by omega,h⟩⟩
theorem mw17 (a b c n:Int):mayW 17 a b c n=true↔0≤a∧a≤0∧0≤b∧b≤0∧0≤c∧c≤0∧(false=true∨n=0):=mayW_iff.trans ⟨fun h=>h.2.2,fun h=>⟨by omega,by omega,h⟩⟩
theorem mw18 (a b c n:Int):mayW 18 a b c n=true↔0≤a∧a≤0∧0≤b∧b≤0∧0≤c∧c≤0∧(false=true∨n=0):=mayW_iff.trans ⟨fun h=>h.2.2,fun h=>⟨by omega,by omega,h⟩⟩
theorem mw19 (a b c n:Int):mayW 19 a b c n=true↔0≤a∧a≤0∧0≤b∧b≤0∧0≤c∧c≤0∧(false=true∨n=0):=mayW_iff.trans ⟨fun h=>h.2.2,fun h=>⟨by omega,by omega,h⟩⟩
theorem mw20 (a b c n:Int):mayW 20 a b c n=true↔0≤a∧a≤0∧0≤b∧b≤0∧0≤c∧c≤0∧(false=true∨n=0):=mayW_iff.trans ⟨fun h=>h.2.2,fun h=>⟨by omega,by omega,h⟩⟩
theorem mw21 (a b c n:Int):mayW 21 a b c n=true↔0≤a∧a≤7∧0≤b∧b≤0∧0≤c∧c≤0∧(false=true∨n=0):=mayW_iff.trans ⟨fun h=>h.2.2,fun h=>⟨by omega,by omega,h⟩⟩
theorem mw22 (a b c n:Int):mayW 22 a b c n=true↔0≤a∧a≤0∧0≤b∧b≤0∧0≤c∧c≤0∧(false=true∨n=0):=mayW_iff.trans ⟨fun h=>h.2.2,fun h=>⟨by omega,by omega,h⟩⟩
theorem mw23 (a b c n:Int):mayW 23 a b c n=true↔1≤a∧a≤12∧0≤b∧b≤7∧0≤c∧c≤6∧(false=true∨n=0):=mayW_iff.trans ⟨fun h=>h.2.2,fun h=>⟨by omega,by omega,h⟩⟩
abbrev cm1_b1 (a:Int) (b:Int) (c:Int) (n:Int):List (Option LB):=[sN [.int .i64 1,.int .i64 a,.int .i64 b,.int .i64 c,.int .u64 n],sN [.int .i64 1,.int .i64 0,.int .i64 0,.int .i64 7]]
theorem cm1 (a b c n:Int) (rest:Glb) (K:Fk):(xfun prog (fun _=>none) 60 38 [insL 1 a b c n] (mkS [] (formsG rest)) (vF K))=(
 bif xcm .geq a 0 then(
 bif xcm .leq a 7 then(
 bif xcm .geq b 0 then(
 bif xcm .leq b 0 then(
 bif xcm .geq c 0 then(
 bif xcm .leq c 0 then(
 K (.bool true) (cm1_b1 a b c n) (formsG rest))
 else(
 K (.bool false) (cm1_b1 a b c n) (formsG rest)))
 else(
 K (.bool false) (cm1_b1 a b c n) (formsG rest)))
 else(
 K (.bool false) (cm1_b1 a b c n) (formsG rest)))
 else(
 K (.bool false) (cm1_b1 a b c n) (formsG rest)))
 else(
 K (.bool false) (cm1_b1 a b c n) (formsG rest)))
 else(
 K (.bool false) (cm1_b1 a b c n) (formsG rest))):=by kernel_rfl
abbrev cm2_b1 (a:Int) (b:Int) (c:Int) (n:Int):List (Option LB):=[sN [.int .i64 2,.int .i64 a,.int .i64 b,.int .i64 c,.int .u64 n],sN [.int .i64 1,.int .i64 1,.int .i64 0,.int .i64 0]]
theorem cm2 (a b c n:Int) (rest:Glb) (K:Fk):(xfun prog (fun _=>none) 60 38 [insL 2 a b c n] (mkS [] (formsG rest)) (vF K))=(
 bif xcm .geq a 0 then(
 bif xcm .leq a 7 then(
 bif xcm .geq b 0 then(
 bif xcm .leq b 7 then(
 bif xcm .geq c 0 then(
 bif xcm .leq c 0 then(
 K (.bool (xcm .eql n 0)) (cm2_b1 a b c n) (formsG rest))
 else(
 K (.bool false) (cm2_b1 a b c n) (formsG rest)))
 else(
 K (.bool false) (cm2_b1 a b c n) (formsG rest)))
 else(
 K (.bool false) (cm2_b1 a b c n) (formsG rest)))
 else(
 K (.bool false) (cm2_b1 a b c n) (formsG rest)))
 else(
 K (.bool false) (cm2_b1 a b c n) (formsG rest)))
 else(
 K (.bool false) (cm2_b1 a b c n) (formsG rest))):=by kernel_rfl
abbrev cm3_b1 (a:Int) (b:Int) (c:Int) (n:Int):List (Option LB):=[sN [.int .i64 3,.int .i64 a,.int .i64 b,.int .i64 c,.int .u64 n],sN [.int .i64 1,.int .i64 1,.int .i64 1,.int .i64 0]]
theorem cm3 (a b c n:Int) (rest:Glb) (K:Fk):(xfun prog (fun _=>none) 60 38 [insL 3 a b c n] (mkS [] (formsG rest)) (vF K))=(
 bif xcm .geq a 0 then(
 bif xcm .leq a 7 then(
 bif xcm .geq b 0 then(
 bif xcm .leq b 7 then(
 bif xcm .geq c 0 then(
 bif xcm .leq c 7 then(
 K (.bool (xcm .eql n 0)) (cm3_b1 a b c n) (formsG rest))
 else(
 K (.bool false) (cm3_b1 a b c n) (formsG rest)))
 else(
 K (.bool false) (cm3_b1 a b c n) (formsG rest)))
 else(
 K (.bool false) (cm3_b1 a b c n) (formsG rest)))
 else(
 K (.bool false) (cm3_b1 a b c n) (formsG rest)))
 else(
 K (.bool false) (cm3_b1 a b c n) (formsG rest)))
 else(
 K (.bool false) (cm3_b1 a b c n) (formsG rest))):=by kernel_rfl
abbrev cm4_b1 (a:Int) (b:Int) (c:Int) (n:Int):List (Option LB):=[sN [.int .i64 4,.int .i64 a,.int .i64 b,.int .i64 c,.int .u64 n],sN [.int .i64 1,.int .i64 1,.int .i64 1,.int .i64 0]]
theorem cm4 (a b c n:Int) (rest:Glb) (K:Fk):(xfun prog (fun _=>none) 60 38 [insL 4 a b c n] (mkS [] (formsG rest)) (vF K))=(
 bif xcm .geq a 0 then(
 bif xcm .leq a 7 then(
 bif xcm .geq b 0 then(
 bif xcm .leq b 7 then(
 bif xcm .geq c 0 then(
 bif xcm .leq c 7 then(
 K (.bool (xcm .eql n 0)) (cm4_b1 a b c n) (formsG rest))
 else(
 K (.bool false) (cm4_b1 a b c n) (formsG rest)))
 else(
 K (.bool false) (cm4_b1 a b c n) (formsG rest)))
 else(
 K (.bool false) (cm4_b1 a b c n) (formsG rest)))
 else(
 K (.bool false) (cm4_b1 a b c n) (formsG rest)))
 else(
 K (.bool false) (cm4_b1 a b c n) (formsG rest)))
 else(
 K (.bool false) (cm4_b1 a b c n) (formsG rest))):=by kernel_rfl
abbrev cm5_b1 (a:Int) (b:Int) (c:Int) (n:Int):List (Option LB):=[sN [.int .i64 5,.int .i64 a,.int .i64 b,.int .i64 c,.int .u64 n],sN [.int .i64 1,.int .i64 1,.int .i64 1,.int .i64 0]]
theorem cm5 (a b c n:Int) (rest:Glb) (K:Fk):(xfun prog (fun _=>none) 60 38 [insL 5 a b c n] (mkS [] (formsG rest)) (vF K))=(
 bif xcm .geq a 0 then(
 bif xcm .leq a 7 then(
 bif xcm .geq b 0 then(
 bif xcm .leq b 7 then(
 bif xcm .geq c 0 then(
 bif xcm .leq c 7 then(
 K (.bool (xcm .eql n 0)) (cm5_b1 a b c n) (formsG rest))
 else(
 K (.bool false) (cm5_b1 a b c n) (formsG rest)))
 else(
 K (.bool false) (cm5_b1 a b c n) (formsG rest)))
 else(
 K (.bool false) (cm5_b1 a b c n) (formsG rest)))
 else(
 K (.bool false) (cm5_b1 a b c n) (formsG rest)))
 else(
 K (.bool false) (cm5_b1 a b c n) (formsG rest)))
 else(
 K (.bool false) (cm5_b1 a b c n) (formsG rest))):=by kernel_rfl
abbrev cm6_b1 (a:Int) (b:Int) (c:Int) (n:Int):List (Option LB):=[sN [.int .i64 6,.int .i64 a,.int .i64 b,.int .i64 c,.int .u64 n],sN [.int .i64 1,.int .i64 1,.int .i64 1,.int .i64 0]]
theorem cm6 (a b c n:Int) (rest:Glb) (K:Fk):(xfun prog (fun _=>none) 60 38 [insL 6 a b c n] (mkS [] (formsG rest)) (vF K))=(
 bif xcm .geq a 0 then(
 bif xcm .leq a 7 then(
 bif xcm .geq b 0 then(
 bif xcm .leq b 7 then(
 bif xcm .geq c 0 then(
 bif xcm .leq c 7 then(
 K (.bool (xcm .eql n 0)) (cm6_b1 a b c n) (formsG rest))
 else(
 K (.bool false) (cm6_b1 a b c n) (formsG rest)))
 else(
 K (.bool false) (cm6_b1 a b c n) (formsG rest)))
 else(
 K (.bool false) (cm6_b1 a b c n) (formsG rest)))
 else(
 K (.bool false) (cm6_b1 a b c n) (formsG rest)))
 else(
 K (.bool false) (cm6_b1 a b c n) (formsG rest)))
 else(
 K (.bool false) (cm6_b1 a b c n) (formsG rest))):=by kernel_rfl
abbrev cm7_b1 (a:Int) (b:Int) (c:Int) (n:Int):List (Option LB):=[sN [.int .i64 7,.int .i64 a,.int .i64 b,.int .i64 c,.int .u64 n],sN [.int .i64 1,.int .i64 1,.int .i64 1,.int .i64 0]]
theorem cm7 (a b c n:Int) (rest:Glb) (K:Fk):(xfun prog (fun _=>none) 60 38 [insL 7 a b c n] (mkS [] (formsG rest)) (vF K))=(
 bif xcm .geq a 0 then(
 bif xcm .leq a 7 then(
 bif xcm .geq b 0 then(
 bif xcm .leq b 7 then(
 bif xcm .geq c 0 then(
 bif xcm .leq c 7 then(
 K (.bool (xcm .eql n 0)) (cm7_b1 a b c n) (formsG rest))
 else(
 K (.bool false) (cm7_b1 a b c n) (formsG rest)))
 else(
 K (.bool false) (cm7_b1 a b c n) (formsG rest)))
 else(
 K (.bool false) (cm7_b1 a b c n) (formsG rest)))
 else(
 K (.bool false) (cm7_b1 a b c n) (formsG rest)))
 else(
 K (.bool false) (cm7_b1 a b c n) (formsG rest)))
 else(
 K (.bool false) (cm7_b1 a b c n) (formsG rest))):=by kernel_rfl
abbrev cm8_b1 (a:Int) (b:Int) (c:Int) (n:Int):List (Option LB):=[sN [.int .i64 8,.int .i64 a,.int .i64 b,.int .i64 c,.int .u64 n],sN [.int .i64 1,.int .i64 1,.int .i64 3,.int .i64 0]]
theorem cm8 (a b c n:Int) (rest:Glb) (K:Fk):(xfun prog (fun _=>none) 60 38 [insL 8 a b c n] (mkS [] (formsG rest)) (vF K))=(
 bif xcm .geq a 0 then(
 bif xcm .leq a 7 then(
 bif xcm .geq b 0 then(
 bif xcm .leq b 7 then(
 bif xcm .geq c 0 then(
 bif xcm .leq c 15 then(
 K (.bool (xcm .eql n 0)) (cm8_b1 a b c n) (formsG rest))
 else(
 K (.bool false) (cm8_b1 a b c n) (formsG rest)))
 else(
 K (.bool false) (cm8_b1 a b c n) (formsG rest)))
 else(
 K (.bool false) (cm8_b1 a b c n) (formsG rest)))
 else(
 K (.bool false) (cm8_b1 a b c n) (formsG rest)))
 else(
 K (.bool false) (cm8_b1 a b c n) (formsG rest)))
 else(
 K (.bool false) (cm8_b1 a b c n) (formsG rest))):=by kernel_rfl
abbrev cm9_b1 (a:Int) (b:Int) (c:Int) (n:Int):List (Option LB):=[sN [.int .i64 9,.int .i64 a,.int .i64 b,.int .i64 c,.int .u64 n],sN [.int .i64 1,.int .i64 1,.int .i64 3,.int .i64 0]]
theorem cm9 (a b c n:Int) (rest:Glb) (K:Fk):(xfun prog (fun _=>none) 60 38 [insL 9 a b c n] (mkS [] (formsG rest)) (vF K))=(
 bif xcm .geq a 0 then(
 bif xcm .leq a 7 then(
 bif xcm .geq b 0 then(
 bif xcm .leq b 7 then(
 bif xcm .geq c 0 then(
 bif xcm .leq c 15 then(
 K (.bool (xcm .eql n 0)) (cm9_b1 a b c n) (formsG rest))
 else(
 K (.bool false) (cm9_b1 a b c n) (formsG rest)))
 else(
 K (.bool false) (cm9_b1 a b c n) (formsG rest)))
 else(
 K (.bool false) (cm9_b1 a b c n) (formsG rest)))
 else(
 K (.bool false) (cm9_b1 a b c n) (formsG rest)))
 else(
 K (.bool false) (cm9_b1 a b c n) (formsG rest)))
 else(
 K (.bool false) (cm9_b1 a b c n) (formsG rest))):=by kernel_rfl
abbrev cm10_b1 (a:Int) (b:Int) (c:Int) (n:Int):List (Option LB):=[sN [.int .i64 10,.int .i64 a,.int .i64 b,.int .i64 c,.int .u64 n],sN [.int .i64 1,.int .i64 1,.int .i64 0,.int .i64 0]]
theorem cm10 (a b c n:Int) (rest:Glb) (K:Fk):(xfun prog (fun _=>none) 60 38 [insL 10 a b c n] (mkS [] (formsG rest)) (vF K))=(
 bif xcm .geq a 0 then(
 bif xcm .leq a 7 then(
 bif xcm .geq b 0 then(
 bif xcm .leq b 7 then(
 bif xcm .geq c 0 then(
 bif xcm .leq c 0 then(
 K (.bool (xcm .eql n 0)) (cm10_b1 a b c n) (formsG rest))
 else(
 K (.bool false) (cm10_b1 a b c n) (formsG rest)))
 else(
 K (.bool false) (cm10_b1 a b c n) (formsG rest)))
 else(
 K (.bool false) (cm10_b1 a b c n) (formsG rest)))
 else(
 K (.bool false) (cm10_b1 a b c n) (formsG rest)))
 else(
 K (.bool false) (cm10_b1 a b c n) (formsG rest)))
 else(
 K (.bool false) (cm10_b1 a b c n) (formsG rest))):=by kernel_rfl
abbrev cm11_b1 (a:Int) (b:Int) (c:Int) (n:Int):List (Option LB):=[sN [.int .i64 11,.int .i64 a,.int .i64 b,.int .i64 c,.int .u64 n],sN [.int .i64 1,.int .i64 0,.int .i64 0,.int .i64 0]]
theorem cm11 (a b c n:Int) (rest:Glb) (K:Fk):(xfun prog (fun _=>none) 60 38 [insL 11 a b c n] (mkS [] (formsG rest)) (vF K))=(
 bif xcm .geq a 0 then(
 bif xcm .leq a 7 then(
 bif xcm .geq b 0 then(
 bif xcm .leq b 0 then(
 bif xcm .geq c 0 then(
 bif xcm .leq c 0 then(
 K (.bool (xcm .eql n 0)) (cm11_b1 a b c n) (formsG rest))
 else(
 K (.bool false) (cm11_b1 a b c n) (formsG rest)))
 else(
 K (.bool false) (cm11_b1 a b c n) (formsG rest)))
 else(
 K (.bool false) (cm11_b1 a b c n) (formsG rest)))
 else(
 K (.bool false) (cm11_b1 a b c n) (formsG rest)))
 else(
 K (.bool false) (cm11_b1 a b c n) (formsG rest)))
 else(
 K (.bool false) (cm11_b1 a b c n) (formsG rest))):=by kernel_rfl
abbrev cm12_b1 (a:Int) (b:Int) (c:Int) (n:Int):List (Option LB):=[sN [.int .i64 12,.int .i64 a,.int .i64 b,.int .i64 c,.int .u64 n],sN [.int .i64 0,.int .i64 0,.int .i64 4,.int .i64 0]]
theorem cm12 (a b c n:Int) (rest:Glb) (K:Fk):(xfun prog (fun _=>none) 60 38 [insL 12 a b c n] (mkS [] (formsG rest)) (vF K))=(
 bif xcm .geq a 0 then(
 bif xcm .leq a 0 then(
 bif xcm .geq b 0 then(
 bif xcm .leq b 0 then(
 bif xcm .geq c 0 then(
 bif xcm .leq c 40 then(
 K (.bool (xcm .eql n 0)) (cm12_b1 a b c n) (formsG rest))
 else(
 K (.bool false) (cm12_b1 a b c n) (formsG rest)))
 else(
 K (.bool false) (cm12_b1 a b c n) (formsG rest)))
 else(
 K (.bool false) (cm12_b1 a b c n) (formsG rest)))
 else(
 K (.bool false) (cm12_b1 a b c n) (formsG rest)))
 else(
 K (.bool false) (cm12_b1 a b c n) (formsG rest)))
 else(
 K (.bool false) (cm12_b1 a b c n) (formsG rest))):=by kernel_rfl
abbrev cm13_b1 (a:Int) (b:Int) (c:Int) (n:Int):List (Option LB):=[sN [.int .i64 13,.int .i64 a,.int .i64 b,.int .i64 c,.int .u64 n],sN [.int .i64 1,.int .i64 0,.int .i64 4,.int .i64 0]]
theorem cm13 (a b c n:Int) (rest:Glb) (K:Fk):(xfun prog (fun _=>none) 60 38 [insL 13 a b c n] (mkS [] (formsG rest)) (vF K))=(
 bif xcm .geq a 0 then(
 bif xcm .leq a 7 then(
 bif xcm .geq b 0 then(
 bif xcm .leq b 0 then(
 bif xcm .geq c 0 then(
 bif xcm .leq c 40 then(
 K (.bool (xcm .eql n 0)) (cm13_b1 a b c n) (formsG rest))
 else(
 K (.bool false) (cm13_b1 a b c n) (formsG rest)))
 else(
 K (.bool false) (cm13_b1 a b c n) (formsG rest)))
 else(
 K (.bool false) (cm13_b1 a b c n) (formsG rest)))
 else(
 K (.bool false) (cm13_b1 a b c n) (formsG rest)))
 else(
 K (.bool false) (cm13_b1 a b c n) (formsG rest)))
 else(
 K (.bool false) (cm13_b1 a b c n) (formsG rest))):=by kernel_rfl
abbrev cm14_b1 (a:Int) (b:Int) (c:Int) (n:Int):List (Option LB):=[sN [.int .i64 14,.int .i64 a,.int .i64 b,.int .i64 c,.int .u64 n],sN [.int .i64 0,.int .i64 0,.int .i64 0,.int .i64 0]]
theorem cm14 (a b c n:Int) (rest:Glb) (K:Fk):(xfun prog (fun _=>none) 60 38 [insL 14 a b c n] (mkS [] (formsG rest)) (vF K))=(
 bif xcm .geq a 0 then(
 bif xcm .leq a 0 then(
 bif xcm .geq b 0 then(
 bif xcm .leq b 0 then(
 bif xcm .geq c 0 then(
 bif xcm .leq c 0 then(
 K (.bool (xcm .eql n 0)) (cm14_b1 a b c n) (formsG rest))
 else(
 K (.bool false) (cm14_b1 a b c n) (formsG rest)))
 else(
 K (.bool false) (cm14_b1 a b c n) (formsG rest)))
 else(
 K (.bool false) (cm14_b1 a b c n) (formsG rest)))
 else(
 K (.bool false) (cm14_b1 a b c n) (formsG rest)))
 else(
 K (.bool false) (cm14_b1 a b c n) (formsG rest)))
 else(
 K (.bool false) (cm14_b1 a b c n) (formsG rest))):=by kernel_rfl
abbrev cm15_b1 (a:Int) (b:Int) (c:Int) (n:Int):List (Option LB):=[sN [.int .i64 15,.int .i64 a,.int .i64 b,.int .i64 c,.int .u64 n],sN [.int .i64 0,.int .i64 0,.int .i64 0,.int .i64 0]]
theorem cm15 (a b c n:Int) (rest:Glb) (K:Fk):(xfun prog (fun _=>none) 60 38 [insL 15 a b c n] (mkS [] (formsG rest)) (vF K))=(
 bif xcm .geq a 0 then(
 bif xcm .leq a 0 then(
 bif xcm .geq b 0 then(
 bif xcm .leq b 0 then(
 bif xcm .geq c 0 then(
 bif xcm .leq c 0 then(
 K (.bool (xcm .eql n 0)) (cm15_b1 a b c n) (formsG rest))
 else(
 K (.bool false) (cm15_b1 a b c n) (formsG rest)))
 else(
 K (.bool false) (cm15_b1 a b c n) (formsG rest)))
 else(
 K (.bool false) (cm15_b1 a b c n) (formsG rest)))
 else(
 K (.bool false) (cm15_b1 a b c n) (formsG rest)))
 else(
 K (.bool false) (cm15_b1 a b c n) (formsG rest)))
 else(
 K (.bool false) (cm15_b1 a b c n) (formsG rest))):=by kernel_rfl
abbrev cm16_b1 (a:Int) (b:Int) (c:Int) (n:Int):List (Option LB):=[sN [.int .i64 16,.int .i64 a,.int .i64 b,.int .i64 c,.int .u64 n],sN [.int .i64 0,.int .i64 0,.int .i64 0,.int .i64 0]]
theorem cm16 (a b c n:Int) (rest:Glb) (K:Fk):(xfun prog (fun _=>none) 60 38 [insL 16 a b c n] (mkS [] (formsG rest)) (vF K))=(
 bif xcm .geq a 0 then(
 bif xcm .leq a 0 then(
 bif xcm .geq b 0 then(
 bif xcm .leq b 0 then(
 bif xcm .geq c 0 then(
 bif xcm .leq c 0 then(
 K (.bool (xcm .eql n 0)) (cm16_b1 a b c n) (formsG rest))
 else(
 K (.bool false) (cm16_b1 a b c n) (formsG rest)))
 else(
 K (.bool false) (cm16_b1 a b c n) (formsG rest)))
 else(
 K (.bool false) (cm16_b1 a b c n) (formsG rest)))
 else(
 K (.bool false) (cm16_b1 a b c n) (formsG rest)))
 else(
 K (.bool false) (cm16_b1 a b c n) (formsG rest)))
 else(
 K (.bool false) (cm16_b1 a b c n) (formsG rest))):=by kernel_rfl
abbrev cm17_b1 (a:Int) (b:Int) (c:Int) (n:Int):List (Option LB):=[sN [.int .i64 17,.int .i64 a,.int .i64 b,.int .i64 c,.int .u64 n],sN [.int .i64 0,.int .i64 0,.int .i64 0,.int .i64 0]]
theorem cm17 (a b c n:Int) (rest:Glb) (K:Fk):(xfun prog (fun _=>none) 60 38 [insL 17 a b c n] (mkS [] (formsG rest)) (vF K))=(
 bif xcm .geq a 0 then(
 bif xcm .leq a 0 then(
 bif xcm .geq b 0 then(
 bif xcm .leq b 0 then(
 bif xcm .geq c 0 then(
 bif xcm .leq c 0 then(
 K (.bool (xcm .eql n 0)) (cm17_b1 a b c n) (formsG rest))
 else(
 K (.bool false) (cm17_b1 a b c n) (formsG rest)))
 else(
 K (.bool false) (cm17_b1 a b c n) (formsG rest)))
 else(
 K (.bool false) (cm17_b1 a b c n) (formsG rest)))
 else(
 K (.bool false) (cm17_b1 a b c n) (formsG rest)))
 else(
 K (.bool false) (cm17_b1 a b c n) (formsG rest)))
 else(
 K (.bool false) (cm17_b1 a b c n) (formsG rest))):=by kernel_rfl
abbrev cm18_b1 (a:Int) (b:Int) (c:Int) (n:Int):List (Option LB):=[sN [.int .i64 18,.int .i64 a,.int .i64 b,.int .i64 c,.int .u64 n],sN [.int .i64 0,.int .i64 0,.int .i64 0,.int .i64 0]]
theorem cm18 (a b c n:Int) (rest:Glb) (K:Fk):(xfun prog (fun _=>none) 60 38 [insL 18 a b c n] (mkS [] (formsG rest)) (vF K))=(
 bif xcm .geq a 0 then(
 bif xcm .leq a 0 then(
 bif xcm .geq b 0 then(
 bif xcm .leq b 0 then(
 bif xcm .geq c 0 then(
 bif xcm .leq c 0 then(
 K (.bool (xcm .eql n 0)) (cm18_b1 a b c n) (formsG rest))
 else(
 K (.bool false) (cm18_b1 a b c n) (formsG rest)))
 else(
 K (.bool false) (cm18_b1 a b c n) (formsG rest)))
 else(
 K (.bool false) (cm18_b1 a b c n) (formsG rest)))
 else(
 K (.bool false) (cm18_b1 a b c n) (formsG rest)))
 else(
 K (.bool false) (cm18_b1 a b c n) (formsG rest)))
 else(
 K (.bool false) (cm18_b1 a b c n) (formsG rest))):=by kernel_rfl
abbrev cm19_b1 (a:Int) (b:Int) (c:Int) (n:Int):List (Option LB):=[sN [.int .i64 19,.int .i64 a,.int .i64 b,.int .i64 c,.int .u64 n],sN [.int .i64 0,.int .i64 0,.int .i64 0,.int .i64 0]]
theorem cm19 (a b c n:Int) (rest:Glb) (K:Fk):(xfun prog (fun _=>none) 60 38 [insL 19 a b c n] (mkS [] (formsG rest)) (vF K))=(
 bif xcm .geq a 0 then(
 bif xcm .leq a 0 then(
 bif xcm .geq b 0 then(
 bif xcm .leq b 0 then(
 bif xcm .geq c 0 then(
 bif xcm .leq c 0 then(
 K (.bool (xcm .eql n 0)) (cm19_b1 a b c n) (formsG rest))
 else(
 K (.bool false) (cm19_b1 a b c n) (formsG rest)))
 else(
 K (.bool false) (cm19_b1 a b c n) (formsG rest)))
 else(
 K (.bool false) (cm19_b1 a b c n) (formsG rest)))
 else(
 K (.bool false) (cm19_b1 a b c n) (formsG rest)))
 else(
 K (.bool false) (cm19_b1 a b c n) (formsG rest)))
 else(
 K (.bool false) (cm19_b1 a b c n) (formsG rest))):=by kernel_rfl
abbrev cm20_b1 (a:Int) (b:Int) (c:Int) (n:Int):List (Option LB):=[sN [.int .i64 20,.int .i64 a,.int .i64 b,.int .i64 c,.int .u64 n],sN [.int .i64 0,.int .i64 0,.int .i64 0,.int .i64 0]]
theorem cm20 (a b c n:Int) (rest:Glb) (K:Fk):(xfun prog (fun _=>none) 60 38 [insL 20 a b c n] (mkS [] (formsG rest)) (vF K))=(
 bif xcm .geq a 0 then(
 bif xcm .leq a 0 then(
 bif xcm .geq b 0 then(
 bif xcm .leq b 0 then(
 bif xcm .geq c 0 then(
 bif xcm .leq c 0 then(
 K (.bool (xcm .eql n 0)) (cm20_b1 a b c n) (formsG rest))
 else(
 K (.bool false) (cm20_b1 a b c n) (formsG rest)))
 else(
 K (.bool false) (cm20_b1 a b c n) (formsG rest)))
 else(
 K (.bool false) (cm20_b1 a b c n) (formsG rest)))
 else(
 K (.bool false) (cm20_b1 a b c n) (formsG rest)))
 else(
 K (.bool false) (cm20_b1 a b c n) (formsG rest)))
 else(
 K (.bool false) (cm20_b1 a b c n) (formsG rest))):=by kernel_rfl
abbrev cm21_b1 (a:Int) (b:Int) (c:Int) (n:Int):List (Option LB):=[sN [.int .i64 21,.int .i64 a,.int .i64 b,.int .i64 c,.int .u64 n],sN [.int .i64 1,.int .i64 0,.int .i64 0,.int .i64 0]]
theorem cm21 (a b c n:Int) (rest:Glb) (K:Fk):(xfun prog (fun _=>none) 60 38 [insL 21 a b c n] (mkS [] (formsG rest)) (vF K))=(
 bif xcm .geq a 0 then(
 bif xcm .leq a 7 then(
 bif xcm .geq b 0 then(
 bif xcm .leq b 0 then(
 bif xcm .geq c 0 then(
 bif xcm .leq c 0 then(
 K (.bool (xcm .eql n 0)) (cm21_b1 a b c n) (formsG rest))
 else(
 K (.bool false) (cm21_b1 a b c n) (formsG rest)))
 else(
 K (.bool false) (cm21_b1 a b c n) (formsG rest)))
 else(
 K (.bool false) (cm21_b1 a b c n) (formsG rest)))
 else(
 K (.bool false) (cm21_b1 a b c n) (formsG rest)))
 else(
 K (.bool false) (cm21_b1 a b c n) (formsG rest)))
 else(
 K (.bool false) (cm21_b1 a b c n) (formsG rest))):=by kernel_rfl
abbrev cm22_b1 (a:Int) (b:Int) (c:Int) (n:Int):List (Option LB):=[sN [.int .i64 22,.int .i64 a,.int .i64 b,.int .i64 c,.int .u64 n],sN [.int .i64 0,.int .i64 0,.int .i64 0,.int .i64 0]]
theorem cm22 (a b c n:Int) (rest:Glb) (K:Fk):(xfun prog (fun _=>none) 60 38 [insL 22 a b c n] (mkS [] (formsG rest)) (vF K))=(
 bif xcm .geq a 0 then(
 bif xcm .leq a 0 then(
 bif xcm .geq b 0 then(
 bif xcm .leq b 0 then(
 bif xcm .geq c 0 then(
 bif xcm .leq c 0 then(
 K (.bool (xcm .eql n 0)) (cm22_b1 a b c n) (formsG rest))
 else(
 K (.bool false) (cm22_b1 a b c n) (formsG rest)))
 else(
 K (.bool false) (cm22_b1 a b c n) (formsG rest)))
 else(
 K (.bool false) (cm22_b1 a b c n) (formsG rest)))
 else(
 K (.bool false) (cm22_b1 a b c n) (formsG rest)))
 else(
 K (.bool false) (cm22_b1 a b c n) (formsG rest)))
 else(
 K (.bool false) (cm22_b1 a b c n) (formsG rest))):=by kernel_rfl
abbrev cm23_b1 (a:Int) (b:Int) (c:Int) (n:Int):List (Option LB):=[sN [.int .i64 23,.int .i64 a,.int .i64 b,.int .i64 c,.int .u64 n],sN [.int .i64 6,.int .i64 5,.int .i64 2,.int .i64 0]]
theorem cm23 (a b c n:Int) (rest:Glb) (K:Fk):(xfun prog (fun _=>none) 60 38 [insL 23 a b c n] (mkS [] (formsG rest)) (vF K))=(
 bif xcm .geq a 1 then(
 bif xcm .leq a 12 then(
 bif xcm .geq b 0 then(
 bif xcm .leq b 7 then(
 bif xcm .geq c 0 then(
 bif xcm .leq c 6 then(
 K (.bool (xcm .eql n 0)) (cm23_b1 a b c n) (formsG rest))
 else(
 K (.bool false) (cm23_b1 a b c n) (formsG rest)))
 else(
 K (.bool false) (cm23_b1 a b c n) (formsG rest)))
 else(
 K (.bool false) (cm23_b1 a b c n) (formsG rest)))
 else(
 K (.bool false) (cm23_b1 a b c n) (formsG rest)))
 else(
 K (.bool false) (cm23_b1 a b c n) (formsG rest)))
 else(
 K (.bool false) (cm23_b1 a b c n) (formsG rest))):=by kernel_rfl
def isOutG:Gc:=fun args s=>match args with
 | [.int .i64 op]=>some ([outW op],.bool false,s)
 | _=>none
theorem isx (op:Int) (g:Glb) (K:Fk):(xfun prog (fun _=>none) 60 32 [.int .i64 op] (mkS [] g) (vF K))=(
 bif xcm .geq op 1 then(
 K (.bool (xcm .lss op 24)) [] g)
 else(
 K (.bool false) [] g)):=by kernel_rfl
theorem is_out (op:Int) (g:Glb) (h:op < 1∨23 < op):SFun prog 32 [.int .i64 op] (mkS [] g) fun l s=>l=.bool false∧s=mkS [] g:=by
 refine SFun.mono (SFun.vc (Q:=fun l b=>l=.bool false∧b=[]) noCx_ok (n:=60) 0 rfl ?_) fun l s' ⟨b0,⟨h1,h2⟩,h3⟩=>⟨h1,by rw [h3,h2]⟩
 rw [isx]
 simp only [xcm_geq,xcm_leq,xcm_eql,xcm_neq,xcm_lss,xcm_gtr]
 repeat' (first | refine ite_way (fun _=>?_) (fun _=>?_) | refine nite_way (fun _=>?_) (fun _=>?_))
 all_goals first
  | (refine⟨rfl,_,_,[],⟨rfl,rfl⟩,?_⟩; rw [show decide (op < 24)=false from decide_eq_false (by omega)]; (exact zC); done)
  | (refine⟨rfl,_,_,[],⟨rfl,rfl⟩,?_⟩; (exact zC); done)
  | omega
theorem SFun.pure2 {P:Program} {f:Nat} {args:List LV} {v:LV} {s:St} (hfr:∀ b,s.n≤b→s.h.get b=none) (ha:noIds args=true) (hv:noId v=true) (h:SFun P f args (mkS [] s.g) fun l s'=>l=v∧s'=mkS [] s.g):SFun P f args s fun l s'=>l=v∧s'=s :=
 SFun.lift_ro (ρ:=[]) (bs:=[]) hfr List.nodup_nil trivial (noIds_LVWs ha) hv h
theorem isOutG_ok:GOk prog 32 isOutG:=by
 intro args s bs l s' hg hb hfr
 unfold isOutG at hg
 split at hg
 ·rename_i op
  simp only [Option.some.injEq,Prod.mk.injEq] at hg
  obtain⟨rfl,rfl,rfl⟩:=hg
  simp only [allT_cons] at hb
  exact SFun.pure2 hfr rfl rfl (is_out op s.g (outW_iff.1 hb.1))
 ·cases hg
def cxo:Cx:=cxl [(32,isOutG)]
theorem cxo_ok:CtrOk prog (ctrOf cxo):=cxl_ok ⟨isOutG_ok,trivial⟩
theorem cmx (op a b c n:Int) (g:Glb) (K:Fk):(xfun prog cxo 60 38 [insL op a b c n] (mkS [] g) (vF K))=(
 ck (outW op) <|
 K (.bool false) [sN [.int .i64 op,.int .i64 a,.int .i64 b,.int .i64 c,.int .u64 n]] g):=by kernel_rfl
theorem cmay1 (a b c n:Int) (rest:Glb):SFun prog 38 [insL 1 a b c n] (mkS [] (formsG rest)) fun l s=>l=.bool (mayW 1 a b c n)∧s=mkS [] (formsG rest):=by
 refine SFun.mono (SFun.vc (Q:=fun l bb=>l=.bool (mayW 1 a b c n)∧bb=[]) noCx_ok (n:=60) 0 rfl ?_) fun l s' ⟨b0,⟨h1,h2⟩,h3⟩=>⟨h1,by rw [h3,h2]⟩
 rw [cm1]
 simp only [xcm_geq,xcm_leq,xcm_eql,xcm_neq,xcm_lss,xcm_gtr,wd_not]
 repeat' (first | refine ite_way (fun _=>?_) (fun _=>?_) | refine nite_way (fun _=>?_) (fun _=>?_))
 all_goals first
  | (refine⟨rfl,_,_,[],⟨rfl,rfl⟩,leafB ((mw1 a b c n).2 ?_)⟩; simp only [Bool.false_eq_true,false_or,true_or,and_true]; omega)
  | (refine⟨rfl,_,_,[],⟨rfl,rfl⟩,leafB (Bool.eq_false_iff.2 fun hh=>?_)⟩; have:=(mw1 a b c n).1 hh; simp only [Bool.false_eq_true,false_or,true_or,and_true] at this; omega)
  | (refine⟨rfl,_,_,[],⟨rfl,rfl⟩,leafB (Bool.eq_iff_iff.2 ((mw1 a b c n).trans ?_))⟩; simp only [Bool.false_eq_true,false_or,true_or,and_true,decide_eq_true_eq]; omega)
  | omega
theorem cmay2 (a b c n:Int) (rest:Glb):SFun prog 38 [insL 2 a b c n] (mkS [] (formsG rest)) fun l s=>l=.bool (mayW 2 a b c n)∧s=mkS [] (formsG rest):=by
 refine SFun.mono (SFun.vc (Q:=fun l bb=>l=.bool (mayW 2 a b c n)∧bb=[]) noCx_ok (n:=60) 0 rfl ?_) fun l s' ⟨b0,⟨h1,h2⟩,h3⟩=>⟨h1,by rw [h3,h2]⟩
 rw [cm2]
 simp only [xcm_geq,xcm_leq,xcm_eql,xcm_neq,xcm_lss,xcm_gtr,wd_not]
 repeat' (first | refine ite_way (fun _=>?_) (fun _=>?_) | refine nite_way (fun _=>?_) (fun _=>?_))
 all_goals first
  | (refine⟨rfl,_,_,[],⟨rfl,rfl⟩,leafB ((mw2 a b c n).2 ?_)⟩; simp only [Bool.false_eq_true,false_or,true_or,and_true]; omega)
  | (refine⟨rfl,_,_,[],⟨rfl,rfl⟩,leafB (Bool.eq_false_iff.2 fun hh=>?_)⟩; have:=(mw2 a b c n).1 hh; simp only [Bool.false_eq_true,false_or,true_or,and_true] at this; omega)
  | (refine⟨rfl,_,_,[],⟨rfl,rfl⟩,leafB (Bool.eq_iff_iff.2 ((mw2 a b c n).trans ?_))⟩; simp only [Bool.false_eq_true,false_or,true_or,and_true,decide_eq_true_eq]; omega)
  | omega
theorem cmay3 (a b c n:Int) (rest:Glb):SFun prog 38 [insL 3 a b c n] (mkS [] (formsG rest)) fun l s=>l=.bool (mayW 3 a b c n)∧s=mkS [] (formsG rest):=by
 refine SFun.mono (SFun.vc (Q:=fun l bb=>l=.bool (mayW 3 a b c n)∧bb=[]) noCx_ok (n:=60) 0 rfl ?_) fun l s' ⟨b0,⟨h1,h2⟩,h3⟩=>⟨h1,by rw [h3,h2]⟩
 rw [cm3]
 simp only [xcm_geq,xcm_leq,xcm_eql,xcm_neq,xcm_lss,xcm_gtr,wd_not]
 repeat' (first | refine ite_way (fun _=>?_) (fun _=>?_) | refine nite_way (fun _=>?_) (fun _=>?_))
 all_goals first
  | (refine⟨rfl,_,_,[],⟨rfl,rfl⟩,leafB ((mw3 a b c n).2 ?_)⟩; simp only [Bool.false_eq_true,false_or,true_or,and_true]; omega)
  | (refine⟨rfl,_,_,[],⟨rfl,rfl⟩,leafB (Bool.eq_false_iff.2 fun hh=>?_)⟩; have:=(mw3 a b c n).1 hh; simp only [Bool.false_eq_true,false_or,true_or,and_true] at this; omega)
  | (refine⟨rfl,_,_,[],⟨rfl,rfl⟩,leafB (Bool.eq_iff_iff.2 ((mw3 a b c n).trans ?_))⟩; simp only [Bool.false_eq_true,false_or,true_or,and_true,decide_eq_true_eq]; omega)
  | omega
theorem cmay4 (a b c n:Int) (rest:Glb):SFun prog 38 [insL 4 a b c n] (mkS [] (formsG rest)) fun l s=>l=.bool (mayW 4 a b c n)∧s=mkS [] (formsG rest):=by
 refine SFun.mono (SFun.vc (Q:=fun l bb=>l=.bool (mayW 4 a b c n)∧bb=[]) noCx_ok (n:=60) 0 rfl ?_) fun l s' ⟨b0,⟨h1,h2⟩,h3⟩=>⟨h1,by rw [h3,h2]⟩
 rw [cm4]
 simp only [xcm_geq,xcm_leq,xcm_eql,xcm_neq,xcm_lss,xcm_gtr,wd_not]
 repeat' (first | refine ite_way (fun _=>?_) (fun _=>?_) | refine nite_way (fun _=>?_) (fun _=>?_))
 all_goals first
  | (refine⟨rfl,_,_,[],⟨rfl,rfl⟩,leafB ((mw4 a b c n).2 ?_)⟩; simp only [Bool.false_eq_true,false_or,true_or,and_true]; omega)
  | (refine⟨rfl,_,_,[],⟨rfl,rfl⟩,leafB (Bool.eq_false_iff.2 fun hh=>?_)⟩; have:=(mw4 a b c n).1 hh; simp only [Bool.false_eq_true,false_or,true_or,and_true] at this; omega)
  | (refine⟨rfl,_,_,[],⟨rfl,rfl⟩,leafB (Bool.eq_iff_iff.2 ((mw4 a b c n).trans ?_))⟩; simp only [Bool.false_eq_true,false_or,true_or,and_true,decide_eq_true_eq]; omega)
  | omega
theorem cmay5 (a b c n:Int) (rest:Glb):SFun prog 38 [insL 5 a b c n] (mkS [] (formsG rest)) fun l s=>l=.bool (mayW 5 a b c n)∧s=mkS [] (formsG rest):=by
 refine SFun.mono (SFun.vc (Q:=fun l bb=>l=.bool (mayW 5 a b c n)∧bb=[]) noCx_ok (n:=60) 0 rfl ?_) fun l s' ⟨b0,⟨h1,h2⟩,h3⟩=>⟨h1,by rw [h3,h2]⟩
 rw [cm5]
 simp only [xcm_geq,xcm_leq,xcm_eql,xcm_neq,xcm_lss,xcm_gtr,wd_not]
 repeat' (first | refine ite_way (fun _=>?_) (fun _=>?_) | refine nite_way (fun _=>?_) (fun _=>?_))
 all_goals first
  | (refine⟨rfl,_,_,[],⟨rfl,rfl⟩,leafB ((mw5 a b c n).2 ?_)⟩; simp only [Bool.false_eq_true,false_or,true_or,and_true]; omega)
  | (refine⟨rfl,_,_,[],⟨rfl,rfl⟩,leafB (Bool.eq_false_iff.2 fun hh=>?_)⟩; have:=(mw5 a b c n).1 hh; simp only [Bool.false_eq_true,false_or,true_or,and_true] at this; omega)
  | (refine⟨rfl,_,_,[],⟨rfl,rfl⟩,leafB (Bool.eq_iff_iff.2 ((mw5 a b c n).trans ?_))⟩; simp only [Bool.false_eq_true,false_or,true_or,and_true,decide_eq_true_eq]; omega)
  | omega
theorem cmay6 (a b c n:Int) (rest:Glb):SFun prog 38 [insL 6 a b c n] (mkS [] (formsG rest)) fun l s=>l=.bool (mayW 6 a b c n)∧s=mkS [] (formsG rest):=by
 refine SFun.mono (SFun.vc (Q:=fun l bb=>l=.bool (mayW 6 a b c n)∧bb=[]) noCx_ok (n:=60) 0 rfl ?_) fun l s' ⟨b0,⟨h1,h2⟩,h3⟩=>⟨h1,by rw [h3,h2]⟩
 rw [cm6]
 simp only [xcm_geq,xcm_leq,xcm_eql,xcm_neq,xcm_lss,xcm_gtr,wd_not]
 repeat' (first | refine ite_way (fun _=>?_) (fun _=>?_) | refine nite_way (fun _=>?_) (fun _=>?_))
 all_goals first
  | (refine⟨rfl,_,_,[],⟨rfl,rfl⟩,leafB ((mw6 a b c n).2 ?_)⟩; simp only [Bool.false_eq_true,false_or,true_or,and_true]; omega)
  | (refine⟨rfl,_,_,[],⟨rfl,rfl⟩,leafB (Bool.eq_false_iff.2 fun hh=>?_)⟩; have:=(mw6 a b c n).1 hh; simp only [Bool.false_eq_true,false_or,true_or,and_true] at this; omega)
  | (refine⟨rfl,_,_,[],⟨rfl,rfl⟩,leafB (Bool.eq_iff_iff.2 ((mw6 a b c n).trans ?_))⟩; simp only [Bool.false_eq_true,false_or,true_or,and_true,decide_eq_true_eq]; omega)
  | omega
theorem cmay7 (a b c n:Int) (rest:Glb):SFun prog 38 [insL 7 a b c n] (mkS [] (formsG rest)) fun l s=>l=.bool (mayW 7 a b c n)∧s=mkS [] (formsG rest):=by
 refine SFun.mono (SFun.vc (Q:=fun l bb=>l=.bool (mayW 7 a b c n)∧bb=[]) noCx_ok (n:=60) 0 rfl ?_) fun l s' ⟨b0,⟨h1,h2⟩,h3⟩=>⟨h1,by rw [h3,h2]⟩
 rw [cm7]
 simp only [xcm_geq,xcm_leq,xcm_eql,xcm_neq,xcm_lss,xcm_gtr,wd_not]
 repeat' (first | refine ite_way (fun _=>?_) (fun _=>?_) | refine nite_way (fun _=>?_) (fun _=>?_))
 all_goals first
  | (refine⟨rfl,_,_,[],⟨rfl,rfl⟩,leafB ((mw7 a b c n).2 ?_)⟩; simp only [Bool.false_eq_true,false_or,true_or,and_true]; omega)
  | (refine⟨rfl,_,_,[],⟨rfl,rfl⟩,leafB (Bool.eq_false_iff.2 fun hh=>?_)⟩; have:=(mw7 a b c n).1 hh; simp only [Bool.false_eq_true,false_or,true_or,and_true] at this; omega)
  | (refine⟨rfl,_,_,[],⟨rfl,rfl⟩,leafB (Bool.eq_iff_iff.2 ((mw7 a b c n).trans ?_))⟩; simp only [Bool.false_eq_true,false_or,true_or,and_true,decide_eq_true_eq]; omega)
  | omega
theorem cmay8 (a b c n:Int) (rest:Glb):SFun prog 38 [insL 8 a b c n] (mkS [] (formsG rest)) fun l s=>l=.bool (mayW 8 a b c n)∧s=mkS [] (formsG rest):=by
 refine SFun.mono (SFun.vc (Q:=fun l bb=>l=.bool (mayW 8 a b c n)∧bb=[]) noCx_ok (n:=60) 0 rfl ?_) fun l s' ⟨b0,⟨h1,h2⟩,h3⟩=>⟨h1,by rw [h3,h2]⟩
 rw [cm8]
 simp only [xcm_geq,xcm_leq,xcm_eql,xcm_neq,xcm_lss,xcm_gtr,wd_not]
 repeat' (first | refine ite_way (fun _=>?_) (fun _=>?_) | refine nite_way (fun _=>?_) (fun _=>?_))
 all_goals first
  | (refine⟨rfl,_,_,[],⟨rfl,rfl⟩,leafB ((mw8 a b c n).2 ?_)⟩; simp only [Bool.false_eq_true,false_or,true_or,and_true]; omega)
  | (refine⟨rfl,_,_,[],⟨rfl,rfl⟩,leafB (Bool.eq_false_iff.2 fun hh=>?_)⟩; have:=(mw8 a b c n).1 hh; simp only [Bool.false_eq_true,false_or,true_or,and_true] at this; omega)
  | (refine⟨rfl,_,_,[],⟨rfl,rfl⟩,leafB (Bool.eq_iff_iff.2 ((mw8 a b c n).trans ?_))⟩; simp only [Bool.false_eq_true,false_or,true_or,and_true,decide_eq_true_eq]; omega)
  | omega
theorem cmay9 (a b c n:Int) (rest:Glb):SFun prog 38 [insL 9 a b c n] (mkS [] (formsG rest)) fun l s=>l=.bool (mayW 9 a b c n)∧s=mkS [] (formsG rest):=by
 refine SFun.mono (SFun.vc (Q:=fun l bb=>l=.bool (mayW 9 a b c n)∧bb=[]) noCx_ok (n:=60) 0 rfl ?_) fun l s' ⟨b0,⟨h1,h2⟩,h3⟩=>⟨h1,by rw [h3,h2]⟩
 rw [cm9]
 simp only [xcm_geq,xcm_leq,xcm_eql,xcm_neq,xcm_lss,xcm_gtr,wd_not]
 repeat' (first | refine ite_way (fun _=>?_) (fun _=>?_) | refine nite_way (fun _=>?_) (fun _=>?_))
 all_goals first
  | (refine⟨rfl,_,_,[],⟨rfl,rfl⟩,leafB ((mw9 a b c n).2 ?_)⟩; simp only [Bool.false_eq_true,false_or,true_or,and_true]; omega)
  | (refine⟨rfl,_,_,[],⟨rfl,rfl⟩,leafB (Bool.eq_false_iff.2 fun hh=>?_)⟩; have:=(mw9 a b c n).1 hh; simp only [Bool.false_eq_true,false_or,true_or,and_true] at this; omega)
  | (refine⟨rfl,_,_,[],⟨rfl,rfl⟩,leafB (Bool.eq_iff_iff.2 ((mw9 a b c n).trans ?_))⟩; simp only [Bool.false_eq_true,false_or,true_or,and_true,decide_eq_true_eq]; omega)
  | omega
theorem cmay10 (a b c n:Int) (rest:Glb):SFun prog 38 [insL 10 a b c n] (mkS [] (formsG rest)) fun l s=>l=.bool (mayW 10 a b c n)∧s=mkS [] (formsG rest):=by
 refine SFun.mono (SFun.vc (Q:=fun l bb=>l=.bool (mayW 10 a b c n)∧bb=[]) noCx_ok (n:=60) 0 rfl ?_) fun l s' ⟨b0,⟨h1,h2⟩,h3⟩=>⟨h1,by rw [h3,h2]⟩
 rw [cm10]
 simp only [xcm_geq,xcm_leq,xcm_eql,xcm_neq,xcm_lss,xcm_gtr,wd_not]
 repeat' (first | refine ite_way (fun _=>?_) (fun _=>?_) | refine nite_way (fun _=>?_) (fun _=>?_))
 all_goals first
  | (refine⟨rfl,_,_,[],⟨rfl,rfl⟩,leafB ((mw10 a b c n).2 ?_)⟩; simp only [Bool.false_eq_true,false_or,true_or,and_true]; omega)
  | (refine⟨rfl,_,_,[],⟨rfl,rfl⟩,leafB (Bool.eq_false_iff.2 fun hh=>?_)⟩; have:=(mw10 a b c n).1 hh; simp only [Bool.false_eq_true,false_or,true_or,and_true] at this; omega)
  | (refine⟨rfl,_,_,[],⟨rfl,rfl⟩,leafB (Bool.eq_iff_iff.2 ((mw10 a b c n).trans ?_))⟩; simp only [Bool.false_eq_true,false_or,true_or,and_true,decide_eq_true_eq]; omega)
  | omega
theorem cmay11 (a b c n:Int) (rest:Glb):SFun prog 38 [insL 11 a b c n] (mkS [] (formsG rest)) fun l s=>l=.bool (mayW 11 a b c n)∧s=mkS [] (formsG rest):=by
 refine SFun.mono (SFun.vc (Q:=fun l bb=>l=.bool (mayW 11 a b c n)∧bb=[]) noCx_ok (n:=60) 0 rfl ?_) fun l s' ⟨b0,⟨h1,h2⟩,h3⟩=>⟨h1,by rw [h3,h2]⟩
 rw [cm11]
 simp only [xcm_geq,xcm_leq,xcm_eql,xcm_neq,xcm_lss,xcm_gtr,wd_not]
 repeat' (first | refine ite_way (fun _=>?_) (fun _=>?_) | refine nite_way (fun _=>?_) (fun _=>?_))
 all_goals first
  | (refine⟨rfl,_,_,[],⟨rfl,rfl⟩,leafB ((mw11 a b c n).2 ?_)⟩; simp only [Bool.false_eq_true,false_or,true_or,and_true]; omega)
  | (refine⟨rfl,_,_,[],⟨rfl,rfl⟩,leafB (Bool.eq_false_iff.2 fun hh=>?_)⟩; have:=(mw11 a b c n).1 hh; simp only [Bool.false_eq_true,false_or,true_or,and_true] at this; omega)
  | (refine⟨rfl,_,_,[],⟨rfl,rfl⟩,leafB (Bool.eq_iff_iff.2 ((mw11 a b c n).trans ?_))⟩; simp only [Bool.false_eq_true,false_or,true_or,and_true,decide_eq_true_eq]; omega)
  | omega
theorem cmay12 (a b c n:Int) (rest:Glb):SFun prog 38 [insL 12 a b c n] (mkS [] (formsG rest)) fun l s=>l=.bool (mayW 12 a b c n)∧s=mkS [] (formsG rest):=by
 refine SFun.mono (SFun.vc (Q:=fun l bb=>l=.bool (mayW 12 a b c n)∧bb=[]) noCx_ok (n:=60) 0 rfl ?_) fun l s' ⟨b0,⟨h1,h2⟩,h3⟩=>⟨h1,by rw [h3,h2]⟩
 rw [cm12]
 simp only [xcm_geq,xcm_leq,xcm_eql,xcm_neq,xcm_lss,xcm_gtr,wd_not]
 repeat' (first | refine ite_way (fun _=>?_) (fun _=>?_) | refine nite_way (fun _=>?_) (fun _=>?_))
 all_goals first
  | (refine⟨rfl,_,_,[],⟨rfl,rfl⟩,leafB ((mw12 a b c n).2 ?_)⟩; simp only [Bool.false_eq_true,false_or,true_or,and_true]; omega)
  | (refine⟨rfl,_,_,[],⟨rfl,rfl⟩,leafB (Bool.eq_false_iff.2 fun hh=>?_)⟩; have:=(mw12 a b c n).1 hh; simp only [Bool.false_eq_true,false_or,true_or,and_true] at this; omega)
  | (refine⟨rfl,_,_,[],⟨rfl,rfl⟩,leafB (Bool.eq_iff_iff.2 ((mw12 a b c n).trans ?_))⟩; simp only [Bool.false_eq_true,false_or,true_or,and_true,decide_eq_true_eq]; omega)
  | omega
theorem cmay13 (a b c n:Int) (rest:Glb):SFun prog 38 [insL 13 a b c n] (mkS [] (formsG rest)) fun l s=>l=.bool (mayW 13 a b c n)∧s=mkS [] (formsG rest):=by
 refine SFun.mono (SFun.vc (Q:=fun l bb=>l=.bool (mayW 13 a b c n)∧bb=[]) noCx_ok (n:=60) 0 rfl ?_) fun l s' ⟨b0,⟨h1,h2⟩,h3⟩=>⟨h1,by rw [h3,h2]⟩
 rw [cm13]
 simp only [xcm_geq,xcm_leq,xcm_eql,xcm_neq,xcm_lss,xcm_gtr,wd_not]
 repeat' (first | refine ite_way (fun _=>?_) (fun _=>?_) | refine nite_way (fun _=>?_) (fun _=>?_))
 all_goals first
  | (refine⟨rfl,_,_,[],⟨rfl,rfl⟩,leafB ((mw13 a b c n).2 ?_)⟩; simp only [Bool.false_eq_true,false_or,true_or,and_true]; omega)
  | (refine⟨rfl,_,_,[],⟨rfl,rfl⟩,leafB (Bool.eq_false_iff.2 fun hh=>?_)⟩; have:=(mw13 a b c n).1 hh; simp only [Bool.false_eq_true,false_or,true_or,and_true] at this; omega)
  | (refine⟨rfl,_,_,[],⟨rfl,rfl⟩,leafB (Bool.eq_iff_iff.2 ((mw13 a b c n).trans ?_))⟩; simp only [Bool.false_eq_true,false_or,true_or,and_true,decide_eq_true_eq]; omega)
  | omega
theorem cmay14 (a b c n:Int) (rest:Glb):SFun prog 38 [insL 14 a b c n] (mkS [] (formsG rest)) fun l s=>l=.bool (mayW 14 a b c n)∧s=mkS [] (formsG rest):=by
 refine SFun.mono (SFun.vc (Q:=fun l bb=>l=.bool (mayW 14 a b c n)∧bb=[]) noCx_ok (n:=60) 0 rfl ?_) fun l s' ⟨b0,⟨h1,h2⟩,h3⟩=>⟨h1,by rw [h3,h2]⟩
 rw [cm14]
 simp only [xcm_geq,xcm_leq,xcm_eql,xcm_neq,xcm_lss,xcm_gtr,wd_not]
 repeat' (first | refine ite_way (fun _=>?_) (fun _=>?_) | refine nite_way (fun _=>?_) (fun _=>?_))
 all_goals first
  | (refine⟨rfl,_,_,[],⟨rfl,rfl⟩,leafB ((mw14 a b c n).2 ?_)⟩; simp only [Bool.false_eq_true,false_or,true_or,and_true]; omega)
  | (refine⟨rfl,_,_,[],⟨rfl,rfl⟩,leafB (Bool.eq_false_iff.2 fun hh=>?_)⟩; have:=(mw14 a b c n).1 hh; simp only [Bool.false_eq_true,false_or,true_or,and_true] at this; omega)
  | (refine⟨rfl,_,_,[],⟨rfl,rfl⟩,leafB (Bool.eq_iff_iff.2 ((mw14 a b c n).trans ?_))⟩; simp only [Bool.false_eq_true,false_or,true_or,and_true,decide_eq_true_eq]; omega)
  | omega
theorem cmay15 (a b c n:Int) (rest:Glb):SFun prog 38 [insL 15 a b c n] (mkS [] (formsG rest)) fun l s=>l=.bool (mayW 15 a b c n)∧s=mkS [] (formsG rest):=by
 refine SFun.mono (SFun.vc (Q:=fun l bb=>l=.bool (mayW 15 a b c n)∧bb=[]) noCx_ok (n:=60) 0 rfl ?_) fun l s' ⟨b0,⟨h1,h2⟩,h3⟩=>⟨h1,by rw [h3,h2]⟩
 rw [cm15]
 simp only [xcm_geq,xcm_leq,xcm_eql,xcm_neq,xcm_lss,xcm_gtr,wd_not]
 repeat' (first | refine ite_way (fun _=>?_) (fun _=>?_) | refine nite_way (fun _=>?_) (fun _=>?_))
 all_goals first
  | (refine⟨rfl,_,_,[],⟨rfl,rfl⟩,leafB ((mw15 a b c n).2 ?_)⟩; simp only [Bool.false_eq_true,false_or,true_or,and_true]; omega)
  | (refine⟨rfl,_,_,[],⟨rfl,rfl⟩,leafB (Bool.eq_false_iff.2 fun hh=>?_)⟩; have:=(mw15 a b c n).1 hh; simp only [Bool.false_eq_true,false_or,true_or,and_true] at this; omega)
  | (refine⟨rfl,_,_,[],⟨rfl,rfl⟩,leafB (Bool.eq_iff_iff.2 ((mw15 a b c n).trans ?_))⟩; simp only [Bool.false_eq_true,false_or,true_or,and_true,decide_eq_true_eq]; omega)
  | omega
theorem cmay16 (a b c n:Int) (rest:Glb):SFun prog 38 [insL 16 a b c n] (mkS [] (formsG rest)) fun l s=>l=.bool (mayW 16 a b c n)∧s=mkS [] (formsG rest):=by
 refine SFun.mono (SFun.vc (Q:=fun l bb=>l=.bool (mayW 16 a b c n)∧bb=[]) noCx_ok (n:=60) 0 rfl ?_) fun l s' ⟨b0,⟨h1,h2⟩,h3⟩=>⟨h1,by rw [h3,h2]⟩
 rw [cm16]
 simp only [xcm_geq,xcm_leq,xcm_eql,xcm_neq,xcm_lss,xcm_gtr,wd_not]
 repeat' (first | refine ite_way (fun _=>?_) (fun _=>?_) | refine nite_way (fun _=>?_) (fun _=>?_))
 all_goals first
  | (refine⟨rfl,_,_,[],⟨rfl,rfl⟩,leafB ((mw16 a b c n).2 ?_)⟩; simp only [Bool.false_eq_true,false_or,true_or,and_true]; omega)
  | (refine⟨rfl,_,_,[],⟨rfl,rfl⟩,leafB (Bool.eq_false_iff.2 fun hh=>?_)⟩; have:=(mw16 a b c n).1 hh; simp only [Bool.false_eq_true,false_or,true_or,and_true] at this; omega)
  | (refine⟨rfl,_,_,[],⟨rfl,rfl⟩,leafB (Bool.eq_iff_iff.2 ((mw16 a b c n).trans ?_))⟩; simp only [Bool.false_eq_true,false_or,true_or,and_true,decide_eq_true_eq]; omega)
  | omega
theorem cmay17 (a b c n:Int) (rest:Glb):SFun prog 38 [insL 17 a b c n] (mkS [] (formsG rest)) fun l s=>l=.bool (mayW 17 a b c n)∧s=mkS [] (formsG rest):=by
 refine SFun.mono (SFun.vc (Q:=fun l bb=>l=.bool (mayW 17 a b c n)∧bb=[]) noCx_ok (n:=60) 0 rfl ?_) fun l s' ⟨b0,⟨h1,h2⟩,h3⟩=>⟨h1,by rw [h3,h2]⟩
 rw [cm17]
 simp only [xcm_geq,xcm_leq,xcm_eql,xcm_neq,xcm_lss,xcm_gtr,wd_not]
 repeat' (first | refine ite_way (fun _=>?_) (fun _=>?_) | refine nite_way (fun _=>?_) (fun _=>?_))
 all_goals first
  | (refine⟨rfl,_,_,[],⟨rfl,rfl⟩,leafB ((mw17 a b c n).2 ?_)⟩; simp only [Bool.false_eq_true,false_or,true_or,and_true]; omega)
  | (refine⟨rfl,_,_,[],⟨rfl,rfl⟩,leafB (Bool.eq_false_iff.2 fun hh=>?_)⟩; have:=(mw17 a b c n).1 hh; simp only [Bool.false_eq_true,false_or,true_or,and_true] at this; omega)
  | (refine⟨rfl,_,_,[],⟨rfl,rfl⟩,leafB (Bool.eq_iff_iff.2 ((mw17 a b c n).trans ?_))⟩; simp only [Bool.false_eq_true,false_or,true_or,and_true,decide_eq_true_eq]; omega)
  | omega
theorem cmay18 (a b c n:Int) (rest:Glb):SFun prog 38 [insL 18 a b c n] (mkS [] (formsG rest)) fun l s=>l=.bool (mayW 18 a b c n)∧s=mkS [] (formsG rest):=by
 refine SFun.mono (SFun.vc (Q:=fun l bb=>l=.bool (mayW 18 a b c n)∧bb=[]) noCx_ok (n:=60) 0 rfl ?_) fun l s' ⟨b0,⟨h1,h2⟩,h3⟩=>⟨h1,by rw [h3,h2]⟩
 rw [cm18]
 simp only [xcm_geq,xcm_leq,xcm_eql,xcm_neq,xcm_lss,xcm_gtr,wd_not]
 repeat' (first | refine ite_way (fun _=>?_) (fun _=>?_) | refine nite_way (fun _=>?_) (fun _=>?_))
 all_goals first
  | (refine⟨rfl,_,_,[],⟨rfl,rfl⟩,leafB ((mw18 a b c n).2 ?_)⟩; simp only [Bool.false_eq_true,false_or,true_or,and_true]; omega)
  | (refine⟨rfl,_,_,[],⟨rfl,rfl⟩,leafB (Bool.eq_false_iff.2 fun hh=>?_)⟩; have:=(mw18 a b c n).1 hh; simp only [Bool.false_eq_true,false_or,true_or,and_true] at this; omega)
  | (refine⟨rfl,_,_,[],⟨rfl,rfl⟩,leafB (Bool.eq_iff_iff.2 ((mw18 a b c n).trans ?_))⟩; simp only [Bool.false_eq_true,false_or,true_or,and_true,decide_eq_true_eq]; omega)
  | omega
theorem cmay19 (a b c n:Int) (rest:Glb):SFun prog 38 [insL 19 a b c n] (mkS [] (formsG rest)) fun l s=>l=.bool (mayW 19 a b c n)∧s=mkS [] (formsG rest):=by
 refine SFun.mono (SFun.vc (Q:=fun l bb=>l=.bool (mayW 19 a b c n)∧bb=[]) noCx_ok (n:=60) 0 rfl ?_) fun l s' ⟨b0,⟨h1,h2⟩,h3⟩=>⟨h1,by rw [h3,h2]⟩
 rw [cm19]
 simp only [xcm_geq,xcm_leq,xcm_eql,xcm_neq,xcm_lss,xcm_gtr,wd_not]
 repeat' (first | refine ite_way (fun _=>?_) (fun _=>?_) | refine nite_way (fun _=>?_) (fun _=>?_))
 all_goals first
  | (refine⟨rfl,_,_,[],⟨rfl,rfl⟩,leafB ((mw19 a b c n).2 ?_)⟩; simp only [Bool.false_eq_true,false_or,true_or,and_true]; omega)
  | (refine⟨rfl,_,_,[],⟨rfl,rfl⟩,leafB (Bool.eq_false_iff.2 fun hh=>?_)⟩; have:=(mw19 a b c n).1 hh; simp only [Bool.false_eq_true,false_or,true_or,and_true] at this; omega)
  | (refine⟨rfl,_,_,[],⟨rfl,rfl⟩,leafB (Bool.eq_iff_iff.2 ((mw19 a b c n).trans ?_))⟩; simp only [Bool.false_eq_true,false_or,true_or,and_true,decide_eq_true_eq]; omega)
  | omega
theorem cmay20 (a b c n:Int) (rest:Glb):SFun prog 38 [insL 20 a b c n] (mkS [] (formsG rest)) fun l s=>l=.bool (mayW 20 a b c n)∧s=mkS [] (formsG rest):=by
 refine SFun.mono (SFun.vc (Q:=fun l bb=>l=.bool (mayW 20 a b c n)∧bb=[]) noCx_ok (n:=60) 0 rfl ?_) fun l s' ⟨b0,⟨h1,h2⟩,h3⟩=>⟨h1,by rw [h3,h2]⟩
 rw [cm20]
 simp only [xcm_geq,xcm_leq,xcm_eql,xcm_neq,xcm_lss,xcm_gtr,wd_not]
 repeat' (first | refine ite_way (fun _=>?_) (fun _=>?_) | refine nite_way (fun _=>?_) (fun _=>?_))
 all_goals first
  | (refine⟨rfl,_,_,[],⟨rfl,rfl⟩,leafB ((mw20 a b c n).2 ?_)⟩; simp only [Bool.false_eq_true,false_or,true_or,and_true]; omega)
  | (refine⟨rfl,_,_,[],⟨rfl,rfl⟩,leafB (Bool.eq_false_iff.2 fun hh=>?_)⟩; have:=(mw20 a b c n).1 hh; simp only [Bool.false_eq_true,false_or,true_or,and_true] at this; omega)
  | (refine⟨rfl,_,_,[],⟨rfl,rfl⟩,leafB (Bool.eq_iff_iff.2 ((mw20 a b c n).trans ?_))⟩; simp only [Bool.false_eq_true,false_or,true_or,and_true,decide_eq_true_eq]; omega)
  | omega
theorem cmay21 (a b c n:Int) (rest:Glb):SFun prog 38 [insL 21 a b c n] (mkS [] (formsG rest)) fun l s=>l=.bool (mayW 21 a b c n)∧s=mkS [] (formsG rest):=by
 refine SFun.mono (SFun.vc (Q:=fun l bb=>l=.bool (mayW 21 a b c n)∧bb=[]) noCx_ok (n:=60) 0 rfl ?_) fun l s' ⟨b0,⟨h1,h2⟩,h3⟩=>⟨h1,by rw [h3,h2]⟩
 rw [cm21]
 simp only [xcm_geq,xcm_leq,xcm_eql,xcm_neq,xcm_lss,xcm_gtr,wd_not]
 repeat' (first | refine ite_way (fun _=>?_) (fun _=>?_) | refine nite_way (fun _=>?_) (fun _=>?_))
 all_goals first
  | (refine⟨rfl,_,_,[],⟨rfl,rfl⟩,leafB ((mw21 a b c n).2 ?_)⟩; simp only [Bool.false_eq_true,false_or,true_or,and_true]; omega)
  | (refine⟨rfl,_,_,[],⟨rfl,rfl⟩,leafB (Bool.eq_false_iff.2 fun hh=>?_)⟩; have:=(mw21 a b c n).1 hh; simp only [Bool.false_eq_true,false_or,true_or,and_true] at this; omega)
  | (refine⟨rfl,_,_,[],⟨rfl,rfl⟩,leafB (Bool.eq_iff_iff.2 ((mw21 a b c n).trans ?_))⟩; simp only [Bool.false_eq_true,false_or,true_or,and_true,decide_eq_true_eq]; omega)
  | omega
theorem cmay22 (a b c n:Int) (rest:Glb):SFun prog 38 [insL 22 a b c n] (mkS [] (formsG rest)) fun l s=>l=.bool (mayW 22 a b c n)∧s=mkS [] (formsG rest):=by
 refine SFun.mono (SFun.vc (Q:=fun l bb=>l=.bool (mayW 22 a b c n)∧bb=[]) noCx_ok (n:=60) 0 rfl ?_) fun l s' ⟨b0,⟨h1,h2⟩,h3⟩=>⟨h1,by rw [h3,h2]⟩
 rw [cm22]
 simp only [xcm_geq,xcm_leq,xcm_eql,xcm_neq,xcm_lss,xcm_gtr,wd_not]
 repeat' (first | refine ite_way (fun _=>?_) (fun _=>?_) | refine nite_way (fun _=>?_) (fun _=>?_))
 all_goals first
  | (refine⟨rfl,_,_,[],⟨rfl,rfl⟩,leafB ((mw22 a b c n).2 ?_)⟩; simp only [Bool.false_eq_true,false_or,true_or,and_true]; omega)
  | (refine⟨rfl,_,_,[],⟨rfl,rfl⟩,leafB (Bool.eq_false_iff.2 fun hh=>?_)⟩; have:=(mw22 a b c n).1 hh; simp only [Bool.false_eq_true,false_or,true_or,and_true] at this; omega)
  | (refine⟨rfl,_,_,[],⟨rfl,rfl⟩,leafB (Bool.eq_iff_iff.2 ((mw22 a b c n).trans ?_))⟩; simp only [Bool.false_eq_true,false_or,true_or,and_true,decide_eq_true_eq]; omega)
  | omega
theorem cmay23 (a b c n:Int) (rest:Glb):SFun prog 38 [insL 23 a b c n] (mkS [] (formsG rest)) fun l s=>l=.bool (mayW 23 a b c n)∧s=mkS [] (formsG rest):=by
 refine SFun.mono (SFun.vc (Q:=fun l bb=>l=.bool (mayW 23 a b c n)∧bb=[]) noCx_ok (n:=60) 0 rfl ?_) fun l s' ⟨b0,⟨h1,h2⟩,h3⟩=>⟨h1,by rw [h3,h2]⟩
 rw [cm23]
 simp only [xcm_geq,xcm_leq,xcm_eql,xcm_neq,xcm_lss,xcm_gtr,wd_not]
 repeat' (first | refine ite_way (fun _=>?_) (fun _=>?_) | refine nite_way (fun _=>?_) (fun _=>?_))
 all_goals first
  | (refine⟨rfl,_,_,[],⟨rfl,rfl⟩,leafB ((mw23 a b c n).2 ?_)⟩; simp only [Bool.false_eq_true,false_or,true_or,and_true]; omega)
  | (refine⟨rfl,_,_,[],⟨rfl,rfl⟩,leafB (Bool.eq_false_iff.2 fun hh=>?_)⟩; have:=(mw23 a b c n).1 hh; simp only [Bool.false_eq_true,false_or,true_or,and_true] at this; omega)
  | (refine⟨rfl,_,_,[],⟨rfl,rfl⟩,leafB (Bool.eq_iff_iff.2 ((mw23 a b c n).trans ?_))⟩; simp only [Bool.false_eq_true,false_or,true_or,and_true,decide_eq_true_eq]; omega)
  | omega
theorem cmay (op a b c n:Int) (rest:Glb):SFun prog 38 [insL op a b c n] (mkS [] (formsG rest)) fun l s=>l=.bool (mayW op a b c n)∧s=mkS [] (formsG rest):=by
 by_cases h:op < 1∨23 < op
 ·rw [mayW_out h]
  refine SFun.mono (SFun.vc (Q:=fun l b=>l=.bool false∧b=[]) cxo_ok (n:=60) 0 rfl ?_) fun l s' ⟨b0,⟨h1,h2⟩,h3⟩=>⟨h1,by rw [h3,h2]⟩
  rw [cmx]
  simp only [outW_iff.2 h,cond_true]
  exact⟨rfl,_,_,[],⟨rfl,rfl⟩,by(exact zC)⟩
 ·have:op=1∨op=2∨op=3∨op=4∨op=5∨op=6∨op=7∨op=8∨op=9∨op=10∨op=11∨op=12∨op=13∨op=14∨op=15∨op=16∨op=17∨op=18∨op=19∨op=20∨op=21∨op=22∨op=23:=by omega
  rcases this with rfl | rfl | rfl | rfl | rfl | rfl | rfl | rfl | rfl | rfl | rfl | rfl | rfl | rfl | rfl | rfl | rfl | rfl | rfl | rfl | rfl | rfl | rfl
  ·exact cmay1 a b c n rest
  ·exact cmay2 a b c n rest
  ·exact cmay3 a b c n rest
  ·exact cmay4 a b c n rest
  ·exact cmay5 a b c n rest
  ·exact cmay6 a b c n rest
  ·exact cmay7 a b c n rest
  ·exact cmay8 a b c n rest
  ·exact cmay9 a b c n rest
  ·exact cmay10 a b c n rest
  ·exact cmay11 a b c n rest
  ·exact cmay12 a b c n rest
  ·exact cmay13 a b c n rest
  ·exact cmay14 a b c n rest
  ·exact cmay15 a b c n rest
  ·exact cmay16 a b c n rest
  ·exact cmay17 a b c n rest
  ·exact cmay18 a b c n rest
  ·exact cmay19 a b c n rest
  ·exact cmay20 a b c n rest
  ·exact cmay21 a b c n rest
  ·exact cmay22 a b c n rest
  ·exact cmay23 a b c n rest
def mayG:Gc:=fun args s=>match args,s.g with
 | [.agg [.int .i64 op,.int .i64 a,.int .i64 b,.int .i64 c,.int .u64 n]],(g0,F0)::_=>cond (Nat.beq g0 0 && eqbs F0 formsL) (some ([],.bool (mayW op a b c n),s)) none
 | _,_=>none
theorem mayG_ok:GOk prog 38 mayG:=by
 intro args s bs l s' hg hb hfr
 unfold mayG at hg
 split at hg
 ·rename_i op a b c n g0 F0 rest hgl
  cases hc:(Nat.beq g0 0 && eqbs F0 formsL) with
  | false=>rw [hc] at hg; cases hg
  | true =>
    rw [hc] at hg
    simp only [cond_true,Option.some.injEq,Prod.mk.injEq] at hg
    obtain⟨rfl,rfl,rfl⟩:=hg
    rw [Bool.and_eq_true] at hc
    have e1:=Nat.eq_of_beq_eq_true hc.1
    have e2:=eqbs_eq hc.2
    refine SFun.pure2 hfr rfl rfl ?_
    rw [hgl,e1,e2]
    exact cmay op a b c n rest
 ·cases hg
end
end Go.Lev
