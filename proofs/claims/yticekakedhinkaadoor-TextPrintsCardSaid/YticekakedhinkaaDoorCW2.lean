/- chapter 14: whether an instruction may be (the reference), second part -/
import Derived.Test.YticekakedhinkaaDoorCW2A
import Derived.Test.YticekakedhinkaaDoorLc
import Derived.Test.YticekakedhinkaaDoorChecked
import Derived.KernelRfl
import Derived.Test.YticekakedhinkaaDoorLc
import Derived.Test.YticekakedhinkaaDoorLc
import Derived.Test.YticekakedhinkaaDoorRows
namespace Go.Lev
set_option linter.unusedSimpArgs false
set_option linter.unusedVariables false
open Go.RowKit
open Go.Proofs.Tryd (prog)
set_option maxRecDepth 100000
noncomputable section
theorem rmx (op a b c n:Int) (g:Glb) (K:Fk):(xfun prog cxro 60 15 [insL op a b c n] (mkS [] g) (vF K))=(
 ck (outW op) <|
 K (.bool false) [sN [.int .i64 op,.int .i64 a,.int .i64 b,.int .i64 c,.int .u64 n],sN [.str [],.int .i64 0,.int .i64 0,.int .i64 0,.bool false]] g):=by kernel_rfl
abbrev rm12_b1 (a:Int) (b:Int) (c:Int) (n:Int):List (Option LB):=[sN [.int .i64 12,.int .i64 a,.int .i64 b,.int .i64 c,.int .u64 n],sN [.str [106,117,109,112],.int .i64 (-1),.int .i64 (-1),.int .i64 40,.bool false],sN [.str [106,117,109,112],.int .i64 (-1),.int .i64 (-1),.int .i64 40,.bool false]]
theorem rm12 (a b c n:Int) (g:Glb) (K:Fk):(xfun prog (fun _=>none) 100 15 [insL 12 a b c n] (mkS [] g) (vF K))=(
 bif xcm .neq n 0 then(
 K (.bool false) (rm12_b1 a b c n) g)
 else(
 bif xcm .eql a 0 then(
 bif xcm .eql b 0 then(
 bif xcm .eql c 0 then(
 bif xcm .geq c 0 then(
 bif xnot (xcm .leq c 40) then(
 K (.bool false) (rm12_b1 a b c n) g)
 else(
 K (.bool true) (rm12_b1 a b c n) g))
 else(
 K (.bool false) (rm12_b1 a b c n) g))
 else(
 bif xcm .geq c 0 then(
 bif xnot (xcm .leq c 40) then(
 K (.bool false) (rm12_b1 a b c n) g)
 else(
 K (.bool true) (rm12_b1 a b c n) g))
 else(
 K (.bool false) (rm12_b1 a b c n) g)))
 else(
 bif xcm .geq b 0 then(
 bif xnot (xcm .leq b (-1)) then(
 K (.bool false) (rm12_b1 a b c n) g)
 else(
 bif xcm .eql c 0 then(
 bif xcm .geq c 0 then(
 bif xnot (xcm .leq c 40) then(
 K (.bool false) (rm12_b1 a b c n) g)
 else(
 K (.bool true) (rm12_b1 a b c n) g))
 else(
 K (.bool false) (rm12_b1 a b c n) g))
 else(
 bif xcm .geq c 0 then(
 bif xnot (xcm .leq c 40) then(
 K (.bool false) (rm12_b1 a b c n) g)
 else(
 K (.bool true) (rm12_b1 a b c n) g))
 else(
 K (.bool false) (rm12_b1 a b c n) g))))
 else(
 K (.bool false) (rm12_b1 a b c n) g)))
 else(
 bif xcm .geq a 0 then(
 bif xnot (xcm .leq a (-1)) then(
 K (.bool false) (rm12_b1 a b c n) g)
 else(
 bif xcm .eql b 0 then(
 bif xcm .eql c 0 then(
 bif xcm .geq c 0 then(
 bif xnot (xcm .leq c 40) then(
 K (.bool false) (rm12_b1 a b c n) g)
 else(
 K (.bool true) (rm12_b1 a b c n) g))
 else(
 K (.bool false) (rm12_b1 a b c n) g))
 else(
 bif xcm .geq c 0 then(
 bif xnot (xcm .leq c 40) then(
 K (.bool false) (rm12_b1 a b c n) g)
 else(
 K (.bool true) (rm12_b1 a b c n) g))
 else(
 K (.bool false) (rm12_b1 a b c n) g)))
 else(
 bif xcm .geq b 0 then(
 bif xnot (xcm .leq b (-1)) then(
 K (.bool false) (rm12_b1 a b c n) g)
 else(
 bif xcm .eql c 0 then(
 bif xcm .geq c 0 then(
 bif xnot (xcm .leq c 40) then(
 K (.bool false) (rm12_b1 a b c n) g)
 else(
 K (.bool true) (rm12_b1 a b c n) g))
 else(
 K (.bool false) (rm12_b1 a b c n) g))
 else(
 bif xcm .geq c 0 then(
 bif xnot (xcm .leq c 40) then(
 K (.bool false) (rm12_b1 a b c n) g)
 else(
 K (.bool true) (rm12_b1 a b c n) g))
 else(
 K (.bool false) (rm12_b1 a b c n) g))))
 else(
 K (.bool false) (rm12_b1 a b c n) g))))
 else(
 K (.bool false) (rm12_b1 a b c n) g)))):=by kernel_rfl
abbrev rm13_b1 (a:Int) (b:Int) (c:Int) (n:Int):List (Option LB):=[sN [.int .i64 13,.int .i64 a,.int .i64 b,.int .i64 c,.int .u64 n],sN [.str [122,101,114,111],.int .i64 7,.int .i64 (-1),.int .i64 40,.bool false],sN [.str [122,101,114,111],.int .i64 7,.int .i64 (-1),.int .i64 40,.bool false]]
theorem rm13 (a b c n:Int) (g:Glb) (K:Fk):(xfun prog (fun _=>none) 100 15 [insL 13 a b c n] (mkS [] g) (vF K))=(
 bif xcm .neq n 0 then(
 K (.bool false) (rm13_b1 a b c n) g)
 else(
 bif xcm .eql a 0 then(
 bif xcm .geq a 0 then(
 bif xnot (xcm .leq a 7) then(
 K (.bool false) (rm13_b1 a b c n) g)
 else(
 bif xcm .eql b 0 then(
 bif xcm .eql c 0 then(
 bif xcm .geq c 0 then(
 bif xnot (xcm .leq c 40) then(
 K (.bool false) (rm13_b1 a b c n) g)
 else(
 K (.bool true) (rm13_b1 a b c n) g))
 else(
 K (.bool false) (rm13_b1 a b c n) g))
 else(
 bif xcm .geq c 0 then(
 bif xnot (xcm .leq c 40) then(
 K (.bool false) (rm13_b1 a b c n) g)
 else(
 K (.bool true) (rm13_b1 a b c n) g))
 else(
 K (.bool false) (rm13_b1 a b c n) g)))
 else(
 bif xcm .geq b 0 then(
 bif xnot (xcm .leq b (-1)) then(
 K (.bool false) (rm13_b1 a b c n) g)
 else(
 bif xcm .eql c 0 then(
 bif xcm .geq c 0 then(
 bif xnot (xcm .leq c 40) then(
 K (.bool false) (rm13_b1 a b c n) g)
 else(
 K (.bool true) (rm13_b1 a b c n) g))
 else(
 K (.bool false) (rm13_b1 a b c n) g))
 else(
 bif xcm .geq c 0 then(
 bif xnot (xcm .leq c 40) then(
 K (.bool false) (rm13_b1 a b c n) g)
 else(
 K (.bool true) (rm13_b1 a b c n) g))
 else(
 K (.bool false) (rm13_b1 a b c n) g))))
 else(
 K (.bool false) (rm13_b1 a b c n) g))))
 else(
 K (.bool false) (rm13_b1 a b c n) g))
 else(
 bif xcm .geq a 0 then(
 bif xnot (xcm .leq a 7) then(
 K (.bool false) (rm13_b1 a b c n) g)
 else(
 bif xcm .eql b 0 then(
 bif xcm .eql c 0 then(
 bif xcm .geq c 0 then(
 bif xnot (xcm .leq c 40) then(
 K (.bool false) (rm13_b1 a b c n) g)
 else(
 K (.bool true) (rm13_b1 a b c n) g))
 else(
 K (.bool false) (rm13_b1 a b c n) g))
 else(
 bif xcm .geq c 0 then(
 bif xnot (xcm .leq c 40) then(
 K (.bool false) (rm13_b1 a b c n) g)
 else(
 K (.bool true) (rm13_b1 a b c n) g))
 else(
 K (.bool false) (rm13_b1 a b c n) g)))
 else(
 bif xcm .geq b 0 then(
 bif xnot (xcm .leq b (-1)) then(
 K (.bool false) (rm13_b1 a b c n) g)
 else(
 bif xcm .eql c 0 then(
 bif xcm .geq c 0 then(
 bif xnot (xcm .leq c 40) then(
 K (.bool false) (rm13_b1 a b c n) g)
 else(
 K (.bool true) (rm13_b1 a b c n) g))
 else(
 K (.bool false) (rm13_b1 a b c n) g))
 else(
 bif xcm .geq c 0 then(
 bif xnot (xcm .leq c 40) then(
 K (.bool false) (rm13_b1 a b c n) g)
 else(
 K (.bool true) (rm13_b1 a b c n) g))
 else(
 K (.bool false) (rm13_b1 a b c n) g))))
 else(
 K (.bool false) (rm13_b1 a b c n) g))))
 else(
 K (.bool false) (rm13_b1 a b c n) g)))):=by kernel_rfl
abbrev rm14_b1 (a:Int) (b:Int) (c:Int) (n:Int):List (Option LB):=[sN [.int .i64 14,.int .i64 a,.int .i64 b,.int .i64 c,.int .u64 n],sN [.str [111,112,101,110],.int .i64 (-1),.int .i64 (-1),.int .i64 (-1),.bool false],sN [.str [111,112,101,110],.int .i64 (-1),.int .i64 (-1),.int .i64 (-1),.bool false]]
theorem rm14 (a b c n:Int) (g:Glb) (K:Fk):(xfun prog (fun _=>none) 100 15 [insL 14 a b c n] (mkS [] g) (vF K))=(
 bif xcm .neq n 0 then(
 K (.bool false) (rm14_b1 a b c n) g)
 else(
 bif xcm .eql a 0 then(
 bif xcm .eql b 0 then(
 bif xcm .eql c 0 then(
 K (.bool true) (rm14_b1 a b c n) g)
 else(
 bif xcm .geq c 0 then(
 bif xnot (xcm .leq c (-1)) then(
 K (.bool false) (rm14_b1 a b c n) g)
 else(
 K (.bool true) (rm14_b1 a b c n) g))
 else(
 K (.bool false) (rm14_b1 a b c n) g)))
 else(
 bif xcm .geq b 0 then(
 bif xnot (xcm .leq b (-1)) then(
 K (.bool false) (rm14_b1 a b c n) g)
 else(
 bif xcm .eql c 0 then(
 K (.bool true) (rm14_b1 a b c n) g)
 else(
 bif xcm .geq c 0 then(
 bif xnot (xcm .leq c (-1)) then(
 K (.bool false) (rm14_b1 a b c n) g)
 else(
 K (.bool true) (rm14_b1 a b c n) g))
 else(
 K (.bool false) (rm14_b1 a b c n) g))))
 else(
 K (.bool false) (rm14_b1 a b c n) g)))
 else(
 bif xcm .geq a 0 then(
 bif xnot (xcm .leq a (-1)) then(
 K (.bool false) (rm14_b1 a b c n) g)
 else(
 bif xcm .eql b 0 then(
 bif xcm .eql c 0 then(
 K (.bool true) (rm14_b1 a b c n) g)
 else(
 bif xcm .geq c 0 then(
 bif xnot (xcm .leq c (-1)) then(
 K (.bool false) (rm14_b1 a b c n) g)
 else(
 K (.bool true) (rm14_b1 a b c n) g))
 else(
 K (.bool false) (rm14_b1 a b c n) g)))
 else(
 bif xcm .geq b 0 then(
 bif xnot (xcm .leq b (-1)) then(
 K (.bool false) (rm14_b1 a b c n) g)
 else(
 bif xcm .eql c 0 then(
 K (.bool true) (rm14_b1 a b c n) g)
 else(
 bif xcm .geq c 0 then(
 bif xnot (xcm .leq c (-1)) then(
 K (.bool false) (rm14_b1 a b c n) g)
 else(
 K (.bool true) (rm14_b1 a b c n) g))
 else(
 K (.bool false) (rm14_b1 a b c n) g))))
 else(
 K (.bool false) (rm14_b1 a b c n) g))))
 else(
 K (.bool false) (rm14_b1 a b c n) g)))):=by kernel_rfl
abbrev rm15_b1 (a:Int) (b:Int) (c:Int) (n:Int):List (Option LB):=[sN [.int .i64 15,.int .i64 a,.int .i64 b,.int .i64 c,.int .u64 n],sN [.str [99,108,111,115,101],.int .i64 (-1),.int .i64 (-1),.int .i64 (-1),.bool false],sN [.str [99,108,111,115,101],.int .i64 (-1),.int .i64 (-1),.int .i64 (-1),.bool false]]
theorem rm15 (a b c n:Int) (g:Glb) (K:Fk):(xfun prog (fun _=>none) 100 15 [insL 15 a b c n] (mkS [] g) (vF K))=(
 bif xcm .neq n 0 then(
 K (.bool false) (rm15_b1 a b c n) g)
 else(
 bif xcm .eql a 0 then(
 bif xcm .eql b 0 then(
 bif xcm .eql c 0 then(
 K (.bool true) (rm15_b1 a b c n) g)
 else(
 bif xcm .geq c 0 then(
 bif xnot (xcm .leq c (-1)) then(
 K (.bool false) (rm15_b1 a b c n) g)
 else(
 K (.bool true) (rm15_b1 a b c n) g))
 else(
 K (.bool false) (rm15_b1 a b c n) g)))
 else(
 bif xcm .geq b 0 then(
 bif xnot (xcm .leq b (-1)) then(
 K (.bool false) (rm15_b1 a b c n) g)
 else(
 bif xcm .eql c 0 then(
 K (.bool true) (rm15_b1 a b c n) g)
 else(
 bif xcm .geq c 0 then(
 bif xnot (xcm .leq c (-1)) then(
 K (.bool false) (rm15_b1 a b c n) g)
 else(
 K (.bool true) (rm15_b1 a b c n) g))
 else(
 K (.bool false) (rm15_b1 a b c n) g))))
 else(
 K (.bool false) (rm15_b1 a b c n) g)))
 else(
 bif xcm .geq a 0 then(
 bif xnot (xcm .leq a (-1)) then(
 K (.bool false) (rm15_b1 a b c n) g)
 else(
 bif xcm .eql b 0 then(
 bif xcm .eql c 0 then(
 K (.bool true) (rm15_b1 a b c n) g)
 else(
 bif xcm .geq c 0 then(
 bif xnot (xcm .leq c (-1)) then(
 K (.bool false) (rm15_b1 a b c n) g)
 else(
 K (.bool true) (rm15_b1 a b c n) g))
 else(
 K (.bool false) (rm15_b1 a b c n) g)))
 else(
 bif xcm .geq b 0 then(
 bif xnot (xcm .leq b (-1)) then(
 K (.bool false) (rm15_b1 a b c n) g)
 else(
 bif xcm .eql c 0 then(
 K (.bool true) (rm15_b1 a b c n) g)
 else(
 bif xcm .geq c 0 then(
 bif xnot (xcm .leq c (-1)) then(
 K (.bool false) (rm15_b1 a b c n) g)
 else(
 K (.bool true) (rm15_b1 a b c n) g))
 else(
 K (.bool false) (rm15_b1 a b c n) g))))
 else(
 K (.bool false) (rm15_b1 a b c n) g))))
 else(
 K (.bool false) (rm15_b1 a b c n) g)))):=by kernel_rfl
abbrev rm16_b1 (a:Int) (b:Int) (c:Int) (n:Int):List (Option LB):=[sN [.int .i64 16,.int .i64 a,.int .i64 b,.int .i64 c,.int .u64 n],sN [.str [117,110,100,111],.int .i64 (-1),.int .i64 (-1),.int .i64 (-1),.bool false],sN [.str [117,110,100,111],.int .i64 (-1),.int .i64 (-1),.int .i64 (-1),.bool false]]
theorem rm16 (a b c n:Int) (g:Glb) (K:Fk):(xfun prog (fun _=>none) 100 15 [insL 16 a b c n] (mkS [] g) (vF K))=(
 bif xcm .neq n 0 then(
 K (.bool false) (rm16_b1 a b c n) g)
 else(
 bif xcm .eql a 0 then(
 bif xcm .eql b 0 then(
 bif xcm .eql c 0 then(
 K (.bool true) (rm16_b1 a b c n) g)
 else(
 bif xcm .geq c 0 then(
 bif xnot (xcm .leq c (-1)) then(
 K (.bool false) (rm16_b1 a b c n) g)
 else(
 K (.bool true) (rm16_b1 a b c n) g))
 else(
 K (.bool false) (rm16_b1 a b c n) g)))
 else(
 bif xcm .geq b 0 then(
 bif xnot (xcm .leq b (-1)) then(
 K (.bool false) (rm16_b1 a b c n) g)
 else(
 bif xcm .eql c 0 then(
 K (.bool true) (rm16_b1 a b c n) g)
 else(
 bif xcm .geq c 0 then(
 bif xnot (xcm .leq c (-1)) then(
 K (.bool false) (rm16_b1 a b c n) g)
 else(
 K (.bool true) (rm16_b1 a b c n) g))
 else(
 K (.bool false) (rm16_b1 a b c n) g))))
 else(
 K (.bool false) (rm16_b1 a b c n) g)))
 else(
 bif xcm .geq a 0 then(
 bif xnot (xcm .leq a (-1)) then(
 K (.bool false) (rm16_b1 a b c n) g)
 else(
 bif xcm .eql b 0 then(
 bif xcm .eql c 0 then(
 K (.bool true) (rm16_b1 a b c n) g)
 else(
 bif xcm .geq c 0 then(
 bif xnot (xcm .leq c (-1)) then(
 K (.bool false) (rm16_b1 a b c n) g)
 else(
 K (.bool true) (rm16_b1 a b c n) g))
 else(
 K (.bool false) (rm16_b1 a b c n) g)))
 else(
 bif xcm .geq b 0 then(
 bif xnot (xcm .leq b (-1)) then(
 K (.bool false) (rm16_b1 a b c n) g)
 else(
 bif xcm .eql c 0 then(
 K (.bool true) (rm16_b1 a b c n) g)
 else(
 bif xcm .geq c 0 then(
 bif xnot (xcm .leq c (-1)) then(
 K (.bool false) (rm16_b1 a b c n) g)
 else(
 K (.bool true) (rm16_b1 a b c n) g))
 else(
 K (.bool false) (rm16_b1 a b c n) g))))
 else(
 K (.bool false) (rm16_b1 a b c n) g))))
 else(
 K (.bool false) (rm16_b1 a b c n) g)))):=by kernel_rfl
abbrev rm17_b1 (a:Int) (b:Int) (c:Int) (n:Int):List (Option LB):=[sN [.int .i64 17,.int .i64 a,.int .i64 b,.int .i64 c,.int .u64 n],sN [.str [101,105,116,104,101,114],.int .i64 (-1),.int .i64 (-1),.int .i64 (-1),.bool false],sN [.str [101,105,116,104,101,114],.int .i64 (-1),.int .i64 (-1),.int .i64 (-1),.bool false]]
theorem rm17 (a b c n:Int) (g:Glb) (K:Fk):(xfun prog (fun _=>none) 100 15 [insL 17 a b c n] (mkS [] g) (vF K))=(
 bif xcm .neq n 0 then(
 K (.bool false) (rm17_b1 a b c n) g)
 else(
 bif xcm .eql a 0 then(
 bif xcm .eql b 0 then(
 bif xcm .eql c 0 then(
 K (.bool true) (rm17_b1 a b c n) g)
 else(
 bif xcm .geq c 0 then(
 bif xnot (xcm .leq c (-1)) then(
 K (.bool false) (rm17_b1 a b c n) g)
 else(
 K (.bool true) (rm17_b1 a b c n) g))
 else(
 K (.bool false) (rm17_b1 a b c n) g)))
 else(
 bif xcm .geq b 0 then(
 bif xnot (xcm .leq b (-1)) then(
 K (.bool false) (rm17_b1 a b c n) g)
 else(
 bif xcm .eql c 0 then(
 K (.bool true) (rm17_b1 a b c n) g)
 else(
 bif xcm .geq c 0 then(
 bif xnot (xcm .leq c (-1)) then(
 K (.bool false) (rm17_b1 a b c n) g)
 else(
 K (.bool true) (rm17_b1 a b c n) g))
 else(
 K (.bool false) (rm17_b1 a b c n) g))))
 else(
 K (.bool false) (rm17_b1 a b c n) g)))
 else(
 bif xcm .geq a 0 then(
 bif xnot (xcm .leq a (-1)) then(
 K (.bool false) (rm17_b1 a b c n) g)
 else(
 bif xcm .eql b 0 then(
 bif xcm .eql c 0 then(
 K (.bool true) (rm17_b1 a b c n) g)
 else(
 bif xcm .geq c 0 then(
 bif xnot (xcm .leq c (-1)) then(
 K (.bool false) (rm17_b1 a b c n) g)
 else(
 K (.bool true) (rm17_b1 a b c n) g))
 else(
 K (.bool false) (rm17_b1 a b c n) g)))
 else(
 bif xcm .geq b 0 then(
 bif xnot (xcm .leq b (-1)) then(
 K (.bool false) (rm17_b1 a b c n) g)
 else(
 bif xcm .eql c 0 then(
 K (.bool true) (rm17_b1 a b c n) g)
 else(
 bif xcm .geq c 0 then(
 bif xnot (xcm .leq c (-1)) then(
 K (.bool false) (rm17_b1 a b c n) g)
 else(
 K (.bool true) (rm17_b1 a b c n) g))
 else(
 K (.bool false) (rm17_b1 a b c n) g))))
 else(
 K (.bool false) (rm17_b1 a b c n) g))))
 else(
 K (.bool false) (rm17_b1 a b c n) g)))):=by kernel_rfl
abbrev rm18_b1 (a:Int) (b:Int) (c:Int) (n:Int):List (Option LB):=[sN [.int .i64 18,.int .i64 a,.int .i64 b,.int .i64 c,.int .u64 n],sN [.str [111,114],.int .i64 (-1),.int .i64 (-1),.int .i64 (-1),.bool false],sN [.str [111,114],.int .i64 (-1),.int .i64 (-1),.int .i64 (-1),.bool false]]
theorem rm18 (a b c n:Int) (g:Glb) (K:Fk):(xfun prog (fun _=>none) 100 15 [insL 18 a b c n] (mkS [] g) (vF K))=(
 bif xcm .neq n 0 then(
 K (.bool false) (rm18_b1 a b c n) g)
 else(
 bif xcm .eql a 0 then(
 bif xcm .eql b 0 then(
 bif xcm .eql c 0 then(
 K (.bool true) (rm18_b1 a b c n) g)
 else(
 bif xcm .geq c 0 then(
 bif xnot (xcm .leq c (-1)) then(
 K (.bool false) (rm18_b1 a b c n) g)
 else(
 K (.bool true) (rm18_b1 a b c n) g))
 else(
 K (.bool false) (rm18_b1 a b c n) g)))
 else(
 bif xcm .geq b 0 then(
 bif xnot (xcm .leq b (-1)) then(
 K (.bool false) (rm18_b1 a b c n) g)
 else(
 bif xcm .eql c 0 then(
 K (.bool true) (rm18_b1 a b c n) g)
 else(
 bif xcm .geq c 0 then(
 bif xnot (xcm .leq c (-1)) then(
 K (.bool false) (rm18_b1 a b c n) g)
 else(
 K (.bool true) (rm18_b1 a b c n) g))
 else(
 K (.bool false) (rm18_b1 a b c n) g))))
 else(
 K (.bool false) (rm18_b1 a b c n) g)))
 else(
 bif xcm .geq a 0 then(
 bif xnot (xcm .leq a (-1)) then(
 K (.bool false) (rm18_b1 a b c n) g)
 else(
 bif xcm .eql b 0 then(
 bif xcm .eql c 0 then(
 K (.bool true) (rm18_b1 a b c n) g)
 else(
 bif xcm .geq c 0 then(
 bif xnot (xcm .leq c (-1)) then(
 K (.bool false) (rm18_b1 a b c n) g)
 else(
 K (.bool true) (rm18_b1 a b c n) g))
 else(
 K (.bool false) (rm18_b1 a b c n) g)))
 else(
 bif xcm .geq b 0 then(
 bif xnot (xcm .leq b (-1)) then(
 K (.bool false) (rm18_b1 a b c n) g)
 else(
 bif xcm .eql c 0 then(
 K (.bool true) (rm18_b1 a b c n) g)
 else(
 bif xcm .geq c 0 then(
 bif xnot (xcm .leq c (-1)) then(
 K (.bool false) (rm18_b1 a b c n) g)
 else(
 K (.bool true) (rm18_b1 a b c n) g))
 else(
 K (.bool false) (rm18_b1 a b c n) g))))
 else(
 K (.bool false) (rm18_b1 a b c n) g))))
 else(
 K (.bool false) (rm18_b1 a b c n) g)))):=by kernel_rfl
abbrev rm19_b1 (a:Int) (b:Int) (c:Int) (n:Int):List (Option LB):=[sN [.int .i64 19,.int .i64 a,.int .i64 b,.int .i64 c,.int .u64 n],sN [.str [100,111,110,101],.int .i64 (-1),.int .i64 (-1),.int .i64 (-1),.bool false],sN [.str [100,111,110,101],.int .i64 (-1),.int .i64 (-1),.int .i64 (-1),.bool false]]
theorem rm19 (a b c n:Int) (g:Glb) (K:Fk):(xfun prog (fun _=>none) 100 15 [insL 19 a b c n] (mkS [] g) (vF K))=(
 bif xcm .neq n 0 then(
 K (.bool false) (rm19_b1 a b c n) g)
 else(
 bif xcm .eql a 0 then(
 bif xcm .eql b 0 then(
 bif xcm .eql c 0 then(
 K (.bool true) (rm19_b1 a b c n) g)
 else(
 bif xcm .geq c 0 then(
 bif xnot (xcm .leq c (-1)) then(
 K (.bool false) (rm19_b1 a b c n) g)
 else(
 K (.bool true) (rm19_b1 a b c n) g))
 else(
 K (.bool false) (rm19_b1 a b c n) g)))
 else(
 bif xcm .geq b 0 then(
 bif xnot (xcm .leq b (-1)) then(
 K (.bool false) (rm19_b1 a b c n) g)
 else(
 bif xcm .eql c 0 then(
 K (.bool true) (rm19_b1 a b c n) g)
 else(
 bif xcm .geq c 0 then(
 bif xnot (xcm .leq c (-1)) then(
 K (.bool false) (rm19_b1 a b c n) g)
 else(
 K (.bool true) (rm19_b1 a b c n) g))
 else(
 K (.bool false) (rm19_b1 a b c n) g))))
 else(
 K (.bool false) (rm19_b1 a b c n) g)))
 else(
 bif xcm .geq a 0 then(
 bif xnot (xcm .leq a (-1)) then(
 K (.bool false) (rm19_b1 a b c n) g)
 else(
 bif xcm .eql b 0 then(
 bif xcm .eql c 0 then(
 K (.bool true) (rm19_b1 a b c n) g)
 else(
 bif xcm .geq c 0 then(
 bif xnot (xcm .leq c (-1)) then(
 K (.bool false) (rm19_b1 a b c n) g)
 else(
 K (.bool true) (rm19_b1 a b c n) g))
 else(
 K (.bool false) (rm19_b1 a b c n) g)))
 else(
 bif xcm .geq b 0 then(
 bif xnot (xcm .leq b (-1)) then(
 K (.bool false) (rm19_b1 a b c n) g)
 else(
 bif xcm .eql c 0 then(
 K (.bool true) (rm19_b1 a b c n) g)
 else(
 bif xcm .geq c 0 then(
 bif xnot (xcm .leq c (-1)) then(
 K (.bool false) (rm19_b1 a b c n) g)
 else(
 K (.bool true) (rm19_b1 a b c n) g))
 else(
 K (.bool false) (rm19_b1 a b c n) g))))
 else(
 K (.bool false) (rm19_b1 a b c n) g))))
 else(
 K (.bool false) (rm19_b1 a b c n) g)))):=by kernel_rfl
abbrev rm20_b1 (a:Int) (b:Int) (c:Int) (n:Int):List (Option LB):=[sN [.int .i64 20,.int .i64 a,.int .i64 b,.int .i64 c,.int .u64 n],sN [.str [114,101,116,114,121],.int .i64 (-1),.int .i64 (-1),.int .i64 (-1),.bool false],sN [.str [114,101,116,114,121],.int .i64 (-1),.int .i64 (-1),.int .i64 (-1),.bool false]]
theorem rm20 (a b c n:Int) (g:Glb) (K:Fk):(xfun prog (fun _=>none) 100 15 [insL 20 a b c n] (mkS [] g) (vF K))=(
 bif xcm .neq n 0 then(
 K (.bool false) (rm20_b1 a b c n) g)
 else(
 bif xcm .eql a 0 then(
 bif xcm .eql b 0 then(
 bif xcm .eql c 0 then(
 K (.bool true) (rm20_b1 a b c n) g)
 else(
 bif xcm .geq c 0 then(
 bif xnot (xcm .leq c (-1)) then(
 K (.bool false) (rm20_b1 a b c n) g)
 else(
 K (.bool true) (rm20_b1 a b c n) g))
 else(
 K (.bool false) (rm20_b1 a b c n) g)))
 else(
 bif xcm .geq b 0 then(
 bif xnot (xcm .leq b (-1)) then(
 K (.bool false) (rm20_b1 a b c n) g)
 else(
 bif xcm .eql c 0 then(
 K (.bool true) (rm20_b1 a b c n) g)
 else(
 bif xcm .geq c 0 then(
 bif xnot (xcm .leq c (-1)) then(
 K (.bool false) (rm20_b1 a b c n) g)
 else(
 K (.bool true) (rm20_b1 a b c n) g))
 else(
 K (.bool false) (rm20_b1 a b c n) g))))
 else(
 K (.bool false) (rm20_b1 a b c n) g)))
 else(
 bif xcm .geq a 0 then(
 bif xnot (xcm .leq a (-1)) then(
 K (.bool false) (rm20_b1 a b c n) g)
 else(
 bif xcm .eql b 0 then(
 bif xcm .eql c 0 then(
 K (.bool true) (rm20_b1 a b c n) g)
 else(
 bif xcm .geq c 0 then(
 bif xnot (xcm .leq c (-1)) then(
 K (.bool false) (rm20_b1 a b c n) g)
 else(
 K (.bool true) (rm20_b1 a b c n) g))
 else(
 K (.bool false) (rm20_b1 a b c n) g)))
 else(
 bif xcm .geq b 0 then(
 bif xnot (xcm .leq b (-1)) then(
 K (.bool false) (rm20_b1 a b c n) g)
 else(
 bif xcm .eql c 0 then(
 K (.bool true) (rm20_b1 a b c n) g)
 else(
 bif xcm .geq c 0 then(
 bif xnot (xcm .leq c (-1)) then(
 K (.bool false) (rm20_b1 a b c n) g)
 else(
 K (.bool true) (rm20_b1 a b c n) g))
 else(
 K (.bool false) (rm20_b1 a b c n) g))))
 else(
 K (.bool false) (rm20_b1 a b c n) g))))
 else(
 K (.bool false) (rm20_b1 a b c n) g)))):=by kernel_rfl
abbrev rm21_b1 (a:Int) (b:Int) (c:Int) (n:Int):List (Option LB):=[sN [.int .i64 21,.int .i64 a,.int .i64 b,.int .i64 c,.int .u64 n],sN [.str [101,109,105,116],.int .i64 7,.int .i64 (-1),.int .i64 (-1),.bool false],sN [.str [101,109,105,116],.int .i64 7,.int .i64 (-1),.int .i64 (-1),.bool false]]
theorem rm21 (a b c n:Int) (g:Glb) (K:Fk):(xfun prog (fun _=>none) 100 15 [insL 21 a b c n] (mkS [] g) (vF K))=(
 bif xcm .neq n 0 then(
 K (.bool false) (rm21_b1 a b c n) g)
 else(
 bif xcm .eql a 0 then(
 bif xcm .geq a 0 then(
 bif xnot (xcm .leq a 7) then(
 K (.bool false) (rm21_b1 a b c n) g)
 else(
 bif xcm .eql b 0 then(
 bif xcm .eql c 0 then(
 K (.bool true) (rm21_b1 a b c n) g)
 else(
 bif xcm .geq c 0 then(
 bif xnot (xcm .leq c (-1)) then(
 K (.bool false) (rm21_b1 a b c n) g)
 else(
 K (.bool true) (rm21_b1 a b c n) g))
 else(
 K (.bool false) (rm21_b1 a b c n) g)))
 else(
 bif xcm .geq b 0 then(
 bif xnot (xcm .leq b (-1)) then(
 K (.bool false) (rm21_b1 a b c n) g)
 else(
 bif xcm .eql c 0 then(
 K (.bool true) (rm21_b1 a b c n) g)
 else(
 bif xcm .geq c 0 then(
 bif xnot (xcm .leq c (-1)) then(
 K (.bool false) (rm21_b1 a b c n) g)
 else(
 K (.bool true) (rm21_b1 a b c n) g))
 else(
 K (.bool false) (rm21_b1 a b c n) g))))
 else(
 K (.bool false) (rm21_b1 a b c n) g))))
 else(
 K (.bool false) (rm21_b1 a b c n) g))
 else(
 bif xcm .geq a 0 then(
 bif xnot (xcm .leq a 7) then(
 K (.bool false) (rm21_b1 a b c n) g)
 else(
 bif xcm .eql b 0 then(
 bif xcm .eql c 0 then(
 K (.bool true) (rm21_b1 a b c n) g)
 else(
 bif xcm .geq c 0 then(
 bif xnot (xcm .leq c (-1)) then(
 K (.bool false) (rm21_b1 a b c n) g)
 else(
 K (.bool true) (rm21_b1 a b c n) g))
 else(
 K (.bool false) (rm21_b1 a b c n) g)))
 else(
 bif xcm .geq b 0 then(
 bif xnot (xcm .leq b (-1)) then(
 K (.bool false) (rm21_b1 a b c n) g)
 else(
 bif xcm .eql c 0 then(
 K (.bool true) (rm21_b1 a b c n) g)
 else(
 bif xcm .geq c 0 then(
 bif xnot (xcm .leq c (-1)) then(
 K (.bool false) (rm21_b1 a b c n) g)
 else(
 K (.bool true) (rm21_b1 a b c n) g))
 else(
 K (.bool false) (rm21_b1 a b c n) g))))
 else(
 K (.bool false) (rm21_b1 a b c n) g))))
 else(
 K (.bool false) (rm21_b1 a b c n) g)))):=by kernel_rfl
abbrev rm22_b1 (a:Int) (b:Int) (c:Int) (n:Int):List (Option LB):=[sN [.int .i64 22,.int .i64 a,.int .i64 b,.int .i64 c,.int .u64 n],sN [.str [102,97,105,108],.int .i64 (-1),.int .i64 (-1),.int .i64 (-1),.bool false],sN [.str [102,97,105,108],.int .i64 (-1),.int .i64 (-1),.int .i64 (-1),.bool false]]
theorem rm22 (a b c n:Int) (g:Glb) (K:Fk):(xfun prog (fun _=>none) 100 15 [insL 22 a b c n] (mkS [] g) (vF K))=(
 bif xcm .neq n 0 then(
 K (.bool false) (rm22_b1 a b c n) g)
 else(
 bif xcm .eql a 0 then(
 bif xcm .eql b 0 then(
 bif xcm .eql c 0 then(
 K (.bool true) (rm22_b1 a b c n) g)
 else(
 bif xcm .geq c 0 then(
 bif xnot (xcm .leq c (-1)) then(
 K (.bool false) (rm22_b1 a b c n) g)
 else(
 K (.bool true) (rm22_b1 a b c n) g))
 else(
 K (.bool false) (rm22_b1 a b c n) g)))
 else(
 bif xcm .geq b 0 then(
 bif xnot (xcm .leq b (-1)) then(
 K (.bool false) (rm22_b1 a b c n) g)
 else(
 bif xcm .eql c 0 then(
 K (.bool true) (rm22_b1 a b c n) g)
 else(
 bif xcm .geq c 0 then(
 bif xnot (xcm .leq c (-1)) then(
 K (.bool false) (rm22_b1 a b c n) g)
 else(
 K (.bool true) (rm22_b1 a b c n) g))
 else(
 K (.bool false) (rm22_b1 a b c n) g))))
 else(
 K (.bool false) (rm22_b1 a b c n) g)))
 else(
 bif xcm .geq a 0 then(
 bif xnot (xcm .leq a (-1)) then(
 K (.bool false) (rm22_b1 a b c n) g)
 else(
 bif xcm .eql b 0 then(
 bif xcm .eql c 0 then(
 K (.bool true) (rm22_b1 a b c n) g)
 else(
 bif xcm .geq c 0 then(
 bif xnot (xcm .leq c (-1)) then(
 K (.bool false) (rm22_b1 a b c n) g)
 else(
 K (.bool true) (rm22_b1 a b c n) g))
 else(
 K (.bool false) (rm22_b1 a b c n) g)))
 else(
 bif xcm .geq b 0 then(
 bif xnot (xcm .leq b (-1)) then(
 K (.bool false) (rm22_b1 a b c n) g)
 else(
 bif xcm .eql c 0 then(
 K (.bool true) (rm22_b1 a b c n) g)
 else(
 bif xcm .geq c 0 then(
 bif xnot (xcm .leq c (-1)) then(
 K (.bool false) (rm22_b1 a b c n) g)
 else(
 K (.bool true) (rm22_b1 a b c n) g))
 else(
 K (.bool false) (rm22_b1 a b c n) g))))
 else(
 K (.bool false) (rm22_b1 a b c n) g))))
 else(
 K (.bool false) (rm22_b1 a b c n) g)))):=by kernel_rfl
abbrev rm23_b1 (a:Int) (b:Int) (c:Int) (n:Int):List (Option LB):=[sN [.int .i64 23,.int .i64 a,.int .i64 b,.int .i64 c,.int .u64 n],sN [.str [99,97,108,108],.int .i64 12,.int .i64 7,.int .i64 6,.bool false],sN [.str [99,97,108,108],.int .i64 12,.int .i64 7,.int .i64 6,.bool false]]
theorem rm23 (a b c n:Int) (g:Glb) (K:Fk):(xfun prog (fun _=>none) 100 15 [insL 23 a b c n] (mkS [] g) (vF K))=(
 bif xcm .neq n 0 then(
 K (.bool false) (rm23_b1 a b c n) g)
 else(
 bif xcm .eql a 0 then(
 bif xcm .geq a 0 then(
 bif xnot (xcm .leq a 12) then(
 K (.bool false) (rm23_b1 a b c n) g)
 else(
 bif xcm .eql b 0 then(
 bif xcm .geq b 0 then(
 bif xnot (xcm .leq b 7) then(
 K (.bool false) (rm23_b1 a b c n) g)
 else(
 bif xcm .eql c 0 then(
 bif xcm .geq c 0 then(
 bif xnot (xcm .leq c 6) then(
 K (.bool false) (rm23_b1 a b c n) g)
 else(
 K (.bool (xcm .geq a 1)) (rm23_b1 a b c n) g))
 else(
 K (.bool false) (rm23_b1 a b c n) g))
 else(
 bif xcm .geq c 0 then(
 bif xnot (xcm .leq c 6) then(
 K (.bool false) (rm23_b1 a b c n) g)
 else(
 K (.bool (xcm .geq a 1)) (rm23_b1 a b c n) g))
 else(
 K (.bool false) (rm23_b1 a b c n) g))))
 else(
 K (.bool false) (rm23_b1 a b c n) g))
 else(
 bif xcm .geq b 0 then(
 bif xnot (xcm .leq b 7) then(
 K (.bool false) (rm23_b1 a b c n) g)
 else(
 bif xcm .eql c 0 then(
 bif xcm .geq c 0 then(
 bif xnot (xcm .leq c 6) then(
 K (.bool false) (rm23_b1 a b c n) g)
 else(
 K (.bool (xcm .geq a 1)) (rm23_b1 a b c n) g))
 else(
 K (.bool false) (rm23_b1 a b c n) g))
 else(
 bif xcm .geq c 0 then(
 bif xnot (xcm .leq c 6) then(
 K (.bool false) (rm23_b1 a b c n) g)
 else(
 K (.bool (xcm .geq a 1)) (rm23_b1 a b c n) g))
 else(
 K (.bool false) (rm23_b1 a b c n) g))))
 else(
 K (.bool false) (rm23_b1 a b c n) g))))
 else(
 K (.bool false) (rm23_b1 a b c n) g))
 else(
 bif xcm .geq a 0 then(
 bif xnot (xcm .leq a 12) then(
 K (.bool false) (rm23_b1 a b c n) g)
 else(
 bif xcm .eql b 0 then(
 bif xcm .geq b 0 then(
 bif xnot (xcm .leq b 7) then(
 K (.bool false) (rm23_b1 a b c n) g)
 else(
 bif xcm .eql c 0 then(
 bif xcm .geq c 0 then(
 bif xnot (xcm .leq c 6) then(
 K (.bool false) (rm23_b1 a b c n) g)
 else(
 K (.bool (xcm .geq a 1)) (rm23_b1 a b c n) g))
 else(
 K (.bool false) (rm23_b1 a b c n) g))
 else(
 bif xcm .geq c 0 then(
 bif xnot (xcm .leq c 6) then(
 K (.bool false) (rm23_b1 a b c n) g)
 else(
 K (.bool (xcm .geq a 1)) (rm23_b1 a b c n) g))
 else(
 K (.bool false) (rm23_b1 a b c n) g))))
 else(
 K (.bool false) (rm23_b1 a b c n) g))
 else(
 bif xcm .geq b 0 then(
 bif xnot (xcm .leq b 7) then(
 K (.bool false) (rm23_b1 a b c n) g)
 else(
 bif xcm .eql c 0 then(
 bif xcm .geq c 0 then(
 bif xnot (xcm .leq c 6) then(
 K (.bool false) (rm23_b1 a b c n) g)
 else(
 K (.bool (xcm .geq a 1)) (rm23_b1 a b c n) g))
 else(
 K (.bool false) (rm23_b1 a b c n) g))
 else(
 bif xcm .geq c 0 then(
 bif xnot (xcm .leq c 6) then(
 K (.bool false) (rm23_b1 a b c n) g)
 else(
 K (.bool (xcm .geq a 1)) (rm23_b1 a b c n) g))
 else(
 K (.bool false) (rm23_b1 a b c n) g))))
 else(
 K (.bool false) (rm23_b1 a b c n) g))))
 else(
 K (.bool false) (rm23_b1 a b c n) g)))):=by kernel_rfl
theorem rmay12 (a b c n:Int) (g:Glb):SFun prog 15 [insL 12 a b c n] (mkS [] g) fun l s=>l=.bool (mayW 12 a b c n)∧s=mkS [] g:=by
 refine SFun.mono (SFun.vc (Q:=fun l bb=>l=.bool (mayW 12 a b c n)∧bb=[]) noCx_ok (n:=100) 0 rfl ?_) fun l s' ⟨b0,⟨h1,h2⟩,h3⟩=>⟨h1,by rw [h3,h2]⟩
 rw [rm12]
 simp only [xcm_geq,xcm_leq,xcm_eql,xcm_neq,xcm_lss,xcm_gtr,wd_not]
 repeat' (first | refine ite_way (fun _=>?_) (fun _=>?_) | refine nite_way (fun _=>?_) (fun _=>?_))
 all_goals first
  | (refine⟨rfl,_,_,[],⟨rfl,rfl⟩,leafB ((mw12 a b c n).2 ?_)⟩; simp only [Bool.false_eq_true,false_or,true_or,and_true]; omega)
  | (refine⟨rfl,_,_,[],⟨rfl,rfl⟩,leafB (Bool.eq_false_iff.2 fun hh=>?_)⟩; have:=(mw12 a b c n).1 hh; simp only [Bool.false_eq_true,false_or,true_or,and_true] at this; omega)
  | (refine⟨rfl,_,_,[],⟨rfl,rfl⟩,leafB (Bool.eq_iff_iff.2 ((mw12 a b c n).trans ?_))⟩; simp only [Bool.false_eq_true,false_or,true_or,and_true,decide_eq_true_eq]; omega)
  | omega
theorem rmay13 (a b c n:Int) (g:Glb):SFun prog 15 [insL 13 a b c n] (mkS [] g) fun l s=>l=.bool (mayW 13 a b c n)∧s=mkS [] g:=by
 refine SFun.mono (SFun.vc (Q:=fun l bb=>l=.bool (mayW 13 a b c n)∧bb=[]) noCx_ok (n:=100) 0 rfl ?_) fun l s' ⟨b0,⟨h1,h2⟩,h3⟩=>⟨h1,by rw [h3,h2]⟩
 rw [rm13]
 simp only [xcm_geq,xcm_leq,xcm_eql,xcm_neq,xcm_lss,xcm_gtr,wd_not]
 repeat' (first | refine ite_way (fun _=>?_) (fun _=>?_) | refine nite_way (fun _=>?_) (fun _=>?_))
 all_goals first
  | (refine⟨rfl,_,_,[],⟨rfl,rfl⟩,leafB ((mw13 a b c n).2 ?_)⟩; simp only [Bool.false_eq_true,false_or,true_or,and_true]; omega)
  | (refine⟨rfl,_,_,[],⟨rfl,rfl⟩,leafB (Bool.eq_false_iff.2 fun hh=>?_)⟩; have:=(mw13 a b c n).1 hh; simp only [Bool.false_eq_true,false_or,true_or,and_true] at this; omega)
  | (refine⟨rfl,_,_,[],⟨rfl,rfl⟩,leafB (Bool.eq_iff_iff.2 ((mw13 a b c n).trans ?_))⟩; simp only [Bool.false_eq_true,false_or,true_or,and_true,decide_eq_true_eq]; omega)
  | omega
theorem rmay14 (a b c n:Int) (g:Glb):SFun prog 15 [insL 14 a b c n] (mkS [] g) fun l s=>l=.bool (mayW 14 a b c n)∧s=mkS [] g:=by
 refine SFun.mono (SFun.vc (Q:=fun l bb=>l=.bool (mayW 14 a b c n)∧bb=[]) noCx_ok (n:=100) 0 rfl ?_) fun l s' ⟨b0,⟨h1,h2⟩,h3⟩=>⟨h1,by rw [h3,h2]⟩
 rw [rm14]
 simp only [xcm_geq,xcm_leq,xcm_eql,xcm_neq,xcm_lss,xcm_gtr,wd_not]
 repeat' (first | refine ite_way (fun _=>?_) (fun _=>?_) | refine nite_way (fun _=>?_) (fun _=>?_))
 all_goals first
  | (refine⟨rfl,_,_,[],⟨rfl,rfl⟩,leafB ((mw14 a b c n).2 ?_)⟩; simp only [Bool.false_eq_true,false_or,true_or,and_true]; omega)
  | (refine⟨rfl,_,_,[],⟨rfl,rfl⟩,leafB (Bool.eq_false_iff.2 fun hh=>?_)⟩; have:=(mw14 a b c n).1 hh; simp only [Bool.false_eq_true,false_or,true_or,and_true] at this; omega)
  | (refine⟨rfl,_,_,[],⟨rfl,rfl⟩,leafB (Bool.eq_iff_iff.2 ((mw14 a b c n).trans ?_))⟩; simp only [Bool.false_eq_true,false_or,true_or,and_true,decide_eq_true_eq]; omega)
  | omega
theorem rmay15 (a b c n:Int) (g:Glb):SFun prog 15 [insL 15 a b c n] (mkS [] g) fun l s=>l=.bool (mayW 15 a b c n)∧s=mkS [] g:=by
 refine SFun.mono (SFun.vc (Q:=fun l bb=>l=.bool (mayW 15 a b c n)∧bb=[]) noCx_ok (n:=100) 0 rfl ?_) fun l s' ⟨b0,⟨h1,h2⟩,h3⟩=>⟨h1,by rw [h3,h2]⟩
 rw [rm15]
 simp only [xcm_geq,xcm_leq,xcm_eql,xcm_neq,xcm_lss,xcm_gtr,wd_not]
 repeat' (first | refine ite_way (fun _=>?_) (fun _=>?_) | refine nite_way (fun _=>?_) (fun _=>?_))
 all_goals first
  | (refine⟨rfl,_,_,[],⟨rfl,rfl⟩,leafB ((mw15 a b c n).2 ?_)⟩; simp only [Bool.false_eq_true,false_or,true_or,and_true]; omega)
  | (refine⟨rfl,_,_,[],⟨rfl,rfl⟩,leafB (Bool.eq_false_iff.2 fun hh=>?_)⟩; have:=(mw15 a b c n).1 hh; simp only [Bool.false_eq_true,false_or,true_or,and_true] at this; omega)
  | (refine⟨rfl,_,_,[],⟨rfl,rfl⟩,leafB (Bool.eq_iff_iff.2 ((mw15 a b c n).trans ?_))⟩; simp only [Bool.false_eq_true,false_or,true_or,and_true,decide_eq_true_eq]; omega)
  | omega
theorem rmay16 (a b c n:Int) (g:Glb):SFun prog 15 [insL 16 a b c n] (mkS [] g) fun l s=>l=.bool (mayW 16 a b c n)∧s=mkS [] g:=by
 refine SFun.mono (SFun.vc (Q:=fun l bb=>l=.bool (mayW 16 a b c n)∧bb=[]) noCx_ok (n:=100) 0 rfl ?_) fun l s' ⟨b0,⟨h1,h2⟩,h3⟩=>⟨h1,by rw [h3,h2]⟩
 rw [rm16]
 simp only [xcm_geq,xcm_leq,xcm_eql,xcm_neq,xcm_lss,xcm_gtr,wd_not]
 repeat' (first | refine ite_way (fun _=>?_) (fun _=>?_) | refine nite_way (fun _=>?_) (fun _=>?_))
 all_goals first
  | (refine⟨rfl,_,_,[],⟨rfl,rfl⟩,leafB ((mw16 a b c n).2 ?_)⟩; simp only [Bool.false_eq_true,false_or,true_or,and_true]; omega)
  | (refine⟨rfl,_,_,[],⟨rfl,rfl⟩,leafB (Bool.eq_false_iff.2 fun hh=>?_)⟩; have:=(mw16 a b c n).1 hh; simp only [Bool.false_eq_true,false_or,true_or,and_true] at this; omega)
  | (refine⟨rfl,_,_,[],⟨rfl,rfl⟩,leafB (Bool.eq_iff_iff.2 ((mw16 a b c n).trans ?_))⟩; simp only [Bool.false_eq_true,false_or,true_or,and_true,decide_eq_true_eq]; omega)
  | omega
theorem rmay17 (a b c n:Int) (g:Glb):SFun prog 15 [insL 17 a b c n] (mkS [] g) fun l s=>l=.bool (mayW 17 a b c n)∧s=mkS [] g:=by
 refine SFun.mono (SFun.vc (Q:=fun l bb=>l=.bool (mayW 17 a b c n)∧bb=[]) noCx_ok (n:=100) 0 rfl ?_) fun l s' ⟨b0,⟨h1,h2⟩,h3⟩=>⟨h1,by rw [h3,h2]⟩
 rw [rm17]
 simp only [xcm_geq,xcm_leq,xcm_eql,xcm_neq,xcm_lss,xcm_gtr,wd_not]
 repeat' (first | refine ite_way (fun _=>?_) (fun _=>?_) | refine nite_way (fun _=>?_) (fun _=>?_))
 all_goals first
  | (refine⟨rfl,_,_,[],⟨rfl,rfl⟩,leafB ((mw17 a b c n).2 ?_)⟩; simp only [Bool.false_eq_true,false_or,true_or,and_true]; omega)
  | (refine⟨rfl,_,_,[],⟨rfl,rfl⟩,leafB (Bool.eq_false_iff.2 fun hh=>?_)⟩; have:=(mw17 a b c n).1 hh; simp only [Bool.false_eq_true,false_or,true_or,and_true] at this; omega)
  | (refine⟨rfl,_,_,[],⟨rfl,rfl⟩,leafB (Bool.eq_iff_iff.2 ((mw17 a b c n).trans ?_))⟩; simp only [Bool.false_eq_true,false_or,true_or,and_true,decide_eq_true_eq]; omega)
  | omega
theorem rmay18 (a b c n:Int) (g:Glb):SFun prog 15 [insL 18 a b c n] (mkS [] g) fun l s=>l=.bool (mayW 18 a b c n)∧s=mkS [] g:=by
 refine SFun.mono (SFun.vc (Q:=fun l bb=>l=.bool (mayW 18 a b c n)∧bb=[]) noCx_ok (n:=100) 0 rfl ?_) fun l s' ⟨b0,⟨h1,h2⟩,h3⟩=>⟨h1,by rw [h3,h2]⟩
 rw [rm18]
 simp only [xcm_geq,xcm_leq,xcm_eql,xcm_neq,xcm_lss,xcm_gtr,wd_not]
 repeat' (first | refine ite_way (fun _=>?_) (fun _=>?_) | refine nite_way (fun _=>?_) (fun _=>?_))
 all_goals first
  | (refine⟨rfl,_,_,[],⟨rfl,rfl⟩,leafB ((mw18 a b c n).2 ?_)⟩; simp only [Bool.false_eq_true,false_or,true_or,and_true]; omega)
  | (refine⟨rfl,_,_,[],⟨rfl,rfl⟩,leafB (Bool.eq_false_iff.2 fun hh=>?_)⟩; have:=(mw18 a b c n).1 hh; simp only [Bool.false_eq_true,false_or,true_or,and_true] at this; omega)
  | (refine⟨rfl,_,_,[],⟨rfl,rfl⟩,leafB (Bool.eq_iff_iff.2 ((mw18 a b c n).trans ?_))⟩; simp only [Bool.false_eq_true,false_or,true_or,and_true,decide_eq_true_eq]; omega)
  | omega
theorem rmay19 (a b c n:Int) (g:Glb):SFun prog 15 [insL 19 a b c n] (mkS [] g) fun l s=>l=.bool (mayW 19 a b c n)∧s=mkS [] g:=by
 refine SFun.mono (SFun.vc (Q:=fun l bb=>l=.bool (mayW 19 a b c n)∧bb=[]) noCx_ok (n:=100) 0 rfl ?_) fun l s' ⟨b0,⟨h1,h2⟩,h3⟩=>⟨h1,by rw [h3,h2]⟩
 rw [rm19]
 simp only [xcm_geq,xcm_leq,xcm_eql,xcm_neq,xcm_lss,xcm_gtr,wd_not]
 repeat' (first | refine ite_way (fun _=>?_) (fun _=>?_) | refine nite_way (fun _=>?_) (fun _=>?_))
 all_goals first
  | (refine⟨rfl,_,_,[],⟨rfl,rfl⟩,leafB ((mw19 a b c n).2 ?_)⟩; simp only [Bool.false_eq_true,false_or,true_or,and_true]; omega)
  | (refine⟨rfl,_,_,[],⟨rfl,rfl⟩,leafB (Bool.eq_false_iff.2 fun hh=>?_)⟩; have:=(mw19 a b c n).1 hh; simp only [Bool.false_eq_true,false_or,true_or,and_true] at this; omega)
  | (refine⟨rfl,_,_,[],⟨rfl,rfl⟩,leafB (Bool.eq_iff_iff.2 ((mw19 a b c n).trans ?_))⟩; simp only [Bool.false_eq_true,false_or,true_or,and_true,decide_eq_true_eq]; omega)
  | omega
theorem rmay20 (a b c n:Int) (g:Glb):SFun prog 15 [insL 20 a b c n] (mkS [] g) fun l s=>l=.bool (mayW 20 a b c n)∧s=mkS [] g:=by
 refine SFun.mono (SFun.vc (Q:=fun l bb=>l=.bool (mayW 20 a b c n)∧bb=[]) noCx_ok (n:=100) 0 rfl ?_) fun l s' ⟨b0,⟨h1,h2⟩,h3⟩=>⟨h1,by rw [h3,h2]⟩
 rw [rm20]
 simp only [xcm_geq,xcm_leq,xcm_eql,xcm_neq,xcm_lss,xcm_gtr,wd_not]
 repeat' (first | refine ite_way (fun _=>?_) (fun _=>?_) | refine nite_way (fun _=>?_) (fun _=>?_))
 all_goals first
  | (refine⟨rfl,_,_,[],⟨rfl,rfl⟩,leafB ((mw20 a b c n).2 ?_)⟩; simp only [Bool.false_eq_true,false_or,true_or,and_true]; omega)
  | (refine⟨rfl,_,_,[],⟨rfl,rfl⟩,leafB (Bool.eq_false_iff.2 fun hh=>?_)⟩; have:=(mw20 a b c n).1 hh; simp only [Bool.false_eq_true,false_or,true_or,and_true] at this; omega)
  | (refine⟨rfl,_,_,[],⟨rfl,rfl⟩,leafB (Bool.eq_iff_iff.2 ((mw20 a b c n).trans ?_))⟩; simp only [Bool.false_eq_true,false_or,true_or,and_true,decide_eq_true_eq]; omega)
  | omega
theorem rmay21 (a b c n:Int) (g:Glb):SFun prog 15 [insL 21 a b c n] (mkS [] g) fun l s=>l=.bool (mayW 21 a b c n)∧s=mkS [] g:=by
 refine SFun.mono (SFun.vc (Q:=fun l bb=>l=.bool (mayW 21 a b c n)∧bb=[]) noCx_ok (n:=100) 0 rfl ?_) fun l s' ⟨b0,⟨h1,h2⟩,h3⟩=>⟨h1,by rw [h3,h2]⟩
 rw [rm21]
 simp only [xcm_geq,xcm_leq,xcm_eql,xcm_neq,xcm_lss,xcm_gtr,wd_not]
 repeat' (first | refine ite_way (fun _=>?_) (fun _=>?_) | refine nite_way (fun _=>?_) (fun _=>?_))
 all_goals first
  | (refine⟨rfl,_,_,[],⟨rfl,rfl⟩,leafB ((mw21 a b c n).2 ?_)⟩; simp only [Bool.false_eq_true,false_or,true_or,and_true]; omega)
  | (refine⟨rfl,_,_,[],⟨rfl,rfl⟩,leafB (Bool.eq_false_iff.2 fun hh=>?_)⟩; have:=(mw21 a b c n).1 hh; simp only [Bool.false_eq_true,false_or,true_or,and_true] at this; omega)
  | (refine⟨rfl,_,_,[],⟨rfl,rfl⟩,leafB (Bool.eq_iff_iff.2 ((mw21 a b c n).trans ?_))⟩; simp only [Bool.false_eq_true,false_or,true_or,and_true,decide_eq_true_eq]; omega)
  | omega
theorem rmay22 (a b c n:Int) (g:Glb):SFun prog 15 [insL 22 a b c n] (mkS [] g) fun l s=>l=.bool (mayW 22 a b c n)∧s=mkS [] g:=by
 refine SFun.mono (SFun.vc (Q:=fun l bb=>l=.bool (mayW 22 a b c n)∧bb=[]) noCx_ok (n:=100) 0 rfl ?_) fun l s' ⟨b0,⟨h1,h2⟩,h3⟩=>⟨h1,by rw [h3,h2]⟩
 rw [rm22]
 simp only [xcm_geq,xcm_leq,xcm_eql,xcm_neq,xcm_lss,xcm_gtr,wd_not]
 repeat' (first | refine ite_way (fun _=>?_) (fun _=>?_) | refine nite_way (fun _=>?_) (fun _=>?_))
 all_goals first
  | (refine⟨rfl,_,_,[],⟨rfl,rfl⟩,leafB ((mw22 a b c n).2 ?_)⟩; simp only [Bool.false_eq_true,false_or,true_or,and_true]; omega)
  | (refine⟨rfl,_,_,[],⟨rfl,rfl⟩,leafB (Bool.eq_false_iff.2 fun hh=>?_)⟩; have:=(mw22 a b c n).1 hh; simp only [Bool.false_eq_true,false_or,true_or,and_true] at this; omega)
  | (refine⟨rfl,_,_,[],⟨rfl,rfl⟩,leafB (Bool.eq_iff_iff.2 ((mw22 a b c n).trans ?_))⟩; simp only [Bool.false_eq_true,false_or,true_or,and_true,decide_eq_true_eq]; omega)
  | omega
theorem rmay23 (a b c n:Int) (g:Glb):SFun prog 15 [insL 23 a b c n] (mkS [] g) fun l s=>l=.bool (mayW 23 a b c n)∧s=mkS [] g:=by
 refine SFun.mono (SFun.vc (Q:=fun l bb=>l=.bool (mayW 23 a b c n)∧bb=[]) noCx_ok (n:=100) 0 rfl ?_) fun l s' ⟨b0,⟨h1,h2⟩,h3⟩=>⟨h1,by rw [h3,h2]⟩
 rw [rm23]
 simp only [xcm_geq,xcm_leq,xcm_eql,xcm_neq,xcm_lss,xcm_gtr,wd_not]
 repeat' (first | refine ite_way (fun _=>?_) (fun _=>?_) | refine nite_way (fun _=>?_) (fun _=>?_))
 all_goals first
  | (refine⟨rfl,_,_,[],⟨rfl,rfl⟩,leafB ((mw23 a b c n).2 ?_)⟩; simp only [Bool.false_eq_true,false_or,true_or,and_true]; omega)
  | (refine⟨rfl,_,_,[],⟨rfl,rfl⟩,leafB (Bool.eq_false_iff.2 fun hh=>?_)⟩; have:=(mw23 a b c n).1 hh; simp only [Bool.false_eq_true,false_or,true_or,and_true] at this; omega)
  | (refine⟨rfl,_,_,[],⟨rfl,rfl⟩,leafB (Bool.eq_iff_iff.2 ((mw23 a b c n).trans ?_))⟩; simp only [Bool.false_eq_true,false_or,true_or,and_true,decide_eq_true_eq]; omega)
  | omega
theorem rmay (op a b c n:Int) (g:Glb):SFun prog 15 [insL op a b c n] (mkS [] g) fun l s=>l=.bool (mayW op a b c n)∧s=mkS [] g:=by
 by_cases h:op < 1∨23 < op
 ·rw [mayW_out h]
  refine SFun.mono (SFun.vc (Q:=fun l b=>l=.bool false∧b=[]) cxro_ok (n:=60) 0 rfl ?_) fun l s' ⟨b0,⟨h1,h2⟩,h3⟩=>⟨h1,by rw [h3,h2]⟩
  rw [rmx]
  simp only [outW_iff.2 h,cond_true]
  exact⟨rfl,_,_,[],⟨rfl,rfl⟩,by(exact zC)⟩
 ·have:op=1∨op=2∨op=3∨op=4∨op=5∨op=6∨op=7∨op=8∨op=9∨op=10∨op=11∨op=12∨op=13∨op=14∨op=15∨op=16∨op=17∨op=18∨op=19∨op=20∨op=21∨op=22∨op=23:=by omega
  rcases this with rfl | rfl | rfl | rfl | rfl | rfl | rfl | rfl | rfl | rfl | rfl | rfl | rfl | rfl | rfl | rfl | rfl | rfl | rfl | rfl | rfl | rfl | rfl
  ·exact rmay1 a b c n g
  ·exact rmay2 a b c n g
  ·exact rmay3 a b c n g
  ·exact rmay4 a b c n g
  ·exact rmay5 a b c n g
  ·exact rmay6 a b c n g
  ·exact rmay7 a b c n g
  ·exact rmay8 a b c n g
  ·exact rmay9 a b c n g
  ·exact rmay10 a b c n g
  ·exact rmay11 a b c n g
  ·exact rmay12 a b c n g
  ·exact rmay13 a b c n g
  ·exact rmay14 a b c n g
  ·exact rmay15 a b c n g
  ·exact rmay16 a b c n g
  ·exact rmay17 a b c n g
  ·exact rmay18 a b c n g
  ·exact rmay19 a b c n g
  ·exact rmay20 a b c n g
  ·exact rmay21 a b c n g
  ·exact rmay22 a b c n g
  ·exact rmay23 a b c n g
def rmayG:Gc:=fun args s=>match args with
 | [.agg [.int .i64 op,.int .i64 a,.int .i64 b,.int .i64 c,.int .u64 n]]=>some ([],.bool (mayW op a b c n),s)
 | _=>none
theorem rmayG_ok:GOk prog 15 rmayG:=by
 intro args s bs l s' hg hb hfr
 unfold rmayG at hg
 split at hg
 ·rename_i op a b c n
  simp only [Option.some.injEq,Prod.mk.injEq] at hg
  obtain⟨rfl,rfl,rfl⟩:=hg
  exact SFun.pure2 hfr rfl rfl (rmay op a b c n s.g)
 ·cases hg
end
end Go.Lev
