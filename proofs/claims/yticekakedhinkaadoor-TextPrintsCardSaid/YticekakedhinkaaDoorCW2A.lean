/- chapter 14: whether an instruction may be (the reference) -/
import Derived.Test.YticekakedhinkaaDoorCW1
import Derived.Test.YticekakedhinkaaDoorLc
import Derived.Test.YticekakedhinkaaDoorChecked
import Derived.KernelRfl
import Derived.Test.YticekakedhinkaaDoorLc
import Derived.Test.YticekakedhinkaaDoorLc
import Derived.Test.YticekakedhinkaaDoorRows
namespace Go.Lev
set_option linter.unusedSimpArgs false
set_option linter.unusedVariables false
open Go.RowKit
open Go.Proofs.Tryd (prog)
set_option maxRecDepth 100000
noncomputable section
abbrev rowZ:LV:=.tup [.agg [.str [],.int .i64 0,.int .i64 0,.int .i64 0,.bool false],.bool false]
def rowOutG:Gc:=fun args s=>match args with
 | [.int .i64 op]=>some ([outW op],rowZ,s)
 | _=>none
def cxro:Cx:=cxl [(27,rowOutG)]
abbrev rowx_b1 (op:Int):List (Option LB):=[sN [.str (asS (nthD [.str [111,112,101,110],.str [99,108,111,115,101],.str [117,110,100,111],.str [101,105,116,104,101,114],.str [111,114],.str [100,111,110,101],.str [114,101,116,114,121]] (xmul (xnat (xar .sub .i64 op 14)) 1))),.int .i64 (-1),.int .i64 (-1),.int .i64 (-1),.bool false]]
abbrev rowx_b2  : List (Option LB):=[sN [.str [102,97,105,108],.int .i64 (-1),.int .i64 (-1),.int .i64 (-1),.bool false]]
abbrev rowx_b3  : List (Option LB):=[sN [.str [101,109,105,116],.int .i64 7,.int .i64 (-1),.int .i64 (-1),.bool false]]
abbrev rowx_b4  : List (Option LB):=[sN [.str [99,97,108,108],.int .i64 12,.int .i64 7,.int .i64 6,.bool false]]
abbrev rowx_b5 (op:Int):List (Option LB):=[sN [.str (asS (nthD [.str [97,100,100],.str [115,117,98],.str [109,117,108],.str [108,101,115,115],.str [101,113,117,97,108]] (xmul (xnat (xar .sub .i64 op 3)) 1))),.int .i64 7,.int .i64 7,.int .i64 7,.bool false]]
abbrev rowx_b6  : List (Option LB):=[sN [.str [106,117,109,112],.int .i64 (-1),.int .i64 (-1),.int .i64 40,.bool false]]
abbrev rowx_b7  : List (Option LB):=[sN [.str [115,116,111,114,101],.int .i64 7,.int .i64 7,.int .i64 15,.bool false]]
abbrev rowx_b8  : List (Option LB):=[sN [.str [97,108,108,111,99],.int .i64 7,.int .i64 7,.int .i64 (-1),.bool false]]
abbrev rowx_b9  : List (Option LB):=[sN [.str [102,114,101,101],.int .i64 7,.int .i64 (-1),.int .i64 (-1),.bool false]]
abbrev rowx_b10  : List (Option LB):=[sN [.str [122,101,114,111],.int .i64 7,.int .i64 (-1),.int .i64 40,.bool false]]
abbrev rowx_b11  : List (Option LB):=[sN [.str [108,111,97,100],.int .i64 7,.int .i64 7,.int .i64 15,.bool false]]
abbrev rowx_b12 (op:Int):LV:=(.tup [.agg [.str (asS (nthD [.str [111,112,101,110],.str [99,108,111,115,101],.str [117,110,100,111],.str [101,105,116,104,101,114],.str [111,114],.str [100,111,110,101],.str [114,101,116,114,121]] (xmul (xnat (xar .sub .i64 op 14)) 1))),.int .i64 (-1),.int .i64 (-1),.int .i64 (-1),.bool false],.bool true])
abbrev rowx_b13  : LV:=(.tup [.agg [.str [102,97,105,108],.int .i64 (-1),.int .i64 (-1),.int .i64 (-1),.bool false],.bool true])
abbrev rowx_b14  : LV:=(.tup [.agg [.str [101,109,105,116],.int .i64 7,.int .i64 (-1),.int .i64 (-1),.bool false],.bool true])
abbrev rowx_b15  : LV:=(.tup [.agg [.str [99,97,108,108],.int .i64 12,.int .i64 7,.int .i64 6,.bool false],.bool true])
abbrev rowx_b16  : LV:=(.tup [.agg [.str [],.int .i64 0,.int .i64 0,.int .i64 0,.bool false],.bool false])
abbrev rowx_b17 (op:Int):LV:=(.tup [.agg [.str (asS (nthD [.str [97,100,100],.str [115,117,98],.str [109,117,108],.str [108,101,115,115],.str [101,113,117,97,108]] (xmul (xnat (xar .sub .i64 op 3)) 1))),.int .i64 7,.int .i64 7,.int .i64 7,.bool false],.bool true])
abbrev rowx_b18  : LV:=(.tup [.agg [.str [106,117,109,112],.int .i64 (-1),.int .i64 (-1),.int .i64 40,.bool false],.bool true])
abbrev rowx_b19  : LV:=(.tup [.agg [.str [115,116,111,114,101],.int .i64 7,.int .i64 7,.int .i64 15,.bool false],.bool true])
abbrev rowx_b20  : LV:=(.tup [.agg [.str [97,108,108,111,99],.int .i64 7,.int .i64 7,.int .i64 (-1),.bool false],.bool true])
abbrev rowx_b21  : LV:=(.tup [.agg [.str [102,114,101,101],.int .i64 7,.int .i64 (-1),.int .i64 (-1),.bool false],.bool true])
abbrev rowx_b22  : LV:=(.tup [.agg [.str [122,101,114,111],.int .i64 7,.int .i64 (-1),.int .i64 40,.bool false],.bool true])
abbrev rowx_b23  : LV:=(.tup [.agg [.str [108,111,97,100],.int .i64 7,.int .i64 7,.int .i64 15,.bool false],.bool true])
theorem rowx (op:Int) (g:Glb) (K:Fk):(xfun prog (fun _=>none) 100 27 [.int .i64 op] (mkS [] g) (vF K))=(
 bif xcm .eql op 1 then(
 K (.tup [.agg [.str [115,101,116],.int .i64 7,.int .i64 (-1),.int .i64 (-1),.bool true],.bool true]) [sN [.str [115,101,116],.int .i64 7,.int .i64 (-1),.int .i64 (-1),.bool true]] g)
 else(
 bif xcm .eql op 2 then(
 K (.tup [.agg [.str [109,111,118,101],.int .i64 7,.int .i64 7,.int .i64 (-1),.bool false],.bool true]) [sN [.str [109,111,118,101],.int .i64 7,.int .i64 7,.int .i64 (-1),.bool false]] g)
 else(
 bif xcm .eql op 3 then(
 bif xcm .eql op 3 then(
 ck (xnn (xar .sub .i64 op 3)) <|
 ck (xle (xadd (xnat (xar .sub .i64 op 3)) 1) 5) <|
 ck (xle (xadd (xmul (xnat (xar .sub .i64 op 3)) 1) 1) 5) <|
 ck (isS (nthD [.str [97,100,100],.str [115,117,98],.str [109,117,108],.str [108,101,115,115],.str [101,113,117,97,108]] (xmul (xnat (xar .sub .i64 op 3)) 1))) <|
 K (rowx_b17 op) (rowx_b5 op) g)
 else(
 bif xcm .eql op 8 then(
 K rowx_b23 rowx_b11 g)
 else(
 bif xcm .eql op 9 then(
 K rowx_b19 rowx_b7 g)
 else(
 bif xcm .eql op 10 then(
 K rowx_b20 rowx_b8 g)
 else(
 bif xcm .eql op 11 then(
 K rowx_b21 rowx_b9 g)
 else(
 bif xcm .eql op 12 then(
 K rowx_b18 rowx_b6 g)
 else(
 bif xcm .eql op 13 then(
 K rowx_b22 rowx_b10 g)
 else(
 bif xcm .eql op 14 then(
 bif xcm .eql op 14 then(
 ck (xnn (xar .sub .i64 op 14)) <|
 ck (xle (xadd (xnat (xar .sub .i64 op 14)) 1) 7) <|
 ck (xle (xadd (xmul (xnat (xar .sub .i64 op 14)) 1) 1) 7) <|
 ck (isS (nthD [.str [111,112,101,110],.str [99,108,111,115,101],.str [117,110,100,111],.str [101,105,116,104,101,114],.str [111,114],.str [100,111,110,101],.str [114,101,116,114,121]] (xmul (xnat (xar .sub .i64 op 14)) 1))) <|
 K (rowx_b12 op) (rowx_b1 op) g)
 else(
 bif xcm .eql op 21 then(
 K rowx_b14 rowx_b3 g)
 else(
 bif xcm .eql op 22 then(
 K rowx_b13 rowx_b2 g)
 else(
 bif xcm .eql op 23 then(
 K rowx_b15 rowx_b4 g)
 else(
 K rowx_b16 [sN [.str [],.int .i64 0,.int .i64 0,.int .i64 0,.bool false]] g)))))
 else(
 bif xcm .eql op 15 then(
 bif xcm .eql op 15 then(
 ck (xnn (xar .sub .i64 op 14)) <|
 ck (xle (xadd (xnat (xar .sub .i64 op 14)) 1) 7) <|
 ck (xle (xadd (xmul (xnat (xar .sub .i64 op 14)) 1) 1) 7) <|
 ck (isS (nthD [.str [111,112,101,110],.str [99,108,111,115,101],.str [117,110,100,111],.str [101,105,116,104,101,114],.str [111,114],.str [100,111,110,101],.str [114,101,116,114,121]] (xmul (xnat (xar .sub .i64 op 14)) 1))) <|
 K (rowx_b12 op) (rowx_b1 op) g)
 else(
 bif xcm .eql op 21 then(
 K rowx_b14 rowx_b3 g)
 else(
 bif xcm .eql op 22 then(
 K rowx_b13 rowx_b2 g)
 else(
 bif xcm .eql op 23 then(
 K rowx_b15 rowx_b4 g)
 else(
 K rowx_b16 [sN [.str [],.int .i64 0,.int .i64 0,.int .i64 0,.bool false]] g)))))
 else(
 bif xcm .eql op 16 then(
 bif xcm .eql op 16 then(
 ck (xnn (xar .sub .i64 op 14)) <|
 ck (xle (xadd (xnat (xar .sub .i64 op 14)) 1) 7) <|
 ck (xle (xadd (xmul (xnat (xar .sub .i64 op 14)) 1) 1) 7) <|
 ck (isS (nthD [.str [111,112,101,110],.str [99,108,111,115,101],.str [117,110,100,111],.str [101,105,116,104,101,114],.str [111,114],.str [100,111,110,101],.str [114,101,116,114,121]] (xmul (xnat (xar .sub .i64 op 14)) 1))) <|
 K (rowx_b12 op) (rowx_b1 op) g)
 else(
 bif xcm .eql op 21 then(
 K rowx_b14 rowx_b3 g)
 else(
 bif xcm .eql op 22 then(
 K rowx_b13 rowx_b2 g)
 else(
 bif xcm .eql op 23 then(
 K rowx_b15 rowx_b4 g)
 else(
 K rowx_b16 [sN [.str [],.int .i64 0,.int .i64 0,.int .i64 0,.bool false]] g)))))
 else(
 bif xcm .eql op 17 then(
 bif xcm .eql op 17 then(
 ck (xnn (xar .sub .i64 op 14)) <|
 ck (xle (xadd (xnat (xar .sub .i64 op 14)) 1) 7) <|
 ck (xle (xadd (xmul (xnat (xar .sub .i64 op 14)) 1) 1) 7) <|
 ck (isS (nthD [.str [111,112,101,110],.str [99,108,111,115,101],.str [117,110,100,111],.str [101,105,116,104,101,114],.str [111,114],.str [100,111,110,101],.str [114,101,116,114,121]] (xmul (xnat (xar .sub .i64 op 14)) 1))) <|
 K (rowx_b12 op) (rowx_b1 op) g)
 else(
 bif xcm .eql op 21 then(
 K rowx_b14 rowx_b3 g)
 else(
 bif xcm .eql op 22 then(
 K rowx_b13 rowx_b2 g)
 else(
 bif xcm .eql op 23 then(
 K rowx_b15 rowx_b4 g)
 else(
 K rowx_b16 [sN [.str [],.int .i64 0,.int .i64 0,.int .i64 0,.bool false]] g)))))
 else(
 bif xcm .eql op 18 then(
 bif xcm .eql op 18 then(
 ck (xnn (xar .sub .i64 op 14)) <|
 ck (xle (xadd (xnat (xar .sub .i64 op 14)) 1) 7) <|
 ck (xle (xadd (xmul (xnat (xar .sub .i64 op 14)) 1) 1) 7) <|
 ck (isS (nthD [.str [111,112,101,110],.str [99,108,111,115,101],.str [117,110,100,111],.str [101,105,116,104,101,114],.str [111,114],.str [100,111,110,101],.str [114,101,116,114,121]] (xmul (xnat (xar .sub .i64 op 14)) 1))) <|
 K (rowx_b12 op) (rowx_b1 op) g)
 else(
 bif xcm .eql op 21 then(
 K rowx_b14 rowx_b3 g)
 else(
 bif xcm .eql op 22 then(
 K rowx_b13 rowx_b2 g)
 else(
 bif xcm .eql op 23 then(
 K rowx_b15 rowx_b4 g)
 else(
 K rowx_b16 [sN [.str [],.int .i64 0,.int .i64 0,.int .i64 0,.bool false]] g)))))
 else(
 bif xcm .eql op 19 then(
 bif xcm .eql op 19 then(
 ck (xnn (xar .sub .i64 op 14)) <|
 ck (xle (xadd (xnat (xar .sub .i64 op 14)) 1) 7) <|
 ck (xle (xadd (xmul (xnat (xar .sub .i64 op 14)) 1) 1) 7) <|
 ck (isS (nthD [.str [111,112,101,110],.str [99,108,111,115,101],.str [117,110,100,111],.str [101,105,116,104,101,114],.str [111,114],.str [100,111,110,101],.str [114,101,116,114,121]] (xmul (xnat (xar .sub .i64 op 14)) 1))) <|
 K (rowx_b12 op) (rowx_b1 op) g)
 else(
 bif xcm .eql op 21 then(
 K rowx_b14 rowx_b3 g)
 else(
 bif xcm .eql op 22 then(
 K rowx_b13 rowx_b2 g)
 else(
 bif xcm .eql op 23 then(
 K rowx_b15 rowx_b4 g)
 else(
 K rowx_b16 [sN [.str [],.int .i64 0,.int .i64 0,.int .i64 0,.bool false]] g)))))
 else(
 bif xcm .eql op 20 then(
 ck (xnn (xar .sub .i64 op 14)) <|
 ck (xle (xadd (xnat (xar .sub .i64 op 14)) 1) 7) <|
 ck (xle (xadd (xmul (xnat (xar .sub .i64 op 14)) 1) 1) 7) <|
 ck (isS (nthD [.str [111,112,101,110],.str [99,108,111,115,101],.str [117,110,100,111],.str [101,105,116,104,101,114],.str [111,114],.str [100,111,110,101],.str [114,101,116,114,121]] (xmul (xnat (xar .sub .i64 op 14)) 1))) <|
 K (rowx_b12 op) (rowx_b1 op) g)
 else(
 bif xcm .eql op 21 then(
 K rowx_b14 rowx_b3 g)
 else(
 bif xcm .eql op 22 then(
 K rowx_b13 rowx_b2 g)
 else(
 bif xcm .eql op 23 then(
 K rowx_b15 rowx_b4 g)
 else(
 K rowx_b16 [sN [.str [],.int .i64 0,.int .i64 0,.int .i64 0,.bool false]] g))))))))))))))))))
 else(
 bif xcm .eql op 4 then(
 bif xcm .eql op 4 then(
 ck (xnn (xar .sub .i64 op 3)) <|
 ck (xle (xadd (xnat (xar .sub .i64 op 3)) 1) 5) <|
 ck (xle (xadd (xmul (xnat (xar .sub .i64 op 3)) 1) 1) 5) <|
 ck (isS (nthD [.str [97,100,100],.str [115,117,98],.str [109,117,108],.str [108,101,115,115],.str [101,113,117,97,108]] (xmul (xnat (xar .sub .i64 op 3)) 1))) <|
 K (rowx_b17 op) (rowx_b5 op) g)
 else(
 bif xcm .eql op 8 then(
 K rowx_b23 rowx_b11 g)
 else(
 bif xcm .eql op 9 then(
 K rowx_b19 rowx_b7 g)
 else(
 bif xcm .eql op 10 then(
 K rowx_b20 rowx_b8 g)
 else(
 bif xcm .eql op 11 then(
 K rowx_b21 rowx_b9 g)
 else(
 bif xcm .eql op 12 then(
 K rowx_b18 rowx_b6 g)
 else(
 bif xcm .eql op 13 then(
 K rowx_b22 rowx_b10 g)
 else(
 bif xcm .eql op 14 then(
 bif xcm .eql op 14 then(
 ck (xnn (xar .sub .i64 op 14)) <|
 ck (xle (xadd (xnat (xar .sub .i64 op 14)) 1) 7) <|
 ck (xle (xadd (xmul (xnat (xar .sub .i64 op 14)) 1) 1) 7) <|
 ck (isS (nthD [.str [111,112,101,110],.str [99,108,111,115,101],.str [117,110,100,111],.str [101,105,116,104,101,114],.str [111,114],.str [100,111,110,101],.str [114,101,116,114,121]] (xmul (xnat (xar .sub .i64 op 14)) 1))) <|
 K (rowx_b12 op) (rowx_b1 op) g)
 else(
 bif xcm .eql op 21 then(
 K rowx_b14 rowx_b3 g)
 else(
 bif xcm .eql op 22 then(
 K rowx_b13 rowx_b2 g)
 else(
 bif xcm .eql op 23 then(
 K rowx_b15 rowx_b4 g)
 else(
 K rowx_b16 [sN [.str [],.int .i64 0,.int .i64 0,.int .i64 0,.bool false]] g)))))
 else(
 bif xcm .eql op 15 then(
 bif xcm .eql op 15 then(
 ck (xnn (xar .sub .i64 op 14)) <|
 ck (xle (xadd (xnat (xar .sub .i64 op 14)) 1) 7) <|
 ck (xle (xadd (xmul (xnat (xar .sub .i64 op 14)) 1) 1) 7) <|
 ck (isS (nthD [.str [111,112,101,110],.str [99,108,111,115,101],.str [117,110,100,111],.str [101,105,116,104,101,114],.str [111,114],.str [100,111,110,101],.str [114,101,116,114,121]] (xmul (xnat (xar .sub .i64 op 14)) 1))) <|
 K (rowx_b12 op) (rowx_b1 op) g)
 else(
 bif xcm .eql op 21 then(
 K rowx_b14 rowx_b3 g)
 else(
 bif xcm .eql op 22 then(
 K rowx_b13 rowx_b2 g)
 else(
 bif xcm .eql op 23 then(
 K rowx_b15 rowx_b4 g)
 else(
 K rowx_b16 [sN [.str [],.int .i64 0,.int .i64 0,.int .i64 0,.bool false]] g)))))
 else(
 bif xcm .eql op 16 then(
 bif xcm .eql op 16 then(
 ck (xnn (xar .sub .i64 op 14)) <|
 ck (xle (xadd (xnat (xar .sub .i64 op 14)) 1) 7) <|
 ck (xle (xadd (xmul (xnat (xar .sub .i64 op 14)) 1) 1) 7) <|
 ck (isS (nthD [.str [111,112,101,110],.str [99,108,111,115,101],.str [117,110,100,111],.str [101,105,116,104,101,114],.str [111,114],.str [100,111,110,101],.str [114,101,116,114,121]] (xmul (xnat (xar .sub .i64 op 14)) 1))) <|
 K (rowx_b12 op) (rowx_b1 op) g)
 else(
 bif xcm .eql op 21 then(
 K rowx_b14 rowx_b3 g)
 else(
 bif xcm .eql op 22 then(
 K rowx_b13 rowx_b2 g)
 else(
 bif xcm .eql op 23 then(
 K rowx_b15 rowx_b4 g)
 else(
 K rowx_b16 [sN [.str [],.int .i64 0,.int .i64 0,.int .i64 0,.bool false]] g)))))
 else(
 bif xcm .eql op 17 then(
 bif xcm .eql op 17 then(
 ck (xnn (xar .sub .i64 op 14)) <|
 ck (xle (xadd (xnat (xar .sub .i64 op 14)) 1) 7) <|
 ck (xle (xadd (xmul (xnat (xar .sub .i64 op 14)) 1) 1) 7) <|
 ck (isS (nthD [.str [111,112,101,110],.str [99,108,111,115,101],.str [117,110,100,111],.str [101,105,116,104,101,114],.str [111,114],.str [100,111,110,101],.str [114,101,116,114,121]] (xmul (xnat (xar .sub .i64 op 14)) 1))) <|
 K (rowx_b12 op) (rowx_b1 op) g)
 else(
 bif xcm .eql op 21 then(
 K rowx_b14 rowx_b3 g)
 else(
 bif xcm .eql op 22 then(
 K rowx_b13 rowx_b2 g)
 else(
 bif xcm .eql op 23 then(
 K rowx_b15 rowx_b4 g)
 else(
 K rowx_b16 [sN [.str [],.int .i64 0,.int .i64 0,.int .i64 0,.bool false]] g)))))
 else(
 bif xcm .eql op 18 then(
 bif xcm .eql op 18 then(
 ck (xnn (xar .sub .i64 op 14)) <|
 ck (xle (xadd (xnat (xar .sub .i64 op 14)) 1) 7) <|
 ck (xle (xadd (xmul (xnat (xar .sub .i64 op 14)) 1) 1) 7) <|
 ck (isS (nthD [.str [111,112,101,110],.str [99,108,111,115,101],.str [117,110,100,111],.str [101,105,116,104,101,114],.str [111,114],.str [100,111,110,101],.str [114,101,116,114,121]] (xmul (xnat (xar .sub .i64 op 14)) 1))) <|
 K (rowx_b12 op) (rowx_b1 op) g)
 else(
 bif xcm .eql op 21 then(
 K rowx_b14 rowx_b3 g)
 else(
 bif xcm .eql op 22 then(
 K rowx_b13 rowx_b2 g)
 else(
 bif xcm .eql op 23 then(
 K rowx_b15 rowx_b4 g)
 else(
 K rowx_b16 [sN [.str [],.int .i64 0,.int .i64 0,.int .i64 0,.bool false]] g)))))
 else(
 bif xcm .eql op 19 then(
 bif xcm .eql op 19 then(
 ck (xnn (xar .sub .i64 op 14)) <|
 ck (xle (xadd (xnat (xar .sub .i64 op 14)) 1) 7) <|
 ck (xle (xadd (xmul (xnat (xar .sub .i64 op 14)) 1) 1) 7) <|
 ck (isS (nthD [.str [111,112,101,110],.str [99,108,111,115,101],.str [117,110,100,111],.str [101,105,116,104,101,114],.str [111,114],.str [100,111,110,101],.str [114,101,116,114,121]] (xmul (xnat (xar .sub .i64 op 14)) 1))) <|
 K (rowx_b12 op) (rowx_b1 op) g)
 else(
 bif xcm .eql op 21 then(
 K rowx_b14 rowx_b3 g)
 else(
 bif xcm .eql op 22 then(
 K rowx_b13 rowx_b2 g)
 else(
 bif xcm .eql op 23 then(
 K rowx_b15 rowx_b4 g)
 else(
 K rowx_b16 [sN [.str [],.int .i64 0,.int .i64 0,.int .i64 0,.bool false]] g)))))
 else(
 bif xcm .eql op 20 then(
 ck (xnn (xar .sub .i64 op 14)) <|
 ck (xle (xadd (xnat (xar .sub .i64 op 14)) 1) 7) <|
 ck (xle (xadd (xmul (xnat (xar .sub .i64 op 14)) 1) 1) 7) <|
 ck (isS (nthD [.str [111,112,101,110],.str [99,108,111,115,101],.str [117,110,100,111],.str [101,105,116,104,101,114],.str [111,114],.str [100,111,110,101],.str [114,101,116,114,121]] (xmul (xnat (xar .sub .i64 op 14)) 1))) <|
 K (rowx_b12 op) (rowx_b1 op) g)
 else(
 bif xcm .eql op 21 then(
 K rowx_b14 rowx_b3 g)
 else(
 bif xcm .eql op 22 then(
 K rowx_b13 rowx_b2 g)
 else(
 bif xcm .eql op 23 then(
 K rowx_b15 rowx_b4 g)
 else(
 K rowx_b16 [sN [.str [],.int .i64 0,.int .i64 0,.int .i64 0,.bool false]] g))))))))))))))))))
 else(
 bif xcm .eql op 5 then(
 bif xcm .eql op 5 then(
 ck (xnn (xar .sub .i64 op 3)) <|
 ck (xle (xadd (xnat (xar .sub .i64 op 3)) 1) 5) <|
 ck (xle (xadd (xmul (xnat (xar .sub .i64 op 3)) 1) 1) 5) <|
 ck (isS (nthD [.str [97,100,100],.str [115,117,98],.str [109,117,108],.str [108,101,115,115],.str [101,113,117,97,108]] (xmul (xnat (xar .sub .i64 op 3)) 1))) <|
 K (rowx_b17 op) (rowx_b5 op) g)
 else(
 bif xcm .eql op 8 then(
 K rowx_b23 rowx_b11 g)
 else(
 bif xcm .eql op 9 then(
 K rowx_b19 rowx_b7 g)
 else(
 bif xcm .eql op 10 then(
 K rowx_b20 rowx_b8 g)
 else(
 bif xcm .eql op 11 then(
 K rowx_b21 rowx_b9 g)
 else(
 bif xcm .eql op 12 then(
 K rowx_b18 rowx_b6 g)
 else(
 bif xcm .eql op 13 then(
 K rowx_b22 rowx_b10 g)
 else(
 bif xcm .eql op 14 then(
 bif xcm .eql op 14 then(
 ck (xnn (xar .sub .i64 op 14)) <|
 ck (xle (xadd (xnat (xar .sub .i64 op 14)) 1) 7) <|
 ck (xle (xadd (xmul (xnat (xar .sub .i64 op 14)) 1) 1) 7) <|
 ck (isS (nthD [.str [111,112,101,110],.str [99,108,111,115,101],.str [117,110,100,111],.str [101,105,116,104,101,114],.str [111,114],.str [100,111,110,101],.str [114,101,116,114,121]] (xmul (xnat (xar .sub .i64 op 14)) 1))) <|
 K (rowx_b12 op) (rowx_b1 op) g)
 else(
 bif xcm .eql op 21 then(
 K rowx_b14 rowx_b3 g)
 else(
 bif xcm .eql op 22 then(
 K rowx_b13 rowx_b2 g)
 else(
 bif xcm .eql op 23 then(
 K rowx_b15 rowx_b4 g)
 else(
 K rowx_b16 [sN [.str [],.int .i64 0,.int .i64 0,.int .i64 0,.bool false]] g)))))
 else(
 bif xcm .eql op 15 then(
 bif xcm .eql op 15 then(
 ck (xnn (xar .sub .i64 op 14)) <|
 ck (xle (xadd (xnat (xar .sub .i64 op 14)) 1) 7) <|
 ck (xle (xadd (xmul (xnat (xar .sub .i64 op 14)) 1) 1) 7) <|
 ck (isS (nthD [.str [111,112,101,110],.str [99,108,111,115,101],.str [117,110,100,111],.str [101,105,116,104,101,114],.str [111,114],.str [100,111,110,101],.str [114,101,116,114,121]] (xmul (xnat (xar .sub .i64 op 14)) 1))) <|
 K (rowx_b12 op) (rowx_b1 op) g)
 else(
 bif xcm .eql op 21 then(
 K rowx_b14 rowx_b3 g)
 else(
 bif xcm .eql op 22 then(
 K rowx_b13 rowx_b2 g)
 else(
 bif xcm .eql op 23 then(
 K rowx_b15 rowx_b4 g)
 else(
 K rowx_b16 [sN [.str [],.int .i64 0,.int .i64 0,.int .i64 0,.bool false]] g)))))
 else(
 bif xcm .eql op 16 then(
 bif xcm .eql op 16 then(
 ck (xnn (xar .sub .i64 op 14)) <|
 ck (xle (xadd (xnat (xar .sub .i64 op 14)) 1) 7) <|
 ck (xle (xadd (xmul (xnat (xar .sub .i64 op 14)) 1) 1) 7) <|
 ck (isS (nthD [.str [111,112,101,110],.str [99,108,111,115,101],.str [117,110,100,111],.str [101,105,116,104,101,114],.str [111,114],.str [100,111,110,101],.str [114,101,116,114,121]] (xmul (xnat (xar .sub .i64 op 14)) 1))) <|
 K (rowx_b12 op) (rowx_b1 op) g)
 else(
 bif xcm .eql op 21 then(
 K rowx_b14 rowx_b3 g)
 else(
 bif xcm .eql op 22 then(
 K rowx_b13 rowx_b2 g)
 else(
 bif xcm .eql op 23 then(
 K rowx_b15 rowx_b4 g)
 else(
 K rowx_b16 [sN [.str [],.int .i64 0,.int .i64 0,.int .i64 0,.bool false]] g)))))
 else(
 bif xcm .eql op 17 then(
 bif xcm .eql op 17 then(
 ck (xnn (xar .sub .i64 op 14)) <|
 ck (xle (xadd (xnat (xar .sub .i64 op 14)) 1) 7) <|
 ck (xle (xadd (xmul (xnat (xar .sub .i64 op 14)) 1) 1) 7) <|
 ck (isS (nthD [.str [111,112,101,110],.str [99,108,111,115,101],.str [117,110,100,111],.str [101,105,116,104,101,114],.str [111,114],.str [100,111,110,101],.str [114,101,116,114,121]] (xmul (xnat (xar .sub .i64 op 14)) 1))) <|
 K (rowx_b12 op) (rowx_b1 op) g)
 else(
 bif xcm .eql op 21 then(
 K rowx_b14 rowx_b3 g)
 else(
 bif xcm .eql op 22 then(
 K rowx_b13 rowx_b2 g)
 else(
 bif xcm .eql op 23 then(
 K rowx_b15 rowx_b4 g)
 else(
 K rowx_b16 [sN [.str [],.int .i64 0,.int .i64 0,.int .i64 0,.bool false]] g)))))
 else(
 bif xcm .eql op 18 then(
 bif xcm .eql op 18 then(
 ck (xnn (xar .sub .i64 op 14)) <|
 ck (xle (xadd (xnat (xar .sub .i64 op 14)) 1) 7) <|
 ck (xle (xadd (xmul (xnat (xar .sub .i64 op 14)) 1) 1) 7) <|
 ck (isS (nthD [.str [111,112,101,110],.str [99,108,111,115,101],.str [117,110,100,111],.str [101,105,116,104,101,114],.str [111,114],.str [100,111,110,101],.str [114,101,116,114,121]] (xmul (xnat (xar .sub .i64 op 14)) 1))) <|
 K (rowx_b12 op) (rowx_b1 op) g)
 else(
 bif xcm .eql op 21 then(
 K rowx_b14 rowx_b3 g)
 else(
 bif xcm .eql op 22 then(
 K rowx_b13 rowx_b2 g)
 else(
 bif xcm .eql op 23 then(
 K rowx_b15 rowx_b4 g)
 else(
 K rowx_b16 [sN [.str [],.int .i64 0,.int .i64 0,.int .i64 0,.bool false]] g)))))
 else(
 bif xcm .eql op 19 then(
 bif xcm .eql op 19 then(
 ck (xnn (xar .sub .i64 op 14)) <|
 ck (xle (xadd (xnat (xar .sub .i64 op 14)) 1) 7) <|
 ck (xle (xadd (xmul (xnat (xar .sub .i64 op 14)) 1) 1) 7) <|
 ck (isS (nthD [.str [111,112,101,110],.str [99,108,111,115,101],.str [117,110,100,111],.str [101,105,116,104,101,114],.str [111,114],.str [100,111,110,101],.str [114,101,116,114,121]] (xmul (xnat (xar .sub .i64 op 14)) 1))) <|
 K (rowx_b12 op) (rowx_b1 op) g)
 else(
 bif xcm .eql op 21 then(
 K rowx_b14 rowx_b3 g)
 else(
 bif xcm .eql op 22 then(
 K rowx_b13 rowx_b2 g)
 else(
 bif xcm .eql op 23 then(
 K rowx_b15 rowx_b4 g)
 else(
 K rowx_b16 [sN [.str [],.int .i64 0,.int .i64 0,.int .i64 0,.bool false]] g)))))
 else(
 bif xcm .eql op 20 then(
 ck (xnn (xar .sub .i64 op 14)) <|
 ck (xle (xadd (xnat (xar .sub .i64 op 14)) 1) 7) <|
 ck (xle (xadd (xmul (xnat (xar .sub .i64 op 14)) 1) 1) 7) <|
 ck (isS (nthD [.str [111,112,101,110],.str [99,108,111,115,101],.str [117,110,100,111],.str [101,105,116,104,101,114],.str [111,114],.str [100,111,110,101],.str [114,101,116,114,121]] (xmul (xnat (xar .sub .i64 op 14)) 1))) <|
 K (rowx_b12 op) (rowx_b1 op) g)
 else(
 bif xcm .eql op 21 then(
 K rowx_b14 rowx_b3 g)
 else(
 bif xcm .eql op 22 then(
 K rowx_b13 rowx_b2 g)
 else(
 bif xcm .eql op 23 then(
 K rowx_b15 rowx_b4 g)
 else(
 K rowx_b16 [sN [.str [],.int .i64 0,.int .i64 0,.int .i64 0,.bool false]] g))))))))))))))))))
 else(
 bif xcm .eql op 6 then(
 bif xcm .eql op 6 then(
 ck (xnn (xar .sub .i64 op 3)) <|
 ck (xle (xadd (xnat (xar .sub .i64 op 3)) 1) 5) <|
 ck (xle (xadd (xmul (xnat (xar .sub .i64 op 3)) 1) 1) 5) <|
 ck (isS (nthD [.str [97,100,100],.str [115,117,98],.str [109,117,108],.str [108,101,115,115],.str [101,113,117,97,108]] (xmul (xnat (xar .sub .i64 op 3)) 1))) <|
 K (rowx_b17 op) (rowx_b5 op) g)
 else(
 bif xcm .eql op 8 then(
 K rowx_b23 rowx_b11 g)
 else(
 bif xcm .eql op 9 then(
 K rowx_b19 rowx_b7 g)
 else(
 bif xcm .eql op 10 then(
 K rowx_b20 rowx_b8 g)
 else(
 bif xcm .eql op 11 then(
 K rowx_b21 rowx_b9 g)
 else(
 bif xcm .eql op 12 then(
 K rowx_b18 rowx_b6 g)
 else(
 bif xcm .eql op 13 then(
 K rowx_b22 rowx_b10 g)
 else(
 bif xcm .eql op 14 then(
 bif xcm .eql op 14 then(
 ck (xnn (xar .sub .i64 op 14)) <|
 ck (xle (xadd (xnat (xar .sub .i64 op 14)) 1) 7) <|
 ck (xle (xadd (xmul (xnat (xar .sub .i64 op 14)) 1) 1) 7) <|
 ck (isS (nthD [.str [111,112,101,110],.str [99,108,111,115,101],.str [117,110,100,111],.str [101,105,116,104,101,114],.str [111,114],.str [100,111,110,101],.str [114,101,116,114,121]] (xmul (xnat (xar .sub .i64 op 14)) 1))) <|
 K (rowx_b12 op) (rowx_b1 op) g)
 else(
 bif xcm .eql op 21 then(
 K rowx_b14 rowx_b3 g)
 else(
 bif xcm .eql op 22 then(
 K rowx_b13 rowx_b2 g)
 else(
 bif xcm .eql op 23 then(
 K rowx_b15 rowx_b4 g)
 else(
 K rowx_b16 [sN [.str [],.int .i64 0,.int .i64 0,.int .i64 0,.bool false]] g)))))
 else(
 bif xcm .eql op 15 then(
 bif xcm .eql op 15 then(
 ck (xnn (xar .sub .i64 op 14)) <|
 ck (xle (xadd (xnat (xar .sub .i64 op 14)) 1) 7) <|
 ck (xle (xadd (xmul (xnat (xar .sub .i64 op 14)) 1) 1) 7) <|
 ck (isS (nthD [.str [111,112,101,110],.str [99,108,111,115,101],.str [117,110,100,111],.str [101,105,116,104,101,114],.str [111,114],.str [100,111,110,101],.str [114,101,116,114,121]] (xmul (xnat (xar .sub .i64 op 14)) 1))) <|
 K (rowx_b12 op) (rowx_b1 op) g)
 else(
 bif xcm .eql op 21 then(
 K rowx_b14 rowx_b3 g)
 else(
 bif xcm .eql op 22 then(
 K rowx_b13 rowx_b2 g)
 else(
 bif xcm .eql op 23 then(
 K rowx_b15 rowx_b4 g)
 else(
 K rowx_b16 [sN [.str [],.int .i64 0,.int .i64 0,.int .i64 0,.bool false]] g)))))
 else(
 bif xcm .eql op 16 then(
 bif xcm .eql op 16 then(
 ck (xnn (xar .sub .i64 op 14)) <|
 ck (xle (xadd (xnat (xar .sub .i64 op 14)) 1) 7) <|
 ck (xle (xadd (xmul (xnat (xar .sub .i64 op 14)) 1) 1) 7) <|
 ck (isS (nthD [.str [111,112,101,110],.str [99,108,111,115,101],.str [117,110,100,111],.str [101,105,116,104,101,114],.str [111,114],.str [100,111,110,101],.str [114,101,116,114,121]] (xmul (xnat (xar .sub .i64 op 14)) 1))) <|
 K (rowx_b12 op) (rowx_b1 op) g)
 else(
 bif xcm .eql op 21 then(
 K rowx_b14 rowx_b3 g)
 else(
 bif xcm .eql op 22 then(
 K rowx_b13 rowx_b2 g)
 else(
 bif xcm .eql op 23 then(
 K rowx_b15 rowx_b4 g)
 else(
 K rowx_b16 [sN [.str [],.int .i64 0,.int .i64 0,.int .i64 0,.bool false]] g)))))
 else(
 bif xcm .eql op 17 then(
 bif xcm .eql op 17 then(
 ck (xnn (xar .sub .i64 op 14)) <|
 ck (xle (xadd (xnat (xar .sub .i64 op 14)) 1) 7) <|
 ck (xle (xadd (xmul (xnat (xar .sub .i64 op 14)) 1) 1) 7) <|
 ck (isS (nthD [.str [111,112,101,110],.str [99,108,111,115,101],.str [117,110,100,111],.str [101,105,116,104,101,114],.str [111,114],.str [100,111,110,101],.str [114,101,116,114,121]] (xmul (xnat (xar .sub .i64 op 14)) 1))) <|
 K (rowx_b12 op) (rowx_b1 op) g)
 else(
 bif xcm .eql op 21 then(
 K rowx_b14 rowx_b3 g)
 else(
 bif xcm .eql op 22 then(
 K rowx_b13 rowx_b2 g)
 else(
 bif xcm .eql op 23 then(
 K rowx_b15 rowx_b4 g)
 else(
 K rowx_b16 [sN [.str [],.int .i64 0,.int .i64 0,.int .i64 0,.bool false]] g)))))
 else(
 bif xcm .eql op 18 then(
 bif xcm .eql op 18 then(
 ck (xnn (xar .sub .i64 op 14)) <|
 ck (xle (xadd (xnat (xar .sub .i64 op 14)) 1) 7) <|
 ck (xle (xadd (xmul (xnat (xar .sub .i64 op 14)) 1) 1) 7) <|
 ck (isS (nthD [.str [111,112,101,110],.str [99,108,111,115,101],.str [117,110,100,111],.str [101,105,116,104,101,114],.str [111,114],.str [100,111,110,101],.str [114,101,116,114,121]] (xmul (xnat (xar .sub .i64 op 14)) 1))) <|
 K (rowx_b12 op) (rowx_b1 op) g)
 else(
 bif xcm .eql op 21 then(
 K rowx_b14 rowx_b3 g)
 else(
 bif xcm .eql op 22 then(
 K rowx_b13 rowx_b2 g)
 else(
 bif xcm .eql op 23 then(
 K rowx_b15 rowx_b4 g)
 else(
 K rowx_b16 [sN [.str [],.int .i64 0,.int .i64 0,.int .i64 0,.bool false]] g)))))
 else(
 bif xcm .eql op 19 then(
 bif xcm .eql op 19 then(
 ck (xnn (xar .sub .i64 op 14)) <|
 ck (xle (xadd (xnat (xar .sub .i64 op 14)) 1) 7) <|
 ck (xle (xadd (xmul (xnat (xar .sub .i64 op 14)) 1) 1) 7) <|
 ck (isS (nthD [.str [111,112,101,110],.str [99,108,111,115,101],.str [117,110,100,111],.str [101,105,116,104,101,114],.str [111,114],.str [100,111,110,101],.str [114,101,116,114,121]] (xmul (xnat (xar .sub .i64 op 14)) 1))) <|
 K (rowx_b12 op) (rowx_b1 op) g)
 else(
 bif xcm .eql op 21 then(
 K rowx_b14 rowx_b3 g)
 else(
 bif xcm .eql op 22 then(
 K rowx_b13 rowx_b2 g)
 else(
 bif xcm .eql op 23 then(
 K rowx_b15 rowx_b4 g)
 else(
 K rowx_b16 [sN [.str [],.int .i64 0,.int .i64 0,.int .i64 0,.bool false]] g)))))
 else(
 bif xcm .eql op 20 then(
 ck (xnn (xar .sub .i64 op 14)) <|
 ck (xle (xadd (xnat (xar .sub .i64 op 14)) 1) 7) <|
 ck (xle (xadd (xmul (xnat (xar .sub .i64 op 14)) 1) 1) 7) <|
 ck (isS (nthD [.str [111,112,101,110],.str [99,108,111,115,101],.str [117,110,100,111],.str [101,105,116,104,101,114],.str [111,114],.str [100,111,110,101],.str [114,101,116,114,121]] (xmul (xnat (xar .sub .i64 op 14)) 1))) <|
 K (rowx_b12 op) (rowx_b1 op) g)
 else(
 bif xcm .eql op 21 then(
 K rowx_b14 rowx_b3 g)
 else(
 bif xcm .eql op 22 then(
 K rowx_b13 rowx_b2 g)
 else(
 bif xcm .eql op 23 then(
 K rowx_b15 rowx_b4 g)
 else(
 K rowx_b16 [sN [.str [],.int .i64 0,.int .i64 0,.int .i64 0,.bool false]] g))))))))))))))))))
 else(
 bif xcm .eql op 7 then(
 ck (xnn (xar .sub .i64 op 3)) <|
 ck (xle (xadd (xnat (xar .sub .i64 op 3)) 1) 5) <|
 ck (xle (xadd (xmul (xnat (xar .sub .i64 op 3)) 1) 1) 5) <|
 ck (isS (nthD [.str [97,100,100],.str [115,117,98],.str [109,117,108],.str [108,101,115,115],.str [101,113,117,97,108]] (xmul (xnat (xar .sub .i64 op 3)) 1))) <|
 K (rowx_b17 op) (rowx_b5 op) g)
 else(
 bif xcm .eql op 8 then(
 K rowx_b23 rowx_b11 g)
 else(
 bif xcm .eql op 9 then(
 K rowx_b19 rowx_b7 g)
 else(
 bif xcm .eql op 10 then(
 K rowx_b20 rowx_b8 g)
 else(
 bif xcm .eql op 11 then(
 K rowx_b21 rowx_b9 g)
 else(
 bif xcm .eql op 12 then(
 K rowx_b18 rowx_b6 g)
 else(
 bif xcm .eql op 13 then(
 K rowx_b22 rowx_b10 g)
 else(
 bif xcm .eql op 14 then(
 bif xcm .eql op 14 then(
 ck (xnn (xar .sub .i64 op 14)) <|
 ck (xle (xadd (xnat (xar .sub .i64 op 14)) 1) 7) <|
 ck (xle (xadd (xmul (xnat (xar .sub .i64 op 14)) 1) 1) 7) <|
 ck (isS (nthD [.str [111,112,101,110],.str [99,108,111,115,101],.str [117,110,100,111],.str [101,105,116,104,101,114],.str [111,114],.str [100,111,110,101],.str [114,101,116,114,121]] (xmul (xnat (xar .sub .i64 op 14)) 1))) <|
 K (rowx_b12 op) (rowx_b1 op) g)
 else(
 bif xcm .eql op 21 then(
 K rowx_b14 rowx_b3 g)
 else(
 bif xcm .eql op 22 then(
 K rowx_b13 rowx_b2 g)
 else(
 bif xcm .eql op 23 then(
 K rowx_b15 rowx_b4 g)
 else(
 K rowx_b16 [sN [.str [],.int .i64 0,.int .i64 0,.int .i64 0,.bool false]] g)))))
 else(
 bif xcm .eql op 15 then(
 bif xcm .eql op 15 then(
 ck (xnn (xar .sub .i64 op 14)) <|
 ck (xle (xadd (xnat (xar .sub .i64 op 14)) 1) 7) <|
 ck (xle (xadd (xmul (xnat (xar .sub .i64 op 14)) 1) 1) 7) <|
 ck (isS (nthD [.str [111,112,101,110],.str [99,108,111,115,101],.str [117,110,100,111],.str [101,105,116,104,101,114],.str [111,114],.str [100,111,110,101],.str [114,101,116,114,121]] (xmul (xnat (xar .sub .i64 op 14)) 1))) <|
 K (rowx_b12 op) (rowx_b1 op) g)
 else(
 bif xcm .eql op 21 then(
 K rowx_b14 rowx_b3 g)
 else(
 bif xcm .eql op 22 then(
 K rowx_b13 rowx_b2 g)
 else(
 bif xcm .eql op 23 then(
 K rowx_b15 rowx_b4 g)
 else(
 K rowx_b16 [sN [.str [],.int .i64 0,.int .i64 0,.int .i64 0,.bool false]] g)))))
 else(
 bif xcm .eql op 16 then(
 bif xcm .eql op 16 then(
 ck (xnn (xar .sub .i64 op 14)) <|
 ck (xle (xadd (xnat (xar .sub .i64 op 14)) 1) 7) <|
 ck (xle (xadd (xmul (xnat (xar .sub .i64 op 14)) 1) 1) 7) <|
 ck (isS (nthD [.str [111,112,101,110],.str [99,108,111,115,101],.str [117,110,100,111],.str [101,105,116,104,101,114],.str [111,114],.str [100,111,110,101],.str [114,101,116,114,121]] (xmul (xnat (xar .sub .i64 op 14)) 1))) <|
 K (rowx_b12 op) (rowx_b1 op) g)
 else(
 bif xcm .eql op 21 then(
 K rowx_b14 rowx_b3 g)
 else(
 bif xcm .eql op 22 then(
 K rowx_b13 rowx_b2 g)
 else(
 bif xcm .eql op 23 then(
 K rowx_b15 rowx_b4 g)
 else(
 K rowx_b16 [sN [.str [],.int .i64 0,.int .i64 0,.int .i64 0,.bool false]] g)))))
 else(
 bif xcm .eql op 17 then(
 bif xcm .eql op 17 then(
 ck (xnn (xar .sub .i64 op 14)) <|
 ck (xle (xadd (xnat (xar .sub .i64 op 14)) 1) 7) <|
 ck (xle (xadd (xmul (xnat (xar .sub .i64 op 14)) 1) 1) 7) <|
 ck (isS (nthD [.str [111,112,101,110],.str [99,108,111,115,101],.str [117,110,100,111],.str [101,105,116,104,101,114],.str [111,114],.str [100,111,110,101],.str [114,101,116,114,121]] (xmul (xnat (xar .sub .i64 op 14)) 1))) <|
 K (rowx_b12 op) (rowx_b1 op) g)
 else(
 bif xcm .eql op 21 then(
 K rowx_b14 rowx_b3 g)
 else(
 bif xcm .eql op 22 then(
 K rowx_b13 rowx_b2 g)
 else(
 bif xcm .eql op 23 then(
 K rowx_b15 rowx_b4 g)
 else(
 K rowx_b16 [sN [.str [],.int .i64 0,.int .i64 0,.int .i64 0,.bool false]] g)))))
 else(
 bif xcm .eql op 18 then(
 bif xcm .eql op 18 then(
 ck (xnn (xar .sub .i64 op 14)) <|
 ck (xle (xadd (xnat (xar .sub .i64 op 14)) 1) 7) <|
 ck (xle (xadd (xmul (xnat (xar .sub .i64 op 14)) 1) 1) 7) <|
 ck (isS (nthD [.str [111,112,101,110],.str [99,108,111,115,101],.str [117,110,100,111],.str [101,105,116,104,101,114],.str [111,114],.str [100,111,110,101],.str [114,101,116,114,121]] (xmul (xnat (xar .sub .i64 op 14)) 1))) <|
 K (rowx_b12 op) (rowx_b1 op) g)
 else(
 bif xcm .eql op 21 then(
 K rowx_b14 rowx_b3 g)
 else(
 bif xcm .eql op 22 then(
 K rowx_b13 rowx_b2 g)
 else(
 bif xcm .eql op 23 then(
 K rowx_b15 rowx_b4 g)
 else(
 K rowx_b16 [sN [.str [],.int .i64 0,.int .i64 0,.int .i64 0,.bool false]] g)))))
 else(
 bif xcm .eql op 19 then(
 bif xcm .eql op 19 then(
 ck (xnn (xar .sub .i64 op 14)) <|
 ck (xle (xadd (xnat (xar .sub .i64 op 14)) 1) 7) <|
 ck (xle (xadd (xmul (xnat (xar .sub .i64 op 14)) 1) 1) 7) <|
 ck (isS (nthD [.str [111,112,101,110],.str [99,108,111,115,101],.str [117,110,100,111],.str [101,105,116,104,101,114],.str [111,114],.str [100,111,110,101],.str [114,101,116,114,121]] (xmul (xnat (xar .sub .i64 op 14)) 1))) <|
 K (rowx_b12 op) (rowx_b1 op) g)
 else(
 bif xcm .eql op 21 then(
 K rowx_b14 rowx_b3 g)
 else(
 bif xcm .eql op 22 then(
 K rowx_b13 rowx_b2 g)
 else(
 bif xcm .eql op 23 then(
 K rowx_b15 rowx_b4 g)
 else(
 K rowx_b16 [sN [.str [],.int .i64 0,.int .i64 0,.int .i64 0,.bool false]] g)))))
 else(
 bif xcm .eql op 20 then(
 ck (xnn (xar .sub .i64 op 14)) <|
 ck (xle (xadd (xnat (xar .sub .i64 op 14)) 1) 7) <|
 ck (xle (xadd (xmul (xnat (xar .sub .i64 op 14)) 1) 1) 7) <|
 ck (isS (nthD [.str [111,112,101,110],.str [99,108,111,115,101],.str [117,110,100,111],.str [101,105,116,104,101,114],.str [111,114],.str [100,111,110,101],.str [114,101,116,114,121]] (xmul (xnat (xar .sub .i64 op 14)) 1))) <|
 K (rowx_b12 op) (rowx_b1 op) g)
 else(
 bif xcm .eql op 21 then(
 K rowx_b14 rowx_b3 g)
 else(
 bif xcm .eql op 22 then(
 K rowx_b13 rowx_b2 g)
 else(
 bif xcm .eql op 23 then(
 K rowx_b15 rowx_b4 g)
 else(
 K rowx_b16 [sN [.str [],.int .i64 0,.int .i64 0,.int .i64 0,.bool false]] g)))))))))))))))))))))))):=by kernel_rfl
abbrev rm1_b1 (a:Int) (b:Int) (c:Int) (n:Int):List (Option LB):=[sN [.int .i64 1,.int .i64 a,.int .i64 b,.int .i64 c,.int .u64 n],sN [.str [115,101,116],.int .i64 7,.int .i64 (-1),.int .i64 (-1),.bool true],sN [.str [115,101,116],.int .i64 7,.int .i64 (-1),.int .i64 (-1),.bool true]]
theorem rm1 (a b c n:Int) (g:Glb) (K:Fk):(xfun prog (fun _=>none) 100 15 [insL 1 a b c n] (mkS [] g) (vF K))=(
 bif xcm .eql a 0 then(
 bif xcm .geq a 0 then(
 bif xnot (xcm .leq a 7) then(
 K (.bool false) (rm1_b1 a b c n) g)
 else(
 bif xcm .eql b 0 then(
 bif xcm .eql c 0 then(
 K (.bool true) (rm1_b1 a b c n) g)
 else(
 bif xcm .geq c 0 then(
 bif xnot (xcm .leq c (-1)) then(
 K (.bool false) (rm1_b1 a b c n) g)
 else(
 K (.bool true) (rm1_b1 a b c n) g))
 else(
 K (.bool false) (rm1_b1 a b c n) g)))
 else(
 bif xcm .geq b 0 then(
 bif xnot (xcm .leq b (-1)) then(
 K (.bool false) (rm1_b1 a b c n) g)
 else(
 bif xcm .eql c 0 then(
 K (.bool true) (rm1_b1 a b c n) g)
 else(
 bif xcm .geq c 0 then(
 bif xnot (xcm .leq c (-1)) then(
 K (.bool false) (rm1_b1 a b c n) g)
 else(
 K (.bool true) (rm1_b1 a b c n) g))
 else(
 K (.bool false) (rm1_b1 a b c n) g))))
 else(
 K (.bool false) (rm1_b1 a b c n) g))))
 else(
 K (.bool false) (rm1_b1 a b c n) g))
 else(
 bif xcm .geq a 0 then(
 bif xnot (xcm .leq a 7) then(
 K (.bool false) (rm1_b1 a b c n) g)
 else(
 bif xcm .eql b 0 then(
 bif xcm .eql c 0 then(
 K (.bool true) (rm1_b1 a b c n) g)
 else(
 bif xcm .geq c 0 then(
 bif xnot (xcm .leq c (-1)) then(
 K (.bool false) (rm1_b1 a b c n) g)
 else(
 K (.bool true) (rm1_b1 a b c n) g))
 else(
 K (.bool false) (rm1_b1 a b c n) g)))
 else(
 bif xcm .geq b 0 then(
 bif xnot (xcm .leq b (-1)) then(
 K (.bool false) (rm1_b1 a b c n) g)
 else(
 bif xcm .eql c 0 then(
 K (.bool true) (rm1_b1 a b c n) g)
 else(
 bif xcm .geq c 0 then(
 bif xnot (xcm .leq c (-1)) then(
 K (.bool false) (rm1_b1 a b c n) g)
 else(
 K (.bool true) (rm1_b1 a b c n) g))
 else(
 K (.bool false) (rm1_b1 a b c n) g))))
 else(
 K (.bool false) (rm1_b1 a b c n) g))))
 else(
 K (.bool false) (rm1_b1 a b c n) g))):=by kernel_rfl
abbrev rm2_b1 (a:Int) (b:Int) (c:Int) (n:Int):List (Option LB):=[sN [.int .i64 2,.int .i64 a,.int .i64 b,.int .i64 c,.int .u64 n],sN [.str [109,111,118,101],.int .i64 7,.int .i64 7,.int .i64 (-1),.bool false],sN [.str [109,111,118,101],.int .i64 7,.int .i64 7,.int .i64 (-1),.bool false]]
theorem rm2 (a b c n:Int) (g:Glb) (K:Fk):(xfun prog (fun _=>none) 100 15 [insL 2 a b c n] (mkS [] g) (vF K))=(
 bif xcm .neq n 0 then(
 K (.bool false) (rm2_b1 a b c n) g)
 else(
 bif xcm .eql a 0 then(
 bif xcm .geq a 0 then(
 bif xnot (xcm .leq a 7) then(
 K (.bool false) (rm2_b1 a b c n) g)
 else(
 bif xcm .eql b 0 then(
 bif xcm .geq b 0 then(
 bif xnot (xcm .leq b 7) then(
 K (.bool false) (rm2_b1 a b c n) g)
 else(
 bif xcm .eql c 0 then(
 K (.bool true) (rm2_b1 a b c n) g)
 else(
 bif xcm .geq c 0 then(
 bif xnot (xcm .leq c (-1)) then(
 K (.bool false) (rm2_b1 a b c n) g)
 else(
 K (.bool true) (rm2_b1 a b c n) g))
 else(
 K (.bool false) (rm2_b1 a b c n) g))))
 else(
 K (.bool false) (rm2_b1 a b c n) g))
 else(
 bif xcm .geq b 0 then(
 bif xnot (xcm .leq b 7) then(
 K (.bool false) (rm2_b1 a b c n) g)
 else(
 bif xcm .eql c 0 then(
 K (.bool true) (rm2_b1 a b c n) g)
 else(
 bif xcm .geq c 0 then(
 bif xnot (xcm .leq c (-1)) then(
 K (.bool false) (rm2_b1 a b c n) g)
 else(
 K (.bool true) (rm2_b1 a b c n) g))
 else(
 K (.bool false) (rm2_b1 a b c n) g))))
 else(
 K (.bool false) (rm2_b1 a b c n) g))))
 else(
 K (.bool false) (rm2_b1 a b c n) g))
 else(
 bif xcm .geq a 0 then(
 bif xnot (xcm .leq a 7) then(
 K (.bool false) (rm2_b1 a b c n) g)
 else(
 bif xcm .eql b 0 then(
 bif xcm .geq b 0 then(
 bif xnot (xcm .leq b 7) then(
 K (.bool false) (rm2_b1 a b c n) g)
 else(
 bif xcm .eql c 0 then(
 K (.bool true) (rm2_b1 a b c n) g)
 else(
 bif xcm .geq c 0 then(
 bif xnot (xcm .leq c (-1)) then(
 K (.bool false) (rm2_b1 a b c n) g)
 else(
 K (.bool true) (rm2_b1 a b c n) g))
 else(
 K (.bool false) (rm2_b1 a b c n) g))))
 else(
 K (.bool false) (rm2_b1 a b c n) g))
 else(
 bif xcm .geq b 0 then(
 bif xnot (xcm .leq b 7) then(
 K (.bool false) (rm2_b1 a b c n) g)
 else(
 bif xcm .eql c 0 then(
 K (.bool true) (rm2_b1 a b c n) g)
 else(
 bif xcm .geq c 0 then(
 bif xnot (xcm .leq c (-1)) then(
 K (.bool false) (rm2_b1 a b c n) g)
 else(
 K (.bool true) (rm2_b1 a b c n) g))
 else(
 K (.bool false) (rm2_b1 a b c n) g))))
 else(
 K (.bool false) (rm2_b1 a b c n) g))))
 else(
 K (.bool false) (rm2_b1 a b c n) g)))):=by kernel_rfl
abbrev rm3_b1 (a:Int) (b:Int) (c:Int) (n:Int):List (Option LB):=[sN [.int .i64 3,.int .i64 a,.int .i64 b,.int .i64 c,.int .u64 n],sN [.str [97,100,100],.int .i64 7,.int .i64 7,.int .i64 7,.bool false],sN [.str [97,100,100],.int .i64 7,.int .i64 7,.int .i64 7,.bool false]]
theorem rm3 (a b c n:Int) (g:Glb) (K:Fk):(xfun prog (fun _=>none) 100 15 [insL 3 a b c n] (mkS [] g) (vF K))=(
 bif xcm .neq n 0 then(
 K (.bool false) (rm3_b1 a b c n) g)
 else(
 bif xcm .eql a 0 then(
 bif xcm .geq a 0 then(
 bif xnot (xcm .leq a 7) then(
 K (.bool false) (rm3_b1 a b c n) g)
 else(
 bif xcm .eql b 0 then(
 bif xcm .geq b 0 then(
 bif xnot (xcm .leq b 7) then(
 K (.bool false) (rm3_b1 a b c n) g)
 else(
 bif xcm .eql c 0 then(
 bif xcm .geq c 0 then(
 bif xnot (xcm .leq c 7) then(
 K (.bool false) (rm3_b1 a b c n) g)
 else(
 K (.bool true) (rm3_b1 a b c n) g))
 else(
 K (.bool false) (rm3_b1 a b c n) g))
 else(
 bif xcm .geq c 0 then(
 bif xnot (xcm .leq c 7) then(
 K (.bool false) (rm3_b1 a b c n) g)
 else(
 K (.bool true) (rm3_b1 a b c n) g))
 else(
 K (.bool false) (rm3_b1 a b c n) g))))
 else(
 K (.bool false) (rm3_b1 a b c n) g))
 else(
 bif xcm .geq b 0 then(
 bif xnot (xcm .leq b 7) then(
 K (.bool false) (rm3_b1 a b c n) g)
 else(
 bif xcm .eql c 0 then(
 bif xcm .geq c 0 then(
 bif xnot (xcm .leq c 7) then(
 K (.bool false) (rm3_b1 a b c n) g)
 else(
 K (.bool true) (rm3_b1 a b c n) g))
 else(
 K (.bool false) (rm3_b1 a b c n) g))
 else(
 bif xcm .geq c 0 then(
 bif xnot (xcm .leq c 7) then(
 K (.bool false) (rm3_b1 a b c n) g)
 else(
 K (.bool true) (rm3_b1 a b c n) g))
 else(
 K (.bool false) (rm3_b1 a b c n) g))))
 else(
 K (.bool false) (rm3_b1 a b c n) g))))
 else(
 K (.bool false) (rm3_b1 a b c n) g))
 else(
 bif xcm .geq a 0 then(
 bif xnot (xcm .leq a 7) then(
 K (.bool false) (rm3_b1 a b c n) g)
 else(
 bif xcm .eql b 0 then(
 bif xcm .geq b 0 then(
 bif xnot (xcm .leq b 7) then(
 K (.bool false) (rm3_b1 a b c n) g)
 else(
 bif xcm .eql c 0 then(
 bif xcm .geq c 0 then(
 bif xnot (xcm .leq c 7) then(
 K (.bool false) (rm3_b1 a b c n) g)
 else(
 K (.bool true) (rm3_b1 a b c n) g))
 else(
 K (.bool false) (rm3_b1 a b c n) g))
 else(
 bif xcm .geq c 0 then(
 bif xnot (xcm .leq c 7) then(
 K (.bool false) (rm3_b1 a b c n) g)
 else(
 K (.bool true) (rm3_b1 a b c n) g))
 else(
 K (.bool false) (rm3_b1 a b c n) g))))
 else(
 K (.bool false) (rm3_b1 a b c n) g))
 else(
 bif xcm .geq b 0 then(
 bif xnot (xcm .leq b 7) then(
 K (.bool false) (rm3_b1 a b c n) g)
 else(
 bif xcm .eql c 0 then(
 bif xcm .geq c 0 then(
 bif xnot (xcm .leq c 7) then(
 K (.bool false) (rm3_b1 a b c n) g)
 else(
 K (.bool true) (rm3_b1 a b c n) g))
 else(
 K (.bool false) (rm3_b1 a b c n) g))
 else(
 bif xcm .geq c 0 then(
 bif xnot (xcm .leq c 7) then(
 K (.bool false) (rm3_b1 a b c n) g)
 else(
 K (.bool true) (rm3_b1 a b c n) g))
 else(
 K (.bool false) (rm3_b1 a b c n) g))))
 else(
 K (.bool false) (rm3_b1 a b c n) g))))
 else(
 K (.bool false) (rm3_b1 a b c n) g)))):=by kernel_rfl
abbrev rm4_b1 (a:Int) (b:Int) (c:Int) (n:Int):List (Option LB):=[sN [.int .i64 4,.int .i64 a,.int .i64 b,.int .i64 c,.int .u64 n],sN [.str [115,117,98],.int .i64 7,.int .i64 7,.int .i64 7,.bool false],sN [.str [115,117,98],.int .i64 7,.int .i64 7,.int .i64 7,.bool false]]
theorem rm4 (a b c n:Int) (g:Glb) (K:Fk):(xfun prog (fun _=>none) 100 15 [insL 4 a b c n] (mkS [] g) (vF K))=(
 bif xcm .neq n 0 then(
 K (.bool false) (rm4_b1 a b c n) g)
 else(
 bif xcm .eql a 0 then(
 bif xcm .geq a 0 then(
 bif xnot (xcm .leq a 7) then(
 K (.bool false) (rm4_b1 a b c n) g)
 else(
 bif xcm .eql b 0 then(
 bif xcm .geq b 0 then(
 bif xnot (xcm .leq b 7) then(
 K (.bool false) (rm4_b1 a b c n) g)
 else(
 bif xcm .eql c 0 then(
 bif xcm .geq c 0 then(
 bif xnot (xcm .leq c 7) then(
 K (.bool false) (rm4_b1 a b c n) g)
 else(
 K (.bool true) (rm4_b1 a b c n) g))
 else(
 K (.bool false) (rm4_b1 a b c n) g))
 else(
 bif xcm .geq c 0 then(
 bif xnot (xcm .leq c 7) then(
 K (.bool false) (rm4_b1 a b c n) g)
 else(
 K (.bool true) (rm4_b1 a b c n) g))
 else(
 K (.bool false) (rm4_b1 a b c n) g))))
 else(
 K (.bool false) (rm4_b1 a b c n) g))
 else(
 bif xcm .geq b 0 then(
 bif xnot (xcm .leq b 7) then(
 K (.bool false) (rm4_b1 a b c n) g)
 else(
 bif xcm .eql c 0 then(
 bif xcm .geq c 0 then(
 bif xnot (xcm .leq c 7) then(
 K (.bool false) (rm4_b1 a b c n) g)
 else(
 K (.bool true) (rm4_b1 a b c n) g))
 else(
 K (.bool false) (rm4_b1 a b c n) g))
 else(
 bif xcm .geq c 0 then(
 bif xnot (xcm .leq c 7) then(
 K (.bool false) (rm4_b1 a b c n) g)
 else(
 K (.bool true) (rm4_b1 a b c n) g))
 else(
 K (.bool false) (rm4_b1 a b c n) g))))
 else(
 K (.bool false) (rm4_b1 a b c n) g))))
 else(
 K (.bool false) (rm4_b1 a b c n) g))
 else(
 bif xcm .geq a 0 then(
 bif xnot (xcm .leq a 7) then(
 K (.bool false) (rm4_b1 a b c n) g)
 else(
 bif xcm .eql b 0 then(
 bif xcm .geq b 0 then(
 bif xnot (xcm .leq b 7) then(
 K (.bool false) (rm4_b1 a b c n) g)
 else(
 bif xcm .eql c 0 then(
 bif xcm .geq c 0 then(
 bif xnot (xcm .leq c 7) then(
 K (.bool false) (rm4_b1 a b c n) g)
 else(
 K (.bool true) (rm4_b1 a b c n) g))
 else(
 K (.bool false) (rm4_b1 a b c n) g))
 else(
 bif xcm .geq c 0 then(
 bif xnot (xcm .leq c 7) then(
 K (.bool false) (rm4_b1 a b c n) g)
 else(
 K (.bool true) (rm4_b1 a b c n) g))
 else(
 K (.bool false) (rm4_b1 a b c n) g))))
 else(
 K (.bool false) (rm4_b1 a b c n) g))
 else(
 bif xcm .geq b 0 then(
 bif xnot (xcm .leq b 7) then(
 K (.bool false) (rm4_b1 a b c n) g)
 else(
 bif xcm .eql c 0 then(
 bif xcm .geq c 0 then(
 bif xnot (xcm .leq c 7) then(
 K (.bool false) (rm4_b1 a b c n) g)
 else(
 K (.bool true) (rm4_b1 a b c n) g))
 else(
 K (.bool false) (rm4_b1 a b c n) g))
 else(
 bif xcm .geq c 0 then(
 bif xnot (xcm .leq c 7) then(
 K (.bool false) (rm4_b1 a b c n) g)
 else(
 K (.bool true) (rm4_b1 a b c n) g))
 else(
 K (.bool false) (rm4_b1 a b c n) g))))
 else(
 K (.bool false) (rm4_b1 a b c n) g))))
 else(
 K (.bool false) (rm4_b1 a b c n) g)))):=by kernel_rfl
abbrev rm5_b1 (a:Int) (b:Int) (c:Int) (n:Int):List (Option LB):=[sN [.int .i64 5,.int .i64 a,.int .i64 b,.int .i64 c,.int .u64 n],sN [.str [109,117,108],.int .i64 7,.int .i64 7,.int .i64 7,.bool false],sN [.str [109,117,108],.int .i64 7,.int .i64 7,.int .i64 7,.bool false]]
theorem rm5 (a b c n:Int) (g:Glb) (K:Fk):(xfun prog (fun _=>none) 100 15 [insL 5 a b c n] (mkS [] g) (vF K))=(
 bif xcm .neq n 0 then(
 K (.bool false) (rm5_b1 a b c n) g)
 else(
 bif xcm .eql a 0 then(
 bif xcm .geq a 0 then(
 bif xnot (xcm .leq a 7) then(
 K (.bool false) (rm5_b1 a b c n) g)
 else(
 bif xcm .eql b 0 then(
 bif xcm .geq b 0 then(
 bif xnot (xcm .leq b 7) then(
 K (.bool false) (rm5_b1 a b c n) g)
 else(
 bif xcm .eql c 0 then(
 bif xcm .geq c 0 then(
 bif xnot (xcm .leq c 7) then(
 K (.bool false) (rm5_b1 a b c n) g)
 else(
 K (.bool true) (rm5_b1 a b c n) g))
 else(
 K (.bool false) (rm5_b1 a b c n) g))
 else(
 bif xcm .geq c 0 then(
 bif xnot (xcm .leq c 7) then(
 K (.bool false) (rm5_b1 a b c n) g)
 else(
 K (.bool true) (rm5_b1 a b c n) g))
 else(
 K (.bool false) (rm5_b1 a b c n) g))))
 else(
 K (.bool false) (rm5_b1 a b c n) g))
 else(
 bif xcm .geq b 0 then(
 bif xnot (xcm .leq b 7) then(
 K (.bool false) (rm5_b1 a b c n) g)
 else(
 bif xcm .eql c 0 then(
 bif xcm .geq c 0 then(
 bif xnot (xcm .leq c 7) then(
 K (.bool false) (rm5_b1 a b c n) g)
 else(
 K (.bool true) (rm5_b1 a b c n) g))
 else(
 K (.bool false) (rm5_b1 a b c n) g))
 else(
 bif xcm .geq c 0 then(
 bif xnot (xcm .leq c 7) then(
 K (.bool false) (rm5_b1 a b c n) g)
 else(
 K (.bool true) (rm5_b1 a b c n) g))
 else(
 K (.bool false) (rm5_b1 a b c n) g))))
 else(
 K (.bool false) (rm5_b1 a b c n) g))))
 else(
 K (.bool false) (rm5_b1 a b c n) g))
 else(
 bif xcm .geq a 0 then(
 bif xnot (xcm .leq a 7) then(
 K (.bool false) (rm5_b1 a b c n) g)
 else(
 bif xcm .eql b 0 then(
 bif xcm .geq b 0 then(
 bif xnot (xcm .leq b 7) then(
 K (.bool false) (rm5_b1 a b c n) g)
 else(
 bif xcm .eql c 0 then(
 bif xcm .geq c 0 then(
 bif xnot (xcm .leq c 7) then(
 K (.bool false) (rm5_b1 a b c n) g)
 else(
 K (.bool true) (rm5_b1 a b c n) g))
 else(
 K (.bool false) (rm5_b1 a b c n) g))
 else(
 bif xcm .geq c 0 then(
 bif xnot (xcm .leq c 7) then(
 K (.bool false) (rm5_b1 a b c n) g)
 else(
 K (.bool true) (rm5_b1 a b c n) g))
 else(
 K (.bool false) (rm5_b1 a b c n) g))))
 else(
 K (.bool false) (rm5_b1 a b c n) g))
 else(
 bif xcm .geq b 0 then(
 bif xnot (xcm .leq b 7) then(
 K (.bool false) (rm5_b1 a b c n) g)
 else(
 bif xcm .eql c 0 then(
 bif xcm .geq c 0 then(
 bif xnot (xcm .leq c 7) then(
 K (.bool false) (rm5_b1 a b c n) g)
 else(
 K (.bool true) (rm5_b1 a b c n) g))
 else(
 K (.bool false) (rm5_b1 a b c n) g))
 else(
 bif xcm .geq c 0 then(
 bif xnot (xcm .leq c 7) then(
 K (.bool false) (rm5_b1 a b c n) g)
 else(
 K (.bool true) (rm5_b1 a b c n) g))
 else(
 K (.bool false) (rm5_b1 a b c n) g))))
 else(
 K (.bool false) (rm5_b1 a b c n) g))))
 else(
 K (.bool false) (rm5_b1 a b c n) g)))):=by kernel_rfl
abbrev rm6_b1 (a:Int) (b:Int) (c:Int) (n:Int):List (Option LB):=[sN [.int .i64 6,.int .i64 a,.int .i64 b,.int .i64 c,.int .u64 n],sN [.str [108,101,115,115],.int .i64 7,.int .i64 7,.int .i64 7,.bool false],sN [.str [108,101,115,115],.int .i64 7,.int .i64 7,.int .i64 7,.bool false]]
theorem rm6 (a b c n:Int) (g:Glb) (K:Fk):(xfun prog (fun _=>none) 100 15 [insL 6 a b c n] (mkS [] g) (vF K))=(
 bif xcm .neq n 0 then(
 K (.bool false) (rm6_b1 a b c n) g)
 else(
 bif xcm .eql a 0 then(
 bif xcm .geq a 0 then(
 bif xnot (xcm .leq a 7) then(
 K (.bool false) (rm6_b1 a b c n) g)
 else(
 bif xcm .eql b 0 then(
 bif xcm .geq b 0 then(
 bif xnot (xcm .leq b 7) then(
 K (.bool false) (rm6_b1 a b c n) g)
 else(
 bif xcm .eql c 0 then(
 bif xcm .geq c 0 then(
 bif xnot (xcm .leq c 7) then(
 K (.bool false) (rm6_b1 a b c n) g)
 else(
 K (.bool true) (rm6_b1 a b c n) g))
 else(
 K (.bool false) (rm6_b1 a b c n) g))
 else(
 bif xcm .geq c 0 then(
 bif xnot (xcm .leq c 7) then(
 K (.bool false) (rm6_b1 a b c n) g)
 else(
 K (.bool true) (rm6_b1 a b c n) g))
 else(
 K (.bool false) (rm6_b1 a b c n) g))))
 else(
 K (.bool false) (rm6_b1 a b c n) g))
 else(
 bif xcm .geq b 0 then(
 bif xnot (xcm .leq b 7) then(
 K (.bool false) (rm6_b1 a b c n) g)
 else(
 bif xcm .eql c 0 then(
 bif xcm .geq c 0 then(
 bif xnot (xcm .leq c 7) then(
 K (.bool false) (rm6_b1 a b c n) g)
 else(
 K (.bool true) (rm6_b1 a b c n) g))
 else(
 K (.bool false) (rm6_b1 a b c n) g))
 else(
 bif xcm .geq c 0 then(
 bif xnot (xcm .leq c 7) then(
 K (.bool false) (rm6_b1 a b c n) g)
 else(
 K (.bool true) (rm6_b1 a b c n) g))
 else(
 K (.bool false) (rm6_b1 a b c n) g))))
 else(
 K (.bool false) (rm6_b1 a b c n) g))))
 else(
 K (.bool false) (rm6_b1 a b c n) g))
 else(
 bif xcm .geq a 0 then(
 bif xnot (xcm .leq a 7) then(
 K (.bool false) (rm6_b1 a b c n) g)
 else(
 bif xcm .eql b 0 then(
 bif xcm .geq b 0 then(
 bif xnot (xcm .leq b 7) then(
 K (.bool false) (rm6_b1 a b c n) g)
 else(
 bif xcm .eql c 0 then(
 bif xcm .geq c 0 then(
 bif xnot (xcm .leq c 7) then(
 K (.bool false) (rm6_b1 a b c n) g)
 else(
 K (.bool true) (rm6_b1 a b c n) g))
 else(
 K (.bool false) (rm6_b1 a b c n) g))
 else(
 bif xcm .geq c 0 then(
 bif xnot (xcm .leq c 7) then(
 K (.bool false) (rm6_b1 a b c n) g)
 else(
 K (.bool true) (rm6_b1 a b c n) g))
 else(
 K (.bool false) (rm6_b1 a b c n) g))))
 else(
 K (.bool false) (rm6_b1 a b c n) g))
 else(
 bif xcm .geq b 0 then(
 bif xnot (xcm .leq b 7) then(
 K (.bool false) (rm6_b1 a b c n) g)
 else(
 bif xcm .eql c 0 then(
 bif xcm .geq c 0 then(
 bif xnot (xcm .leq c 7) then(
 K (.bool false) (rm6_b1 a b c n) g)
 else(
 K (.bool true) (rm6_b1 a b c n) g))
 else(
 K (.bool false) (rm6_b1 a b c n) g))
 else(
 bif xcm .geq c 0 then(
 bif xnot (xcm .leq c 7) then(
 K (.bool false) (rm6_b1 a b c n) g)
 else(
 K (.bool true) (rm6_b1 a b c n) g))
 else(
 K (.bool false) (rm6_b1 a b c n) g))))
 else(
 K (.bool false) (rm6_b1 a b c n) g))))
 else(
 K (.bool false) (rm6_b1 a b c n) g)))):=by kernel_rfl
abbrev rm7_b1 (a:Int) (b:Int) (c:Int) (n:Int):List (Option LB):=[sN [.int .i64 7,.int .i64 a,.int .i64 b,.int .i64 c,.int .u64 n],sN [.str [101,113,117,97,108],.int .i64 7,.int .i64 7,.int .i64 7,.bool false],sN [.str [101,113,117,97,108],.int .i64 7,.int .i64 7,.int .i64 7,.bool false]]
theorem rm7 (a b c n:Int) (g:Glb) (K:Fk):(xfun prog (fun _=>none) 100 15 [insL 7 a b c n] (mkS [] g) (vF K))=(
 bif xcm .neq n 0 then(
 K (.bool false) (rm7_b1 a b c n) g)
 else(
 bif xcm .eql a 0 then(
 bif xcm .geq a 0 then(
 bif xnot (xcm .leq a 7) then(
 K (.bool false) (rm7_b1 a b c n) g)
 else(
 bif xcm .eql b 0 then(
 bif xcm .geq b 0 then(
 bif xnot (xcm .leq b 7) then(
 K (.bool false) (rm7_b1 a b c n) g)
 else(
 bif xcm .eql c 0 then(
 bif xcm .geq c 0 then(
 bif xnot (xcm .leq c 7) then(
 K (.bool false) (rm7_b1 a b c n) g)
 else(
 K (.bool true) (rm7_b1 a b c n) g))
 else(
 K (.bool false) (rm7_b1 a b c n) g))
 else(
 bif xcm .geq c 0 then(
 bif xnot (xcm .leq c 7) then(
 K (.bool false) (rm7_b1 a b c n) g)
 else(
 K (.bool true) (rm7_b1 a b c n) g))
 else(
 K (.bool false) (rm7_b1 a b c n) g))))
 else(
 K (.bool false) (rm7_b1 a b c n) g))
 else(
 bif xcm .geq b 0 then(
 bif xnot (xcm .leq b 7) then(
 K (.bool false) (rm7_b1 a b c n) g)
 else(
 bif xcm .eql c 0 then(
 bif xcm .geq c 0 then(
 bif xnot (xcm .leq c 7) then(
 K (.bool false) (rm7_b1 a b c n) g)
 else(
 K (.bool true) (rm7_b1 a b c n) g))
 else(
 K (.bool false) (rm7_b1 a b c n) g))
 else(
 bif xcm .geq c 0 then(
 bif xnot (xcm .leq c 7) then(
 K (.bool false) (rm7_b1 a b c n) g)
 else(
 K (.bool true) (rm7_b1 a b c n) g))
 else(
 K (.bool false) (rm7_b1 a b c n) g))))
 else(
 K (.bool false) (rm7_b1 a b c n) g))))
 else(
 K (.bool false) (rm7_b1 a b c n) g))
 else(
 bif xcm .geq a 0 then(
 bif xnot (xcm .leq a 7) then(
 K (.bool false) (rm7_b1 a b c n) g)
 else(
 bif xcm .eql b 0 then(
 bif xcm .geq b 0 then(
 bif xnot (xcm .leq b 7) then(
 K (.bool false) (rm7_b1 a b c n) g)
 else(
 bif xcm .eql c 0 then(
 bif xcm .geq c 0 then(
 bif xnot (xcm .leq c 7) then(
 K (.bool false) (rm7_b1 a b c n) g)
 else(
 K (.bool true) (rm7_b1 a b c n) g))
 else(
 K (.bool false) (rm7_b1 a b c n) g))
 else(
 bif xcm .geq c 0 then(
 bif xnot (xcm .leq c 7) then(
 K (.bool false) (rm7_b1 a b c n) g)
 else(
 K (.bool true) (rm7_b1 a b c n) g))
 else(
 K (.bool false) (rm7_b1 a b c n) g))))
 else(
 K (.bool false) (rm7_b1 a b c n) g))
 else(
 bif xcm .geq b 0 then(
 bif xnot (xcm .leq b 7) then(
 K (.bool false) (rm7_b1 a b c n) g)
 else(
 bif xcm .eql c 0 then(
 bif xcm .geq c 0 then(
 bif xnot (xcm .leq c 7) then(
 K (.bool false) (rm7_b1 a b c n) g)
 else(
 K (.bool true) (rm7_b1 a b c n) g))
 else(
 K (.bool false) (rm7_b1 a b c n) g))
 else(
 bif xcm .geq c 0 then(
 bif xnot (xcm .leq c 7) then(
 K (.bool false) (rm7_b1 a b c n) g)
 else(
 K (.bool true) (rm7_b1 a b c n) g))
 else(
 K (.bool false) (rm7_b1 a b c n) g))))
 else(
 K (.bool false) (rm7_b1 a b c n) g))))
 else(
 K (.bool false) (rm7_b1 a b c n) g)))):=by kernel_rfl
abbrev rm8_b1 (a:Int) (b:Int) (c:Int) (n:Int):List (Option LB):=[sN [.int .i64 8,.int .i64 a,.int .i64 b,.int .i64 c,.int .u64 n],sN [.str [108,111,97,100],.int .i64 7,.int .i64 7,.int .i64 15,.bool false],sN [.str [108,111,97,100],.int .i64 7,.int .i64 7,.int .i64 15,.bool false]]
theorem rm8 (a b c n:Int) (g:Glb) (K:Fk):(xfun prog (fun _=>none) 100 15 [insL 8 a b c n] (mkS [] g) (vF K))=(
 bif xcm .neq n 0 then(
 K (.bool false) (rm8_b1 a b c n) g)
 else(
 bif xcm .eql a 0 then(
 bif xcm .geq a 0 then(
 bif xnot (xcm .leq a 7) then(
 K (.bool false) (rm8_b1 a b c n) g)
 else(
 bif xcm .eql b 0 then(
 bif xcm .geq b 0 then(
 bif xnot (xcm .leq b 7) then(
 K (.bool false) (rm8_b1 a b c n) g)
 else(
 bif xcm .eql c 0 then(
 bif xcm .geq c 0 then(
 bif xnot (xcm .leq c 15) then(
 K (.bool false) (rm8_b1 a b c n) g)
 else(
 K (.bool true) (rm8_b1 a b c n) g))
 else(
 K (.bool false) (rm8_b1 a b c n) g))
 else(
 bif xcm .geq c 0 then(
 bif xnot (xcm .leq c 15) then(
 K (.bool false) (rm8_b1 a b c n) g)
 else(
 K (.bool true) (rm8_b1 a b c n) g))
 else(
 K (.bool false) (rm8_b1 a b c n) g))))
 else(
 K (.bool false) (rm8_b1 a b c n) g))
 else(
 bif xcm .geq b 0 then(
 bif xnot (xcm .leq b 7) then(
 K (.bool false) (rm8_b1 a b c n) g)
 else(
 bif xcm .eql c 0 then(
 bif xcm .geq c 0 then(
 bif xnot (xcm .leq c 15) then(
 K (.bool false) (rm8_b1 a b c n) g)
 else(
 K (.bool true) (rm8_b1 a b c n) g))
 else(
 K (.bool false) (rm8_b1 a b c n) g))
 else(
 bif xcm .geq c 0 then(
 bif xnot (xcm .leq c 15) then(
 K (.bool false) (rm8_b1 a b c n) g)
 else(
 K (.bool true) (rm8_b1 a b c n) g))
 else(
 K (.bool false) (rm8_b1 a b c n) g))))
 else(
 K (.bool false) (rm8_b1 a b c n) g))))
 else(
 K (.bool false) (rm8_b1 a b c n) g))
 else(
 bif xcm .geq a 0 then(
 bif xnot (xcm .leq a 7) then(
 K (.bool false) (rm8_b1 a b c n) g)
 else(
 bif xcm .eql b 0 then(
 bif xcm .geq b 0 then(
 bif xnot (xcm .leq b 7) then(
 K (.bool false) (rm8_b1 a b c n) g)
 else(
 bif xcm .eql c 0 then(
 bif xcm .geq c 0 then(
 bif xnot (xcm .leq c 15) then(
 K (.bool false) (rm8_b1 a b c n) g)
 else(
 K (.bool true) (rm8_b1 a b c n) g))
 else(
 K (.bool false) (rm8_b1 a b c n) g))
 else(
 bif xcm .geq c 0 then(
 bif xnot (xcm .leq c 15) then(
 K (.bool false) (rm8_b1 a b c n) g)
 else(
 K (.bool true) (rm8_b1 a b c n) g))
 else(
 K (.bool false) (rm8_b1 a b c n) g))))
 else(
 K (.bool false) (rm8_b1 a b c n) g))
 else(
 bif xcm .geq b 0 then(
 bif xnot (xcm .leq b 7) then(
 K (.bool false) (rm8_b1 a b c n) g)
 else(
 bif xcm .eql c 0 then(
 bif xcm .geq c 0 then(
 bif xnot (xcm .leq c 15) then(
 K (.bool false) (rm8_b1 a b c n) g)
 else(
 K (.bool true) (rm8_b1 a b c n) g))
 else(
 K (.bool false) (rm8_b1 a b c n) g))
 else(
 bif xcm .geq c 0 then(
 bif xnot (xcm .leq c 15) then(
 K (.bool false) (rm8_b1 a b c n) g)
 else(
 K (.bool true) (rm8_b1 a b c n) g))
 else(
 K (.bool false) (rm8_b1 a b c n) g))))
 else(
 K (.bool false) (rm8_b1 a b c n) g))))
 else(
 K (.bool false) (rm8_b1 a b c n) g)))):=by kernel_rfl
abbrev rm9_b1 (a:Int) (b:Int) (c:Int) (n:Int):List (Option LB):=[sN [.int .i64 9,.int .i64 a,.int .i64 b,.int .i64 c,.int .u64 n],sN [.str [115,116,111,114,101],.int .i64 7,.int .i64 7,.int .i64 15,.bool false],sN [.str [115,116,111,114,101],.int .i64 7,.int .i64 7,.int .i64 15,.bool false]]
theorem rm9 (a b c n:Int) (g:Glb) (K:Fk):(xfun prog (fun _=>none) 100 15 [insL 9 a b c n] (mkS [] g) (vF K))=(
 bif xcm .neq n 0 then(
 K (.bool false) (rm9_b1 a b c n) g)
 else(
 bif xcm .eql a 0 then(
 bif xcm .geq a 0 then(
 bif xnot (xcm .leq a 7) then(
 K (.bool false) (rm9_b1 a b c n) g)
 else(
 bif xcm .eql b 0 then(
 bif xcm .geq b 0 then(
 bif xnot (xcm .leq b 7) then(
 K (.bool false) (rm9_b1 a b c n) g)
 else(
 bif xcm .eql c 0 then(
 bif xcm .geq c 0 then(
 bif xnot (xcm .leq c 15) then(
 K (.bool false) (rm9_b1 a b c n) g)
 else(
 K (.bool true) (rm9_b1 a b c n) g))
 else(
 K (.bool false) (rm9_b1 a b c n) g))
 else(
 bif xcm .geq c 0 then(
 bif xnot (xcm .leq c 15) then(
 K (.bool false) (rm9_b1 a b c n) g)
 else(
 K (.bool true) (rm9_b1 a b c n) g))
 else(
 K (.bool false) (rm9_b1 a b c n) g))))
 else(
 K (.bool false) (rm9_b1 a b c n) g))
 else(
 bif xcm .geq b 0 then(
 bif xnot (xcm .leq b 7) then(
 K (.bool false) (rm9_b1 a b c n) g)
 else(
 bif xcm .eql c 0 then(
 bif xcm .geq c 0 then(
 bif xnot (xcm .leq c 15) then(
 K (.bool false) (rm9_b1 a b c n) g)
 else(
 K (.bool true) (rm9_b1 a b c n) g))
 else(
 K (.bool false) (rm9_b1 a b c n) g))
 else(
 bif xcm .geq c 0 then(
 bif xnot (xcm .leq c 15) then(
 K (.bool false) (rm9_b1 a b c n) g)
 else(
 K (.bool true) (rm9_b1 a b c n) g))
 else(
 K (.bool false) (rm9_b1 a b c n) g))))
 else(
 K (.bool false) (rm9_b1 a b c n) g))))
 else(
 K (.bool false) (rm9_b1 a b c n) g))
 else(
 bif xcm .geq a 0 then(
 bif xnot (xcm .leq a 7) then(
 K (.bool false) (rm9_b1 a b c n) g)
 else(
 bif xcm .eql b 0 then(
 bif xcm .geq b 0 then(
 bif xnot (xcm .leq b 7) then(
 K (.bool false) (rm9_b1 a b c n) g)
 else(
 bif xcm .eql c 0 then(
 bif xcm .geq c 0 then(
 bif xnot (xcm .leq c 15) then(
 K (.bool false) (rm9_b1 a b c n) g)
 else(
 K (.bool true) (rm9_b1 a b c n) g))
 else(
 K (.bool false) (rm9_b1 a b c n) g))
 else(
 bif xcm .geq c 0 then(
 bif xnot (xcm .leq c 15) then(
 K (.bool false) (rm9_b1 a b c n) g)
 else(
 K (.bool true) (rm9_b1 a b c n) g))
 else(
 K (.bool false) (rm9_b1 a b c n) g))))
 else(
 K (.bool false) (rm9_b1 a b c n) g))
 else(
 bif xcm .geq b 0 then(
 bif xnot (xcm .leq b 7) then(
 K (.bool false) (rm9_b1 a b c n) g)
 else(
 bif xcm .eql c 0 then(
 bif xcm .geq c 0 then(
 bif xnot (xcm .leq c 15) then(
 K (.bool false) (rm9_b1 a b c n) g)
 else(
 K (.bool true) (rm9_b1 a b c n) g))
 else(
 K (.bool false) (rm9_b1 a b c n) g))
 else(
 bif xcm .geq c 0 then(
 bif xnot (xcm .leq c 15) then(
 K (.bool false) (rm9_b1 a b c n) g)
 else(
 K (.bool true) (rm9_b1 a b c n) g))
 else(
 K (.bool false) (rm9_b1 a b c n) g))))
 else(
 K (.bool false) (rm9_b1 a b c n) g))))
 else(
 K (.bool false) (rm9_b1 a b c n) g)))):=by kernel_rfl
abbrev rm10_b1 (a:Int) (b:Int) (c:Int) (n:Int):List (Option LB):=[sN [.int .i64 10,.int .i64 a,.int .i64 b,.int .i64 c,.int .u64 n],sN [.str [97,108,108,111,99],.int .i64 7,.int .i64 7,.int .i64 (-1),.bool false],sN [.str [97,108,108,111,99],.int .i64 7,.int .i64 7,.int .i64 (-1),.bool false]]
theorem rm10 (a b c n:Int) (g:Glb) (K:Fk):(xfun prog (fun _=>none) 100 15 [insL 10 a b c n] (mkS [] g) (vF K))=(
 bif xcm .neq n 0 then(
 K (.bool false) (rm10_b1 a b c n) g)
 else(
 bif xcm .eql a 0 then(
 bif xcm .geq a 0 then(
 bif xnot (xcm .leq a 7) then(
 K (.bool false) (rm10_b1 a b c n) g)
 else(
 bif xcm .eql b 0 then(
 bif xcm .geq b 0 then(
 bif xnot (xcm .leq b 7) then(
 K (.bool false) (rm10_b1 a b c n) g)
 else(
 bif xcm .eql c 0 then(
 K (.bool true) (rm10_b1 a b c n) g)
 else(
 bif xcm .geq c 0 then(
 bif xnot (xcm .leq c (-1)) then(
 K (.bool false) (rm10_b1 a b c n) g)
 else(
 K (.bool true) (rm10_b1 a b c n) g))
 else(
 K (.bool false) (rm10_b1 a b c n) g))))
 else(
 K (.bool false) (rm10_b1 a b c n) g))
 else(
 bif xcm .geq b 0 then(
 bif xnot (xcm .leq b 7) then(
 K (.bool false) (rm10_b1 a b c n) g)
 else(
 bif xcm .eql c 0 then(
 K (.bool true) (rm10_b1 a b c n) g)
 else(
 bif xcm .geq c 0 then(
 bif xnot (xcm .leq c (-1)) then(
 K (.bool false) (rm10_b1 a b c n) g)
 else(
 K (.bool true) (rm10_b1 a b c n) g))
 else(
 K (.bool false) (rm10_b1 a b c n) g))))
 else(
 K (.bool false) (rm10_b1 a b c n) g))))
 else(
 K (.bool false) (rm10_b1 a b c n) g))
 else(
 bif xcm .geq a 0 then(
 bif xnot (xcm .leq a 7) then(
 K (.bool false) (rm10_b1 a b c n) g)
 else(
 bif xcm .eql b 0 then(
 bif xcm .geq b 0 then(
 bif xnot (xcm .leq b 7) then(
 K (.bool false) (rm10_b1 a b c n) g)
 else(
 bif xcm .eql c 0 then(
 K (.bool true) (rm10_b1 a b c n) g)
 else(
 bif xcm .geq c 0 then(
 bif xnot (xcm .leq c (-1)) then(
 K (.bool false) (rm10_b1 a b c n) g)
 else(
 K (.bool true) (rm10_b1 a b c n) g))
 else(
 K (.bool false) (rm10_b1 a b c n) g))))
 else(
 K (.bool false) (rm10_b1 a b c n) g))
 else(
 bif xcm .geq b 0 then(
 bif xnot (xcm .leq b 7) then(
 K (.bool false) (rm10_b1 a b c n) g)
 else(
 bif xcm .eql c 0 then(
 K (.bool true) (rm10_b1 a b c n) g)
 else(
 bif xcm .geq c 0 then(
 bif xnot (xcm .leq c (-1)) then(
 K (.bool false) (rm10_b1 a b c n) g)
 else(
 K (.bool true) (rm10_b1 a b c n) g))
 else(
 K (.bool false) (rm10_b1 a b c n) g))))
 else(
 K (.bool false) (rm10_b1 a b c n) g))))
 else(
 K (.bool false) (rm10_b1 a b c n) g)))):=by kernel_rfl
abbrev rm11_b1 (a:Int) (b:Int) (c:Int) (n:Int):List (Option LB):=[sN [.int .i64 11,.int .i64 a,.int .i64 b,.int .i64 c,.int .u64 n],sN [.str [102,114,101,101],.int .i64 7,.int .i64 (-1),.int .i64 (-1),.bool false],sN [.str [102,114,101,101],.int .i64 7,.int .i64 (-1),.int .i64 (-1),.bool false]]
theorem rm11 (a b c n:Int) (g:Glb) (K:Fk):(xfun prog (fun _=>none) 100 15 [insL 11 a b c n] (mkS [] g) (vF K))=(
 bif xcm .neq n 0 then(
 K (.bool false) (rm11_b1 a b c n) g)
 else(
 bif xcm .eql a 0 then(
 bif xcm .geq a 0 then(
 bif xnot (xcm .leq a 7) then(
 K (.bool false) (rm11_b1 a b c n) g)
 else(
 bif xcm .eql b 0 then(
 bif xcm .eql c 0 then(
 K (.bool true) (rm11_b1 a b c n) g)
 else(
 bif xcm .geq c 0 then(
 bif xnot (xcm .leq c (-1)) then(
 K (.bool false) (rm11_b1 a b c n) g)
 else(
 K (.bool true) (rm11_b1 a b c n) g))
 else(
 K (.bool false) (rm11_b1 a b c n) g)))
 else(
 bif xcm .geq b 0 then(
 bif xnot (xcm .leq b (-1)) then(
 K (.bool false) (rm11_b1 a b c n) g)
 else(
 bif xcm .eql c 0 then(
 K (.bool true) (rm11_b1 a b c n) g)
 else(
 bif xcm .geq c 0 then(
 bif xnot (xcm .leq c (-1)) then(
 K (.bool false) (rm11_b1 a b c n) g)
 else(
 K (.bool true) (rm11_b1 a b c n) g))
 else(
 K (.bool false) (rm11_b1 a b c n) g))))
 else(
 K (.bool false) (rm11_b1 a b c n) g))))
 else(
 K (.bool false) (rm11_b1 a b c n) g))
 else(
 bif xcm .geq a 0 then(
 bif xnot (xcm .leq a 7) then(
 K (.bool false) (rm11_b1 a b c n) g)
 else(
 bif xcm .eql b 0 then(
 bif xcm .eql c 0 then(
 K (.bool true) (rm11_b1 a b c n) g)
 else(
 bif xcm .geq c 0 then(
 bif xnot (xcm .leq c (-1)) then(
 K (.bool false) (rm11_b1 a b c n) g)
 else(
 K (.bool true) (rm11_b1 a b c n) g))
 else(
 K (.bool false) (rm11_b1 a b c n) g)))
 else(
 bif xcm .geq b 0 then(
 bif xnot (xcm .leq b (-1)) then(
 K (.bool false) (rm11_b1 a b c n) g)
 else(
 bif xcm .eql c 0 then(
 K (.bool true) (rm11_b1 a b c n) g)
 else(
 bif xcm .geq c 0 then(
 bif xnot (xcm .leq c (-1)) then(
 K (.bool false) (rm11_b1 a b c n) g)
 else(
 K (.bool true) (rm11_b1 a b c n) g))
 else(
 K (.bool false) (rm11_b1 a b c n) g))))
 else(
 K (.bool false) (rm11_b1 a b c n) g))))
 else(
 K (.bool false) (rm11_b1 a b c n) g)))):=by kernel_rfl
theorem row_out (op:Int) (g:Glb) (h:op < 1∨23 < op):SFun prog 27 [.int .i64 op] (mkS [] g) fun l s=>l=rowZ∧s=mkS [] g:=by
 refine SFun.mono (SFun.vc (Q:=fun l b=>l=rowZ∧b=[]) noCx_ok (n:=100) 0 rfl ?_) fun l s' ⟨b0,⟨h1,h2⟩,h3⟩=>⟨h1,by rw [h3,h2]⟩
 rw [rowx]
 (refine zR ?_)
 exact⟨rfl,_,_,[],⟨rfl,rfl⟩,by(exact zC)⟩
theorem rowOutG_ok:GOk prog 27 rowOutG:=by
 intro args s bs l s' hg hb hfr
 unfold rowOutG at hg
 split at hg
 ·rename_i op
  simp only [Option.some.injEq,Prod.mk.injEq] at hg
  obtain⟨rfl,rfl,rfl⟩:=hg
  simp only [allT_cons] at hb
  exact SFun.pure2 hfr rfl rfl (row_out op s.g (outW_iff.1 hb.1))
 ·cases hg
theorem cxro_ok:CtrOk prog (ctrOf cxro):=cxl_ok ⟨rowOutG_ok,trivial⟩
theorem rmay1 (a b c n:Int) (g:Glb):SFun prog 15 [insL 1 a b c n] (mkS [] g) fun l s=>l=.bool (mayW 1 a b c n)∧s=mkS [] g:=by
 refine SFun.mono (SFun.vc (Q:=fun l bb=>l=.bool (mayW 1 a b c n)∧bb=[]) noCx_ok (n:=100) 0 rfl ?_) fun l s' ⟨b0,⟨h1,h2⟩,h3⟩=>⟨h1,by rw [h3,h2]⟩
 rw [rm1]
 simp only [xcm_geq,xcm_leq,xcm_eql,xcm_neq,xcm_lss,xcm_gtr,wd_not]
 repeat' (first | refine ite_way (fun _=>?_) (fun _=>?_) | refine nite_way (fun _=>?_) (fun _=>?_))
 all_goals first
  | (refine⟨rfl,_,_,[],⟨rfl,rfl⟩,leafB ((mw1 a b c n).2 ?_)⟩; simp only [Bool.false_eq_true,false_or,true_or,and_true]; omega)
  | (refine⟨rfl,_,_,[],⟨rfl,rfl⟩,leafB (Bool.eq_false_iff.2 fun hh=>?_)⟩; have:=(mw1 a b c n).1 hh; simp only [Bool.false_eq_true,false_or,true_or,and_true] at this; omega)
  | (refine⟨rfl,_,_,[],⟨rfl,rfl⟩,leafB (Bool.eq_iff_iff.2 ((mw1 a b c n).trans ?_))⟩; simp only [Bool.false_eq_true,false_or,true_or,and_true,decide_eq_true_eq]; omega)
  | omega
theorem rmay2 (a b c n:Int) (g:Glb):SFun prog 15 [insL 2 a b c n] (mkS [] g) fun l s=>l=.bool (mayW 2 a b c n)∧s=mkS [] g:=by
 refine SFun.mono (SFun.vc (Q:=fun l bb=>l=.bool (mayW 2 a b c n)∧bb=[]) noCx_ok (n:=100) 0 rfl ?_) fun l s' ⟨b0,⟨h1,h2⟩,h3⟩=>⟨h1,by rw [h3,h2]⟩
 rw [rm2]
 simp only [xcm_geq,xcm_leq,xcm_eql,xcm_neq,xcm_lss,xcm_gtr,wd_not]
 repeat' (first | refine ite_way (fun _=>?_) (fun _=>?_) | refine nite_way (fun _=>?_) (fun _=>?_))
 all_goals first
  | (refine⟨rfl,_,_,[],⟨rfl,rfl⟩,leafB ((mw2 a b c n).2 ?_)⟩; simp only [Bool.false_eq_true,false_or,true_or,and_true]; omega)
  | (refine⟨rfl,_,_,[],⟨rfl,rfl⟩,leafB (Bool.eq_false_iff.2 fun hh=>?_)⟩; have:=(mw2 a b c n).1 hh; simp only [Bool.false_eq_true,false_or,true_or,and_true] at this; omega)
  | (refine⟨rfl,_,_,[],⟨rfl,rfl⟩,leafB (Bool.eq_iff_iff.2 ((mw2 a b c n).trans ?_))⟩; simp only [Bool.false_eq_true,false_or,true_or,and_true,decide_eq_true_eq]; omega)
  | omega
theorem rmay3 (a b c n:Int) (g:Glb):SFun prog 15 [insL 3 a b c n] (mkS [] g) fun l s=>l=.bool (mayW 3 a b c n)∧s=mkS [] g:=by
 refine SFun.mono (SFun.vc (Q:=fun l bb=>l=.bool (mayW 3 a b c n)∧bb=[]) noCx_ok (n:=100) 0 rfl ?_) fun l s' ⟨b0,⟨h1,h2⟩,h3⟩=>⟨h1,by rw [h3,h2]⟩
 rw [rm3]
 simp only [xcm_geq,xcm_leq,xcm_eql,xcm_neq,xcm_lss,xcm_gtr,wd_not]
 repeat' (first | refine ite_way (fun _=>?_) (fun _=>?_) | refine nite_way (fun _=>?_) (fun _=>?_))
 all_goals first
  | (refine⟨rfl,_,_,[],⟨rfl,rfl⟩,leafB ((mw3 a b c n).2 ?_)⟩; simp only [Bool.false_eq_true,false_or,true_or,and_true]; omega)
  | (refine⟨rfl,_,_,[],⟨rfl,rfl⟩,leafB (Bool.eq_false_iff.2 fun hh=>?_)⟩; have:=(mw3 a b c n).1 hh; simp only [Bool.false_eq_true,false_or,true_or,and_true] at this; omega)
  | (refine⟨rfl,_,_,[],⟨rfl,rfl⟩,leafB (Bool.eq_iff_iff.2 ((mw3 a b c n).trans ?_))⟩; simp only [Bool.false_eq_true,false_or,true_or,and_true,decide_eq_true_eq]; omega)
  | omega
theorem rmay4 (a b c n:Int) (g:Glb):SFun prog 15 [insL 4 a b c n] (mkS [] g) fun l s=>l=.bool (mayW 4 a b c n)∧s=mkS [] g:=by
 refine SFun.mono (SFun.vc (Q:=fun l bb=>l=.bool (mayW 4 a b c n)∧bb=[]) noCx_ok (n:=100) 0 rfl ?_) fun l s' ⟨b0,⟨h1,h2⟩,h3⟩=>⟨h1,by rw [h3,h2]⟩
 rw [rm4]
 simp only [xcm_geq,xcm_leq,xcm_eql,xcm_neq,xcm_lss,xcm_gtr,wd_not]
 repeat' (first | refine ite_way (fun _=>?_) (fun _=>?_) | refine nite_way (fun _=>?_) (fun _=>?_))
 all_goals first
  | (refine⟨rfl,_,_,[],⟨rfl,rfl⟩,leafB ((mw4 a b c n).2 ?_)⟩; simp only [Bool.false_eq_true,false_or,true_or,and_true]; omega)
  | (refine⟨rfl,_,_,[],⟨rfl,rfl⟩,leafB (Bool.eq_false_iff.2 fun hh=>?_)⟩; have:=(mw4 a b c n).1 hh; simp only [Bool.false_eq_true,false_or,true_or,and_true] at this; omega)
  | (refine⟨rfl,_,_,[],⟨rfl,rfl⟩,leafB (Bool.eq_iff_iff.2 ((mw4 a b c n).trans ?_))⟩; simp only [Bool.false_eq_true,false_or,true_or,and_true,decide_eq_true_eq]; omega)
  | omega
theorem rmay5 (a b c n:Int) (g:Glb):SFun prog 15 [insL 5 a b c n] (mkS [] g) fun l s=>l=.bool (mayW 5 a b c n)∧s=mkS [] g:=by
 refine SFun.mono (SFun.vc (Q:=fun l bb=>l=.bool (mayW 5 a b c n)∧bb=[]) noCx_ok (n:=100) 0 rfl ?_) fun l s' ⟨b0,⟨h1,h2⟩,h3⟩=>⟨h1,by rw [h3,h2]⟩
 rw [rm5]
 simp only [xcm_geq,xcm_leq,xcm_eql,xcm_neq,xcm_lss,xcm_gtr,wd_not]
 repeat' (first | refine ite_way (fun _=>?_) (fun _=>?_) | refine nite_way (fun _=>?_) (fun _=>?_))
 all_goals first
  | (refine⟨rfl,_,_,[],⟨rfl,rfl⟩,leafB ((mw5 a b c n).2 ?_)⟩; simp only [Bool.false_eq_true,false_or,true_or,and_true]; omega)
  | (refine⟨rfl,_,_,[],⟨rfl,rfl⟩,leafB (Bool.eq_false_iff.2 fun hh=>?_)⟩; have:=(mw5 a b c n).1 hh; simp only [Bool.false_eq_true,false_or,true_or,and_true] at this; omega)
  | (refine⟨rfl,_,_,[],⟨rfl,rfl⟩,leafB (Bool.eq_iff_iff.2 ((mw5 a b c n).trans ?_))⟩; simp only [Bool.false_eq_true,false_or,true_or,and_true,decide_eq_true_eq]; omega)
  | omega
theorem rmay6 (a b c n:Int) (g:Glb):SFun prog 15 [insL 6 a b c n] (mkS [] g) fun l s=>l=.bool (mayW 6 a b c n)∧s=mkS [] g:=by
 refine SFun.mono (SFun.vc (Q:=fun l bb=>l=.bool (mayW 6 a b c n)∧bb=[]) noCx_ok (n:=100) 0 rfl ?_) fun l s' ⟨b0,⟨h1,h2⟩,h3⟩=>⟨h1,by rw [h3,h2]⟩
 rw [rm6]
 simp only [xcm_geq,xcm_leq,xcm_eql,xcm_neq,xcm_lss,xcm_gtr,wd_not]
 repeat' (first | refine ite_way (fun _=>?_) (fun _=>?_) | refine nite_way (fun _=>?_) (fun _=>?_))
 all_goals first
  | (refine⟨rfl,_,_,[],⟨rfl,rfl⟩,leafB ((mw6 a b c n).2 ?_)⟩; simp only [Bool.false_eq_true,false_or,true_or,and_true]; omega)
  | (refine⟨rfl,_,_,[],⟨rfl,rfl⟩,leafB (Bool.eq_false_iff.2 fun hh=>?_)⟩; have:=(mw6 a b c n).1 hh; simp only [Bool.false_eq_true,false_or,true_or,and_true] at this; omega)
  | (refine⟨rfl,_,_,[],⟨rfl,rfl⟩,leafB (Bool.eq_iff_iff.2 ((mw6 a b c n).trans ?_))⟩; simp only [Bool.false_eq_true,false_or,true_or,and_true,decide_eq_true_eq]; omega)
  | omega
theorem rmay7 (a b c n:Int) (g:Glb):SFun prog 15 [insL 7 a b c n] (mkS [] g) fun l s=>l=.bool (mayW 7 a b c n)∧s=mkS [] g:=by
 refine SFun.mono (SFun.vc (Q:=fun l bb=>l=.bool (mayW 7 a b c n)∧bb=[]) noCx_ok (n:=100) 0 rfl ?_) fun l s' ⟨b0,⟨h1,h2⟩,h3⟩=>⟨h1,by rw [h3,h2]⟩
 rw [rm7]
 simp only [xcm_geq,xcm_leq,xcm_eql,xcm_neq,xcm_lss,xcm_gtr,wd_not]
 repeat' (first | refine ite_way (fun _=>?_) (fun _=>?_) | refine nite_way (fun _=>?_) (fun _=>?_))
 all_goals first
  | (refine⟨rfl,_,_,[],⟨rfl,rfl⟩,leafB ((mw7 a b c n).2 ?_)⟩; simp only [Bool.false_eq_true,false_or,true_or,and_true]; omega)
  | (refine⟨rfl,_,_,[],⟨rfl,rfl⟩,leafB (Bool.eq_false_iff.2 fun hh=>?_)⟩; have:=(mw7 a b c n).1 hh; simp only [Bool.false_eq_true,false_or,true_or,and_true] at this; omega)
  | (refine⟨rfl,_,_,[],⟨rfl,rfl⟩,leafB (Bool.eq_iff_iff.2 ((mw7 a b c n).trans ?_))⟩; simp only [Bool.false_eq_true,false_or,true_or,and_true,decide_eq_true_eq]; omega)
  | omega
theorem rmay8 (a b c n:Int) (g:Glb):SFun prog 15 [insL 8 a b c n] (mkS [] g) fun l s=>l=.bool (mayW 8 a b c n)∧s=mkS [] g:=by
 refine SFun.mono (SFun.vc (Q:=fun l bb=>l=.bool (mayW 8 a b c n)∧bb=[]) noCx_ok (n:=100) 0 rfl ?_) fun l s' ⟨b0,⟨h1,h2⟩,h3⟩=>⟨h1,by rw [h3,h2]⟩
 rw [rm8]
 simp only [xcm_geq,xcm_leq,xcm_eql,xcm_neq,xcm_lss,xcm_gtr,wd_not]
 repeat' (first | refine ite_way (fun _=>?_) (fun _=>?_) | refine nite_way (fun _=>?_) (fun _=>?_))
 all_goals first
  | (refine⟨rfl,_,_,[],⟨rfl,rfl⟩,leafB ((mw8 a b c n).2 ?_)⟩; simp only [Bool.false_eq_true,false_or,true_or,and_true]; omega)
  | (refine⟨rfl,_,_,[],⟨rfl,rfl⟩,leafB (Bool.eq_false_iff.2 fun hh=>?_)⟩; have:=(mw8 a b c n).1 hh; simp only [Bool.false_eq_true,false_or,true_or,and_true] at this; omega)
  | (refine⟨rfl,_,_,[],⟨rfl,rfl⟩,leafB (Bool.eq_iff_iff.2 ((mw8 a b c n).trans ?_))⟩; simp only [Bool.false_eq_true,false_or,true_or,and_true,decide_eq_true_eq]; omega)
  | omega
theorem rmay9 (a b c n:Int) (g:Glb):SFun prog 15 [insL 9 a b c n] (mkS [] g) fun l s=>l=.bool (mayW 9 a b c n)∧s=mkS [] g:=by
 refine SFun.mono (SFun.vc (Q:=fun l bb=>l=.bool (mayW 9 a b c n)∧bb=[]) noCx_ok (n:=100) 0 rfl ?_) fun l s' ⟨b0,⟨h1,h2⟩,h3⟩=>⟨h1,by rw [h3,h2]⟩
 rw [rm9]
 simp only [xcm_geq,xcm_leq,xcm_eql,xcm_neq,xcm_lss,xcm_gtr,wd_not]
 repeat' (first | refine ite_way (fun _=>?_) (fun _=>?_) | refine nite_way (fun _=>?_) (fun _=>?_))
 all_goals first
  | (refine⟨rfl,_,_,[],⟨rfl,rfl⟩,leafB ((mw9 a b c n).2 ?_)⟩; simp only [Bool.false_eq_true,false_or,true_or,and_true]; omega)
  | (refine⟨rfl,_,_,[],⟨rfl,rfl⟩,leafB (Bool.eq_false_iff.2 fun hh=>?_)⟩; have:=(mw9 a b c n).1 hh; simp only [Bool.false_eq_true,false_or,true_or,and_true] at this; omega)
  | (refine⟨rfl,_,_,[],⟨rfl,rfl⟩,leafB (Bool.eq_iff_iff.2 ((mw9 a b c n).trans ?_))⟩; simp only [Bool.false_eq_true,false_or,true_or,and_true,decide_eq_true_eq]; omega)
  | omega
theorem rmay10 (a b c n:Int) (g:Glb):SFun prog 15 [insL 10 a b c n] (mkS [] g) fun l s=>l=.bool (mayW 10 a b c n)∧s=mkS [] g:=by
 refine SFun.mono (SFun.vc (Q:=fun l bb=>l=.bool (mayW 10 a b c n)∧bb=[]) noCx_ok (n:=100) 0 rfl ?_) fun l s' ⟨b0,⟨h1,h2⟩,h3⟩=>⟨h1,by rw [h3,h2]⟩
 rw [rm10]
 simp only [xcm_geq,xcm_leq,xcm_eql,xcm_neq,xcm_lss,xcm_gtr,wd_not]
 repeat' (first | refine ite_way (fun _=>?_) (fun _=>?_) | refine nite_way (fun _=>?_) (fun _=>?_))
 all_goals first
  | (refine⟨rfl,_,_,[],⟨rfl,rfl⟩,leafB ((mw10 a b c n).2 ?_)⟩; simp only [Bool.false_eq_true,false_or,true_or,and_true]; omega)
  | (refine⟨rfl,_,_,[],⟨rfl,rfl⟩,leafB (Bool.eq_false_iff.2 fun hh=>?_)⟩; have:=(mw10 a b c n).1 hh; simp only [Bool.false_eq_true,false_or,true_or,and_true] at this; omega)
  | (refine⟨rfl,_,_,[],⟨rfl,rfl⟩,leafB (Bool.eq_iff_iff.2 ((mw10 a b c n).trans ?_))⟩; simp only [Bool.false_eq_true,false_or,true_or,and_true,decide_eq_true_eq]; omega)
  | omega
theorem rmay11 (a b c n:Int) (g:Glb):SFun prog 15 [insL 11 a b c n] (mkS [] g) fun l s=>l=.bool (mayW 11 a b c n)∧s=mkS [] g:=by
 refine SFun.mono (SFun.vc (Q:=fun l bb=>l=.bool (mayW 11 a b c n)∧bb=[]) noCx_ok (n:=100) 0 rfl ?_) fun l s' ⟨b0,⟨h1,h2⟩,h3⟩=>⟨h1,by rw [h3,h2]⟩
 rw [rm11]
 simp only [xcm_geq,xcm_leq,xcm_eql,xcm_neq,xcm_lss,xcm_gtr,wd_not]
 repeat' (first | refine ite_way (fun _=>?_) (fun _=>?_) | refine nite_way (fun _=>?_) (fun _=>?_))
 all_goals first
  | (refine⟨rfl,_,_,[],⟨rfl,rfl⟩,leafB ((mw11 a b c n).2 ?_)⟩; simp only [Bool.false_eq_true,false_or,true_or,and_true]; omega)
  | (refine⟨rfl,_,_,[],⟨rfl,rfl⟩,leafB (Bool.eq_false_iff.2 fun hh=>?_)⟩; have:=(mw11 a b c n).1 hh; simp only [Bool.false_eq_true,false_or,true_or,and_true] at this; omega)
  | (refine⟨rfl,_,_,[],⟨rfl,rfl⟩,leafB (Bool.eq_iff_iff.2 ((mw11 a b c n).trans ?_))⟩; simp only [Bool.false_eq_true,false_or,true_or,and_true,decide_eq_true_eq]; omega)
  | omega
end
end Go.Lev
