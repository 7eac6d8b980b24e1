/- chapter 9: the reference's levels: Whole, trees -/
import Derived.Test.YtbeolgofafknmaaGreatDoorCW21
import Derived.Test.YtbeolgofafknmaaGreatDoorLc
import Derived.Test.YtbeolgofafknmaaGreatDoorChecked
import Derived.KernelRfl
namespace Go.Lev
set_option linter.unusedSimpArgs false
set_option linter.unusedVariables false
open Go.RowKit
open Go.Proofs.Tryz (prog)
set_option maxRecDepth 100000
noncomputable section
def cxo3:Cx:=cxl [(50,ocopyG),(51,okeepG)]
abbrev whL:List Nat:=[0,2,3,4,5]
abbrev whT:List (Nat×LV):=[(0,.ptr 0 0),(2,.ptr 3 0),(3,.ptr 5 0)]
abbrev whS (i:Nat):List (Nat×LV):=[(0,.ptr 0 0),(2,.ptr 3 0),(4,.ptr 5 0),(5,.int .i64 i)]
abbrev whI (most:Int) (d:Nat) (cs:List LV):List LB:=[.cells [.int .i64 most,.slo 1 0 d 0] none,.obj orF cs 2,.dead]
abbrev whA (most:Int) (d:Nat) (cs:List LV) (k:Nat) (ks:List LV):List LB:=[.cells [.int .i64 most,.slo 1 0 d 0] none,.obj orF cs 4,.dead,.cells [.nils,.nils] none,.dead,.cells [.int .i64 most,.slo 6 0 k 0] none,.obj orF ks 7,.dead]
abbrev whK (most:Int) (d:Nat) (cs:List LV) (n m:Nat) (q f:List LV):List LB:=[.cells [.int .i64 most,.slo 1 0 d 0] none,.obj orF cs 4,.dead,.cells [.nils,.nils] none,.dead,.cells [.int .i64 most,.slo 6 0 1 0] none,.cells [.slo 8 0 n 0,.slo 9 0 m 0] (some 2),.dead,.cells q (some 2),.cells f (some 1)]
abbrev whC (most:Int) (d:Nat) (cs:List LV) (n:Nat) (c:List LV) (k:Nat) (g:List LV):List LB:=[.cells [.int .i64 most,.slo 1 0 d 0] none,.obj orF cs 4,.dead,.cells [.nils,.nils] none,.dead,.cells [.slo 6 0 n 0,.slo 7 0 k 0] none,.cells c (some 2),.cells g (some 1)]
theorem wh_a (most:Int) (d:Nat) (cs:List LV) (K:Pk):(xsp prog cxo3 60 46 (seg (sp prog 26) 0 2) (tm0 [.ptr 0 0]) (mkS (whI most d cs)) (vK whL K))=(
 ck (okR most cs d) <|
 ck (isF orF orF) <|
 K .normal [.ptr 0 0,.ptr 3 0,.ptr 4 0,.tup [],.tup []] [sN [.int .i64 most,.slo 1 0 d 0],some (.obj orF cs 7),sD,sN [.nils,.nils],sN [.int .i64 most,.slo 5 0 d 0],some (.obj orF cs 6),sD,sD] []):=by kernel_rfl
theorem wh_b (most:Int) (d k:Nat) (cs ks:List LV) (K:Pk):(xcode prog cxo3 60 46 (loopOf (nthC (sp prog 26) 2)) (mkTm 46 whT) (mkS (whA most d cs k ks)) (vK whL K))=(
 bif xcm .gtr (↑k) 1 then(
 ck (okR most ks k) <|
 ck (isF orF orF) <|
 K .normal [.ptr 0 0,.ptr 3 0,.ptr 5 0,.any,.any] [sN [.int .i64 most,.slo 1 0 d 0],some (.obj orF cs 4),sD,sN [.nils,.nils],sD,sN [.int .i64 most,.slo 8 0 (lkeepD ks) 0],sD,sD,some (.obj orF (lkeepC ks) 9),sD] [])
 else(
 K (.exit 0) [.ptr 0 0,.ptr 3 0,.ptr 5 0,.any,.any] [sN [.int .i64 most,.slo 1 0 d 0],some (.obj orF cs 4),sD,sN [.nils,.nils],sD,sN [.int .i64 most,.slo 6 0 k 0],some (.obj orF ks 7),sD] [])):=by kernel_rfl
theorem wh_c (most:Int) (d n m:Nat) (cs q f:List LV) (K:Pk):(xsp prog cxo3 60 46 (seg (sp prog 26) 3 2) (mkTm 46 whT) (mkS (whK most d cs n m q f)) (vK whL K))=(
 K .normal [.ptr 0 0,.ptr 3 0,.ptr 5 0,.ptr 10 0,.int .i64 0] [sN [.int .i64 most,.slo 1 0 d 0],some (.obj orF cs 4),sD,sN [.nils,.nils],sD,sN [.int .i64 most,.slo 6 0 1 0],sC [.slo 8 0 n 0,.slo 9 0 m 0] 2,sD,sC q 2,sC f 1,sN [.slo 8 0 n 0,.nils]] []):=by kernel_rfl
abbrev whF1 (most:Int) (nn kk:Nat) (cc gg:List LV) (n0 m0:Nat) (q0 f0:List LV):List LB:=[.cells [.int .i64 most,.slo 1 0 1 0] none,.cells [.slo 8 0 n0 0,.slo 9 0 m0 0] (some 2),.dead,.cells [.nils,.nils] none,.dead,.cells [.slo 6 0 nn 0,.slo 7 0 kk 0] none,.cells cc (some 2),.cells gg (some 1),.cells q0 (some 2),.cells f0 (some 1)]
theorem wf_1 (most:Int) (nn:Nat) (cc:List LV) (n0 m0:Nat) (q0 f0:List LV) (K:Pk):(xsp prog (fun _=>none) 60 46 ((sp prog 26).drop 5) (mkTm 46 (whS 0)) (mkS (whF1 most nn 0 cc [] n0 m0 q0 f0)) (vK whL K))=(
 ck (xle (xadd 0 (xmul m0 1)) (xln f0)) <|
 ck (xle (xadd 0 m0) 1000000) <|
 K .ret [.ptr 0 0,.ptr 3 0,.any,.ptr 5 0,.int .i64 1] [sN [.int .i64 most,.slo 1 0 1 0],sC [.slo 8 0 n0 0,.slo 9 0 m0 0] 2,sD,sN [.slo 6 0 nn 0,.slo 10 0 (xadd 0 m0) 0],sD,sN [.slo 6 0 nn 0,.slo 10 0 (xadd 0 m0) 0],sC cc 2,sD,sC q0 2,sC f0 1,sC (xcat [] (xcut f0 0 (xmul m0 1))) 1] []):=by kernel_rfl
abbrev whF2 (most:Int) (nn kk:Nat) (cc gg:List LV) (n0 m0 n1 m1:Nat) (q0 f0 q1 f1:List LV):List LB:=[.cells [.int .i64 most,.slo 1 0 2 0] none,.cells [.slo 10 0 n1 0,.slo 11 0 m1 0,.slo 8 0 n0 0,.slo 9 0 m0 0] (some 2),.dead,.cells [.nils,.nils] none,.dead,.cells [.slo 6 0 nn 0,.slo 7 0 kk 0] none,.cells cc (some 2),.cells gg (some 1),.cells q0 (some 2),.cells f0 (some 1),.cells q1 (some 2),.cells f1 (some 1)]
theorem wf_2 (most:Int) (nn:Nat) (cc:List LV) (n0 m0 n1 m1:Nat) (q0 f0 q1 f1:List LV) (K:Pk):(xsp prog (fun _=>none) 60 46 ((sp prog 26).drop 5) (mkTm 46 (whS 0)) (mkS (whF2 most nn 0 cc [] n0 m0 n1 m1 q0 f0 q1 f1)) (vK whL K))=(
 ck (xle (xadd 0 (xmul m1 1)) (xln f1)) <|
 ck (xle (xadd 0 m1) 1000000) <|
 ck (xle (xadd 0 (xmul m0 1)) (xln f0)) <|
 ck (xle (xadd (xadd 0 m1) m0) 1000000) <|
 ck (xle (xadd 0 (xmul (xadd 0 m1) 1)) (xln (xcat [] (xcut f1 0 (xmul m1 1))))) <|
 K .ret [.ptr 0 0,.ptr 3 0,.any,.ptr 5 0,.int .i64 2] [sN [.int .i64 most,.slo 1 0 2 0],sC [.slo 10 0 n1 0,.slo 11 0 m1 0,.slo 8 0 n0 0,.slo 9 0 m0 0] 2,sD,sN [.slo 6 0 nn 0,.slo 13 0 (xadd (xadd 0 m1) m0) 0],sD,sN [.slo 6 0 nn 0,.slo 13 0 (xadd (xadd 0 m1) m0) 0],sC cc 2,sD,sC q0 2,sC f0 1,sC q1 2,sC f1 1,sD,sC (xcat (xcut (xcat [] (xcut f1 0 (xmul m1 1))) 0 (xmul (xadd 0 m1) 1)) (xcut f0 0 (xmul m0 1))) 1] []):=by kernel_rfl
abbrev whF3 (most:Int) (nn kk:Nat) (cc gg:List LV) (n0 m0 n1 m1 n2 m2:Nat) (q0 f0 q1 f1 q2 f2:List LV):List LB:=[.cells [.int .i64 most,.slo 1 0 3 0] none,.cells [.slo 12 0 n2 0,.slo 13 0 m2 0,.slo 10 0 n1 0,.slo 11 0 m1 0,.slo 8 0 n0 0,.slo 9 0 m0 0] (some 2),.dead,.cells [.nils,.nils] none,.dead,.cells [.slo 6 0 nn 0,.slo 7 0 kk 0] none,.cells cc (some 2),.cells gg (some 1),.cells q0 (some 2),.cells f0 (some 1),.cells q1 (some 2),.cells f1 (some 1),.cells q2 (some 2),.cells f2 (some 1)]
theorem wf_3 (most:Int) (nn:Nat) (cc:List LV) (n0 m0 n1 m1 n2 m2:Nat) (q0 f0 q1 f1 q2 f2:List LV) (K:Pk):(xsp prog (fun _=>none) 60 46 ((sp prog 26).drop 5) (mkTm 46 (whS 0)) (mkS (whF3 most nn 0 cc [] n0 m0 n1 m1 n2 m2 q0 f0 q1 f1 q2 f2)) (vK whL K))=(
 ck (xle (xadd 0 (xmul m2 1)) (xln f2)) <|
 ck (xle (xadd 0 m2) 1000000) <|
 ck (xle (xadd 0 (xmul m1 1)) (xln f1)) <|
 ck (xle (xadd (xadd 0 m2) m1) 1000000) <|
 ck (xle (xadd 0 (xmul (xadd 0 m2) 1)) (xln (xcat [] (xcut f2 0 (xmul m2 1))))) <|
 ck (xle (xadd 0 (xmul m0 1)) (xln f0)) <|
 ck (xle (xadd (xadd (xadd 0 m2) m1) m0) 1000000) <|
 ck (xle (xadd 0 (xmul (xadd (xadd 0 m2) m1) 1)) (xln (xcat (xcut (xcat [] (xcut f2 0 (xmul m2 1))) 0 (xmul (xadd 0 m2) 1)) (xcut f1 0 (xmul m1 1))))) <|
 K .ret [.ptr 0 0,.ptr 3 0,.any,.ptr 5 0,.int .i64 3] [sN [.int .i64 most,.slo 1 0 3 0],sC [.slo 12 0 n2 0,.slo 13 0 m2 0,.slo 10 0 n1 0,.slo 11 0 m1 0,.slo 8 0 n0 0,.slo 9 0 m0 0] 2,sD,sN [.slo 6 0 nn 0,.slo 16 0 (xadd (xadd (xadd 0 m2) m1) m0) 0],sD,sN [.slo 6 0 nn 0,.slo 16 0 (xadd (xadd (xadd 0 m2) m1) m0) 0],sC cc 2,sD,sC q0 2,sC f0 1,sC q1 2,sC f1 1,sC q2 2,sC f2 1,sD,sD,sC (xcat (xcut (xcat (xcut (xcat [] (xcut f2 0 (xmul m2 1))) 0 (xmul (xadd 0 m2) 1)) (xcut f1 0 (xmul m1 1))) 0 (xmul (xadd (xadd 0 m2) m1) 1)) (xcut f0 0 (xmul m0 1))) 1] []):=by kernel_rfl
abbrev whF4 (most:Int) (nn kk:Nat) (cc gg:List LV) (n0 m0 n1 m1 n2 m2 n3 m3:Nat) (q0 f0 q1 f1 q2 f2 q3 f3:List LV):List LB:=[.cells [.int .i64 most,.slo 1 0 4 0] none,.cells [.slo 14 0 n3 0,.slo 15 0 m3 0,.slo 12 0 n2 0,.slo 13 0 m2 0,.slo 10 0 n1 0,.slo 11 0 m1 0,.slo 8 0 n0 0,.slo 9 0 m0 0] (some 2),.dead,.cells [.nils,.nils] none,.dead,.cells [.slo 6 0 nn 0,.slo 7 0 kk 0] none,.cells cc (some 2),.cells gg (some 1),.cells q0 (some 2),.cells f0 (some 1),.cells q1 (some 2),.cells f1 (some 1),.cells q2 (some 2),.cells f2 (some 1),.cells q3 (some 2),.cells f3 (some 1)]
theorem wf_4 (most:Int) (nn:Nat) (cc:List LV) (n0 m0 n1 m1 n2 m2 n3 m3:Nat) (q0 f0 q1 f1 q2 f2 q3 f3:List LV) (K:Pk):(xsp prog (fun _=>none) 60 46 ((sp prog 26).drop 5) (mkTm 46 (whS 0)) (mkS (whF4 most nn 0 cc [] n0 m0 n1 m1 n2 m2 n3 m3 q0 f0 q1 f1 q2 f2 q3 f3)) (vK whL K))=(
 ck (xle (xadd 0 (xmul m3 1)) (xln f3)) <|
 ck (xle (xadd 0 m3) 1000000) <|
 ck (xle (xadd 0 (xmul m2 1)) (xln f2)) <|
 ck (xle (xadd (xadd 0 m3) m2) 1000000) <|
 ck (xle (xadd 0 (xmul (xadd 0 m3) 1)) (xln (xcat [] (xcut f3 0 (xmul m3 1))))) <|
 ck (xle (xadd 0 (xmul m1 1)) (xln f1)) <|
 ck (xle (xadd (xadd (xadd 0 m3) m2) m1) 1000000) <|
 ck (xle (xadd 0 (xmul (xadd (xadd 0 m3) m2) 1)) (xln (xcat (xcut (xcat [] (xcut f3 0 (xmul m3 1))) 0 (xmul (xadd 0 m3) 1)) (xcut f2 0 (xmul m2 1))))) <|
 ck (xle (xadd 0 (xmul m0 1)) (xln f0)) <|
 ck (xle (xadd (xadd (xadd (xadd 0 m3) m2) m1) m0) 1000000) <|
 ck (xle (xadd 0 (xmul (xadd (xadd (xadd 0 m3) m2) m1) 1)) (xln (xcat (xcut (xcat (xcut (xcat [] (xcut f3 0 (xmul m3 1))) 0 (xmul (xadd 0 m3) 1)) (xcut f2 0 (xmul m2 1))) 0 (xmul (xadd (xadd 0 m3) m2) 1)) (xcut f1 0 (xmul m1 1))))) <|
 K .ret [.ptr 0 0,.ptr 3 0,.any,.ptr 5 0,.int .i64 4] [sN [.int .i64 most,.slo 1 0 4 0],sC [.slo 14 0 n3 0,.slo 15 0 m3 0,.slo 12 0 n2 0,.slo 13 0 m2 0,.slo 10 0 n1 0,.slo 11 0 m1 0,.slo 8 0 n0 0,.slo 9 0 m0 0] 2,sD,sN [.slo 6 0 nn 0,.slo 19 0 (xadd (xadd (xadd (xadd 0 m3) m2) m1) m0) 0],sD,sN [.slo 6 0 nn 0,.slo 19 0 (xadd (xadd (xadd (xadd 0 m3) m2) m1) m0) 0],sC cc 2,sD,sC q0 2,sC f0 1,sC q1 2,sC f1 1,sC q2 2,sC f2 1,sC q3 2,sC f3 1,sD,sD,sD,sC (xcat (xcut (xcat (xcut (xcat (xcut (xcat [] (xcut f3 0 (xmul m3 1))) 0 (xmul (xadd 0 m3) 1)) (xcut f2 0 (xmul m2 1))) 0 (xmul (xadd (xadd 0 m3) m2) 1)) (xcut f1 0 (xmul m1 1))) 0 (xmul (xadd (xadd (xadd 0 m3) m2) m1) 1)) (xcut f0 0 (xmul m0 1))) 1] []):=by kernel_rfl
abbrev whF5 (most:Int) (nn kk:Nat) (cc gg:List LV) (n0 m0 n1 m1 n2 m2 n3 m3 n4 m4:Nat) (q0 f0 q1 f1 q2 f2 q3 f3 q4 f4:List LV):List LB:=[.cells [.int .i64 most,.slo 1 0 5 0] none,.cells [.slo 16 0 n4 0,.slo 17 0 m4 0,.slo 14 0 n3 0,.slo 15 0 m3 0,.slo 12 0 n2 0,.slo 13 0 m2 0,.slo 10 0 n1 0,.slo 11 0 m1 0,.slo 8 0 n0 0,.slo 9 0 m0 0] (some 2),.dead,.cells [.nils,.nils] none,.dead,.cells [.slo 6 0 nn 0,.slo 7 0 kk 0] none,.cells cc (some 2),.cells gg (some 1),.cells q0 (some 2),.cells f0 (some 1),.cells q1 (some 2),.cells f1 (some 1),.cells q2 (some 2),.cells f2 (some 1),.cells q3 (some 2),.cells f3 (some 1),.cells q4 (some 2),.cells f4 (some 1)]
theorem wf_5 (most:Int) (nn:Nat) (cc:List LV) (n0 m0 n1 m1 n2 m2 n3 m3 n4 m4:Nat) (q0 f0 q1 f1 q2 f2 q3 f3 q4 f4:List LV) (K:Pk):(xsp prog (fun _=>none) 60 46 ((sp prog 26).drop 5) (mkTm 46 (whS 0)) (mkS (whF5 most nn 0 cc [] n0 m0 n1 m1 n2 m2 n3 m3 n4 m4 q0 f0 q1 f1 q2 f2 q3 f3 q4 f4)) (vK whL K))=(
 ck (xle (xadd 0 (xmul m4 1)) (xln f4)) <|
 ck (xle (xadd 0 m4) 1000000) <|
 ck (xle (xadd 0 (xmul m3 1)) (xln f3)) <|
 ck (xle (xadd (xadd 0 m4) m3) 1000000) <|
 ck (xle (xadd 0 (xmul (xadd 0 m4) 1)) (xln (xcat [] (xcut f4 0 (xmul m4 1))))) <|
 ck (xle (xadd 0 (xmul m2 1)) (xln f2)) <|
 ck (xle (xadd (xadd (xadd 0 m4) m3) m2) 1000000) <|
 ck (xle (xadd 0 (xmul (xadd (xadd 0 m4) m3) 1)) (xln (xcat (xcut (xcat [] (xcut f4 0 (xmul m4 1))) 0 (xmul (xadd 0 m4) 1)) (xcut f3 0 (xmul m3 1))))) <|
 ck (xle (xadd 0 (xmul m1 1)) (xln f1)) <|
 ck (xle (xadd (xadd (xadd (xadd 0 m4) m3) m2) m1) 1000000) <|
 ck (xle (xadd 0 (xmul (xadd (xadd (xadd 0 m4) m3) m2) 1)) (xln (xcat (xcut (xcat (xcut (xcat [] (xcut f4 0 (xmul m4 1))) 0 (xmul (xadd 0 m4) 1)) (xcut f3 0 (xmul m3 1))) 0 (xmul (xadd (xadd 0 m4) m3) 1)) (xcut f2 0 (xmul m2 1))))) <|
 ck (xle (xadd 0 (xmul m0 1)) (xln f0)) <|
 ck (xle (xadd (xadd (xadd (xadd (xadd 0 m4) m3) m2) m1) m0) 1000000) <|
 ck (xle (xadd 0 (xmul (xadd (xadd (xadd (xadd 0 m4) m3) m2) m1) 1)) (xln (xcat (xcut (xcat (xcut (xcat (xcut (xcat [] (xcut f4 0 (xmul m4 1))) 0 (xmul (xadd 0 m4) 1)) (xcut f3 0 (xmul m3 1))) 0 (xmul (xadd (xadd 0 m4) m3) 1)) (xcut f2 0 (xmul m2 1))) 0 (xmul (xadd (xadd (xadd 0 m4) m3) m2) 1)) (xcut f1 0 (xmul m1 1))))) <|
 K .ret [.ptr 0 0,.ptr 3 0,.any,.ptr 5 0,.int .i64 5] [sN [.int .i64 most,.slo 1 0 5 0],sC [.slo 16 0 n4 0,.slo 17 0 m4 0,.slo 14 0 n3 0,.slo 15 0 m3 0,.slo 12 0 n2 0,.slo 13 0 m2 0,.slo 10 0 n1 0,.slo 11 0 m1 0,.slo 8 0 n0 0,.slo 9 0 m0 0] 2,sD,sN [.slo 6 0 nn 0,.slo 22 0 (xadd (xadd (xadd (xadd (xadd 0 m4) m3) m2) m1) m0) 0],sD,sN [.slo 6 0 nn 0,.slo 22 0 (xadd (xadd (xadd (xadd (xadd 0 m4) m3) m2) m1) m0) 0],sC cc 2,sD,sC q0 2,sC f0 1,sC q1 2,sC f1 1,sC q2 2,sC f2 1,sC q3 2,sC f3 1,sC q4 2,sC f4 1,sD,sD,sD,sD,sC (xcat (xcut (xcat (xcut (xcat (xcut (xcat (xcut (xcat [] (xcut f4 0 (xmul m4 1))) 0 (xmul (xadd 0 m4) 1)) (xcut f3 0 (xmul m3 1))) 0 (xmul (xadd (xadd 0 m4) m3) 1)) (xcut f2 0 (xmul m2 1))) 0 (xmul (xadd (xadd (xadd 0 m4) m3) m2) 1)) (xcut f1 0 (xmul m1 1))) 0 (xmul (xadd (xadd (xadd (xadd 0 m4) m3) m2) m1) 1)) (xcut f0 0 (xmul m0 1))) 1] []):=by kernel_rfl
abbrev whF6 (most:Int) (nn kk:Nat) (cc gg:List LV) (n0 m0 n1 m1 n2 m2 n3 m3 n4 m4 n5 m5:Nat) (q0 f0 q1 f1 q2 f2 q3 f3 q4 f4 q5 f5:List LV):List LB:=[.cells [.int .i64 most,.slo 1 0 6 0] none,.cells [.slo 18 0 n5 0,.slo 19 0 m5 0,.slo 16 0 n4 0,.slo 17 0 m4 0,.slo 14 0 n3 0,.slo 15 0 m3 0,.slo 12 0 n2 0,.slo 13 0 m2 0,.slo 10 0 n1 0,.slo 11 0 m1 0,.slo 8 0 n0 0,.slo 9 0 m0 0] (some 2),.dead,.cells [.nils,.nils] none,.dead,.cells [.slo 6 0 nn 0,.slo 7 0 kk 0] none,.cells cc (some 2),.cells gg (some 1),.cells q0 (some 2),.cells f0 (some 1),.cells q1 (some 2),.cells f1 (some 1),.cells q2 (some 2),.cells f2 (some 1),.cells q3 (some 2),.cells f3 (some 1),.cells q4 (some 2),.cells f4 (some 1),.cells q5 (some 2),.cells f5 (some 1)]
theorem wf_6 (most:Int) (nn:Nat) (cc:List LV) (n0 m0 n1 m1 n2 m2 n3 m3 n4 m4 n5 m5:Nat) (q0 f0 q1 f1 q2 f2 q3 f3 q4 f4 q5 f5:List LV) (K:Pk):(xsp prog (fun _=>none) 60 46 ((sp prog 26).drop 5) (mkTm 46 (whS 0)) (mkS (whF6 most nn 0 cc [] n0 m0 n1 m1 n2 m2 n3 m3 n4 m4 n5 m5 q0 f0 q1 f1 q2 f2 q3 f3 q4 f4 q5 f5)) (vK whL K))=(
 ck (xle (xadd 0 (xmul m5 1)) (xln f5)) <|
 ck (xle (xadd 0 m5) 1000000) <|
 ck (xle (xadd 0 (xmul m4 1)) (xln f4)) <|
 ck (xle (xadd (xadd 0 m5) m4) 1000000) <|
 ck (xle (xadd 0 (xmul (xadd 0 m5) 1)) (xln (xcat [] (xcut f5 0 (xmul m5 1))))) <|
 ck (xle (xadd 0 (xmul m3 1)) (xln f3)) <|
 ck (xle (xadd (xadd (xadd 0 m5) m4) m3) 1000000) <|
 ck (xle (xadd 0 (xmul (xadd (xadd 0 m5) m4) 1)) (xln (xcat (xcut (xcat [] (xcut f5 0 (xmul m5 1))) 0 (xmul (xadd 0 m5) 1)) (xcut f4 0 (xmul m4 1))))) <|
 ck (xle (xadd 0 (xmul m2 1)) (xln f2)) <|
 ck (xle (xadd (xadd (xadd (xadd 0 m5) m4) m3) m2) 1000000) <|
 ck (xle (xadd 0 (xmul (xadd (xadd (xadd 0 m5) m4) m3) 1)) (xln (xcat (xcut (xcat (xcut (xcat [] (xcut f5 0 (xmul m5 1))) 0 (xmul (xadd 0 m5) 1)) (xcut f4 0 (xmul m4 1))) 0 (xmul (xadd (xadd 0 m5) m4) 1)) (xcut f3 0 (xmul m3 1))))) <|
 ck (xle (xadd 0 (xmul m1 1)) (xln f1)) <|
 ck (xle (xadd (xadd (xadd (xadd (xadd 0 m5) m4) m3) m2) m1) 1000000) <|
 ck (xle (xadd 0 (xmul (xadd (xadd (xadd (xadd 0 m5) m4) m3) m2) 1)) (xln (xcat (xcut (xcat (xcut (xcat (xcut (xcat [] (xcut f5 0 (xmul m5 1))) 0 (xmul (xadd 0 m5) 1)) (xcut f4 0 (xmul m4 1))) 0 (xmul (xadd (xadd 0 m5) m4) 1)) (xcut f3 0 (xmul m3 1))) 0 (xmul (xadd (xadd (xadd 0 m5) m4) m3) 1)) (xcut f2 0 (xmul m2 1))))) <|
 ck (xle (xadd 0 (xmul m0 1)) (xln f0)) <|
 ck (xle (xadd (xadd (xadd (xadd (xadd (xadd 0 m5) m4) m3) m2) m1) m0) 1000000) <|
 ck (xle (xadd 0 (xmul (xadd (xadd (xadd (xadd (xadd 0 m5) m4) m3) m2) m1) 1)) (xln (xcat (xcut (xcat (xcut (xcat (xcut (xcat (xcut (xcat [] (xcut f5 0 (xmul m5 1))) 0 (xmul (xadd 0 m5) 1)) (xcut f4 0 (xmul m4 1))) 0 (xmul (xadd (xadd 0 m5) m4) 1)) (xcut f3 0 (xmul m3 1))) 0 (xmul (xadd (xadd (xadd 0 m5) m4) m3) 1)) (xcut f2 0 (xmul m2 1))) 0 (xmul (xadd (xadd (xadd (xadd 0 m5) m4) m3) m2) 1)) (xcut f1 0 (xmul m1 1))))) <|
 K .ret [.ptr 0 0,.ptr 3 0,.any,.ptr 5 0,.int .i64 6] [sN [.int .i64 most,.slo 1 0 6 0],sC [.slo 18 0 n5 0,.slo 19 0 m5 0,.slo 16 0 n4 0,.slo 17 0 m4 0,.slo 14 0 n3 0,.slo 15 0 m3 0,.slo 12 0 n2 0,.slo 13 0 m2 0,.slo 10 0 n1 0,.slo 11 0 m1 0,.slo 8 0 n0 0,.slo 9 0 m0 0] 2,sD,sN [.slo 6 0 nn 0,.slo 25 0 (xadd (xadd (xadd (xadd (xadd (xadd 0 m5) m4) m3) m2) m1) m0) 0],sD,sN [.slo 6 0 nn 0,.slo 25 0 (xadd (xadd (xadd (xadd (xadd (xadd 0 m5) m4) m3) m2) m1) m0) 0],sC cc 2,sD,sC q0 2,sC f0 1,sC q1 2,sC f1 1,sC q2 2,sC f2 1,sC q3 2,sC f3 1,sC q4 2,sC f4 1,sC q5 2,sC f5 1,sD,sD,sD,sD,sD,sC (xcat (xcut (xcat (xcut (xcat (xcut (xcat (xcut (xcat (xcut (xcat [] (xcut f5 0 (xmul m5 1))) 0 (xmul (xadd 0 m5) 1)) (xcut f4 0 (xmul m4 1))) 0 (xmul (xadd (xadd 0 m5) m4) 1)) (xcut f3 0 (xmul m3 1))) 0 (xmul (xadd (xadd (xadd 0 m5) m4) m3) 1)) (xcut f2 0 (xmul m2 1))) 0 (xmul (xadd (xadd (xadd (xadd 0 m5) m4) m3) m2) 1)) (xcut f1 0 (xmul m1 1))) 0 (xmul (xadd (xadd (xadd (xadd (xadd 0 m5) m4) m3) m2) m1) 1)) (xcut f0 0 (xmul m0 1))) 1] []):=by kernel_rfl
theorem cxo3_ok:CtrOk prog (ctrOf cxo3):=cxl_ok ⟨ocopyG_ok,okeepG_ok,trivial⟩
end
end Go.Lev
