/- chapter 9: the reference's levels: Copy, trees -/
import Derived.Test.YtopbikapcboigaaCW16
import Derived.Test.YtopbikapcboigaaLc
import Derived.Test.YtopbikapcboigaaChecked
import Derived.KernelRfl
namespace Go.Lev
set_option linter.unusedSimpArgs false
set_option linter.unusedVariables false
open Go.RowKit
open Go.Proofs.Try (prog)
set_option maxRecDepth 100000
noncomputable section
theorem cp_1 (most:Int) (n0 m0:Nat) (q0 f0:List LV) (K:Pk):(xsp prog (fun _=>none) 60 49 ((sp prog 83).drop 0) (tm0 [.ptr 0 0]) (mkS (orH1 most n0 m0 q0 f0)) (vK [2] K))=(
 ck (xle (xadd 0 (xmul n0 2)) (xln q0)) <|
 ck (xle (xmul n0 16) 140737488355328) <|
 ck (xle n0 140737488355328) <|
 ck (xle (xadd 0 (xmul m0 1)) (xln f0)) <|
 ck (xle (xmul m0 8) 140737488355328) <|
 ck (xle m0 140737488355328) <|
 ck (xeq m0 m0) <|
 ck (xeq m0 m0) <|
 K .ret [.ptr 5 0] [sN [.int .i64 most,.slo 1 0 1 0],sC [.slo 3 0 n0 0,.slo 4 0 m0 0] 2,sD,sC q0 2,sC f0 1,sN [.int .i64 most,.slo 9 0 1 0],sC (xcut q0 0 (xmul n0 2)) 2,sC (xcut f0 0 (xmul m0 1)) 1,sN [.slo 6 0 n0 0,.slo 7 0 m0 0],sC [.slo 6 0 n0 0,.slo 7 0 m0 0] 2] []):=by kernel_rfl
theorem cp_2 (most:Int) (n0 m0 n1 m1:Nat) (q0 f0 q1 f1:List LV) (K:Pk):(xsp prog (fun _=>none) 60 49 ((sp prog 83).drop 0) (tm0 [.ptr 0 0]) (mkS (orH2 most n0 m0 n1 m1 q0 f0 q1 f1)) (vK [2] K))=(
 ck (xle (xadd 0 (xmul n1 2)) (xln q1)) <|
 ck (xle (xmul n1 16) 140737488355328) <|
 ck (xle n1 140737488355328) <|
 ck (xle (xadd 0 (xmul m1 1)) (xln f1)) <|
 ck (xle (xmul m1 8) 140737488355328) <|
 ck (xle m1 140737488355328) <|
 ck (xeq m1 m1) <|
 ck (xeq m1 m1) <|
 ck (xle (xadd 0 (xmul n0 2)) (xln q0)) <|
 ck (xle (xmul n0 16) 140737488355328) <|
 ck (xle n0 140737488355328) <|
 ck (xle (xadd 0 (xmul m0 1)) (xln f0)) <|
 ck (xle (xmul m0 8) 140737488355328) <|
 ck (xle m0 140737488355328) <|
 ck (xeq m0 m0) <|
 ck (xeq m0 m0) <|
 K .ret [.ptr 7 0] [sN [.int .i64 most,.slo 1 0 2 0],sC [.slo 5 0 n1 0,.slo 6 0 m1 0,.slo 3 0 n0 0,.slo 4 0 m0 0] 2,sD,sC q0 2,sC f0 1,sC q1 2,sC f1 1,sN [.int .i64 most,.slo 15 0 2 0],sC (xcut q1 0 (xmul n1 2)) 2,sC (xcut f1 0 (xmul m1 1)) 1,sN [.slo 8 0 n1 0,.slo 9 0 m1 0],sD,sC (xcut q0 0 (xmul n0 2)) 2,sC (xcut f0 0 (xmul m0 1)) 1,sN [.slo 12 0 n0 0,.slo 13 0 m0 0],sC [.slo 8 0 n1 0,.slo 9 0 m1 0,.slo 12 0 n0 0,.slo 13 0 m0 0] 2] []):=by kernel_rfl
theorem cp_3 (most:Int) (n0 m0 n1 m1 n2 m2:Nat) (q0 f0 q1 f1 q2 f2:List LV) (K:Pk):(xsp prog (fun _=>none) 60 49 ((sp prog 83).drop 0) (tm0 [.ptr 0 0]) (mkS (orH3 most n0 m0 n1 m1 n2 m2 q0 f0 q1 f1 q2 f2)) (vK [2] K))=(
 ck (xle (xadd 0 (xmul n2 2)) (xln q2)) <|
 ck (xle (xmul n2 16) 140737488355328) <|
 ck (xle n2 140737488355328) <|
 ck (xle (xadd 0 (xmul m2 1)) (xln f2)) <|
 ck (xle (xmul m2 8) 140737488355328) <|
 ck (xle m2 140737488355328) <|
 ck (xeq m2 m2) <|
 ck (xeq m2 m2) <|
 ck (xle (xadd 0 (xmul n1 2)) (xln q1)) <|
 ck (xle (xmul n1 16) 140737488355328) <|
 ck (xle n1 140737488355328) <|
 ck (xle (xadd 0 (xmul m1 1)) (xln f1)) <|
 ck (xle (xmul m1 8) 140737488355328) <|
 ck (xle m1 140737488355328) <|
 ck (xeq m1 m1) <|
 ck (xeq m1 m1) <|
 ck (xle (xadd 0 (xmul n0 2)) (xln q0)) <|
 ck (xle (xmul n0 16) 140737488355328) <|
 ck (xle n0 140737488355328) <|
 ck (xle (xadd 0 (xmul m0 1)) (xln f0)) <|
 ck (xle (xmul m0 8) 140737488355328) <|
 ck (xle m0 140737488355328) <|
 ck (xeq m0 m0) <|
 ck (xeq m0 m0) <|
 K .ret [.ptr 9 0] [sN [.int .i64 most,.slo 1 0 3 0],sC [.slo 7 0 n2 0,.slo 8 0 m2 0,.slo 5 0 n1 0,.slo 6 0 m1 0,.slo 3 0 n0 0,.slo 4 0 m0 0] 2,sD,sC q0 2,sC f0 1,sC q1 2,sC f1 1,sC q2 2,sC f2 1,sN [.int .i64 most,.slo 21 0 3 0],sC (xcut q2 0 (xmul n2 2)) 2,sC (xcut f2 0 (xmul m2 1)) 1,sN [.slo 10 0 n2 0,.slo 11 0 m2 0],sD,sC (xcut q1 0 (xmul n1 2)) 2,sC (xcut f1 0 (xmul m1 1)) 1,sN [.slo 14 0 n1 0,.slo 15 0 m1 0],sD,sC (xcut q0 0 (xmul n0 2)) 2,sC (xcut f0 0 (xmul m0 1)) 1,sN [.slo 18 0 n0 0,.slo 19 0 m0 0],sC [.slo 10 0 n2 0,.slo 11 0 m2 0,.slo 14 0 n1 0,.slo 15 0 m1 0,.slo 18 0 n0 0,.slo 19 0 m0 0] 2] []):=by kernel_rfl
theorem cp_4 (most:Int) (n0 m0 n1 m1 n2 m2 n3 m3:Nat) (q0 f0 q1 f1 q2 f2 q3 f3:List LV) (K:Pk):(xsp prog (fun _=>none) 60 49 ((sp prog 83).drop 0) (tm0 [.ptr 0 0]) (mkS (orH4 most n0 m0 n1 m1 n2 m2 n3 m3 q0 f0 q1 f1 q2 f2 q3 f3)) (vK [2] K))=(
 ck (xle (xadd 0 (xmul n3 2)) (xln q3)) <|
 ck (xle (xmul n3 16) 140737488355328) <|
 ck (xle n3 140737488355328) <|
 ck (xle (xadd 0 (xmul m3 1)) (xln f3)) <|
 ck (xle (xmul m3 8) 140737488355328) <|
 ck (xle m3 140737488355328) <|
 ck (xeq m3 m3) <|
 ck (xeq m3 m3) <|
 ck (xle (xadd 0 (xmul n2 2)) (xln q2)) <|
 ck (xle (xmul n2 16) 140737488355328) <|
 ck (xle n2 140737488355328) <|
 ck (xle (xadd 0 (xmul m2 1)) (xln f2)) <|
 ck (xle (xmul m2 8) 140737488355328) <|
 ck (xle m2 140737488355328) <|
 ck (xeq m2 m2) <|
 ck (xeq m2 m2) <|
 ck (xle (xadd 0 (xmul n1 2)) (xln q1)) <|
 ck (xle (xmul n1 16) 140737488355328) <|
 ck (xle n1 140737488355328) <|
 ck (xle (xadd 0 (xmul m1 1)) (xln f1)) <|
 ck (xle (xmul m1 8) 140737488355328) <|
 ck (xle m1 140737488355328) <|
 ck (xeq m1 m1) <|
 ck (xeq m1 m1) <|
 ck (xle (xadd 0 (xmul n0 2)) (xln q0)) <|
 ck (xle (xmul n0 16) 140737488355328) <|
 ck (xle n0 140737488355328) <|
 ck (xle (xadd 0 (xmul m0 1)) (xln f0)) <|
 ck (xle (xmul m0 8) 140737488355328) <|
 ck (xle m0 140737488355328) <|
 ck (xeq m0 m0) <|
 ck (xeq m0 m0) <|
 K .ret [.ptr 11 0] [sN [.int .i64 most,.slo 1 0 4 0],sC [.slo 9 0 n3 0,.slo 10 0 m3 0,.slo 7 0 n2 0,.slo 8 0 m2 0,.slo 5 0 n1 0,.slo 6 0 m1 0,.slo 3 0 n0 0,.slo 4 0 m0 0] 2,sD,sC q0 2,sC f0 1,sC q1 2,sC f1 1,sC q2 2,sC f2 1,sC q3 2,sC f3 1,sN [.int .i64 most,.slo 27 0 4 0],sC (xcut q3 0 (xmul n3 2)) 2,sC (xcut f3 0 (xmul m3 1)) 1,sN [.slo 12 0 n3 0,.slo 13 0 m3 0],sD,sC (xcut q2 0 (xmul n2 2)) 2,sC (xcut f2 0 (xmul m2 1)) 1,sN [.slo 16 0 n2 0,.slo 17 0 m2 0],sD,sC (xcut q1 0 (xmul n1 2)) 2,sC (xcut f1 0 (xmul m1 1)) 1,sN [.slo 20 0 n1 0,.slo 21 0 m1 0],sD,sC (xcut q0 0 (xmul n0 2)) 2,sC (xcut f0 0 (xmul m0 1)) 1,sN [.slo 24 0 n0 0,.slo 25 0 m0 0],sC [.slo 12 0 n3 0,.slo 13 0 m3 0,.slo 16 0 n2 0,.slo 17 0 m2 0,.slo 20 0 n1 0,.slo 21 0 m1 0,.slo 24 0 n0 0,.slo 25 0 m0 0] 2] []):=by kernel_rfl
theorem cp_5 (most:Int) (n0 m0 n1 m1 n2 m2 n3 m3 n4 m4:Nat) (q0 f0 q1 f1 q2 f2 q3 f3 q4 f4:List LV) (K:Pk):(xsp prog (fun _=>none) 60 49 ((sp prog 83).drop 0) (tm0 [.ptr 0 0]) (mkS (orH5 most n0 m0 n1 m1 n2 m2 n3 m3 n4 m4 q0 f0 q1 f1 q2 f2 q3 f3 q4 f4)) (vK [2] K))=(
 ck (xle (xadd 0 (xmul n4 2)) (xln q4)) <|
 ck (xle (xmul n4 16) 140737488355328) <|
 ck (xle n4 140737488355328) <|
 ck (xle (xadd 0 (xmul m4 1)) (xln f4)) <|
 ck (xle (xmul m4 8) 140737488355328) <|
 ck (xle m4 140737488355328) <|
 ck (xeq m4 m4) <|
 ck (xeq m4 m4) <|
 ck (xle (xadd 0 (xmul n3 2)) (xln q3)) <|
 ck (xle (xmul n3 16) 140737488355328) <|
 ck (xle n3 140737488355328) <|
 ck (xle (xadd 0 (xmul m3 1)) (xln f3)) <|
 ck (xle (xmul m3 8) 140737488355328) <|
 ck (xle m3 140737488355328) <|
 ck (xeq m3 m3) <|
 ck (xeq m3 m3) <|
 ck (xle (xadd 0 (xmul n2 2)) (xln q2)) <|
 ck (xle (xmul n2 16) 140737488355328) <|
 ck (xle n2 140737488355328) <|
 ck (xle (xadd 0 (xmul m2 1)) (xln f2)) <|
 ck (xle (xmul m2 8) 140737488355328) <|
 ck (xle m2 140737488355328) <|
 ck (xeq m2 m2) <|
 ck (xeq m2 m2) <|
 ck (xle (xadd 0 (xmul n1 2)) (xln q1)) <|
 ck (xle (xmul n1 16) 140737488355328) <|
 ck (xle n1 140737488355328) <|
 ck (xle (xadd 0 (xmul m1 1)) (xln f1)) <|
 ck (xle (xmul m1 8) 140737488355328) <|
 ck (xle m1 140737488355328) <|
 ck (xeq m1 m1) <|
 ck (xeq m1 m1) <|
 ck (xle (xadd 0 (xmul n0 2)) (xln q0)) <|
 ck (xle (xmul n0 16) 140737488355328) <|
 ck (xle n0 140737488355328) <|
 ck (xle (xadd 0 (xmul m0 1)) (xln f0)) <|
 ck (xle (xmul m0 8) 140737488355328) <|
 ck (xle m0 140737488355328) <|
 ck (xeq m0 m0) <|
 ck (xeq m0 m0) <|
 K .ret [.ptr 13 0] [sN [.int .i64 most,.slo 1 0 5 0],sC [.slo 11 0 n4 0,.slo 12 0 m4 0,.slo 9 0 n3 0,.slo 10 0 m3 0,.slo 7 0 n2 0,.slo 8 0 m2 0,.slo 5 0 n1 0,.slo 6 0 m1 0,.slo 3 0 n0 0,.slo 4 0 m0 0] 2,sD,sC q0 2,sC f0 1,sC q1 2,sC f1 1,sC q2 2,sC f2 1,sC q3 2,sC f3 1,sC q4 2,sC f4 1,sN [.int .i64 most,.slo 33 0 5 0],sC (xcut q4 0 (xmul n4 2)) 2,sC (xcut f4 0 (xmul m4 1)) 1,sN [.slo 14 0 n4 0,.slo 15 0 m4 0],sD,sC (xcut q3 0 (xmul n3 2)) 2,sC (xcut f3 0 (xmul m3 1)) 1,sN [.slo 18 0 n3 0,.slo 19 0 m3 0],sD,sC (xcut q2 0 (xmul n2 2)) 2,sC (xcut f2 0 (xmul m2 1)) 1,sN [.slo 22 0 n2 0,.slo 23 0 m2 0],sD,sC (xcut q1 0 (xmul n1 2)) 2,sC (xcut f1 0 (xmul m1 1)) 1,sN [.slo 26 0 n1 0,.slo 27 0 m1 0],sD,sC (xcut q0 0 (xmul n0 2)) 2,sC (xcut f0 0 (xmul m0 1)) 1,sN [.slo 30 0 n0 0,.slo 31 0 m0 0],sC [.slo 14 0 n4 0,.slo 15 0 m4 0,.slo 18 0 n3 0,.slo 19 0 m3 0,.slo 22 0 n2 0,.slo 23 0 m2 0,.slo 26 0 n1 0,.slo 27 0 m1 0,.slo 30 0 n0 0,.slo 31 0 m0 0] 2] []):=by kernel_rfl
theorem cp_6 (most:Int) (n0 m0 n1 m1 n2 m2 n3 m3 n4 m4 n5 m5:Nat) (q0 f0 q1 f1 q2 f2 q3 f3 q4 f4 q5 f5:List LV) (K:Pk):(xsp prog (fun _=>none) 60 49 ((sp prog 83).drop 0) (tm0 [.ptr 0 0]) (mkS (orH6 most n0 m0 n1 m1 n2 m2 n3 m3 n4 m4 n5 m5 q0 f0 q1 f1 q2 f2 q3 f3 q4 f4 q5 f5)) (vK [2] K))=(
 ck (xle (xadd 0 (xmul n5 2)) (xln q5)) <|
 ck (xle (xmul n5 16) 140737488355328) <|
 ck (xle n5 140737488355328) <|
 ck (xle (xadd 0 (xmul m5 1)) (xln f5)) <|
 ck (xle (xmul m5 8) 140737488355328) <|
 ck (xle m5 140737488355328) <|
 ck (xeq m5 m5) <|
 ck (xeq m5 m5) <|
 ck (xle (xadd 0 (xmul n4 2)) (xln q4)) <|
 ck (xle (xmul n4 16) 140737488355328) <|
 ck (xle n4 140737488355328) <|
 ck (xle (xadd 0 (xmul m4 1)) (xln f4)) <|
 ck (xle (xmul m4 8) 140737488355328) <|
 ck (xle m4 140737488355328) <|
 ck (xeq m4 m4) <|
 ck (xeq m4 m4) <|
 ck (xle (xadd 0 (xmul n3 2)) (xln q3)) <|
 ck (xle (xmul n3 16) 140737488355328) <|
 ck (xle n3 140737488355328) <|
 ck (xle (xadd 0 (xmul m3 1)) (xln f3)) <|
 ck (xle (xmul m3 8) 140737488355328) <|
 ck (xle m3 140737488355328) <|
 ck (xeq m3 m3) <|
 ck (xeq m3 m3) <|
 ck (xle (xadd 0 (xmul n2 2)) (xln q2)) <|
 ck (xle (xmul n2 16) 140737488355328) <|
 ck (xle n2 140737488355328) <|
 ck (xle (xadd 0 (xmul m2 1)) (xln f2)) <|
 ck (xle (xmul m2 8) 140737488355328) <|
 ck (xle m2 140737488355328) <|
 ck (xeq m2 m2) <|
 ck (xeq m2 m2) <|
 ck (xle (xadd 0 (xmul n1 2)) (xln q1)) <|
 ck (xle (xmul n1 16) 140737488355328) <|
 ck (xle n1 140737488355328) <|
 ck (xle (xadd 0 (xmul m1 1)) (xln f1)) <|
 ck (xle (xmul m1 8) 140737488355328) <|
 ck (xle m1 140737488355328) <|
 ck (xeq m1 m1) <|
 ck (xeq m1 m1) <|
 ck (xle (xadd 0 (xmul n0 2)) (xln q0)) <|
 ck (xle (xmul n0 16) 140737488355328) <|
 ck (xle n0 140737488355328) <|
 ck (xle (xadd 0 (xmul m0 1)) (xln f0)) <|
 ck (xle (xmul m0 8) 140737488355328) <|
 ck (xle m0 140737488355328) <|
 ck (xeq m0 m0) <|
 ck (xeq m0 m0) <|
 K .ret [.ptr 15 0] [sN [.int .i64 most,.slo 1 0 6 0],sC [.slo 13 0 n5 0,.slo 14 0 m5 0,.slo 11 0 n4 0,.slo 12 0 m4 0,.slo 9 0 n3 0,.slo 10 0 m3 0,.slo 7 0 n2 0,.slo 8 0 m2 0,.slo 5 0 n1 0,.slo 6 0 m1 0,.slo 3 0 n0 0,.slo 4 0 m0 0] 2,sD,sC q0 2,sC f0 1,sC q1 2,sC f1 1,sC q2 2,sC f2 1,sC q3 2,sC f3 1,sC q4 2,sC f4 1,sC q5 2,sC f5 1,sN [.int .i64 most,.slo 39 0 6 0],sC (xcut q5 0 (xmul n5 2)) 2,sC (xcut f5 0 (xmul m5 1)) 1,sN [.slo 16 0 n5 0,.slo 17 0 m5 0],sD,sC (xcut q4 0 (xmul n4 2)) 2,sC (xcut f4 0 (xmul m4 1)) 1,sN [.slo 20 0 n4 0,.slo 21 0 m4 0],sD,sC (xcut q3 0 (xmul n3 2)) 2,sC (xcut f3 0 (xmul m3 1)) 1,sN [.slo 24 0 n3 0,.slo 25 0 m3 0],sD,sC (xcut q2 0 (xmul n2 2)) 2,sC (xcut f2 0 (xmul m2 1)) 1,sN [.slo 28 0 n2 0,.slo 29 0 m2 0],sD,sC (xcut q1 0 (xmul n1 2)) 2,sC (xcut f1 0 (xmul m1 1)) 1,sN [.slo 32 0 n1 0,.slo 33 0 m1 0],sD,sC (xcut q0 0 (xmul n0 2)) 2,sC (xcut f0 0 (xmul m0 1)) 1,sN [.slo 36 0 n0 0,.slo 37 0 m0 0],sC [.slo 16 0 n5 0,.slo 17 0 m5 0,.slo 20 0 n4 0,.slo 21 0 m4 0,.slo 24 0 n3 0,.slo 25 0 m3 0,.slo 28 0 n2 0,.slo 29 0 m2 0,.slo 32 0 n1 0,.slo 33 0 m1 0,.slo 36 0 n0 0,.slo 37 0 m0 0] 2] []):=by kernel_rfl
end
end Go.Lev
