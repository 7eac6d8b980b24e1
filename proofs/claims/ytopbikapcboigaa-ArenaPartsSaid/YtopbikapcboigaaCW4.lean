/- chapter 9: the code's levels: Get, Room -/
import Derived.Test.YtopbikapcboigaaCW3
import Derived.Test.YtopbikapcboigaaLc
import Derived.Test.YtopbikapcboigaaChecked
import Derived.KernelRfl
namespace Go.Lev
set_option linter.unusedSimpArgs false
set_option linter.unusedVariables false
open Go.RowKit
open Go.Proofs.Try (prog)
set_option maxRecDepth 100000
noncomputable section
def cxl1:Cx:=cxl [(89,wgetG)]
abbrev lvH1 (most:Int) (n0 m0:Nat) (q0 f0:List LV):List LB:=[.cells [.int .i64 most,.slo 1 0 1 0] none,.cells [.ptr 3 0] (some 1),.dead,.cells [.ptr 4 0,.slo 6 0 m0 0] none,.cells [.int .i64 96,.slo 5 0 n0 0] none,.cells q0 (some 2),.cells f0 (some 1)]
theorem lg_1 (most a:Int) (n0 m0:Nat) (q0 f0:List LV) (K:Pk):(xsp prog cxl1 60 36 ((sp prog 70).drop 0) (tm0 [.ptr 0 0,.int .i64 a]) (mkS (lvH1 most n0 m0 q0 f0)) (vK [4,5] K))=(
 ck (okC q0 n0) <|
 ck (xle n0 1000000) <|
 bif wgB q0 a then(
 K .ret [.int .u64 (wgV q0 a),.bool true] (sN [.int .i64 most,.slo 1 0 1 0]::sC [.ptr 3 0] 1::sD::bL 4 n0 m0 q0 f0 []) [])
 else(
 K .ret [.int .u64 0,.bool false] (sN [.int .i64 most,.slo 1 0 1 0]::sC [.ptr 3 0] 1::sD::bL 4 n0 m0 q0 f0 []) [])):=by kernel_rfl
abbrev lvH2 (most:Int) (n0 m0 n1 m1:Nat) (q0 f0 q1 f1:List LV):List LB:=[.cells [.int .i64 most,.slo 1 0 2 0] none,.cells [.ptr 7 0,.ptr 3 0] (some 1),.dead,.cells [.ptr 4 0,.slo 6 0 m0 0] none,.cells [.int .i64 96,.slo 5 0 n0 0] none,.cells q0 (some 2),.cells f0 (some 1),.cells [.ptr 8 0,.slo 10 0 m1 0] none,.cells [.int .i64 96,.slo 9 0 n1 0] none,.cells q1 (some 2),.cells f1 (some 1)]
theorem lg_2 (most a:Int) (n0 m0 n1 m1:Nat) (q0 f0 q1 f1:List LV) (K:Pk):(xsp prog cxl1 60 36 ((sp prog 70).drop 0) (tm0 [.ptr 0 0,.int .i64 a]) (mkS (lvH2 most n0 m0 n1 m1 q0 f0 q1 f1)) (vK [4,5] K))=(
 ck (okC q0 n0) <|
 ck (xle n0 1000000) <|
 bif wgB q0 a then(
 K .ret [.int .u64 (wgV q0 a),.bool true] (sN [.int .i64 most,.slo 1 0 2 0]::sC [.ptr 7 0,.ptr 3 0] 1::sD::bL 4 n0 m0 q0 f0 (bL 8 n1 m1 q1 f1 [])) [])
 else(
 ck (okC q1 n1) <|
 ck (xle n1 1000000) <|
 bif wgB q1 a then(
 K .ret [.int .u64 (wgV q1 a),.bool true] (sN [.int .i64 most,.slo 1 0 2 0]::sC [.ptr 7 0,.ptr 3 0] 1::sD::bL 4 n0 m0 q0 f0 (bL 8 n1 m1 q1 f1 [])) [])
 else(
 K .ret [.int .u64 0,.bool false] (sN [.int .i64 most,.slo 1 0 2 0]::sC [.ptr 7 0,.ptr 3 0] 1::sD::bL 4 n0 m0 q0 f0 (bL 8 n1 m1 q1 f1 [])) []))):=by kernel_rfl
abbrev lvH3 (most:Int) (n0 m0 n1 m1 n2 m2:Nat) (q0 f0 q1 f1 q2 f2:List LV):List LB:=[.cells [.int .i64 most,.slo 1 0 3 0] none,.cells [.ptr 11 0,.ptr 7 0,.ptr 3 0] (some 1),.dead,.cells [.ptr 4 0,.slo 6 0 m0 0] none,.cells [.int .i64 96,.slo 5 0 n0 0] none,.cells q0 (some 2),.cells f0 (some 1),.cells [.ptr 8 0,.slo 10 0 m1 0] none,.cells [.int .i64 96,.slo 9 0 n1 0] none,.cells q1 (some 2),.cells f1 (some 1),.cells [.ptr 12 0,.slo 14 0 m2 0] none,.cells [.int .i64 96,.slo 13 0 n2 0] none,.cells q2 (some 2),.cells f2 (some 1)]
theorem lg_3 (most a:Int) (n0 m0 n1 m1 n2 m2:Nat) (q0 f0 q1 f1 q2 f2:List LV) (K:Pk):(xsp prog cxl1 60 36 ((sp prog 70).drop 0) (tm0 [.ptr 0 0,.int .i64 a]) (mkS (lvH3 most n0 m0 n1 m1 n2 m2 q0 f0 q1 f1 q2 f2)) (vK [4,5] K))=(
 ck (okC q0 n0) <|
 ck (xle n0 1000000) <|
 bif wgB q0 a then(
 K .ret [.int .u64 (wgV q0 a),.bool true] (sN [.int .i64 most,.slo 1 0 3 0]::sC [.ptr 11 0,.ptr 7 0,.ptr 3 0] 1::sD::bL 4 n0 m0 q0 f0 (bL 8 n1 m1 q1 f1 (bL 12 n2 m2 q2 f2 []))) [])
 else(
 ck (okC q1 n1) <|
 ck (xle n1 1000000) <|
 bif wgB q1 a then(
 K .ret [.int .u64 (wgV q1 a),.bool true] (sN [.int .i64 most,.slo 1 0 3 0]::sC [.ptr 11 0,.ptr 7 0,.ptr 3 0] 1::sD::bL 4 n0 m0 q0 f0 (bL 8 n1 m1 q1 f1 (bL 12 n2 m2 q2 f2 []))) [])
 else(
 ck (okC q2 n2) <|
 ck (xle n2 1000000) <|
 bif wgB q2 a then(
 K .ret [.int .u64 (wgV q2 a),.bool true] (sN [.int .i64 most,.slo 1 0 3 0]::sC [.ptr 11 0,.ptr 7 0,.ptr 3 0] 1::sD::bL 4 n0 m0 q0 f0 (bL 8 n1 m1 q1 f1 (bL 12 n2 m2 q2 f2 []))) [])
 else(
 K .ret [.int .u64 0,.bool false] (sN [.int .i64 most,.slo 1 0 3 0]::sC [.ptr 11 0,.ptr 7 0,.ptr 3 0] 1::sD::bL 4 n0 m0 q0 f0 (bL 8 n1 m1 q1 f1 (bL 12 n2 m2 q2 f2 []))) [])))):=by kernel_rfl
abbrev lvH4 (most:Int) (n0 m0 n1 m1 n2 m2 n3 m3:Nat) (q0 f0 q1 f1 q2 f2 q3 f3:List LV):List LB:=[.cells [.int .i64 most,.slo 1 0 4 0] none,.cells [.ptr 15 0,.ptr 11 0,.ptr 7 0,.ptr 3 0] (some 1),.dead,.cells [.ptr 4 0,.slo 6 0 m0 0] none,.cells [.int .i64 96,.slo 5 0 n0 0] none,.cells q0 (some 2),.cells f0 (some 1),.cells [.ptr 8 0,.slo 10 0 m1 0] none,.cells [.int .i64 96,.slo 9 0 n1 0] none,.cells q1 (some 2),.cells f1 (some 1),.cells [.ptr 12 0,.slo 14 0 m2 0] none,.cells [.int .i64 96,.slo 13 0 n2 0] none,.cells q2 (some 2),.cells f2 (some 1),.cells [.ptr 16 0,.slo 18 0 m3 0] none,.cells [.int .i64 96,.slo 17 0 n3 0] none,.cells q3 (some 2),.cells f3 (some 1)]
theorem lg_4 (most a:Int) (n0 m0 n1 m1 n2 m2 n3 m3:Nat) (q0 f0 q1 f1 q2 f2 q3 f3:List LV) (K:Pk):(xsp prog cxl1 60 36 ((sp prog 70).drop 0) (tm0 [.ptr 0 0,.int .i64 a]) (mkS (lvH4 most n0 m0 n1 m1 n2 m2 n3 m3 q0 f0 q1 f1 q2 f2 q3 f3)) (vK [4,5] K))=(
 ck (okC q0 n0) <|
 ck (xle n0 1000000) <|
 bif wgB q0 a then(
 K .ret [.int .u64 (wgV q0 a),.bool true] (sN [.int .i64 most,.slo 1 0 4 0]::sC [.ptr 15 0,.ptr 11 0,.ptr 7 0,.ptr 3 0] 1::sD::bL 4 n0 m0 q0 f0 (bL 8 n1 m1 q1 f1 (bL 12 n2 m2 q2 f2 (bL 16 n3 m3 q3 f3 [])))) [])
 else(
 ck (okC q1 n1) <|
 ck (xle n1 1000000) <|
 bif wgB q1 a then(
 K .ret [.int .u64 (wgV q1 a),.bool true] (sN [.int .i64 most,.slo 1 0 4 0]::sC [.ptr 15 0,.ptr 11 0,.ptr 7 0,.ptr 3 0] 1::sD::bL 4 n0 m0 q0 f0 (bL 8 n1 m1 q1 f1 (bL 12 n2 m2 q2 f2 (bL 16 n3 m3 q3 f3 [])))) [])
 else(
 ck (okC q2 n2) <|
 ck (xle n2 1000000) <|
 bif wgB q2 a then(
 K .ret [.int .u64 (wgV q2 a),.bool true] (sN [.int .i64 most,.slo 1 0 4 0]::sC [.ptr 15 0,.ptr 11 0,.ptr 7 0,.ptr 3 0] 1::sD::bL 4 n0 m0 q0 f0 (bL 8 n1 m1 q1 f1 (bL 12 n2 m2 q2 f2 (bL 16 n3 m3 q3 f3 [])))) [])
 else(
 ck (okC q3 n3) <|
 ck (xle n3 1000000) <|
 bif wgB q3 a then(
 K .ret [.int .u64 (wgV q3 a),.bool true] (sN [.int .i64 most,.slo 1 0 4 0]::sC [.ptr 15 0,.ptr 11 0,.ptr 7 0,.ptr 3 0] 1::sD::bL 4 n0 m0 q0 f0 (bL 8 n1 m1 q1 f1 (bL 12 n2 m2 q2 f2 (bL 16 n3 m3 q3 f3 [])))) [])
 else(
 K .ret [.int .u64 0,.bool false] (sN [.int .i64 most,.slo 1 0 4 0]::sC [.ptr 15 0,.ptr 11 0,.ptr 7 0,.ptr 3 0] 1::sD::bL 4 n0 m0 q0 f0 (bL 8 n1 m1 q1 f1 (bL 12 n2 m2 q2 f2 (bL 16 n3 m3 q3 f3 [])))) []))))):=by kernel_rfl
abbrev lvH5 (most:Int) (n0 m0 n1 m1 n2 m2 n3 m3 n4 m4:Nat) (q0 f0 q1 f1 q2 f2 q3 f3 q4 f4:List LV):List LB:=[.cells [.int .i64 most,.slo 1 0 5 0] none,.cells [.ptr 19 0,.ptr 15 0,.ptr 11 0,.ptr 7 0,.ptr 3 0] (some 1),.dead,.cells [.ptr 4 0,.slo 6 0 m0 0] none,.cells [.int .i64 96,.slo 5 0 n0 0] none,.cells q0 (some 2),.cells f0 (some 1),.cells [.ptr 8 0,.slo 10 0 m1 0] none,.cells [.int .i64 96,.slo 9 0 n1 0] none,.cells q1 (some 2),.cells f1 (some 1),.cells [.ptr 12 0,.slo 14 0 m2 0] none,.cells [.int .i64 96,.slo 13 0 n2 0] none,.cells q2 (some 2),.cells f2 (some 1),.cells [.ptr 16 0,.slo 18 0 m3 0] none,.cells [.int .i64 96,.slo 17 0 n3 0] none,.cells q3 (some 2),.cells f3 (some 1),.cells [.ptr 20 0,.slo 22 0 m4 0] none,.cells [.int .i64 96,.slo 21 0 n4 0] none,.cells q4 (some 2),.cells f4 (some 1)]
theorem lg_5 (most a:Int) (n0 m0 n1 m1 n2 m2 n3 m3 n4 m4:Nat) (q0 f0 q1 f1 q2 f2 q3 f3 q4 f4:List LV) (K:Pk):(xsp prog cxl1 60 36 ((sp prog 70).drop 0) (tm0 [.ptr 0 0,.int .i64 a]) (mkS (lvH5 most n0 m0 n1 m1 n2 m2 n3 m3 n4 m4 q0 f0 q1 f1 q2 f2 q3 f3 q4 f4)) (vK [4,5] K))=(
 ck (okC q0 n0) <|
 ck (xle n0 1000000) <|
 bif wgB q0 a then(
 K .ret [.int .u64 (wgV q0 a),.bool true] (sN [.int .i64 most,.slo 1 0 5 0]::sC [.ptr 19 0,.ptr 15 0,.ptr 11 0,.ptr 7 0,.ptr 3 0] 1::sD::bL 4 n0 m0 q0 f0 (bL 8 n1 m1 q1 f1 (bL 12 n2 m2 q2 f2 (bL 16 n3 m3 q3 f3 (bL 20 n4 m4 q4 f4 []))))) [])
 else(
 ck (okC q1 n1) <|
 ck (xle n1 1000000) <|
 bif wgB q1 a then(
 K .ret [.int .u64 (wgV q1 a),.bool true] (sN [.int .i64 most,.slo 1 0 5 0]::sC [.ptr 19 0,.ptr 15 0,.ptr 11 0,.ptr 7 0,.ptr 3 0] 1::sD::bL 4 n0 m0 q0 f0 (bL 8 n1 m1 q1 f1 (bL 12 n2 m2 q2 f2 (bL 16 n3 m3 q3 f3 (bL 20 n4 m4 q4 f4 []))))) [])
 else(
 ck (okC q2 n2) <|
 ck (xle n2 1000000) <|
 bif wgB q2 a then(
 K .ret [.int .u64 (wgV q2 a),.bool true] (sN [.int .i64 most,.slo 1 0 5 0]::sC [.ptr 19 0,.ptr 15 0,.ptr 11 0,.ptr 7 0,.ptr 3 0] 1::sD::bL 4 n0 m0 q0 f0 (bL 8 n1 m1 q1 f1 (bL 12 n2 m2 q2 f2 (bL 16 n3 m3 q3 f3 (bL 20 n4 m4 q4 f4 []))))) [])
 else(
 ck (okC q3 n3) <|
 ck (xle n3 1000000) <|
 bif wgB q3 a then(
 K .ret [.int .u64 (wgV q3 a),.bool true] (sN [.int .i64 most,.slo 1 0 5 0]::sC [.ptr 19 0,.ptr 15 0,.ptr 11 0,.ptr 7 0,.ptr 3 0] 1::sD::bL 4 n0 m0 q0 f0 (bL 8 n1 m1 q1 f1 (bL 12 n2 m2 q2 f2 (bL 16 n3 m3 q3 f3 (bL 20 n4 m4 q4 f4 []))))) [])
 else(
 ck (okC q4 n4) <|
 ck (xle n4 1000000) <|
 bif wgB q4 a then(
 K .ret [.int .u64 (wgV q4 a),.bool true] (sN [.int .i64 most,.slo 1 0 5 0]::sC [.ptr 19 0,.ptr 15 0,.ptr 11 0,.ptr 7 0,.ptr 3 0] 1::sD::bL 4 n0 m0 q0 f0 (bL 8 n1 m1 q1 f1 (bL 12 n2 m2 q2 f2 (bL 16 n3 m3 q3 f3 (bL 20 n4 m4 q4 f4 []))))) [])
 else(
 K .ret [.int .u64 0,.bool false] (sN [.int .i64 most,.slo 1 0 5 0]::sC [.ptr 19 0,.ptr 15 0,.ptr 11 0,.ptr 7 0,.ptr 3 0] 1::sD::bL 4 n0 m0 q0 f0 (bL 8 n1 m1 q1 f1 (bL 12 n2 m2 q2 f2 (bL 16 n3 m3 q3 f3 (bL 20 n4 m4 q4 f4 []))))) [])))))):=by kernel_rfl
abbrev lvH6 (most:Int) (n0 m0 n1 m1 n2 m2 n3 m3 n4 m4 n5 m5:Nat) (q0 f0 q1 f1 q2 f2 q3 f3 q4 f4 q5 f5:List LV):List LB:=[.cells [.int .i64 most,.slo 1 0 6 0] none,.cells [.ptr 23 0,.ptr 19 0,.ptr 15 0,.ptr 11 0,.ptr 7 0,.ptr 3 0] (some 1),.dead,.cells [.ptr 4 0,.slo 6 0 m0 0] none,.cells [.int .i64 96,.slo 5 0 n0 0] none,.cells q0 (some 2),.cells f0 (some 1),.cells [.ptr 8 0,.slo 10 0 m1 0] none,.cells [.int .i64 96,.slo 9 0 n1 0] none,.cells q1 (some 2),.cells f1 (some 1),.cells [.ptr 12 0,.slo 14 0 m2 0] none,.cells [.int .i64 96,.slo 13 0 n2 0] none,.cells q2 (some 2),.cells f2 (some 1),.cells [.ptr 16 0,.slo 18 0 m3 0] none,.cells [.int .i64 96,.slo 17 0 n3 0] none,.cells q3 (some 2),.cells f3 (some 1),.cells [.ptr 20 0,.slo 22 0 m4 0] none,.cells [.int .i64 96,.slo 21 0 n4 0] none,.cells q4 (some 2),.cells f4 (some 1),.cells [.ptr 24 0,.slo 26 0 m5 0] none,.cells [.int .i64 96,.slo 25 0 n5 0] none,.cells q5 (some 2),.cells f5 (some 1)]
theorem lg_6 (most a:Int) (n0 m0 n1 m1 n2 m2 n3 m3 n4 m4 n5 m5:Nat) (q0 f0 q1 f1 q2 f2 q3 f3 q4 f4 q5 f5:List LV) (K:Pk):(xsp prog cxl1 60 36 ((sp prog 70).drop 0) (tm0 [.ptr 0 0,.int .i64 a]) (mkS (lvH6 most n0 m0 n1 m1 n2 m2 n3 m3 n4 m4 n5 m5 q0 f0 q1 f1 q2 f2 q3 f3 q4 f4 q5 f5)) (vK [4,5] K))=(
 ck (okC q0 n0) <|
 ck (xle n0 1000000) <|
 bif wgB q0 a then(
 K .ret [.int .u64 (wgV q0 a),.bool true] (sN [.int .i64 most,.slo 1 0 6 0]::sC [.ptr 23 0,.ptr 19 0,.ptr 15 0,.ptr 11 0,.ptr 7 0,.ptr 3 0] 1::sD::bL 4 n0 m0 q0 f0 (bL 8 n1 m1 q1 f1 (bL 12 n2 m2 q2 f2 (bL 16 n3 m3 q3 f3 (bL 20 n4 m4 q4 f4 (bL 24 n5 m5 q5 f5 [])))))) [])
 else(
 ck (okC q1 n1) <|
 ck (xle n1 1000000) <|
 bif wgB q1 a then(
 K .ret [.int .u64 (wgV q1 a),.bool true] (sN [.int .i64 most,.slo 1 0 6 0]::sC [.ptr 23 0,.ptr 19 0,.ptr 15 0,.ptr 11 0,.ptr 7 0,.ptr 3 0] 1::sD::bL 4 n0 m0 q0 f0 (bL 8 n1 m1 q1 f1 (bL 12 n2 m2 q2 f2 (bL 16 n3 m3 q3 f3 (bL 20 n4 m4 q4 f4 (bL 24 n5 m5 q5 f5 [])))))) [])
 else(
 ck (okC q2 n2) <|
 ck (xle n2 1000000) <|
 bif wgB q2 a then(
 K .ret [.int .u64 (wgV q2 a),.bool true] (sN [.int .i64 most,.slo 1 0 6 0]::sC [.ptr 23 0,.ptr 19 0,.ptr 15 0,.ptr 11 0,.ptr 7 0,.ptr 3 0] 1::sD::bL 4 n0 m0 q0 f0 (bL 8 n1 m1 q1 f1 (bL 12 n2 m2 q2 f2 (bL 16 n3 m3 q3 f3 (bL 20 n4 m4 q4 f4 (bL 24 n5 m5 q5 f5 [])))))) [])
 else(
 ck (okC q3 n3) <|
 ck (xle n3 1000000) <|
 bif wgB q3 a then(
 K .ret [.int .u64 (wgV q3 a),.bool true] (sN [.int .i64 most,.slo 1 0 6 0]::sC [.ptr 23 0,.ptr 19 0,.ptr 15 0,.ptr 11 0,.ptr 7 0,.ptr 3 0] 1::sD::bL 4 n0 m0 q0 f0 (bL 8 n1 m1 q1 f1 (bL 12 n2 m2 q2 f2 (bL 16 n3 m3 q3 f3 (bL 20 n4 m4 q4 f4 (bL 24 n5 m5 q5 f5 [])))))) [])
 else(
 ck (okC q4 n4) <|
 ck (xle n4 1000000) <|
 bif wgB q4 a then(
 K .ret [.int .u64 (wgV q4 a),.bool true] (sN [.int .i64 most,.slo 1 0 6 0]::sC [.ptr 23 0,.ptr 19 0,.ptr 15 0,.ptr 11 0,.ptr 7 0,.ptr 3 0] 1::sD::bL 4 n0 m0 q0 f0 (bL 8 n1 m1 q1 f1 (bL 12 n2 m2 q2 f2 (bL 16 n3 m3 q3 f3 (bL 20 n4 m4 q4 f4 (bL 24 n5 m5 q5 f5 [])))))) [])
 else(
 ck (okC q5 n5) <|
 ck (xle n5 1000000) <|
 bif wgB q5 a then(
 K .ret [.int .u64 (wgV q5 a),.bool true] (sN [.int .i64 most,.slo 1 0 6 0]::sC [.ptr 23 0,.ptr 19 0,.ptr 15 0,.ptr 11 0,.ptr 7 0,.ptr 3 0] 1::sD::bL 4 n0 m0 q0 f0 (bL 8 n1 m1 q1 f1 (bL 12 n2 m2 q2 f2 (bL 16 n3 m3 q3 f3 (bL 20 n4 m4 q4 f4 (bL 24 n5 m5 q5 f5 [])))))) [])
 else(
 K .ret [.int .u64 0,.bool false] (sN [.int .i64 most,.slo 1 0 6 0]::sC [.ptr 23 0,.ptr 19 0,.ptr 15 0,.ptr 11 0,.ptr 7 0,.ptr 3 0] 1::sD::bL 4 n0 m0 q0 f0 (bL 8 n1 m1 q1 f1 (bL 12 n2 m2 q2 f2 (bL 16 n3 m3 q3 f3 (bL 20 n4 m4 q4 f4 (bL 24 n5 m5 q5 f5 [])))))) []))))))):=by kernel_rfl
theorem cxl1_ok:CtrOk prog (ctrOf cxl1):=cxl_ok ⟨wgetG_ok,trivial⟩
theorem lget_1 (most a:Int) (x0:Lv) (h:OkLs [x0]):SSp prog 36 ((sp prog 70).drop 0) 3 (tm0 [.ptr 0 0,.int .i64 a]) (mkS (lvU most [x0] [])) (vK [4,5] (endK 3 [4,5] [4,5] [] (lvQ most [x0] [] (.tup [.int .u64 ((getL [x0] a).getD 0),.bool (getL [x0] a).isSome])))):=by
 have hc:=h.c; have hf:=h.f; simp only [totC] at hc; simp only [totF] at hf
 have ok0:=okC_e x0.1 (by omega); have le0:=le_e x0.1 (by omega)
 refine zE cxl1_ok ?_
 show xsp _ _ _ _ _ _ (mkS (at1 (lvH1 most) x0)) _
 rw [lg_1]
 simp only [ok0,le0,wgB,wgV,decC_enc,fB,fV,cond_true]
 cases g0:fndV x0.1 a with
 | some v=>rw [show getL [x0] a=some v by simp only [getL,g0]]; exact lv_end (A:=[]) h trivial own3_nil rfl rfl
 | none =>
   rw [show getL [x0] a=none by simp only [getL,g0]]; exact lv_end (A:=[]) h trivial own3_nil rfl rfl
theorem lget_2 (most a:Int) (x0 x1:Lv) (h:OkLs [x0,x1]):SSp prog 36 ((sp prog 70).drop 0) 3 (tm0 [.ptr 0 0,.int .i64 a]) (mkS (lvU most [x0,x1] [])) (vK [4,5] (endK 3 [4,5] [4,5] [] (lvQ most [x0,x1] [] (.tup [.int .u64 ((getL [x0,x1] a).getD 0),.bool (getL [x0,x1] a).isSome])))):=by
 have hc:=h.c; have hf:=h.f; simp only [totC] at hc; simp only [totF] at hf
 have ok0:=okC_e x0.1 (by omega); have le0:=le_e x0.1 (by omega)
 have ok1:=okC_e x1.1 (by omega); have le1:=le_e x1.1 (by omega)
 refine zE cxl1_ok ?_
 show xsp _ _ _ _ _ _ (mkS (at2 (lvH2 most) x0 x1)) _
 rw [lg_2]
 simp only [ok0,le0,ok1,le1,wgB,wgV,decC_enc,fB,fV,cond_true]
 cases g0:fndV x0.1 a with
 | some v=>rw [show getL [x0,x1] a=some v by simp only [getL,g0]]; exact lv_end (A:=[]) h trivial own3_nil rfl rfl
 | none =>
   cases g1:fndV x1.1 a with
   | some v=>rw [show getL [x0,x1] a=some v by simp only [getL,g0,g1]]; exact lv_end (A:=[]) h trivial own3_nil rfl rfl
   | none =>
     rw [show getL [x0,x1] a=none by simp only [getL,g0,g1]]; exact lv_end (A:=[]) h trivial own3_nil rfl rfl
theorem lget_3 (most a:Int) (x0 x1 x2:Lv) (h:OkLs [x0,x1,x2]):SSp prog 36 ((sp prog 70).drop 0) 3 (tm0 [.ptr 0 0,.int .i64 a]) (mkS (lvU most [x0,x1,x2] [])) (vK [4,5] (endK 3 [4,5] [4,5] [] (lvQ most [x0,x1,x2] [] (.tup [.int .u64 ((getL [x0,x1,x2] a).getD 0),.bool (getL [x0,x1,x2] a).isSome])))):=by
 have hc:=h.c; have hf:=h.f; simp only [totC] at hc; simp only [totF] at hf
 have ok0:=okC_e x0.1 (by omega); have le0:=le_e x0.1 (by omega)
 have ok1:=okC_e x1.1 (by omega); have le1:=le_e x1.1 (by omega)
 have ok2:=okC_e x2.1 (by omega); have le2:=le_e x2.1 (by omega)
 refine zE cxl1_ok ?_
 show xsp _ _ _ _ _ _ (mkS (at3 (lvH3 most) x0 x1 x2)) _
 rw [lg_3]
 simp only [ok0,le0,ok1,le1,ok2,le2,wgB,wgV,decC_enc,fB,fV,cond_true]
 cases g0:fndV x0.1 a with
 | some v=>rw [show getL [x0,x1,x2] a=some v by simp only [getL,g0]]; exact lv_end (A:=[]) h trivial own3_nil rfl rfl
 | none =>
   cases g1:fndV x1.1 a with
   | some v=>rw [show getL [x0,x1,x2] a=some v by simp only [getL,g0,g1]]; exact lv_end (A:=[]) h trivial own3_nil rfl rfl
   | none =>
     cases g2:fndV x2.1 a with
     | some v=>rw [show getL [x0,x1,x2] a=some v by simp only [getL,g0,g1,g2]]; exact lv_end (A:=[]) h trivial own3_nil rfl rfl
     | none =>
       rw [show getL [x0,x1,x2] a=none by simp only [getL,g0,g1,g2]]; exact lv_end (A:=[]) h trivial own3_nil rfl rfl
theorem lget_4 (most a:Int) (x0 x1 x2 x3:Lv) (h:OkLs [x0,x1,x2,x3]):SSp prog 36 ((sp prog 70).drop 0) 3 (tm0 [.ptr 0 0,.int .i64 a]) (mkS (lvU most [x0,x1,x2,x3] [])) (vK [4,5] (endK 3 [4,5] [4,5] [] (lvQ most [x0,x1,x2,x3] [] (.tup [.int .u64 ((getL [x0,x1,x2,x3] a).getD 0),.bool (getL [x0,x1,x2,x3] a).isSome])))):=by
 have hc:=h.c; have hf:=h.f; simp only [totC] at hc; simp only [totF] at hf
 have ok0:=okC_e x0.1 (by omega); have le0:=le_e x0.1 (by omega)
 have ok1:=okC_e x1.1 (by omega); have le1:=le_e x1.1 (by omega)
 have ok2:=okC_e x2.1 (by omega); have le2:=le_e x2.1 (by omega)
 have ok3:=okC_e x3.1 (by omega); have le3:=le_e x3.1 (by omega)
 refine zE cxl1_ok ?_
 show xsp _ _ _ _ _ _ (mkS (at4 (lvH4 most) x0 x1 x2 x3)) _
 rw [lg_4]
 simp only [ok0,le0,ok1,le1,ok2,le2,ok3,le3,wgB,wgV,decC_enc,fB,fV,cond_true]
 cases g0:fndV x0.1 a with
 | some v=>rw [show getL [x0,x1,x2,x3] a=some v by simp only [getL,g0]]; exact lv_end (A:=[]) h trivial own3_nil rfl rfl
 | none =>
   cases g1:fndV x1.1 a with
   | some v=>rw [show getL [x0,x1,x2,x3] a=some v by simp only [getL,g0,g1]]; exact lv_end (A:=[]) h trivial own3_nil rfl rfl
   | none =>
     cases g2:fndV x2.1 a with
     | some v=>rw [show getL [x0,x1,x2,x3] a=some v by simp only [getL,g0,g1,g2]]; exact lv_end (A:=[]) h trivial own3_nil rfl rfl
     | none =>
       cases g3:fndV x3.1 a with
       | some v=>rw [show getL [x0,x1,x2,x3] a=some v by simp only [getL,g0,g1,g2,g3]]; exact lv_end (A:=[]) h trivial own3_nil rfl rfl
       | none =>
         rw [show getL [x0,x1,x2,x3] a=none by simp only [getL,g0,g1,g2,g3]]; exact lv_end (A:=[]) h trivial own3_nil rfl rfl
theorem lget_5 (most a:Int) (x0 x1 x2 x3 x4:Lv) (h:OkLs [x0,x1,x2,x3,x4]):SSp prog 36 ((sp prog 70).drop 0) 3 (tm0 [.ptr 0 0,.int .i64 a]) (mkS (lvU most [x0,x1,x2,x3,x4] [])) (vK [4,5] (endK 3 [4,5] [4,5] [] (lvQ most [x0,x1,x2,x3,x4] [] (.tup [.int .u64 ((getL [x0,x1,x2,x3,x4] a).getD 0),.bool (getL [x0,x1,x2,x3,x4] a).isSome])))):=by
 have hc:=h.c; have hf:=h.f; simp only [totC] at hc; simp only [totF] at hf
 have ok0:=okC_e x0.1 (by omega); have le0:=le_e x0.1 (by omega)
 have ok1:=okC_e x1.1 (by omega); have le1:=le_e x1.1 (by omega)
 have ok2:=okC_e x2.1 (by omega); have le2:=le_e x2.1 (by omega)
 have ok3:=okC_e x3.1 (by omega); have le3:=le_e x3.1 (by omega)
 have ok4:=okC_e x4.1 (by omega); have le4:=le_e x4.1 (by omega)
 refine zE cxl1_ok ?_
 show xsp _ _ _ _ _ _ (mkS (at5 (lvH5 most) x0 x1 x2 x3 x4)) _
 rw [lg_5]
 simp only [ok0,le0,ok1,le1,ok2,le2,ok3,le3,ok4,le4,wgB,wgV,decC_enc,fB,fV,cond_true]
 cases g0:fndV x0.1 a with
 | some v=>rw [show getL [x0,x1,x2,x3,x4] a=some v by simp only [getL,g0]]; exact lv_end (A:=[]) h trivial own3_nil rfl rfl
 | none =>
   cases g1:fndV x1.1 a with
   | some v=>rw [show getL [x0,x1,x2,x3,x4] a=some v by simp only [getL,g0,g1]]; exact lv_end (A:=[]) h trivial own3_nil rfl rfl
   | none =>
     cases g2:fndV x2.1 a with
     | some v=>rw [show getL [x0,x1,x2,x3,x4] a=some v by simp only [getL,g0,g1,g2]]; exact lv_end (A:=[]) h trivial own3_nil rfl rfl
     | none =>
       cases g3:fndV x3.1 a with
       | some v=>rw [show getL [x0,x1,x2,x3,x4] a=some v by simp only [getL,g0,g1,g2,g3]]; exact lv_end (A:=[]) h trivial own3_nil rfl rfl
       | none =>
         cases g4:fndV x4.1 a with
         | some v=>rw [show getL [x0,x1,x2,x3,x4] a=some v by simp only [getL,g0,g1,g2,g3,g4]]; exact lv_end (A:=[]) h trivial own3_nil rfl rfl
         | none =>
           rw [show getL [x0,x1,x2,x3,x4] a=none by simp only [getL,g0,g1,g2,g3,g4]]; exact lv_end (A:=[]) h trivial own3_nil rfl rfl
theorem lget_6 (most a:Int) (x0 x1 x2 x3 x4 x5:Lv) (h:OkLs [x0,x1,x2,x3,x4,x5]):SSp prog 36 ((sp prog 70).drop 0) 3 (tm0 [.ptr 0 0,.int .i64 a]) (mkS (lvU most [x0,x1,x2,x3,x4,x5] [])) (vK [4,5] (endK 3 [4,5] [4,5] [] (lvQ most [x0,x1,x2,x3,x4,x5] [] (.tup [.int .u64 ((getL [x0,x1,x2,x3,x4,x5] a).getD 0),.bool (getL [x0,x1,x2,x3,x4,x5] a).isSome])))):=by
 have hc:=h.c; have hf:=h.f; simp only [totC] at hc; simp only [totF] at hf
 have ok0:=okC_e x0.1 (by omega); have le0:=le_e x0.1 (by omega)
 have ok1:=okC_e x1.1 (by omega); have le1:=le_e x1.1 (by omega)
 have ok2:=okC_e x2.1 (by omega); have le2:=le_e x2.1 (by omega)
 have ok3:=okC_e x3.1 (by omega); have le3:=le_e x3.1 (by omega)
 have ok4:=okC_e x4.1 (by omega); have le4:=le_e x4.1 (by omega)
 have ok5:=okC_e x5.1 (by omega); have le5:=le_e x5.1 (by omega)
 refine zE cxl1_ok ?_
 show xsp _ _ _ _ _ _ (mkS (at6 (lvH6 most) x0 x1 x2 x3 x4 x5)) _
 rw [lg_6]
 simp only [ok0,le0,ok1,le1,ok2,le2,ok3,le3,ok4,le4,ok5,le5,wgB,wgV,decC_enc,fB,fV,cond_true]
 cases g0:fndV x0.1 a with
 | some v=>rw [show getL [x0,x1,x2,x3,x4,x5] a=some v by simp only [getL,g0]]; exact lv_end (A:=[]) h trivial own3_nil rfl rfl
 | none =>
   cases g1:fndV x1.1 a with
   | some v=>rw [show getL [x0,x1,x2,x3,x4,x5] a=some v by simp only [getL,g0,g1]]; exact lv_end (A:=[]) h trivial own3_nil rfl rfl
   | none =>
     cases g2:fndV x2.1 a with
     | some v=>rw [show getL [x0,x1,x2,x3,x4,x5] a=some v by simp only [getL,g0,g1,g2]]; exact lv_end (A:=[]) h trivial own3_nil rfl rfl
     | none =>
       cases g3:fndV x3.1 a with
       | some v=>rw [show getL [x0,x1,x2,x3,x4,x5] a=some v by simp only [getL,g0,g1,g2,g3]]; exact lv_end (A:=[]) h trivial own3_nil rfl rfl
       | none =>
         cases g4:fndV x4.1 a with
         | some v=>rw [show getL [x0,x1,x2,x3,x4,x5] a=some v by simp only [getL,g0,g1,g2,g3,g4]]; exact lv_end (A:=[]) h trivial own3_nil rfl rfl
         | none =>
           cases g5:fndV x5.1 a with
           | some v=>rw [show getL [x0,x1,x2,x3,x4,x5] a=some v by simp only [getL,g0,g1,g2,g3,g4,g5]]; exact lv_end (A:=[]) h trivial own3_nil rfl rfl
           | none =>
             rw [show getL [x0,x1,x2,x3,x4,x5] a=none by simp only [getL,g0,g1,g2,g3,g4,g5]]; exact lv_end (A:=[]) h trivial own3_nil rfl rfl
theorem lget_ok (most a:Int) (ls:List Lv):SFun prog 70 [.ptr 0 0,.int .i64 a] (mkS (lvS most ls.length (encLs ls) [])) fun l t=>l=.tup [.int .u64 ((getL ls a).getD 0),.bool (getL ls a).isSome]∧t=mkS (lvS' most ls.length (encLs ls) []):=by
 refine lv_meth (nt:=36) (L:=[4,5]) (ts:=[4,5]) (by kernel_rfl) rfl rfl (by kernel_rfl) own3_nil (Nat.le_refl _) (fun ρ _=>lw_noid rfl) fun h=>Ls.cases h ?_ ?_ ?_ ?_ ?_ ?_
 ·intro x0 e; subst e; exact lget_1 most a x0 h
 ·intro x0 x1 e; subst e; exact lget_2 most a x0 x1 h
 ·intro x0 x1 x2 e; subst e; exact lget_3 most a x0 x1 x2 h
 ·intro x0 x1 x2 x3 e; subst e; exact lget_4 most a x0 x1 x2 x3 h
 ·intro x0 x1 x2 x3 x4 e; subst e; exact lget_5 most a x0 x1 x2 x3 x4 h
 ·intro x0 x1 x2 x3 x4 x5 e; subst e; exact lget_6 most a x0 x1 x2 x3 x4 x5 h
def lgV (cs:List LV) (a:Int):Int:=(getL (decLs cs) a).getD 0
def lgB (cs:List LV) (a:Int):Bool:=(getL (decLs cs) a).isSome
theorem lget_c (most a:Int) (d:Nat) (cs:List LV) (k1:okR most cs d=true):SFun prog 70 [.ptr 0 0,.int .i64 a] (mkS (lvS most d cs [])) fun l t=>l=.tup [.int .u64 (lgV cs a),.bool (lgB cs a)]∧t=mkS (lvS' most d cs []):=by
 obtain⟨ls,rfl,rfl,h,_⟩:=okR_iff.1 k1
 simp only [lgV,lgB,decLs_enc]
 exact lget_ok most a ls
def lgetG:Gc:=fun args s=>match args,s.g with
 | [.ptr b 0,.int .i64 a],[]=>(match s.h.get b with
   | some (.cells [.int .i64 most,.slo o 0 d 0] none)=>(match s.h.get o with
     | some (.obj F_o cs e)=>(match s.h.get e with
       | some (.dead)=>cond (nodupB [b,o,e]) (match s.lay [b,o,e] [.cells [.int .i64 most,.slo o 0 d 0] none,.obj lvF cs s.n,.dead] [.dead] with
         | some s'=>some ([okR most cs d,isF F_o lvF],.tup [.int .u64 (lgV cs a),.bool (lgB cs a)],s')
         | none=>none) none
       | _=>none)
     | _=>none)
   | _=>none)
 | _,_=>none
theorem lgetG_ok:GOk prog 70 lgetG:=by
 intro args s bs l s' hg hb hfr
 unfold lgetG at hg
 split at hg
 ·rename_i b a hgl
  split at hg
  ·rename_i most o d hb0
   split at hg
   ·rename_i F_o cs e hb1
    split at hg
    ·rename_i  hb2
     cases hbc:nodupB [b,o,e] with
     | false=>rw [hbc] at hg; cases hg
     | true =>
       rw [hbc] at hg
       simp only [cond_true] at hg
       split at hg
       ·rename_i s1 hs1
        simp only [Option.some.injEq,Prod.mk.injEq] at hg
        obtain⟨rfl,rfl,rfl⟩:=hg
        simp only [allT_cons] at hb
        obtain⟨k1,k2,_⟩:=hb
        have e_o:=isF_eq k2
        subst e_o
        refine SFun.lay (bs:=[.cells [.int .i64 most,.slo 1 0 d 0] none,.obj lvF cs 2,.dead]) (args0:=[.ptr 0 0,.int .i64 a]) (bs':=[.cells [.int .i64 most,.slo 1 0 d 0] none,.obj lvF cs 3,.dead,.dead]) (v0:=.tup [.int .u64 (lgV cs a),.bool (lgB cs a)]) hfr hs1 (nodupB_nd hbc)
         ⟨⟨there hfr hb0,_,hb0,by first | exact lb_same rfl | exact lb_cells (lws_cons (lw_int) (lws_cons (lw_slo rfl) lws_nil)) (by simp),fun κ hκ=>lb_cells (lws_cons (lw_int) (lws_cons (lw_slo (hκ 1 o rfl)) lws_nil)) (by simp)⟩,⟨there hfr hb1,_,hb1,lb_obj rfl,fun κ hκ=>lb_obj (hκ 2 e rfl)⟩,⟨there hfr hb2,_,hb2,lb_dead,fun κ hκ=>lb_dead⟩,trivial⟩ (by(exact zTl)) ?_
         fun κ h1 h2=>⟨⟨lb_cells (lws_cons (lw_int) (lws_cons (lw_slo (h1 1 o rfl)) lws_nil)) (by simp),lb_obj (h2 0 (by simp)),lb_dead,lb_dead,trivial⟩,lw_noid rfl⟩
        rw [hgl]; exact(lget_c most a d cs k1)
       ·cases hg
    ·cases hg
   ·cases hg
  ·cases hg
 ·cases hg
end
end Go.Lev
