/- chapter 9: the code's levels: Take, trees -/
import Derived.Test.YtopbikapcboigaaCW5
import Derived.Test.YtopbikapcboigaaLc
import Derived.Test.YtopbikapcboigaaChecked
import Derived.KernelRfl
namespace Go.Lev
set_option linter.unusedSimpArgs false
set_option linter.unusedVariables false
open Go.RowKit
open Go.Proofs.Try (prog)
set_option maxRecDepth 100000
noncomputable section
def cxl2:Cx:=cxl [(89,wgetG),(92,wputG),(86,wnewG),(87,wtakeG)]
abbrev taL:List Nat:=[1,4,5,6,20,21,22]
abbrev taT (p q nc i:Nat):List (Nat×LV):=[(1,.slo 3 0 nc 0),(5,.ptr p 0),(6,.ptr q 0),(20,.slo 3 0 nc 0),(21,.int .i64 nc),(22,.int .i64 i)]
abbrev lvI1 (most:Int) (nc:Nat) (c:List LV) (n0 m0:Nat) (q0 f0:List LV):List LB:=[.cells [.int .i64 most,.slo 1 0 1 0] none,.cells [.ptr 4 0] (some 1),.dead,.cells c (some 2),.cells [.ptr 5 0,.slo 7 0 m0 0] none,.cells [.int .i64 96,.slo 6 0 n0 0] none,.cells q0 (some 2),.cells f0 (some 1)]
abbrev lvJ1 (most:Int) (nc:Nat) (c:List LV) (n0 m0:Nat) (q0 f0:List LV) (R:Int) (k:Nat) (y:List LV):List LB:=[.cells [.int .i64 most,.slo 1 0 1 0] none,.cells [.ptr 4 0] (some 1),.dead,.cells c (some 2),.cells [.ptr 5 0,.slo 7 0 m0 0] none,.cells [.int .i64 96,.slo 6 0 n0 0] none,.cells q0 (some 2),.cells f0 (some 1),.cells [.int .i64 R,.slo 9 0 k 0] none,.cells y (some 2)]
theorem ta_1 (most:Int) (nc:Nat) (c:List LV) (n0 m0:Nat) (q0 f0:List LV) (K:Pk):(xsp prog cxl2 60 47 (seg (sp prog 72) 0 4) (tm0 [.ptr 0 0,.slo 3 0 nc 0]) (mkS (lvI1 most nc c n0 m0 q0 f0)) (vK taL K))=(
 K .normal [.slo 3 0 nc 0,.int .i64 0,.ptr 5 0,.ptr 8 0,.slo 3 0 nc 0,.int .i64 ↑nc,.int .i64 0] (sN [.int .i64 most,.slo 1 0 1 0]::sC [.ptr 4 0] 1::sD::sC c 2::bL 5 n0 m0 q0 f0 [sN [.int .i64 (xmn (xmx (xar .sub .i64 most ↑n0) 0) 96),.slo 9 0 0 0],sC [] 2]) []):=by kernel_rfl
abbrev tb_1_b1 (c:List LV) (R:Int) (i:Nat) (y:List LV):List (Option LB):=[sN [.int .i64 R,.slo 11 0 (wpN R y (asI (nthD c (xix 0 (xnat ↑i) 2))) (asI (nthD c (xadd (xix 0 (xnat ↑i) 2) 1)))) 0],sD,sN [.int .i64 (asI (nthD c (xix 0 (xnat ↑i) 2))),.int .u64 (asI (nthD c (xadd (xix 0 (xnat ↑i) 2) 1)))],sC (wpC R y (asI (nthD c (xix 0 (xnat ↑i) 2))) (asI (nthD c (xadd (xix 0 (xnat ↑i) 2) 1)))) 2]
theorem tb_1 (most:Int) (nc:Nat) (c:List LV) (n0 m0:Nat) (q0 f0:List LV) (R:Int) (k i:Nat) (y:List LV) (K:Pk):(xcode prog cxl2 60 47 (loopOf (nthC (sp prog 72) 4)) (mkTm 47 (taT 5 8 nc i)) (mkS (lvJ1 most nc c n0 m0 q0 f0 R k y)) (vK taL K))=(
 bif xcm .lss ↑i ↑nc then(
 ck (xle (xadd (xnat ↑i) 1) nc) <|
 ck (xle (xadd (xix 0 (xnat ↑i) 2) 2) (xln c)) <|
 ck (isI .i64 (nthD c (xix 0 (xnat ↑i) 2))) <|
 ck (isI .u64 (nthD c (xadd (xix 0 (xnat ↑i) 2) 1))) <|
 ck (okC q0 n0) <|
 ck (xle n0 1000000) <|
 bif wgB q0 (asI (nthD c (xix 0 (xnat ↑i) 2))) then(
 K .normal [.slo 3 0 nc 0,.any,.ptr 5 0,.ptr 8 0,.slo 3 0 nc 0,.int .i64 ↑nc,.int .i64 (xar .add .i64 (↑i) 1)] (sN [.int .i64 most,.slo 1 0 1 0]::sC [.ptr 4 0] 1::sD::sC c 2::bL 5 n0 m0 q0 f0 [sN [.int .i64 R,.slo 9 0 k 0],sC y 2,sN [.int .i64 (asI (nthD c (xix 0 (xnat ↑i) 2))),.int .u64 (asI (nthD c (xadd (xix 0 (xnat ↑i) 2) 1)))]]) [])
 else(
 ck (okC y k) <|
 ck (xle (xadd k 1) 1000000) <|
 bif xcm .neq (wpE R y (asI (nthD c (xix 0 (xnat ↑i) 2)))) 0 then(
 K .ret [.slo 3 0 nc 0,.int .i64 (wpE R y (asI (nthD c (xix 0 (xnat ↑i) 2)))),.ptr 5 0,.ptr 8 0,.slo 3 0 nc 0,.int .i64 ↑nc,.int .i64 ↑i] (sN [.int .i64 most,.slo 1 0 1 0]::sC [.ptr 4 0] 1::sD::sC c 2::bL 5 n0 m0 q0 f0 (tb_1_b1 c R i y)) [])
 else(
 K .normal [.slo 3 0 nc 0,.any,.ptr 5 0,.ptr 8 0,.slo 3 0 nc 0,.int .i64 ↑nc,.int .i64 (xar .add .i64 (↑i) 1)] (sN [.int .i64 most,.slo 1 0 1 0]::sC [.ptr 4 0] 1::sD::sC c 2::bL 5 n0 m0 q0 f0 (tb_1_b1 c R i y)) [])))
 else(
 K (.exit 0) [.slo 3 0 nc 0,.any,.ptr 5 0,.ptr 8 0,.slo 3 0 nc 0,.int .i64 ↑nc,.int .i64 ↑i] (sN [.int .i64 most,.slo 1 0 1 0]::sC [.ptr 4 0] 1::sD::sC c 2::bL 5 n0 m0 q0 f0 [sN [.int .i64 R,.slo 9 0 k 0],sC y 2]) [])):=by kernel_rfl
theorem tz_1 (most:Int) (nc:Nat) (c:List LV) (n0 m0:Nat) (q0 f0:List LV) (R:Int) (k i:Nat) (y:List LV) (K:Pk):(xsp prog cxl2 60 47 ((sp prog 72).drop 5) (mkTm 47 (taT 5 8 nc i)) (mkS (lvJ1 most nc c n0 m0 q0 f0 R k y)) (vK taL K))=(
 ck (okC q0 n0) <|
 ck (okC c nc) <|
 ck (xle (xadd n0 nc) 900000) <|
 K .ret [.slo 3 0 nc 0,.int .i64 (wtE 96 q0 c),.ptr 5 0,.ptr 8 0,.slo 3 0 nc 0,.int .i64 ↑nc,.int .i64 ↑i] [sN [.int .i64 most,.slo 1 0 1 0],sC [.ptr 4 0] 1,sD,sC c 2,sN [.ptr 5 0,.slo 7 0 m0 0],sN [.int .i64 96,.slo 10 0 (wtN 96 q0 c) 0],sD,sC f0 1,sN [.int .i64 R,.slo 9 0 k 0],sC y 2,sC (wtC 96 q0 c) 2] []):=by kernel_rfl
abbrev lvI2 (most:Int) (nc:Nat) (c:List LV) (n0 m0 n1 m1:Nat) (q0 f0 q1 f1:List LV):List LB:=[.cells [.int .i64 most,.slo 1 0 2 0] none,.cells [.ptr 8 0,.ptr 4 0] (some 1),.dead,.cells c (some 2),.cells [.ptr 5 0,.slo 7 0 m0 0] none,.cells [.int .i64 96,.slo 6 0 n0 0] none,.cells q0 (some 2),.cells f0 (some 1),.cells [.ptr 9 0,.slo 11 0 m1 0] none,.cells [.int .i64 96,.slo 10 0 n1 0] none,.cells q1 (some 2),.cells f1 (some 1)]
abbrev lvJ2 (most:Int) (nc:Nat) (c:List LV) (n0 m0 n1 m1:Nat) (q0 f0 q1 f1:List LV) (R:Int) (k:Nat) (y:List LV):List LB:=[.cells [.int .i64 most,.slo 1 0 2 0] none,.cells [.ptr 8 0,.ptr 4 0] (some 1),.dead,.cells c (some 2),.cells [.ptr 5 0,.slo 7 0 m0 0] none,.cells [.int .i64 96,.slo 6 0 n0 0] none,.cells q0 (some 2),.cells f0 (some 1),.cells [.ptr 9 0,.slo 11 0 m1 0] none,.cells [.int .i64 96,.slo 10 0 n1 0] none,.cells q1 (some 2),.cells f1 (some 1),.cells [.int .i64 R,.slo 13 0 k 0] none,.cells y (some 2)]
theorem ta_2 (most:Int) (nc:Nat) (c:List LV) (n0 m0 n1 m1:Nat) (q0 f0 q1 f1:List LV) (K:Pk):(xsp prog cxl2 60 47 (seg (sp prog 72) 0 4) (tm0 [.ptr 0 0,.slo 3 0 nc 0]) (mkS (lvI2 most nc c n0 m0 n1 m1 q0 f0 q1 f1)) (vK taL K))=(
 K .normal [.slo 3 0 nc 0,.int .i64 0,.ptr 5 0,.ptr 12 0,.slo 3 0 nc 0,.int .i64 ↑nc,.int .i64 0] (sN [.int .i64 most,.slo 1 0 2 0]::sC [.ptr 8 0,.ptr 4 0] 1::sD::sC c 2::bL 5 n0 m0 q0 f0 (bL 9 n1 m1 q1 f1 [sN [.int .i64 (xmn (xmx (xar .sub .i64 (xar .sub .i64 most ↑n1) ↑n0) 0) 96),.slo 13 0 0 0],sC [] 2])) []):=by kernel_rfl
abbrev tb_2_b1 (c:List LV) (R:Int) (i:Nat) (y:List LV):List (Option LB):=[sN [.int .i64 R,.slo 15 0 (wpN R y (asI (nthD c (xix 0 (xnat ↑i) 2))) (asI (nthD c (xadd (xix 0 (xnat ↑i) 2) 1)))) 0],sD,sN [.int .i64 (asI (nthD c (xix 0 (xnat ↑i) 2))),.int .u64 (asI (nthD c (xadd (xix 0 (xnat ↑i) 2) 1)))],sC (wpC R y (asI (nthD c (xix 0 (xnat ↑i) 2))) (asI (nthD c (xadd (xix 0 (xnat ↑i) 2) 1)))) 2]
theorem tb_2 (most:Int) (nc:Nat) (c:List LV) (n0 m0 n1 m1:Nat) (q0 f0 q1 f1:List LV) (R:Int) (k i:Nat) (y:List LV) (K:Pk):(xcode prog cxl2 60 47 (loopOf (nthC (sp prog 72) 4)) (mkTm 47 (taT 5 12 nc i)) (mkS (lvJ2 most nc c n0 m0 n1 m1 q0 f0 q1 f1 R k y)) (vK taL K))=(
 bif xcm .lss ↑i ↑nc then(
 ck (xle (xadd (xnat ↑i) 1) nc) <|
 ck (xle (xadd (xix 0 (xnat ↑i) 2) 2) (xln c)) <|
 ck (isI .i64 (nthD c (xix 0 (xnat ↑i) 2))) <|
 ck (isI .u64 (nthD c (xadd (xix 0 (xnat ↑i) 2) 1))) <|
 ck (okC q0 n0) <|
 ck (xle n0 1000000) <|
 bif wgB q0 (asI (nthD c (xix 0 (xnat ↑i) 2))) then(
 K .normal [.slo 3 0 nc 0,.any,.ptr 5 0,.ptr 12 0,.slo 3 0 nc 0,.int .i64 ↑nc,.int .i64 (xar .add .i64 (↑i) 1)] (sN [.int .i64 most,.slo 1 0 2 0]::sC [.ptr 8 0,.ptr 4 0] 1::sD::sC c 2::bL 5 n0 m0 q0 f0 (bL 9 n1 m1 q1 f1 [sN [.int .i64 R,.slo 13 0 k 0],sC y 2,sN [.int .i64 (asI (nthD c (xix 0 (xnat ↑i) 2))),.int .u64 (asI (nthD c (xadd (xix 0 (xnat ↑i) 2) 1)))]])) [])
 else(
 ck (okC y k) <|
 ck (xle (xadd k 1) 1000000) <|
 bif xcm .neq (wpE R y (asI (nthD c (xix 0 (xnat ↑i) 2)))) 0 then(
 K .ret [.slo 3 0 nc 0,.int .i64 (wpE R y (asI (nthD c (xix 0 (xnat ↑i) 2)))),.ptr 5 0,.ptr 12 0,.slo 3 0 nc 0,.int .i64 ↑nc,.int .i64 ↑i] (sN [.int .i64 most,.slo 1 0 2 0]::sC [.ptr 8 0,.ptr 4 0] 1::sD::sC c 2::bL 5 n0 m0 q0 f0 (bL 9 n1 m1 q1 f1 (tb_2_b1 c R i y))) [])
 else(
 K .normal [.slo 3 0 nc 0,.any,.ptr 5 0,.ptr 12 0,.slo 3 0 nc 0,.int .i64 ↑nc,.int .i64 (xar .add .i64 (↑i) 1)] (sN [.int .i64 most,.slo 1 0 2 0]::sC [.ptr 8 0,.ptr 4 0] 1::sD::sC c 2::bL 5 n0 m0 q0 f0 (bL 9 n1 m1 q1 f1 (tb_2_b1 c R i y))) [])))
 else(
 K (.exit 0) [.slo 3 0 nc 0,.any,.ptr 5 0,.ptr 12 0,.slo 3 0 nc 0,.int .i64 ↑nc,.int .i64 ↑i] (sN [.int .i64 most,.slo 1 0 2 0]::sC [.ptr 8 0,.ptr 4 0] 1::sD::sC c 2::bL 5 n0 m0 q0 f0 (bL 9 n1 m1 q1 f1 [sN [.int .i64 R,.slo 13 0 k 0],sC y 2])) [])):=by kernel_rfl
theorem tz_2 (most:Int) (nc:Nat) (c:List LV) (n0 m0 n1 m1:Nat) (q0 f0 q1 f1:List LV) (R:Int) (k i:Nat) (y:List LV) (K:Pk):(xsp prog cxl2 60 47 ((sp prog 72).drop 5) (mkTm 47 (taT 5 12 nc i)) (mkS (lvJ2 most nc c n0 m0 n1 m1 q0 f0 q1 f1 R k y)) (vK taL K))=(
 ck (okC q0 n0) <|
 ck (okC c nc) <|
 ck (xle (xadd n0 nc) 900000) <|
 K .ret [.slo 3 0 nc 0,.int .i64 (wtE 96 q0 c),.ptr 5 0,.ptr 12 0,.slo 3 0 nc 0,.int .i64 ↑nc,.int .i64 ↑i] (sN [.int .i64 most,.slo 1 0 2 0]::sC [.ptr 8 0,.ptr 4 0] 1::sD::sC c 2::sN [.ptr 5 0,.slo 7 0 m0 0]::sN [.int .i64 96,.slo 14 0 (wtN 96 q0 c) 0]::sD::sC f0 1::bL 9 n1 m1 q1 f1 [sN [.int .i64 R,.slo 13 0 k 0],sC y 2,sC (wtC 96 q0 c) 2]) []):=by kernel_rfl
abbrev lvI3 (most:Int) (nc:Nat) (c:List LV) (n0 m0 n1 m1 n2 m2:Nat) (q0 f0 q1 f1 q2 f2:List LV):List LB:=[.cells [.int .i64 most,.slo 1 0 3 0] none,.cells [.ptr 12 0,.ptr 8 0,.ptr 4 0] (some 1),.dead,.cells c (some 2),.cells [.ptr 5 0,.slo 7 0 m0 0] none,.cells [.int .i64 96,.slo 6 0 n0 0] none,.cells q0 (some 2),.cells f0 (some 1),.cells [.ptr 9 0,.slo 11 0 m1 0] none,.cells [.int .i64 96,.slo 10 0 n1 0] none,.cells q1 (some 2),.cells f1 (some 1),.cells [.ptr 13 0,.slo 15 0 m2 0] none,.cells [.int .i64 96,.slo 14 0 n2 0] none,.cells q2 (some 2),.cells f2 (some 1)]
abbrev lvJ3 (most:Int) (nc:Nat) (c:List LV) (n0 m0 n1 m1 n2 m2:Nat) (q0 f0 q1 f1 q2 f2:List LV) (R:Int) (k:Nat) (y:List LV):List LB:=[.cells [.int .i64 most,.slo 1 0 3 0] none,.cells [.ptr 12 0,.ptr 8 0,.ptr 4 0] (some 1),.dead,.cells c (some 2),.cells [.ptr 5 0,.slo 7 0 m0 0] none,.cells [.int .i64 96,.slo 6 0 n0 0] none,.cells q0 (some 2),.cells f0 (some 1),.cells [.ptr 9 0,.slo 11 0 m1 0] none,.cells [.int .i64 96,.slo 10 0 n1 0] none,.cells q1 (some 2),.cells f1 (some 1),.cells [.ptr 13 0,.slo 15 0 m2 0] none,.cells [.int .i64 96,.slo 14 0 n2 0] none,.cells q2 (some 2),.cells f2 (some 1),.cells [.int .i64 R,.slo 17 0 k 0] none,.cells y (some 2)]
theorem ta_3 (most:Int) (nc:Nat) (c:List LV) (n0 m0 n1 m1 n2 m2:Nat) (q0 f0 q1 f1 q2 f2:List LV) (K:Pk):(xsp prog cxl2 60 47 (seg (sp prog 72) 0 4) (tm0 [.ptr 0 0,.slo 3 0 nc 0]) (mkS (lvI3 most nc c n0 m0 n1 m1 n2 m2 q0 f0 q1 f1 q2 f2)) (vK taL K))=(
 K .normal [.slo 3 0 nc 0,.int .i64 0,.ptr 5 0,.ptr 16 0,.slo 3 0 nc 0,.int .i64 ↑nc,.int .i64 0] (sN [.int .i64 most,.slo 1 0 3 0]::sC [.ptr 12 0,.ptr 8 0,.ptr 4 0] 1::sD::sC c 2::bL 5 n0 m0 q0 f0 (bL 9 n1 m1 q1 f1 (bL 13 n2 m2 q2 f2 [sN [.int .i64 (xmn (xmx (xar .sub .i64 (xar .sub .i64 (xar .sub .i64 most ↑n2) ↑n1) ↑n0) 0) 96),.slo 17 0 0 0],sC [] 2]))) []):=by kernel_rfl
abbrev tb_3_b1 (c:List LV) (R:Int) (i:Nat) (y:List LV):List (Option LB):=[sN [.int .i64 R,.slo 19 0 (wpN R y (asI (nthD c (xix 0 (xnat ↑i) 2))) (asI (nthD c (xadd (xix 0 (xnat ↑i) 2) 1)))) 0],sD,sN [.int .i64 (asI (nthD c (xix 0 (xnat ↑i) 2))),.int .u64 (asI (nthD c (xadd (xix 0 (xnat ↑i) 2) 1)))],sC (wpC R y (asI (nthD c (xix 0 (xnat ↑i) 2))) (asI (nthD c (xadd (xix 0 (xnat ↑i) 2) 1)))) 2]
theorem tb_3 (most:Int) (nc:Nat) (c:List LV) (n0 m0 n1 m1 n2 m2:Nat) (q0 f0 q1 f1 q2 f2:List LV) (R:Int) (k i:Nat) (y:List LV) (K:Pk):(xcode prog cxl2 60 47 (loopOf (nthC (sp prog 72) 4)) (mkTm 47 (taT 5 16 nc i)) (mkS (lvJ3 most nc c n0 m0 n1 m1 n2 m2 q0 f0 q1 f1 q2 f2 R k y)) (vK taL K))=(
 bif xcm .lss ↑i ↑nc then(
 ck (xle (xadd (xnat ↑i) 1) nc) <|
 ck (xle (xadd (xix 0 (xnat ↑i) 2) 2) (xln c)) <|
 ck (isI .i64 (nthD c (xix 0 (xnat ↑i) 2))) <|
 ck (isI .u64 (nthD c (xadd (xix 0 (xnat ↑i) 2) 1))) <|
 ck (okC q0 n0) <|
 ck (xle n0 1000000) <|
 bif wgB q0 (asI (nthD c (xix 0 (xnat ↑i) 2))) then(
 K .normal [.slo 3 0 nc 0,.any,.ptr 5 0,.ptr 16 0,.slo 3 0 nc 0,.int .i64 ↑nc,.int .i64 (xar .add .i64 (↑i) 1)] (sN [.int .i64 most,.slo 1 0 3 0]::sC [.ptr 12 0,.ptr 8 0,.ptr 4 0] 1::sD::sC c 2::bL 5 n0 m0 q0 f0 (bL 9 n1 m1 q1 f1 (bL 13 n2 m2 q2 f2 [sN [.int .i64 R,.slo 17 0 k 0],sC y 2,sN [.int .i64 (asI (nthD c (xix 0 (xnat ↑i) 2))),.int .u64 (asI (nthD c (xadd (xix 0 (xnat ↑i) 2) 1)))]]))) [])
 else(
 ck (okC y k) <|
 ck (xle (xadd k 1) 1000000) <|
 bif xcm .neq (wpE R y (asI (nthD c (xix 0 (xnat ↑i) 2)))) 0 then(
 K .ret [.slo 3 0 nc 0,.int .i64 (wpE R y (asI (nthD c (xix 0 (xnat ↑i) 2)))),.ptr 5 0,.ptr 16 0,.slo 3 0 nc 0,.int .i64 ↑nc,.int .i64 ↑i] (sN [.int .i64 most,.slo 1 0 3 0]::sC [.ptr 12 0,.ptr 8 0,.ptr 4 0] 1::sD::sC c 2::bL 5 n0 m0 q0 f0 (bL 9 n1 m1 q1 f1 (bL 13 n2 m2 q2 f2 (tb_3_b1 c R i y)))) [])
 else(
 K .normal [.slo 3 0 nc 0,.any,.ptr 5 0,.ptr 16 0,.slo 3 0 nc 0,.int .i64 ↑nc,.int .i64 (xar .add .i64 (↑i) 1)] (sN [.int .i64 most,.slo 1 0 3 0]::sC [.ptr 12 0,.ptr 8 0,.ptr 4 0] 1::sD::sC c 2::bL 5 n0 m0 q0 f0 (bL 9 n1 m1 q1 f1 (bL 13 n2 m2 q2 f2 (tb_3_b1 c R i y)))) [])))
 else(
 K (.exit 0) [.slo 3 0 nc 0,.any,.ptr 5 0,.ptr 16 0,.slo 3 0 nc 0,.int .i64 ↑nc,.int .i64 ↑i] (sN [.int .i64 most,.slo 1 0 3 0]::sC [.ptr 12 0,.ptr 8 0,.ptr 4 0] 1::sD::sC c 2::bL 5 n0 m0 q0 f0 (bL 9 n1 m1 q1 f1 (bL 13 n2 m2 q2 f2 [sN [.int .i64 R,.slo 17 0 k 0],sC y 2]))) [])):=by kernel_rfl
theorem tz_3 (most:Int) (nc:Nat) (c:List LV) (n0 m0 n1 m1 n2 m2:Nat) (q0 f0 q1 f1 q2 f2:List LV) (R:Int) (k i:Nat) (y:List LV) (K:Pk):(xsp prog cxl2 60 47 ((sp prog 72).drop 5) (mkTm 47 (taT 5 16 nc i)) (mkS (lvJ3 most nc c n0 m0 n1 m1 n2 m2 q0 f0 q1 f1 q2 f2 R k y)) (vK taL K))=(
 ck (okC q0 n0) <|
 ck (okC c nc) <|
 ck (xle (xadd n0 nc) 900000) <|
 K .ret [.slo 3 0 nc 0,.int .i64 (wtE 96 q0 c),.ptr 5 0,.ptr 16 0,.slo 3 0 nc 0,.int .i64 ↑nc,.int .i64 ↑i] (sN [.int .i64 most,.slo 1 0 3 0]::sC [.ptr 12 0,.ptr 8 0,.ptr 4 0] 1::sD::sC c 2::sN [.ptr 5 0,.slo 7 0 m0 0]::sN [.int .i64 96,.slo 18 0 (wtN 96 q0 c) 0]::sD::sC f0 1::bL 9 n1 m1 q1 f1 (bL 13 n2 m2 q2 f2 [sN [.int .i64 R,.slo 17 0 k 0],sC y 2,sC (wtC 96 q0 c) 2])) []):=by kernel_rfl
abbrev lvI4 (most:Int) (nc:Nat) (c:List LV) (n0 m0 n1 m1 n2 m2 n3 m3:Nat) (q0 f0 q1 f1 q2 f2 q3 f3:List LV):List LB:=[.cells [.int .i64 most,.slo 1 0 4 0] none,.cells [.ptr 16 0,.ptr 12 0,.ptr 8 0,.ptr 4 0] (some 1),.dead,.cells c (some 2),.cells [.ptr 5 0,.slo 7 0 m0 0] none,.cells [.int .i64 96,.slo 6 0 n0 0] none,.cells q0 (some 2),.cells f0 (some 1),.cells [.ptr 9 0,.slo 11 0 m1 0] none,.cells [.int .i64 96,.slo 10 0 n1 0] none,.cells q1 (some 2),.cells f1 (some 1),.cells [.ptr 13 0,.slo 15 0 m2 0] none,.cells [.int .i64 96,.slo 14 0 n2 0] none,.cells q2 (some 2),.cells f2 (some 1),.cells [.ptr 17 0,.slo 19 0 m3 0] none,.cells [.int .i64 96,.slo 18 0 n3 0] none,.cells q3 (some 2),.cells f3 (some 1)]
abbrev lvJ4 (most:Int) (nc:Nat) (c:List LV) (n0 m0 n1 m1 n2 m2 n3 m3:Nat) (q0 f0 q1 f1 q2 f2 q3 f3:List LV) (R:Int) (k:Nat) (y:List LV):List LB:=[.cells [.int .i64 most,.slo 1 0 4 0] none,.cells [.ptr 16 0,.ptr 12 0,.ptr 8 0,.ptr 4 0] (some 1),.dead,.cells c (some 2),.cells [.ptr 5 0,.slo 7 0 m0 0] none,.cells [.int .i64 96,.slo 6 0 n0 0] none,.cells q0 (some 2),.cells f0 (some 1),.cells [.ptr 9 0,.slo 11 0 m1 0] none,.cells [.int .i64 96,.slo 10 0 n1 0] none,.cells q1 (some 2),.cells f1 (some 1),.cells [.ptr 13 0,.slo 15 0 m2 0] none,.cells [.int .i64 96,.slo 14 0 n2 0] none,.cells q2 (some 2),.cells f2 (some 1),.cells [.ptr 17 0,.slo 19 0 m3 0] none,.cells [.int .i64 96,.slo 18 0 n3 0] none,.cells q3 (some 2),.cells f3 (some 1),.cells [.int .i64 R,.slo 21 0 k 0] none,.cells y (some 2)]
theorem ta_4 (most:Int) (nc:Nat) (c:List LV) (n0 m0 n1 m1 n2 m2 n3 m3:Nat) (q0 f0 q1 f1 q2 f2 q3 f3:List LV) (K:Pk):(xsp prog cxl2 60 47 (seg (sp prog 72) 0 4) (tm0 [.ptr 0 0,.slo 3 0 nc 0]) (mkS (lvI4 most nc c n0 m0 n1 m1 n2 m2 n3 m3 q0 f0 q1 f1 q2 f2 q3 f3)) (vK taL K))=(
 K .normal [.slo 3 0 nc 0,.int .i64 0,.ptr 5 0,.ptr 20 0,.slo 3 0 nc 0,.int .i64 ↑nc,.int .i64 0] (sN [.int .i64 most,.slo 1 0 4 0]::sC [.ptr 16 0,.ptr 12 0,.ptr 8 0,.ptr 4 0] 1::sD::sC c 2::bL 5 n0 m0 q0 f0 (bL 9 n1 m1 q1 f1 (bL 13 n2 m2 q2 f2 (bL 17 n3 m3 q3 f3 [sN [.int .i64 (xmn (xmx (xar .sub .i64 (xar .sub .i64 (xar .sub .i64 (xar .sub .i64 most ↑n3) ↑n2) ↑n1) ↑n0) 0) 96),.slo 21 0 0 0],sC [] 2])))) []):=by kernel_rfl
abbrev tb_4_b1 (c:List LV) (R:Int) (i:Nat) (y:List LV):List (Option LB):=[sN [.int .i64 R,.slo 23 0 (wpN R y (asI (nthD c (xix 0 (xnat ↑i) 2))) (asI (nthD c (xadd (xix 0 (xnat ↑i) 2) 1)))) 0],sD,sN [.int .i64 (asI (nthD c (xix 0 (xnat ↑i) 2))),.int .u64 (asI (nthD c (xadd (xix 0 (xnat ↑i) 2) 1)))],sC (wpC R y (asI (nthD c (xix 0 (xnat ↑i) 2))) (asI (nthD c (xadd (xix 0 (xnat ↑i) 2) 1)))) 2]
theorem tb_4 (most:Int) (nc:Nat) (c:List LV) (n0 m0 n1 m1 n2 m2 n3 m3:Nat) (q0 f0 q1 f1 q2 f2 q3 f3:List LV) (R:Int) (k i:Nat) (y:List LV) (K:Pk):(xcode prog cxl2 60 47 (loopOf (nthC (sp prog 72) 4)) (mkTm 47 (taT 5 20 nc i)) (mkS (lvJ4 most nc c n0 m0 n1 m1 n2 m2 n3 m3 q0 f0 q1 f1 q2 f2 q3 f3 R k y)) (vK taL K))=(
 bif xcm .lss ↑i ↑nc then(
 ck (xle (xadd (xnat ↑i) 1) nc) <|
 ck (xle (xadd (xix 0 (xnat ↑i) 2) 2) (xln c)) <|
 ck (isI .i64 (nthD c (xix 0 (xnat ↑i) 2))) <|
 ck (isI .u64 (nthD c (xadd (xix 0 (xnat ↑i) 2) 1))) <|
 ck (okC q0 n0) <|
 ck (xle n0 1000000) <|
 bif wgB q0 (asI (nthD c (xix 0 (xnat ↑i) 2))) then(
 K .normal [.slo 3 0 nc 0,.any,.ptr 5 0,.ptr 20 0,.slo 3 0 nc 0,.int .i64 ↑nc,.int .i64 (xar .add .i64 (↑i) 1)] (sN [.int .i64 most,.slo 1 0 4 0]::sC [.ptr 16 0,.ptr 12 0,.ptr 8 0,.ptr 4 0] 1::sD::sC c 2::bL 5 n0 m0 q0 f0 (bL 9 n1 m1 q1 f1 (bL 13 n2 m2 q2 f2 (bL 17 n3 m3 q3 f3 [sN [.int .i64 R,.slo 21 0 k 0],sC y 2,sN [.int .i64 (asI (nthD c (xix 0 (xnat ↑i) 2))),.int .u64 (asI (nthD c (xadd (xix 0 (xnat ↑i) 2) 1)))]])))) [])
 else(
 ck (okC y k) <|
 ck (xle (xadd k 1) 1000000) <|
 bif xcm .neq (wpE R y (asI (nthD c (xix 0 (xnat ↑i) 2)))) 0 then(
 K .ret [.slo 3 0 nc 0,.int .i64 (wpE R y (asI (nthD c (xix 0 (xnat ↑i) 2)))),.ptr 5 0,.ptr 20 0,.slo 3 0 nc 0,.int .i64 ↑nc,.int .i64 ↑i] (sN [.int .i64 most,.slo 1 0 4 0]::sC [.ptr 16 0,.ptr 12 0,.ptr 8 0,.ptr 4 0] 1::sD::sC c 2::bL 5 n0 m0 q0 f0 (bL 9 n1 m1 q1 f1 (bL 13 n2 m2 q2 f2 (bL 17 n3 m3 q3 f3 (tb_4_b1 c R i y))))) [])
 else(
 K .normal [.slo 3 0 nc 0,.any,.ptr 5 0,.ptr 20 0,.slo 3 0 nc 0,.int .i64 ↑nc,.int .i64 (xar .add .i64 (↑i) 1)] (sN [.int .i64 most,.slo 1 0 4 0]::sC [.ptr 16 0,.ptr 12 0,.ptr 8 0,.ptr 4 0] 1::sD::sC c 2::bL 5 n0 m0 q0 f0 (bL 9 n1 m1 q1 f1 (bL 13 n2 m2 q2 f2 (bL 17 n3 m3 q3 f3 (tb_4_b1 c R i y))))) [])))
 else(
 K (.exit 0) [.slo 3 0 nc 0,.any,.ptr 5 0,.ptr 20 0,.slo 3 0 nc 0,.int .i64 ↑nc,.int .i64 ↑i] (sN [.int .i64 most,.slo 1 0 4 0]::sC [.ptr 16 0,.ptr 12 0,.ptr 8 0,.ptr 4 0] 1::sD::sC c 2::bL 5 n0 m0 q0 f0 (bL 9 n1 m1 q1 f1 (bL 13 n2 m2 q2 f2 (bL 17 n3 m3 q3 f3 [sN [.int .i64 R,.slo 21 0 k 0],sC y 2])))) [])):=by kernel_rfl
theorem tz_4 (most:Int) (nc:Nat) (c:List LV) (n0 m0 n1 m1 n2 m2 n3 m3:Nat) (q0 f0 q1 f1 q2 f2 q3 f3:List LV) (R:Int) (k i:Nat) (y:List LV) (K:Pk):(xsp prog cxl2 60 47 ((sp prog 72).drop 5) (mkTm 47 (taT 5 20 nc i)) (mkS (lvJ4 most nc c n0 m0 n1 m1 n2 m2 n3 m3 q0 f0 q1 f1 q2 f2 q3 f3 R k y)) (vK taL K))=(
 ck (okC q0 n0) <|
 ck (okC c nc) <|
 ck (xle (xadd n0 nc) 900000) <|
 K .ret [.slo 3 0 nc 0,.int .i64 (wtE 96 q0 c),.ptr 5 0,.ptr 20 0,.slo 3 0 nc 0,.int .i64 ↑nc,.int .i64 ↑i] (sN [.int .i64 most,.slo 1 0 4 0]::sC [.ptr 16 0,.ptr 12 0,.ptr 8 0,.ptr 4 0] 1::sD::sC c 2::sN [.ptr 5 0,.slo 7 0 m0 0]::sN [.int .i64 96,.slo 22 0 (wtN 96 q0 c) 0]::sD::sC f0 1::bL 9 n1 m1 q1 f1 (bL 13 n2 m2 q2 f2 (bL 17 n3 m3 q3 f3 [sN [.int .i64 R,.slo 21 0 k 0],sC y 2,sC (wtC 96 q0 c) 2]))) []):=by kernel_rfl
abbrev lvI5 (most:Int) (nc:Nat) (c:List LV) (n0 m0 n1 m1 n2 m2 n3 m3 n4 m4:Nat) (q0 f0 q1 f1 q2 f2 q3 f3 q4 f4:List LV):List LB:=[.cells [.int .i64 most,.slo 1 0 5 0] none,.cells [.ptr 20 0,.ptr 16 0,.ptr 12 0,.ptr 8 0,.ptr 4 0] (some 1),.dead,.cells c (some 2),.cells [.ptr 5 0,.slo 7 0 m0 0] none,.cells [.int .i64 96,.slo 6 0 n0 0] none,.cells q0 (some 2),.cells f0 (some 1),.cells [.ptr 9 0,.slo 11 0 m1 0] none,.cells [.int .i64 96,.slo 10 0 n1 0] none,.cells q1 (some 2),.cells f1 (some 1),.cells [.ptr 13 0,.slo 15 0 m2 0] none,.cells [.int .i64 96,.slo 14 0 n2 0] none,.cells q2 (some 2),.cells f2 (some 1),.cells [.ptr 17 0,.slo 19 0 m3 0] none,.cells [.int .i64 96,.slo 18 0 n3 0] none,.cells q3 (some 2),.cells f3 (some 1),.cells [.ptr 21 0,.slo 23 0 m4 0] none,.cells [.int .i64 96,.slo 22 0 n4 0] none,.cells q4 (some 2),.cells f4 (some 1)]
abbrev lvJ5 (most:Int) (nc:Nat) (c:List LV) (n0 m0 n1 m1 n2 m2 n3 m3 n4 m4:Nat) (q0 f0 q1 f1 q2 f2 q3 f3 q4 f4:List LV) (R:Int) (k:Nat) (y:List LV):List LB:=[.cells [.int .i64 most,.slo 1 0 5 0] none,.cells [.ptr 20 0,.ptr 16 0,.ptr 12 0,.ptr 8 0,.ptr 4 0] (some 1),.dead,.cells c (some 2),.cells [.ptr 5 0,.slo 7 0 m0 0] none,.cells [.int .i64 96,.slo 6 0 n0 0] none,.cells q0 (some 2),.cells f0 (some 1),.cells [.ptr 9 0,.slo 11 0 m1 0] none,.cells [.int .i64 96,.slo 10 0 n1 0] none,.cells q1 (some 2),.cells f1 (some 1),.cells [.ptr 13 0,.slo 15 0 m2 0] none,.cells [.int .i64 96,.slo 14 0 n2 0] none,.cells q2 (some 2),.cells f2 (some 1),.cells [.ptr 17 0,.slo 19 0 m3 0] none,.cells [.int .i64 96,.slo 18 0 n3 0] none,.cells q3 (some 2),.cells f3 (some 1),.cells [.ptr 21 0,.slo 23 0 m4 0] none,.cells [.int .i64 96,.slo 22 0 n4 0] none,.cells q4 (some 2),.cells f4 (some 1),.cells [.int .i64 R,.slo 25 0 k 0] none,.cells y (some 2)]
theorem ta_5 (most:Int) (nc:Nat) (c:List LV) (n0 m0 n1 m1 n2 m2 n3 m3 n4 m4:Nat) (q0 f0 q1 f1 q2 f2 q3 f3 q4 f4:List LV) (K:Pk):(xsp prog cxl2 60 47 (seg (sp prog 72) 0 4) (tm0 [.ptr 0 0,.slo 3 0 nc 0]) (mkS (lvI5 most nc c n0 m0 n1 m1 n2 m2 n3 m3 n4 m4 q0 f0 q1 f1 q2 f2 q3 f3 q4 f4)) (vK taL K))=(
 K .normal [.slo 3 0 nc 0,.int .i64 0,.ptr 5 0,.ptr 24 0,.slo 3 0 nc 0,.int .i64 ↑nc,.int .i64 0] (sN [.int .i64 most,.slo 1 0 5 0]::sC [.ptr 20 0,.ptr 16 0,.ptr 12 0,.ptr 8 0,.ptr 4 0] 1::sD::sC c 2::bL 5 n0 m0 q0 f0 (bL 9 n1 m1 q1 f1 (bL 13 n2 m2 q2 f2 (bL 17 n3 m3 q3 f3 (bL 21 n4 m4 q4 f4 [sN [.int .i64 (xmn (xmx (xar .sub .i64 (xar .sub .i64 (xar .sub .i64 (xar .sub .i64 (xar .sub .i64 most ↑n4) ↑n3) ↑n2) ↑n1) ↑n0) 0) 96),.slo 25 0 0 0],sC [] 2]))))) []):=by kernel_rfl
abbrev tb_5_b1 (c:List LV) (R:Int) (i:Nat) (y:List LV):List (Option LB):=[sN [.int .i64 R,.slo 27 0 (wpN R y (asI (nthD c (xix 0 (xnat ↑i) 2))) (asI (nthD c (xadd (xix 0 (xnat ↑i) 2) 1)))) 0],sD,sN [.int .i64 (asI (nthD c (xix 0 (xnat ↑i) 2))),.int .u64 (asI (nthD c (xadd (xix 0 (xnat ↑i) 2) 1)))],sC (wpC R y (asI (nthD c (xix 0 (xnat ↑i) 2))) (asI (nthD c (xadd (xix 0 (xnat ↑i) 2) 1)))) 2]
theorem tb_5 (most:Int) (nc:Nat) (c:List LV) (n0 m0 n1 m1 n2 m2 n3 m3 n4 m4:Nat) (q0 f0 q1 f1 q2 f2 q3 f3 q4 f4:List LV) (R:Int) (k i:Nat) (y:List LV) (K:Pk):(xcode prog cxl2 60 47 (loopOf (nthC (sp prog 72) 4)) (mkTm 47 (taT 5 24 nc i)) (mkS (lvJ5 most nc c n0 m0 n1 m1 n2 m2 n3 m3 n4 m4 q0 f0 q1 f1 q2 f2 q3 f3 q4 f4 R k y)) (vK taL K))=(
 bif xcm .lss ↑i ↑nc then(
 ck (xle (xadd (xnat ↑i) 1) nc) <|
 ck (xle (xadd (xix 0 (xnat ↑i) 2) 2) (xln c)) <|
 ck (isI .i64 (nthD c (xix 0 (xnat ↑i) 2))) <|
 ck (isI .u64 (nthD c (xadd (xix 0 (xnat ↑i) 2) 1))) <|
 ck (okC q0 n0) <|
 ck (xle n0 1000000) <|
 bif wgB q0 (asI (nthD c (xix 0 (xnat ↑i) 2))) then(
 K .normal [.slo 3 0 nc 0,.any,.ptr 5 0,.ptr 24 0,.slo 3 0 nc 0,.int .i64 ↑nc,.int .i64 (xar .add .i64 (↑i) 1)] (sN [.int .i64 most,.slo 1 0 5 0]::sC [.ptr 20 0,.ptr 16 0,.ptr 12 0,.ptr 8 0,.ptr 4 0] 1::sD::sC c 2::bL 5 n0 m0 q0 f0 (bL 9 n1 m1 q1 f1 (bL 13 n2 m2 q2 f2 (bL 17 n3 m3 q3 f3 (bL 21 n4 m4 q4 f4 [sN [.int .i64 R,.slo 25 0 k 0],sC y 2,sN [.int .i64 (asI (nthD c (xix 0 (xnat ↑i) 2))),.int .u64 (asI (nthD c (xadd (xix 0 (xnat ↑i) 2) 1)))]]))))) [])
 else(
 ck (okC y k) <|
 ck (xle (xadd k 1) 1000000) <|
 bif xcm .neq (wpE R y (asI (nthD c (xix 0 (xnat ↑i) 2)))) 0 then(
 K .ret [.slo 3 0 nc 0,.int .i64 (wpE R y (asI (nthD c (xix 0 (xnat ↑i) 2)))),.ptr 5 0,.ptr 24 0,.slo 3 0 nc 0,.int .i64 ↑nc,.int .i64 ↑i] (sN [.int .i64 most,.slo 1 0 5 0]::sC [.ptr 20 0,.ptr 16 0,.ptr 12 0,.ptr 8 0,.ptr 4 0] 1::sD::sC c 2::bL 5 n0 m0 q0 f0 (bL 9 n1 m1 q1 f1 (bL 13 n2 m2 q2 f2 (bL 17 n3 m3 q3 f3 (bL 21 n4 m4 q4 f4 (tb_5_b1 c R i y)))))) [])
 else(
 K .normal [.slo 3 0 nc 0,.any,.ptr 5 0,.ptr 24 0,.slo 3 0 nc 0,.int .i64 ↑nc,.int .i64 (xar .add .i64 (↑i) 1)] (sN [.int .i64 most,.slo 1 0 5 0]::sC [.ptr 20 0,.ptr 16 0,.ptr 12 0,.ptr 8 0,.ptr 4 0] 1::sD::sC c 2::bL 5 n0 m0 q0 f0 (bL 9 n1 m1 q1 f1 (bL 13 n2 m2 q2 f2 (bL 17 n3 m3 q3 f3 (bL 21 n4 m4 q4 f4 (tb_5_b1 c R i y)))))) [])))
 else(
 K (.exit 0) [.slo 3 0 nc 0,.any,.ptr 5 0,.ptr 24 0,.slo 3 0 nc 0,.int .i64 ↑nc,.int .i64 ↑i] (sN [.int .i64 most,.slo 1 0 5 0]::sC [.ptr 20 0,.ptr 16 0,.ptr 12 0,.ptr 8 0,.ptr 4 0] 1::sD::sC c 2::bL 5 n0 m0 q0 f0 (bL 9 n1 m1 q1 f1 (bL 13 n2 m2 q2 f2 (bL 17 n3 m3 q3 f3 (bL 21 n4 m4 q4 f4 [sN [.int .i64 R,.slo 25 0 k 0],sC y 2]))))) [])):=by kernel_rfl
theorem tz_5 (most:Int) (nc:Nat) (c:List LV) (n0 m0 n1 m1 n2 m2 n3 m3 n4 m4:Nat) (q0 f0 q1 f1 q2 f2 q3 f3 q4 f4:List LV) (R:Int) (k i:Nat) (y:List LV) (K:Pk):(xsp prog cxl2 60 47 ((sp prog 72).drop 5) (mkTm 47 (taT 5 24 nc i)) (mkS (lvJ5 most nc c n0 m0 n1 m1 n2 m2 n3 m3 n4 m4 q0 f0 q1 f1 q2 f2 q3 f3 q4 f4 R k y)) (vK taL K))=(
 ck (okC q0 n0) <|
 ck (okC c nc) <|
 ck (xle (xadd n0 nc) 900000) <|
 K .ret [.slo 3 0 nc 0,.int .i64 (wtE 96 q0 c),.ptr 5 0,.ptr 24 0,.slo 3 0 nc 0,.int .i64 ↑nc,.int .i64 ↑i] (sN [.int .i64 most,.slo 1 0 5 0]::sC [.ptr 20 0,.ptr 16 0,.ptr 12 0,.ptr 8 0,.ptr 4 0] 1::sD::sC c 2::sN [.ptr 5 0,.slo 7 0 m0 0]::sN [.int .i64 96,.slo 26 0 (wtN 96 q0 c) 0]::sD::sC f0 1::bL 9 n1 m1 q1 f1 (bL 13 n2 m2 q2 f2 (bL 17 n3 m3 q3 f3 (bL 21 n4 m4 q4 f4 [sN [.int .i64 R,.slo 25 0 k 0],sC y 2,sC (wtC 96 q0 c) 2])))) []):=by kernel_rfl
abbrev lvI6 (most:Int) (nc:Nat) (c:List LV) (n0 m0 n1 m1 n2 m2 n3 m3 n4 m4 n5 m5:Nat) (q0 f0 q1 f1 q2 f2 q3 f3 q4 f4 q5 f5:List LV):List LB:=[.cells [.int .i64 most,.slo 1 0 6 0] none,.cells [.ptr 24 0,.ptr 20 0,.ptr 16 0,.ptr 12 0,.ptr 8 0,.ptr 4 0] (some 1),.dead,.cells c (some 2),.cells [.ptr 5 0,.slo 7 0 m0 0] none,.cells [.int .i64 96,.slo 6 0 n0 0] none,.cells q0 (some 2),.cells f0 (some 1),.cells [.ptr 9 0,.slo 11 0 m1 0] none,.cells [.int .i64 96,.slo 10 0 n1 0] none,.cells q1 (some 2),.cells f1 (some 1),.cells [.ptr 13 0,.slo 15 0 m2 0] none,.cells [.int .i64 96,.slo 14 0 n2 0] none,.cells q2 (some 2),.cells f2 (some 1),.cells [.ptr 17 0,.slo 19 0 m3 0] none,.cells [.int .i64 96,.slo 18 0 n3 0] none,.cells q3 (some 2),.cells f3 (some 1),.cells [.ptr 21 0,.slo 23 0 m4 0] none,.cells [.int .i64 96,.slo 22 0 n4 0] none,.cells q4 (some 2),.cells f4 (some 1),.cells [.ptr 25 0,.slo 27 0 m5 0] none,.cells [.int .i64 96,.slo 26 0 n5 0] none,.cells q5 (some 2),.cells f5 (some 1)]
abbrev lvJ6 (most:Int) (nc:Nat) (c:List LV) (n0 m0 n1 m1 n2 m2 n3 m3 n4 m4 n5 m5:Nat) (q0 f0 q1 f1 q2 f2 q3 f3 q4 f4 q5 f5:List LV) (R:Int) (k:Nat) (y:List LV):List LB:=[.cells [.int .i64 most,.slo 1 0 6 0] none,.cells [.ptr 24 0,.ptr 20 0,.ptr 16 0,.ptr 12 0,.ptr 8 0,.ptr 4 0] (some 1),.dead,.cells c (some 2),.cells [.ptr 5 0,.slo 7 0 m0 0] none,.cells [.int .i64 96,.slo 6 0 n0 0] none,.cells q0 (some 2),.cells f0 (some 1),.cells [.ptr 9 0,.slo 11 0 m1 0] none,.cells [.int .i64 96,.slo 10 0 n1 0] none,.cells q1 (some 2),.cells f1 (some 1),.cells [.ptr 13 0,.slo 15 0 m2 0] none,.cells [.int .i64 96,.slo 14 0 n2 0] none,.cells q2 (some 2),.cells f2 (some 1),.cells [.ptr 17 0,.slo 19 0 m3 0] none,.cells [.int .i64 96,.slo 18 0 n3 0] none,.cells q3 (some 2),.cells f3 (some 1),.cells [.ptr 21 0,.slo 23 0 m4 0] none,.cells [.int .i64 96,.slo 22 0 n4 0] none,.cells q4 (some 2),.cells f4 (some 1),.cells [.ptr 25 0,.slo 27 0 m5 0] none,.cells [.int .i64 96,.slo 26 0 n5 0] none,.cells q5 (some 2),.cells f5 (some 1),.cells [.int .i64 R,.slo 29 0 k 0] none,.cells y (some 2)]
theorem ta_6 (most:Int) (nc:Nat) (c:List LV) (n0 m0 n1 m1 n2 m2 n3 m3 n4 m4 n5 m5:Nat) (q0 f0 q1 f1 q2 f2 q3 f3 q4 f4 q5 f5:List LV) (K:Pk):(xsp prog cxl2 60 47 (seg (sp prog 72) 0 4) (tm0 [.ptr 0 0,.slo 3 0 nc 0]) (mkS (lvI6 most nc c n0 m0 n1 m1 n2 m2 n3 m3 n4 m4 n5 m5 q0 f0 q1 f1 q2 f2 q3 f3 q4 f4 q5 f5)) (vK taL K))=(
 K .normal [.slo 3 0 nc 0,.int .i64 0,.ptr 5 0,.ptr 28 0,.slo 3 0 nc 0,.int .i64 ↑nc,.int .i64 0] (sN [.int .i64 most,.slo 1 0 6 0]::sC [.ptr 24 0,.ptr 20 0,.ptr 16 0,.ptr 12 0,.ptr 8 0,.ptr 4 0] 1::sD::sC c 2::bL 5 n0 m0 q0 f0 (bL 9 n1 m1 q1 f1 (bL 13 n2 m2 q2 f2 (bL 17 n3 m3 q3 f3 (bL 21 n4 m4 q4 f4 (bL 25 n5 m5 q5 f5 [sN [.int .i64 (xmn (xmx (xar .sub .i64 (xar .sub .i64 (xar .sub .i64 (xar .sub .i64 (xar .sub .i64 (xar .sub .i64 most ↑n5) ↑n4) ↑n3) ↑n2) ↑n1) ↑n0) 0) 96),.slo 29 0 0 0],sC [] 2])))))) []):=by kernel_rfl
abbrev tb_6_b1 (c:List LV) (R:Int) (i:Nat) (y:List LV):List (Option LB):=[sN [.int .i64 R,.slo 31 0 (wpN R y (asI (nthD c (xix 0 (xnat ↑i) 2))) (asI (nthD c (xadd (xix 0 (xnat ↑i) 2) 1)))) 0],sD,sN [.int .i64 (asI (nthD c (xix 0 (xnat ↑i) 2))),.int .u64 (asI (nthD c (xadd (xix 0 (xnat ↑i) 2) 1)))],sC (wpC R y (asI (nthD c (xix 0 (xnat ↑i) 2))) (asI (nthD c (xadd (xix 0 (xnat ↑i) 2) 1)))) 2]
theorem tb_6 (most:Int) (nc:Nat) (c:List LV) (n0 m0 n1 m1 n2 m2 n3 m3 n4 m4 n5 m5:Nat) (q0 f0 q1 f1 q2 f2 q3 f3 q4 f4 q5 f5:List LV) (R:Int) (k i:Nat) (y:List LV) (K:Pk):(xcode prog cxl2 60 47 (loopOf (nthC (sp prog 72) 4)) (mkTm 47 (taT 5 28 nc i)) (mkS (lvJ6 most nc c n0 m0 n1 m1 n2 m2 n3 m3 n4 m4 n5 m5 q0 f0 q1 f1 q2 f2 q3 f3 q4 f4 q5 f5 R k y)) (vK taL K))=(
 bif xcm .lss ↑i ↑nc then(
 ck (xle (xadd (xnat ↑i) 1) nc) <|
 ck (xle (xadd (xix 0 (xnat ↑i) 2) 2) (xln c)) <|
 ck (isI .i64 (nthD c (xix 0 (xnat ↑i) 2))) <|
 ck (isI .u64 (nthD c (xadd (xix 0 (xnat ↑i) 2) 1))) <|
 ck (okC q0 n0) <|
 ck (xle n0 1000000) <|
 bif wgB q0 (asI (nthD c (xix 0 (xnat ↑i) 2))) then(
 K .normal [.slo 3 0 nc 0,.any,.ptr 5 0,.ptr 28 0,.slo 3 0 nc 0,.int .i64 ↑nc,.int .i64 (xar .add .i64 (↑i) 1)] (sN [.int .i64 most,.slo 1 0 6 0]::sC [.ptr 24 0,.ptr 20 0,.ptr 16 0,.ptr 12 0,.ptr 8 0,.ptr 4 0] 1::sD::sC c 2::bL 5 n0 m0 q0 f0 (bL 9 n1 m1 q1 f1 (bL 13 n2 m2 q2 f2 (bL 17 n3 m3 q3 f3 (bL 21 n4 m4 q4 f4 (bL 25 n5 m5 q5 f5 [sN [.int .i64 R,.slo 29 0 k 0],sC y 2,sN [.int .i64 (asI (nthD c (xix 0 (xnat ↑i) 2))),.int .u64 (asI (nthD c (xadd (xix 0 (xnat ↑i) 2) 1)))]])))))) [])
 else(
 ck (okC y k) <|
 ck (xle (xadd k 1) 1000000) <|
 bif xcm .neq (wpE R y (asI (nthD c (xix 0 (xnat ↑i) 2)))) 0 then(
 K .ret [.slo 3 0 nc 0,.int .i64 (wpE R y (asI (nthD c (xix 0 (xnat ↑i) 2)))),.ptr 5 0,.ptr 28 0,.slo 3 0 nc 0,.int .i64 ↑nc,.int .i64 ↑i] (sN [.int .i64 most,.slo 1 0 6 0]::sC [.ptr 24 0,.ptr 20 0,.ptr 16 0,.ptr 12 0,.ptr 8 0,.ptr 4 0] 1::sD::sC c 2::bL 5 n0 m0 q0 f0 (bL 9 n1 m1 q1 f1 (bL 13 n2 m2 q2 f2 (bL 17 n3 m3 q3 f3 (bL 21 n4 m4 q4 f4 (bL 25 n5 m5 q5 f5 (tb_6_b1 c R i y))))))) [])
 else(
 K .normal [.slo 3 0 nc 0,.any,.ptr 5 0,.ptr 28 0,.slo 3 0 nc 0,.int .i64 ↑nc,.int .i64 (xar .add .i64 (↑i) 1)] (sN [.int .i64 most,.slo 1 0 6 0]::sC [.ptr 24 0,.ptr 20 0,.ptr 16 0,.ptr 12 0,.ptr 8 0,.ptr 4 0] 1::sD::sC c 2::bL 5 n0 m0 q0 f0 (bL 9 n1 m1 q1 f1 (bL 13 n2 m2 q2 f2 (bL 17 n3 m3 q3 f3 (bL 21 n4 m4 q4 f4 (bL 25 n5 m5 q5 f5 (tb_6_b1 c R i y))))))) [])))
 else(
 K (.exit 0) [.slo 3 0 nc 0,.any,.ptr 5 0,.ptr 28 0,.slo 3 0 nc 0,.int .i64 ↑nc,.int .i64 ↑i] (sN [.int .i64 most,.slo 1 0 6 0]::sC [.ptr 24 0,.ptr 20 0,.ptr 16 0,.ptr 12 0,.ptr 8 0,.ptr 4 0] 1::sD::sC c 2::bL 5 n0 m0 q0 f0 (bL 9 n1 m1 q1 f1 (bL 13 n2 m2 q2 f2 (bL 17 n3 m3 q3 f3 (bL 21 n4 m4 q4 f4 (bL 25 n5 m5 q5 f5 [sN [.int .i64 R,.slo 29 0 k 0],sC y 2])))))) [])):=by kernel_rfl
theorem tz_6 (most:Int) (nc:Nat) (c:List LV) (n0 m0 n1 m1 n2 m2 n3 m3 n4 m4 n5 m5:Nat) (q0 f0 q1 f1 q2 f2 q3 f3 q4 f4 q5 f5:List LV) (R:Int) (k i:Nat) (y:List LV) (K:Pk):(xsp prog cxl2 60 47 ((sp prog 72).drop 5) (mkTm 47 (taT 5 28 nc i)) (mkS (lvJ6 most nc c n0 m0 n1 m1 n2 m2 n3 m3 n4 m4 n5 m5 q0 f0 q1 f1 q2 f2 q3 f3 q4 f4 q5 f5 R k y)) (vK taL K))=(
 ck (okC q0 n0) <|
 ck (okC c nc) <|
 ck (xle (xadd n0 nc) 900000) <|
 K .ret [.slo 3 0 nc 0,.int .i64 (wtE 96 q0 c),.ptr 5 0,.ptr 28 0,.slo 3 0 nc 0,.int .i64 ↑nc,.int .i64 ↑i] (sN [.int .i64 most,.slo 1 0 6 0]::sC [.ptr 24 0,.ptr 20 0,.ptr 16 0,.ptr 12 0,.ptr 8 0,.ptr 4 0] 1::sD::sC c 2::sN [.ptr 5 0,.slo 7 0 m0 0]::sN [.int .i64 96,.slo 30 0 (wtN 96 q0 c) 0]::sD::sC f0 1::bL 9 n1 m1 q1 f1 (bL 13 n2 m2 q2 f2 (bL 17 n3 m3 q3 f3 (bL 21 n4 m4 q4 f4 (bL 25 n5 m5 q5 f5 [sN [.int .i64 R,.slo 29 0 k 0],sC y 2,sC (wtC 96 q0 c) 2]))))) []):=by kernel_rfl
theorem cxl2_ok:CtrOk prog (ctrOf cxl2):=cxl_ok ⟨wgetG_ok,wputG_ok,wnewG_ok,wtakeG_ok,trivial⟩
end
end Go.Lev
