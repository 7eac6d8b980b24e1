/- chapter 11: parted: trees -/
import Derived.Test.YtopbikapcboigaaCQ6
import Derived.Test.YtopbikapcboigaaLc
import Derived.Test.YtopbikapcboigaaChecked
import Derived.KernelRfl
namespace Go.Lev
set_option linter.unusedSimpArgs false
set_option linter.unusedVariables false
open Go.RowKit
open Go.Proofs.Try (prog)
set_option maxRecDepth 100000
noncomputable section
def cxpd:Cx:=cxl [(29,blkG),(31,lsG),(17,sizeG)]
abbrev pdS:List Code:=sp prog 37
abbrev pdL:List Nat:=[0,1,4,5,7,9,10,11,12,13,14,16]
abbrev pdT0 (n m k:Nat) (c:Int):List (Nat×LV):=[(0,.slo 0 0 n 0),(1,.slo 1 0 m 0),(5,.slo 2 0 k 0),(7,.slo 3 0 4 0),(9,.slo 8 0 257 0),(10,.int .i64 c)]
abbrev pdT1 (n m k:Nat) (c:Int) (i:Nat):List (Nat×LV):=[(0,.slo 0 0 n 0),(1,.slo 1 0 m 0),(5,.slo 2 0 k 0),(7,.slo 3 0 4 0),(9,.slo 8 0 257 0),(10,.int .i64 c),(11,.int .i64 i)]
abbrev pdT2 (n m k:Nat) (en nn:Int) (i:Nat):List (Nat×LV):=[(0,.slo 0 0 n 0),(1,.slo 1 0 m 0),(5,.slo 2 0 k 0),(9,.slo 8 0 257 0),(12,.int .i64 en),(13,.int .i64 nn),(14,.int .i64 i)]
abbrev pdT3 (n m:Nat) (en nn:Int) (a:Nat):List (Nat×LV):=[(0,.slo 0 0 n 0),(1,.slo 1 0 m 0),(12,.int .i64 en),(13,.int .i64 nn),(16,.int .i64 a)]
abbrev pdH (wc sc bc:List LV) (n1 n2 n3 n4:Nat) (r1 r2 r3 r4 lc:List LV):List LB:=[.cells wc (some 1),.cells sc (some 1),.cells bc (some 3),.cells [.slo 4 0 n1 0,.slo 5 0 n2 0,.slo 6 0 n3 0,.slo 7 0 n4 0] (some 1),.cells r1 (some 1),.cells r2 (some 1),.cells r3 (some 1),.cells r4 (some 1),.cells lc (some 1)]
abbrev pdB:List Code:=spineL (loopOf (nthC pdS 7))
abbrev pdC:List Code:=spineL (blockIn (nthC pdB 2))
theorem pd_a (n m:Nat) (wc sc:List LV) (K:Pk):(xsp prog cxpd 60 181 (seg pdS 0 7) (tm0 [.slo 0 0 n 0,.slo 1 0 m 0]) (mkS [.cells wc (some 1),.cells sc (some 1)]) (vK pdL K))=(
 ck (okU wc n) <|
 ck (okU wc n) <|
 ck (xle n 100000) <|
 ck (lsS wc) <|
 bif xcm .neq (bkE wc) 0 then(
 K .ret [.slo 0 0 n 0,.slo 1 0 m 0,.bool false,.slo 2 0 (bkN wc) 0,.slo 3 0 4 0,.tup [],.tup [],.tup [],.tup [],.tup [],.tup [],.tup []] [sC wc 1,sC sc 1,sC (bkC wc) 3,sC [.slo 4 0 (lrN1 wc) 0,.slo 5 0 (lrN2 wc) 0,.slo 6 0 (lrN3 wc) 0,.slo 7 0 (lrN4 wc) 0] 1,sC (lrC1 wc) 1,sC (lrC2 wc) 1,sC (lrC3 wc) 1,sC (lrC4 wc) 1] [])
 else(
 K .normal [.slo 0 0 n 0,.slo 1 0 m 0,.bool false,.slo 2 0 (bkN wc) 0,.slo 3 0 4 0,.sl 8 0 257 257,.int .i64 0,.tup [],.tup [],.tup [],.tup [],.tup []] [sC wc 1,sC sc 1,sC (bkC wc) 3,sC [.slo 4 0 (lrN1 wc) 0,.slo 5 0 (lrN2 wc) 0,.slo 6 0 (lrN3 wc) 0,.slo 7 0 (lrN4 wc) 0] 1,sC (lrC1 wc) 1,sC (lrC2 wc) 1,sC (lrC3 wc) 1,sC (lrC4 wc) 1,sN [.bool false,.bool false,.bool false,.bool false,.bool false,.bool false,.bool false,.bool false,.bool false,.bool false,.bool false,.bool false,.bool false,.bool false,.bool false,.bool false,.bool false,.bool false,.bool false,.bool false,.bool false,.bool false,.bool false,.bool false,.bool false,.bool false,.bool false,.bool false,.bool false,.bool false,.bool false,.bool false,.bool false,.bool false,.bool false,.bool false,.bool false,.bool false,.bool false,.bool false,.bool false,.bool false,.bool false,.bool false,.bool false,.bool false,.bool false,.bool false,.bool false,.bool false,.bool false,.bool false,.bool false,.bool false,.bool false,.bool false,.bool false,.bool false,.bool false,.bool false,.bool false,.bool false,.bool false,.bool false,.bool false,.bool false,.bool false,.bool false,.bool false,.bool false,.bool false,.bool false,.bool false,.bool false,.bool false,.bool false,.bool false,.bool false,.bool false,.bool false,.bool false,.bool false,.bool false,.bool false,.bool false,.bool false,.bool false,.bool false,.bool false,.bool false,.bool false,.bool false,.bool false,.bool false,.bool false,.bool false,.bool false,.bool false,.bool false,.bool false,.bool false,.bool false,.bool false,.bool false,.bool false,.bool false,.bool false,.bool false,.bool false,.bool false,.bool false,.bool false,.bool false,.bool false,.bool false,.bool false,.bool false,.bool false,.bool false,.bool false,.bool false,.bool false,.bool false,.bool false,.bool false,.bool false,.bool false,.bool false,.bool false,.bool false,.bool false,.bool false,.bool false,.bool false,.bool false,.bool false,.bool false,.bool false,.bool false,.bool false,.bool false,.bool false,.bool false,.bool false,.bool false,.bool false,.bool false,.bool false,.bool false,.bool false,.bool false,.bool false,.bool false,.bool false,.bool false,.bool false,.bool false,.bool false,.bool false,.bool false,.bool false,.bool false,.bool false,.bool false,.bool false,.bool false,.bool false,.bool false,.bool false,.bool false,.bool false,.bool false,.bool false,.bool false,.bool false,.bool false,.bool false,.bool false,.bool false,.bool false,.bool false,.bool false,.bool false,.bool false,.bool false,.bool false,.bool false,.bool false,.bool false,.bool false,.bool false,.bool false,.bool false,.bool false,.bool false,.bool false,.bool false,.bool false,.bool false,.bool false,.bool false,.bool false,.bool false,.bool false,.bool false,.bool false,.bool false,.bool false,.bool false,.bool false,.bool false,.bool false,.bool false,.bool false,.bool false,.bool false,.bool false,.bool false,.bool false,.bool false,.bool false,.bool false,.bool false,.bool false,.bool false,.bool false,.bool false,.bool false,.bool false,.bool false,.bool false,.bool false,.bool false,.bool false,.bool false,.bool false,.bool false,.bool false,.bool false,.bool false,.bool false,.bool false,.bool false,.bool false,.bool false,.bool false,.bool false,.bool false,.bool false,.bool false,.bool false,.bool false,.bool false,.bool false,.bool false,.bool false,.bool false]] [])):=by kernel_rfl
abbrev pd_b_b1 (wc:List LV) (sc:List LV) (bc:List LV) (n1:Nat) (n2:Nat) (n3:Nat) (n4:Nat) (r1:List LV) (r2:List LV) (r3:List LV) (r4:List LV) (lc:List LV):List (Option LB):=[sC wc 1,sC sc 1,sC bc 3,sC [.slo 4 0 n1 0,.slo 5 0 n2 0,.slo 6 0 n3 0,.slo 7 0 n4 0] 1,sC r1 1,sC r2 1,sC r3 1,sC r4 1,sC lc 1]
theorem pd_b (n m k:Nat) (c:Int) (wc sc bc:List LV) (n1 n2 n3 n4:Nat) (r1 r2 r3 r4 lc:List LV) (K:Pk):(xsp prog cxpd 60 181 (seg pdB 0 2) (mkTm 181 (pdT0 n m k c)) (mkS (pdH wc sc bc n1 n2 n3 n4 r1 r2 r3 r4 lc)) (vK pdL K))=(
 bif xcm .lss c 4 then(
 K .normal [.slo 0 0 n 0,.slo 1 0 m 0,.any,.slo 2 0 k 0,.slo 3 0 4 0,.slo 8 0 257 0,.int .i64 c,.any,.any,.any,.any,.any] (pd_b_b1 wc sc bc n1 n2 n3 n4 r1 r2 r3 r4 lc) [])
 else(
 K (.exit 0) [.slo 0 0 n 0,.slo 1 0 m 0,.any,.slo 2 0 k 0,.slo 3 0 4 0,.slo 8 0 257 0,.int .i64 c,.any,.any,.any,.any,.any] (pd_b_b1 wc sc bc n1 n2 n3 n4 r1 r2 r3 r4 lc) [])):=by kernel_rfl
theorem pd_e (n m k:Nat) (c:Int) (wc sc bc:List LV) (n1 n2 n3 n4:Nat) (r1 r2 r3 r4 lc:List LV) (K:Pk):(xsp prog cxpd 60 181 (seg pdC 0 1) (mkTm 181 (pdT0 n m k c)) (mkS (pdH wc sc bc n1 n2 n3 n4 r1 r2 r3 r4 lc)) (vK pdL K))=(
 K .normal [.slo 0 0 n 0,.slo 1 0 m 0,.any,.slo 2 0 k 0,.slo 3 0 4 0,.slo 8 0 257 0,.int .i64 c,.int .i64 0,.any,.any,.any,.any] [sC wc 1,sC sc 1,sC bc 3,sC [.slo 4 0 n1 0,.slo 5 0 n2 0,.slo 6 0 n3 0,.slo 7 0 n4 0] 1,sC r1 1,sC r2 1,sC r3 1,sC r4 1,sC lc 1] []):=by kernel_rfl
abbrev pd_1_b1 (wc:List LV) (sc:List LV) (bc:List LV) (n1:Nat) (n2:Nat) (n3:Nat) (n4:Nat) (r1:List LV) (r2:List LV) (r3:List LV) (r4:List LV) (lc:List LV):List (Option LB):=[sC wc 1,sC sc 1,sC bc 3,sC [.slo 4 0 n1 0,.slo 5 0 n2 0,.slo 6 0 n3 0,.slo 7 0 n4 0] 1,sC r1 1,sC r2 1,sC r3 1,sC r4 1,sC lc 1]
theorem pd_1 (n m k i:Nat) (wc sc bc:List LV) (n1 n2 n3 n4:Nat) (r1 r2 r3 r4 lc:List LV) (K:Pk):(xcode prog cxpd 60 181 (loopOf (nthC pdC 1)) (mkTm 181 (pdT1 n m k 0 i)) (mkS (pdH wc sc bc n1 n2 n3 n4 r1 r2 r3 r4 lc)) (vK pdL K))=(
 bif xcm .lss ↑i ↑n1 then(
 ck (xle (xadd (xnat ↑i) 1) n1) <|
 ck (xle (xadd (xix 0 (xnat ↑i) 1) 1) (xln r1)) <|
 ck (isI .i64 (nthD r1 (xix 0 (xnat ↑i) 1))) <|
 bif xcm .lss (asI (nthD r1 (xix 0 (xnat ↑i) 1))) 1 then(
 K .ret [.slo 0 0 n 0,.slo 1 0 m 0,.bool false,.slo 2 0 k 0,.slo 3 0 4 0,.slo 8 0 257 0,.int .i64 0,.int .i64 ↑i,.any,.any,.any,.any] (pd_1_b1 wc sc bc n1 n2 n3 n4 r1 r2 r3 r4 lc) [])
 else(
 ck (xle (xadd (xnat ↑i) 1) n1) <|
 ck (xle (xadd (xix 0 (xnat ↑i) 1) 1) (xln r1)) <|
 ck (isI .i64 (nthD r1 (xix 0 (xnat ↑i) 1))) <|
 bif xcm .gtr (asI (nthD r1 (xix 0 (xnat ↑i) 1))) 256 then(
 K .ret [.slo 0 0 n 0,.slo 1 0 m 0,.bool false,.slo 2 0 k 0,.slo 3 0 4 0,.slo 8 0 257 0,.int .i64 0,.int .i64 ↑i,.any,.any,.any,.any] (pd_1_b1 wc sc bc n1 n2 n3 n4 r1 r2 r3 r4 lc) [])
 else(
 ck (xle (xadd (xnat ↑i) 1) n1) <|
 ck (xle (xadd (xix 0 (xnat ↑i) 1) 1) (xln r1)) <|
 ck (isI .i64 (nthD r1 (xix 0 (xnat ↑i) 1))) <|
 ck (xnn (asI (nthD r1 (xix 0 (xnat ↑i) 1)))) <|
 ck (xle (xadd (xnat (asI (nthD r1 (xix 0 (xnat ↑i) 1)))) 1) m) <|
 ck (xle (xadd (xix 0 (xnat (asI (nthD r1 (xix 0 (xnat ↑i) 1)))) 1) 1) (xln sc)) <|
 ck (isI .i64 (nthD sc (xix 0 (xnat (asI (nthD r1 (xix 0 (xnat ↑i) 1)))) 1))) <|
 bif xcm .neq (asI (nthD sc (xix 0 (xnat (asI (nthD r1 (xix 0 (xnat ↑i) 1)))) 1))) 3 then(
 K .ret [.slo 0 0 n 0,.slo 1 0 m 0,.bool false,.slo 2 0 k 0,.slo 3 0 4 0,.slo 8 0 257 0,.int .i64 0,.int .i64 ↑i,.any,.any,.any,.any] (pd_1_b1 wc sc bc n1 n2 n3 n4 r1 r2 r3 r4 lc) [])
 else(
 ck (xle (xadd (xnat ↑i) 1) n1) <|
 ck (xle (xadd (xix 0 (xnat ↑i) 1) 1) (xln r1)) <|
 ck (isI .i64 (nthD r1 (xix 0 (xnat ↑i) 1))) <|
 ck (xnn (asI (nthD r1 (xix 0 (xnat ↑i) 1)))) <|
 ck (xle (xadd (xnat (asI (nthD r1 (xix 0 (xnat ↑i) 1)))) 1) 257) <|
 ck (xle (xadd (xix 0 (xnat (asI (nthD r1 (xix 0 (xnat ↑i) 1)))) 1) 1) (xln lc)) <|
 K .normal [.slo 0 0 n 0,.slo 1 0 m 0,.any,.slo 2 0 k 0,.slo 3 0 4 0,.slo 8 0 257 0,.int .i64 0,.int .i64 (xar .add .i64 (↑i) 1),.any,.any,.any,.any] [sC wc 1,sC sc 1,sC bc 3,sC [.slo 4 0 n1 0,.slo 5 0 n2 0,.slo 6 0 n3 0,.slo 7 0 n4 0] 1,sC r1 1,sC r2 1,sC r3 1,sC r4 1,sC (xlay lc (xix 0 (xnat (asI (nthD r1 (xix 0 (xnat ↑i) 1)))) 1) [.bool true]) 1] []))))
 else(
 K (.exit 2) [.slo 0 0 n 0,.slo 1 0 m 0,.any,.slo 2 0 k 0,.slo 3 0 4 0,.slo 8 0 257 0,.int .i64 0,.int .i64 ↑i,.any,.any,.any,.any] (pd_1_b1 wc sc bc n1 n2 n3 n4 r1 r2 r3 r4 lc) [])):=by kernel_rfl
abbrev pd_2_b1 (wc:List LV) (sc:List LV) (bc:List LV) (n1:Nat) (n2:Nat) (n3:Nat) (n4:Nat) (r1:List LV) (r2:List LV) (r3:List LV) (r4:List LV) (lc:List LV):List (Option LB):=[sC wc 1,sC sc 1,sC bc 3,sC [.slo 4 0 n1 0,.slo 5 0 n2 0,.slo 6 0 n3 0,.slo 7 0 n4 0] 1,sC r1 1,sC r2 1,sC r3 1,sC r4 1,sC lc 1]
theorem pd_2 (n m k i:Nat) (wc sc bc:List LV) (n1 n2 n3 n4:Nat) (r1 r2 r3 r4 lc:List LV) (K:Pk):(xcode prog cxpd 60 181 (loopOf (nthC pdC 1)) (mkTm 181 (pdT1 n m k 1 i)) (mkS (pdH wc sc bc n1 n2 n3 n4 r1 r2 r3 r4 lc)) (vK pdL K))=(
 bif xcm .lss ↑i ↑n2 then(
 ck (xle (xadd (xnat ↑i) 1) n2) <|
 ck (xle (xadd (xix 0 (xnat ↑i) 1) 1) (xln r2)) <|
 ck (isI .i64 (nthD r2 (xix 0 (xnat ↑i) 1))) <|
 bif xcm .lss (asI (nthD r2 (xix 0 (xnat ↑i) 1))) 1 then(
 K .ret [.slo 0 0 n 0,.slo 1 0 m 0,.bool false,.slo 2 0 k 0,.slo 3 0 4 0,.slo 8 0 257 0,.int .i64 1,.int .i64 ↑i,.any,.any,.any,.any] (pd_2_b1 wc sc bc n1 n2 n3 n4 r1 r2 r3 r4 lc) [])
 else(
 ck (xle (xadd (xnat ↑i) 1) n2) <|
 ck (xle (xadd (xix 0 (xnat ↑i) 1) 1) (xln r2)) <|
 ck (isI .i64 (nthD r2 (xix 0 (xnat ↑i) 1))) <|
 bif xcm .gtr (asI (nthD r2 (xix 0 (xnat ↑i) 1))) 256 then(
 K .ret [.slo 0 0 n 0,.slo 1 0 m 0,.bool false,.slo 2 0 k 0,.slo 3 0 4 0,.slo 8 0 257 0,.int .i64 1,.int .i64 ↑i,.any,.any,.any,.any] (pd_2_b1 wc sc bc n1 n2 n3 n4 r1 r2 r3 r4 lc) [])
 else(
 ck (xle (xadd (xnat ↑i) 1) n2) <|
 ck (xle (xadd (xix 0 (xnat ↑i) 1) 1) (xln r2)) <|
 ck (isI .i64 (nthD r2 (xix 0 (xnat ↑i) 1))) <|
 ck (xnn (asI (nthD r2 (xix 0 (xnat ↑i) 1)))) <|
 ck (xle (xadd (xnat (asI (nthD r2 (xix 0 (xnat ↑i) 1)))) 1) m) <|
 ck (xle (xadd (xix 0 (xnat (asI (nthD r2 (xix 0 (xnat ↑i) 1)))) 1) 1) (xln sc)) <|
 ck (isI .i64 (nthD sc (xix 0 (xnat (asI (nthD r2 (xix 0 (xnat ↑i) 1)))) 1))) <|
 bif xcm .neq (asI (nthD sc (xix 0 (xnat (asI (nthD r2 (xix 0 (xnat ↑i) 1)))) 1))) 3 then(
 K .ret [.slo 0 0 n 0,.slo 1 0 m 0,.bool false,.slo 2 0 k 0,.slo 3 0 4 0,.slo 8 0 257 0,.int .i64 1,.int .i64 ↑i,.any,.any,.any,.any] (pd_2_b1 wc sc bc n1 n2 n3 n4 r1 r2 r3 r4 lc) [])
 else(
 ck (xle (xadd (xnat ↑i) 1) n2) <|
 ck (xle (xadd (xix 0 (xnat ↑i) 1) 1) (xln r2)) <|
 ck (isI .i64 (nthD r2 (xix 0 (xnat ↑i) 1))) <|
 ck (xnn (asI (nthD r2 (xix 0 (xnat ↑i) 1)))) <|
 ck (xle (xadd (xnat (asI (nthD r2 (xix 0 (xnat ↑i) 1)))) 1) 257) <|
 ck (xle (xadd (xix 0 (xnat (asI (nthD r2 (xix 0 (xnat ↑i) 1)))) 1) 1) (xln lc)) <|
 K .normal [.slo 0 0 n 0,.slo 1 0 m 0,.any,.slo 2 0 k 0,.slo 3 0 4 0,.slo 8 0 257 0,.int .i64 1,.int .i64 (xar .add .i64 (↑i) 1),.any,.any,.any,.any] [sC wc 1,sC sc 1,sC bc 3,sC [.slo 4 0 n1 0,.slo 5 0 n2 0,.slo 6 0 n3 0,.slo 7 0 n4 0] 1,sC r1 1,sC r2 1,sC r3 1,sC r4 1,sC (xlay lc (xix 0 (xnat (asI (nthD r2 (xix 0 (xnat ↑i) 1)))) 1) [.bool true]) 1] []))))
 else(
 K (.exit 2) [.slo 0 0 n 0,.slo 1 0 m 0,.any,.slo 2 0 k 0,.slo 3 0 4 0,.slo 8 0 257 0,.int .i64 1,.int .i64 ↑i,.any,.any,.any,.any] (pd_2_b1 wc sc bc n1 n2 n3 n4 r1 r2 r3 r4 lc) [])):=by kernel_rfl
abbrev pd_3_b1 (wc:List LV) (sc:List LV) (bc:List LV) (n1:Nat) (n2:Nat) (n3:Nat) (n4:Nat) (r1:List LV) (r2:List LV) (r3:List LV) (r4:List LV) (lc:List LV):List (Option LB):=[sC wc 1,sC sc 1,sC bc 3,sC [.slo 4 0 n1 0,.slo 5 0 n2 0,.slo 6 0 n3 0,.slo 7 0 n4 0] 1,sC r1 1,sC r2 1,sC r3 1,sC r4 1,sC lc 1]
theorem pd_3 (n m k i:Nat) (wc sc bc:List LV) (n1 n2 n3 n4:Nat) (r1 r2 r3 r4 lc:List LV) (K:Pk):(xcode prog cxpd 60 181 (loopOf (nthC pdC 1)) (mkTm 181 (pdT1 n m k 2 i)) (mkS (pdH wc sc bc n1 n2 n3 n4 r1 r2 r3 r4 lc)) (vK pdL K))=(
 bif xcm .lss ↑i ↑n3 then(
 ck (xle (xadd (xnat ↑i) 1) n3) <|
 ck (xle (xadd (xix 0 (xnat ↑i) 1) 1) (xln r3)) <|
 ck (isI .i64 (nthD r3 (xix 0 (xnat ↑i) 1))) <|
 bif xcm .lss (asI (nthD r3 (xix 0 (xnat ↑i) 1))) 1 then(
 K .ret [.slo 0 0 n 0,.slo 1 0 m 0,.bool false,.slo 2 0 k 0,.slo 3 0 4 0,.slo 8 0 257 0,.int .i64 2,.int .i64 ↑i,.any,.any,.any,.any] (pd_3_b1 wc sc bc n1 n2 n3 n4 r1 r2 r3 r4 lc) [])
 else(
 ck (xle (xadd (xnat ↑i) 1) n3) <|
 ck (xle (xadd (xix 0 (xnat ↑i) 1) 1) (xln r3)) <|
 ck (isI .i64 (nthD r3 (xix 0 (xnat ↑i) 1))) <|
 bif xcm .gtr (asI (nthD r3 (xix 0 (xnat ↑i) 1))) 256 then(
 K .ret [.slo 0 0 n 0,.slo 1 0 m 0,.bool false,.slo 2 0 k 0,.slo 3 0 4 0,.slo 8 0 257 0,.int .i64 2,.int .i64 ↑i,.any,.any,.any,.any] (pd_3_b1 wc sc bc n1 n2 n3 n4 r1 r2 r3 r4 lc) [])
 else(
 ck (xle (xadd (xnat ↑i) 1) n3) <|
 ck (xle (xadd (xix 0 (xnat ↑i) 1) 1) (xln r3)) <|
 ck (isI .i64 (nthD r3 (xix 0 (xnat ↑i) 1))) <|
 ck (xnn (asI (nthD r3 (xix 0 (xnat ↑i) 1)))) <|
 ck (xle (xadd (xnat (asI (nthD r3 (xix 0 (xnat ↑i) 1)))) 1) m) <|
 ck (xle (xadd (xix 0 (xnat (asI (nthD r3 (xix 0 (xnat ↑i) 1)))) 1) 1) (xln sc)) <|
 ck (isI .i64 (nthD sc (xix 0 (xnat (asI (nthD r3 (xix 0 (xnat ↑i) 1)))) 1))) <|
 bif xcm .neq (asI (nthD sc (xix 0 (xnat (asI (nthD r3 (xix 0 (xnat ↑i) 1)))) 1))) 3 then(
 K .ret [.slo 0 0 n 0,.slo 1 0 m 0,.bool false,.slo 2 0 k 0,.slo 3 0 4 0,.slo 8 0 257 0,.int .i64 2,.int .i64 ↑i,.any,.any,.any,.any] (pd_3_b1 wc sc bc n1 n2 n3 n4 r1 r2 r3 r4 lc) [])
 else(
 ck (xle (xadd (xnat ↑i) 1) n3) <|
 ck (xle (xadd (xix 0 (xnat ↑i) 1) 1) (xln r3)) <|
 ck (isI .i64 (nthD r3 (xix 0 (xnat ↑i) 1))) <|
 ck (xnn (asI (nthD r3 (xix 0 (xnat ↑i) 1)))) <|
 ck (xle (xadd (xnat (asI (nthD r3 (xix 0 (xnat ↑i) 1)))) 1) 257) <|
 ck (xle (xadd (xix 0 (xnat (asI (nthD r3 (xix 0 (xnat ↑i) 1)))) 1) 1) (xln lc)) <|
 K .normal [.slo 0 0 n 0,.slo 1 0 m 0,.any,.slo 2 0 k 0,.slo 3 0 4 0,.slo 8 0 257 0,.int .i64 2,.int .i64 (xar .add .i64 (↑i) 1),.any,.any,.any,.any] [sC wc 1,sC sc 1,sC bc 3,sC [.slo 4 0 n1 0,.slo 5 0 n2 0,.slo 6 0 n3 0,.slo 7 0 n4 0] 1,sC r1 1,sC r2 1,sC r3 1,sC r4 1,sC (xlay lc (xix 0 (xnat (asI (nthD r3 (xix 0 (xnat ↑i) 1)))) 1) [.bool true]) 1] []))))
 else(
 K (.exit 2) [.slo 0 0 n 0,.slo 1 0 m 0,.any,.slo 2 0 k 0,.slo 3 0 4 0,.slo 8 0 257 0,.int .i64 2,.int .i64 ↑i,.any,.any,.any,.any] (pd_3_b1 wc sc bc n1 n2 n3 n4 r1 r2 r3 r4 lc) [])):=by kernel_rfl
abbrev pd_4_b1 (wc:List LV) (sc:List LV) (bc:List LV) (n1:Nat) (n2:Nat) (n3:Nat) (n4:Nat) (r1:List LV) (r2:List LV) (r3:List LV) (r4:List LV) (lc:List LV):List (Option LB):=[sC wc 1,sC sc 1,sC bc 3,sC [.slo 4 0 n1 0,.slo 5 0 n2 0,.slo 6 0 n3 0,.slo 7 0 n4 0] 1,sC r1 1,sC r2 1,sC r3 1,sC r4 1,sC lc 1]
theorem pd_4 (n m k i:Nat) (wc sc bc:List LV) (n1 n2 n3 n4:Nat) (r1 r2 r3 r4 lc:List LV) (K:Pk):(xcode prog cxpd 60 181 (loopOf (nthC pdC 1)) (mkTm 181 (pdT1 n m k 3 i)) (mkS (pdH wc sc bc n1 n2 n3 n4 r1 r2 r3 r4 lc)) (vK pdL K))=(
 bif xcm .lss ↑i ↑n4 then(
 ck (xle (xadd (xnat ↑i) 1) n4) <|
 ck (xle (xadd (xix 0 (xnat ↑i) 1) 1) (xln r4)) <|
 ck (isI .i64 (nthD r4 (xix 0 (xnat ↑i) 1))) <|
 bif xcm .lss (asI (nthD r4 (xix 0 (xnat ↑i) 1))) 1 then(
 K .ret [.slo 0 0 n 0,.slo 1 0 m 0,.bool false,.slo 2 0 k 0,.slo 3 0 4 0,.slo 8 0 257 0,.int .i64 3,.int .i64 ↑i,.any,.any,.any,.any] (pd_4_b1 wc sc bc n1 n2 n3 n4 r1 r2 r3 r4 lc) [])
 else(
 ck (xle (xadd (xnat ↑i) 1) n4) <|
 ck (xle (xadd (xix 0 (xnat ↑i) 1) 1) (xln r4)) <|
 ck (isI .i64 (nthD r4 (xix 0 (xnat ↑i) 1))) <|
 bif xcm .gtr (asI (nthD r4 (xix 0 (xnat ↑i) 1))) 256 then(
 K .ret [.slo 0 0 n 0,.slo 1 0 m 0,.bool false,.slo 2 0 k 0,.slo 3 0 4 0,.slo 8 0 257 0,.int .i64 3,.int .i64 ↑i,.any,.any,.any,.any] (pd_4_b1 wc sc bc n1 n2 n3 n4 r1 r2 r3 r4 lc) [])
 else(
 ck (xle (xadd (xnat ↑i) 1) n4) <|
 ck (xle (xadd (xix 0 (xnat ↑i) 1) 1) (xln r4)) <|
 ck (isI .i64 (nthD r4 (xix 0 (xnat ↑i) 1))) <|
 ck (xnn (asI (nthD r4 (xix 0 (xnat ↑i) 1)))) <|
 ck (xle (xadd (xnat (asI (nthD r4 (xix 0 (xnat ↑i) 1)))) 1) m) <|
 ck (xle (xadd (xix 0 (xnat (asI (nthD r4 (xix 0 (xnat ↑i) 1)))) 1) 1) (xln sc)) <|
 ck (isI .i64 (nthD sc (xix 0 (xnat (asI (nthD r4 (xix 0 (xnat ↑i) 1)))) 1))) <|
 bif xcm .neq (asI (nthD sc (xix 0 (xnat (asI (nthD r4 (xix 0 (xnat ↑i) 1)))) 1))) 3 then(
 K .ret [.slo 0 0 n 0,.slo 1 0 m 0,.bool false,.slo 2 0 k 0,.slo 3 0 4 0,.slo 8 0 257 0,.int .i64 3,.int .i64 ↑i,.any,.any,.any,.any] (pd_4_b1 wc sc bc n1 n2 n3 n4 r1 r2 r3 r4 lc) [])
 else(
 ck (xle (xadd (xnat ↑i) 1) n4) <|
 ck (xle (xadd (xix 0 (xnat ↑i) 1) 1) (xln r4)) <|
 ck (isI .i64 (nthD r4 (xix 0 (xnat ↑i) 1))) <|
 ck (xnn (asI (nthD r4 (xix 0 (xnat ↑i) 1)))) <|
 ck (xle (xadd (xnat (asI (nthD r4 (xix 0 (xnat ↑i) 1)))) 1) 257) <|
 ck (xle (xadd (xix 0 (xnat (asI (nthD r4 (xix 0 (xnat ↑i) 1)))) 1) 1) (xln lc)) <|
 K .normal [.slo 0 0 n 0,.slo 1 0 m 0,.any,.slo 2 0 k 0,.slo 3 0 4 0,.slo 8 0 257 0,.int .i64 3,.int .i64 (xar .add .i64 (↑i) 1),.any,.any,.any,.any] [sC wc 1,sC sc 1,sC bc 3,sC [.slo 4 0 n1 0,.slo 5 0 n2 0,.slo 6 0 n3 0,.slo 7 0 n4 0] 1,sC r1 1,sC r2 1,sC r3 1,sC r4 1,sC (xlay lc (xix 0 (xnat (asI (nthD r4 (xix 0 (xnat ↑i) 1)))) 1) [.bool true]) 1] []))))
 else(
 K (.exit 2) [.slo 0 0 n 0,.slo 1 0 m 0,.any,.slo 2 0 k 0,.slo 3 0 4 0,.slo 8 0 257 0,.int .i64 3,.int .i64 ↑i,.any,.any,.any,.any] (pd_4_b1 wc sc bc n1 n2 n3 n4 r1 r2 r3 r4 lc) [])):=by kernel_rfl
theorem pd_f (n m k:Nat) (c:Int) (wc sc bc:List LV) (n1 n2 n3 n4:Nat) (r1 r2 r3 r4 lc:List LV) (K:Pk):(xsp prog cxpd 60 181 (pdB.drop 3) (mkTm 181 (pdT0 n m k c)) (mkS (pdH wc sc bc n1 n2 n3 n4 r1 r2 r3 r4 lc)) (vK pdL K))=(
 K .normal [.slo 0 0 n 0,.slo 1 0 m 0,.any,.slo 2 0 k 0,.slo 3 0 4 0,.slo 8 0 257 0,.int .i64 (xar .add .i64 c 1),.any,.any,.any,.any,.any] [sC wc 1,sC sc 1,sC bc 3,sC [.slo 4 0 n1 0,.slo 5 0 n2 0,.slo 6 0 n3 0,.slo 7 0 n4 0] 1,sC r1 1,sC r2 1,sC r3 1,sC r4 1,sC lc 1] []):=by kernel_rfl
theorem pd_c (n m k:Nat) (c:Int) (wc sc bc:List LV) (n1 n2 n3 n4:Nat) (r1 r2 r3 r4 lc:List LV) (K:Pk):(xsp prog cxpd 60 181 (seg pdS 8 3) (mkTm 181 (pdT0 n m k c)) (mkS (pdH wc sc bc n1 n2 n3 n4 r1 r2 r3 r4 lc)) (vK pdL K))=(
 K .normal [.slo 0 0 n 0,.slo 1 0 m 0,.any,.slo 2 0 k 0,.slo 3 0 4 0,.slo 8 0 257 0,.int .i64 c,.any,.int .i64 14,.int .i64 0,.int .i64 0,.any] [sC wc 1,sC sc 1,sC bc 3,sC [.slo 4 0 n1 0,.slo 5 0 n2 0,.slo 6 0 n3 0,.slo 7 0 n4 0] 1,sC r1 1,sC r2 1,sC r3 1,sC r4 1,sC lc 1] []):=by kernel_rfl
abbrev pd_d_b1 (i:Nat) (wc:List LV) (sc:List LV) (bc:List LV) (n1:Nat) (n2:Nat) (n3:Nat) (n4:Nat) (r1:List LV) (r2:List LV) (r3:List LV) (r4:List LV) (lc:List LV):List (Option LB):=[sC wc 1,sC sc 1,sC bc 3,sC [.slo 4 0 n1 0,.slo 5 0 n2 0,.slo 6 0 n3 0,.slo 7 0 n4 0] 1,sC r1 1,sC r2 1,sC r3 1,sC r4 1,sC lc 1,sN [.int .i64 (asI (nthD bc (xix 0 (xnat ↑i) 3))),.int .i64 (asI (nthD bc (xadd (xix 0 (xnat ↑i) 3) 1))),.bool (asB (nthD bc (xadd (xadd (xix 0 (xnat ↑i) 3) 1) 1)))]]
theorem pd_d (n m k:Nat) (en nn:Int) (i:Nat) (wc sc bc:List LV) (n1 n2 n3 n4:Nat) (r1 r2 r3 r4 lc:List LV) (K:Pk):(xcode prog cxpd 60 181 (loopOf (nthC pdS 11)) (mkTm 181 (pdT2 n m k en nn i)) (mkS (pdH wc sc bc n1 n2 n3 n4 r1 r2 r3 r4 lc)) (vK pdL K))=(
 bif xcm .lss ↑i ↑k then(
 ck (xle (xadd (xnat ↑i) 1) k) <|
 ck (xle (xadd (xix 0 (xnat ↑i) 3) 3) (xln bc)) <|
 ck (isI .i64 (nthD bc (xix 0 (xnat ↑i) 3))) <|
 ck (isI .i64 (nthD bc (xadd (xix 0 (xnat ↑i) 3) 1))) <|
 ck (isB (nthD bc (xadd (xadd (xix 0 (xnat ↑i) 3) 1) 1))) <|
 bif xcm .neq (asI (nthD bc (xix 0 (xnat ↑i) 3))) (xar .add .i64 en 1) then(
 K .ret [.slo 0 0 n 0,.slo 1 0 m 0,.bool false,.slo 2 0 k 0,.any,.slo 8 0 257 0,.any,.any,.int .i64 en,.int .i64 nn,.int .i64 ↑i,.any] (pd_d_b1 i wc sc bc n1 n2 n3 n4 r1 r2 r3 r4 lc) [])
 else(
 bif xcm .gtr (asI (nthD bc (xix 0 (xnat ↑i) 3))) 256 then(
 K .ret [.slo 0 0 n 0,.slo 1 0 m 0,.bool false,.slo 2 0 k 0,.any,.slo 8 0 257 0,.any,.any,.int .i64 en,.int .i64 nn,.int .i64 ↑i,.any] (pd_d_b1 i wc sc bc n1 n2 n3 n4 r1 r2 r3 r4 lc) [])
 else(
 ck (xnn (asI (nthD bc (xix 0 (xnat ↑i) 3)))) <|
 ck (xle (xadd (xnat (asI (nthD bc (xix 0 (xnat ↑i) 3)))) 1) m) <|
 ck (xle (xadd (xix 0 (xnat (asI (nthD bc (xix 0 (xnat ↑i) 3)))) 1) 1) (xln sc)) <|
 ck (isI .i64 (nthD sc (xix 0 (xnat (asI (nthD bc (xix 0 (xnat ↑i) 3)))) 1))) <|
 bif xnot (xbq (asB (nthD bc (xadd (xadd (xix 0 (xnat ↑i) 3) 1) 1))) (xcm .eql (asI (nthD sc (xix 0 (xnat (asI (nthD bc (xix 0 (xnat ↑i) 3)))) 1))) 1)) then(
 K .ret [.slo 0 0 n 0,.slo 1 0 m 0,.bool false,.slo 2 0 k 0,.any,.slo 8 0 257 0,.any,.any,.int .i64 en,.int .i64 nn,.int .i64 ↑i,.any] (pd_d_b1 i wc sc bc n1 n2 n3 n4 r1 r2 r3 r4 lc) [])
 else(
 ck (xnn (asI (nthD bc (xix 0 (xnat ↑i) 3)))) <|
 ck (xle (xadd (xnat (asI (nthD bc (xix 0 (xnat ↑i) 3)))) 1) 257) <|
 ck (xle (xadd (xix 0 (xnat (asI (nthD bc (xix 0 (xnat ↑i) 3)))) 1) 1) (xln lc)) <|
 ck (isB (nthD lc (xix 0 (xnat (asI (nthD bc (xix 0 (xnat ↑i) 3)))) 1))) <|
 ck (xnn (asI (nthD bc (xix 0 (xnat ↑i) 3)))) <|
 ck (xle (xadd (xnat (asI (nthD bc (xix 0 (xnat ↑i) 3)))) 1) m) <|
 ck (xle (xadd (xix 0 (xnat (asI (nthD bc (xix 0 (xnat ↑i) 3)))) 1) 1) (xln sc)) <|
 ck (isI .i64 (nthD sc (xix 0 (xnat (asI (nthD bc (xix 0 (xnat ↑i) 3)))) 1))) <|
 bif xnot (xbq (asB (nthD lc (xix 0 (xnat (asI (nthD bc (xix 0 (xnat ↑i) 3)))) 1))) (xcm .eql (asI (nthD sc (xix 0 (xnat (asI (nthD bc (xix 0 (xnat ↑i) 3)))) 1))) 3)) then(
 K .ret [.slo 0 0 n 0,.slo 1 0 m 0,.bool false,.slo 2 0 k 0,.any,.slo 8 0 257 0,.any,.any,.int .i64 en,.int .i64 nn,.int .i64 ↑i,.any] (pd_d_b1 i wc sc bc n1 n2 n3 n4 r1 r2 r3 r4 lc) [])
 else(
 ck (xnn (asI (nthD bc (xix 0 (xnat ↑i) 3)))) <|
 ck (xle (xadd (xnat (asI (nthD bc (xix 0 (xnat ↑i) 3)))) 1) m) <|
 ck (xle (xadd (xix 0 (xnat (asI (nthD bc (xix 0 (xnat ↑i) 3)))) 1) 1) (xln sc)) <|
 ck (isI .i64 (nthD sc (xix 0 (xnat (asI (nthD bc (xix 0 (xnat ↑i) 3)))) 1))) <|
 bif xcm .eql (asI (nthD sc (xix 0 (xnat (asI (nthD bc (xix 0 (xnat ↑i) 3)))) 1))) 0 then(
 K .ret [.slo 0 0 n 0,.slo 1 0 m 0,.bool false,.slo 2 0 k 0,.any,.slo 8 0 257 0,.any,.any,.int .i64 en,.int .i64 nn,.int .i64 ↑i,.any] (pd_d_b1 i wc sc bc n1 n2 n3 n4 r1 r2 r3 r4 lc) [])
 else(
 ck (xcm .eql (asI (nthD bc (xix 0 (xnat ↑i) 3))) (asI (nthD bc (xix 0 (xnat ↑i) 3)))) <|
 ck (xcm .eql (asI (nthD bc (xix 0 (xnat ↑i) 3))) (asI (nthD bc (xix 0 (xnat ↑i) 3)))) <|
 K .normal [.slo 0 0 n 0,.slo 1 0 m 0,.any,.slo 2 0 k 0,.any,.slo 8 0 257 0,.any,.any,.int .i64 (xar .add .i64 (asI (nthD bc (xix 0 (xnat ↑i) 3))) (szW (asI (nthD bc (xadd (xix 0 (xnat ↑i) 3) 1))))),.int .i64 (xar .add .i64 nn 1),.int .i64 (xar .add .i64 (↑i) 1),.any] (pd_d_b1 i wc sc bc n1 n2 n3 n4 r1 r2 r3 r4 lc) []))))))
 else(
 K (.exit 4) [.slo 0 0 n 0,.slo 1 0 m 0,.any,.slo 2 0 k 0,.any,.slo 8 0 257 0,.any,.any,.int .i64 en,.int .i64 nn,.int .i64 ↑i,.any] [sC wc 1,sC sc 1,sC bc 3,sC [.slo 4 0 n1 0,.slo 5 0 n2 0,.slo 6 0 n3 0,.slo 7 0 n4 0] 1,sC r1 1,sC r2 1,sC r3 1,sC r4 1,sC lc 1] [])):=by kernel_rfl
theorem pd_g (n m k:Nat) (en nn:Int) (i:Nat) (wc sc bc:List LV) (n1 n2 n3 n4:Nat) (r1 r2 r3 r4 lc:List LV) (K:Pk):(xsp prog cxpd 60 181 (seg pdS 12 1) (mkTm 181 (pdT2 n m k en nn i)) (mkS (pdH wc sc bc n1 n2 n3 n4 r1 r2 r3 r4 lc)) (vK pdL K))=(
 K .normal [.slo 0 0 n 0,.slo 1 0 m 0,.any,.slo 2 0 k 0,.any,.slo 8 0 257 0,.any,.any,.int .i64 en,.int .i64 nn,.int .i64 ↑i,.int .i64 0] [sC wc 1,sC sc 1,sC bc 3,sC [.slo 4 0 n1 0,.slo 5 0 n2 0,.slo 6 0 n3 0,.slo 7 0 n4 0] 1,sC r1 1,sC r2 1,sC r3 1,sC r4 1,sC lc 1] []):=by kernel_rfl
theorem pd_h (n m:Nat) (en nn:Int) (a:Nat) (wc sc:List LV) (K:Pk):(xcode prog cxpd 60 181 (loopOf (nthC pdS 13)) (mkTm 181 (pdT3 n m en nn a)) (mkS [.cells wc (some 1),.cells sc (some 1)]) (vK pdL K))=(
 bif xcm .leq (↑a) 256 then(
 ck (xle (xadd (xnat ↑a) 1) m) <|
 ck (xle (xadd (xix 0 (xnat ↑a) 1) 1) (xln sc)) <|
 ck (isI .i64 (nthD sc (xix 0 (xnat ↑a) 1))) <|
 bif xcm .neq (asI (nthD sc (xix 0 (xnat ↑a) 1))) 0 then(
 K .normal [.slo 0 0 n 0,.slo 1 0 m 0,.any,.any,.any,.any,.any,.any,.int .i64 en,.int .i64 (xar .sub .i64 nn 1),.any,.int .i64 (xar .add .i64 (↑a) 1)] [sC wc 1,sC sc 1] [])
 else(
 K .normal [.slo 0 0 n 0,.slo 1 0 m 0,.any,.any,.any,.any,.any,.any,.int .i64 en,.int .i64 nn,.any,.int .i64 (xar .add .i64 (↑a) 1)] [sC wc 1,sC sc 1] []))
 else(
 K (.exit 6) [.slo 0 0 n 0,.slo 1 0 m 0,.any,.any,.any,.any,.any,.any,.int .i64 en,.int .i64 nn,.any,.int .i64 ↑a] [sC wc 1,sC sc 1] [])):=by kernel_rfl
theorem pd_z (n m:Nat) (en nn:Int) (a:Nat) (wc sc:List LV) (K:Pk):(xsp prog cxpd 60 181 (pdS.drop 14) (mkTm 181 (pdT3 n m en nn a)) (mkS [.cells wc (some 1),.cells sc (some 1)]) (vK pdL K))=(
 bif xcm .eql nn 0 then(
 bif xcm .gtr (↑n) 5 then(
 ck (xle 6 n) <|
 ck (xle 6 (xln wc)) <|
 ck (isI .u64 (nthD wc 5)) <|
 K .ret [.slo 0 0 n 0,.slo 1 0 m 0,.bool (xcm .eql (asI (nthD wc 5)) (xwr .u64 en)),.any,.any,.any,.any,.any,.int .i64 en,.int .i64 nn,.any,.int .i64 ↑a] [sC wc 1,sC sc 1] [])
 else(
 K .ret [.slo 0 0 n 0,.slo 1 0 m 0,.bool false,.any,.any,.any,.any,.any,.int .i64 en,.int .i64 nn,.any,.int .i64 ↑a] [sC wc 1,sC sc 1] []))
 else(
 K .ret [.slo 0 0 n 0,.slo 1 0 m 0,.bool false,.any,.any,.any,.any,.any,.int .i64 en,.int .i64 nn,.any,.int .i64 ↑a] [sC wc 1,sC sc 1] [])):=by kernel_rfl
end
end Go.Lev
