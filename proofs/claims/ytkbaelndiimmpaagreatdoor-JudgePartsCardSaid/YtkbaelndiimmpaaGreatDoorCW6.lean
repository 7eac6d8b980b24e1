/- chapter 11: Lists of the reference: trees -/
import Derived.Test.YtkbaelndiimmpaaGreatDoorCW5
import Derived.Test.YtkbaelndiimmpaaGreatDoorLc
import Derived.Test.YtkbaelndiimmpaaGreatDoorChecked
import Derived.KernelRfl
namespace Go.Lev
set_option linter.unusedSimpArgs false
set_option linter.unusedVariables false
open Go.RowKit
open Go.Proofs.Tryz (prog)
set_option maxRecDepth 100000
noncomputable section
abbrev qlL:List Nat:=[0,2,3,4,6,7,8,9,10,11,12]
abbrev qlB:List Code:=spineL (loopOf (nthC (sp prog 17) 6))
abbrev qlC:List Code:=spineL (blockIn (nthC qlB 2))
abbrev qlD:List Code:=spineL (loopOf (nthC qlC 2))
abbrev qlE:List Code:=spineL (blockIn (nthC qlD 2))
abbrev qT1 (n k:Nat):List (Nat×LV):=[(0,.slo 0 0 n 0),(4,.slo 1 0 k 0),(6,.slo 2 0 0 0),(7,.int .i64 1)]
abbrev qH1 (wc bc:List LV):List LB:=[.ro wc,.cells bc (some 3),.cells [] (some 1)]
abbrev qR1 (wc bc rr:List LV):List LB:=[.ro wc,.cells bc (some 3),.cells [] (some 1),.cells rr (some 1)]
abbrev qU1 (n k m:Nat):List (Nat×LV):=[(0,.slo 0 0 n 0),(4,.slo 1 0 k 0),(6,.slo 2 0 0 0),(7,.int .i64 1),(8,.slo 3 0 m 0)]
abbrev qV1 (n k m:Nat) (a:Int):List (Nat×LV):=[(0,.slo 0 0 n 0),(4,.slo 1 0 k 0),(6,.slo 2 0 0 0),(7,.int .i64 1),(8,.slo 3 0 m 0),(9,.int .u64 a)]
abbrev qW1 (n k m:Nat) (a:Int) (is:Bool):List (Nat×LV):=[(0,.slo 0 0 n 0),(4,.slo 1 0 k 0),(6,.slo 2 0 0 0),(7,.int .i64 1),(8,.slo 3 0 m 0),(9,.int .u64 a),(10,.bool is)]
abbrev qX1 (n k m:Nat) (a:Int) (is:Bool) (i:Nat):List (Nat×LV):=[(0,.slo 0 0 n 0),(4,.slo 1 0 k 0),(6,.slo 2 0 0 0),(7,.int .i64 1),(8,.slo 3 0 m 0),(9,.int .u64 a),(10,.bool is),(11,.int .i64 i)]
abbrev qY1 (n k m:Nat) (a:Int) (is:Bool) (i:Nat):List (Nat×LV):=[(0,.slo 0 0 n 0),(4,.slo 1 0 k 0),(6,.slo 2 0 0 0),(7,.int .i64 1),(8,.slo 3 0 m 0),(9,.int .u64 a),(10,.bool is),(12,.int .i64 i)]
abbrev qZ1 (n k:Nat):List (Nat×LV):=[(0,.slo 0 0 n 0),(4,.slo 1 0 k 0),(6,.slo 2 0 1 0),(7,.int .i64 1)]
abbrev qT2 (n k:Nat):List (Nat×LV):=[(0,.slo 0 0 n 0),(4,.slo 1 0 k 0),(6,.slo 2 0 1 0),(7,.int .i64 2)]
abbrev qH2 (wc bc r1:List LV) (n1:Nat):List LB:=[.ro wc,.cells bc (some 3),.cells [.slo 3 0 n1 0] (some 1),.cells r1 (some 1)]
abbrev qR2 (wc bc r1 rr:List LV) (n1:Nat):List LB:=[.ro wc,.cells bc (some 3),.cells [.slo 3 0 n1 0] (some 1),.cells r1 (some 1),.cells rr (some 1)]
abbrev qU2 (n k m:Nat):List (Nat×LV):=[(0,.slo 0 0 n 0),(4,.slo 1 0 k 0),(6,.slo 2 0 1 0),(7,.int .i64 2),(8,.slo 4 0 m 0)]
abbrev qV2 (n k m:Nat) (a:Int):List (Nat×LV):=[(0,.slo 0 0 n 0),(4,.slo 1 0 k 0),(6,.slo 2 0 1 0),(7,.int .i64 2),(8,.slo 4 0 m 0),(9,.int .u64 a)]
abbrev qW2 (n k m:Nat) (a:Int) (is:Bool):List (Nat×LV):=[(0,.slo 0 0 n 0),(4,.slo 1 0 k 0),(6,.slo 2 0 1 0),(7,.int .i64 2),(8,.slo 4 0 m 0),(9,.int .u64 a),(10,.bool is)]
abbrev qX2 (n k m:Nat) (a:Int) (is:Bool) (i:Nat):List (Nat×LV):=[(0,.slo 0 0 n 0),(4,.slo 1 0 k 0),(6,.slo 2 0 1 0),(7,.int .i64 2),(8,.slo 4 0 m 0),(9,.int .u64 a),(10,.bool is),(11,.int .i64 i)]
abbrev qY2 (n k m:Nat) (a:Int) (is:Bool) (i:Nat):List (Nat×LV):=[(0,.slo 0 0 n 0),(4,.slo 1 0 k 0),(6,.slo 2 0 1 0),(7,.int .i64 2),(8,.slo 4 0 m 0),(9,.int .u64 a),(10,.bool is),(12,.int .i64 i)]
abbrev qZ2 (n k:Nat):List (Nat×LV):=[(0,.slo 0 0 n 0),(4,.slo 1 0 k 0),(6,.slo 2 0 2 0),(7,.int .i64 2)]
abbrev qT3 (n k:Nat):List (Nat×LV):=[(0,.slo 0 0 n 0),(4,.slo 1 0 k 0),(6,.slo 2 0 2 0),(7,.int .i64 3)]
abbrev qH3 (wc bc r1 r2:List LV) (n1 n2:Nat):List LB:=[.ro wc,.cells bc (some 3),.cells [.slo 3 0 n1 0,.slo 4 0 n2 0] (some 1),.cells r1 (some 1),.cells r2 (some 1)]
abbrev qR3 (wc bc r1 r2 rr:List LV) (n1 n2:Nat):List LB:=[.ro wc,.cells bc (some 3),.cells [.slo 3 0 n1 0,.slo 4 0 n2 0] (some 1),.cells r1 (some 1),.cells r2 (some 1),.cells rr (some 1)]
abbrev qU3 (n k m:Nat):List (Nat×LV):=[(0,.slo 0 0 n 0),(4,.slo 1 0 k 0),(6,.slo 2 0 2 0),(7,.int .i64 3),(8,.slo 5 0 m 0)]
abbrev qV3 (n k m:Nat) (a:Int):List (Nat×LV):=[(0,.slo 0 0 n 0),(4,.slo 1 0 k 0),(6,.slo 2 0 2 0),(7,.int .i64 3),(8,.slo 5 0 m 0),(9,.int .u64 a)]
abbrev qW3 (n k m:Nat) (a:Int) (is:Bool):List (Nat×LV):=[(0,.slo 0 0 n 0),(4,.slo 1 0 k 0),(6,.slo 2 0 2 0),(7,.int .i64 3),(8,.slo 5 0 m 0),(9,.int .u64 a),(10,.bool is)]
abbrev qX3 (n k m:Nat) (a:Int) (is:Bool) (i:Nat):List (Nat×LV):=[(0,.slo 0 0 n 0),(4,.slo 1 0 k 0),(6,.slo 2 0 2 0),(7,.int .i64 3),(8,.slo 5 0 m 0),(9,.int .u64 a),(10,.bool is),(11,.int .i64 i)]
abbrev qY3 (n k m:Nat) (a:Int) (is:Bool) (i:Nat):List (Nat×LV):=[(0,.slo 0 0 n 0),(4,.slo 1 0 k 0),(6,.slo 2 0 2 0),(7,.int .i64 3),(8,.slo 5 0 m 0),(9,.int .u64 a),(10,.bool is),(12,.int .i64 i)]
abbrev qZ3 (n k:Nat):List (Nat×LV):=[(0,.slo 0 0 n 0),(4,.slo 1 0 k 0),(6,.slo 2 0 3 0),(7,.int .i64 3)]
abbrev qT4 (n k:Nat):List (Nat×LV):=[(0,.slo 0 0 n 0),(4,.slo 1 0 k 0),(6,.slo 2 0 3 0),(7,.int .i64 4)]
abbrev qH4 (wc bc r1 r2 r3:List LV) (n1 n2 n3:Nat):List LB:=[.ro wc,.cells bc (some 3),.cells [.slo 3 0 n1 0,.slo 4 0 n2 0,.slo 5 0 n3 0] (some 1),.cells r1 (some 1),.cells r2 (some 1),.cells r3 (some 1)]
abbrev qR4 (wc bc r1 r2 r3 rr:List LV) (n1 n2 n3:Nat):List LB:=[.ro wc,.cells bc (some 3),.cells [.slo 3 0 n1 0,.slo 4 0 n2 0,.slo 5 0 n3 0] (some 1),.cells r1 (some 1),.cells r2 (some 1),.cells r3 (some 1),.cells rr (some 1)]
abbrev qU4 (n k m:Nat):List (Nat×LV):=[(0,.slo 0 0 n 0),(4,.slo 1 0 k 0),(6,.slo 2 0 3 0),(7,.int .i64 4),(8,.slo 6 0 m 0)]
abbrev qV4 (n k m:Nat) (a:Int):List (Nat×LV):=[(0,.slo 0 0 n 0),(4,.slo 1 0 k 0),(6,.slo 2 0 3 0),(7,.int .i64 4),(8,.slo 6 0 m 0),(9,.int .u64 a)]
abbrev qW4 (n k m:Nat) (a:Int) (is:Bool):List (Nat×LV):=[(0,.slo 0 0 n 0),(4,.slo 1 0 k 0),(6,.slo 2 0 3 0),(7,.int .i64 4),(8,.slo 6 0 m 0),(9,.int .u64 a),(10,.bool is)]
abbrev qX4 (n k m:Nat) (a:Int) (is:Bool) (i:Nat):List (Nat×LV):=[(0,.slo 0 0 n 0),(4,.slo 1 0 k 0),(6,.slo 2 0 3 0),(7,.int .i64 4),(8,.slo 6 0 m 0),(9,.int .u64 a),(10,.bool is),(11,.int .i64 i)]
abbrev qY4 (n k m:Nat) (a:Int) (is:Bool) (i:Nat):List (Nat×LV):=[(0,.slo 0 0 n 0),(4,.slo 1 0 k 0),(6,.slo 2 0 3 0),(7,.int .i64 4),(8,.slo 6 0 m 0),(9,.int .u64 a),(10,.bool is),(12,.int .i64 i)]
abbrev qZ4 (n k:Nat):List (Nat×LV):=[(0,.slo 0 0 n 0),(4,.slo 1 0 k 0),(6,.slo 2 0 4 0),(7,.int .i64 4)]
abbrev qT5 (n k:Nat):List (Nat×LV):=[(0,.slo 0 0 n 0),(4,.slo 1 0 k 0),(6,.slo 2 0 4 0),(7,.int .i64 5)]
abbrev qH5 (wc bc r1 r2 r3 r4:List LV) (n1 n2 n3 n4:Nat):List LB:=[.ro wc,.cells bc (some 3),.cells [.slo 3 0 n1 0,.slo 4 0 n2 0,.slo 5 0 n3 0,.slo 6 0 n4 0] (some 1),.cells r1 (some 1),.cells r2 (some 1),.cells r3 (some 1),.cells r4 (some 1)]
theorem ql_a (n:Nat) (wc:List LV) (K:Pk):(xsp prog cxs 40 93 (seg (sp prog 17) 0 6) (tm0 [.slo 0 0 n 0]) (mkS [.ro wc]) (vK qlL K))=(
 ck (okU wc n) <|
 bif xnot (bkO wc) then(
 K .ret [.slo 0 0 n 0,.nils,.bool false,.slo 1 0 (bkN wc) 0,.tup [],.tup [],.tup [],.tup [],.tup [],.tup [],.tup []] [some (.ro wc),sC (bkC wc) 3] [])
 else(
 K .normal [.slo 0 0 n 0,.nils,.bool false,.slo 1 0 (bkN wc) 0,.nils,.int .i64 1,.tup [],.tup [],.tup [],.tup [],.tup []] [some (.ro wc),sC (bkC wc) 3] [])):=by kernel_rfl
theorem ql_d1 (n k:Nat) (wc bc:List LV) (K:Pk):(xsp prog cxs 40 93 (seg qlB 0 2) (mkTm 93 (qT1 n k)) (mkS (qH1 wc bc)) (vK qlL K))=(
 K .normal [.slo 0 0 n 0,.any,.any,.slo 1 0 k 0,.slo 2 0 0 0,.int .i64 1,.any,.any,.any,.any,.any] [some (.ro wc),sC bc 3,sC [] 1] []):=by kernel_rfl
theorem ql_e1 (n k:Nat) (wc bc:List LV) (K:Pk):(xsp prog cxs 40 93 (seg qlC 0 2) (mkTm 93 (qT1 n k)) (mkS (qH1 wc bc)) (vK qlL K))=(
 ck (xle 2 n) <|
 ck (xle 2 (xln wc)) <|
 ck (isI .u64 (nthD wc 1)) <|
 K .normal [.slo 0 0 n 0,.any,.any,.slo 1 0 k 0,.slo 2 0 0 0,.int .i64 1,.nils,.int .u64 (asI (nthD wc 1)),.any,.any,.any] [some (.ro wc),sC bc 3,sC [] 1] []):=by kernel_rfl
theorem ql_f1 (n k m:Nat) (a:Int) (wc bc rr:List LV) (K:Pk):(xsp prog cxs 40 93 (seg qlD 0 2) (mkTm 93 (qV1 n k m a)) (mkS (qR1 wc bc rr)) (vK qlL K))=(
 bif xcm .neq a 0 then(
 K .normal [.slo 0 0 n 0,.any,.any,.slo 1 0 k 0,.slo 2 0 0 0,.int .i64 1,.slo 3 0 m 0,.int .u64 a,.any,.any,.any] [some (.ro wc),sC bc 3,sC [] 1,sC rr 1] [])
 else(
 K (.exit 2) [.slo 0 0 n 0,.any,.any,.slo 1 0 k 0,.slo 2 0 0 0,.int .i64 1,.slo 3 0 m 0,.int .u64 a,.any,.any,.any] [some (.ro wc),sC bc 3,sC [] 1,sC rr 1] [])):=by kernel_rfl
theorem ql_g1 (n k m:Nat) (a:Int) (wc bc rr:List LV) (K:Pk):(xsp prog cxs 40 93 (seg qlE 0 2) (mkTm 93 (qV1 n k m a)) (mkS (qR1 wc bc rr)) (vK qlL K))=(
 K .normal [.slo 0 0 n 0,.any,.any,.slo 1 0 k 0,.slo 2 0 0 0,.int .i64 1,.slo 3 0 m 0,.int .u64 a,.bool false,.int .i64 0,.any] [some (.ro wc),sC bc 3,sC [] 1,sC rr 1] []):=by kernel_rfl
theorem ql_h1 (n k m:Nat) (a:Int) (is:Bool) (i:Nat) (wc bc rr:List LV) (K:Pk):(xcode prog cxs 40 93 (loopOf (nthC qlE 2)) (mkTm 93 (qX1 n k m a is i)) (mkS (qR1 wc bc rr)) (vK qlL K))=(
 bif xcm .lss ↑i ↑k then(
 ck (xle (xadd (xnat ↑i) 1) k) <|
 ck (xle (xadd (xix 0 (xnat ↑i) 3) 1) (xln bc)) <|
 ck (isI .i64 (nthD bc (xix 0 (xnat ↑i) 3))) <|
 bif xcm .eql (xwr .u64 (asI (nthD bc (xix 0 (xnat ↑i) 3)))) a then(
 ck (xle (xadd (xnat ↑i) 1) k) <|
 ck (xle (xadd (xadd (xix 0 (xnat ↑i) 3) 1) 1) (xln bc)) <|
 ck (isI .i64 (nthD bc (xadd (xix 0 (xnat ↑i) 3) 1))) <|
 bif xcm .eql (asI (nthD bc (xadd (xix 0 (xnat ↑i) 3) 1))) 1 then(
 ck (xle (xadd (xnat ↑i) 1) k) <|
 ck (xle (xadd (xadd (xix 0 (xnat ↑i) 3) 2) 1) (xln bc)) <|
 ck (isB (nthD bc (xadd (xix 0 (xnat ↑i) 3) 2))) <|
 bif xnot (asB (nthD bc (xadd (xix 0 (xnat ↑i) 3) 2))) then(
 K .normal [.slo 0 0 n 0,.any,.any,.slo 1 0 k 0,.slo 2 0 0 0,.int .i64 1,.slo 3 0 m 0,.int .u64 a,.bool true,.int .i64 (xar .add .i64 (↑i) 1),.any] [some (.ro wc),sC bc 3,sC [] 1,sC rr 1] [])
 else(
 K .normal [.slo 0 0 n 0,.any,.any,.slo 1 0 k 0,.slo 2 0 0 0,.int .i64 1,.slo 3 0 m 0,.int .u64 a,.bool is,.int .i64 (xar .add .i64 (↑i) 1),.any] [some (.ro wc),sC bc 3,sC [] 1,sC rr 1] []))
 else(
 K .normal [.slo 0 0 n 0,.any,.any,.slo 1 0 k 0,.slo 2 0 0 0,.int .i64 1,.slo 3 0 m 0,.int .u64 a,.bool is,.int .i64 (xar .add .i64 (↑i) 1),.any] [some (.ro wc),sC bc 3,sC [] 1,sC rr 1] []))
 else(
 K .normal [.slo 0 0 n 0,.any,.any,.slo 1 0 k 0,.slo 2 0 0 0,.int .i64 1,.slo 3 0 m 0,.int .u64 a,.bool is,.int .i64 (xar .add .i64 (↑i) 1),.any] [some (.ro wc),sC bc 3,sC [] 1,sC rr 1] []))
 else(
 K (.exit 4) [.slo 0 0 n 0,.any,.any,.slo 1 0 k 0,.slo 2 0 0 0,.int .i64 1,.slo 3 0 m 0,.int .u64 a,.bool is,.int .i64 ↑i,.any] [some (.ro wc),sC bc 3,sC [] 1,sC rr 1] [])):=by kernel_rfl
theorem ql_i1 (n k m:Nat) (a:Int) (is:Bool) (wc bc rr:List LV) (K:Pk):(xsp prog cxs 40 93 (seg qlE 3 1) (mkTm 93 (qW1 n k m a is)) (mkS (qR1 wc bc rr)) (vK qlL K))=(
 K .normal [.slo 0 0 n 0,.any,.any,.slo 1 0 k 0,.slo 2 0 0 0,.int .i64 1,.slo 3 0 m 0,.int .u64 a,.bool is,.any,.int .i64 0] [some (.ro wc),sC bc 3,sC [] 1,sC rr 1] []):=by kernel_rfl
theorem ql_j1 (n k m:Nat) (a:Int) (is:Bool) (i:Nat) (wc bc rr:List LV) (K:Pk):(xcode prog cxs 40 93 (loopOf (nthC qlE 4)) (mkTm 93 (qY1 n k m a is i)) (mkS (qR1 wc bc rr)) (vK qlL K))=(
 bif xcm .lss ↑i ↑m then(
 ck (xle (xadd (xnat ↑i) 1) m) <|
 ck (xle (xadd (xix 0 (xnat ↑i) 1) 1) (xln rr)) <|
 ck (isI .i64 (nthD rr (xix 0 (xnat ↑i) 1))) <|
 bif xcm .eql (xwr .u64 (asI (nthD rr (xix 0 (xnat ↑i) 1)))) a then(
 K .normal [.slo 0 0 n 0,.any,.any,.slo 1 0 k 0,.slo 2 0 0 0,.int .i64 1,.slo 3 0 m 0,.int .u64 a,.bool false,.any,.int .i64 (xar .add .i64 (↑i) 1)] [some (.ro wc),sC bc 3,sC [] 1,sC rr 1] [])
 else(
 K .normal [.slo 0 0 n 0,.any,.any,.slo 1 0 k 0,.slo 2 0 0 0,.int .i64 1,.slo 3 0 m 0,.int .u64 a,.bool is,.any,.int .i64 (xar .add .i64 (↑i) 1)] [some (.ro wc),sC bc 3,sC [] 1,sC rr 1] []))
 else(
 K (.exit 6) [.slo 0 0 n 0,.any,.any,.slo 1 0 k 0,.slo 2 0 0 0,.int .i64 1,.slo 3 0 m 0,.int .u64 a,.bool is,.any,.int .i64 ↑i] [some (.ro wc),sC bc 3,sC [] 1,sC rr 1] [])):=by kernel_rfl
theorem ql_k1 (n k m:Nat) (a:Int) (is:Bool) (wc bc rr:List LV) (K:Pk):(xsp prog cxs 40 93 (qlE.drop 5) (mkTm 93 (qW1 n k m a is)) (mkS (qR1 wc bc rr)) (vK qlL K))=(
 bif xnot is then(
 K .ret [.slo 0 0 n 0,.nils,.bool false,.slo 1 0 k 0,.slo 2 0 0 0,.int .i64 1,.slo 3 0 m 0,.int .u64 a,.bool is,.any,.any] [some (.ro wc),sC bc 3,sC [] 1,sC rr 1] [])
 else(
 ck (xle (xadd m 1) 1000000) <|
 ck (xle (xadd 0 (xmul m 1)) (xln rr)) <|
 ck (xnn (xwr .i64 a)) <|
 ck (xle (xadd (xnat (xwr .i64 a)) 1) n) <|
 ck (xle (xadd (xix 0 (xnat (xwr .i64 a)) 1) 1) (xln wc)) <|
 ck (isI .u64 (nthD wc (xix 0 (xnat (xwr .i64 a)) 1))) <|
 K .normal [.slo 0 0 n 0,.any,.any,.slo 1 0 k 0,.slo 2 0 0 0,.int .i64 1,.slo 5 0 (xadd m 1) 0,.int .u64 (asI (nthD wc (xix 0 (xnat (xwr .i64 a)) 1))),.bool is,.any,.any] [some (.ro wc),sC bc 3,sC [] 1,sD,sN [.int .i64 (xwr .i64 a)],sC (xcat (xcut rr 0 (xmul m 1)) [.int .i64 (xwr .i64 a)]) 1] [])):=by kernel_rfl
theorem ql_l1 (n k m:Nat) (wc bc rr:List LV) (K:Pk):(xsp prog cxs 40 93 (qlC.drop 3) (mkTm 93 (qU1 n k m)) (mkS (qR1 wc bc rr)) (vK qlL K))=(
 K .normal [.slo 0 0 n 0,.any,.any,.slo 1 0 k 0,.slo 5 0 1 0,.int .i64 1,.slo 3 0 m 0,.any,.any,.any,.any] [some (.ro wc),sC bc 3,sD,sC rr 1,sN [.slo 3 0 m 0],sC [.slo 3 0 m 0] 1] []):=by kernel_rfl
theorem ql_m1 (n k n1:Nat) (wc bc r1:List LV) (K:Pk):(xsp prog cxs 40 93 (qlB.drop 3) (mkTm 93 (qZ1 n k)) (mkS (qH2 wc bc r1 n1)) (vK qlL K))=(
 K .normal [.slo 0 0 n 0,.any,.any,.slo 1 0 k 0,.slo 2 0 1 0,.int .i64 2,.any,.any,.any,.any,.any] [some (.ro wc),sC bc 3,sC [.slo 3 0 n1 0] 1,sC r1 1] []):=by kernel_rfl
theorem ql_d2 (n k n1:Nat) (wc bc r1:List LV) (K:Pk):(xsp prog cxs 40 93 (seg qlB 0 2) (mkTm 93 (qT2 n k)) (mkS (qH2 wc bc r1 n1)) (vK qlL K))=(
 K .normal [.slo 0 0 n 0,.any,.any,.slo 1 0 k 0,.slo 2 0 1 0,.int .i64 2,.any,.any,.any,.any,.any] [some (.ro wc),sC bc 3,sC [.slo 3 0 n1 0] 1,sC r1 1] []):=by kernel_rfl
theorem ql_e2 (n k n1:Nat) (wc bc r1:List LV) (K:Pk):(xsp prog cxs 40 93 (seg qlC 0 2) (mkTm 93 (qT2 n k)) (mkS (qH2 wc bc r1 n1)) (vK qlL K))=(
 ck (xle 3 n) <|
 ck (xle 3 (xln wc)) <|
 ck (isI .u64 (nthD wc 2)) <|
 K .normal [.slo 0 0 n 0,.any,.any,.slo 1 0 k 0,.slo 2 0 1 0,.int .i64 2,.nils,.int .u64 (asI (nthD wc 2)),.any,.any,.any] [some (.ro wc),sC bc 3,sC [.slo 3 0 n1 0] 1,sC r1 1] []):=by kernel_rfl
theorem ql_f2 (n k n1 m:Nat) (a:Int) (wc bc r1 rr:List LV) (K:Pk):(xsp prog cxs 40 93 (seg qlD 0 2) (mkTm 93 (qV2 n k m a)) (mkS (qR2 wc bc r1 rr n1)) (vK qlL K))=(
 bif xcm .neq a 0 then(
 K .normal [.slo 0 0 n 0,.any,.any,.slo 1 0 k 0,.slo 2 0 1 0,.int .i64 2,.slo 4 0 m 0,.int .u64 a,.any,.any,.any] [some (.ro wc),sC bc 3,sC [.slo 3 0 n1 0] 1,sC r1 1,sC rr 1] [])
 else(
 K (.exit 2) [.slo 0 0 n 0,.any,.any,.slo 1 0 k 0,.slo 2 0 1 0,.int .i64 2,.slo 4 0 m 0,.int .u64 a,.any,.any,.any] [some (.ro wc),sC bc 3,sC [.slo 3 0 n1 0] 1,sC r1 1,sC rr 1] [])):=by kernel_rfl
theorem ql_g2 (n k n1 m:Nat) (a:Int) (wc bc r1 rr:List LV) (K:Pk):(xsp prog cxs 40 93 (seg qlE 0 2) (mkTm 93 (qV2 n k m a)) (mkS (qR2 wc bc r1 rr n1)) (vK qlL K))=(
 K .normal [.slo 0 0 n 0,.any,.any,.slo 1 0 k 0,.slo 2 0 1 0,.int .i64 2,.slo 4 0 m 0,.int .u64 a,.bool false,.int .i64 0,.any] [some (.ro wc),sC bc 3,sC [.slo 3 0 n1 0] 1,sC r1 1,sC rr 1] []):=by kernel_rfl
theorem ql_h2 (n k n1 m:Nat) (a:Int) (is:Bool) (i:Nat) (wc bc r1 rr:List LV) (K:Pk):(xcode prog cxs 40 93 (loopOf (nthC qlE 2)) (mkTm 93 (qX2 n k m a is i)) (mkS (qR2 wc bc r1 rr n1)) (vK qlL K))=(
 bif xcm .lss ↑i ↑k then(
 ck (xle (xadd (xnat ↑i) 1) k) <|
 ck (xle (xadd (xix 0 (xnat ↑i) 3) 1) (xln bc)) <|
 ck (isI .i64 (nthD bc (xix 0 (xnat ↑i) 3))) <|
 bif xcm .eql (xwr .u64 (asI (nthD bc (xix 0 (xnat ↑i) 3)))) a then(
 ck (xle (xadd (xnat ↑i) 1) k) <|
 ck (xle (xadd (xadd (xix 0 (xnat ↑i) 3) 1) 1) (xln bc)) <|
 ck (isI .i64 (nthD bc (xadd (xix 0 (xnat ↑i) 3) 1))) <|
 bif xcm .eql (asI (nthD bc (xadd (xix 0 (xnat ↑i) 3) 1))) 2 then(
 ck (xle (xadd (xnat ↑i) 1) k) <|
 ck (xle (xadd (xadd (xix 0 (xnat ↑i) 3) 2) 1) (xln bc)) <|
 ck (isB (nthD bc (xadd (xix 0 (xnat ↑i) 3) 2))) <|
 bif xnot (asB (nthD bc (xadd (xix 0 (xnat ↑i) 3) 2))) then(
 K .normal [.slo 0 0 n 0,.any,.any,.slo 1 0 k 0,.slo 2 0 1 0,.int .i64 2,.slo 4 0 m 0,.int .u64 a,.bool true,.int .i64 (xar .add .i64 (↑i) 1),.any] [some (.ro wc),sC bc 3,sC [.slo 3 0 n1 0] 1,sC r1 1,sC rr 1] [])
 else(
 K .normal [.slo 0 0 n 0,.any,.any,.slo 1 0 k 0,.slo 2 0 1 0,.int .i64 2,.slo 4 0 m 0,.int .u64 a,.bool is,.int .i64 (xar .add .i64 (↑i) 1),.any] [some (.ro wc),sC bc 3,sC [.slo 3 0 n1 0] 1,sC r1 1,sC rr 1] []))
 else(
 K .normal [.slo 0 0 n 0,.any,.any,.slo 1 0 k 0,.slo 2 0 1 0,.int .i64 2,.slo 4 0 m 0,.int .u64 a,.bool is,.int .i64 (xar .add .i64 (↑i) 1),.any] [some (.ro wc),sC bc 3,sC [.slo 3 0 n1 0] 1,sC r1 1,sC rr 1] []))
 else(
 K .normal [.slo 0 0 n 0,.any,.any,.slo 1 0 k 0,.slo 2 0 1 0,.int .i64 2,.slo 4 0 m 0,.int .u64 a,.bool is,.int .i64 (xar .add .i64 (↑i) 1),.any] [some (.ro wc),sC bc 3,sC [.slo 3 0 n1 0] 1,sC r1 1,sC rr 1] []))
 else(
 K (.exit 4) [.slo 0 0 n 0,.any,.any,.slo 1 0 k 0,.slo 2 0 1 0,.int .i64 2,.slo 4 0 m 0,.int .u64 a,.bool is,.int .i64 ↑i,.any] [some (.ro wc),sC bc 3,sC [.slo 3 0 n1 0] 1,sC r1 1,sC rr 1] [])):=by kernel_rfl
theorem ql_i2 (n k n1 m:Nat) (a:Int) (is:Bool) (wc bc r1 rr:List LV) (K:Pk):(xsp prog cxs 40 93 (seg qlE 3 1) (mkTm 93 (qW2 n k m a is)) (mkS (qR2 wc bc r1 rr n1)) (vK qlL K))=(
 K .normal [.slo 0 0 n 0,.any,.any,.slo 1 0 k 0,.slo 2 0 1 0,.int .i64 2,.slo 4 0 m 0,.int .u64 a,.bool is,.any,.int .i64 0] [some (.ro wc),sC bc 3,sC [.slo 3 0 n1 0] 1,sC r1 1,sC rr 1] []):=by kernel_rfl
theorem ql_j2 (n k n1 m:Nat) (a:Int) (is:Bool) (i:Nat) (wc bc r1 rr:List LV) (K:Pk):(xcode prog cxs 40 93 (loopOf (nthC qlE 4)) (mkTm 93 (qY2 n k m a is i)) (mkS (qR2 wc bc r1 rr n1)) (vK qlL K))=(
 bif xcm .lss ↑i ↑m then(
 ck (xle (xadd (xnat ↑i) 1) m) <|
 ck (xle (xadd (xix 0 (xnat ↑i) 1) 1) (xln rr)) <|
 ck (isI .i64 (nthD rr (xix 0 (xnat ↑i) 1))) <|
 bif xcm .eql (xwr .u64 (asI (nthD rr (xix 0 (xnat ↑i) 1)))) a then(
 K .normal [.slo 0 0 n 0,.any,.any,.slo 1 0 k 0,.slo 2 0 1 0,.int .i64 2,.slo 4 0 m 0,.int .u64 a,.bool false,.any,.int .i64 (xar .add .i64 (↑i) 1)] [some (.ro wc),sC bc 3,sC [.slo 3 0 n1 0] 1,sC r1 1,sC rr 1] [])
 else(
 K .normal [.slo 0 0 n 0,.any,.any,.slo 1 0 k 0,.slo 2 0 1 0,.int .i64 2,.slo 4 0 m 0,.int .u64 a,.bool is,.any,.int .i64 (xar .add .i64 (↑i) 1)] [some (.ro wc),sC bc 3,sC [.slo 3 0 n1 0] 1,sC r1 1,sC rr 1] []))
 else(
 K (.exit 6) [.slo 0 0 n 0,.any,.any,.slo 1 0 k 0,.slo 2 0 1 0,.int .i64 2,.slo 4 0 m 0,.int .u64 a,.bool is,.any,.int .i64 ↑i] [some (.ro wc),sC bc 3,sC [.slo 3 0 n1 0] 1,sC r1 1,sC rr 1] [])):=by kernel_rfl
theorem ql_k2 (n k n1 m:Nat) (a:Int) (is:Bool) (wc bc r1 rr:List LV) (K:Pk):(xsp prog cxs 40 93 (qlE.drop 5) (mkTm 93 (qW2 n k m a is)) (mkS (qR2 wc bc r1 rr n1)) (vK qlL K))=(
 bif xnot is then(
 K .ret [.slo 0 0 n 0,.nils,.bool false,.slo 1 0 k 0,.slo 2 0 1 0,.int .i64 2,.slo 4 0 m 0,.int .u64 a,.bool is,.any,.any] [some (.ro wc),sC bc 3,sC [.slo 3 0 n1 0] 1,sC r1 1,sC rr 1] [])
 else(
 ck (xle (xadd m 1) 1000000) <|
 ck (xle (xadd 0 (xmul m 1)) (xln rr)) <|
 ck (xnn (xwr .i64 a)) <|
 ck (xle (xadd (xnat (xwr .i64 a)) 1) n) <|
 ck (xle (xadd (xix 0 (xnat (xwr .i64 a)) 1) 1) (xln wc)) <|
 ck (isI .u64 (nthD wc (xix 0 (xnat (xwr .i64 a)) 1))) <|
 K .normal [.slo 0 0 n 0,.any,.any,.slo 1 0 k 0,.slo 2 0 1 0,.int .i64 2,.slo 6 0 (xadd m 1) 0,.int .u64 (asI (nthD wc (xix 0 (xnat (xwr .i64 a)) 1))),.bool is,.any,.any] [some (.ro wc),sC bc 3,sC [.slo 3 0 n1 0] 1,sC r1 1,sD,sN [.int .i64 (xwr .i64 a)],sC (xcat (xcut rr 0 (xmul m 1)) [.int .i64 (xwr .i64 a)]) 1] [])):=by kernel_rfl
theorem ql_l2 (n k n1 m:Nat) (wc bc r1 rr:List LV) (K:Pk):(xsp prog cxs 40 93 (qlC.drop 3) (mkTm 93 (qU2 n k m)) (mkS (qR2 wc bc r1 rr n1)) (vK qlL K))=(
 K .normal [.slo 0 0 n 0,.any,.any,.slo 1 0 k 0,.slo 6 0 2 0,.int .i64 2,.slo 4 0 m 0,.any,.any,.any,.any] [some (.ro wc),sC bc 3,sD,sC r1 1,sC rr 1,sN [.slo 4 0 m 0],sC [.slo 3 0 n1 0,.slo 4 0 m 0] 1] []):=by kernel_rfl
theorem ql_m2 (n k n1 n2:Nat) (wc bc r1 r2:List LV) (K:Pk):(xsp prog cxs 40 93 (qlB.drop 3) (mkTm 93 (qZ2 n k)) (mkS (qH3 wc bc r1 r2 n1 n2)) (vK qlL K))=(
 K .normal [.slo 0 0 n 0,.any,.any,.slo 1 0 k 0,.slo 2 0 2 0,.int .i64 3,.any,.any,.any,.any,.any] [some (.ro wc),sC bc 3,sC [.slo 3 0 n1 0,.slo 4 0 n2 0] 1,sC r1 1,sC r2 1] []):=by kernel_rfl
theorem ql_d3 (n k n1 n2:Nat) (wc bc r1 r2:List LV) (K:Pk):(xsp prog cxs 40 93 (seg qlB 0 2) (mkTm 93 (qT3 n k)) (mkS (qH3 wc bc r1 r2 n1 n2)) (vK qlL K))=(
 K .normal [.slo 0 0 n 0,.any,.any,.slo 1 0 k 0,.slo 2 0 2 0,.int .i64 3,.any,.any,.any,.any,.any] [some (.ro wc),sC bc 3,sC [.slo 3 0 n1 0,.slo 4 0 n2 0] 1,sC r1 1,sC r2 1] []):=by kernel_rfl
theorem ql_e3 (n k n1 n2:Nat) (wc bc r1 r2:List LV) (K:Pk):(xsp prog cxs 40 93 (seg qlC 0 2) (mkTm 93 (qT3 n k)) (mkS (qH3 wc bc r1 r2 n1 n2)) (vK qlL K))=(
 ck (xle 4 n) <|
 ck (xle 4 (xln wc)) <|
 ck (isI .u64 (nthD wc 3)) <|
 K .normal [.slo 0 0 n 0,.any,.any,.slo 1 0 k 0,.slo 2 0 2 0,.int .i64 3,.nils,.int .u64 (asI (nthD wc 3)),.any,.any,.any] [some (.ro wc),sC bc 3,sC [.slo 3 0 n1 0,.slo 4 0 n2 0] 1,sC r1 1,sC r2 1] []):=by kernel_rfl
abbrev ql_f3_b1 (n1:Nat) (n2:Nat) (wc:List LV) (bc:List LV) (r1:List LV) (r2:List LV) (rr:List LV):List (Option LB):=[some (.ro wc),sC bc 3,sC [.slo 3 0 n1 0,.slo 4 0 n2 0] 1,sC r1 1,sC r2 1,sC rr 1]
theorem ql_f3 (n k n1 n2 m:Nat) (a:Int) (wc bc r1 r2 rr:List LV) (K:Pk):(xsp prog cxs 40 93 (seg qlD 0 2) (mkTm 93 (qV3 n k m a)) (mkS (qR3 wc bc r1 r2 rr n1 n2)) (vK qlL K))=(
 bif xcm .neq a 0 then(
 K .normal [.slo 0 0 n 0,.any,.any,.slo 1 0 k 0,.slo 2 0 2 0,.int .i64 3,.slo 5 0 m 0,.int .u64 a,.any,.any,.any] (ql_f3_b1 n1 n2 wc bc r1 r2 rr) [])
 else(
 K (.exit 2) [.slo 0 0 n 0,.any,.any,.slo 1 0 k 0,.slo 2 0 2 0,.int .i64 3,.slo 5 0 m 0,.int .u64 a,.any,.any,.any] (ql_f3_b1 n1 n2 wc bc r1 r2 rr) [])):=by kernel_rfl
theorem ql_g3 (n k n1 n2 m:Nat) (a:Int) (wc bc r1 r2 rr:List LV) (K:Pk):(xsp prog cxs 40 93 (seg qlE 0 2) (mkTm 93 (qV3 n k m a)) (mkS (qR3 wc bc r1 r2 rr n1 n2)) (vK qlL K))=(
 K .normal [.slo 0 0 n 0,.any,.any,.slo 1 0 k 0,.slo 2 0 2 0,.int .i64 3,.slo 5 0 m 0,.int .u64 a,.bool false,.int .i64 0,.any] [some (.ro wc),sC bc 3,sC [.slo 3 0 n1 0,.slo 4 0 n2 0] 1,sC r1 1,sC r2 1,sC rr 1] []):=by kernel_rfl
abbrev ql_h3_b1 (n1:Nat) (n2:Nat) (wc:List LV) (bc:List LV) (r1:List LV) (r2:List LV) (rr:List LV):List (Option LB):=[some (.ro wc),sC bc 3,sC [.slo 3 0 n1 0,.slo 4 0 n2 0] 1,sC r1 1,sC r2 1,sC rr 1]
theorem ql_h3 (n k n1 n2 m:Nat) (a:Int) (is:Bool) (i:Nat) (wc bc r1 r2 rr:List LV) (K:Pk):(xcode prog cxs 40 93 (loopOf (nthC qlE 2)) (mkTm 93 (qX3 n k m a is i)) (mkS (qR3 wc bc r1 r2 rr n1 n2)) (vK qlL K))=(
 bif xcm .lss ↑i ↑k then(
 ck (xle (xadd (xnat ↑i) 1) k) <|
 ck (xle (xadd (xix 0 (xnat ↑i) 3) 1) (xln bc)) <|
 ck (isI .i64 (nthD bc (xix 0 (xnat ↑i) 3))) <|
 bif xcm .eql (xwr .u64 (asI (nthD bc (xix 0 (xnat ↑i) 3)))) a then(
 ck (xle (xadd (xnat ↑i) 1) k) <|
 ck (xle (xadd (xadd (xix 0 (xnat ↑i) 3) 1) 1) (xln bc)) <|
 ck (isI .i64 (nthD bc (xadd (xix 0 (xnat ↑i) 3) 1))) <|
 bif xcm .eql (asI (nthD bc (xadd (xix 0 (xnat ↑i) 3) 1))) 3 then(
 ck (xle (xadd (xnat ↑i) 1) k) <|
 ck (xle (xadd (xadd (xix 0 (xnat ↑i) 3) 2) 1) (xln bc)) <|
 ck (isB (nthD bc (xadd (xix 0 (xnat ↑i) 3) 2))) <|
 bif xnot (asB (nthD bc (xadd (xix 0 (xnat ↑i) 3) 2))) then(
 K .normal [.slo 0 0 n 0,.any,.any,.slo 1 0 k 0,.slo 2 0 2 0,.int .i64 3,.slo 5 0 m 0,.int .u64 a,.bool true,.int .i64 (xar .add .i64 (↑i) 1),.any] (ql_h3_b1 n1 n2 wc bc r1 r2 rr) [])
 else(
 K .normal [.slo 0 0 n 0,.any,.any,.slo 1 0 k 0,.slo 2 0 2 0,.int .i64 3,.slo 5 0 m 0,.int .u64 a,.bool is,.int .i64 (xar .add .i64 (↑i) 1),.any] (ql_h3_b1 n1 n2 wc bc r1 r2 rr) []))
 else(
 K .normal [.slo 0 0 n 0,.any,.any,.slo 1 0 k 0,.slo 2 0 2 0,.int .i64 3,.slo 5 0 m 0,.int .u64 a,.bool is,.int .i64 (xar .add .i64 (↑i) 1),.any] (ql_h3_b1 n1 n2 wc bc r1 r2 rr) []))
 else(
 K .normal [.slo 0 0 n 0,.any,.any,.slo 1 0 k 0,.slo 2 0 2 0,.int .i64 3,.slo 5 0 m 0,.int .u64 a,.bool is,.int .i64 (xar .add .i64 (↑i) 1),.any] (ql_h3_b1 n1 n2 wc bc r1 r2 rr) []))
 else(
 K (.exit 4) [.slo 0 0 n 0,.any,.any,.slo 1 0 k 0,.slo 2 0 2 0,.int .i64 3,.slo 5 0 m 0,.int .u64 a,.bool is,.int .i64 ↑i,.any] (ql_h3_b1 n1 n2 wc bc r1 r2 rr) [])):=by kernel_rfl
theorem ql_i3 (n k n1 n2 m:Nat) (a:Int) (is:Bool) (wc bc r1 r2 rr:List LV) (K:Pk):(xsp prog cxs 40 93 (seg qlE 3 1) (mkTm 93 (qW3 n k m a is)) (mkS (qR3 wc bc r1 r2 rr n1 n2)) (vK qlL K))=(
 K .normal [.slo 0 0 n 0,.any,.any,.slo 1 0 k 0,.slo 2 0 2 0,.int .i64 3,.slo 5 0 m 0,.int .u64 a,.bool is,.any,.int .i64 0] [some (.ro wc),sC bc 3,sC [.slo 3 0 n1 0,.slo 4 0 n2 0] 1,sC r1 1,sC r2 1,sC rr 1] []):=by kernel_rfl
abbrev ql_j3_b1 (n1:Nat) (n2:Nat) (wc:List LV) (bc:List LV) (r1:List LV) (r2:List LV) (rr:List LV):List (Option LB):=[some (.ro wc),sC bc 3,sC [.slo 3 0 n1 0,.slo 4 0 n2 0] 1,sC r1 1,sC r2 1,sC rr 1]
theorem ql_j3 (n k n1 n2 m:Nat) (a:Int) (is:Bool) (i:Nat) (wc bc r1 r2 rr:List LV) (K:Pk):(xcode prog cxs 40 93 (loopOf (nthC qlE 4)) (mkTm 93 (qY3 n k m a is i)) (mkS (qR3 wc bc r1 r2 rr n1 n2)) (vK qlL K))=(
 bif xcm .lss ↑i ↑m then(
 ck (xle (xadd (xnat ↑i) 1) m) <|
 ck (xle (xadd (xix 0 (xnat ↑i) 1) 1) (xln rr)) <|
 ck (isI .i64 (nthD rr (xix 0 (xnat ↑i) 1))) <|
 bif xcm .eql (xwr .u64 (asI (nthD rr (xix 0 (xnat ↑i) 1)))) a then(
 K .normal [.slo 0 0 n 0,.any,.any,.slo 1 0 k 0,.slo 2 0 2 0,.int .i64 3,.slo 5 0 m 0,.int .u64 a,.bool false,.any,.int .i64 (xar .add .i64 (↑i) 1)] (ql_j3_b1 n1 n2 wc bc r1 r2 rr) [])
 else(
 K .normal [.slo 0 0 n 0,.any,.any,.slo 1 0 k 0,.slo 2 0 2 0,.int .i64 3,.slo 5 0 m 0,.int .u64 a,.bool is,.any,.int .i64 (xar .add .i64 (↑i) 1)] (ql_j3_b1 n1 n2 wc bc r1 r2 rr) []))
 else(
 K (.exit 6) [.slo 0 0 n 0,.any,.any,.slo 1 0 k 0,.slo 2 0 2 0,.int .i64 3,.slo 5 0 m 0,.int .u64 a,.bool is,.any,.int .i64 ↑i] (ql_j3_b1 n1 n2 wc bc r1 r2 rr) [])):=by kernel_rfl
theorem ql_k3 (n k n1 n2 m:Nat) (a:Int) (is:Bool) (wc bc r1 r2 rr:List LV) (K:Pk):(xsp prog cxs 40 93 (qlE.drop 5) (mkTm 93 (qW3 n k m a is)) (mkS (qR3 wc bc r1 r2 rr n1 n2)) (vK qlL K))=(
 bif xnot is then(
 K .ret [.slo 0 0 n 0,.nils,.bool false,.slo 1 0 k 0,.slo 2 0 2 0,.int .i64 3,.slo 5 0 m 0,.int .u64 a,.bool is,.any,.any] [some (.ro wc),sC bc 3,sC [.slo 3 0 n1 0,.slo 4 0 n2 0] 1,sC r1 1,sC r2 1,sC rr 1] [])
 else(
 ck (xle (xadd m 1) 1000000) <|
 ck (xle (xadd 0 (xmul m 1)) (xln rr)) <|
 ck (xnn (xwr .i64 a)) <|
 ck (xle (xadd (xnat (xwr .i64 a)) 1) n) <|
 ck (xle (xadd (xix 0 (xnat (xwr .i64 a)) 1) 1) (xln wc)) <|
 ck (isI .u64 (nthD wc (xix 0 (xnat (xwr .i64 a)) 1))) <|
 K .normal [.slo 0 0 n 0,.any,.any,.slo 1 0 k 0,.slo 2 0 2 0,.int .i64 3,.slo 7 0 (xadd m 1) 0,.int .u64 (asI (nthD wc (xix 0 (xnat (xwr .i64 a)) 1))),.bool is,.any,.any] [some (.ro wc),sC bc 3,sC [.slo 3 0 n1 0,.slo 4 0 n2 0] 1,sC r1 1,sC r2 1,sD,sN [.int .i64 (xwr .i64 a)],sC (xcat (xcut rr 0 (xmul m 1)) [.int .i64 (xwr .i64 a)]) 1] [])):=by kernel_rfl
theorem ql_l3 (n k n1 n2 m:Nat) (wc bc r1 r2 rr:List LV) (K:Pk):(xsp prog cxs 40 93 (qlC.drop 3) (mkTm 93 (qU3 n k m)) (mkS (qR3 wc bc r1 r2 rr n1 n2)) (vK qlL K))=(
 K .normal [.slo 0 0 n 0,.any,.any,.slo 1 0 k 0,.slo 7 0 3 0,.int .i64 3,.slo 5 0 m 0,.any,.any,.any,.any] [some (.ro wc),sC bc 3,sD,sC r1 1,sC r2 1,sC rr 1,sN [.slo 5 0 m 0],sC [.slo 3 0 n1 0,.slo 4 0 n2 0,.slo 5 0 m 0] 1] []):=by kernel_rfl
theorem ql_m3 (n k n1 n2 n3:Nat) (wc bc r1 r2 r3:List LV) (K:Pk):(xsp prog cxs 40 93 (qlB.drop 3) (mkTm 93 (qZ3 n k)) (mkS (qH4 wc bc r1 r2 r3 n1 n2 n3)) (vK qlL K))=(
 K .normal [.slo 0 0 n 0,.any,.any,.slo 1 0 k 0,.slo 2 0 3 0,.int .i64 4,.any,.any,.any,.any,.any] [some (.ro wc),sC bc 3,sC [.slo 3 0 n1 0,.slo 4 0 n2 0,.slo 5 0 n3 0] 1,sC r1 1,sC r2 1,sC r3 1] []):=by kernel_rfl
theorem ql_d4 (n k n1 n2 n3:Nat) (wc bc r1 r2 r3:List LV) (K:Pk):(xsp prog cxs 40 93 (seg qlB 0 2) (mkTm 93 (qT4 n k)) (mkS (qH4 wc bc r1 r2 r3 n1 n2 n3)) (vK qlL K))=(
 K .normal [.slo 0 0 n 0,.any,.any,.slo 1 0 k 0,.slo 2 0 3 0,.int .i64 4,.any,.any,.any,.any,.any] [some (.ro wc),sC bc 3,sC [.slo 3 0 n1 0,.slo 4 0 n2 0,.slo 5 0 n3 0] 1,sC r1 1,sC r2 1,sC r3 1] []):=by kernel_rfl
theorem ql_e4 (n k n1 n2 n3:Nat) (wc bc r1 r2 r3:List LV) (K:Pk):(xsp prog cxs 40 93 (seg qlC 0 2) (mkTm 93 (qT4 n k)) (mkS (qH4 wc bc r1 r2 r3 n1 n2 n3)) (vK qlL K))=(
 ck (xle 5 n) <|
 ck (xle 5 (xln wc)) <|
 ck (isI .u64 (nthD wc 4)) <|
 K .normal [.slo 0 0 n 0,.any,.any,.slo 1 0 k 0,.slo 2 0 3 0,.int .i64 4,.nils,.int .u64 (asI (nthD wc 4)),.any,.any,.any] [some (.ro wc),sC bc 3,sC [.slo 3 0 n1 0,.slo 4 0 n2 0,.slo 5 0 n3 0] 1,sC r1 1,sC r2 1,sC r3 1] []):=by kernel_rfl
abbrev ql_f4_b1 (n1:Nat) (n2:Nat) (n3:Nat) (wc:List LV) (bc:List LV) (r1:List LV) (r2:List LV) (r3:List LV) (rr:List LV):List (Option LB):=[some (.ro wc),sC bc 3,sC [.slo 3 0 n1 0,.slo 4 0 n2 0,.slo 5 0 n3 0] 1,sC r1 1,sC r2 1,sC r3 1,sC rr 1]
theorem ql_f4 (n k n1 n2 n3 m:Nat) (a:Int) (wc bc r1 r2 r3 rr:List LV) (K:Pk):(xsp prog cxs 40 93 (seg qlD 0 2) (mkTm 93 (qV4 n k m a)) (mkS (qR4 wc bc r1 r2 r3 rr n1 n2 n3)) (vK qlL K))=(
 bif xcm .neq a 0 then(
 K .normal [.slo 0 0 n 0,.any,.any,.slo 1 0 k 0,.slo 2 0 3 0,.int .i64 4,.slo 6 0 m 0,.int .u64 a,.any,.any,.any] (ql_f4_b1 n1 n2 n3 wc bc r1 r2 r3 rr) [])
 else(
 K (.exit 2) [.slo 0 0 n 0,.any,.any,.slo 1 0 k 0,.slo 2 0 3 0,.int .i64 4,.slo 6 0 m 0,.int .u64 a,.any,.any,.any] (ql_f4_b1 n1 n2 n3 wc bc r1 r2 r3 rr) [])):=by kernel_rfl
theorem ql_g4 (n k n1 n2 n3 m:Nat) (a:Int) (wc bc r1 r2 r3 rr:List LV) (K:Pk):(xsp prog cxs 40 93 (seg qlE 0 2) (mkTm 93 (qV4 n k m a)) (mkS (qR4 wc bc r1 r2 r3 rr n1 n2 n3)) (vK qlL K))=(
 K .normal [.slo 0 0 n 0,.any,.any,.slo 1 0 k 0,.slo 2 0 3 0,.int .i64 4,.slo 6 0 m 0,.int .u64 a,.bool false,.int .i64 0,.any] [some (.ro wc),sC bc 3,sC [.slo 3 0 n1 0,.slo 4 0 n2 0,.slo 5 0 n3 0] 1,sC r1 1,sC r2 1,sC r3 1,sC rr 1] []):=by kernel_rfl
abbrev ql_h4_b1 (n1:Nat) (n2:Nat) (n3:Nat) (wc:List LV) (bc:List LV) (r1:List LV) (r2:List LV) (r3:List LV) (rr:List LV):List (Option LB):=[some (.ro wc),sC bc 3,sC [.slo 3 0 n1 0,.slo 4 0 n2 0,.slo 5 0 n3 0] 1,sC r1 1,sC r2 1,sC r3 1,sC rr 1]
theorem ql_h4 (n k n1 n2 n3 m:Nat) (a:Int) (is:Bool) (i:Nat) (wc bc r1 r2 r3 rr:List LV) (K:Pk):(xcode prog cxs 40 93 (loopOf (nthC qlE 2)) (mkTm 93 (qX4 n k m a is i)) (mkS (qR4 wc bc r1 r2 r3 rr n1 n2 n3)) (vK qlL K))=(
 bif xcm .lss ↑i ↑k then(
 ck (xle (xadd (xnat ↑i) 1) k) <|
 ck (xle (xadd (xix 0 (xnat ↑i) 3) 1) (xln bc)) <|
 ck (isI .i64 (nthD bc (xix 0 (xnat ↑i) 3))) <|
 bif xcm .eql (xwr .u64 (asI (nthD bc (xix 0 (xnat ↑i) 3)))) a then(
 ck (xle (xadd (xnat ↑i) 1) k) <|
 ck (xle (xadd (xadd (xix 0 (xnat ↑i) 3) 1) 1) (xln bc)) <|
 ck (isI .i64 (nthD bc (xadd (xix 0 (xnat ↑i) 3) 1))) <|
 bif xcm .eql (asI (nthD bc (xadd (xix 0 (xnat ↑i) 3) 1))) 4 then(
 ck (xle (xadd (xnat ↑i) 1) k) <|
 ck (xle (xadd (xadd (xix 0 (xnat ↑i) 3) 2) 1) (xln bc)) <|
 ck (isB (nthD bc (xadd (xix 0 (xnat ↑i) 3) 2))) <|
 bif xnot (asB (nthD bc (xadd (xix 0 (xnat ↑i) 3) 2))) then(
 K .normal [.slo 0 0 n 0,.any,.any,.slo 1 0 k 0,.slo 2 0 3 0,.int .i64 4,.slo 6 0 m 0,.int .u64 a,.bool true,.int .i64 (xar .add .i64 (↑i) 1),.any] (ql_h4_b1 n1 n2 n3 wc bc r1 r2 r3 rr) [])
 else(
 K .normal [.slo 0 0 n 0,.any,.any,.slo 1 0 k 0,.slo 2 0 3 0,.int .i64 4,.slo 6 0 m 0,.int .u64 a,.bool is,.int .i64 (xar .add .i64 (↑i) 1),.any] (ql_h4_b1 n1 n2 n3 wc bc r1 r2 r3 rr) []))
 else(
 K .normal [.slo 0 0 n 0,.any,.any,.slo 1 0 k 0,.slo 2 0 3 0,.int .i64 4,.slo 6 0 m 0,.int .u64 a,.bool is,.int .i64 (xar .add .i64 (↑i) 1),.any] (ql_h4_b1 n1 n2 n3 wc bc r1 r2 r3 rr) []))
 else(
 K .normal [.slo 0 0 n 0,.any,.any,.slo 1 0 k 0,.slo 2 0 3 0,.int .i64 4,.slo 6 0 m 0,.int .u64 a,.bool is,.int .i64 (xar .add .i64 (↑i) 1),.any] (ql_h4_b1 n1 n2 n3 wc bc r1 r2 r3 rr) []))
 else(
 K (.exit 4) [.slo 0 0 n 0,.any,.any,.slo 1 0 k 0,.slo 2 0 3 0,.int .i64 4,.slo 6 0 m 0,.int .u64 a,.bool is,.int .i64 ↑i,.any] (ql_h4_b1 n1 n2 n3 wc bc r1 r2 r3 rr) [])):=by kernel_rfl
theorem ql_i4 (n k n1 n2 n3 m:Nat) (a:Int) (is:Bool) (wc bc r1 r2 r3 rr:List LV) (K:Pk):(xsp prog cxs 40 93 (seg qlE 3 1) (mkTm 93 (qW4 n k m a is)) (mkS (qR4 wc bc r1 r2 r3 rr n1 n2 n3)) (vK qlL K))=(
 K .normal [.slo 0 0 n 0,.any,.any,.slo 1 0 k 0,.slo 2 0 3 0,.int .i64 4,.slo 6 0 m 0,.int .u64 a,.bool is,.any,.int .i64 0] [some (.ro wc),sC bc 3,sC [.slo 3 0 n1 0,.slo 4 0 n2 0,.slo 5 0 n3 0] 1,sC r1 1,sC r2 1,sC r3 1,sC rr 1] []):=by kernel_rfl
abbrev ql_j4_b1 (n1:Nat) (n2:Nat) (n3:Nat) (wc:List LV) (bc:List LV) (r1:List LV) (r2:List LV) (r3:List LV) (rr:List LV):List (Option LB):=[some (.ro wc),sC bc 3,sC [.slo 3 0 n1 0,.slo 4 0 n2 0,.slo 5 0 n3 0] 1,sC r1 1,sC r2 1,sC r3 1,sC rr 1]
theorem ql_j4 (n k n1 n2 n3 m:Nat) (a:Int) (is:Bool) (i:Nat) (wc bc r1 r2 r3 rr:List LV) (K:Pk):(xcode prog cxs 40 93 (loopOf (nthC qlE 4)) (mkTm 93 (qY4 n k m a is i)) (mkS (qR4 wc bc r1 r2 r3 rr n1 n2 n3)) (vK qlL K))=(
 bif xcm .lss ↑i ↑m then(
 ck (xle (xadd (xnat ↑i) 1) m) <|
 ck (xle (xadd (xix 0 (xnat ↑i) 1) 1) (xln rr)) <|
 ck (isI .i64 (nthD rr (xix 0 (xnat ↑i) 1))) <|
 bif xcm .eql (xwr .u64 (asI (nthD rr (xix 0 (xnat ↑i) 1)))) a then(
 K .normal [.slo 0 0 n 0,.any,.any,.slo 1 0 k 0,.slo 2 0 3 0,.int .i64 4,.slo 6 0 m 0,.int .u64 a,.bool false,.any,.int .i64 (xar .add .i64 (↑i) 1)] (ql_j4_b1 n1 n2 n3 wc bc r1 r2 r3 rr) [])
 else(
 K .normal [.slo 0 0 n 0,.any,.any,.slo 1 0 k 0,.slo 2 0 3 0,.int .i64 4,.slo 6 0 m 0,.int .u64 a,.bool is,.any,.int .i64 (xar .add .i64 (↑i) 1)] (ql_j4_b1 n1 n2 n3 wc bc r1 r2 r3 rr) []))
 else(
 K (.exit 6) [.slo 0 0 n 0,.any,.any,.slo 1 0 k 0,.slo 2 0 3 0,.int .i64 4,.slo 6 0 m 0,.int .u64 a,.bool is,.any,.int .i64 ↑i] (ql_j4_b1 n1 n2 n3 wc bc r1 r2 r3 rr) [])):=by kernel_rfl
theorem ql_k4 (n k n1 n2 n3 m:Nat) (a:Int) (is:Bool) (wc bc r1 r2 r3 rr:List LV) (K:Pk):(xsp prog cxs 40 93 (qlE.drop 5) (mkTm 93 (qW4 n k m a is)) (mkS (qR4 wc bc r1 r2 r3 rr n1 n2 n3)) (vK qlL K))=(
 bif xnot is then(
 K .ret [.slo 0 0 n 0,.nils,.bool false,.slo 1 0 k 0,.slo 2 0 3 0,.int .i64 4,.slo 6 0 m 0,.int .u64 a,.bool is,.any,.any] [some (.ro wc),sC bc 3,sC [.slo 3 0 n1 0,.slo 4 0 n2 0,.slo 5 0 n3 0] 1,sC r1 1,sC r2 1,sC r3 1,sC rr 1] [])
 else(
 ck (xle (xadd m 1) 1000000) <|
 ck (xle (xadd 0 (xmul m 1)) (xln rr)) <|
 ck (xnn (xwr .i64 a)) <|
 ck (xle (xadd (xnat (xwr .i64 a)) 1) n) <|
 ck (xle (xadd (xix 0 (xnat (xwr .i64 a)) 1) 1) (xln wc)) <|
 ck (isI .u64 (nthD wc (xix 0 (xnat (xwr .i64 a)) 1))) <|
 K .normal [.slo 0 0 n 0,.any,.any,.slo 1 0 k 0,.slo 2 0 3 0,.int .i64 4,.slo 8 0 (xadd m 1) 0,.int .u64 (asI (nthD wc (xix 0 (xnat (xwr .i64 a)) 1))),.bool is,.any,.any] [some (.ro wc),sC bc 3,sC [.slo 3 0 n1 0,.slo 4 0 n2 0,.slo 5 0 n3 0] 1,sC r1 1,sC r2 1,sC r3 1,sD,sN [.int .i64 (xwr .i64 a)],sC (xcat (xcut rr 0 (xmul m 1)) [.int .i64 (xwr .i64 a)]) 1] [])):=by kernel_rfl
theorem ql_l4 (n k n1 n2 n3 m:Nat) (wc bc r1 r2 r3 rr:List LV) (K:Pk):(xsp prog cxs 40 93 (qlC.drop 3) (mkTm 93 (qU4 n k m)) (mkS (qR4 wc bc r1 r2 r3 rr n1 n2 n3)) (vK qlL K))=(
 K .normal [.slo 0 0 n 0,.any,.any,.slo 1 0 k 0,.slo 8 0 4 0,.int .i64 4,.slo 6 0 m 0,.any,.any,.any,.any] [some (.ro wc),sC bc 3,sD,sC r1 1,sC r2 1,sC r3 1,sC rr 1,sN [.slo 6 0 m 0],sC [.slo 3 0 n1 0,.slo 4 0 n2 0,.slo 5 0 n3 0,.slo 6 0 m 0] 1] []):=by kernel_rfl
theorem ql_m4 (n k n1 n2 n3 n4:Nat) (wc bc r1 r2 r3 r4:List LV) (K:Pk):(xsp prog cxs 40 93 (qlB.drop 3) (mkTm 93 (qZ4 n k)) (mkS (qH5 wc bc r1 r2 r3 r4 n1 n2 n3 n4)) (vK qlL K))=(
 K .normal [.slo 0 0 n 0,.any,.any,.slo 1 0 k 0,.slo 2 0 4 0,.int .i64 5,.any,.any,.any,.any,.any] [some (.ro wc),sC bc 3,sC [.slo 3 0 n1 0,.slo 4 0 n2 0,.slo 5 0 n3 0,.slo 6 0 n4 0] 1,sC r1 1,sC r2 1,sC r3 1,sC r4 1] []):=by kernel_rfl
theorem ql_d5 (n k n1 n2 n3 n4:Nat) (wc bc r1 r2 r3 r4:List LV) (K:Pk):(xsp prog cxs 40 93 (seg qlB 0 2) (mkTm 93 (qT5 n k)) (mkS (qH5 wc bc r1 r2 r3 r4 n1 n2 n3 n4)) (vK qlL K))=(
 K (.exit 0) [.slo 0 0 n 0,.any,.any,.slo 1 0 k 0,.slo 2 0 4 0,.int .i64 5,.any,.any,.any,.any,.any] [some (.ro wc),sC bc 3,sC [.slo 3 0 n1 0,.slo 4 0 n2 0,.slo 5 0 n3 0,.slo 6 0 n4 0] 1,sC r1 1,sC r2 1,sC r3 1,sC r4 1] []):=by kernel_rfl
theorem ql_z (n k n1 n2 n3 n4:Nat) (wc bc r1 r2 r3 r4:List LV) (K:Pk):(xsp prog cxs 40 93 ((sp prog 17).drop 7) (mkTm 93 (qT5 n k)) (mkS (qH5 wc bc r1 r2 r3 r4 n1 n2 n3 n4)) (vK qlL K))=(
 K .ret [.slo 0 0 n 0,.slo 2 0 4 0,.bool true,.slo 1 0 k 0,.slo 2 0 4 0,.int .i64 5,.any,.any,.any,.any,.any] [some (.ro wc),sC bc 3,sC [.slo 3 0 n1 0,.slo 4 0 n2 0,.slo 5 0 n3 0,.slo 6 0 n4 0] 1,sC r1 1,sC r2 1,sC r3 1,sC r4 1] []):=by kernel_rfl
end
end Go.Lev
