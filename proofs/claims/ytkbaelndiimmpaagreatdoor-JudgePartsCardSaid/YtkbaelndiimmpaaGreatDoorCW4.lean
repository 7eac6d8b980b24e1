/- chapter 11: Lists of the code: trees -/
import Derived.Test.YtkbaelndiimmpaaGreatDoorCW3
import Derived.Test.YtkbaelndiimmpaaGreatDoorLc
import Derived.Test.YtkbaelndiimmpaaGreatDoorChecked
import Derived.KernelRfl
namespace Go.Lev
set_option linter.unusedSimpArgs false
set_option linter.unusedVariables false
open Go.RowKit
open Go.Proofs.Tryz (prog)
set_option maxRecDepth 100000
noncomputable section
def cxs:Cx:=cxl [(19,blkG),(22,olkG)]
abbrev lsL:List Nat:=[0,2,3,6,9,10,11,23,24,25]
abbrev lsF (n k i:Nat):List (Nat×LV):=[(0,.slo 0 0 n 0),(6,.slo 2 0 n 0),(23,.slo 1 0 k 0),(24,.int .i64 k),(25,.int .i64 i)]
abbrev lsO (n:Nat) (c:Int):List (Nat×LV):=[(0,.slo 0 0 n 0),(6,.slo 1 0 n 0),(9,.slo 2 0 4 0),(10,.int .i64 c)]
abbrev lsT (n:Nat) (c a:Int):List (Nat×LV):=[(0,.slo 0 0 n 0),(6,.slo 1 0 n 0),(9,.slo 2 0 4 0),(10,.int .i64 c),(11,.int .u64 a)]
abbrev lsH (wc fc:List LV) (n1 n2 n3 n4:Nat) (r1 r2 r3 r4:List LV):List LB:=[.ro wc,.cells fc (some 1),.cells [.slo 3 0 n1 0,.slo 4 0 n2 0,.slo 5 0 n3 0,.slo 6 0 n4 0] (some 1),.cells r1 (some 1),.cells r2 (some 1),.cells r3 (some 1),.cells r4 (some 1)]
abbrev lsB:List Code:=spineL (loopOf (nthC (sp prog 15) 9))
abbrev lsC:List Code:=spineL (blockIn (nthC lsB 2))
theorem ls_a (n:Nat) (wc:List LV) (K:Pk):(xsp prog cxs 40 85 (seg (sp prog 15) 0 6) (tm0 [.slo 0 0 n 0]) (mkS [.ro wc]) (vK lsL K))=(
 ck (okU wc n) <|
 bif xcm .neq (bkE wc) 0 then(
 K .ret [.slo 0 0 n 0,.nils,.int .i64 (bkE wc),.tup [],.tup [],.tup [],.tup [],.tup [],.tup [],.tup []] [some (.ro wc),sC (bkC wc) 3] [])
 else(
 ck (xle (xnat ↑n) (xnat ↑n)) <|
 ck (xle (xnat ↑n) 100000) <|
 K .normal [.slo 0 0 n 0,.nils,.int .i64 0,.sl 2 0 (xnat ↑n) (xnat ↑n),.tup [],.tup [],.tup [],.slo 1 0 (bkN wc) 0,.int .i64 ↑(bkN wc),.int .i64 0] [some (.ro wc),sC (bkC wc) 3,sN (xrep (xnat ↑n) [.int .i64 0])] [])):=by kernel_rfl
theorem ls_b (n k i:Nat) (wc bc fc:List LV) (K:Pk):(xcode prog cxs 40 85 (loopOf (nthC (sp prog 15) 6)) (mkTm 85 (lsF n k i)) (mkS [.ro wc,.cells bc (some 3),.cells fc (some 1)]) (vK lsL K))=(
 bif xcm .lss ↑i ↑k then(
 ck (xle (xadd (xnat ↑i) 1) k) <|
 ck (xle (xadd (xix 0 (xnat ↑i) 3) 3) (xln bc)) <|
 ck (isI .i64 (nthD bc (xix 0 (xnat ↑i) 3))) <|
 ck (isI .i64 (nthD bc (xadd (xix 0 (xnat ↑i) 3) 1))) <|
 ck (isB (nthD bc (xadd (xadd (xix 0 (xnat ↑i) 3) 1) 1))) <|
 bif xnot (asB (nthD bc (xadd (xadd (xix 0 (xnat ↑i) 3) 1) 1))) then(
 ck (xnn (asI (nthD bc (xix 0 (xnat ↑i) 3)))) <|
 ck (xle (xadd (xnat (asI (nthD bc (xix 0 (xnat ↑i) 3)))) 1) n) <|
 ck (xle (xadd (xix 0 (xnat (asI (nthD bc (xix 0 (xnat ↑i) 3)))) 1) 1) (xln fc)) <|
 K .normal [.slo 0 0 n 0,.any,.any,.slo 2 0 n 0,.any,.any,.any,.slo 1 0 k 0,.int .i64 ↑k,.int .i64 (xar .add .i64 (↑i) 1)] [some (.ro wc),sC bc 3,sC (xlay fc (xix 0 (xnat (asI (nthD bc (xix 0 (xnat ↑i) 3)))) 1) [.int .i64 (asI (nthD bc (xadd (xix 0 (xnat ↑i) 3) 1)))]) 1,sN [.int .i64 (asI (nthD bc (xix 0 (xnat ↑i) 3))),.int .i64 (asI (nthD bc (xadd (xix 0 (xnat ↑i) 3) 1))),.bool (asB (nthD bc (xadd (xadd (xix 0 (xnat ↑i) 3) 1) 1)))]] [])
 else(
 K .normal [.slo 0 0 n 0,.any,.any,.slo 2 0 n 0,.any,.any,.any,.slo 1 0 k 0,.int .i64 ↑k,.int .i64 (xar .add .i64 (↑i) 1)] [some (.ro wc),sC bc 3,sC fc 1,sN [.int .i64 (asI (nthD bc (xix 0 (xnat ↑i) 3))),.int .i64 (asI (nthD bc (xadd (xix 0 (xnat ↑i) 3) 1))),.bool (asB (nthD bc (xadd (xadd (xix 0 (xnat ↑i) 3) 1) 1)))]] []))
 else(
 K (.exit 0) [.slo 0 0 n 0,.any,.any,.slo 2 0 n 0,.any,.any,.any,.slo 1 0 k 0,.int .i64 ↑k,.int .i64 ↑i] [some (.ro wc),sC bc 3,sC fc 1] [])):=by kernel_rfl
theorem ls_c (n k i:Nat) (wc bc fc:List LV) (K:Pk):(xsp prog cxs 40 85 (seg (sp prog 15) 7 2) (mkTm 85 (lsF n k i)) (mkS [.ro wc,.cells bc (some 3),.cells fc (some 1)]) (vK lsL K))=(
 K .normal [.slo 0 0 n 0,.any,.any,.slo 2 0 n 0,.sl 3 0 4 4,.int .i64 1,.any,.slo 1 0 k 0,.int .i64 ↑k,.int .i64 ↑i] [some (.ro wc),sC bc 3,sC fc 1,sN [.nils,.nils,.nils,.nils]] []):=by kernel_rfl
abbrev ls_d_b1 (n1:Nat) (n2:Nat) (n3:Nat) (n4:Nat) (wc:List LV) (fc:List LV) (r1:List LV) (r2:List LV) (r3:List LV) (r4:List LV):List (Option LB):=[some (.ro wc),sC fc 1,sC [.slo 3 0 n1 0,.slo 4 0 n2 0,.slo 5 0 n3 0,.slo 6 0 n4 0] 1,sC r1 1,sC r2 1,sC r3 1,sC r4 1]
theorem ls_d (n:Nat) (c:Int) (n1 n2 n3 n4:Nat) (wc fc r1 r2 r3 r4:List LV) (K:Pk):(xsp prog cxs 40 85 (seg lsB 0 2) (mkTm 85 (lsO n c)) (mkS (lsH wc fc n1 n2 n3 n4 r1 r2 r3 r4)) (vK lsL K))=(
 bif xcm .leq c 4 then(
 K .normal [.slo 0 0 n 0,.any,.any,.slo 1 0 n 0,.slo 2 0 4 0,.int .i64 c,.any,.any,.any,.any] (ls_d_b1 n1 n2 n3 n4 wc fc r1 r2 r3 r4) [])
 else(
 K (.exit 2) [.slo 0 0 n 0,.any,.any,.slo 1 0 n 0,.slo 2 0 4 0,.int .i64 c,.any,.any,.any,.any] (ls_d_b1 n1 n2 n3 n4 wc fc r1 r2 r3 r4) [])):=by kernel_rfl
theorem ls_e (n:Nat) (c:Int) (n1 n2 n3 n4:Nat) (wc fc r1 r2 r3 r4:List LV) (K:Pk):(xsp prog cxs 40 85 (seg lsC 0 1) (mkTm 85 (lsO n c)) (mkS (lsH wc fc n1 n2 n3 n4 r1 r2 r3 r4)) (vK lsL K))=(
 ck (xnn (xar .add .i64 0 c)) <|
 ck (xle (xadd (xnat (xar .add .i64 0 c)) 1) n) <|
 ck (xle (xadd (xix 0 (xnat (xar .add .i64 0 c)) 1) 1) (xln wc)) <|
 ck (isI .u64 (nthD wc (xix 0 (xnat (xar .add .i64 0 c)) 1))) <|
 K .normal [.slo 0 0 n 0,.any,.any,.slo 1 0 n 0,.slo 2 0 4 0,.int .i64 c,.int .u64 (asI (nthD wc (xix 0 (xnat (xar .add .i64 0 c)) 1))),.any,.any,.any] [some (.ro wc),sC fc 1,sC [.slo 3 0 n1 0,.slo 4 0 n2 0,.slo 5 0 n3 0,.slo 6 0 n4 0] 1,sC r1 1,sC r2 1,sC r3 1,sC r4 1] []):=by kernel_rfl
abbrev ls_1_b1 (n1:Nat) (n2:Nat) (n3:Nat) (n4:Nat) (wc:List LV) (fc:List LV) (r1:List LV) (r2:List LV) (r3:List LV) (r4:List LV):List (Option LB):=[some (.ro wc),sC fc 1,sC [.slo 3 0 n1 0,.slo 4 0 n2 0,.slo 5 0 n3 0,.slo 6 0 n4 0] 1,sC r1 1,sC r2 1,sC r3 1,sC r4 1]
theorem ls_1 (n:Nat) (a:Int) (n1 n2 n3 n4:Nat) (wc fc r1 r2 r3 r4:List LV) (K:Pk):(xcode prog cxs 40 85 (loopOf (nthC lsC 1)) (mkTm 85 (lsT n 1 a)) (mkS (lsH wc fc n1 n2 n3 n4 r1 r2 r3 r4)) (vK lsL K))=(
 bif xcm .neq a 0 then(
 bif xcm .geq a (xwr .u64 ↑n) then(
 K .ret [.slo 0 0 n 0,.nils,.int .i64 12,.slo 1 0 n 0,.slo 2 0 4 0,.int .i64 1,.int .u64 a,.any,.any,.any] (ls_1_b1 n1 n2 n3 n4 wc fc r1 r2 r3 r4) [])
 else(
 ck (xnn a) <|
 ck (xle (xadd (xnat a) 1) n) <|
 ck (xle (xadd (xix 0 (xnat a) 1) 1) (xln fc)) <|
 ck (isI .i64 (nthD fc (xix 0 (xnat a) 1))) <|
 bif xcm .neq (asI (nthD fc (xix 0 (xnat a) 1))) 1 then(
 K .ret [.slo 0 0 n 0,.nils,.int .i64 12,.slo 1 0 n 0,.slo 2 0 4 0,.int .i64 1,.int .u64 a,.any,.any,.any] (ls_1_b1 n1 n2 n3 n4 wc fc r1 r2 r3 r4) [])
 else(
 ck (xnn a) <|
 ck (xle (xadd (xnat a) 1) n) <|
 ck (xle (xadd (xix 0 (xnat a) 1) 1) (xln fc)) <|
 ck (xle (xadd n1 1) 1000000) <|
 ck (xle (xadd 0 (xmul n1 1)) (xln r1)) <|
 ck (xnn a) <|
 ck (xle (xadd (xnat a) 1) n) <|
 ck (xle (xadd (xix 0 (xnat a) 1) 1) (xln wc)) <|
 ck (isI .u64 (nthD wc (xix 0 (xnat a) 1))) <|
 K .normal [.slo 0 0 n 0,.any,.any,.slo 1 0 n 0,.slo 2 0 4 0,.int .i64 1,.int .u64 (asI (nthD wc (xix 0 (xnat a) 1))),.any,.any,.any] [some (.ro wc),sC (xlay fc (xix 0 (xnat a) 1) [.int .i64 0]) 1,sC [.slo 8 0 (xadd n1 1) 0,.slo 4 0 n2 0,.slo 5 0 n3 0,.slo 6 0 n4 0] 1,sD,sC r2 1,sC r3 1,sC r4 1,sN [.int .i64 (xwr .i64 a)],sC (xcat (xcut r1 0 (xmul n1 1)) [.int .i64 (xwr .i64 a)]) 1] [])))
 else(
 K (.exit 4) [.slo 0 0 n 0,.any,.any,.slo 1 0 n 0,.slo 2 0 4 0,.int .i64 1,.int .u64 a,.any,.any,.any] (ls_1_b1 n1 n2 n3 n4 wc fc r1 r2 r3 r4) [])):=by kernel_rfl
abbrev ls_2_b1 (n1:Nat) (n2:Nat) (n3:Nat) (n4:Nat) (wc:List LV) (fc:List LV) (r1:List LV) (r2:List LV) (r3:List LV) (r4:List LV):List (Option LB):=[some (.ro wc),sC fc 1,sC [.slo 3 0 n1 0,.slo 4 0 n2 0,.slo 5 0 n3 0,.slo 6 0 n4 0] 1,sC r1 1,sC r2 1,sC r3 1,sC r4 1]
theorem ls_2 (n:Nat) (a:Int) (n1 n2 n3 n4:Nat) (wc fc r1 r2 r3 r4:List LV) (K:Pk):(xcode prog cxs 40 85 (loopOf (nthC lsC 1)) (mkTm 85 (lsT n 2 a)) (mkS (lsH wc fc n1 n2 n3 n4 r1 r2 r3 r4)) (vK lsL K))=(
 bif xcm .neq a 0 then(
 bif xcm .geq a (xwr .u64 ↑n) then(
 K .ret [.slo 0 0 n 0,.nils,.int .i64 12,.slo 1 0 n 0,.slo 2 0 4 0,.int .i64 2,.int .u64 a,.any,.any,.any] (ls_2_b1 n1 n2 n3 n4 wc fc r1 r2 r3 r4) [])
 else(
 ck (xnn a) <|
 ck (xle (xadd (xnat a) 1) n) <|
 ck (xle (xadd (xix 0 (xnat a) 1) 1) (xln fc)) <|
 ck (isI .i64 (nthD fc (xix 0 (xnat a) 1))) <|
 bif xcm .neq (asI (nthD fc (xix 0 (xnat a) 1))) 2 then(
 K .ret [.slo 0 0 n 0,.nils,.int .i64 12,.slo 1 0 n 0,.slo 2 0 4 0,.int .i64 2,.int .u64 a,.any,.any,.any] (ls_2_b1 n1 n2 n3 n4 wc fc r1 r2 r3 r4) [])
 else(
 ck (xnn a) <|
 ck (xle (xadd (xnat a) 1) n) <|
 ck (xle (xadd (xix 0 (xnat a) 1) 1) (xln fc)) <|
 ck (xle (xadd n2 1) 1000000) <|
 ck (xle (xadd 0 (xmul n2 1)) (xln r2)) <|
 ck (xnn a) <|
 ck (xle (xadd (xnat a) 1) n) <|
 ck (xle (xadd (xix 0 (xnat a) 1) 1) (xln wc)) <|
 ck (isI .u64 (nthD wc (xix 0 (xnat a) 1))) <|
 K .normal [.slo 0 0 n 0,.any,.any,.slo 1 0 n 0,.slo 2 0 4 0,.int .i64 2,.int .u64 (asI (nthD wc (xix 0 (xnat a) 1))),.any,.any,.any] [some (.ro wc),sC (xlay fc (xix 0 (xnat a) 1) [.int .i64 0]) 1,sC [.slo 3 0 n1 0,.slo 8 0 (xadd n2 1) 0,.slo 5 0 n3 0,.slo 6 0 n4 0] 1,sC r1 1,sD,sC r3 1,sC r4 1,sN [.int .i64 (xwr .i64 a)],sC (xcat (xcut r2 0 (xmul n2 1)) [.int .i64 (xwr .i64 a)]) 1] [])))
 else(
 K (.exit 4) [.slo 0 0 n 0,.any,.any,.slo 1 0 n 0,.slo 2 0 4 0,.int .i64 2,.int .u64 a,.any,.any,.any] (ls_2_b1 n1 n2 n3 n4 wc fc r1 r2 r3 r4) [])):=by kernel_rfl
abbrev ls_3_b1 (n1:Nat) (n2:Nat) (n3:Nat) (n4:Nat) (wc:List LV) (fc:List LV) (r1:List LV) (r2:List LV) (r3:List LV) (r4:List LV):List (Option LB):=[some (.ro wc),sC fc 1,sC [.slo 3 0 n1 0,.slo 4 0 n2 0,.slo 5 0 n3 0,.slo 6 0 n4 0] 1,sC r1 1,sC r2 1,sC r3 1,sC r4 1]
theorem ls_3 (n:Nat) (a:Int) (n1 n2 n3 n4:Nat) (wc fc r1 r2 r3 r4:List LV) (K:Pk):(xcode prog cxs 40 85 (loopOf (nthC lsC 1)) (mkTm 85 (lsT n 3 a)) (mkS (lsH wc fc n1 n2 n3 n4 r1 r2 r3 r4)) (vK lsL K))=(
 bif xcm .neq a 0 then(
 bif xcm .geq a (xwr .u64 ↑n) then(
 K .ret [.slo 0 0 n 0,.nils,.int .i64 12,.slo 1 0 n 0,.slo 2 0 4 0,.int .i64 3,.int .u64 a,.any,.any,.any] (ls_3_b1 n1 n2 n3 n4 wc fc r1 r2 r3 r4) [])
 else(
 ck (xnn a) <|
 ck (xle (xadd (xnat a) 1) n) <|
 ck (xle (xadd (xix 0 (xnat a) 1) 1) (xln fc)) <|
 ck (isI .i64 (nthD fc (xix 0 (xnat a) 1))) <|
 bif xcm .neq (asI (nthD fc (xix 0 (xnat a) 1))) 3 then(
 K .ret [.slo 0 0 n 0,.nils,.int .i64 12,.slo 1 0 n 0,.slo 2 0 4 0,.int .i64 3,.int .u64 a,.any,.any,.any] (ls_3_b1 n1 n2 n3 n4 wc fc r1 r2 r3 r4) [])
 else(
 ck (xnn a) <|
 ck (xle (xadd (xnat a) 1) n) <|
 ck (xle (xadd (xix 0 (xnat a) 1) 1) (xln fc)) <|
 ck (xle (xadd n3 1) 1000000) <|
 ck (xle (xadd 0 (xmul n3 1)) (xln r3)) <|
 ck (xnn a) <|
 ck (xle (xadd (xnat a) 1) n) <|
 ck (xle (xadd (xix 0 (xnat a) 1) 1) (xln wc)) <|
 ck (isI .u64 (nthD wc (xix 0 (xnat a) 1))) <|
 K .normal [.slo 0 0 n 0,.any,.any,.slo 1 0 n 0,.slo 2 0 4 0,.int .i64 3,.int .u64 (asI (nthD wc (xix 0 (xnat a) 1))),.any,.any,.any] [some (.ro wc),sC (xlay fc (xix 0 (xnat a) 1) [.int .i64 0]) 1,sC [.slo 3 0 n1 0,.slo 4 0 n2 0,.slo 8 0 (xadd n3 1) 0,.slo 6 0 n4 0] 1,sC r1 1,sC r2 1,sD,sC r4 1,sN [.int .i64 (xwr .i64 a)],sC (xcat (xcut r3 0 (xmul n3 1)) [.int .i64 (xwr .i64 a)]) 1] [])))
 else(
 K (.exit 4) [.slo 0 0 n 0,.any,.any,.slo 1 0 n 0,.slo 2 0 4 0,.int .i64 3,.int .u64 a,.any,.any,.any] (ls_3_b1 n1 n2 n3 n4 wc fc r1 r2 r3 r4) [])):=by kernel_rfl
abbrev ls_4_b1 (n1:Nat) (n2:Nat) (n3:Nat) (n4:Nat) (wc:List LV) (fc:List LV) (r1:List LV) (r2:List LV) (r3:List LV) (r4:List LV):List (Option LB):=[some (.ro wc),sC fc 1,sC [.slo 3 0 n1 0,.slo 4 0 n2 0,.slo 5 0 n3 0,.slo 6 0 n4 0] 1,sC r1 1,sC r2 1,sC r3 1,sC r4 1]
theorem ls_4 (n:Nat) (a:Int) (n1 n2 n3 n4:Nat) (wc fc r1 r2 r3 r4:List LV) (K:Pk):(xcode prog cxs 40 85 (loopOf (nthC lsC 1)) (mkTm 85 (lsT n 4 a)) (mkS (lsH wc fc n1 n2 n3 n4 r1 r2 r3 r4)) (vK lsL K))=(
 bif xcm .neq a 0 then(
 bif xcm .geq a (xwr .u64 ↑n) then(
 K .ret [.slo 0 0 n 0,.nils,.int .i64 12,.slo 1 0 n 0,.slo 2 0 4 0,.int .i64 4,.int .u64 a,.any,.any,.any] (ls_4_b1 n1 n2 n3 n4 wc fc r1 r2 r3 r4) [])
 else(
 ck (xnn a) <|
 ck (xle (xadd (xnat a) 1) n) <|
 ck (xle (xadd (xix 0 (xnat a) 1) 1) (xln fc)) <|
 ck (isI .i64 (nthD fc (xix 0 (xnat a) 1))) <|
 bif xcm .neq (asI (nthD fc (xix 0 (xnat a) 1))) 4 then(
 K .ret [.slo 0 0 n 0,.nils,.int .i64 12,.slo 1 0 n 0,.slo 2 0 4 0,.int .i64 4,.int .u64 a,.any,.any,.any] (ls_4_b1 n1 n2 n3 n4 wc fc r1 r2 r3 r4) [])
 else(
 ck (xnn a) <|
 ck (xle (xadd (xnat a) 1) n) <|
 ck (xle (xadd (xix 0 (xnat a) 1) 1) (xln fc)) <|
 ck (xle (xadd n4 1) 1000000) <|
 ck (xle (xadd 0 (xmul n4 1)) (xln r4)) <|
 ck (xnn a) <|
 ck (xle (xadd (xnat a) 1) n) <|
 ck (xle (xadd (xix 0 (xnat a) 1) 1) (xln wc)) <|
 ck (isI .u64 (nthD wc (xix 0 (xnat a) 1))) <|
 K .normal [.slo 0 0 n 0,.any,.any,.slo 1 0 n 0,.slo 2 0 4 0,.int .i64 4,.int .u64 (asI (nthD wc (xix 0 (xnat a) 1))),.any,.any,.any] [some (.ro wc),sC (xlay fc (xix 0 (xnat a) 1) [.int .i64 0]) 1,sC [.slo 3 0 n1 0,.slo 4 0 n2 0,.slo 5 0 n3 0,.slo 8 0 (xadd n4 1) 0] 1,sC r1 1,sC r2 1,sC r3 1,sD,sN [.int .i64 (xwr .i64 a)],sC (xcat (xcut r4 0 (xmul n4 1)) [.int .i64 (xwr .i64 a)]) 1] [])))
 else(
 K (.exit 4) [.slo 0 0 n 0,.any,.any,.slo 1 0 n 0,.slo 2 0 4 0,.int .i64 4,.int .u64 a,.any,.any,.any] (ls_4_b1 n1 n2 n3 n4 wc fc r1 r2 r3 r4) [])):=by kernel_rfl
theorem ls_f (n:Nat) (c:Int) (n1 n2 n3 n4:Nat) (wc fc r1 r2 r3 r4:List LV) (K:Pk):(xsp prog cxs 40 85 (lsB.drop 3) (mkTm 85 (lsO n c)) (mkS (lsH wc fc n1 n2 n3 n4 r1 r2 r3 r4)) (vK lsL K))=(
 K .normal [.slo 0 0 n 0,.any,.any,.slo 1 0 n 0,.slo 2 0 4 0,.int .i64 (xar .add .i64 c 1),.any,.any,.any,.any] [some (.ro wc),sC fc 1,sC [.slo 3 0 n1 0,.slo 4 0 n2 0,.slo 5 0 n3 0,.slo 6 0 n4 0] 1,sC r1 1,sC r2 1,sC r3 1,sC r4 1] []):=by kernel_rfl
theorem ls_z (n n1 n2 n3 n4:Nat) (wc fc r1 r2 r3 r4:List LV) (K:Pk):(xsp prog cxs 40 85 ((sp prog 15).drop 10) (mkTm 85 (lsO n 5)) (mkS (lsH wc fc n1 n2 n3 n4 r1 r2 r3 r4)) (vK lsL K))=(
 K .ret [.slo 0 0 n 0,.slo 2 0 4 0,.int .i64 0,.slo 1 0 n 0,.slo 2 0 4 0,.int .i64 5,.any,.any,.any,.any] [some (.ro wc),sC fc 1,sC [.slo 3 0 n1 0,.slo 4 0 n2 0,.slo 5 0 n3 0,.slo 6 0 n4 0] 1,sC r1 1,sC r2 1,sC r3 1,sC r4 1] []):=by kernel_rfl
end
end Go.Lev
