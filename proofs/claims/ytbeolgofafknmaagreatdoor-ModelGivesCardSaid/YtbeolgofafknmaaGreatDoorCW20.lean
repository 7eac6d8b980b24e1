/- chapter 9: the reference's levels: Keep and Take, trees -/
import Derived.Test.YtbeolgofafknmaaGreatDoorCW19
import Derived.Test.YtbeolgofafknmaaGreatDoorLc
import Derived.Test.YtbeolgofafknmaaGreatDoorChecked
import Derived.KernelRfl
namespace Go.Lev
set_option linter.unusedSimpArgs false
set_option linter.unusedVariables false
open Go.RowKit
open Go.Proofs.Tryz (prog)
set_option maxRecDepth 100000
noncomputable section
abbrev kpS:List Nat:=[0,2,3,4,5,6]
abbrev kpT (d n i:Nat):List (Nat×LV):=[(0,.ptr 0 0),(3,.int .i64 d),(4,.ptr n 0),(5,.ptr (n+1) 0),(6,.int .i64 i)]
def cxo2:Cx:=cxl [(50,ocopyG),(86,oputlG)]
abbrev otL:List Nat:=[0,1,4,5,6]
abbrev otT (nc i:Nat):List (Nat×LV):=[(0,.ptr 0 0),(1,.slo 3 0 nc 0),(5,.ptr 5 0),(6,.int .i64 i)]
abbrev otI (most:Int) (d:Nat) (cs c:List LV):List LB:=[.cells [.int .i64 most,.slo 1 0 d 0] none,.obj orF cs 2,.dead,.cells c (some 2)]
abbrev otH (most:Int) (d:Nat) (cs c:List LV) (k:Nat) (ks:List LV):List LB:=[.cells [.int .i64 most,.slo 1 0 d 0] none,.obj orF cs 4,.dead,.cells c (some 2),.dead,.cells [.int .i64 most,.slo 6 0 k 0] none,.obj orF ks 7,.dead]
theorem ot_a (most:Int) (d nc:Nat) (cs c:List LV) (K:Pk):(xsp prog cxo2 60 38 (seg (sp prog 69) 0 3) (tm0 [.ptr 0 0,.slo 3 0 nc 0]) (mkS (otI most d cs c)) (vK otL K))=(
 ck (okR most cs d) <|
 ck (isF orF orF) <|
 K .normal [.ptr 0 0,.slo 3 0 nc 0,.int .i64 0,.ptr 4 0,.int .i64 0] [sN [.int .i64 most,.slo 1 0 d 0],some (.obj orF cs 7),sD,sC c 2,sN [.int .i64 most,.slo 5 0 d 0],some (.obj orF cs 6),sD,sD] []):=by kernel_rfl
abbrev ot_b_b1 (most:Int) (d:Nat) (i:Nat) (cs:List LV) (c:List LV) (ks:List LV):List (Option LB):=[sN [.int .i64 most,.slo 1 0 d 0],some (.obj orF cs 4),sD,sC c 2,sD,sN [.int .i64 most,.slo 6 0 (lpD most ks (asI (nthD c (xix 0 (xnat ↑i) 2))) (asI (nthD c (xadd (xix 0 (xnat ↑i) 2) 1)))) 0],some (.obj orF (lpC most ks (asI (nthD c (xix 0 (xnat ↑i) 2))) (asI (nthD c (xadd (xix 0 (xnat ↑i) 2) 1)))) 8),sD,sD]
theorem ot_b (most:Int) (d nc i k:Nat) (cs c ks:List LV) (K:Pk):(xcode prog cxo2 60 38 (loopOf (nthC (sp prog 69) 3)) (mkTm 38 (otT nc i)) (mkS (otH most d cs c k ks)) (vK otL K))=(
 bif xcm .lss ↑i ↑nc then(
 ck (xle (xadd (xnat ↑i) 1) nc) <|
 ck (xle (xadd (xix 0 (xnat ↑i) 2) 1) (xln c)) <|
 ck (isI .i64 (nthD c (xix 0 (xnat ↑i) 2))) <|
 ck (xle (xadd (xnat ↑i) 1) nc) <|
 ck (xle (xadd (xadd (xix 0 (xnat ↑i) 2) 1) 1) (xln c)) <|
 ck (isI .u64 (nthD c (xadd (xix 0 (xnat ↑i) 2) 1))) <|
 ck (okR most ks k) <|
 ck (isF orF orF) <|
 bif xcm .neq (lpE most ks (asI (nthD c (xix 0 (xnat ↑i) 2))) (asI (nthD c (xadd (xix 0 (xnat ↑i) 2) 1)))) 0 then(
 K .ret [.ptr 0 0,.slo 3 0 nc 0,.int .i64 (lpE most ks (asI (nthD c (xix 0 (xnat ↑i) 2))) (asI (nthD c (xadd (xix 0 (xnat ↑i) 2) 1)))),.ptr 5 0,.int .i64 ↑i] (ot_b_b1 most d i cs c ks) [])
 else(
 K .normal [.ptr 0 0,.slo 3 0 nc 0,.any,.ptr 5 0,.int .i64 (xar .add .i64 (↑i) 1)] (ot_b_b1 most d i cs c ks) []))
 else(
 K (.exit 0) [.ptr 0 0,.slo 3 0 nc 0,.any,.ptr 5 0,.int .i64 ↑i] [sN [.int .i64 most,.slo 1 0 d 0],some (.obj orF cs 4),sD,sC c 2,sD,sN [.int .i64 most,.slo 6 0 k 0],some (.obj orF ks 7),sD] [])):=by kernel_rfl
theorem ot_z (most:Int) (d nc i k:Nat) (cs c ks:List LV) (K:Pk):(xsp prog cxo2 60 38 ((sp prog 69).drop 4) (mkTm 38 (otT nc i)) (mkS (otH most d cs c k ks)) (vK otL K))=(
 K .ret [.ptr 0 0,.slo 3 0 nc 0,.int .i64 0,.ptr 5 0,.int .i64 ↑i] [sN [.int .i64 most,.slo 6 0 k 0],some (.obj orF cs 4),sD,sC c 2,sD,sN [.int .i64 most,.slo 6 0 k 0],some (.obj orF ks 7),sD] []):=by kernel_rfl
theorem ok_1 (most:Int) (n0 m0:Nat) (q0 f0:List LV) (K:Pk):(xsp prog cxo1 60 78 ((sp prog 51).drop 0) (tm0 [.ptr 0 0]) (mkS (orH1 most n0 m0 q0 f0)) (vK kpS K))=(
 K .ret [.ptr 0 0,.int .i64 10,.int .i64 1,.tup [],.tup [],.tup []] [sN [.int .i64 most,.slo 1 0 1 0],sC [.slo 3 0 n0 0,.slo 4 0 m0 0] 2,sD,sC q0 2,sC f0 1] []):=by kernel_rfl
abbrev okH2 (most:Int) (k:Nat) (y:List LV) (n0 m0 n1 m1:Nat) (q0 f0 q1 f1:List LV):List LB:=[.cells [.int .i64 most,.slo 1 0 2 0] none,.cells [.slo 5 0 n1 0,.slo 6 0 m1 0,.slo 3 0 n0 0,.slo 4 0 m0 0] (some 2),.dead,.cells q0 (some 2),.cells f0 (some 1),.dead,.cells f1 (some 1),.cells [.slo 3 0 n0 0,.slo 4 0 m0 0] none,.cells [.slo 9 0 k 0,.slo 6 0 m1 0] none,.cells y (some 2)]
theorem ka_2 (most:Int) (n0 m0 n1 m1:Nat) (q0 f0 q1 f1:List LV) (K:Pk):(xsp prog cxo1 60 78 (seg (sp prog 51) 0 7) (tm0 [.ptr 0 0]) (mkS (orH2 most n0 m0 n1 m1 q0 f0 q1 f1)) (vK kpS K))=(
 K .normal [.ptr 0 0,.int .i64 0,.int .i64 2,.ptr 7 0,.ptr 8 0,.int .i64 0] [sN [.int .i64 most,.slo 1 0 2 0],sC [.slo 5 0 n1 0,.slo 6 0 m1 0,.slo 3 0 n0 0,.slo 4 0 m0 0] 2,sD,sC q0 2,sC f0 1,sC q1 2,sC f1 1,sN [.slo 3 0 n0 0,.slo 4 0 m0 0],sN [.slo 5 0 n1 0,.slo 6 0 m1 0]] []):=by kernel_rfl
theorem kb_2 (most:Int) (k i:Nat) (y:List LV) (n0 m0 n1 m1:Nat) (q0 f0 q1 f1:List LV) (K:Pk):(xcode prog cxo1 60 78 (loopOf (nthC (sp prog 51) 7)) (mkTm 78 (kpT 2 7 i)) (mkS (okH2 most k y n0 m0 n1 m1 q0 f0 q1 f1)) (vK kpS K))=(
 bif xcm .lss ↑i ↑n0 then(
 ck (xle (xadd (xnat ↑i) 1) n0) <|
 ck (xle (xadd (xix 0 (xnat ↑i) 2) 1) (xln q0)) <|
 ck (isI .i64 (nthD q0 (xix 0 (xnat ↑i) 2))) <|
 ck (xle (xadd (xnat ↑i) 1) n0) <|
 ck (xle (xadd (xadd (xix 0 (xnat ↑i) 2) 1) 1) (xln q0)) <|
 ck (isI .u64 (nthD q0 (xadd (xix 0 (xnat ↑i) 2) 1))) <|
 ck (okC y k) <|
 ck (xle k 99999) <|
 K .normal [.ptr 0 0,.any,.int .i64 2,.ptr 7 0,.ptr 8 0,.int .i64 (xar .add .i64 (↑i) 1)] [sN [.int .i64 most,.slo 1 0 2 0],sC [.slo 5 0 n1 0,.slo 6 0 m1 0,.slo 3 0 n0 0,.slo 4 0 m0 0] 2,sD,sC q0 2,sC f0 1,sD,sC f1 1,sN [.slo 3 0 n0 0,.slo 4 0 m0 0],sN [.slo 10 0 (opN y (asI (nthD q0 (xix 0 (xnat ↑i) 2))) (asI (nthD q0 (xadd (xix 0 (xnat ↑i) 2) 1)))) 0,.slo 6 0 m1 0],sC y 2,sC (opC y (asI (nthD q0 (xix 0 (xnat ↑i) 2))) (asI (nthD q0 (xadd (xix 0 (xnat ↑i) 2) 1)))) 2] [])
 else(
 K (.exit 0) [.ptr 0 0,.any,.int .i64 2,.ptr 7 0,.ptr 8 0,.int .i64 ↑i] [sN [.int .i64 most,.slo 1 0 2 0],sC [.slo 5 0 n1 0,.slo 6 0 m1 0,.slo 3 0 n0 0,.slo 4 0 m0 0] 2,sD,sC q0 2,sC f0 1,sD,sC f1 1,sN [.slo 3 0 n0 0,.slo 4 0 m0 0],sN [.slo 9 0 k 0,.slo 6 0 m1 0],sC y 2] [])):=by kernel_rfl
theorem kz_2 (most:Int) (k i:Nat) (y:List LV) (n0 m0 n1 m1:Nat) (q0 f0 q1 f1:List LV) (K:Pk):(xsp prog cxo1 60 78 ((sp prog 51).drop 8) (mkTm 78 (kpT 2 7 i)) (mkS (okH2 most k y n0 m0 n1 m1 q0 f0 q1 f1)) (vK kpS K))=(
 ck (xle (xadd 0 (xmul m1 1)) (xln f1)) <|
 ck (xle (xmul m1 8) 140737488355328) <|
 ck (xle m1 140737488355328) <|
 ck (xle (xadd 0 (xmul m0 1)) (xln f0)) <|
 ck (xle (xadd m1 m0) 1000000) <|
 ck (xle (xadd 0 (xmul m1 1)) (xln (xcut f1 0 (xmul m1 1)))) <|
 ck (xeq m0 m0) <|
 ck (xeq m0 m0) <|
 K .ret [.ptr 0 0,.int .i64 0,.int .i64 2,.ptr 7 0,.ptr 8 0,.int .i64 ↑i] [sN [.int .i64 most,.slo 1 0 1 0],sC [.slo 9 0 k 0,.slo 11 0 (xadd m1 m0) 0,.slo 3 0 n0 0,.slo 4 0 m0 0] 2,sD,sC q0 2,sC f0 1,sD,sC f1 1,sN [.slo 3 0 n0 0,.slo 4 0 m0 0],sN [.slo 9 0 k 0,.slo 11 0 (xadd m1 m0) 0],sC y 2,sD,sC (xcat (xcut (xcut f1 0 (xmul m1 1)) 0 (xmul m1 1)) (xcut f0 0 (xmul m0 1))) 1] []):=by kernel_rfl
abbrev okH3 (most:Int) (k:Nat) (y:List LV) (n0 m0 n1 m1 n2 m2:Nat) (q0 f0 q1 f1 q2 f2:List LV):List LB:=[.cells [.int .i64 most,.slo 1 0 3 0] none,.cells [.slo 7 0 n2 0,.slo 8 0 m2 0,.slo 5 0 n1 0,.slo 6 0 m1 0,.slo 3 0 n0 0,.slo 4 0 m0 0] (some 2),.dead,.cells q0 (some 2),.cells f0 (some 1),.dead,.cells f1 (some 1),.cells q2 (some 2),.cells f2 (some 1),.cells [.slo 3 0 n0 0,.slo 4 0 m0 0] none,.cells [.slo 11 0 k 0,.slo 6 0 m1 0] none,.cells y (some 2)]
theorem ka_3 (most:Int) (n0 m0 n1 m1 n2 m2:Nat) (q0 f0 q1 f1 q2 f2:List LV) (K:Pk):(xsp prog cxo1 60 78 (seg (sp prog 51) 0 7) (tm0 [.ptr 0 0]) (mkS (orH3 most n0 m0 n1 m1 n2 m2 q0 f0 q1 f1 q2 f2)) (vK kpS K))=(
 K .normal [.ptr 0 0,.int .i64 0,.int .i64 3,.ptr 9 0,.ptr 10 0,.int .i64 0] [sN [.int .i64 most,.slo 1 0 3 0],sC [.slo 7 0 n2 0,.slo 8 0 m2 0,.slo 5 0 n1 0,.slo 6 0 m1 0,.slo 3 0 n0 0,.slo 4 0 m0 0] 2,sD,sC q0 2,sC f0 1,sC q1 2,sC f1 1,sC q2 2,sC f2 1,sN [.slo 3 0 n0 0,.slo 4 0 m0 0],sN [.slo 5 0 n1 0,.slo 6 0 m1 0]] []):=by kernel_rfl
theorem kb_3 (most:Int) (k i:Nat) (y:List LV) (n0 m0 n1 m1 n2 m2:Nat) (q0 f0 q1 f1 q2 f2:List LV) (K:Pk):(xcode prog cxo1 60 78 (loopOf (nthC (sp prog 51) 7)) (mkTm 78 (kpT 3 9 i)) (mkS (okH3 most k y n0 m0 n1 m1 n2 m2 q0 f0 q1 f1 q2 f2)) (vK kpS K))=(
 bif xcm .lss ↑i ↑n0 then(
 ck (xle (xadd (xnat ↑i) 1) n0) <|
 ck (xle (xadd (xix 0 (xnat ↑i) 2) 1) (xln q0)) <|
 ck (isI .i64 (nthD q0 (xix 0 (xnat ↑i) 2))) <|
 ck (xle (xadd (xnat ↑i) 1) n0) <|
 ck (xle (xadd (xadd (xix 0 (xnat ↑i) 2) 1) 1) (xln q0)) <|
 ck (isI .u64 (nthD q0 (xadd (xix 0 (xnat ↑i) 2) 1))) <|
 ck (okC y k) <|
 ck (xle k 99999) <|
 K .normal [.ptr 0 0,.any,.int .i64 3,.ptr 9 0,.ptr 10 0,.int .i64 (xar .add .i64 (↑i) 1)] [sN [.int .i64 most,.slo 1 0 3 0],sC [.slo 7 0 n2 0,.slo 8 0 m2 0,.slo 5 0 n1 0,.slo 6 0 m1 0,.slo 3 0 n0 0,.slo 4 0 m0 0] 2,sD,sC q0 2,sC f0 1,sD,sC f1 1,sC q2 2,sC f2 1,sN [.slo 3 0 n0 0,.slo 4 0 m0 0],sN [.slo 12 0 (opN y (asI (nthD q0 (xix 0 (xnat ↑i) 2))) (asI (nthD q0 (xadd (xix 0 (xnat ↑i) 2) 1)))) 0,.slo 6 0 m1 0],sC y 2,sC (opC y (asI (nthD q0 (xix 0 (xnat ↑i) 2))) (asI (nthD q0 (xadd (xix 0 (xnat ↑i) 2) 1)))) 2] [])
 else(
 K (.exit 0) [.ptr 0 0,.any,.int .i64 3,.ptr 9 0,.ptr 10 0,.int .i64 ↑i] [sN [.int .i64 most,.slo 1 0 3 0],sC [.slo 7 0 n2 0,.slo 8 0 m2 0,.slo 5 0 n1 0,.slo 6 0 m1 0,.slo 3 0 n0 0,.slo 4 0 m0 0] 2,sD,sC q0 2,sC f0 1,sD,sC f1 1,sC q2 2,sC f2 1,sN [.slo 3 0 n0 0,.slo 4 0 m0 0],sN [.slo 11 0 k 0,.slo 6 0 m1 0],sC y 2] [])):=by kernel_rfl
theorem kz_3 (most:Int) (k i:Nat) (y:List LV) (n0 m0 n1 m1 n2 m2:Nat) (q0 f0 q1 f1 q2 f2:List LV) (K:Pk):(xsp prog cxo1 60 78 ((sp prog 51).drop 8) (mkTm 78 (kpT 3 9 i)) (mkS (okH3 most k y n0 m0 n1 m1 n2 m2 q0 f0 q1 f1 q2 f2)) (vK kpS K))=(
 ck (xle (xadd 0 (xmul m1 1)) (xln f1)) <|
 ck (xle (xmul m1 8) 140737488355328) <|
 ck (xle m1 140737488355328) <|
 ck (xle (xadd 0 (xmul m0 1)) (xln f0)) <|
 ck (xle (xadd m1 m0) 1000000) <|
 ck (xle (xadd 0 (xmul m1 1)) (xln (xcut f1 0 (xmul m1 1)))) <|
 ck (xeq m0 m0) <|
 ck (xeq m0 m0) <|
 K .ret [.ptr 0 0,.int .i64 0,.int .i64 3,.ptr 9 0,.ptr 10 0,.int .i64 ↑i] [sN [.int .i64 most,.slo 1 0 2 0],sC [.slo 7 0 n2 0,.slo 8 0 m2 0,.slo 11 0 k 0,.slo 13 0 (xadd m1 m0) 0,.slo 3 0 n0 0,.slo 4 0 m0 0] 2,sD,sC q0 2,sC f0 1,sD,sC f1 1,sC q2 2,sC f2 1,sN [.slo 3 0 n0 0,.slo 4 0 m0 0],sN [.slo 11 0 k 0,.slo 13 0 (xadd m1 m0) 0],sC y 2,sD,sC (xcat (xcut (xcut f1 0 (xmul m1 1)) 0 (xmul m1 1)) (xcut f0 0 (xmul m0 1))) 1] []):=by kernel_rfl
abbrev okH4 (most:Int) (k:Nat) (y:List LV) (n0 m0 n1 m1 n2 m2 n3 m3:Nat) (q0 f0 q1 f1 q2 f2 q3 f3:List LV):List LB:=[.cells [.int .i64 most,.slo 1 0 4 0] none,.cells [.slo 9 0 n3 0,.slo 10 0 m3 0,.slo 7 0 n2 0,.slo 8 0 m2 0,.slo 5 0 n1 0,.slo 6 0 m1 0,.slo 3 0 n0 0,.slo 4 0 m0 0] (some 2),.dead,.cells q0 (some 2),.cells f0 (some 1),.dead,.cells f1 (some 1),.cells q2 (some 2),.cells f2 (some 1),.cells q3 (some 2),.cells f3 (some 1),.cells [.slo 3 0 n0 0,.slo 4 0 m0 0] none,.cells [.slo 13 0 k 0,.slo 6 0 m1 0] none,.cells y (some 2)]
theorem ka_4 (most:Int) (n0 m0 n1 m1 n2 m2 n3 m3:Nat) (q0 f0 q1 f1 q2 f2 q3 f3:List LV) (K:Pk):(xsp prog cxo1 60 78 (seg (sp prog 51) 0 7) (tm0 [.ptr 0 0]) (mkS (orH4 most n0 m0 n1 m1 n2 m2 n3 m3 q0 f0 q1 f1 q2 f2 q3 f3)) (vK kpS K))=(
 K .normal [.ptr 0 0,.int .i64 0,.int .i64 4,.ptr 11 0,.ptr 12 0,.int .i64 0] [sN [.int .i64 most,.slo 1 0 4 0],sC [.slo 9 0 n3 0,.slo 10 0 m3 0,.slo 7 0 n2 0,.slo 8 0 m2 0,.slo 5 0 n1 0,.slo 6 0 m1 0,.slo 3 0 n0 0,.slo 4 0 m0 0] 2,sD,sC q0 2,sC f0 1,sC q1 2,sC f1 1,sC q2 2,sC f2 1,sC q3 2,sC f3 1,sN [.slo 3 0 n0 0,.slo 4 0 m0 0],sN [.slo 5 0 n1 0,.slo 6 0 m1 0]] []):=by kernel_rfl
theorem kb_4 (most:Int) (k i:Nat) (y:List LV) (n0 m0 n1 m1 n2 m2 n3 m3:Nat) (q0 f0 q1 f1 q2 f2 q3 f3:List LV) (K:Pk):(xcode prog cxo1 60 78 (loopOf (nthC (sp prog 51) 7)) (mkTm 78 (kpT 4 11 i)) (mkS (okH4 most k y n0 m0 n1 m1 n2 m2 n3 m3 q0 f0 q1 f1 q2 f2 q3 f3)) (vK kpS K))=(
 bif xcm .lss ↑i ↑n0 then(
 ck (xle (xadd (xnat ↑i) 1) n0) <|
 ck (xle (xadd (xix 0 (xnat ↑i) 2) 1) (xln q0)) <|
 ck (isI .i64 (nthD q0 (xix 0 (xnat ↑i) 2))) <|
 ck (xle (xadd (xnat ↑i) 1) n0) <|
 ck (xle (xadd (xadd (xix 0 (xnat ↑i) 2) 1) 1) (xln q0)) <|
 ck (isI .u64 (nthD q0 (xadd (xix 0 (xnat ↑i) 2) 1))) <|
 ck (okC y k) <|
 ck (xle k 99999) <|
 K .normal [.ptr 0 0,.any,.int .i64 4,.ptr 11 0,.ptr 12 0,.int .i64 (xar .add .i64 (↑i) 1)] [sN [.int .i64 most,.slo 1 0 4 0],sC [.slo 9 0 n3 0,.slo 10 0 m3 0,.slo 7 0 n2 0,.slo 8 0 m2 0,.slo 5 0 n1 0,.slo 6 0 m1 0,.slo 3 0 n0 0,.slo 4 0 m0 0] 2,sD,sC q0 2,sC f0 1,sD,sC f1 1,sC q2 2,sC f2 1,sC q3 2,sC f3 1,sN [.slo 3 0 n0 0,.slo 4 0 m0 0],sN [.slo 14 0 (opN y (asI (nthD q0 (xix 0 (xnat ↑i) 2))) (asI (nthD q0 (xadd (xix 0 (xnat ↑i) 2) 1)))) 0,.slo 6 0 m1 0],sC y 2,sC (opC y (asI (nthD q0 (xix 0 (xnat ↑i) 2))) (asI (nthD q0 (xadd (xix 0 (xnat ↑i) 2) 1)))) 2] [])
 else(
 K (.exit 0) [.ptr 0 0,.any,.int .i64 4,.ptr 11 0,.ptr 12 0,.int .i64 ↑i] [sN [.int .i64 most,.slo 1 0 4 0],sC [.slo 9 0 n3 0,.slo 10 0 m3 0,.slo 7 0 n2 0,.slo 8 0 m2 0,.slo 5 0 n1 0,.slo 6 0 m1 0,.slo 3 0 n0 0,.slo 4 0 m0 0] 2,sD,sC q0 2,sC f0 1,sD,sC f1 1,sC q2 2,sC f2 1,sC q3 2,sC f3 1,sN [.slo 3 0 n0 0,.slo 4 0 m0 0],sN [.slo 13 0 k 0,.slo 6 0 m1 0],sC y 2] [])):=by kernel_rfl
theorem kz_4 (most:Int) (k i:Nat) (y:List LV) (n0 m0 n1 m1 n2 m2 n3 m3:Nat) (q0 f0 q1 f1 q2 f2 q3 f3:List LV) (K:Pk):(xsp prog cxo1 60 78 ((sp prog 51).drop 8) (mkTm 78 (kpT 4 11 i)) (mkS (okH4 most k y n0 m0 n1 m1 n2 m2 n3 m3 q0 f0 q1 f1 q2 f2 q3 f3)) (vK kpS K))=(
 ck (xle (xadd 0 (xmul m1 1)) (xln f1)) <|
 ck (xle (xmul m1 8) 140737488355328) <|
 ck (xle m1 140737488355328) <|
 ck (xle (xadd 0 (xmul m0 1)) (xln f0)) <|
 ck (xle (xadd m1 m0) 1000000) <|
 ck (xle (xadd 0 (xmul m1 1)) (xln (xcut f1 0 (xmul m1 1)))) <|
 ck (xeq m0 m0) <|
 ck (xeq m0 m0) <|
 K .ret [.ptr 0 0,.int .i64 0,.int .i64 4,.ptr 11 0,.ptr 12 0,.int .i64 ↑i] [sN [.int .i64 most,.slo 1 0 3 0],sC [.slo 9 0 n3 0,.slo 10 0 m3 0,.slo 7 0 n2 0,.slo 8 0 m2 0,.slo 13 0 k 0,.slo 15 0 (xadd m1 m0) 0,.slo 3 0 n0 0,.slo 4 0 m0 0] 2,sD,sC q0 2,sC f0 1,sD,sC f1 1,sC q2 2,sC f2 1,sC q3 2,sC f3 1,sN [.slo 3 0 n0 0,.slo 4 0 m0 0],sN [.slo 13 0 k 0,.slo 15 0 (xadd m1 m0) 0],sC y 2,sD,sC (xcat (xcut (xcut f1 0 (xmul m1 1)) 0 (xmul m1 1)) (xcut f0 0 (xmul m0 1))) 1] []):=by kernel_rfl
abbrev okH5 (most:Int) (k:Nat) (y:List LV) (n0 m0 n1 m1 n2 m2 n3 m3 n4 m4:Nat) (q0 f0 q1 f1 q2 f2 q3 f3 q4 f4:List LV):List LB:=[.cells [.int .i64 most,.slo 1 0 5 0] none,.cells [.slo 11 0 n4 0,.slo 12 0 m4 0,.slo 9 0 n3 0,.slo 10 0 m3 0,.slo 7 0 n2 0,.slo 8 0 m2 0,.slo 5 0 n1 0,.slo 6 0 m1 0,.slo 3 0 n0 0,.slo 4 0 m0 0] (some 2),.dead,.cells q0 (some 2),.cells f0 (some 1),.dead,.cells f1 (some 1),.cells q2 (some 2),.cells f2 (some 1),.cells q3 (some 2),.cells f3 (some 1),.cells q4 (some 2),.cells f4 (some 1),.cells [.slo 3 0 n0 0,.slo 4 0 m0 0] none,.cells [.slo 15 0 k 0,.slo 6 0 m1 0] none,.cells y (some 2)]
theorem ka_5 (most:Int) (n0 m0 n1 m1 n2 m2 n3 m3 n4 m4:Nat) (q0 f0 q1 f1 q2 f2 q3 f3 q4 f4:List LV) (K:Pk):(xsp prog cxo1 60 78 (seg (sp prog 51) 0 7) (tm0 [.ptr 0 0]) (mkS (orH5 most n0 m0 n1 m1 n2 m2 n3 m3 n4 m4 q0 f0 q1 f1 q2 f2 q3 f3 q4 f4)) (vK kpS K))=(
 K .normal [.ptr 0 0,.int .i64 0,.int .i64 5,.ptr 13 0,.ptr 14 0,.int .i64 0] [sN [.int .i64 most,.slo 1 0 5 0],sC [.slo 11 0 n4 0,.slo 12 0 m4 0,.slo 9 0 n3 0,.slo 10 0 m3 0,.slo 7 0 n2 0,.slo 8 0 m2 0,.slo 5 0 n1 0,.slo 6 0 m1 0,.slo 3 0 n0 0,.slo 4 0 m0 0] 2,sD,sC q0 2,sC f0 1,sC q1 2,sC f1 1,sC q2 2,sC f2 1,sC q3 2,sC f3 1,sC q4 2,sC f4 1,sN [.slo 3 0 n0 0,.slo 4 0 m0 0],sN [.slo 5 0 n1 0,.slo 6 0 m1 0]] []):=by kernel_rfl
theorem kb_5 (most:Int) (k i:Nat) (y:List LV) (n0 m0 n1 m1 n2 m2 n3 m3 n4 m4:Nat) (q0 f0 q1 f1 q2 f2 q3 f3 q4 f4:List LV) (K:Pk):(xcode prog cxo1 60 78 (loopOf (nthC (sp prog 51) 7)) (mkTm 78 (kpT 5 13 i)) (mkS (okH5 most k y n0 m0 n1 m1 n2 m2 n3 m3 n4 m4 q0 f0 q1 f1 q2 f2 q3 f3 q4 f4)) (vK kpS K))=(
 bif xcm .lss ↑i ↑n0 then(
 ck (xle (xadd (xnat ↑i) 1) n0) <|
 ck (xle (xadd (xix 0 (xnat ↑i) 2) 1) (xln q0)) <|
 ck (isI .i64 (nthD q0 (xix 0 (xnat ↑i) 2))) <|
 ck (xle (xadd (xnat ↑i) 1) n0) <|
 ck (xle (xadd (xadd (xix 0 (xnat ↑i) 2) 1) 1) (xln q0)) <|
 ck (isI .u64 (nthD q0 (xadd (xix 0 (xnat ↑i) 2) 1))) <|
 ck (okC y k) <|
 ck (xle k 99999) <|
 K .normal [.ptr 0 0,.any,.int .i64 5,.ptr 13 0,.ptr 14 0,.int .i64 (xar .add .i64 (↑i) 1)] [sN [.int .i64 most,.slo 1 0 5 0],sC [.slo 11 0 n4 0,.slo 12 0 m4 0,.slo 9 0 n3 0,.slo 10 0 m3 0,.slo 7 0 n2 0,.slo 8 0 m2 0,.slo 5 0 n1 0,.slo 6 0 m1 0,.slo 3 0 n0 0,.slo 4 0 m0 0] 2,sD,sC q0 2,sC f0 1,sD,sC f1 1,sC q2 2,sC f2 1,sC q3 2,sC f3 1,sC q4 2,sC f4 1,sN [.slo 3 0 n0 0,.slo 4 0 m0 0],sN [.slo 16 0 (opN y (asI (nthD q0 (xix 0 (xnat ↑i) 2))) (asI (nthD q0 (xadd (xix 0 (xnat ↑i) 2) 1)))) 0,.slo 6 0 m1 0],sC y 2,sC (opC y (asI (nthD q0 (xix 0 (xnat ↑i) 2))) (asI (nthD q0 (xadd (xix 0 (xnat ↑i) 2) 1)))) 2] [])
 else(
 K (.exit 0) [.ptr 0 0,.any,.int .i64 5,.ptr 13 0,.ptr 14 0,.int .i64 ↑i] [sN [.int .i64 most,.slo 1 0 5 0],sC [.slo 11 0 n4 0,.slo 12 0 m4 0,.slo 9 0 n3 0,.slo 10 0 m3 0,.slo 7 0 n2 0,.slo 8 0 m2 0,.slo 5 0 n1 0,.slo 6 0 m1 0,.slo 3 0 n0 0,.slo 4 0 m0 0] 2,sD,sC q0 2,sC f0 1,sD,sC f1 1,sC q2 2,sC f2 1,sC q3 2,sC f3 1,sC q4 2,sC f4 1,sN [.slo 3 0 n0 0,.slo 4 0 m0 0],sN [.slo 15 0 k 0,.slo 6 0 m1 0],sC y 2] [])):=by kernel_rfl
theorem kz_5 (most:Int) (k i:Nat) (y:List LV) (n0 m0 n1 m1 n2 m2 n3 m3 n4 m4:Nat) (q0 f0 q1 f1 q2 f2 q3 f3 q4 f4:List LV) (K:Pk):(xsp prog cxo1 60 78 ((sp prog 51).drop 8) (mkTm 78 (kpT 5 13 i)) (mkS (okH5 most k y n0 m0 n1 m1 n2 m2 n3 m3 n4 m4 q0 f0 q1 f1 q2 f2 q3 f3 q4 f4)) (vK kpS K))=(
 ck (xle (xadd 0 (xmul m1 1)) (xln f1)) <|
 ck (xle (xmul m1 8) 140737488355328) <|
 ck (xle m1 140737488355328) <|
 ck (xle (xadd 0 (xmul m0 1)) (xln f0)) <|
 ck (xle (xadd m1 m0) 1000000) <|
 ck (xle (xadd 0 (xmul m1 1)) (xln (xcut f1 0 (xmul m1 1)))) <|
 ck (xeq m0 m0) <|
 ck (xeq m0 m0) <|
 K .ret [.ptr 0 0,.int .i64 0,.int .i64 5,.ptr 13 0,.ptr 14 0,.int .i64 ↑i] [sN [.int .i64 most,.slo 1 0 4 0],sC [.slo 11 0 n4 0,.slo 12 0 m4 0,.slo 9 0 n3 0,.slo 10 0 m3 0,.slo 7 0 n2 0,.slo 8 0 m2 0,.slo 15 0 k 0,.slo 17 0 (xadd m1 m0) 0,.slo 3 0 n0 0,.slo 4 0 m0 0] 2,sD,sC q0 2,sC f0 1,sD,sC f1 1,sC q2 2,sC f2 1,sC q3 2,sC f3 1,sC q4 2,sC f4 1,sN [.slo 3 0 n0 0,.slo 4 0 m0 0],sN [.slo 15 0 k 0,.slo 17 0 (xadd m1 m0) 0],sC y 2,sD,sC (xcat (xcut (xcut f1 0 (xmul m1 1)) 0 (xmul m1 1)) (xcut f0 0 (xmul m0 1))) 1] []):=by kernel_rfl
abbrev okH6 (most:Int) (k:Nat) (y:List LV) (n0 m0 n1 m1 n2 m2 n3 m3 n4 m4 n5 m5:Nat) (q0 f0 q1 f1 q2 f2 q3 f3 q4 f4 q5 f5:List LV):List LB:=[.cells [.int .i64 most,.slo 1 0 6 0] none,.cells [.slo 13 0 n5 0,.slo 14 0 m5 0,.slo 11 0 n4 0,.slo 12 0 m4 0,.slo 9 0 n3 0,.slo 10 0 m3 0,.slo 7 0 n2 0,.slo 8 0 m2 0,.slo 5 0 n1 0,.slo 6 0 m1 0,.slo 3 0 n0 0,.slo 4 0 m0 0] (some 2),.dead,.cells q0 (some 2),.cells f0 (some 1),.dead,.cells f1 (some 1),.cells q2 (some 2),.cells f2 (some 1),.cells q3 (some 2),.cells f3 (some 1),.cells q4 (some 2),.cells f4 (some 1),.cells q5 (some 2),.cells f5 (some 1),.cells [.slo 3 0 n0 0,.slo 4 0 m0 0] none,.cells [.slo 17 0 k 0,.slo 6 0 m1 0] none,.cells y (some 2)]
theorem ka_6 (most:Int) (n0 m0 n1 m1 n2 m2 n3 m3 n4 m4 n5 m5:Nat) (q0 f0 q1 f1 q2 f2 q3 f3 q4 f4 q5 f5:List LV) (K:Pk):(xsp prog cxo1 60 78 (seg (sp prog 51) 0 7) (tm0 [.ptr 0 0]) (mkS (orH6 most n0 m0 n1 m1 n2 m2 n3 m3 n4 m4 n5 m5 q0 f0 q1 f1 q2 f2 q3 f3 q4 f4 q5 f5)) (vK kpS K))=(
 K .normal [.ptr 0 0,.int .i64 0,.int .i64 6,.ptr 15 0,.ptr 16 0,.int .i64 0] [sN [.int .i64 most,.slo 1 0 6 0],sC [.slo 13 0 n5 0,.slo 14 0 m5 0,.slo 11 0 n4 0,.slo 12 0 m4 0,.slo 9 0 n3 0,.slo 10 0 m3 0,.slo 7 0 n2 0,.slo 8 0 m2 0,.slo 5 0 n1 0,.slo 6 0 m1 0,.slo 3 0 n0 0,.slo 4 0 m0 0] 2,sD,sC q0 2,sC f0 1,sC q1 2,sC f1 1,sC q2 2,sC f2 1,sC q3 2,sC f3 1,sC q4 2,sC f4 1,sC q5 2,sC f5 1,sN [.slo 3 0 n0 0,.slo 4 0 m0 0],sN [.slo 5 0 n1 0,.slo 6 0 m1 0]] []):=by kernel_rfl
theorem kb_6 (most:Int) (k i:Nat) (y:List LV) (n0 m0 n1 m1 n2 m2 n3 m3 n4 m4 n5 m5:Nat) (q0 f0 q1 f1 q2 f2 q3 f3 q4 f4 q5 f5:List LV) (K:Pk):(xcode prog cxo1 60 78 (loopOf (nthC (sp prog 51) 7)) (mkTm 78 (kpT 6 15 i)) (mkS (okH6 most k y n0 m0 n1 m1 n2 m2 n3 m3 n4 m4 n5 m5 q0 f0 q1 f1 q2 f2 q3 f3 q4 f4 q5 f5)) (vK kpS K))=(
 bif xcm .lss ↑i ↑n0 then(
 ck (xle (xadd (xnat ↑i) 1) n0) <|
 ck (xle (xadd (xix 0 (xnat ↑i) 2) 1) (xln q0)) <|
 ck (isI .i64 (nthD q0 (xix 0 (xnat ↑i) 2))) <|
 ck (xle (xadd (xnat ↑i) 1) n0) <|
 ck (xle (xadd (xadd (xix 0 (xnat ↑i) 2) 1) 1) (xln q0)) <|
 ck (isI .u64 (nthD q0 (xadd (xix 0 (xnat ↑i) 2) 1))) <|
 ck (okC y k) <|
 ck (xle k 99999) <|
 K .normal [.ptr 0 0,.any,.int .i64 6,.ptr 15 0,.ptr 16 0,.int .i64 (xar .add .i64 (↑i) 1)] [sN [.int .i64 most,.slo 1 0 6 0],sC [.slo 13 0 n5 0,.slo 14 0 m5 0,.slo 11 0 n4 0,.slo 12 0 m4 0,.slo 9 0 n3 0,.slo 10 0 m3 0,.slo 7 0 n2 0,.slo 8 0 m2 0,.slo 5 0 n1 0,.slo 6 0 m1 0,.slo 3 0 n0 0,.slo 4 0 m0 0] 2,sD,sC q0 2,sC f0 1,sD,sC f1 1,sC q2 2,sC f2 1,sC q3 2,sC f3 1,sC q4 2,sC f4 1,sC q5 2,sC f5 1,sN [.slo 3 0 n0 0,.slo 4 0 m0 0],sN [.slo 18 0 (opN y (asI (nthD q0 (xix 0 (xnat ↑i) 2))) (asI (nthD q0 (xadd (xix 0 (xnat ↑i) 2) 1)))) 0,.slo 6 0 m1 0],sC y 2,sC (opC y (asI (nthD q0 (xix 0 (xnat ↑i) 2))) (asI (nthD q0 (xadd (xix 0 (xnat ↑i) 2) 1)))) 2] [])
 else(
 K (.exit 0) [.ptr 0 0,.any,.int .i64 6,.ptr 15 0,.ptr 16 0,.int .i64 ↑i] [sN [.int .i64 most,.slo 1 0 6 0],sC [.slo 13 0 n5 0,.slo 14 0 m5 0,.slo 11 0 n4 0,.slo 12 0 m4 0,.slo 9 0 n3 0,.slo 10 0 m3 0,.slo 7 0 n2 0,.slo 8 0 m2 0,.slo 5 0 n1 0,.slo 6 0 m1 0,.slo 3 0 n0 0,.slo 4 0 m0 0] 2,sD,sC q0 2,sC f0 1,sD,sC f1 1,sC q2 2,sC f2 1,sC q3 2,sC f3 1,sC q4 2,sC f4 1,sC q5 2,sC f5 1,sN [.slo 3 0 n0 0,.slo 4 0 m0 0],sN [.slo 17 0 k 0,.slo 6 0 m1 0],sC y 2] [])):=by kernel_rfl
theorem kz_6 (most:Int) (k i:Nat) (y:List LV) (n0 m0 n1 m1 n2 m2 n3 m3 n4 m4 n5 m5:Nat) (q0 f0 q1 f1 q2 f2 q3 f3 q4 f4 q5 f5:List LV) (K:Pk):(xsp prog cxo1 60 78 ((sp prog 51).drop 8) (mkTm 78 (kpT 6 15 i)) (mkS (okH6 most k y n0 m0 n1 m1 n2 m2 n3 m3 n4 m4 n5 m5 q0 f0 q1 f1 q2 f2 q3 f3 q4 f4 q5 f5)) (vK kpS K))=(
 ck (xle (xadd 0 (xmul m1 1)) (xln f1)) <|
 ck (xle (xmul m1 8) 140737488355328) <|
 ck (xle m1 140737488355328) <|
 ck (xle (xadd 0 (xmul m0 1)) (xln f0)) <|
 ck (xle (xadd m1 m0) 1000000) <|
 ck (xle (xadd 0 (xmul m1 1)) (xln (xcut f1 0 (xmul m1 1)))) <|
 ck (xeq m0 m0) <|
 ck (xeq m0 m0) <|
 K .ret [.ptr 0 0,.int .i64 0,.int .i64 6,.ptr 15 0,.ptr 16 0,.int .i64 ↑i] [sN [.int .i64 most,.slo 1 0 5 0],sC [.slo 13 0 n5 0,.slo 14 0 m5 0,.slo 11 0 n4 0,.slo 12 0 m4 0,.slo 9 0 n3 0,.slo 10 0 m3 0,.slo 7 0 n2 0,.slo 8 0 m2 0,.slo 17 0 k 0,.slo 19 0 (xadd m1 m0) 0,.slo 3 0 n0 0,.slo 4 0 m0 0] 2,sD,sC q0 2,sC f0 1,sD,sC f1 1,sC q2 2,sC f2 1,sC q3 2,sC f3 1,sC q4 2,sC f4 1,sC q5 2,sC f5 1,sN [.slo 3 0 n0 0,.slo 4 0 m0 0],sN [.slo 17 0 k 0,.slo 19 0 (xadd m1 m0) 0],sC y 2,sD,sC (xcat (xcut (xcut f1 0 (xmul m1 1)) 0 (xmul m1 1)) (xcut f0 0 (xmul m0 1))) 1] []):=by kernel_rfl
theorem cxo2_ok:CtrOk prog (ctrOf cxo2):=cxl_ok ⟨ocopyG_ok,oputlG_ok,trivial⟩
end
end Go.Lev
