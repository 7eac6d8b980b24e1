/- chapter 9: the reference's levels: Keep and Take, trees -/
import Derived.Test.YtopbikapcboigaaCW19
import Derived.Test.YtopbikapcboigaaLc
import Derived.Test.YtopbikapcboigaaChecked
import Derived.KernelRfl
namespace Go.Lev
set_option linter.unusedSimpArgs false
set_option linter.unusedVariables false
open Go.RowKit
open Go.Proofs.Try (prog)
set_option maxRecDepth 100000
noncomputable section
def cxo2:Cx:=cxl [(83,ocopyG),(98,oputlG)]
abbrev otL:List Nat:=[0,1,4,5,6]
abbrev otT (nc i:Nat):List (Nat×LV):=[(0,.ptr 0 0),(1,.slo 3 0 nc 0),(5,.ptr 5 0),(6,.int .i64 i)]
abbrev otI (most:Int) (d:Nat) (cs c:List LV):List LB:=[.cells [.int .i64 most,.slo 1 0 d 0] none,.obj orF cs 2,.dead,.cells c (some 2)]
abbrev otH (most:Int) (d:Nat) (cs c:List LV) (k:Nat) (ks:List LV):List LB:=[.cells [.int .i64 most,.slo 1 0 d 0] none,.obj orF cs 4,.dead,.cells c (some 2),.dead,.cells [.int .i64 most,.slo 6 0 k 0] none,.obj orF ks 7,.dead]
theorem ot_a (most:Int) (d nc:Nat) (cs c:List LV) (K:Pk):(xsp prog cxo2 60 38 (seg (sp prog 93) 0 3) (tm0 [.ptr 0 0,.slo 3 0 nc 0]) (mkS (otI most d cs c)) (vK otL K))=(
 ck (okR most cs d) <|
 ck (isF orF orF) <|
 K .normal [.ptr 0 0,.slo 3 0 nc 0,.int .i64 0,.ptr 4 0,.int .i64 0] [sN [.int .i64 most,.slo 1 0 d 0],some (.obj orF cs 7),sD,sC c 2,sN [.int .i64 most,.slo 5 0 d 0],some (.obj orF cs 6),sD,sD] []):=by kernel_rfl
abbrev ot_b_b1 (most:Int) (d:Nat) (i:Nat) (cs:List LV) (c:List LV) (ks:List LV):List (Option LB):=[sN [.int .i64 most,.slo 1 0 d 0],some (.obj orF cs 4),sD,sC c 2,sD,sN [.int .i64 most,.slo 6 0 (lpD most ks (asI (nthD c (xix 0 (xnat ↑i) 2))) (asI (nthD c (xadd (xix 0 (xnat ↑i) 2) 1)))) 0],some (.obj orF (lpC most ks (asI (nthD c (xix 0 (xnat ↑i) 2))) (asI (nthD c (xadd (xix 0 (xnat ↑i) 2) 1)))) 8),sD,sD]
theorem ot_b (most:Int) (d nc i k:Nat) (cs c ks:List LV) (K:Pk):(xcode prog cxo2 60 38 (loopOf (nthC (sp prog 93) 3)) (mkTm 38 (otT nc i)) (mkS (otH most d cs c k ks)) (vK otL K))=(
 bif xcm .lss ↑i ↑nc then(
 ck (xle (xadd (xnat ↑i) 1) nc) <|
 ck (xle (xadd (xix 0 (xnat ↑i) 2) 1) (xln c)) <|
 ck (isI .i64 (nthD c (xix 0 (xnat ↑i) 2))) <|
 ck (xle (xadd (xnat ↑i) 1) nc) <|
 ck (xle (xadd (xadd (xix 0 (xnat ↑i) 2) 1) 1) (xln c)) <|
 ck (isI .u64 (nthD c (xadd (xix 0 (xnat ↑i) 2) 1))) <|
 ck (okR most ks k) <|
 ck (isF orF orF) <|
 bif xcm .neq (lpE most ks (asI (nthD c (xix 0 (xnat ↑i) 2))) (asI (nthD c (xadd (xix 0 (xnat ↑i) 2) 1)))) 0 then(
 K .ret [.ptr 0 0,.slo 3 0 nc 0,.int .i64 (lpE most ks (asI (nthD c (xix 0 (xnat ↑i) 2))) (asI (nthD c (xadd (xix 0 (xnat ↑i) 2) 1)))),.ptr 5 0,.int .i64 ↑i] (ot_b_b1 most d i cs c ks) [])
 else(
 K .normal [.ptr 0 0,.slo 3 0 nc 0,.any,.ptr 5 0,.int .i64 (xar .add .i64 (↑i) 1)] (ot_b_b1 most d i cs c ks) []))
 else(
 K (.exit 0) [.ptr 0 0,.slo 3 0 nc 0,.any,.ptr 5 0,.int .i64 ↑i] [sN [.int .i64 most,.slo 1 0 d 0],some (.obj orF cs 4),sD,sC c 2,sD,sN [.int .i64 most,.slo 6 0 k 0],some (.obj orF ks 7),sD] [])):=by kernel_rfl
theorem ot_z (most:Int) (d nc i k:Nat) (cs c ks:List LV) (K:Pk):(xsp prog cxo2 60 38 ((sp prog 93).drop 4) (mkTm 38 (otT nc i)) (mkS (otH most d cs c k ks)) (vK otL K))=(
 K .ret [.ptr 0 0,.slo 3 0 nc 0,.int .i64 0,.ptr 5 0,.int .i64 ↑i] [sN [.int .i64 most,.slo 6 0 k 0],some (.obj orF cs 4),sD,sC c 2,sD,sN [.int .i64 most,.slo 6 0 k 0],some (.obj orF ks 7),sD] []):=by kernel_rfl
theorem cxo2_ok:CtrOk prog (ctrOf cxo2):=cxl_ok ⟨ocopyG_ok,oputlG_ok,trivial⟩
end
end Go.Lev
