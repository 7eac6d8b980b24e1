/- chapter 29: insertion sort: trees -/
import Derived.Test.YtagmiaajpkpmjaaCJ4
import Derived.Test.YtagmiaajpkpmjaaLc
import Derived.Test.YtagmiaajpkpmjaaChecked
import Derived.KernelRfl
namespace Go.Lev
set_option linter.unusedSimpArgs false
set_option linter.unusedVariables false
open Go.RowKit
open Go.Proofs.Try (prog)
set_option maxRecDepth 100000
noncomputable section
def cxi:Cx:=cxl [(17,wrapG cmG)]
abbrev iS:List Code:=sp prog 24
abbrev iL:List Nat:=[0,1,2,3,8,9]
abbrev iB:List Code:=spineL (loopOf (nthC iS 1))
abbrev iC:List Code:=spineL (blockIn (nthC iB 2))
abbrev iF:LV:=.fn 16 [.ptr 0 0]
abbrev iT0 (n i:Nat):List (Nat×LV):=[(0,.slo 2 0 n 0),(1,.int .i64 0),(2,.int .i64 n),(3,iF),(8,.int .i64 i)]
abbrev iT1 (n i j:Nat):List (Nat×LV):=[(0,.slo 2 0 n 0),(1,.int .i64 0),(2,.int .i64 n),(3,iF),(8,.int .i64 i),(9,.int .i64 j)]
abbrev iH (n:Nat) (ax ox:List LV):List LB:=[.cells [.slo 1 0 n 0] none,.ro ax,.cells ox (some 1)]
theorem cxi_ok:CtrOk prog (ctrOf cxi):=cxl_ok ⟨wrapG_ok cmG_ok,trivial⟩
theorem is_0 (n:Nat) (ax ox:List LV) (F:World→Prop) (K:Pk):(xsp prog cxi 60 53 (seg iS 0 1) (tm0 [.slo 2 0 n 0,.int .i64 0,.int .i64 n,iF]) (mkS (iH n ax ox) (factG F)) (vK iL K))=(
 K .normal [.slo 2 0 n 0,.int .i64 0,.int .i64 ↑n,.fn 16 [.ptr 0 0],.int .i64 1,.tup []] [sN [.slo 1 0 n 0],some (.ro ax),sC ox 1] (factG F)):=by kernel_rfl
theorem is_a (n i:Nat) (ax ox:List LV) (F:World→Prop) (K:Pk):(xsp prog cxi 60 53 (seg iB 0 2) (mkTm 53 (iT0 n i)) (mkS (iH n ax ox) (factG F)) (vK iL K))=(
 bif xcm .lss ↑i ↑n then(
 K .normal [.slo 2 0 n 0,.int .i64 0,.int .i64 ↑n,.fn 16 [.ptr 0 0],.int .i64 ↑i,.any] [sN [.slo 1 0 n 0],some (.ro ax),sC ox 1] (factG F))
 else(
 K (.exit 0) [.slo 2 0 n 0,.int .i64 0,.int .i64 ↑n,.fn 16 [.ptr 0 0],.int .i64 ↑i,.any] [sN [.slo 1 0 n 0],some (.ro ax),sC ox 1] (factG F))):=by kernel_rfl
theorem is_b (n i:Nat) (ax ox:List LV) (F:World→Prop) (K:Pk):(xsp prog cxi 60 53 (seg iC 0 1) (mkTm 53 (iT0 n i)) (mkS (iH n ax ox) (factG F)) (vK iL K))=(
 K .normal [.slo 2 0 n 0,.int .i64 0,.int .i64 ↑n,.fn 16 [.ptr 0 0],.int .i64 ↑i,.int .i64 ↑i] [sN [.slo 1 0 n 0],some (.ro ax),sC ox 1] (factG F)):=by kernel_rfl
theorem is_c (n i j:Nat) (ax ox:List LV) (F:World→Prop) (K:Pk):(xcode prog cxi 60 53 (loopOf (nthC iC 1)) (mkTm 53 (iT1 n i j)) (mkS (iH n ax ox) (factG F)) (vK iL K))=(
 bif xcm .gtr (↑j) 0 then(
 ck (xle (xadd (xnat ↑j) 1) n) <|
 ck (xle (xadd (xix 0 (xnat ↑j) 1) 1) (xln ox)) <|
 ck (isI .i64 (nthD ox (xix 0 (xnat ↑j) 1))) <|
 ck (xnn (xar .sub .i64 (↑j) 1)) <|
 ck (xle (xadd (xnat (xar .sub .i64 (↑j) 1)) 1) n) <|
 ck (xle (xadd (xix 0 (xnat (xar .sub .i64 (↑j) 1)) 1) 1) (xln ox)) <|
 ck (isI .i64 (nthD ox (xix 0 (xnat (xar .sub .i64 (↑j) 1)) 1))) <|
 ck (xnn (asI (nthD ox (xix 0 (xnat ↑j) 1)))) <|
 ck (xle (xadd (xnat (asI (nthD ox (xix 0 (xnat ↑j) 1)))) 1) n) <|
 ck (xle (xadd (xix 0 (xnat (asI (nthD ox (xix 0 (xnat ↑j) 1)))) 14) 14) (xln ax)) <|
 ck (isI .i64 (nthD ax (xix 0 (xnat (asI (nthD ox (xix 0 (xnat ↑j) 1)))) 14))) <|
 ck (isI .i64 (nthD ax (xadd (xix 0 (xnat (asI (nthD ox (xix 0 (xnat ↑j) 1)))) 14) 1))) <|
 ck (isI .i64 (nthD ax (xadd (xadd (xix 0 (xnat (asI (nthD ox (xix 0 (xnat ↑j) 1)))) 14) 1) 1))) <|
 ck (isB (nthD ax (xadd (xadd (xadd (xix 0 (xnat (asI (nthD ox (xix 0 (xnat ↑j) 1)))) 14) 1) 1) 1))) <|
 ck (isI .i64 (nthD ax (xadd (xadd (xadd (xadd (xix 0 (xnat (asI (nthD ox (xix 0 (xnat ↑j) 1)))) 14) 1) 1) 1) 1))) <|
 ck (isI .i64 (nthD ax (xadd (xadd (xadd (xadd (xadd (xix 0 (xnat (asI (nthD ox (xix 0 (xnat ↑j) 1)))) 14) 1) 1) 1) 1) 1))) <|
 ck (isI .u64 (nthD ax (xadd (xadd (xadd (xadd (xadd (xadd (xix 0 (xnat (asI (nthD ox (xix 0 (xnat ↑j) 1)))) 14) 1) 1) 1) 1) 1) 1))) <|
 ck (isI .u64 (nthD ax (xadd (xadd (xadd (xadd (xadd (xadd (xadd (xix 0 (xnat (asI (nthD ox (xix 0 (xnat ↑j) 1)))) 14) 1) 1) 1) 1) 1) 1) 1))) <|
 ck (isI .i64 (nthD ax (xadd (xadd (xadd (xadd (xadd (xadd (xadd (xadd (xix 0 (xnat (asI (nthD ox (xix 0 (xnat ↑j) 1)))) 14) 1) 1) 1) 1) 1) 1) 1) 1))) <|
 ck (isI .i64 (nthD ax (xadd (xadd (xadd (xadd (xadd (xadd (xadd (xadd (xadd (xix 0 (xnat (asI (nthD ox (xix 0 (xnat ↑j) 1)))) 14) 1) 1) 1) 1) 1) 1) 1) 1) 1))) <|
 ck (isV (nthD ax (xadd (xadd (xadd (xadd (xadd (xadd (xadd (xadd (xadd (xadd (xix 0 (xnat (asI (nthD ox (xix 0 (xnat ↑j) 1)))) 14) 1) 1) 1) 1) 1) 1) 1) 1) 1) 1))) <|
 ck (isV (nthD ax (xadd (xadd (xadd (xadd (xadd (xadd (xadd (xadd (xadd (xadd (xadd (xix 0 (xnat (asI (nthD ox (xix 0 (xnat ↑j) 1)))) 14) 1) 1) 1) 1) 1) 1) 1) 1) 1) 1) 1))) <|
 ck (isV (nthD ax (xadd (xadd (xadd (xadd (xadd (xadd (xadd (xadd (xadd (xadd (xadd (xadd (xix 0 (xnat (asI (nthD ox (xix 0 (xnat ↑j) 1)))) 14) 1) 1) 1) 1) 1) 1) 1) 1) 1) 1) 1) 1))) <|
 ck (isS (nthD ax (xadd (xadd (xadd (xadd (xadd (xadd (xadd (xadd (xadd (xadd (xadd (xadd (xadd (xix 0 (xnat (asI (nthD ox (xix 0 (xnat ↑j) 1)))) 14) 1) 1) 1) 1) 1) 1) 1) 1) 1) 1) 1) 1) 1))) <|
 ck (xnn (asI (nthD ox (xix 0 (xnat (xar .sub .i64 (↑j) 1)) 1)))) <|
 ck (xle (xadd (xnat (asI (nthD ox (xix 0 (xnat (xar .sub .i64 (↑j) 1)) 1)))) 1) n) <|
 ck (xle (xadd (xix 0 (xnat (asI (nthD ox (xix 0 (xnat (xar .sub .i64 (↑j) 1)) 1)))) 14) 14) (xln ax)) <|
 ck (isI .i64 (nthD ax (xix 0 (xnat (asI (nthD ox (xix 0 (xnat (xar .sub .i64 (↑j) 1)) 1)))) 14))) <|
 ck (isI .i64 (nthD ax (xadd (xix 0 (xnat (asI (nthD ox (xix 0 (xnat (xar .sub .i64 (↑j) 1)) 1)))) 14) 1))) <|
 ck (isI .i64 (nthD ax (xadd (xadd (xix 0 (xnat (asI (nthD ox (xix 0 (xnat (xar .sub .i64 (↑j) 1)) 1)))) 14) 1) 1))) <|
 ck (isB (nthD ax (xadd (xadd (xadd (xix 0 (xnat (asI (nthD ox (xix 0 (xnat (xar .sub .i64 (↑j) 1)) 1)))) 14) 1) 1) 1))) <|
 ck (isI .i64 (nthD ax (xadd (xadd (xadd (xadd (xix 0 (xnat (asI (nthD ox (xix 0 (xnat (xar .sub .i64 (↑j) 1)) 1)))) 14) 1) 1) 1) 1))) <|
 ck (isI .i64 (nthD ax (xadd (xadd (xadd (xadd (xadd (xix 0 (xnat (asI (nthD ox (xix 0 (xnat (xar .sub .i64 (↑j) 1)) 1)))) 14) 1) 1) 1) 1) 1))) <|
 ck (isI .u64 (nthD ax (xadd (xadd (xadd (xadd (xadd (xadd (xix 0 (xnat (asI (nthD ox (xix 0 (xnat (xar .sub .i64 (↑j) 1)) 1)))) 14) 1) 1) 1) 1) 1) 1))) <|
 ck (isI .u64 (nthD ax (xadd (xadd (xadd (xadd (xadd (xadd (xadd (xix 0 (xnat (asI (nthD ox (xix 0 (xnat (xar .sub .i64 (↑j) 1)) 1)))) 14) 1) 1) 1) 1) 1) 1) 1))) <|
 ck (isI .i64 (nthD ax (xadd (xadd (xadd (xadd (xadd (xadd (xadd (xadd (xix 0 (xnat (asI (nthD ox (xix 0 (xnat (xar .sub .i64 (↑j) 1)) 1)))) 14) 1) 1) 1) 1) 1) 1) 1) 1))) <|
 ck (isI .i64 (nthD ax (xadd (xadd (xadd (xadd (xadd (xadd (xadd (xadd (xadd (xix 0 (xnat (asI (nthD ox (xix 0 (xnat (xar .sub .i64 (↑j) 1)) 1)))) 14) 1) 1) 1) 1) 1) 1) 1) 1) 1))) <|
 ck (isV (nthD ax (xadd (xadd (xadd (xadd (xadd (xadd (xadd (xadd (xadd (xadd (xix 0 (xnat (asI (nthD ox (xix 0 (xnat (xar .sub .i64 (↑j) 1)) 1)))) 14) 1) 1) 1) 1) 1) 1) 1) 1) 1) 1))) <|
 ck (isV (nthD ax (xadd (xadd (xadd (xadd (xadd (xadd (xadd (xadd (xadd (xadd (xadd (xix 0 (xnat (asI (nthD ox (xix 0 (xnat (xar .sub .i64 (↑j) 1)) 1)))) 14) 1) 1) 1) 1) 1) 1) 1) 1) 1) 1) 1))) <|
 ck (isV (nthD ax (xadd (xadd (xadd (xadd (xadd (xadd (xadd (xadd (xadd (xadd (xadd (xadd (xix 0 (xnat (asI (nthD ox (xix 0 (xnat (xar .sub .i64 (↑j) 1)) 1)))) 14) 1) 1) 1) 1) 1) 1) 1) 1) 1) 1) 1) 1))) <|
 ck (isS (nthD ax (xadd (xadd (xadd (xadd (xadd (xadd (xadd (xadd (xadd (xadd (xadd (xadd (xadd (xix 0 (xnat (asI (nthD ox (xix 0 (xnat (xar .sub .i64 (↑j) 1)) 1)))) 14) 1) 1) 1) 1) 1) 1) 1) 1) 1) 1) 1) 1) 1))) <|
 bif xcm .lss (cmW (asI (nthD ax (xadd (xadd (xadd (xadd (xix 0 (xnat (asI (nthD ox (xix 0 (xnat ↑j) 1)))) 14) 1) 1) 1) 1))) (asI (nthD ax (xadd (xadd (xadd (xadd (xadd (xadd (xadd (xix 0 (xnat (asI (nthD ox (xix 0 (xnat ↑j) 1)))) 14) 1) 1) 1) 1) 1) 1) 1))) (asI (nthD ax (xadd (xadd (xadd (xadd (xadd (xadd (xadd (xadd (xix 0 (xnat (asI (nthD ox (xix 0 (xnat ↑j) 1)))) 14) 1) 1) 1) 1) 1) 1) 1) 1))) (asV (nthD ax (xadd (xadd (xadd (xadd (xadd (xadd (xadd (xadd (xadd (xadd (xadd (xix 0 (xnat (asI (nthD ox (xix 0 (xnat ↑j) 1)))) 14) 1) 1) 1) 1) 1) 1) 1) 1) 1) 1) 1))) (asI (nthD ax (xadd (xadd (xadd (xadd (xix 0 (xnat (asI (nthD ox (xix 0 (xnat (xar .sub .i64 (↑j) 1)) 1)))) 14) 1) 1) 1) 1))) (asI (nthD ax (xadd (xadd (xadd (xadd (xadd (xadd (xadd (xix 0 (xnat (asI (nthD ox (xix 0 (xnat (xar .sub .i64 (↑j) 1)) 1)))) 14) 1) 1) 1) 1) 1) 1) 1))) (asI (nthD ax (xadd (xadd (xadd (xadd (xadd (xadd (xadd (xadd (xix 0 (xnat (asI (nthD ox (xix 0 (xnat (xar .sub .i64 (↑j) 1)) 1)))) 14) 1) 1) 1) 1) 1) 1) 1) 1))) (asV (nthD ax (xadd (xadd (xadd (xadd (xadd (xadd (xadd (xadd (xadd (xadd (xadd (xix 0 (xnat (asI (nthD ox (xix 0 (xnat (xar .sub .i64 (↑j) 1)) 1)))) 14) 1) 1) 1) 1) 1) 1) 1) 1) 1) 1) 1)))) 0 then(
 ck (xnn (xar .sub .i64 (↑j) 1)) <|
 ck (xle (xadd (xnat (xar .sub .i64 (↑j) 1)) 1) n) <|
 ck (xle (xadd (xix 0 (xnat (xar .sub .i64 (↑j) 1)) 1) 1) (xln ox)) <|
 ck (isI .i64 (nthD ox (xix 0 (xnat (xar .sub .i64 (↑j) 1)) 1))) <|
 ck (xle (xadd (xnat ↑j) 1) n) <|
 ck (xle (xadd (xix 0 (xnat ↑j) 1) 1) (xln ox)) <|
 ck (isI .i64 (nthD ox (xix 0 (xnat ↑j) 1))) <|
 ck (xle (xadd (xnat ↑j) 1) n) <|
 ck (xle (xadd (xix 0 (xnat ↑j) 1) 1) (xln ox)) <|
 ck (xnn (xar .sub .i64 (↑j) 1)) <|
 ck (xle (xadd (xnat (xar .sub .i64 (↑j) 1)) 1) n) <|
 ck (xle (xadd (xix 0 (xnat (xar .sub .i64 (↑j) 1)) 1) 1) (xln (xlay ox (xix 0 (xnat ↑j) 1) [.int .i64 (asI (nthD ox (xix 0 (xnat (xar .sub .i64 (↑j) 1)) 1)))]))) <|
 K .normal [.slo 2 0 n 0,.int .i64 0,.int .i64 ↑n,.fn 16 [.ptr 0 0],.int .i64 ↑i,.int .i64 (xar .sub .i64 (↑j) 1)] [sN [.slo 1 0 n 0],some (.ro ax),sC (xlay (xlay ox (xix 0 (xnat ↑j) 1) [.int .i64 (asI (nthD ox (xix 0 (xnat (xar .sub .i64 (↑j) 1)) 1)))]) (xix 0 (xnat (xar .sub .i64 (↑j) 1)) 1) [.int .i64 (asI (nthD ox (xix 0 (xnat ↑j) 1)))]) 1] (factG F))
 else(
 K (.exit 2) [.slo 2 0 n 0,.int .i64 0,.int .i64 ↑n,.fn 16 [.ptr 0 0],.int .i64 ↑i,.int .i64 ↑j] [sN [.slo 1 0 n 0],some (.ro ax),sC ox 1] (factG F)))
 else(
 K (.exit 2) [.slo 2 0 n 0,.int .i64 0,.int .i64 ↑n,.fn 16 [.ptr 0 0],.int .i64 ↑i,.int .i64 ↑j] [sN [.slo 1 0 n 0],some (.ro ax),sC ox 1] (factG F))):=by kernel_rfl
theorem is_d (n i:Nat) (ax ox:List LV) (F:World→Prop) (K:Pk):(xsp prog cxi 60 53 (iB.drop 3) (mkTm 53 (iT0 n i)) (mkS (iH n ax ox) (factG F)) (vK iL K))=(
 K .normal [.slo 2 0 n 0,.int .i64 0,.int .i64 ↑n,.fn 16 [.ptr 0 0],.int .i64 (xar .add .i64 (↑i) 1),.any] [sN [.slo 1 0 n 0],some (.ro ax),sC ox 1] (factG F)):=by kernel_rfl
end
end Go.Lev
