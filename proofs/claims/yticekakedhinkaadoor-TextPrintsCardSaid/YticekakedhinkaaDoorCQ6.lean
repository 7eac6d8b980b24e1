/- the reference's Line: its trees -/
import Derived.Test.YticekakedhinkaaDoorCQ5
import Derived.Test.YticekakedhinkaaDoorLc
import Derived.Test.YticekakedhinkaaDoorChecked
import Derived.KernelRfl
namespace Go.Lev
set_option linter.unusedSimpArgs false
set_option linter.unusedVariables false
open Go.RowKit
open Go.Proofs.Tryd (prog)
set_option maxRecDepth 100000
noncomputable section
abbrev lnL:List Nat:=[1,2,3,5,6,7]
abbrev lnH (op a b c n:Int):List LB:=[.cells [.int .i64 op,.int .i64 a,.int .i64 b,.int .i64 c,.int .u64 n] none,.cells [.str (nameW op),.int .i64 (rA op),.int .i64 (rB op),.int .i64 (rC op),.bool (rD op)] none,.cells [.int .i64 a,.int .i64 b,.int .i64 c] none]
abbrev lnT (t:List UInt8) (k:Int):List (Nat×LV):=[(1,.ptr 0 0),(2,.str []),(3,.ptr 1 0),(5,.str t),(6,.ptr 2 0),(7,.int .i64 k)]
theorem ln_a (op a b c n:Int) (K:Pk):(xsp prog cxL 40 119 (seg (sp prog 17) 0 5) (tm0 [.agg [.int .i64 op,.int .i64 a,.int .i64 b,.int .i64 c,.int .u64 n]]) (mkS [] gt4) (vK lnL K))=(
 K .normal [.ptr 0 0,.str [],.ptr 1 0,.str (nameW op),.ptr 2 0,.int .i64 0] [sN [.int .i64 op,.int .i64 a,.int .i64 b,.int .i64 c,.int .u64 n],sN [.str (nameW op),.int .i64 (rA op),.int .i64 (rB op),.int .i64 (rC op),.bool (rD op)],sN [.int .i64 a,.int .i64 b,.int .i64 c]] gt4):=by kernel_rfl
abbrev ln_l0_b1 (op:Int) (a:Int) (b:Int) (c:Int) (n:Int):List (Option LB):=[sN [.int .i64 op,.int .i64 a,.int .i64 b,.int .i64 c,.int .u64 n],sN [.str (nameW op),.int .i64 (rA op),.int .i64 (rB op),.int .i64 (rC op),.bool (rD op)],sN [.int .i64 a,.int .i64 b,.int .i64 c]]
theorem ln_l0 (op a b c n:Int) (t:List UInt8) (K:Pk):(xcode prog cxL 40 119 (loopOf (nthC (sp prog 17) 5)) (mkTm 119 (lnT t 0)) (mkS (lnH op a b c n) gt4) (vK lnL K))=(
 bif xcm .lss (rA op) 0 then(
 K .normal [.ptr 0 0,.str [],.ptr 1 0,.str t,.ptr 2 0,.int .i64 1] (ln_l0_b1 op a b c n) gt4)
 else(
 bif xcm .eql op 23 then(
 ck (xle (xadd (xsln t) 1) 1000000000) <|
 ck (xle (xadd (xsln (xscat t [32])) (xsln (callW a))) 1000000000) <|
 K .normal [.ptr 0 0,.str [],.ptr 1 0,.str (xscat (xscat t [32]) (callW a)),.ptr 2 0,.int .i64 1] (ln_l0_b1 op a b c n) gt4)
 else(
 bif xcm .eql op 8 then(
 bif xcm .eql op 23 then(
 bif xcm .eql op 12 then(
 ck (xle (xadd (xsln t) 2) 1000000000) <|
 ck (xcm .leq 0 (xwr .u64 a)) <|
 ck (xcm .leq (xwr .u64 a) 18446744073709551615) <|
 ck (xle (xadd (xsln (xscat t [32,114])) (xsln (decW (xwr .u64 a)))) 1000000000) <|
 K .normal [.ptr 0 0,.str [],.ptr 1 0,.str (xscat (xscat t [32,114]) (decW (xwr .u64 a))),.ptr 2 0,.int .i64 1] (ln_l0_b1 op a b c n) gt4)
 else(
 bif xcm .eql op 13 then(
 ck (xle (xadd (xsln t) 2) 1000000000) <|
 ck (xcm .leq 0 (xwr .u64 a)) <|
 ck (xcm .leq (xwr .u64 a) 18446744073709551615) <|
 ck (xle (xadd (xsln (xscat t [32,114])) (xsln (decW (xwr .u64 a)))) 1000000000) <|
 K .normal [.ptr 0 0,.str [],.ptr 1 0,.str (xscat (xscat t [32,114]) (decW (xwr .u64 a))),.ptr 2 0,.int .i64 1] (ln_l0_b1 op a b c n) gt4)
 else(
 ck (xle (xadd (xsln t) 2) 1000000000) <|
 ck (xcm .leq 0 (xwr .u64 a)) <|
 ck (xcm .leq (xwr .u64 a) 18446744073709551615) <|
 ck (xle (xadd (xsln (xscat t [32,114])) (xsln (decW (xwr .u64 a)))) 1000000000) <|
 K .normal [.ptr 0 0,.str [],.ptr 1 0,.str (xscat (xscat t [32,114]) (decW (xwr .u64 a))),.ptr 2 0,.int .i64 1] (ln_l0_b1 op a b c n) gt4)))
 else(
 bif xcm .eql op 12 then(
 ck (xle (xadd (xsln t) 2) 1000000000) <|
 ck (xcm .leq 0 (xwr .u64 a)) <|
 ck (xcm .leq (xwr .u64 a) 18446744073709551615) <|
 ck (xle (xadd (xsln (xscat t [32,114])) (xsln (decW (xwr .u64 a)))) 1000000000) <|
 K .normal [.ptr 0 0,.str [],.ptr 1 0,.str (xscat (xscat t [32,114]) (decW (xwr .u64 a))),.ptr 2 0,.int .i64 1] (ln_l0_b1 op a b c n) gt4)
 else(
 bif xcm .eql op 13 then(
 ck (xle (xadd (xsln t) 2) 1000000000) <|
 ck (xcm .leq 0 (xwr .u64 a)) <|
 ck (xcm .leq (xwr .u64 a) 18446744073709551615) <|
 ck (xle (xadd (xsln (xscat t [32,114])) (xsln (decW (xwr .u64 a)))) 1000000000) <|
 K .normal [.ptr 0 0,.str [],.ptr 1 0,.str (xscat (xscat t [32,114]) (decW (xwr .u64 a))),.ptr 2 0,.int .i64 1] (ln_l0_b1 op a b c n) gt4)
 else(
 ck (xle (xadd (xsln t) 2) 1000000000) <|
 ck (xcm .leq 0 (xwr .u64 a)) <|
 ck (xcm .leq (xwr .u64 a) 18446744073709551615) <|
 ck (xle (xadd (xsln (xscat t [32,114])) (xsln (decW (xwr .u64 a)))) 1000000000) <|
 K .normal [.ptr 0 0,.str [],.ptr 1 0,.str (xscat (xscat t [32,114]) (decW (xwr .u64 a))),.ptr 2 0,.int .i64 1] (ln_l0_b1 op a b c n) gt4))))
 else(
 bif xcm .eql op 9 then(
 bif xcm .eql op 23 then(
 bif xcm .eql op 12 then(
 ck (xle (xadd (xsln t) 2) 1000000000) <|
 ck (xcm .leq 0 (xwr .u64 a)) <|
 ck (xcm .leq (xwr .u64 a) 18446744073709551615) <|
 ck (xle (xadd (xsln (xscat t [32,114])) (xsln (decW (xwr .u64 a)))) 1000000000) <|
 K .normal [.ptr 0 0,.str [],.ptr 1 0,.str (xscat (xscat t [32,114]) (decW (xwr .u64 a))),.ptr 2 0,.int .i64 1] (ln_l0_b1 op a b c n) gt4)
 else(
 bif xcm .eql op 13 then(
 ck (xle (xadd (xsln t) 2) 1000000000) <|
 ck (xcm .leq 0 (xwr .u64 a)) <|
 ck (xcm .leq (xwr .u64 a) 18446744073709551615) <|
 ck (xle (xadd (xsln (xscat t [32,114])) (xsln (decW (xwr .u64 a)))) 1000000000) <|
 K .normal [.ptr 0 0,.str [],.ptr 1 0,.str (xscat (xscat t [32,114]) (decW (xwr .u64 a))),.ptr 2 0,.int .i64 1] (ln_l0_b1 op a b c n) gt4)
 else(
 ck (xle (xadd (xsln t) 2) 1000000000) <|
 ck (xcm .leq 0 (xwr .u64 a)) <|
 ck (xcm .leq (xwr .u64 a) 18446744073709551615) <|
 ck (xle (xadd (xsln (xscat t [32,114])) (xsln (decW (xwr .u64 a)))) 1000000000) <|
 K .normal [.ptr 0 0,.str [],.ptr 1 0,.str (xscat (xscat t [32,114]) (decW (xwr .u64 a))),.ptr 2 0,.int .i64 1] (ln_l0_b1 op a b c n) gt4)))
 else(
 bif xcm .eql op 12 then(
 ck (xle (xadd (xsln t) 2) 1000000000) <|
 ck (xcm .leq 0 (xwr .u64 a)) <|
 ck (xcm .leq (xwr .u64 a) 18446744073709551615) <|
 ck (xle (xadd (xsln (xscat t [32,114])) (xsln (decW (xwr .u64 a)))) 1000000000) <|
 K .normal [.ptr 0 0,.str [],.ptr 1 0,.str (xscat (xscat t [32,114]) (decW (xwr .u64 a))),.ptr 2 0,.int .i64 1] (ln_l0_b1 op a b c n) gt4)
 else(
 bif xcm .eql op 13 then(
 ck (xle (xadd (xsln t) 2) 1000000000) <|
 ck (xcm .leq 0 (xwr .u64 a)) <|
 ck (xcm .leq (xwr .u64 a) 18446744073709551615) <|
 ck (xle (xadd (xsln (xscat t [32,114])) (xsln (decW (xwr .u64 a)))) 1000000000) <|
 K .normal [.ptr 0 0,.str [],.ptr 1 0,.str (xscat (xscat t [32,114]) (decW (xwr .u64 a))),.ptr 2 0,.int .i64 1] (ln_l0_b1 op a b c n) gt4)
 else(
 ck (xle (xadd (xsln t) 2) 1000000000) <|
 ck (xcm .leq 0 (xwr .u64 a)) <|
 ck (xcm .leq (xwr .u64 a) 18446744073709551615) <|
 ck (xle (xadd (xsln (xscat t [32,114])) (xsln (decW (xwr .u64 a)))) 1000000000) <|
 K .normal [.ptr 0 0,.str [],.ptr 1 0,.str (xscat (xscat t [32,114]) (decW (xwr .u64 a))),.ptr 2 0,.int .i64 1] (ln_l0_b1 op a b c n) gt4))))
 else(
 bif xcm .eql op 23 then(
 bif xcm .eql op 12 then(
 ck (xle (xadd (xsln t) 2) 1000000000) <|
 ck (xcm .leq 0 (xwr .u64 a)) <|
 ck (xcm .leq (xwr .u64 a) 18446744073709551615) <|
 ck (xle (xadd (xsln (xscat t [32,114])) (xsln (decW (xwr .u64 a)))) 1000000000) <|
 K .normal [.ptr 0 0,.str [],.ptr 1 0,.str (xscat (xscat t [32,114]) (decW (xwr .u64 a))),.ptr 2 0,.int .i64 1] (ln_l0_b1 op a b c n) gt4)
 else(
 bif xcm .eql op 13 then(
 ck (xle (xadd (xsln t) 2) 1000000000) <|
 ck (xcm .leq 0 (xwr .u64 a)) <|
 ck (xcm .leq (xwr .u64 a) 18446744073709551615) <|
 ck (xle (xadd (xsln (xscat t [32,114])) (xsln (decW (xwr .u64 a)))) 1000000000) <|
 K .normal [.ptr 0 0,.str [],.ptr 1 0,.str (xscat (xscat t [32,114]) (decW (xwr .u64 a))),.ptr 2 0,.int .i64 1] (ln_l0_b1 op a b c n) gt4)
 else(
 ck (xle (xadd (xsln t) 2) 1000000000) <|
 ck (xcm .leq 0 (xwr .u64 a)) <|
 ck (xcm .leq (xwr .u64 a) 18446744073709551615) <|
 ck (xle (xadd (xsln (xscat t [32,114])) (xsln (decW (xwr .u64 a)))) 1000000000) <|
 K .normal [.ptr 0 0,.str [],.ptr 1 0,.str (xscat (xscat t [32,114]) (decW (xwr .u64 a))),.ptr 2 0,.int .i64 1] (ln_l0_b1 op a b c n) gt4)))
 else(
 bif xcm .eql op 12 then(
 ck (xle (xadd (xsln t) 2) 1000000000) <|
 ck (xcm .leq 0 (xwr .u64 a)) <|
 ck (xcm .leq (xwr .u64 a) 18446744073709551615) <|
 ck (xle (xadd (xsln (xscat t [32,114])) (xsln (decW (xwr .u64 a)))) 1000000000) <|
 K .normal [.ptr 0 0,.str [],.ptr 1 0,.str (xscat (xscat t [32,114]) (decW (xwr .u64 a))),.ptr 2 0,.int .i64 1] (ln_l0_b1 op a b c n) gt4)
 else(
 bif xcm .eql op 13 then(
 ck (xle (xadd (xsln t) 2) 1000000000) <|
 ck (xcm .leq 0 (xwr .u64 a)) <|
 ck (xcm .leq (xwr .u64 a) 18446744073709551615) <|
 ck (xle (xadd (xsln (xscat t [32,114])) (xsln (decW (xwr .u64 a)))) 1000000000) <|
 K .normal [.ptr 0 0,.str [],.ptr 1 0,.str (xscat (xscat t [32,114]) (decW (xwr .u64 a))),.ptr 2 0,.int .i64 1] (ln_l0_b1 op a b c n) gt4)
 else(
 ck (xle (xadd (xsln t) 2) 1000000000) <|
 ck (xcm .leq 0 (xwr .u64 a)) <|
 ck (xcm .leq (xwr .u64 a) 18446744073709551615) <|
 ck (xle (xadd (xsln (xscat t [32,114])) (xsln (decW (xwr .u64 a)))) 1000000000) <|
 K .normal [.ptr 0 0,.str [],.ptr 1 0,.str (xscat (xscat t [32,114]) (decW (xwr .u64 a))),.ptr 2 0,.int .i64 1] (ln_l0_b1 op a b c n) gt4)))))))):=by kernel_rfl
abbrev ln_l1_b1 (op:Int) (a:Int) (b:Int) (c:Int) (n:Int):List (Option LB):=[sN [.int .i64 op,.int .i64 a,.int .i64 b,.int .i64 c,.int .u64 n],sN [.str (nameW op),.int .i64 (rA op),.int .i64 (rB op),.int .i64 (rC op),.bool (rD op)],sN [.int .i64 a,.int .i64 b,.int .i64 c]]
theorem ln_l1 (op a b c n:Int) (t:List UInt8) (K:Pk):(xcode prog cxL 40 119 (loopOf (nthC (sp prog 17) 5)) (mkTm 119 (lnT t 1)) (mkS (lnH op a b c n) gt4) (vK lnL K))=(
 bif xcm .lss (rB op) 0 then(
 K .normal [.ptr 0 0,.str [],.ptr 1 0,.str t,.ptr 2 0,.int .i64 2] (ln_l1_b1 op a b c n) gt4)
 else(
 bif xcm .eql op 23 then(
 bif xcm .eql op 8 then(
 bif xcm .eql op 23 then(
 ck (xle (xadd (xsln t) 1) 1000000000) <|
 ck (xcm .leq 0 (xwr .u64 b)) <|
 ck (xcm .leq (xwr .u64 b) 18446744073709551615) <|
 ck (xle (xadd (xsln (xscat t [32])) (xsln (decW (xwr .u64 b)))) 1000000000) <|
 K .normal [.ptr 0 0,.str [],.ptr 1 0,.str (xscat (xscat t [32]) (decW (xwr .u64 b))),.ptr 2 0,.int .i64 2] (ln_l1_b1 op a b c n) gt4)
 else(
 bif xcm .eql op 12 then(
 ck (xle (xadd (xsln t) 2) 1000000000) <|
 ck (xcm .leq 0 (xwr .u64 b)) <|
 ck (xcm .leq (xwr .u64 b) 18446744073709551615) <|
 ck (xle (xadd (xsln (xscat t [32,114])) (xsln (decW (xwr .u64 b)))) 1000000000) <|
 K .normal [.ptr 0 0,.str [],.ptr 1 0,.str (xscat (xscat t [32,114]) (decW (xwr .u64 b))),.ptr 2 0,.int .i64 2] (ln_l1_b1 op a b c n) gt4)
 else(
 bif xcm .eql op 13 then(
 ck (xle (xadd (xsln t) 2) 1000000000) <|
 ck (xcm .leq 0 (xwr .u64 b)) <|
 ck (xcm .leq (xwr .u64 b) 18446744073709551615) <|
 ck (xle (xadd (xsln (xscat t [32,114])) (xsln (decW (xwr .u64 b)))) 1000000000) <|
 K .normal [.ptr 0 0,.str [],.ptr 1 0,.str (xscat (xscat t [32,114]) (decW (xwr .u64 b))),.ptr 2 0,.int .i64 2] (ln_l1_b1 op a b c n) gt4)
 else(
 ck (xle (xadd (xsln t) 2) 1000000000) <|
 ck (xcm .leq 0 (xwr .u64 b)) <|
 ck (xcm .leq (xwr .u64 b) 18446744073709551615) <|
 ck (xle (xadd (xsln (xscat t [32,114])) (xsln (decW (xwr .u64 b)))) 1000000000) <|
 K .normal [.ptr 0 0,.str [],.ptr 1 0,.str (xscat (xscat t [32,114]) (decW (xwr .u64 b))),.ptr 2 0,.int .i64 2] (ln_l1_b1 op a b c n) gt4))))
 else(
 bif xcm .eql op 9 then(
 bif xcm .eql op 23 then(
 ck (xle (xadd (xsln t) 1) 1000000000) <|
 ck (xcm .leq 0 (xwr .u64 b)) <|
 ck (xcm .leq (xwr .u64 b) 18446744073709551615) <|
 ck (xle (xadd (xsln (xscat t [32])) (xsln (decW (xwr .u64 b)))) 1000000000) <|
 K .normal [.ptr 0 0,.str [],.ptr 1 0,.str (xscat (xscat t [32]) (decW (xwr .u64 b))),.ptr 2 0,.int .i64 2] (ln_l1_b1 op a b c n) gt4)
 else(
 bif xcm .eql op 12 then(
 ck (xle (xadd (xsln t) 2) 1000000000) <|
 ck (xcm .leq 0 (xwr .u64 b)) <|
 ck (xcm .leq (xwr .u64 b) 18446744073709551615) <|
 ck (xle (xadd (xsln (xscat t [32,114])) (xsln (decW (xwr .u64 b)))) 1000000000) <|
 K .normal [.ptr 0 0,.str [],.ptr 1 0,.str (xscat (xscat t [32,114]) (decW (xwr .u64 b))),.ptr 2 0,.int .i64 2] (ln_l1_b1 op a b c n) gt4)
 else(
 bif xcm .eql op 13 then(
 ck (xle (xadd (xsln t) 2) 1000000000) <|
 ck (xcm .leq 0 (xwr .u64 b)) <|
 ck (xcm .leq (xwr .u64 b) 18446744073709551615) <|
 ck (xle (xadd (xsln (xscat t [32,114])) (xsln (decW (xwr .u64 b)))) 1000000000) <|
 K .normal [.ptr 0 0,.str [],.ptr 1 0,.str (xscat (xscat t [32,114]) (decW (xwr .u64 b))),.ptr 2 0,.int .i64 2] (ln_l1_b1 op a b c n) gt4)
 else(
 ck (xle (xadd (xsln t) 2) 1000000000) <|
 ck (xcm .leq 0 (xwr .u64 b)) <|
 ck (xcm .leq (xwr .u64 b) 18446744073709551615) <|
 ck (xle (xadd (xsln (xscat t [32,114])) (xsln (decW (xwr .u64 b)))) 1000000000) <|
 K .normal [.ptr 0 0,.str [],.ptr 1 0,.str (xscat (xscat t [32,114]) (decW (xwr .u64 b))),.ptr 2 0,.int .i64 2] (ln_l1_b1 op a b c n) gt4))))
 else(
 bif xcm .eql op 23 then(
 ck (xle (xadd (xsln t) 1) 1000000000) <|
 ck (xcm .leq 0 (xwr .u64 b)) <|
 ck (xcm .leq (xwr .u64 b) 18446744073709551615) <|
 ck (xle (xadd (xsln (xscat t [32])) (xsln (decW (xwr .u64 b)))) 1000000000) <|
 K .normal [.ptr 0 0,.str [],.ptr 1 0,.str (xscat (xscat t [32]) (decW (xwr .u64 b))),.ptr 2 0,.int .i64 2] (ln_l1_b1 op a b c n) gt4)
 else(
 bif xcm .eql op 12 then(
 ck (xle (xadd (xsln t) 2) 1000000000) <|
 ck (xcm .leq 0 (xwr .u64 b)) <|
 ck (xcm .leq (xwr .u64 b) 18446744073709551615) <|
 ck (xle (xadd (xsln (xscat t [32,114])) (xsln (decW (xwr .u64 b)))) 1000000000) <|
 K .normal [.ptr 0 0,.str [],.ptr 1 0,.str (xscat (xscat t [32,114]) (decW (xwr .u64 b))),.ptr 2 0,.int .i64 2] (ln_l1_b1 op a b c n) gt4)
 else(
 bif xcm .eql op 13 then(
 ck (xle (xadd (xsln t) 2) 1000000000) <|
 ck (xcm .leq 0 (xwr .u64 b)) <|
 ck (xcm .leq (xwr .u64 b) 18446744073709551615) <|
 ck (xle (xadd (xsln (xscat t [32,114])) (xsln (decW (xwr .u64 b)))) 1000000000) <|
 K .normal [.ptr 0 0,.str [],.ptr 1 0,.str (xscat (xscat t [32,114]) (decW (xwr .u64 b))),.ptr 2 0,.int .i64 2] (ln_l1_b1 op a b c n) gt4)
 else(
 ck (xle (xadd (xsln t) 2) 1000000000) <|
 ck (xcm .leq 0 (xwr .u64 b)) <|
 ck (xcm .leq (xwr .u64 b) 18446744073709551615) <|
 ck (xle (xadd (xsln (xscat t [32,114])) (xsln (decW (xwr .u64 b)))) 1000000000) <|
 K .normal [.ptr 0 0,.str [],.ptr 1 0,.str (xscat (xscat t [32,114]) (decW (xwr .u64 b))),.ptr 2 0,.int .i64 2] (ln_l1_b1 op a b c n) gt4))))))
 else(
 bif xcm .eql op 8 then(
 bif xcm .eql op 23 then(
 ck (xle (xadd (xsln t) 1) 1000000000) <|
 ck (xcm .leq 0 (xwr .u64 b)) <|
 ck (xcm .leq (xwr .u64 b) 18446744073709551615) <|
 ck (xle (xadd (xsln (xscat t [32])) (xsln (decW (xwr .u64 b)))) 1000000000) <|
 K .normal [.ptr 0 0,.str [],.ptr 1 0,.str (xscat (xscat t [32]) (decW (xwr .u64 b))),.ptr 2 0,.int .i64 2] (ln_l1_b1 op a b c n) gt4)
 else(
 bif xcm .eql op 12 then(
 ck (xle (xadd (xsln t) 2) 1000000000) <|
 ck (xcm .leq 0 (xwr .u64 b)) <|
 ck (xcm .leq (xwr .u64 b) 18446744073709551615) <|
 ck (xle (xadd (xsln (xscat t [32,114])) (xsln (decW (xwr .u64 b)))) 1000000000) <|
 K .normal [.ptr 0 0,.str [],.ptr 1 0,.str (xscat (xscat t [32,114]) (decW (xwr .u64 b))),.ptr 2 0,.int .i64 2] (ln_l1_b1 op a b c n) gt4)
 else(
 bif xcm .eql op 13 then(
 ck (xle (xadd (xsln t) 2) 1000000000) <|
 ck (xcm .leq 0 (xwr .u64 b)) <|
 ck (xcm .leq (xwr .u64 b) 18446744073709551615) <|
 ck (xle (xadd (xsln (xscat t [32,114])) (xsln (decW (xwr .u64 b)))) 1000000000) <|
 K .normal [.ptr 0 0,.str [],.ptr 1 0,.str (xscat (xscat t [32,114]) (decW (xwr .u64 b))),.ptr 2 0,.int .i64 2] (ln_l1_b1 op a b c n) gt4)
 else(
 ck (xle (xadd (xsln t) 2) 1000000000) <|
 ck (xcm .leq 0 (xwr .u64 b)) <|
 ck (xcm .leq (xwr .u64 b) 18446744073709551615) <|
 ck (xle (xadd (xsln (xscat t [32,114])) (xsln (decW (xwr .u64 b)))) 1000000000) <|
 K .normal [.ptr 0 0,.str [],.ptr 1 0,.str (xscat (xscat t [32,114]) (decW (xwr .u64 b))),.ptr 2 0,.int .i64 2] (ln_l1_b1 op a b c n) gt4))))
 else(
 bif xcm .eql op 9 then(
 bif xcm .eql op 23 then(
 ck (xle (xadd (xsln t) 1) 1000000000) <|
 ck (xcm .leq 0 (xwr .u64 b)) <|
 ck (xcm .leq (xwr .u64 b) 18446744073709551615) <|
 ck (xle (xadd (xsln (xscat t [32])) (xsln (decW (xwr .u64 b)))) 1000000000) <|
 K .normal [.ptr 0 0,.str [],.ptr 1 0,.str (xscat (xscat t [32]) (decW (xwr .u64 b))),.ptr 2 0,.int .i64 2] (ln_l1_b1 op a b c n) gt4)
 else(
 bif xcm .eql op 12 then(
 ck (xle (xadd (xsln t) 2) 1000000000) <|
 ck (xcm .leq 0 (xwr .u64 b)) <|
 ck (xcm .leq (xwr .u64 b) 18446744073709551615) <|
 ck (xle (xadd (xsln (xscat t [32,114])) (xsln (decW (xwr .u64 b)))) 1000000000) <|
 K .normal [.ptr 0 0,.str [],.ptr 1 0,.str (xscat (xscat t [32,114]) (decW (xwr .u64 b))),.ptr 2 0,.int .i64 2] (ln_l1_b1 op a b c n) gt4)
 else(
 bif xcm .eql op 13 then(
 ck (xle (xadd (xsln t) 2) 1000000000) <|
 ck (xcm .leq 0 (xwr .u64 b)) <|
 ck (xcm .leq (xwr .u64 b) 18446744073709551615) <|
 ck (xle (xadd (xsln (xscat t [32,114])) (xsln (decW (xwr .u64 b)))) 1000000000) <|
 K .normal [.ptr 0 0,.str [],.ptr 1 0,.str (xscat (xscat t [32,114]) (decW (xwr .u64 b))),.ptr 2 0,.int .i64 2] (ln_l1_b1 op a b c n) gt4)
 else(
 ck (xle (xadd (xsln t) 2) 1000000000) <|
 ck (xcm .leq 0 (xwr .u64 b)) <|
 ck (xcm .leq (xwr .u64 b) 18446744073709551615) <|
 ck (xle (xadd (xsln (xscat t [32,114])) (xsln (decW (xwr .u64 b)))) 1000000000) <|
 K .normal [.ptr 0 0,.str [],.ptr 1 0,.str (xscat (xscat t [32,114]) (decW (xwr .u64 b))),.ptr 2 0,.int .i64 2] (ln_l1_b1 op a b c n) gt4))))
 else(
 bif xcm .eql op 23 then(
 ck (xle (xadd (xsln t) 1) 1000000000) <|
 ck (xcm .leq 0 (xwr .u64 b)) <|
 ck (xcm .leq (xwr .u64 b) 18446744073709551615) <|
 ck (xle (xadd (xsln (xscat t [32])) (xsln (decW (xwr .u64 b)))) 1000000000) <|
 K .normal [.ptr 0 0,.str [],.ptr 1 0,.str (xscat (xscat t [32]) (decW (xwr .u64 b))),.ptr 2 0,.int .i64 2] (ln_l1_b1 op a b c n) gt4)
 else(
 bif xcm .eql op 12 then(
 ck (xle (xadd (xsln t) 2) 1000000000) <|
 ck (xcm .leq 0 (xwr .u64 b)) <|
 ck (xcm .leq (xwr .u64 b) 18446744073709551615) <|
 ck (xle (xadd (xsln (xscat t [32,114])) (xsln (decW (xwr .u64 b)))) 1000000000) <|
 K .normal [.ptr 0 0,.str [],.ptr 1 0,.str (xscat (xscat t [32,114]) (decW (xwr .u64 b))),.ptr 2 0,.int .i64 2] (ln_l1_b1 op a b c n) gt4)
 else(
 bif xcm .eql op 13 then(
 ck (xle (xadd (xsln t) 2) 1000000000) <|
 ck (xcm .leq 0 (xwr .u64 b)) <|
 ck (xcm .leq (xwr .u64 b) 18446744073709551615) <|
 ck (xle (xadd (xsln (xscat t [32,114])) (xsln (decW (xwr .u64 b)))) 1000000000) <|
 K .normal [.ptr 0 0,.str [],.ptr 1 0,.str (xscat (xscat t [32,114]) (decW (xwr .u64 b))),.ptr 2 0,.int .i64 2] (ln_l1_b1 op a b c n) gt4)
 else(
 ck (xle (xadd (xsln t) 2) 1000000000) <|
 ck (xcm .leq 0 (xwr .u64 b)) <|
 ck (xcm .leq (xwr .u64 b) 18446744073709551615) <|
 ck (xle (xadd (xsln (xscat t [32,114])) (xsln (decW (xwr .u64 b)))) 1000000000) <|
 K .normal [.ptr 0 0,.str [],.ptr 1 0,.str (xscat (xscat t [32,114]) (decW (xwr .u64 b))),.ptr 2 0,.int .i64 2] (ln_l1_b1 op a b c n) gt4)))))))):=by kernel_rfl
abbrev ln_l2_b1 (op:Int) (a:Int) (b:Int) (c:Int) (n:Int):List (Option LB):=[sN [.int .i64 op,.int .i64 a,.int .i64 b,.int .i64 c,.int .u64 n],sN [.str (nameW op),.int .i64 (rA op),.int .i64 (rB op),.int .i64 (rC op),.bool (rD op)],sN [.int .i64 a,.int .i64 b,.int .i64 c]]
theorem ln_l2 (op a b c n:Int) (t:List UInt8) (K:Pk):(xcode prog cxL 40 119 (loopOf (nthC (sp prog 17) 5)) (mkTm 119 (lnT t 2)) (mkS (lnH op a b c n) gt4) (vK lnL K))=(
 bif xcm .lss (rC op) 0 then(
 K .normal [.ptr 0 0,.str [],.ptr 1 0,.str t,.ptr 2 0,.int .i64 3] (ln_l2_b1 op a b c n) gt4)
 else(
 bif xcm .eql op 23 then(
 bif xcm .eql op 8 then(
 ck (xle (xadd (xsln t) 1) 1000000000) <|
 ck (xcm .leq 0 (xwr .u64 c)) <|
 ck (xcm .leq (xwr .u64 c) 18446744073709551615) <|
 ck (xle (xadd (xsln (xscat t [32])) (xsln (decW (xwr .u64 c)))) 1000000000) <|
 K .normal [.ptr 0 0,.str [],.ptr 1 0,.str (xscat (xscat t [32]) (decW (xwr .u64 c))),.ptr 2 0,.int .i64 3] (ln_l2_b1 op a b c n) gt4)
 else(
 bif xcm .eql op 9 then(
 ck (xle (xadd (xsln t) 1) 1000000000) <|
 ck (xcm .leq 0 (xwr .u64 c)) <|
 ck (xcm .leq (xwr .u64 c) 18446744073709551615) <|
 ck (xle (xadd (xsln (xscat t [32])) (xsln (decW (xwr .u64 c)))) 1000000000) <|
 K .normal [.ptr 0 0,.str [],.ptr 1 0,.str (xscat (xscat t [32]) (decW (xwr .u64 c))),.ptr 2 0,.int .i64 3] (ln_l2_b1 op a b c n) gt4)
 else(
 bif xcm .eql op 23 then(
 bif xcm .eql op 12 then(
 ck (xle (xadd (xsln t) 2) 1000000000) <|
 ck (xcm .leq 0 (xwr .u64 c)) <|
 ck (xcm .leq (xwr .u64 c) 18446744073709551615) <|
 ck (xle (xadd (xsln (xscat t [32,108])) (xsln (decW (xwr .u64 c)))) 1000000000) <|
 K .normal [.ptr 0 0,.str [],.ptr 1 0,.str (xscat (xscat t [32,108]) (decW (xwr .u64 c))),.ptr 2 0,.int .i64 3] (ln_l2_b1 op a b c n) gt4)
 else(
 bif xcm .eql op 13 then(
 ck (xle (xadd (xsln t) 2) 1000000000) <|
 ck (xcm .leq 0 (xwr .u64 c)) <|
 ck (xcm .leq (xwr .u64 c) 18446744073709551615) <|
 ck (xle (xadd (xsln (xscat t [32,108])) (xsln (decW (xwr .u64 c)))) 1000000000) <|
 K .normal [.ptr 0 0,.str [],.ptr 1 0,.str (xscat (xscat t [32,108]) (decW (xwr .u64 c))),.ptr 2 0,.int .i64 3] (ln_l2_b1 op a b c n) gt4)
 else(
 ck (xle (xadd (xsln t) 2) 1000000000) <|
 ck (xcm .leq 0 (xwr .u64 c)) <|
 ck (xcm .leq (xwr .u64 c) 18446744073709551615) <|
 ck (xle (xadd (xsln (xscat t [32,114])) (xsln (decW (xwr .u64 c)))) 1000000000) <|
 K .normal [.ptr 0 0,.str [],.ptr 1 0,.str (xscat (xscat t [32,114]) (decW (xwr .u64 c))),.ptr 2 0,.int .i64 3] (ln_l2_b1 op a b c n) gt4)))
 else(
 bif xcm .eql op 12 then(
 ck (xle (xadd (xsln t) 2) 1000000000) <|
 ck (xcm .leq 0 (xwr .u64 c)) <|
 ck (xcm .leq (xwr .u64 c) 18446744073709551615) <|
 ck (xle (xadd (xsln (xscat t [32,108])) (xsln (decW (xwr .u64 c)))) 1000000000) <|
 K .normal [.ptr 0 0,.str [],.ptr 1 0,.str (xscat (xscat t [32,108]) (decW (xwr .u64 c))),.ptr 2 0,.int .i64 3] (ln_l2_b1 op a b c n) gt4)
 else(
 bif xcm .eql op 13 then(
 ck (xle (xadd (xsln t) 2) 1000000000) <|
 ck (xcm .leq 0 (xwr .u64 c)) <|
 ck (xcm .leq (xwr .u64 c) 18446744073709551615) <|
 ck (xle (xadd (xsln (xscat t [32,108])) (xsln (decW (xwr .u64 c)))) 1000000000) <|
 K .normal [.ptr 0 0,.str [],.ptr 1 0,.str (xscat (xscat t [32,108]) (decW (xwr .u64 c))),.ptr 2 0,.int .i64 3] (ln_l2_b1 op a b c n) gt4)
 else(
 ck (xle (xadd (xsln t) 2) 1000000000) <|
 ck (xcm .leq 0 (xwr .u64 c)) <|
 ck (xcm .leq (xwr .u64 c) 18446744073709551615) <|
 ck (xle (xadd (xsln (xscat t [32,114])) (xsln (decW (xwr .u64 c)))) 1000000000) <|
 K .normal [.ptr 0 0,.str [],.ptr 1 0,.str (xscat (xscat t [32,114]) (decW (xwr .u64 c))),.ptr 2 0,.int .i64 3] (ln_l2_b1 op a b c n) gt4))))))
 else(
 bif xcm .eql op 8 then(
 ck (xle (xadd (xsln t) 1) 1000000000) <|
 ck (xcm .leq 0 (xwr .u64 c)) <|
 ck (xcm .leq (xwr .u64 c) 18446744073709551615) <|
 ck (xle (xadd (xsln (xscat t [32])) (xsln (decW (xwr .u64 c)))) 1000000000) <|
 K .normal [.ptr 0 0,.str [],.ptr 1 0,.str (xscat (xscat t [32]) (decW (xwr .u64 c))),.ptr 2 0,.int .i64 3] (ln_l2_b1 op a b c n) gt4)
 else(
 bif xcm .eql op 9 then(
 ck (xle (xadd (xsln t) 1) 1000000000) <|
 ck (xcm .leq 0 (xwr .u64 c)) <|
 ck (xcm .leq (xwr .u64 c) 18446744073709551615) <|
 ck (xle (xadd (xsln (xscat t [32])) (xsln (decW (xwr .u64 c)))) 1000000000) <|
 K .normal [.ptr 0 0,.str [],.ptr 1 0,.str (xscat (xscat t [32]) (decW (xwr .u64 c))),.ptr 2 0,.int .i64 3] (ln_l2_b1 op a b c n) gt4)
 else(
 bif xcm .eql op 23 then(
 bif xcm .eql op 12 then(
 ck (xle (xadd (xsln t) 2) 1000000000) <|
 ck (xcm .leq 0 (xwr .u64 c)) <|
 ck (xcm .leq (xwr .u64 c) 18446744073709551615) <|
 ck (xle (xadd (xsln (xscat t [32,108])) (xsln (decW (xwr .u64 c)))) 1000000000) <|
 K .normal [.ptr 0 0,.str [],.ptr 1 0,.str (xscat (xscat t [32,108]) (decW (xwr .u64 c))),.ptr 2 0,.int .i64 3] (ln_l2_b1 op a b c n) gt4)
 else(
 bif xcm .eql op 13 then(
 ck (xle (xadd (xsln t) 2) 1000000000) <|
 ck (xcm .leq 0 (xwr .u64 c)) <|
 ck (xcm .leq (xwr .u64 c) 18446744073709551615) <|
 ck (xle (xadd (xsln (xscat t [32,108])) (xsln (decW (xwr .u64 c)))) 1000000000) <|
 K .normal [.ptr 0 0,.str [],.ptr 1 0,.str (xscat (xscat t [32,108]) (decW (xwr .u64 c))),.ptr 2 0,.int .i64 3] (ln_l2_b1 op a b c n) gt4)
 else(
 ck (xle (xadd (xsln t) 2) 1000000000) <|
 ck (xcm .leq 0 (xwr .u64 c)) <|
 ck (xcm .leq (xwr .u64 c) 18446744073709551615) <|
 ck (xle (xadd (xsln (xscat t [32,114])) (xsln (decW (xwr .u64 c)))) 1000000000) <|
 K .normal [.ptr 0 0,.str [],.ptr 1 0,.str (xscat (xscat t [32,114]) (decW (xwr .u64 c))),.ptr 2 0,.int .i64 3] (ln_l2_b1 op a b c n) gt4)))
 else(
 bif xcm .eql op 12 then(
 ck (xle (xadd (xsln t) 2) 1000000000) <|
 ck (xcm .leq 0 (xwr .u64 c)) <|
 ck (xcm .leq (xwr .u64 c) 18446744073709551615) <|
 ck (xle (xadd (xsln (xscat t [32,108])) (xsln (decW (xwr .u64 c)))) 1000000000) <|
 K .normal [.ptr 0 0,.str [],.ptr 1 0,.str (xscat (xscat t [32,108]) (decW (xwr .u64 c))),.ptr 2 0,.int .i64 3] (ln_l2_b1 op a b c n) gt4)
 else(
 bif xcm .eql op 13 then(
 ck (xle (xadd (xsln t) 2) 1000000000) <|
 ck (xcm .leq 0 (xwr .u64 c)) <|
 ck (xcm .leq (xwr .u64 c) 18446744073709551615) <|
 ck (xle (xadd (xsln (xscat t [32,108])) (xsln (decW (xwr .u64 c)))) 1000000000) <|
 K .normal [.ptr 0 0,.str [],.ptr 1 0,.str (xscat (xscat t [32,108]) (decW (xwr .u64 c))),.ptr 2 0,.int .i64 3] (ln_l2_b1 op a b c n) gt4)
 else(
 ck (xle (xadd (xsln t) 2) 1000000000) <|
 ck (xcm .leq 0 (xwr .u64 c)) <|
 ck (xcm .leq (xwr .u64 c) 18446744073709551615) <|
 ck (xle (xadd (xsln (xscat t [32,114])) (xsln (decW (xwr .u64 c)))) 1000000000) <|
 K .normal [.ptr 0 0,.str [],.ptr 1 0,.str (xscat (xscat t [32,114]) (decW (xwr .u64 c))),.ptr 2 0,.int .i64 3] (ln_l2_b1 op a b c n) gt4)))))))):=by kernel_rfl
theorem ln_l3 (op a b c n:Int) (t:List UInt8) (K:Pk):(xcode prog cxL 40 119 (loopOf (nthC (sp prog 17) 5)) (mkTm 119 (lnT t 3)) (mkS (lnH op a b c n) gt4) (vK lnL K))=(
 K (.exit 0) [.ptr 0 0,.str [],.ptr 1 0,.str t,.ptr 2 0,.int .i64 3] [sN [.int .i64 op,.int .i64 a,.int .i64 b,.int .i64 c,.int .u64 n],sN [.str (nameW op),.int .i64 (rA op),.int .i64 (rB op),.int .i64 (rC op),.bool (rD op)],sN [.int .i64 a,.int .i64 b,.int .i64 c]] gt4):=by kernel_rfl
abbrev ln_z_b1 (op:Int) (a:Int) (b:Int) (c:Int) (n:Int):List (Option LB):=[sN [.int .i64 op,.int .i64 a,.int .i64 b,.int .i64 c,.int .u64 n],sN [.str (nameW op),.int .i64 (rA op),.int .i64 (rB op),.int .i64 (rC op),.bool (rD op)],sN [.int .i64 a,.int .i64 b,.int .i64 c]]
theorem ln_z (op a b c n:Int) (t:List UInt8) (K:Pk):(xsp prog cxL 40 119 ((sp prog 17).drop 6) (mkTm 119 (lnT t 3)) (mkS (lnH op a b c n) gt4) (vK lnL K))=(
 bif rD op then(
 ck (xle (xadd (xsln t) 1) 1000000000) <|
 ck (xcm .leq 0 n) <|
 ck (xcm .leq n 18446744073709551615) <|
 ck (xle (xadd (xsln (xscat t [32])) (xsln (decW n))) 1000000000) <|
 K .ret [.ptr 0 0,.str (xscat (xscat t [32]) (decW n)),.ptr 1 0,.str (xscat (xscat t [32]) (decW n)),.ptr 2 0,.int .i64 3] (ln_z_b1 op a b c n) gt4)
 else(
 K .ret [.ptr 0 0,.str t,.ptr 1 0,.str t,.ptr 2 0,.int .i64 3] (ln_z_b1 op a b c n) gt4)):=by kernel_rfl
end
end Go.Lev
