/- chapter 4: the loop of the law -/
import Derived.Test.YtbggbmcijhnijaaCW3
import Derived.Test.YtbggbmcijhnijaaLc
import Derived.Test.YtbggbmcijhnijaaChecked
import Derived.KernelRfl

namespace Go.Lev
open Go.RowKit
set_option linter.unusedVariables false
set_option linter.unusedSimpArgs false
set_option maxRecDepth 100000
noncomputable section
/-- An ask: There, Old, Now, More. -/
abbrev Ask4 := Bool × Int × Int × Int
abbrev askL : Ask4 → List LV := fun x => [.bool x.1, .int .u64 x.2.1, .int .u64 x.2.2.1, .int .u8 x.2.2.2]
theorem askL_len (x : Ask4) : (askL x).length = 4 := rfl
theorem ask_0 {xs : List Ask4} {i : Nat} (h : i < xs.length) : nthD (encL askL xs) (i * 4) = .bool xs[i].1 := encL_nth askL_len (j := 0) h (by omega)
theorem ask_1 {xs : List Ask4} {i : Nat} (h : i < xs.length) : nthD (encL askL xs) (i * 4 + 1) = .int .u64 xs[i].2.1 := encL_nth askL_len (j := 1) h (by omega)
theorem ask_2 {xs : List Ask4} {i : Nat} (h : i < xs.length) : nthD (encL askL xs) (i * 4 + 1 + 1) = .int .u64 xs[i].2.2.1 := encL_nth askL_len (j := 2) h (by omega)
theorem ask_3 {xs : List Ask4} {i : Nat} (h : i < xs.length) : nthD (encL askL xs) (i * 4 + 1 + 1 + 1) = .int .u8 xs[i].2.2.2 := encL_nth askL_len (j := 3) h (by omega)
theorem ask_n (xs : List Ask4) : (encL askL xs).length = xs.length * 4 := encL_length askL_len xs
theorem noids_a (xs : List Ask4) : noIds (encL askL xs) = true := noIds_encL (fun _ => rfl) xs
def cxd : Cx := cxl [(9, casG), (16, rdoG)]
abbrev dH (sa sb sc sd se N C : Int) (nw nl ns : Nat) (ws ls ss ax : List LV) : List LB := [.cells [.int .u64 N] none, .cells [.int .i64 sa, .int .i64 sb, .int .i64 sc, .int .i64 sd, .int .u64 se, .slo 2 0 nw 0, .slo 3 0 nl 0, .int .u64 N, .slo 4 0 ns 0, .int .i64 C] none, .cells ws (some 1), .cells ls (some 3), .cells ss (some 1), .ro ax]
abbrev doL : List Nat := [0, 1, 2, 6, 7]
abbrev doT (n i : Nat) : List (Nat × LV) := [(0, .ptr 0 0), (1, .ptr 1 0), (2, .slo 5 0 n 0), (7, .int .i64 i)]
theorem cxd_ok : CtrOk Go.Proofs.Try.prog (ctrOf cxd) := cxl_ok ⟨casG_ok, rdoG_ok, trivial⟩
theorem do_a (n : Nat) (sa sb sc sd se N C : Int) (nw nl ns : Nat) (ws ls ss ax : List LV) (K : Pk) : (xsp Go.Proofs.Try.prog cxd 40 75 (seg (sp Go.Proofs.Try.prog 13) 0 2) (tm0 [.ptr 0 0, .ptr 1 0, .slo 5 0 n 0]) (mkS (dH sa sb sc sd se N C nw nl ns ws ls ss ax)) (vK doL K)) = (
  K .normal [.ptr 0 0, .ptr 1 0, .slo 5 0 n 0, .bool false, .int .i64 0] [some (.cells [.int .u64 N] none), some (.cells [.int .i64 sa, .int .i64 sb, .int .i64 sc, .int .i64 sd, .int .u64 se, .slo 2 0 nw 0, .slo 3 0 nl 0, .int .u64 N, .slo 4 0 ns 0, .int .i64 C] none), some (.cells ws (some 1)), some (.cells ls (some 3)), some (.cells ss (some 1)), some (.ro ax)] []) := by kernel_rfl
theorem do_b (n i : Nat) (sa sb sc sd se N C : Int) (nw nl ns : Nat) (ws ls ss ax : List LV) (K : Pk) : (xcode Go.Proofs.Try.prog cxd 40 75 (loopOf (nthC (sp Go.Proofs.Try.prog 13) 2)) (mkTm 75 (doT n i)) (mkS (dH sa sb sc sd se N C nw nl ns ws ls ss ax)) (vK doL K)) = (
  bif xcm .lss ↑i ↑n then (
   bif xcm .lss (↑i) 60 then (
    bif xle (xadd (xnat ↑i) 1) n then
    bif xle (xadd (xix 0 (xnat ↑i) 4) 4) (xln ax) then
    bif isB (nthD ax (xix 0 (xnat ↑i) 4)) then
    bif isI .u64 (nthD ax (xadd (xix 0 (xnat ↑i) 4) 1)) then
    bif isI .u64 (nthD ax (xadd (xadd (xix 0 (xnat ↑i) 4) 1) 1)) then
    bif isI .u8 (nthD ax (xadd (xadd (xadd (xix 0 (xnat ↑i) 4) 1) 1) 1)) then
    bif asB (nthD ax (xix 0 (xnat ↑i) 4)) then (
     bif okIu64 ws nw then
     bif okL ls nl then
     bif okIu64 ss ns then
     bif xle nw 1000000 then
     bif xle ns 1000000 then
     bif xnot (xbq (kD N N (xar .add .u64 N (xwr .u64 (xar .rem .u8 (asI (nthD ax (xadd (xadd (xadd (xix 0 (xnat ↑i) 4) 1) 1) 1))) 5)))) (kD N N (xar .add .u64 N (xwr .u64 (xar .rem .u8 (asI (nthD ax (xadd (xadd (xadd (xix 0 (xnat ↑i) 4) 1) 1) 1))) 5))))) then (
      K .ret [.ptr 0 0, .ptr 1 0, .slo 5 0 n 0, .bool false, .int .i64 ↑i] [some (.cells [.int .u64 (kN N N (xar .add .u64 N (xwr .u64 (xar .rem .u8 (asI (nthD ax (xadd (xadd (xadd (xix 0 (xnat ↑i) 4) 1) 1) 1))) 5))))] none), some (.cells [.int .i64 sa, .int .i64 sb, .int .i64 sc, .int .i64 sd, .int .u64 se, .slo 2 0 nw 0, .slo 3 0 nl 0, .int .u64 (kN N N (xar .add .u64 N (xwr .u64 (xar .rem .u8 (asI (nthD ax (xadd (xadd (xadd (xix 0 (xnat ↑i) 4) 1) 1) 1))) 5)))), .slo 4 0 ns 0, .int .i64 (kC N (xar .add .u64 N (xwr .u64 (xar .rem .u8 (asI (nthD ax (xadd (xadd (xadd (xix 0 (xnat ↑i) 4) 1) 1) 1))) 5))) C)] none), some (.cells ws (some 1)), some (.cells ls (some 3)), some (.cells ss (some 1)), some (.ro ax), some (.cells [.bool (asB (nthD ax (xix 0 (xnat ↑i) 4))), .int .u64 (asI (nthD ax (xadd (xix 0 (xnat ↑i) 4) 1))), .int .u64 (asI (nthD ax (xadd (xadd (xix 0 (xnat ↑i) 4) 1) 1))), .int .u8 (asI (nthD ax (xadd (xadd (xadd (xix 0 (xnat ↑i) 4) 1) 1) 1)))] none), some (.cells [.int .u64 0, .int .u64 0, .bool false, .int .i64 0, .bool (kD N N (xar .add .u64 N (xwr .u64 (xar .rem .u8 (asI (nthD ax (xadd (xadd (xadd (xix 0 (xnat ↑i) 4) 1) 1) 1))) 5)))), .int .i64 (kE N (xar .add .u64 N (xwr .u64 (xar .rem .u8 (asI (nthD ax (xadd (xadd (xadd (xix 0 (xnat ↑i) 4) 1) 1) 1))) 5))))] none)] [])
     else (
      bif xcm .neq (kE N (xar .add .u64 N (xwr .u64 (xar .rem .u8 (asI (nthD ax (xadd (xadd (xadd (xix 0 (xnat ↑i) 4) 1) 1) 1))) 5)))) (kE N (xar .add .u64 N (xwr .u64 (xar .rem .u8 (asI (nthD ax (xadd (xadd (xadd (xix 0 (xnat ↑i) 4) 1) 1) 1))) 5)))) then (
       K .ret [.ptr 0 0, .ptr 1 0, .slo 5 0 n 0, .bool false, .int .i64 ↑i] [some (.cells [.int .u64 (kN N N (xar .add .u64 N (xwr .u64 (xar .rem .u8 (asI (nthD ax (xadd (xadd (xadd (xix 0 (xnat ↑i) 4) 1) 1) 1))) 5))))] none), some (.cells [.int .i64 sa, .int .i64 sb, .int .i64 sc, .int .i64 sd, .int .u64 se, .slo 2 0 nw 0, .slo 3 0 nl 0, .int .u64 (kN N N (xar .add .u64 N (xwr .u64 (xar .rem .u8 (asI (nthD ax (xadd (xadd (xadd (xix 0 (xnat ↑i) 4) 1) 1) 1))) 5)))), .slo 4 0 ns 0, .int .i64 (kC N (xar .add .u64 N (xwr .u64 (xar .rem .u8 (asI (nthD ax (xadd (xadd (xadd (xix 0 (xnat ↑i) 4) 1) 1) 1))) 5))) C)] none), some (.cells ws (some 1)), some (.cells ls (some 3)), some (.cells ss (some 1)), some (.ro ax), some (.cells [.bool (asB (nthD ax (xix 0 (xnat ↑i) 4))), .int .u64 (asI (nthD ax (xadd (xix 0 (xnat ↑i) 4) 1))), .int .u64 (asI (nthD ax (xadd (xadd (xix 0 (xnat ↑i) 4) 1) 1))), .int .u8 (asI (nthD ax (xadd (xadd (xadd (xix 0 (xnat ↑i) 4) 1) 1) 1)))] none), some (.cells [.int .u64 0, .int .u64 0, .bool false, .int .i64 0, .bool (kD N N (xar .add .u64 N (xwr .u64 (xar .rem .u8 (asI (nthD ax (xadd (xadd (xadd (xix 0 (xnat ↑i) 4) 1) 1) 1))) 5)))), .int .i64 (kE N (xar .add .u64 N (xwr .u64 (xar .rem .u8 (asI (nthD ax (xadd (xadd (xadd (xix 0 (xnat ↑i) 4) 1) 1) 1))) 5))))] none)] [])
      else (
       bif xcm .eql (kN N N (xar .add .u64 N (xwr .u64 (xar .rem .u8 (asI (nthD ax (xadd (xadd (xadd (xix 0 (xnat ↑i) 4) 1) 1) 1))) 5)))) (kN N N (xar .add .u64 N (xwr .u64 (xar .rem .u8 (asI (nthD ax (xadd (xadd (xadd (xix 0 (xnat ↑i) 4) 1) 1) 1))) 5)))) then
       bif xcm .eql (kN N N (xar .add .u64 N (xwr .u64 (xar .rem .u8 (asI (nthD ax (xadd (xadd (xadd (xix 0 (xnat ↑i) 4) 1) 1) 1))) 5)))) (kN N N (xar .add .u64 N (xwr .u64 (xar .rem .u8 (asI (nthD ax (xadd (xadd (xadd (xix 0 (xnat ↑i) 4) 1) 1) 1))) 5)))) then
       bif xcm .neq (kN N N (xar .add .u64 N (xwr .u64 (xar .rem .u8 (asI (nthD ax (xadd (xadd (xadd (xix 0 (xnat ↑i) 4) 1) 1) 1))) 5)))) (kN N N (xar .add .u64 N (xwr .u64 (xar .rem .u8 (asI (nthD ax (xadd (xadd (xadd (xix 0 (xnat ↑i) 4) 1) 1) 1))) 5)))) then (
        K .ret [.ptr 0 0, .ptr 1 0, .slo 5 0 n 0, .bool false, .int .i64 ↑i] [some (.cells [.int .u64 (kN N N (xar .add .u64 N (xwr .u64 (xar .rem .u8 (asI (nthD ax (xadd (xadd (xadd (xix 0 (xnat ↑i) 4) 1) 1) 1))) 5))))] none), some (.cells [.int .i64 sa, .int .i64 sb, .int .i64 sc, .int .i64 sd, .int .u64 se, .slo 2 0 nw 0, .slo 3 0 nl 0, .int .u64 (kN N N (xar .add .u64 N (xwr .u64 (xar .rem .u8 (asI (nthD ax (xadd (xadd (xadd (xix 0 (xnat ↑i) 4) 1) 1) 1))) 5)))), .slo 4 0 ns 0, .int .i64 (kC N (xar .add .u64 N (xwr .u64 (xar .rem .u8 (asI (nthD ax (xadd (xadd (xadd (xix 0 (xnat ↑i) 4) 1) 1) 1))) 5))) C)] none), some (.cells ws (some 1)), some (.cells ls (some 3)), some (.cells ss (some 1)), some (.ro ax), some (.cells [.bool (asB (nthD ax (xix 0 (xnat ↑i) 4))), .int .u64 (asI (nthD ax (xadd (xix 0 (xnat ↑i) 4) 1))), .int .u64 (asI (nthD ax (xadd (xadd (xix 0 (xnat ↑i) 4) 1) 1))), .int .u8 (asI (nthD ax (xadd (xadd (xadd (xix 0 (xnat ↑i) 4) 1) 1) 1)))] none), some (.cells [.int .u64 0, .int .u64 0, .bool false, .int .i64 0, .bool (kD N N (xar .add .u64 N (xwr .u64 (xar .rem .u8 (asI (nthD ax (xadd (xadd (xadd (xix 0 (xnat ↑i) 4) 1) 1) 1))) 5)))), .int .i64 (kE N (xar .add .u64 N (xwr .u64 (xar .rem .u8 (asI (nthD ax (xadd (xadd (xadd (xix 0 (xnat ↑i) 4) 1) 1) 1))) 5))))] none)] [])
       else (
        K .normal [.ptr 0 0, .ptr 1 0, .slo 5 0 n 0, .any, .int .i64 (xar .add .i64 (↑i) 1)] [some (.cells [.int .u64 (kN N N (xar .add .u64 N (xwr .u64 (xar .rem .u8 (asI (nthD ax (xadd (xadd (xadd (xix 0 (xnat ↑i) 4) 1) 1) 1))) 5))))] none), some (.cells [.int .i64 sa, .int .i64 sb, .int .i64 sc, .int .i64 sd, .int .u64 se, .slo 2 0 nw 0, .slo 3 0 nl 0, .int .u64 (kN N N (xar .add .u64 N (xwr .u64 (xar .rem .u8 (asI (nthD ax (xadd (xadd (xadd (xix 0 (xnat ↑i) 4) 1) 1) 1))) 5)))), .slo 4 0 ns 0, .int .i64 (kC N (xar .add .u64 N (xwr .u64 (xar .rem .u8 (asI (nthD ax (xadd (xadd (xadd (xix 0 (xnat ↑i) 4) 1) 1) 1))) 5))) C)] none), some (.cells ws (some 1)), some (.cells ls (some 3)), some (.cells ss (some 1)), some (.ro ax), some (.cells [.bool (asB (nthD ax (xix 0 (xnat ↑i) 4))), .int .u64 (asI (nthD ax (xadd (xix 0 (xnat ↑i) 4) 1))), .int .u64 (asI (nthD ax (xadd (xadd (xix 0 (xnat ↑i) 4) 1) 1))), .int .u8 (asI (nthD ax (xadd (xadd (xadd (xix 0 (xnat ↑i) 4) 1) 1) 1)))] none), some (.cells [.int .u64 0, .int .u64 0, .bool false, .int .i64 0, .bool (kD N N (xar .add .u64 N (xwr .u64 (xar .rem .u8 (asI (nthD ax (xadd (xadd (xadd (xix 0 (xnat ↑i) 4) 1) 1) 1))) 5)))), .int .i64 (kE N (xar .add .u64 N (xwr .u64 (xar .rem .u8 (asI (nthD ax (xadd (xadd (xadd (xix 0 (xnat ↑i) 4) 1) 1) 1))) 5))))] none)] [])
       else False
       else False))
     else False
     else False
     else False
     else False
     else False)
    else (
     bif okIu64 ws nw then
     bif okL ls nl then
     bif okIu64 ss ns then
     bif xle nw 1000000 then
     bif xle ns 1000000 then
     bif xnot (xbq (kD N (asI (nthD ax (xadd (xix 0 (xnat ↑i) 4) 1))) (asI (nthD ax (xadd (xadd (xix 0 (xnat ↑i) 4) 1) 1)))) (kD N (asI (nthD ax (xadd (xix 0 (xnat ↑i) 4) 1))) (asI (nthD ax (xadd (xadd (xix 0 (xnat ↑i) 4) 1) 1))))) then (
      K .ret [.ptr 0 0, .ptr 1 0, .slo 5 0 n 0, .bool false, .int .i64 ↑i] [some (.cells [.int .u64 (kN N (asI (nthD ax (xadd (xix 0 (xnat ↑i) 4) 1))) (asI (nthD ax (xadd (xadd (xix 0 (xnat ↑i) 4) 1) 1))))] none), some (.cells [.int .i64 sa, .int .i64 sb, .int .i64 sc, .int .i64 sd, .int .u64 se, .slo 2 0 nw 0, .slo 3 0 nl 0, .int .u64 (kN N (asI (nthD ax (xadd (xix 0 (xnat ↑i) 4) 1))) (asI (nthD ax (xadd (xadd (xix 0 (xnat ↑i) 4) 1) 1)))), .slo 4 0 ns 0, .int .i64 (kC (asI (nthD ax (xadd (xix 0 (xnat ↑i) 4) 1))) (asI (nthD ax (xadd (xadd (xix 0 (xnat ↑i) 4) 1) 1))) C)] none), some (.cells ws (some 1)), some (.cells ls (some 3)), some (.cells ss (some 1)), some (.ro ax), some (.cells [.bool (asB (nthD ax (xix 0 (xnat ↑i) 4))), .int .u64 (asI (nthD ax (xadd (xix 0 (xnat ↑i) 4) 1))), .int .u64 (asI (nthD ax (xadd (xadd (xix 0 (xnat ↑i) 4) 1) 1))), .int .u8 (asI (nthD ax (xadd (xadd (xadd (xix 0 (xnat ↑i) 4) 1) 1) 1)))] none), some (.cells [.int .u64 0, .int .u64 0, .bool false, .int .i64 0, .bool (kD N (asI (nthD ax (xadd (xix 0 (xnat ↑i) 4) 1))) (asI (nthD ax (xadd (xadd (xix 0 (xnat ↑i) 4) 1) 1)))), .int .i64 (kE (asI (nthD ax (xadd (xix 0 (xnat ↑i) 4) 1))) (asI (nthD ax (xadd (xadd (xix 0 (xnat ↑i) 4) 1) 1))))] none)] [])
     else (
      bif xcm .neq (kE (asI (nthD ax (xadd (xix 0 (xnat ↑i) 4) 1))) (asI (nthD ax (xadd (xadd (xix 0 (xnat ↑i) 4) 1) 1)))) (kE (asI (nthD ax (xadd (xix 0 (xnat ↑i) 4) 1))) (asI (nthD ax (xadd (xadd (xix 0 (xnat ↑i) 4) 1) 1)))) then (
       K .ret [.ptr 0 0, .ptr 1 0, .slo 5 0 n 0, .bool false, .int .i64 ↑i] [some (.cells [.int .u64 (kN N (asI (nthD ax (xadd (xix 0 (xnat ↑i) 4) 1))) (asI (nthD ax (xadd (xadd (xix 0 (xnat ↑i) 4) 1) 1))))] none), some (.cells [.int .i64 sa, .int .i64 sb, .int .i64 sc, .int .i64 sd, .int .u64 se, .slo 2 0 nw 0, .slo 3 0 nl 0, .int .u64 (kN N (asI (nthD ax (xadd (xix 0 (xnat ↑i) 4) 1))) (asI (nthD ax (xadd (xadd (xix 0 (xnat ↑i) 4) 1) 1)))), .slo 4 0 ns 0, .int .i64 (kC (asI (nthD ax (xadd (xix 0 (xnat ↑i) 4) 1))) (asI (nthD ax (xadd (xadd (xix 0 (xnat ↑i) 4) 1) 1))) C)] none), some (.cells ws (some 1)), some (.cells ls (some 3)), some (.cells ss (some 1)), some (.ro ax), some (.cells [.bool (asB (nthD ax (xix 0 (xnat ↑i) 4))), .int .u64 (asI (nthD ax (xadd (xix 0 (xnat ↑i) 4) 1))), .int .u64 (asI (nthD ax (xadd (xadd (xix 0 (xnat ↑i) 4) 1) 1))), .int .u8 (asI (nthD ax (xadd (xadd (xadd (xix 0 (xnat ↑i) 4) 1) 1) 1)))] none), some (.cells [.int .u64 0, .int .u64 0, .bool false, .int .i64 0, .bool (kD N (asI (nthD ax (xadd (xix 0 (xnat ↑i) 4) 1))) (asI (nthD ax (xadd (xadd (xix 0 (xnat ↑i) 4) 1) 1)))), .int .i64 (kE (asI (nthD ax (xadd (xix 0 (xnat ↑i) 4) 1))) (asI (nthD ax (xadd (xadd (xix 0 (xnat ↑i) 4) 1) 1))))] none)] [])
      else (
       bif xcm .eql (kN N (asI (nthD ax (xadd (xix 0 (xnat ↑i) 4) 1))) (asI (nthD ax (xadd (xadd (xix 0 (xnat ↑i) 4) 1) 1)))) (kN N (asI (nthD ax (xadd (xix 0 (xnat ↑i) 4) 1))) (asI (nthD ax (xadd (xadd (xix 0 (xnat ↑i) 4) 1) 1)))) then
       bif xcm .eql (kN N (asI (nthD ax (xadd (xix 0 (xnat ↑i) 4) 1))) (asI (nthD ax (xadd (xadd (xix 0 (xnat ↑i) 4) 1) 1)))) (kN N (asI (nthD ax (xadd (xix 0 (xnat ↑i) 4) 1))) (asI (nthD ax (xadd (xadd (xix 0 (xnat ↑i) 4) 1) 1)))) then
       bif xcm .neq (kN N (asI (nthD ax (xadd (xix 0 (xnat ↑i) 4) 1))) (asI (nthD ax (xadd (xadd (xix 0 (xnat ↑i) 4) 1) 1)))) (kN N (asI (nthD ax (xadd (xix 0 (xnat ↑i) 4) 1))) (asI (nthD ax (xadd (xadd (xix 0 (xnat ↑i) 4) 1) 1)))) then (
        K .ret [.ptr 0 0, .ptr 1 0, .slo 5 0 n 0, .bool false, .int .i64 ↑i] [some (.cells [.int .u64 (kN N (asI (nthD ax (xadd (xix 0 (xnat ↑i) 4) 1))) (asI (nthD ax (xadd (xadd (xix 0 (xnat ↑i) 4) 1) 1))))] none), some (.cells [.int .i64 sa, .int .i64 sb, .int .i64 sc, .int .i64 sd, .int .u64 se, .slo 2 0 nw 0, .slo 3 0 nl 0, .int .u64 (kN N (asI (nthD ax (xadd (xix 0 (xnat ↑i) 4) 1))) (asI (nthD ax (xadd (xadd (xix 0 (xnat ↑i) 4) 1) 1)))), .slo 4 0 ns 0, .int .i64 (kC (asI (nthD ax (xadd (xix 0 (xnat ↑i) 4) 1))) (asI (nthD ax (xadd (xadd (xix 0 (xnat ↑i) 4) 1) 1))) C)] none), some (.cells ws (some 1)), some (.cells ls (some 3)), some (.cells ss (some 1)), some (.ro ax), some (.cells [.bool (asB (nthD ax (xix 0 (xnat ↑i) 4))), .int .u64 (asI (nthD ax (xadd (xix 0 (xnat ↑i) 4) 1))), .int .u64 (asI (nthD ax (xadd (xadd (xix 0 (xnat ↑i) 4) 1) 1))), .int .u8 (asI (nthD ax (xadd (xadd (xadd (xix 0 (xnat ↑i) 4) 1) 1) 1)))] none), some (.cells [.int .u64 0, .int .u64 0, .bool false, .int .i64 0, .bool (kD N (asI (nthD ax (xadd (xix 0 (xnat ↑i) 4) 1))) (asI (nthD ax (xadd (xadd (xix 0 (xnat ↑i) 4) 1) 1)))), .int .i64 (kE (asI (nthD ax (xadd (xix 0 (xnat ↑i) 4) 1))) (asI (nthD ax (xadd (xadd (xix 0 (xnat ↑i) 4) 1) 1))))] none)] [])
       else (
        K .normal [.ptr 0 0, .ptr 1 0, .slo 5 0 n 0, .any, .int .i64 (xar .add .i64 (↑i) 1)] [some (.cells [.int .u64 (kN N (asI (nthD ax (xadd (xix 0 (xnat ↑i) 4) 1))) (asI (nthD ax (xadd (xadd (xix 0 (xnat ↑i) 4) 1) 1))))] none), some (.cells [.int .i64 sa, .int .i64 sb, .int .i64 sc, .int .i64 sd, .int .u64 se, .slo 2 0 nw 0, .slo 3 0 nl 0, .int .u64 (kN N (asI (nthD ax (xadd (xix 0 (xnat ↑i) 4) 1))) (asI (nthD ax (xadd (xadd (xix 0 (xnat ↑i) 4) 1) 1)))), .slo 4 0 ns 0, .int .i64 (kC (asI (nthD ax (xadd (xix 0 (xnat ↑i) 4) 1))) (asI (nthD ax (xadd (xadd (xix 0 (xnat ↑i) 4) 1) 1))) C)] none), some (.cells ws (some 1)), some (.cells ls (some 3)), some (.cells ss (some 1)), some (.ro ax), some (.cells [.bool (asB (nthD ax (xix 0 (xnat ↑i) 4))), .int .u64 (asI (nthD ax (xadd (xix 0 (xnat ↑i) 4) 1))), .int .u64 (asI (nthD ax (xadd (xadd (xix 0 (xnat ↑i) 4) 1) 1))), .int .u8 (asI (nthD ax (xadd (xadd (xadd (xix 0 (xnat ↑i) 4) 1) 1) 1)))] none), some (.cells [.int .u64 0, .int .u64 0, .bool false, .int .i64 0, .bool (kD N (asI (nthD ax (xadd (xix 0 (xnat ↑i) 4) 1))) (asI (nthD ax (xadd (xadd (xix 0 (xnat ↑i) 4) 1) 1)))), .int .i64 (kE (asI (nthD ax (xadd (xix 0 (xnat ↑i) 4) 1))) (asI (nthD ax (xadd (xadd (xix 0 (xnat ↑i) 4) 1) 1))))] none)] [])
       else False
       else False))
     else False
     else False
     else False
     else False
     else False)
    else False
    else False
    else False
    else False
    else False
    else False)
   else (
    K (.exit 0) [.ptr 0 0, .ptr 1 0, .slo 5 0 n 0, .any, .int .i64 ↑i] [some (.cells [.int .u64 N] none), some (.cells [.int .i64 sa, .int .i64 sb, .int .i64 sc, .int .i64 sd, .int .u64 se, .slo 2 0 nw 0, .slo 3 0 nl 0, .int .u64 N, .slo 4 0 ns 0, .int .i64 C] none), some (.cells ws (some 1)), some (.cells ls (some 3)), some (.cells ss (some 1)), some (.ro ax)] []))
  else (
   K (.exit 0) [.ptr 0 0, .ptr 1 0, .slo 5 0 n 0, .any, .int .i64 ↑i] [some (.cells [.int .u64 N] none), some (.cells [.int .i64 sa, .int .i64 sb, .int .i64 sc, .int .i64 sd, .int .u64 se, .slo 2 0 nw 0, .slo 3 0 nl 0, .int .u64 N, .slo 4 0 ns 0, .int .i64 C] none), some (.cells ws (some 1)), some (.cells ls (some 3)), some (.cells ss (some 1)), some (.ro ax)] [])) := by kernel_rfl
theorem do_z (n i : Nat) (sa sb sc sd se N C : Int) (nw nl ns : Nat) (ws ls ss ax : List LV) (K : Pk) : (xsp Go.Proofs.Try.prog cxd 40 75 ((sp Go.Proofs.Try.prog 13).drop 3) (mkTm 75 (doT n i)) (mkS (dH sa sb sc sd se N C nw nl ns ws ls ss ax)) (vK doL K)) = (
  K .ret [.ptr 0 0, .ptr 1 0, .slo 5 0 n 0, .bool true, .int .i64 ↑i] [some (.cells [.int .u64 N] none), some (.cells [.int .i64 sa, .int .i64 sb, .int .i64 sc, .int .i64 sd, .int .u64 se, .slo 2 0 nw 0, .slo 3 0 nl 0, .int .u64 N, .slo 4 0 ns 0, .int .i64 C] none), some (.cells ws (some 1)), some (.cells ls (some 3)), some (.cells ss (some 1)), some (.ro ax)] []) := by kernel_rfl
end
end Go.Lev
